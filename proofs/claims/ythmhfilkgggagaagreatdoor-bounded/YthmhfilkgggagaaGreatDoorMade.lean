/-
  made: a sluice of a plan.
-/
import Derived.Test.YthmhfilkgggagaaGreatDoorParse4
namespace Go.Proofs.YthmhfilkgggagaaGreatDoor
open Go.RowKit Go.Maps Go.Sort

theorem Below.range {B : Nat} {w w' : World} (hb : Below B w w') {b : Nat} (h : b < B) {cs : List Value} (hr : w.rangeAt b 0 cs) : w'.rangeAt b 0 cs := fun j v hv =>
  (hb.cell (p := ⟨b, 0 + j, none⟩) h).trans (hr j v hv)

theorem grown_range {w w' : World} {row : Option Nat} (hg : w.grownBy w' row) {b : Nat} (h : b < w.heap.size) (hne : some b ≠ row) {cs : List Value} (hr : w.rangeAt b 0 cs) : w'.rangeAt b 0 cs := fun j v hv =>
  (World.cell?_of_block (a := ⟨b, 0 + j, none⟩) (hg.block b h hne)).trans (hr j v hv)

theorem load_range (pb : Nat) (cs : List Value) (hlen : cs.length = 32) (w' : World) (h : w'.rangeAt pb 0 cs) : (Instr.loadAt 32 (.pointer (some ⟨pb, 0, none⟩))).run Tryz.prog w' = .ok (.agg cs.toArray) w' :=
  run_loadAt_mid (P := Tryz.prog) w' pb 0 32 cs _ h Tryz.underlying32 rfl (by rw [hlen]; exact plan_size)

set_option maxRecDepth 100000 in
set_option maxHeartbeats 4000000 in
theorem made_any (p : Nat → Sl.Lim) (w : World) (hp : OkP 2 p) (hE : Env w) :
    Calls Tryz.prog 15 #[.agg (pc p)] w fun e w' => Below w.heap.size w w' ∧ ∃ sb tb mb n lb, e = .returned (.pointer (some ⟨sb, 0, none⟩)) ∧ IsSl w' sb tb mb n (entries p) lb 0 [] ∧ w.heap.size ≤ sb ∧ w.heap.size ≤ tb ∧ w.heap.size ≤ mb ∧ w.heap.size ≤ lb := by
  have hE0 : Env (w.alloc (.cells (pc p) 32)) := hE.below (Below.alloc1 w _) hE.size
  have hbad := new_any [100, 101, 102, 97, 117, 108, 116, 32, 111, 114, 103, 32, 105, 110, 103, 101, 115, 116, 32, 49, 32, 49, 10, 111, 114, 103, 10] (w.alloc (.cells (pc p) 32)) hE0
  rw [read_bad] at hbad
  simp only [] at hbad
  have hr0 : (w.alloc (.cells (pc p) 32)).rangeAt w.heap.size 0 (pc p).toList := range_row (MapKept.heap_alloc w _).1
  have hcan := hide (fun W => canonical_any p W hp.small)
  have htx := (holds_self p).text hp
  have hnew := fun W h => new_any (upD p 2) W h
  rw [read_canon hp] at hnew
  simp only [] at hnew
  have hlim := fun sb tb mb n lb W h h2 => limits_any (entries p) sb tb mb n lb 0 [] W h h2
  rw [htx] at hlim
  have HN := hide hnew; have HLM := hide hlim; have HB := hide hbad
  have hz := hE.size
  clear hbad hnew hlim htx
  have hlen : (pc p).toList.length = 32 := rfl
  obtain ⟨cs, hcs⟩ : ∃ cs : List Value, pc p = cs.toArray := ⟨(pc p).toList, rfl⟩
  have hcl : (pc p).toList = cs := by rw [hcs]
  rw [hcs] at hr0 hE0 hcan HB ⊢
  rw [hcl] at hlen
  simp only [] at hr0
  have hbox : Below w.heap.size w (w.alloc (.cells cs.toArray 32)) := Below.alloc1 w _
  have HR0 := hide hr0; have HE0 := hide hE0; have HBX := hide hbox; have HPP := hide hp
  obtain ⟨T, hT⟩ : ∃ T : ByteArray, T = ⟨(upD p 2).toArray⟩ := ⟨_, rfl⟩
  rw [← hT] at hcan HN HLM
  have HCS := hide hcs
  clear hcs hcl hr0 hE0 hbox hE hp hT
  go_enter Tryz.func15, Tryz.ntmps15
  go_wp2_with fail
  refine (unhide HB).mono ?_
  rintro e w1 ⟨hb1, rfl, -⟩
  have hr1 := hide (Below.range hb1 (by simp) (unhide HR0))
  have hE1 := hide ((unhide HE0).below hb1 (by simp; omega))
  have hB1 := hide ((unhide HBX).trans (hb1.mono (by simp)))
  have hz1 : w.heap.size + 1 ≤ w1.heap.size := by have := hb1.size; simpa using this
  clear hb1 HB HR0 HE0 HBX
  go_wp2_with (first
    | (refine wpList_load_mid rfl 32 (.tmp 1) rfl w.heap.size 0 rfl cs _ (unhide hr1) Tryz.underlying32 rfl ?_ ?_; (rw [hlen]; exact plan_size)))
  refine (unhide hcan _).mono ?_
  rintro e w2 ⟨rfl, hb2⟩
  have hr2 := hide (Below.range hb2 (by omega) (unhide hr1))
  have hE2 := hide ((unhide hE1).below hb2 (by omega))
  have hB2 := hide ((unhide hB1).trans (hb2.mono (by omega)))
  have hz2 : w.heap.size + 1 ≤ w2.heap.size := Nat.le_trans hz1 hb2.size
  clear hb2 hr1 hE1 hB1
  go_wp2_with fail
  refine (unhide HN w2 (unhide hE2)).mono ?_
  rintro e w3 ⟨hb3, sb, tb, mb, n, lb, rfl, hsl, hs1, hs2, hs3, hs4⟩
  have hr3 := hide (Below.range hb3 (by omega) (unhide hr2))
  have hE3 := hide ((unhide hE2).below hb3 (by omega))
  have hB3 := hide ((unhide hB2).trans (hb3.mono (by omega)))
  have hz3 : w.heap.size + 1 ≤ w3.heap.size := Nat.le_trans hz2 hb3.size
  have HSL := hide hsl
  clear hb3 hr2 hE2 hB2 hsl
  go_wp2_with fail
  have hrr : w3.rangeAt w.heap.size 0 cs := unhide hr3
  have hr3d : Hid (w3.drew.rangeAt w.heap.size 0 cs) := hide ((World.rangeAt_drew _ _ _ _).2 (unhide hr3))
  have hlm := hide (unhide HLM sb tb mb n lb w3.drew ((unhide HSL).blocks (grown_drew none) (by simp) (by simp) (by simp) (by simp)) ((unhide hE3).below (Below.refl _ _).drew (unhide hE3).size))
  have hz4 : w.heap.size < w3.drew.heap.size := by show _ < w3.heap.size; omega
  have hne4 : some w.heap.size ≠ some tb := by simp; omega
  refine wp_region_held_drew (S := fun w' => w'.rangeAt w.heap.size 0 cs) (by kernel_rfl) (unhide hr3d) (fun hHeld => ?_)
  refine wpAnyH_take (i := 0) rfl (by kernel_rfl) (by kernel_rfl) (by kernel_rfl) (fun _ _ _ h => h) (Or.inl ⟨by rfl, fun w hSw => by rfl⟩) hHeld ?_
  simp only [Act.put, List.setIfInBounds_toArray]
  refine wpAnyH_take (i := 2) rfl (by kernel_rfl) (by kernel_rfl) (by kernel_rfl) (fun _ _ _ h => h) (yieldsIf_load_mid (by rfl) _ _ rfl _ _ rfl cs _ (fun w h => h) Tryz.underlying32 rfl (by rw [hlen]; exact plan_size)) hHeld ?_
  simp only [Act.put]
  refine wpAnyH_ready (rs := [1]) (by kernel_rfl) (by simp) (AllReadyH.cons rfl (fun K hK => ?_) AllReadyH.nil)
  go_simp
  refine (unhide hlm).mono ?_
  rintro e w4 ⟨rfl, hsl4, hg4⟩
  have HS4 := hide hsl4; have HG4 := hide hg4
  have hr4 : w4.rangeAt w.heap.size 0 cs := grown_range hg4 hz4 hne4 (unhide hr3d)
  clear hsl4 hg4 hHeld
  refine hK.out _ _ hr4 (fun hHeld => ?_)
  clear hK K
  refine wpAnyH_ready (rs := [3]) (by kernel_rfl) (by simp) (AllReadyH.cons rfl (fun K hK => ?_) AllReadyH.nil)
  go_simp
  refine (unhide hcan _).mono ?_
  rintro e w5 ⟨rfl, hb5⟩
  have HB5 := hide hb5
  have hr5 : w5.rangeAt w.heap.size 0 cs := Below.range hb5 (Nat.lt_of_lt_of_le hz4 (unhide HG4).size) hr4
  clear hb5 hHeld
  refine hK.out _ _ hr5 (fun hHeld => ?_)
  clear hK K
  refine wpAnyH_take (i := 4) (v := .bool false) rfl (by kernel_rfl) (by kernel_rfl) (by kernel_rfl) (fun _ _ _ h => h) (Or.inl ⟨by rfl, fun w hSw => ?_⟩) hHeld ?_
  · go_simp
  simp only [Act.put]
  refine wpAnyH_done (by kernel_rfl) ?_ _
  clear hHeld
  go_wp2
  go_ret
  have hg := unhide HG4
  have hb5 := unhide HB5
  refine ⟨?_, sb, tb, mb, n, lb, rfl, (unhide HS4).below hb5, by omega, by omega, by omega, by omega⟩
  have h34 : Below w.heap.size w w4 := Below.grown (unhide hB3).drew hg (by show _ ≤ w3.heap.size; omega) (fun j hj => by cases hj; omega)
  exact h34.trans (hb5.mono h34.size)

end Go.Proofs.YthmhfilkgggagaaGreatDoor
