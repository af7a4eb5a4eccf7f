/-
  canonicalLine: one line of the canonical text.
-/
import Derived.Test.YthmhfilkgggagaaGreatDoorFront
import Derived.Deep.AppendLies
namespace Go.Proofs.YthmhfilkgggagaaGreatDoor
open Go.RowKit Go.Maps Go.Sort

/-- What the library's own variables hold. -/
structure Env (w : World) : Prop where
  len : ∃ m, w.cell? ⟨1, 0, none⟩ = some (.int .i64 m)
  pow : Lib.TabIs Tryz.prog w "internal/strconv.uint64pow10" .u64 Lib.pow10Tab
  size : 7 ≤ w.heap.size

theorem pow_global : ∃ g, Tryz.prog.globalNamed "internal/strconv.uint64pow10" = some g ∧ g < 7 := ⟨0, by kernel_rfl, by decide⟩

theorem Env.below {w w' : World} (h : Env w) {B : Nat} (hb : Below B w w') (hB : 7 ≤ B) : Env w' := by
  obtain ⟨g, hg, hg2⟩ := pow_global
  obtain ⟨m, hm⟩ := h.len
  exact ⟨⟨m, (hb.cell (p := ⟨1, 0, none⟩) (by show 1 < B; omega)).trans hm⟩, var?_below hb hg (by omega) h.pow, Nat.le_trans h.size hb.size⟩

theorem Env.drew {w : World} (h : Env w) : Env w.drew := h.below ((Below.refl 7 _).drew) (Nat.le_refl _)

theorem itoa_nat (n : Nat) : Lib.itoa (n : Int) = Lib.decDigits n := by
  unfold Lib.itoa; rw [if_neg (by omega)]; simp

theorem below_drewN (w : World) : ∀ n, Below w.heap.size w (w.drewN n)
  | 0 => Below.refl _ _
  | n + 1 => (below_drewN w n).drew

theorem below_grown (w : World) (n : Nat) (os : Array Obj) : Below w.heap.size w (grow (w.drewN n) os) := by
  have hd := below_drewN w n
  refine hd.trans ⟨rfl, rfl, rfl, by simp, ?_⟩
  intro k hk
  have e : (grow (w.drewN n) os).heap = (w.drewN n).heap ++ os := rfl
  rw [e, Array.getElem?_append_left (Nat.lt_of_lt_of_le hk hd.size)]

theorem itoa_any (n : Nat) (hn : n ≤ 1000000) (w : World) (hE : Env w) :
    Calls Tryz.prog 88 #[.int .i64 n] w fun e w' => e = .returned (.string ⟨(Lib.decDigits n).toArray⟩) ∧ Below w.heap.size w w' := by
  refine (Tryz.strconv_Itoa n (by omega) (by omega) w hE.pow).mono ?_
  rintro e w' ⟨rfl, k, os, rfl⟩
  exact ⟨by rw [itoa_nat], below_grown w k os⟩

def lineText (s : Sl.Subj) (m : Sl.Lim) : List UInt8 := Lib.join (frontW s ++ [Lib.decDigits m.rate, Lib.decDigits m.burst]) [32] ++ [10]

theorem info_str : (Tryz.prog.info? 9).map (fun i => (i.zero, i.size, i.bytes)) = some (some (.string ⟨#[]⟩), 1, 16) := by kernel_rfl

/-- The two parameters' boxes as they are, and all that lay below them. -/
structure Boxes (w : World) (s : Sl.Subj) (m : Sl.Lim) (W : World) : Prop where
  four : Four W w.heap.size (.int .i64 s.kind) (.int .i64 s.cls) (.string ⟨s.org.toArray⟩) (.string ⟨s.ten.toArray⟩)
  two : Two W (w.heap.size + 1) (.int .i64 m.rate) (.int .i64 m.burst)
  env : Env W
  below : Below w.heap.size w W
  size : w.heap.size + 2 ≤ W.heap.size

theorem Boxes.step {w : World} {s : Sl.Subj} {m : Sl.Lim} {W W' : World} (h : Boxes w s m W) (hb : Below W.heap.size W W') : Boxes w s m W' :=
  ⟨h.four.keep hb, h.two.keep hb h.two.2.2.2.2, h.env.below hb h.env.size, h.below.trans (hb.mono h.below.size), Nat.le_trans h.size hb.size⟩

theorem Boxes.made {w : World} (hE : Env w) (s : Sl.Subj) (m : Sl.Lim) : Boxes w s m ((w.alloc (.cells #[.int .i64 s.kind, .int .i64 s.cls, .string ⟨s.org.toArray⟩, .string ⟨s.ten.toArray⟩] 151)).alloc (.cells #[.int .i64 m.rate, .int .i64 m.burst] 27)).drew := by
  refine ⟨Four.drew (Four.keep' (Four.made w _ _ _ _ _) (Below.alloc1 _ _) (by simp)), ?_, ?_, (((Below.refl _ _).alloc (Nat.le_refl _) _).alloc (by simp) _).drew, by simp⟩
  · have := Two.made (w.alloc (.cells #[.int .i64 s.kind, .int .i64 s.cls, .string ⟨s.org.toArray⟩, .string ⟨s.ten.toArray⟩] 151)) (.int .i64 m.rate) (.int .i64 m.burst) 27
    have e : (w.alloc (.cells #[.int .i64 s.kind, .int .i64 s.cls, .string ⟨s.org.toArray⟩, .string ⟨s.ten.toArray⟩] 151)).heap.size = w.heap.size + 1 := by simp
    rw [e] at this
    exact this
  · exact hE.below (((Below.refl _ _).alloc (Nat.le_refl _) _).alloc (by simp) _).drew hE.size

theorem Boxes.cells {w : World} {s : Sl.Subj} {m : Sl.Lim} {W : World} (h : Boxes w s m W) : W.cell? ⟨w.heap.size, 0, none⟩ = some (.int .i64 s.kind) ∧ W.cell? ⟨w.heap.size, 1, none⟩ = some (.int .i64 s.cls) ∧ W.cell? ⟨w.heap.size, 2, none⟩ = some (.string ⟨s.org.toArray⟩) ∧ W.cell? ⟨w.heap.size, 3, none⟩ = some (.string ⟨s.ten.toArray⟩) ∧
      W.cell? ⟨w.heap.size + 1, 0, none⟩ = some (.int .i64 m.rate) ∧ W.cell? ⟨w.heap.size + 1, 1, none⟩ = some (.int .i64 m.burst) :=
  ⟨h.four.1, h.four.2.1, h.four.2.2.1, h.four.2.2.2.1, h.two.1, h.two.2.1⟩

theorem Boxes.kept {w : World} {s : Sl.Subj} {m : Sl.Lim} {w3 w4 : World} {o : Obj} {base e size n : Nat} {v : Value} {xs : List Value} (h : Boxes w s m w3) (ho : w3.ownsRow base e size v n xs) (hg : (w3.alloc o).grownBy w4 v.ownBlock) (hB : w.heap.size + 2 ≤ base) :
    ∀ b o, b < w.heap.size + 2 → w4.cell? ⟨b, o, none⟩ = w3.cell? ⟨b, o, none⟩ := by
  intro b o' hb
  have hlt : b < w3.heap.size := Nat.lt_of_lt_of_le hb h.size
  have h1 : w4.heap[b]? = (w3.alloc o).heap[b]? := hg.block b (by simp; omega) (fun e => by have := own_base ho b e.symm; omega)
  have h2 : (w3.alloc o).heap[b]? = w3.heap[b]? := (MapKept.heap_alloc w3 o).2 b hlt
  exact World.cell?_of_block (a := ⟨b, o', none⟩) (h1.trans h2)

theorem cat_eq (a b : List UInt8) : (⟨a.toArray⟩ : ByteArray) ++ ⟨b.toArray⟩ = ⟨(a ++ b).toArray⟩ := by
  apply WideShapes.bytes_inj
  simp

theorem join_own (W : World) (base gg cap n : Nat) (l : List (List UInt8)) (hown : W.ownsRow base 9 1 (.slice (some ⟨gg, 0, none⟩) n cap) n (strV l)) (hl : l.length = n) (h100 : n ≤ 100) (hlen : (Lib.join l [32]).length ≤ 100000) :
    Calls Tryz.prog 153 #[.slice (some ⟨gg, 0, none⟩) n cap, .string ⟨#[32]⟩] W fun e w' => e = .returned (.string ⟨(Lib.join l [32]).toArray⟩) ∧ Below W.heap.size W w' := by
  subst hl
  rcases hown.2 with ⟨h, _⟩ | ⟨g', cap', cur, h, _, hg, hnc, hcm, hcs, _⟩
  · cases h
  · cases h
    have hid : ((fun x : ByteArray => x.data.toList) ∘ fun x : List UInt8 => (⟨x.toArray⟩ : ByteArray)) = id := by funext x; simp
    have hd : (l.map fun x => (⟨x.toArray⟩ : ByteArray)).map (·.data.toList) = l := by rw [List.map_map, hid, List.map_id]
    have := Tryz.strings_Join gg 0 cap (l.map fun x => ⟨x.toArray⟩) ⟨#[32]⟩ W ?_ (Array.getElem?_eq_some_iff.1 hg).1 ?_ ?_ ?_
    · rw [hd, List.length_map] at this
      exact this
    · intro j x hx
      have hc := hown.cells (g := gg) rfl j (.string x) (by simp [strV] at hx ⊢; obtain ⟨y, h1, h2⟩ := hx; exact ⟨y, h1, h2⟩)
      rw [addr_add] at hc; exact hc
    · simp; omega
    · simpa using hnc
    · rw [hd]; show (Lib.join l [32]).length ≤ _; omega

set_option maxRecDepth 100000 in
set_option maxHeartbeats 4000000 in
theorem canonicalLine_any (s : Sl.Subj) (m : Sl.Lim) (w : World) (hE : Env w) (hc : s.cls < 2) (hr : m.rate ≤ 1000000) (hu : m.burst ≤ 1000000) (hlen : (lineText s m).length ≤ 100000) :
    Calls Tryz.prog 105 #[subjV s, limV m] w fun e w' => e = .returned (.string ⟨(lineText s m).toArray⟩) ∧ Below w.heap.size w w' := by
  obtain ⟨i0, hi, hz0, hz1, hz2⟩ := info_parts info_str
  have hfl : (frontW s).length ≤ 4 := by unfold frontW; split <;> (try split) <;> (try split) <;> simp
  have HE := hide hE; clear hE
  have HL := hide hlen; clear hlen
  have hfront := hide (fun W => front_any s W hc)
  unfold subjV limV
  go_enter Tryz.func105, Tryz.ntmps105
  have H0 := hide (Boxes.made (unhide HE) s m)
  go_wp2_with fail
  go_region_held3 (fun w' => w'.cell? ⟨w.heap.size, 0, none⟩ = some (.int .i64 s.kind) ∧ w'.cell? ⟨w.heap.size, 1, none⟩ = some (.int .i64 s.cls) ∧ w'.cell? ⟨w.heap.size, 2, none⟩ = some (.string ⟨s.org.toArray⟩) ∧ w'.cell? ⟨w.heap.size, 3, none⟩ = some (.string ⟨s.ten.toArray⟩) ∧
      w'.cell? ⟨w.heap.size + 1, 0, none⟩ = some (.int .i64 m.rate) ∧ w'.cell? ⟨w.heap.size + 1, 1, none⟩ = some (.int .i64 m.burst)) (go_keep)
    (first
      | (refine step_append_lies _ (by rfl) _ _ _ (by rfl) _ 9 i0 (.string ⟨#[]⟩) 1 16 Tryz.underlying74 hi hz0 hz1 hz2 rfl (by omega) _ (frontW s).length (strV (frontW s)) (by rfl) ((unhide o3).alloc _) ⟨w3.heap.size, 0, none⟩ 2 2 [.string ⟨(Lib.decDigits m.rate).toArray⟩, .string ⟨(Lib.decDigits m.burst).toArray⟩] (by rfl) (by rfl) (cell_two_new _ _ _ _) (by intro u hu; simp at hu; rcases hu with rfl | rfl <;> rfl) (by omega) (by unfold maxLen; omega) (by omega) (by have := (unhide H3).size; simp; omega) (w3.heap.size + 1) (by simp) ?_; intro gg cap w4 hown4 hgrow4 hat4 hlt4; have o4 := hide hown4; have G4 := hide hgrow4; clear hown4 hgrow4; have hk4 : ∀ b o, b < w.heap.size + 2 → w4.cell? ⟨b, o, none⟩ = w3.cell? ⟨b, o, none⟩ := Boxes.kept (unhide H3) (unhide o3) (unhide G4) (by simp); have u0 := (hk4 _ 0 (by omega)).trans v0; have u1 := (hk4 _ 1 (by omega)).trans v1; have u2 := (hk4 _ 2 (by omega)).trans v2; have u3 := (hk4 _ 3 (by omega)).trans v3; have u4 := (hk4 (w.heap.size + 1) 0 (by omega)).trans v4; have u5 := (hk4 (w.heap.size + 1) 1 (by omega)).trans v5; clear hk4)
      | (go_at_call 152; refine (unhide hfront _).mono ?_; rintro e w1 ⟨g, rfl, hown1, hb1⟩; have H1 := hide ((unhide H0).step hb1); have o1 := hide hown1; clear hown1 hb1; obtain ⟨x0, x1, x2, x3, x4, x5⟩ := (unhide H1).cells)
      | (go_at_call_of 88 (Value.int IntKind.i64 (m.rate : Int)); refine (itoa_any _ hr _ ?_).mono ?_; (exact (unhide H1).env); rintro e w2 ⟨rfl, hb2⟩; have H2 := hide ((unhide H1).step hb2); have o2 := hide (own_below (unhide o1) hb2); clear hb2; obtain ⟨z0, z1, z2, z3, z4, z5⟩ := (unhide H2).cells)
      | (go_at_call_of 88 (Value.int IntKind.i64 (m.burst : Int)); refine (itoa_any _ hu _ ?_).mono ?_; (exact (unhide H2).env); rintro e w3 ⟨rfl, hb3⟩; have H3 := hide ((unhide H2).step hb3); have o3 := hide (own_below (unhide o2) hb3); clear hb3; obtain ⟨v0, v1, v2, v3, v4, v5⟩ := (unhide H3).cells))
  go_wp2_with fail
  obtain ⟨bs, hown5⟩ : ∃ bs, w4.ownsRow bs 9 1 (.slice (some ⟨gg, 0, none⟩) ((frontW s).length + 2) cap) ((frontW s).length + 2) (strV (frontW s ++ [Lib.decDigits m.rate, Lib.decDigits m.burst])) := by
    have e : strV (frontW s ++ [Lib.decDigits m.rate, Lib.decDigits m.burst]) = strV (frontW s) ++ [.string ⟨(Lib.decDigits m.rate).toArray⟩, .string ⟨(Lib.decDigits m.burst).toArray⟩] := by simp [strV]
    rw [e]; exact ⟨_, unhide o4⟩
  have hj := hide (join_own w4 bs _ _ _ _ hown5 (by simp) (by omega) (by have := unhide HL; simp [lineText] at this; omega))
  clear hown5
  refine (unhide hj).mono ?_
  rintro e w5 ⟨rfl, hb5⟩
  have hB5 : Below w.heap.size w w5 := by
    have h3 := (unhide H3).below
    have hg := unhide G4
    have hsz := (unhide H3).size
    exact (((h3.alloc (by omega) _).grown hg (by simp; omega) (fun k hk => by have := own_base (unhide o3) k hk; simp at this; omega))).trans (hb5.mono (by have := hg.size; simp at this; omega))
  have HB := hide hB5; clear hB5
  have hjl : (Lib.join (frontW s ++ [Lib.decDigits m.rate, Lib.decDigits m.burst]) [32]).length ≤ 100000 := by have := unhide HL; simp [lineText] at this; omega
  generalize hJ : Lib.join (frontW s ++ [Lib.decDigits m.rate, Lib.decDigits m.burst]) [32] = J at *
  have hJs : (⟨J.toArray⟩ : ByteArray).size ≤ 100000 := by show J.toArray.size ≤ _; simpa using hjl
  have hfin : lineText s m = J ++ [10] := by unfold lineText; rw [hJ]
  have HF := hide hfin; clear hfin hJ
  go_wp2
  go_ret
  rw [unhide HF]
  refine ⟨?_, unhide HB⟩
  show Ending.returned (.string ((⟨J.toArray⟩ : ByteArray) ++ ⟨#[10]⟩)) = _
  rw [cat_eq J [10]]

end Go.Proofs.YthmhfilkgggagaaGreatDoor
