/-
  The row of Bounded, out of the contract of the call.
-/
import Derived.Test.YthmhfilkgggagaaGreatDoorToldRow
namespace Go.Proofs.YthmhfilkgggagaaGreatDoor
open Go.RowKit Go.ChangeShapes Go.WideShapes Go.ChangeAt Go.WideMaps Go.WideElems
open Go.ChangeMaps (open_string shut_string)

/-- What the call of Bounded does: it returns true and writes into nothing that was there. -/
def BoundedCalls : Prop := ∀ (cp0 : Option Addr) (cn0 cc0 : Nat) (w : World), (∃ m, w.cell? ⟨1, 0, none⟩ = some (.int .i64 m)) → Lib.TabIs Tryz.prog w "internal/strconv.uint64pow10" .u64 Lib.pow10Tab → 7 ≤ w.heap.size →
    cn0 ≤ 281474976710656 → (0 < cn0 → ∃ a, cp0 = some a ∧ a.block < w.heap.size ∧ ∀ i, i < cn0 → ∃ x : Int, w.cell? (a.add i) = some (.int .i64 x) ∧ -9223372036854775808 ≤ x ∧ x ≤ 9223372036854775807) →
    Calls Tryz.prog 8 #[.slice cp0 cn0 cc0] w fun e w' => e = .returned (.bool true) ∧ Below w.heap.size w w'

set_option maxRecDepth 100000 in
theorem bounded_lifted (hT : BoundedCalls) (os : Os) (started : os.Started) (H : Type) (enc : TypeId × Value → H) (F : Stop.Interp) :
    ReturnsInLeavingWide { calm := true } Tryz.checked os 8 .any (fun w args => (Rows.boundedSpec.pre enc Tryz.prog Tryz.f8 [] false w args ∧ laidMetH Tryz.prog laids w) ∧ sizedMet enc Tryz.prog Tryz.f8 (OpenSpec.ofChange Rows.boundedSpec) false w args)
      ((OpenSpec.ofChange Rows.boundedSpec).postWith enc Tryz.prog Tryz.f8 F (outsideKept [.timePasses]) false true false) := by
  refine wrapped (C := Tryz.checked) (X := fun w _ => laidMetH Tryz.prog laids w) (fun _ _ _ hh h => h.of_heap hh) rowOwn started (by kernel_rfl) Tryz.func8
    (witness_calm (enc := enc) (C := Tryz.checked) (os := os) (X := fun w _ => laidMetH Tryz.prog laids w) (World.laidAll Tryz.prog os laids) #[.slice none 0 0] 8 (World.laidAll_os _ _ _)
      (laids_shaped os _) (by kernel_rfl) (by kernel_rfl) (by kernel_rfl) (laids_met os _)) ?_
  intro W base args ds gs before hval0 hW hsz hL hsh
  have hval : ∀ (j : Nat) t v, Tryz.f8.params[j]? = some t → args[j]? = some v → Value.okWide Tryz.prog W .any base t v := hval0
  have hW' := hW
  obtain ⟨p, q, hA0, hV, rfl, hfz, hnd⟩ := hW
  have hA : DataW.TrodAll enc Tryz.prog W 0 (fun _ => true) true Tryz.f8.params.toList args.toList ds p := hA0
  rw [Tryz.params8] at hA hval hsz
  obtain ⟨v0, d0, rfl, rfl, h0⟩ := trodAll_one hA
  obtain ⟨rfl, rfl⟩ := trodVars_none hV
  obtain ⟨E1, E2, E3⟩ := env_of_laid hL hsh
  obtain ⟨cp0, cn0, cc0, rfl⟩ := okWide_slice Tryz.underlying25 (hval 0 25 v0 rfl rfl)
  have hlt := hW'.lt
  have hcode0 : cn0 ≤ 281474976710656 ∧ (0 < cn0 → ∃ a, cp0 = some a ∧ a.block < W.heap.size ∧ ∀ i, i < cn0 → ∃ x : Int, W.cell? (a.add i) = some (.int .i64 x) ∧ -9223372036854775808 ≤ x ∧ x ≤ 9223372036854775807) := by
    obtain ⟨fuel, hf⟩ := h0
    rcases open_ints Tryz.underlying25 Tryz.underlying3 rowCells hf with ⟨hcs, _⟩ | ⟨a, len', cap', zs, hcs, _, hl, _, hz, hx, hcell, hwz⟩
    · simp [Value.cells] at hcs
      obtain ⟨rfl, rfl, rfl⟩ := hcs
      exact ⟨by omega, fun h => absurd h (by omega)⟩
    · simp [Value.cells] at hcs
      obtain ⟨rfl, rfl, rfl⟩ := hcs
      simp only [if_true] at hz
      simp only [Prod.mk.injEq] at hx
      obtain ⟨rfl, _⟩ := hx
      have hb : _ * Tryz.prog.bytesOf 3 ≤ reachBytes := sized_slice hsz (j := 0) rfl rfl Tryz.underlying25
      rw [rowBytes] at hb
      simp [lits, reachBytes] at hb
      refine ⟨by omega, fun h => ⟨a, rfl, ?_, fun i hi => ⟨_, hcell i (by omega), rowBounds (hwz _ ?_)⟩⟩⟩
      · have hc0 := hcell 0 (by omega)
        have : (a.add 0).block < W.heap.size := rowCellLt hc0
        have e0 : (a.add 0).block = a.block := by simp [Addr.add]
        rwa [e0] at this
      · have : zs.getD i 0 = zs[i]'(by omega) := by simp [List.getD, show i < zs.length by omega]
        rw [this]
        exact List.getElem_mem _
  refine (hT cp0 cn0 cc0 W E1 E2 E3 hcode0.1 hcode0.2).mono fun e W' ⟨he, hb⟩ => ?_
  subst he
  have a0 := Below.trod rowLaidOut (by kernel_rfl) (of_decide_eq_true (by kernel_rfl)) h0 hb (fun x hx => hlt x (by simp [hx]))
  exact ⟨_, rfl, hb.os, _, _, _, [], p, [], hW', trodAll_mk1 (shut_bool Tryz.underlying4 _), trodAll_mk1 a0, rfl, hb.frame _, fun h => by cases h⟩

theorem bounded_holds (hT : BoundedCalls) : Rows.BoundedSaid :=
  OpenClaim.holds_of_wide_leaving_time 8 Tryz.f8 rfl rfl rfl rfl rfl rfl rfl ⟨rfl, rfl, rfl, rfl, rfl⟩ rfl rfl rfl rfl rfl (by kernel_rfl) Tryz.func8 (by kernel_rfl)
    (of_decide_eq_true (by kernel_rfl)) (by unfold Func.isWrapper; first | (rw [if_pos (by decide +kernel)]; kernel_rfl) | (rw [if_neg (by decide +kernel)]; exact ⟨rfl, rfl⟩))
    (fun os started H enc _ F => bounded_lifted hT os started H enc F)

end Go.Proofs.YthmhfilkgggagaaGreatDoor
