/-
  The row of Told, out of the contract of the call.
-/
import Derived.Test.YthmhfilkgggagaaGreatDoorWrap
namespace Go.Proofs.YthmhfilkgggagaaGreatDoor
open Go.RowKit Go.ChangeShapes Go.WideShapes Go.ChangeAt Go.WideMaps Go.WideElems
open Go.ChangeMaps (open_string shut_string)

/-- What the call of Told does: it returns true and writes into nothing that was there. -/
def ToldCalls : Prop := ∀ (cp : Option Addr) (cn cc : Nat) (ci oi ti : Int) (w : World), (∃ m, w.cell? ⟨1, 0, none⟩ = some (.int .i64 m)) → Lib.TabIs Tryz.prog w "internal/strconv.uint64pow10" .u64 Lib.pow10Tab → 7 ≤ w.heap.size →
    (-9223372036854775808 ≤ ci ∧ ci ≤ 9223372036854775807) → (-9223372036854775808 ≤ oi ∧ oi ≤ 9223372036854775807) → (-9223372036854775808 ≤ ti ∧ ti ≤ 9223372036854775807) →
    cn ≤ 281474976710656 → (0 < cn → ∃ a, cp = some a ∧ a.block < w.heap.size ∧ ∀ i, i < cn → ∃ x : Int, w.cell? (a.add i) = some (.int .i64 x) ∧ -9223372036854775808 ≤ x ∧ x ≤ 9223372036854775807) →
    Calls Tryz.prog 7 #[.slice cp cn cc, .int .i64 ci, .int .i64 oi, .int .i64 ti] w fun e w' => e = .returned (.bool true) ∧ Below w.heap.size w w'

theorem rowCells : Tryz.prog.cellsOf 3 = 1 := by kernel_rfl
theorem rowBytes : Tryz.prog.bytesOf 3 = 8 := by kernel_rfl
theorem rowLaidOut : laidOutB Tryz.prog = true := by kernel_rfl

theorem rowBounds {x : Int} (h : (Lit.int .i64 x).wf = true) : -9223372036854775808 ≤ x ∧ x ≤ 9223372036854775807 := by
  simpa [Lit.wf, IntKind.min, IntKind.max, IntKind.signed, IntKind.bits] using h

theorem rowCellLt {w : World} {a : Addr} {v : Value} (h : w.cell? a = some v) : a.block < w.heap.size := by
  apply Classical.byContradiction
  intro hn
  simp [World.cell?, Array.getElem?_eq_none (show w.heap.size ≤ a.block by omega)] at h

set_option maxRecDepth 100000 in
theorem told_lifted (hT : ToldCalls) (os : Os) (started : os.Started) (H : Type) (enc : TypeId × Value → H) (F : Stop.Interp) :
    ReturnsInLeavingWide { calm := true } Tryz.checked os 7 .any (fun w args => (Rows.toldSpec.pre enc Tryz.prog Tryz.f7 [] false w args ∧ laidMetH Tryz.prog laids w) ∧ sizedMet enc Tryz.prog Tryz.f7 (OpenSpec.ofChange Rows.toldSpec) false w args)
      ((OpenSpec.ofChange Rows.toldSpec).postWith enc Tryz.prog Tryz.f7 F (outsideKept [.timePasses]) false true false) := by
  refine wrapped (C := Tryz.checked) (X := fun w _ => laidMetH Tryz.prog laids w) (fun _ _ _ hh h => h.of_heap hh) rowOwn started (by kernel_rfl) Tryz.func7
    (witness_calm (enc := enc) (C := Tryz.checked) (os := os) (X := fun w _ => laidMetH Tryz.prog laids w) (World.laidAll Tryz.prog os laids) #[.slice none 0 0, .int .i64 0, .int .i64 0, .int .i64 0] 8 (World.laidAll_os _ _ _)
      (laids_shaped os _) (by kernel_rfl) (by kernel_rfl) (by kernel_rfl) (laids_met os _)) ?_
  intro W base args ds gs before hval0 hW hsz hL hsh
  have hval : ∀ (j : Nat) t v, Tryz.f7.params[j]? = some t → args[j]? = some v → Value.okWide Tryz.prog W .any base t v := hval0
  have hW' := hW
  obtain ⟨p, q, hA0, hV, rfl, hfz, hnd⟩ := hW
  have hA : DataW.TrodAll enc Tryz.prog W 0 (fun _ => true) true Tryz.f7.params.toList args.toList ds p := hA0
  rw [Tryz.params7] at hA hval hsz
  obtain ⟨v0, v1, v2, v3, d0, d1, d2, d3, p0, p1, p2, p3, rfl, rfl, rfl, h0, h1, h2, h3⟩ := trodAll_four hA
  obtain ⟨rfl, rfl⟩ := trodVars_none hV
  obtain ⟨E1, E2, E3⟩ := env_of_laid hL hsh
  obtain ⟨x1, rfl, rfl, rfl, wx1⟩ := open_int Tryz.underlying3 (hval 1 3 v1 rfl rfl) h1
  obtain ⟨x2, rfl, rfl, rfl, wx2⟩ := open_int Tryz.underlying3 (hval 2 3 v2 rfl rfl) h2
  obtain ⟨x3, rfl, rfl, rfl, wx3⟩ := open_int Tryz.underlying3 (hval 3 3 v3 rfl rfl) h3
  obtain ⟨cp, cn, cc, rfl⟩ := okWide_slice Tryz.underlying25 (hval 0 25 v0 rfl rfl)
  have hlt := hW'.lt
  have hcode : cn ≤ 281474976710656 ∧ (0 < cn → ∃ a, cp = some a ∧ a.block < W.heap.size ∧ ∀ i, i < cn → ∃ x : Int, W.cell? (a.add i) = some (.int .i64 x) ∧ -9223372036854775808 ≤ x ∧ x ≤ 9223372036854775807) := by
    obtain ⟨fuel, hf⟩ := h0
    rcases open_ints Tryz.underlying25 Tryz.underlying3 rowCells hf with ⟨hcs, _⟩ | ⟨a, len', cap', zs, hcs, _, hl, _, hz, hx, hcell, hwz⟩
    · simp [Value.cells] at hcs
      obtain ⟨rfl, rfl, rfl⟩ := hcs
      exact ⟨by omega, fun h => absurd h (by omega)⟩
    · simp [Value.cells] at hcs
      obtain ⟨rfl, rfl, rfl⟩ := hcs
      simp only [if_true] at hz
      simp only [Prod.mk.injEq] at hx
      obtain ⟨rfl, _⟩ := hx
      have hb : _ * Tryz.prog.bytesOf 3 ≤ reachBytes := sized_slice hsz (j := 0) rfl rfl Tryz.underlying25
      rw [rowBytes] at hb
      simp [lits, reachBytes] at hb
      refine ⟨by omega, fun h => ⟨a, rfl, ?_, fun i hi => ⟨_, hcell i (by omega), rowBounds (hwz _ ?_)⟩⟩⟩
      · have hc0 := hcell 0 (by omega)
        have : (a.add 0).block < W.heap.size := rowCellLt hc0
        have e0 : (a.add 0).block = a.block := by simp [Addr.add]
        rwa [e0] at this
      · have : zs.getD i 0 = zs[i]'(by omega) := by simp [List.getD, show i < zs.length by omega]
        rw [this]
        exact List.getElem_mem _
  refine (hT cp cn cc x1 x2 x3 W E1 E2 E3 (rowBounds wx1) (rowBounds wx2) (rowBounds wx3) hcode.1 hcode.2).mono fun e W' ⟨he, hb⟩ => ?_
  subst he
  have a0 := Below.trod rowLaidOut (by kernel_rfl) (of_decide_eq_true (by kernel_rfl)) h0 hb (fun x hx => hlt x (by simp [hx]))
  exact ⟨_, rfl, hb.os, _, _, _, [], p0 ++ ([] ++ ([] ++ [])), [], hW', trodAll_mk1 (shut_bool Tryz.underlying4 _), trodAll_mk4 a0 (shut_int Tryz.underlying3 wx1) (shut_int Tryz.underlying3 wx2) (shut_int Tryz.underlying3 wx3), rfl, hb.frame _, fun h => by cases h⟩

theorem told_holds (hT : ToldCalls) : Rows.ToldSaid :=
  OpenClaim.holds_of_wide_leaving_time 7 Tryz.f7 rfl rfl rfl rfl rfl rfl rfl ⟨rfl, rfl, rfl, rfl, rfl⟩ rfl rfl rfl rfl rfl (by kernel_rfl) Tryz.func7 (by kernel_rfl)
    (of_decide_eq_true (by kernel_rfl)) (by unfold Func.isWrapper; first | (rw [if_pos (by decide +kernel)]; kernel_rfl) | (rw [if_neg (by decide +kernel)]; exact ⟨rfl, rfl⟩))
    (fun os started H enc _ F => told_lifted hT os started H enc F)

end Go.Proofs.YthmhfilkgggagaaGreatDoor
