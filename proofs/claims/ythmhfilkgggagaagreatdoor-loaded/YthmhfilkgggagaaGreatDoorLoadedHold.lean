/-
  The row of Loaded.
-/
import Derived.Test.YthmhfilkgggagaaGreatDoorLoadedRow
namespace Go.Proofs.YthmhfilkgggagaaGreatDoor
open Go.RowKit Go.ChangeShapes Go.WideShapes Go.ChangeAt Go.WideMaps Go.WideElems

theorem loaded_named : Tryz.prog.funcNamed Rows.loadedRow.func = some 3 := by kernel_rfl

theorem loaded_closed : joinedFacts Tryz.prog 3 Tryz.f3 Rows.loadedSpec Rows.loadedRow = true := by kernel_rfl

theorem loaded_wrap : Tryz.f3.isWrapper Tryz.prog Rows.loadedRow.wrapper Rows.loadedRow.mainSum := by
  unfold Func.isWrapper
  first | (rw [if_pos (by decide +kernel)]; kernel_rfl) | (rw [if_neg (by decide +kernel)]; exact ⟨rfl, rfl⟩)

theorem loaded_inst : Tryz.f3.isInstance Tryz.prog Rows.loadedRow.origin Rows.loadedRow.targs := of_decide_eq_true (by kernel_rfl)

theorem loaded_holds (hT : LoadedCalls) : Rows.LoadedSaid :=
  OpenClaim.holds_of_wide_leaving_time 3 Tryz.f3 rfl rfl rfl rfl rfl rfl rfl ⟨rfl, rfl, rfl, rfl, rfl⟩ rfl rfl rfl rfl rfl loaded_named Tryz.func3 loaded_closed loaded_inst loaded_wrap
    (fun os started H enc _ F => loaded_lifted hT os started H enc F)

end Go.Proofs.YthmhfilkgggagaaGreatDoor
