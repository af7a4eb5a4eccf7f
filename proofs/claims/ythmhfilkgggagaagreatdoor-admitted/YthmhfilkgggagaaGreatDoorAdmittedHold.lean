/-
  The row of Admitted.
-/
import Derived.Test.YthmhfilkgggagaaGreatDoorAdmittedRow
namespace Go.Proofs.YthmhfilkgggagaaGreatDoor
open Go.RowKit Go.ChangeShapes Go.WideShapes Go.ChangeAt Go.WideMaps Go.WideElems

theorem admitted_named : Tryz.prog.funcNamed Rows.admittedRow.func = some 4 := by kernel_rfl

theorem admitted_closed : joinedFacts Tryz.prog 4 Tryz.f4 Rows.admittedSpec Rows.admittedRow = true := by kernel_rfl

theorem admitted_wrap : Tryz.f4.isWrapper Tryz.prog Rows.admittedRow.wrapper Rows.admittedRow.mainSum := by
  unfold Func.isWrapper
  first | (rw [if_pos (by decide +kernel)]; kernel_rfl) | (rw [if_neg (by decide +kernel)]; exact ⟨rfl, rfl⟩)

theorem admitted_inst : Tryz.f4.isInstance Tryz.prog Rows.admittedRow.origin Rows.admittedRow.targs := of_decide_eq_true (by kernel_rfl)

theorem admitted_holds (hT : AdmittedCalls) : Rows.AdmittedSaid :=
  OpenClaim.holds_of_wide_leaving_time 4 Tryz.f4 rfl rfl rfl rfl rfl rfl rfl ⟨rfl, rfl, rfl, rfl, rfl⟩ rfl rfl rfl rfl rfl admitted_named Tryz.func4 admitted_closed admitted_inst admitted_wrap
    (fun os started H enc _ F => admitted_lifted hT os started H enc F)

end Go.Proofs.YthmhfilkgggagaaGreatDoor
