/-
  The tied card of Admitted, out of the contract of the call.
-/
import Derived.Test.YthmhfilkgggagaaGreatDoorAdmittedHold
import Derived.Test.YthmhfilkgggagaaGreatDoorTie
import Derived.Test.YthmhfilkgggagaaGreatDoorCards
namespace Go.Proofs.YthmhfilkgggagaaGreatDoor
open Go

theorem admitted_tied (hT : AdmittedCalls) : Rows.AdmittedCardSaid :=
  holds_tied_goes .later [.data, .data, .data, .data, .pinned, .pinned] true Rows.admittedCard.stood.harness false
    (admitted_holds hT) (by kernel_rfl) admitted_row_tie rfl ⟨rfl, rfl⟩ (by kernel_rfl) rfl
    (fun f fn hf hfn => by
      obtain rfl : f = 4 := Option.some.inj ((show Tryz.prog.funcNamed "sluice/sluicelaw.Admitted" = some 4 by kernel_rfl).symm.trans hf) |>.symm
      obtain rfl : fn = Tryz.f4 := (Option.some.inj (Tryz.func4.symm.trans hfn)).symm
      exact ⟨by kernel_rfl, fun j t ht => by
        rw [Tryz.params4] at ht
        have hm : t ∈ [22] := by simpa using Array.mem_of_getElem? ht
        have hall : ([22].all fun u => !Tryz.prog.wantsStandIn u) = true := by kernel_rfl
        exact (show Tryz.prog.wantsStandIn t = false by simpa using List.all_eq_true.1 hall t hm)⟩)
    (by kernel_rfl)
end Go.Proofs.YthmhfilkgggagaaGreatDoor
