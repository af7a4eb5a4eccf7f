/-
  The tied card of Exact, out of the contract of the call.
-/
import Derived.Test.YthmhfilkgggagaaGreatDoorExactRow
import Derived.Test.YthmhfilkgggagaaGreatDoorTie
import Derived.Test.YthmhfilkgggagaaGreatDoorCards
namespace Go.Proofs.YthmhfilkgggagaaGreatDoor
open Go

theorem exact_tied (hT : ExactCalls) : Rows.ExactCardSaid :=
  holds_tied_goes .later [.data, .data, .data, .data, .pinned] true Rows.exactCard.stood.harness false
    (exact_holds hT) (by kernel_rfl) exact_row_tie rfl ⟨rfl, rfl⟩ (by kernel_rfl) rfl
    (fun f fn hf hfn => by
      obtain rfl : f = 9 := Option.some.inj ((show Tryz.prog.funcNamed "sluice/sluicekeep.Exact" = some 9 by kernel_rfl).symm.trans hf) |>.symm
      obtain rfl : fn = Tryz.f9 := (Option.some.inj (Tryz.func9.symm.trans hfn)).symm
      exact ⟨by kernel_rfl, fun j t ht => by
        rw [Tryz.params9] at ht
        have hm : t ∈ [25, 3] := by simpa using Array.mem_of_getElem? ht
        have hall : ([25, 3].all fun u => !Tryz.prog.wantsStandIn u) = true := by kernel_rfl
        exact (show Tryz.prog.wantsStandIn t = false by simpa using List.all_eq_true.1 hall t hm)⟩)
    (by kernel_rfl)
end Go.Proofs.YthmhfilkgggagaaGreatDoor
