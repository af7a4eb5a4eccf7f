/-
  The tied card of Bounded, out of the contract of the call.
-/
import Derived.Test.YthmhfilkgggagaaGreatDoorBoundedRow
import Derived.Test.YthmhfilkgggagaaGreatDoorTie
import Derived.Test.YthmhfilkgggagaaGreatDoorCards
namespace Go.Proofs.YthmhfilkgggagaaGreatDoor
open Go

theorem bounded_tied (hT : BoundedCalls) : Rows.BoundedCardSaid :=
  holds_tied_goes .later [.data, .data, .data, .data, .pinned] true Rows.boundedCard.stood.harness false
    (bounded_holds hT) (by kernel_rfl) bounded_row_tie rfl ⟨rfl, rfl⟩ (by kernel_rfl) rfl
    (fun f fn hf hfn => by
      obtain rfl : f = 8 := Option.some.inj ((show Tryz.prog.funcNamed "sluice/sluicekeep.Bounded" = some 8 by kernel_rfl).symm.trans hf) |>.symm
      obtain rfl : fn = Tryz.f8 := (Option.some.inj (Tryz.func8.symm.trans hfn)).symm
      exact ⟨by kernel_rfl, fun j t ht => by
        rw [Tryz.params8] at ht
        have hm : t ∈ [25] := by simpa using Array.mem_of_getElem? ht
        have hall : ([25].all fun u => !Tryz.prog.wantsStandIn u) = true := by kernel_rfl
        exact (show Tryz.prog.wantsStandIn t = false by simpa using List.all_eq_true.1 hall t hm)⟩)
    (by kernel_rfl)
end Go.Proofs.YthmhfilkgggagaaGreatDoor
