/-
  The tied card of Reloaded, out of the contract of the call.
-/
import Derived.Test.YthmhfilkgggagaaGreatDoorReloadedRow
import Derived.Test.YthmhfilkgggagaaGreatDoorTie
import Derived.Test.YthmhfilkgggagaaGreatDoorCards
namespace Go.Proofs.YthmhfilkgggagaaGreatDoor
open Go

theorem reloaded_tied (hT : ReloadedCalls) : Rows.ReloadedCardSaid :=
  holds_tied_goes .later [.data, .data, .data, .data, .pinned] true Rows.reloadedCard.stood.harness false
    (reloaded_holds hT) (by kernel_rfl) reloaded_row_tie rfl ⟨rfl, rfl⟩ (by kernel_rfl) rfl
    (fun f fn hf hfn => by
      obtain rfl : f = 11 := Option.some.inj ((show Tryz.prog.funcNamed "sluice/sluicekeep.Reloaded" = some 11 by kernel_rfl).symm.trans hf) |>.symm
      obtain rfl : fn = Tryz.f11 := (Option.some.inj (Tryz.func11.symm.trans hfn)).symm
      exact ⟨by kernel_rfl, fun j t ht => by
        rw [Tryz.params11] at ht
        have hm : t ∈ [25, 25, 3, 3] := by simpa using Array.mem_of_getElem? ht
        have hall : ([25, 25, 3, 3].all fun u => !Tryz.prog.wantsStandIn u) = true := by kernel_rfl
        exact (show Tryz.prog.wantsStandIn t = false by simpa using List.all_eq_true.1 hall t hm)⟩)
    (by kernel_rfl)
end Go.Proofs.YthmhfilkgggagaaGreatDoor
