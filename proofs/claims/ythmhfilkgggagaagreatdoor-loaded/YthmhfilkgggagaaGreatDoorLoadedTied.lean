/-
  The tied card of Loaded, out of the contract of the call.
-/
import Derived.Test.YthmhfilkgggagaaGreatDoorLoadedHold
import Derived.Test.YthmhfilkgggagaaGreatDoorTie
import Derived.Test.YthmhfilkgggagaaGreatDoorCards
namespace Go.Proofs.YthmhfilkgggagaaGreatDoor
open Go

theorem loaded_tied (hT : LoadedCalls) : Rows.LoadedCardSaid :=
  holds_tied_goes .later [.data, .data, .data, .data, .pinned, .pinned] true Rows.loadedCard.stood.harness false
    (loaded_holds hT) (by kernel_rfl) loaded_row_tie rfl ⟨rfl, rfl⟩ (by kernel_rfl) rfl
    (fun f fn hf hfn => by
      obtain rfl : f = 3 := Option.some.inj ((show Tryz.prog.funcNamed "sluice/sluicelaw.Loaded" = some 3 by kernel_rfl).symm.trans hf) |>.symm
      obtain rfl : fn = Tryz.f3 := (Option.some.inj (Tryz.func3.symm.trans hfn)).symm
      exact ⟨by kernel_rfl, fun j t ht => by
        rw [Tryz.params3] at ht
        have hm : t ∈ [22] := by simpa using Array.mem_of_getElem? ht
        have hall : ([22].all fun u => !Tryz.prog.wantsStandIn u) = true := by kernel_rfl
        exact (show Tryz.prog.wantsStandIn t = false by simpa using List.all_eq_true.1 hall t hm)⟩)
    (by kernel_rfl)
end Go.Proofs.YthmhfilkgggagaaGreatDoor
