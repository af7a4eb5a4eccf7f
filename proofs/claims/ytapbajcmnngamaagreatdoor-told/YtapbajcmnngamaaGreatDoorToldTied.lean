/-
  The tied card of Told, out of the contract of the call.
-/
import Derived.Test.YtapbajcmnngamaaGreatDoorToldRow
import Derived.Test.YtapbajcmnngamaaGreatDoorTie
import Derived.Test.YtapbajcmnngamaaGreatDoorCards
namespace Go.Proofs.YtapbajcmnngamaaGreatDoor
open Go

theorem told_tied (hT : ToldCalls) : Rows.ToldCardSaid :=
  Claim7.holds_tied_plain_at .later [] [.data, .data, .data, .data, .pinned] true Rows.toldCard.stood.harness false
    (told_holds hT) (fun _ h => by cases h) (by kernel_rfl) (fun _ h => by cases h) told_row_tie rfl ⟨rfl, rfl⟩ (by kernel_rfl) rfl
    (fun f fn hf hfn => by
      obtain rfl : f = 4 := Option.some.inj ((show Tryz.prog.funcNamed "sluice/sluicekeep.Told" = some 4 by kernel_rfl).symm.trans hf) |>.symm
      obtain rfl : fn = Tryz.f4 := (Option.some.inj (Tryz.func4.symm.trans hfn)).symm
      exact ⟨by kernel_rfl, fun j t ht => by
        rw [Tryz.params4] at ht
        have hm : t ∈ [25, 3, 3, 3] := by simpa using Array.mem_of_getElem? ht
        have hall : ([25, 3, 3, 3].all fun u => !Tryz.prog.wantsStandIn u) = true := by kernel_rfl
        exact (show Tryz.prog.wantsStandIn t = false by simpa using List.all_eq_true.1 hall t hm)⟩)
    (by kernel_rfl)
end Go.Proofs.YtapbajcmnngamaaGreatDoor
