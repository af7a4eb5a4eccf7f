/-
  THE TIED CARD OF LOADED, for every script: Loaded returns true and leaves its argument as it was.
  Its conditions: the tables of the library that the row lists hold when the call begins what their initialisers lay (tied by the given tie); the card speaks of the pruned copy of the project; order of evaluation as the translation draws it.
-/
import Derived.Test.YthmhfilkgggagaaGreatDoorLawT
import Derived.Test.YthmhfilkgggagaaGreatDoorLoadedTied
namespace Go.Proofs.YthmhfilkgggagaaGreatDoor
open Go

theorem loaded_calls : LoadedCalls := fun sp n cap w h1 h2 h3 hn hsc => loaded_any sp n cap w ⟨h1, h2, h3⟩ hn (fun hp => by
  obtain ⟨b, off, e, hb, hall⟩ := hsc hp
  refine ⟨b, off, e, hb, fun i hi => ?_⟩
  obtain ⟨k, m, a, s, t, u, lp, ln, lc, c0, c1, c2, c3, c4, c5, c6, l1, l2⟩ := hall i hi
  exact ⟨k, m, a, s, t, u, lp, ln, lc, ⟨c0, c1, c2, c3, c4, c5, c6, l1, l2⟩⟩)

theorem loaded_card : Rows.LoadedCardSaid := loaded_tied loaded_calls

end Go.Proofs.YthmhfilkgggagaaGreatDoor
