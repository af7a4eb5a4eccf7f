/-
  THE TIED CARD OF RELOADED, for every argument: Reloaded returns true and leaves its arguments as they were.
  Its conditions: the tables of the library that the row lists hold when the call begins what their initialisers lay (tied by the given tie); the card speaks of the pruned copy of the project; order of evaluation as the translation draws it.
-/
import Derived.Test.YthmhfilkgggagaaGreatDoorRl
import Derived.Test.YthmhfilkgggagaaGreatDoorReloadedTied
namespace Go.Proofs.YthmhfilkgggagaaGreatDoor
open Go

theorem reloaded_calls : ReloadedCalls := fun cp0 cn0 cc0 cp1 cn1 cc1 x2 x3 w h1 h2 h3 n0 c0 n1 c1 b2 b3 => reloaded_any cp0 cp1 cn0 cc0 cn1 cc1 x2 x3 w ⟨h1, h2, h3⟩ b2 b3 n0 c0 n1 c1

theorem reloaded_card : Rows.ReloadedCardSaid := reloaded_tied reloaded_calls

end Go.Proofs.YthmhfilkgggagaaGreatDoor
