/-
  THE TIED CARD OF BOUNDED, for every argument: Bounded returns true and leaves its arguments as they were.
  Its conditions: the tables of the library that the row lists hold when the call begins what their initialisers lay (tied by the given tie); the card speaks of the pruned copy of the project; order of evaluation as the translation draws it.
-/
import Derived.Test.YthmhfilkgggagaaGreatDoorBounded
import Derived.Test.YthmhfilkgggagaaGreatDoorBoundedTied
namespace Go.Proofs.YthmhfilkgggagaaGreatDoor
open Go

theorem bounded_calls : BoundedCalls := fun cp0 cn0 cc0 w h1 h2 h3 n0 c0 => bounded_any cp0 cn0 cc0 w ⟨h1, h2, h3⟩ n0 c0

theorem bounded_card : Rows.BoundedCardSaid := bounded_tied bounded_calls

end Go.Proofs.YthmhfilkgggagaaGreatDoor
