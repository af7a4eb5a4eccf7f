/-
  THE TIED CARD OF APART, for every argument: Apart returns true and leaves its arguments as they were.
  Its conditions: the tables of the library that the row lists hold when the call begins what their initialisers lay (tied by the given tie); the card speaks of the pruned copy of the project; order of evaluation as the translation draws it.
-/
import Derived.Test.YthmhfilkgggagaaGreatDoorApart
import Derived.Test.YthmhfilkgggagaaGreatDoorApartTied
namespace Go.Proofs.YthmhfilkgggagaaGreatDoor
open Go

theorem apart_calls : ApartCalls := fun cp0 cn0 cc0 x1 x2 x3 w h1 h2 h3 n0 c0 b1 b2 b3 => apart_any cp0 cn0 cc0 x1 x2 x3 w ⟨h1, h2, h3⟩ b1 b2 b3 n0 c0

theorem apart_card : Rows.ApartCardSaid := apart_tied apart_calls

end Go.Proofs.YthmhfilkgggagaaGreatDoor
