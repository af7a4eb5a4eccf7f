/-
  THE TIED CARD OF EXACT, for every argument: Exact returns true and leaves its arguments as they were.
  Its conditions: the tables of the library that the row lists hold when the call begins what their initialisers lay (tied by the given tie); the card speaks of the pruned copy of the project; order of evaluation as the translation draws it.
-/
import Derived.Test.YthmhfilkgggagaaGreatDoorExact
import Derived.Test.YthmhfilkgggagaaGreatDoorExactTied
namespace Go.Proofs.YthmhfilkgggagaaGreatDoor
open Go

theorem exact_calls : ExactCalls := fun cp0 cn0 cc0 x1 w h1 h2 h3 n0 c0 b1 => exact_any cp0 cn0 cc0 x1 w ⟨h1, h2, h3⟩ b1 n0 c0

theorem exact_card : Rows.ExactCardSaid := exact_tied exact_calls

end Go.Proofs.YthmhfilkgggagaaGreatDoor
