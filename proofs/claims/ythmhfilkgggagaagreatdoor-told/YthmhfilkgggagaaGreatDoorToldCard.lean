/-
  THE TIED CARD OF TOLD, for every list of raw numbers and every three numbers: Told returns true and leaves its arguments as they were.
  Its conditions: the tables of the library that the row lists hold when the call begins what their initialisers lay (tied by the given tie); the card speaks of the pruned copy of the project; order of evaluation as the translation draws it.
-/
import Derived.Test.YthmhfilkgggagaaGreatDoorTold3
import Derived.Test.YthmhfilkgggagaaGreatDoorToldTied
namespace Go.Proofs.YthmhfilkgggagaaGreatDoor
open Go

theorem told_calls : ToldCalls := fun cp cn cc ci oi ti w h1 h2 h3 hci hoi hti hn hcode => told_any cp cn cc ci oi ti w ⟨h1, h2, h3⟩ hci hoi hti hn hcode

theorem told_card : Rows.ToldCardSaid := told_tied told_calls

end Go.Proofs.YthmhfilkgggagaaGreatDoor
