/-
  DERIVED. GIVEN WITH THE SEED: THE CARDS: each row of YtapbajcmnngamaaGreatDoorRows.lean that lists a variable, with what it lists TIED to the program's text (the seventh form; the later family's looks); each row that meets fmt, with fmt's text TOLD by the authors' own Lean function (tested against real Go, not proved from fmt's source: count such statements apart). THE CARD IS WHAT COUNTS. Prove the row's statement (the work); the ties are given (YtapbajcmnngamaaGreatDoorTie.lean); close each card by the builder's one call (the guide's Derived/Test/ToyasCard.lean, 'card_holds'). Laid BY PROGRAM, IN A SANDBOX (cutbox-door.mjs). By AI agents, Wed Nov 11 2026. No macro, syntax, notation, axiom, sorry.
-/
import Derived.Test.YtapbajcmnngamaaGreatDoorRows
import GoSem.ClaimSeven
namespace Go.Proofs.YtapbajcmnngamaaGreatDoor
namespace Rows

/-- THE TIED CARD OF 'sluicelaw.Loaded'. -/
def loadedCard : Claim7 := { stood := { row := loadedRow, standIns := [], harness := (true, "a2ea573b47b9490150d7e738e6fd09e2a0dae8f489d17c2d9708ba795c0bb4c4"), looks := false }, kinds := [], alts := [], laidByText := true, laidKinds := [.data, .data, .data, .data, .pinned], laidTests := true, laidLooks := .later }
def LoadedCardSaid : Prop := Claim7.holds Tryz.pinned (.plain (OpenSpec.ofChange loadedSpec)) loadedCard

/-- THE TIED CARD OF 'sluicekeep.Told'. -/
def toldCard : Claim7 := { stood := { row := toldRow, standIns := [], harness := (true, "a2ea573b47b9490150d7e738e6fd09e2a0dae8f489d17c2d9708ba795c0bb4c4"), looks := false }, kinds := [], alts := [], laidByText := true, laidKinds := [.data, .data, .data, .data, .pinned], laidTests := true, laidLooks := .later }
def ToldCardSaid : Prop := Claim7.holds Tryz.pinned (.plain (OpenSpec.ofChange toldSpec)) toldCard

/-- THE SECOND FORM's CARD OF 'sluicelaw.Loaded'. -/
def loadedUptoCard : Claim7 := { stood := { row := loadedUptoRow, standIns := [], harness := (true, "a2ea573b47b9490150d7e738e6fd09e2a0dae8f489d17c2d9708ba795c0bb4c4"), looks := false }, kinds := [], alts := [], laidByText := true, laidKinds := [.data, .data, .data, .data, .pinned], laidTests := true, laidLooks := .later }
def LoadedUptoCardSaid : Prop := Claim7.holds Tryz.pinned (.plain (OpenSpec.upto loadedSpec)) loadedUptoCard

/-- THE SECOND FORM's CARD OF 'sluicekeep.Told'. -/
def toldUptoCard : Claim7 := { stood := { row := toldUptoRow, standIns := [], harness := (true, "a2ea573b47b9490150d7e738e6fd09e2a0dae8f489d17c2d9708ba795c0bb4c4"), looks := false }, kinds := [], alts := [], laidByText := true, laidKinds := [.data, .data, .data, .data, .pinned], laidTests := true, laidLooks := .later }
def ToldUptoCardSaid : Prop := Claim7.holds Tryz.pinned (.plain (OpenSpec.upto toldSpec)) toldUptoCard
end Rows
end Go.Proofs.YtapbajcmnngamaaGreatDoor
