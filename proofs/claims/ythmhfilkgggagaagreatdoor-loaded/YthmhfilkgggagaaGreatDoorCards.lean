/-
  DERIVED. GIVEN WITH THE SEED: THE CARDS: each row of YthmhfilkgggagaaGreatDoorRows.lean that lists a variable, with what it lists TIED to the program's text (the seventh form; the later family's looks); each row that meets fmt, with fmt's text TOLD by the authors' own Lean function (tested against real Go, not proved from fmt's source: count such statements apart). THE CARD IS WHAT COUNTS. Prove the row's statement (the work); the ties are given (YthmhfilkgggagaaGreatDoorTie.lean); close each card by the builder's one call (the guide's Derived/Test/ToyasCard.lean, 'card_holds'). Laid BY PROGRAM, IN A SANDBOX (cutbox-door.mjs). By AI agents, Wed Nov 11 2026. No macro, syntax, notation, axiom, sorry.
-/
import Derived.Test.YthmhfilkgggagaaGreatDoorRows
import GoSem.ClaimSeven
namespace Go.Proofs.YthmhfilkgggagaaGreatDoor
namespace Rows

/-- THE TIED CARD OF 'sluicelaw.Loaded'. -/
def loadedCard : Claim7 := { stood := { row := loadedRow, standIns := [], harness := (true, "e9ceeb187e785147840f48374bbee543d1477790605db18479a92bb20a408c56"), looks := false }, kinds := [], alts := [], goes := true, laidByText := true, laidKinds := [.data, .data, .data, .data, .pinned, .pinned], laidTests := true, laidLooks := .later }
def LoadedCardSaid : Prop := Claim7.holds Tryz.pinned (.plain (OpenSpec.ofChange loadedSpec)) loadedCard

/-- THE TIED CARD OF 'sluicelaw.Admitted'. -/
def admittedCard : Claim7 := { stood := { row := admittedRow, standIns := [], harness := (true, "e9ceeb187e785147840f48374bbee543d1477790605db18479a92bb20a408c56"), looks := false }, kinds := [], alts := [], goes := true, laidByText := true, laidKinds := [.data, .data, .data, .data, .pinned, .pinned], laidTests := true, laidLooks := .later }
def AdmittedCardSaid : Prop := Claim7.holds Tryz.pinned (.plain (OpenSpec.ofChange admittedSpec)) admittedCard

/-- THE TIED CARD OF 'sluicelaw.Served'. -/
def servedCard : Claim7 := { stood := { row := servedRow, standIns := [], harness := (true, "e9ceeb187e785147840f48374bbee543d1477790605db18479a92bb20a408c56"), looks := false }, kinds := [], alts := [], goes := true, laidByText := true, laidKinds := [.data, .data, .data, .data, .pinned, .pinned], laidTests := true, laidLooks := .later }
def ServedCardSaid : Prop := Claim7.holds Tryz.pinned (.plain (OpenSpec.ofChange servedSpec)) servedCard

/-- THE TIED CARD OF 'sluicelaw.All'. -/
def allCard : Claim7 := { stood := { row := allRow, standIns := [], harness := (true, "e9ceeb187e785147840f48374bbee543d1477790605db18479a92bb20a408c56"), looks := false }, kinds := [], alts := [], goes := true, laidByText := true, laidKinds := [.data, .data, .data, .data, .pinned, .pinned], laidTests := true, laidLooks := .later }
def AllCardSaid : Prop := Claim7.holds Tryz.pinned (.plain (OpenSpec.ofChange allSpec)) allCard

/-- THE TIED CARD OF 'sluicekeep.Told'. -/
def toldCard : Claim7 := { stood := { row := toldRow, standIns := [], harness := (true, "e9ceeb187e785147840f48374bbee543d1477790605db18479a92bb20a408c56"), looks := false }, kinds := [], alts := [], goes := true, laidByText := true, laidKinds := [.data, .data, .data, .data, .pinned], laidTests := true, laidLooks := .later }
def ToldCardSaid : Prop := Claim7.holds Tryz.pinned (.plain (OpenSpec.ofChange toldSpec)) toldCard

/-- THE TIED CARD OF 'sluicekeep.Bounded'. -/
def boundedCard : Claim7 := { stood := { row := boundedRow, standIns := [], harness := (true, "e9ceeb187e785147840f48374bbee543d1477790605db18479a92bb20a408c56"), looks := false }, kinds := [], alts := [], goes := true, laidByText := true, laidKinds := [.data, .data, .data, .data, .pinned], laidTests := true, laidLooks := .later }
def BoundedCardSaid : Prop := Claim7.holds Tryz.pinned (.plain (OpenSpec.ofChange boundedSpec)) boundedCard

/-- THE TIED CARD OF 'sluicekeep.Exact'. -/
def exactCard : Claim7 := { stood := { row := exactRow, standIns := [], harness := (true, "e9ceeb187e785147840f48374bbee543d1477790605db18479a92bb20a408c56"), looks := false }, kinds := [], alts := [], goes := true, laidByText := true, laidKinds := [.data, .data, .data, .data, .pinned], laidTests := true, laidLooks := .later }
def ExactCardSaid : Prop := Claim7.holds Tryz.pinned (.plain (OpenSpec.ofChange exactSpec)) exactCard

/-- THE TIED CARD OF 'sluicekeep.Apart'. -/
def apartCard : Claim7 := { stood := { row := apartRow, standIns := [], harness := (true, "e9ceeb187e785147840f48374bbee543d1477790605db18479a92bb20a408c56"), looks := false }, kinds := [], alts := [], goes := true, laidByText := true, laidKinds := [.data, .data, .data, .data, .pinned], laidTests := true, laidLooks := .later }
def ApartCardSaid : Prop := Claim7.holds Tryz.pinned (.plain (OpenSpec.ofChange apartSpec)) apartCard

/-- THE TIED CARD OF 'sluicekeep.Reloaded'. -/
def reloadedCard : Claim7 := { stood := { row := reloadedRow, standIns := [], harness := (true, "e9ceeb187e785147840f48374bbee543d1477790605db18479a92bb20a408c56"), looks := false }, kinds := [], alts := [], goes := true, laidByText := true, laidKinds := [.data, .data, .data, .data, .pinned], laidTests := true, laidLooks := .later }
def ReloadedCardSaid : Prop := Claim7.holds Tryz.pinned (.plain (OpenSpec.ofChange reloadedSpec)) reloadedCard

/-- THE TIED CARD OF 'sluicekeep.Heads'. -/
def headsCard : Claim7 := { stood := { row := headsRow, standIns := [], harness := (true, "e9ceeb187e785147840f48374bbee543d1477790605db18479a92bb20a408c56"), looks := false }, kinds := [], alts := [], goes := true, laidByText := true, laidKinds := [.data, .data, .data, .data, .pinned, .pinned], laidTests := true, laidLooks := .later }
def HeadsCardSaid : Prop := Claim7.holds Tryz.pinned (.plain (OpenSpec.ofChange headsSpec)) headsCard
end Rows
end Go.Proofs.YthmhfilkgggagaaGreatDoor
