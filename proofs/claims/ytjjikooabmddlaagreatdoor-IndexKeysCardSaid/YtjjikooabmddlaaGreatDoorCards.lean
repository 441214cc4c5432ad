/-
  DERIVED. GIVEN WITH THE SEED: THE CARDS: each row of YtjjikooabmddlaaGreatDoorRows.lean that lists a variable, with what it lists TIED to the program's text (the seventh form; the later family's looks); each row that meets fmt, with fmt's text TOLD by the authors' own Lean function (tested against real Go, not proved from fmt's source: count such statements apart). THE CARD IS WHAT COUNTS. Prove the row's statement (the work); the ties are given (YtjjikooabmddlaaGreatDoorTie.lean); close each card by the builder's one call (the guide's Derived/Test/ToyasCard.lean, 'card_holds'). Laid BY PROGRAM, IN A SANDBOX (cutbox-door.mjs). By AI agents, Wed Nov 11 2026. No macro, syntax, notation, axiom, sorry.
-/
import Derived.Test.YtjjikooabmddlaaGreatDoorRows
import GoSem.ClaimSeven
namespace Go.Proofs.YtjjikooabmddlaaGreatDoor
namespace Rows

/-- THE TIED CARD OF 'instarlaw07.IndexPlays'. -/
def indexPlaysCard : Claim7 := { stood := { row := indexPlaysRow, standIns := [], harness := (true, "516a40221f445fc5c96341c84a192c7c8f30fee51e1827d8d40913aabf949f7c"), looks := false }, kinds := [], alts := [], laidByText := true, laidKinds := [.data, .pinned], laidTests := true, laidLooks := .later }
def IndexPlaysCardSaid : Prop := Claim7.holds Tryz.pinned (.plain (OpenSpec.ofChange indexPlaysSpec)) indexPlaysCard

/-- THE TIED CARD OF 'instarlaw07.IndexKeys'. -/
def indexKeysCard : Claim7 := { stood := { row := indexKeysRow, standIns := [], harness := (true, "516a40221f445fc5c96341c84a192c7c8f30fee51e1827d8d40913aabf949f7c"), looks := false }, kinds := [], alts := [], laidByText := true, laidKinds := [.data, .pinned], laidTests := true, laidLooks := .later }
def IndexKeysCardSaid : Prop := Claim7.holds Tryz.pinned (.plain (OpenSpec.ofChange indexKeysSpec)) indexKeysCard

/-- THE TIED CARD OF 'instarlaw07.IndexClone'. -/
def indexCloneCard : Claim7 := { stood := { row := indexCloneRow, standIns := [], harness := (true, "516a40221f445fc5c96341c84a192c7c8f30fee51e1827d8d40913aabf949f7c"), looks := false }, kinds := [], alts := [], laidByText := true, laidKinds := [.data, .pinned], laidTests := true, laidLooks := .later }
def IndexCloneCardSaid : Prop := Claim7.holds Tryz.pinned (.plain (OpenSpec.ofChange indexCloneSpec)) indexCloneCard

/-- THE SECOND FORM's CARD OF 'instarlaw07.IndexPlays'. -/
def indexPlaysUptoCard : Claim7 := { stood := { row := indexPlaysUptoRow, standIns := [], harness := (true, "516a40221f445fc5c96341c84a192c7c8f30fee51e1827d8d40913aabf949f7c"), looks := false }, kinds := [], alts := [], laidByText := true, laidKinds := [.data, .pinned], laidTests := true, laidLooks := .later }
def IndexPlaysUptoCardSaid : Prop := Claim7.holds Tryz.pinned (.plain (OpenSpec.upto indexPlaysSpec)) indexPlaysUptoCard

/-- THE SECOND FORM's CARD OF 'instarlaw07.IndexKeys'. -/
def indexKeysUptoCard : Claim7 := { stood := { row := indexKeysUptoRow, standIns := [], harness := (true, "516a40221f445fc5c96341c84a192c7c8f30fee51e1827d8d40913aabf949f7c"), looks := false }, kinds := [], alts := [], laidByText := true, laidKinds := [.data, .pinned], laidTests := true, laidLooks := .later }
def IndexKeysUptoCardSaid : Prop := Claim7.holds Tryz.pinned (.plain (OpenSpec.upto indexKeysSpec)) indexKeysUptoCard

/-- THE SECOND FORM's CARD OF 'instarlaw07.IndexClone'. -/
def indexCloneUptoCard : Claim7 := { stood := { row := indexCloneUptoRow, standIns := [], harness := (true, "516a40221f445fc5c96341c84a192c7c8f30fee51e1827d8d40913aabf949f7c"), looks := false }, kinds := [], alts := [], laidByText := true, laidKinds := [.data, .pinned], laidTests := true, laidLooks := .later }
def IndexCloneUptoCardSaid : Prop := Claim7.holds Tryz.pinned (.plain (OpenSpec.upto indexCloneSpec)) indexCloneUptoCard
end Rows
end Go.Proofs.YtjjikooabmddlaaGreatDoor
