/-
  DERIVED. GIVEN WITH THE SEED: THE CARDS: each row of YtjbpkpfmgbhlpaaGreatDoorRows.lean that lists a variable, with what it lists TIED to the program's text (the seventh form; the later family's looks); each row that meets fmt, with fmt's text TOLD by the authors' own Lean function (tested against real Go, not proved from fmt's source: count such statements apart). THE CARD IS WHAT COUNTS. Prove the row's statement (the work); the ties are given (YtjbpkpfmgbhlpaaGreatDoorTie.lean); close each card by the builder's one call (the guide's Derived/Test/ToyasCard.lean, 'card_holds'). Laid BY PROGRAM, IN A SANDBOX (cutbox-door.mjs). By AI agents, Wed Nov 11 2026. No macro, syntax, notation, axiom, sorry.
-/
import Derived.Test.YtjbpkpfmgbhlpaaGreatDoorRows
import GoSem.ClaimSeven
namespace Go.Proofs.YtjbpkpfmgbhlpaaGreatDoor
namespace Rows

/-- THE TIED CARD OF 'instarlaw10.QueryParses'. -/
def queryParsesCard : Claim7 := { stood := { row := queryParsesRow, standIns := [], harness := (true, "c969fcf3c4ef386d6a3e9911ea3c861c10cdc70ca0b0205da62f8de889f20059"), looks := true }, kinds := [], alts := [], laidByText := true, laidKinds := [.data, .data, .data, .data, .sentinel, .sentinel, .pinned], laidTests := true, laidLooks := .later }
def QueryParsesCardSaid : Prop := Claim7.holds Tryz.pinned (.plain (OpenSpec.ofChange queryParsesSpec)) queryParsesCard

/-- THE TIED CARD OF 'instarlaw10.QueryReads'. -/
def queryReadsCard : Claim7 := { stood := { row := queryReadsRow, standIns := [], harness := (true, "c969fcf3c4ef386d6a3e9911ea3c861c10cdc70ca0b0205da62f8de889f20059"), looks := true }, kinds := [], alts := [], laidByText := true, laidKinds := [.data, .data, .data, .data, .sentinel, .sentinel, .pinned], laidTests := true, laidLooks := .later }
def QueryReadsCardSaid : Prop := Claim7.holds Tryz.pinned (.plain (OpenSpec.ofChange queryReadsSpec)) queryReadsCard

/-- THE TIED CARD OF 'instarlaw10.QueryShows'. -/
def queryShowsCard : Claim7 := { stood := { row := queryShowsRow, standIns := [], harness := (true, "c969fcf3c4ef386d6a3e9911ea3c861c10cdc70ca0b0205da62f8de889f20059"), looks := true }, kinds := [], alts := [], laidByText := true, laidKinds := [.data, .data, .data, .data, .sentinel, .sentinel, .pinned], laidTests := true, laidLooks := .later }
def QueryShowsCardSaid : Prop := Claim7.holds Tryz.pinned (.plain (OpenSpec.ofChange queryShowsSpec)) queryShowsCard

/-- THE TIED CARD OF 'instarlaw10.QueryWithin'. -/
def queryWithinCard : Claim7 := { stood := { row := queryWithinRow, standIns := [], harness := (true, "c969fcf3c4ef386d6a3e9911ea3c861c10cdc70ca0b0205da62f8de889f20059"), looks := true }, kinds := [], alts := [], laidByText := true, laidKinds := [.data, .data, .data, .data, .sentinel, .sentinel, .pinned], laidTests := true, laidLooks := .later }
def QueryWithinCardSaid : Prop := Claim7.holds Tryz.pinned (.plain (OpenSpec.ofChange queryWithinSpec)) queryWithinCard

/-- THE SECOND FORM's CARD OF 'instarlaw10.QueryParses'. -/
def queryParsesUptoCard : Claim7 := { stood := { row := queryParsesUptoRow, standIns := [], harness := (true, "c969fcf3c4ef386d6a3e9911ea3c861c10cdc70ca0b0205da62f8de889f20059"), looks := true }, kinds := [], alts := [], laidByText := true, laidKinds := [.data, .data, .data, .data, .sentinel, .sentinel, .pinned], laidTests := true, laidLooks := .later }
def QueryParsesUptoCardSaid : Prop := Claim7.holds Tryz.pinned (.plain (OpenSpec.upto queryParsesSpec)) queryParsesUptoCard

/-- THE SECOND FORM's CARD OF 'instarlaw10.QueryReads'. -/
def queryReadsUptoCard : Claim7 := { stood := { row := queryReadsUptoRow, standIns := [], harness := (true, "c969fcf3c4ef386d6a3e9911ea3c861c10cdc70ca0b0205da62f8de889f20059"), looks := true }, kinds := [], alts := [], laidByText := true, laidKinds := [.data, .data, .data, .data, .sentinel, .sentinel, .pinned], laidTests := true, laidLooks := .later }
def QueryReadsUptoCardSaid : Prop := Claim7.holds Tryz.pinned (.plain (OpenSpec.upto queryReadsSpec)) queryReadsUptoCard

/-- THE SECOND FORM's CARD OF 'instarlaw10.QueryShows'. -/
def queryShowsUptoCard : Claim7 := { stood := { row := queryShowsUptoRow, standIns := [], harness := (true, "c969fcf3c4ef386d6a3e9911ea3c861c10cdc70ca0b0205da62f8de889f20059"), looks := true }, kinds := [], alts := [], laidByText := true, laidKinds := [.data, .data, .data, .data, .sentinel, .sentinel, .pinned], laidTests := true, laidLooks := .later }
def QueryShowsUptoCardSaid : Prop := Claim7.holds Tryz.pinned (.plain (OpenSpec.upto queryShowsSpec)) queryShowsUptoCard

/-- THE SECOND FORM's CARD OF 'instarlaw10.QueryWithin'. -/
def queryWithinUptoCard : Claim7 := { stood := { row := queryWithinUptoRow, standIns := [], harness := (true, "c969fcf3c4ef386d6a3e9911ea3c861c10cdc70ca0b0205da62f8de889f20059"), looks := true }, kinds := [], alts := [], laidByText := true, laidKinds := [.data, .data, .data, .data, .sentinel, .sentinel, .pinned], laidTests := true, laidLooks := .later }
def QueryWithinUptoCardSaid : Prop := Claim7.holds Tryz.pinned (.plain (OpenSpec.upto queryWithinSpec)) queryWithinUptoCard
end Rows
end Go.Proofs.YtjbpkpfmgbhlpaaGreatDoor
