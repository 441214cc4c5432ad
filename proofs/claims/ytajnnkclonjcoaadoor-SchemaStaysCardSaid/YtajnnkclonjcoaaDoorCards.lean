/-
  DERIVED. GIVEN WITH THE SEED: THE CARDS: each row of YtajnnkclonjcoaaDoorRows.lean that lists a variable, with what it lists TIED to the program's text (the seventh form; the later family's looks); each row that meets fmt, with fmt's text TOLD by the authors' own Lean function (tested against real Go, not proved from fmt's source: count such statements apart). THE CARD IS WHAT COUNTS. Prove the row's statement (the work); the ties are given (YtajnnkclonjcoaaDoorTie.lean); close each card by the builder's one call (the guide's Derived/Test/ToyasCard.lean, 'card_holds'). Laid BY PROGRAM, IN A SANDBOX (cutbox-door.mjs). By AI agents, Wed Nov 11 2026. No macro, syntax, notation, axiom, sorry.
-/
import Derived.Test.YtajnnkclonjcoaaDoorRows
import GoSem.ClaimSeven
namespace Go.Proofs.YtajnnkclonjcoaaDoor
namespace Rows

/-- THE TIED CARD OF 'instarlaw12.SchemaTells'. -/
def schemaTellsCard : Claim7 := { stood := { row := schemaTellsRow, standIns := [], harness := (true, "f4afc9efc58b596baf952daf2960681e62fd99f4f9f18a472d22e0695458736a"), looks := false }, kinds := [], alts := [], laidByText := true, laidKinds := [.data, .pinned], laidTests := true, laidLooks := .later }
def SchemaTellsCardSaid : Prop := Claim7.holds Tryd.pinned (.plain (OpenSpec.ofChange schemaTellsSpec)) schemaTellsCard

/-- THE TIED CARD OF 'instarlaw12.SchemaChanges'. -/
def schemaChangesCard : Claim7 := { stood := { row := schemaChangesRow, standIns := [], harness := (true, "f4afc9efc58b596baf952daf2960681e62fd99f4f9f18a472d22e0695458736a"), looks := false }, kinds := [], alts := [], laidByText := true, laidKinds := [.data, .pinned], laidTests := true, laidLooks := .later }
def SchemaChangesCardSaid : Prop := Claim7.holds Tryd.pinned (.plain (OpenSpec.ofChange schemaChangesSpec)) schemaChangesCard

/-- THE TIED CARD OF 'instarlaw12.SchemaStays'. -/
def schemaStaysCard : Claim7 := { stood := { row := schemaStaysRow, standIns := [], harness := (true, "f4afc9efc58b596baf952daf2960681e62fd99f4f9f18a472d22e0695458736a"), looks := false }, kinds := [], alts := [], laidByText := true, laidKinds := [.data, .pinned], laidTests := true, laidLooks := .later }
def SchemaStaysCardSaid : Prop := Claim7.holds Tryd.pinned (.plain (OpenSpec.ofChange schemaStaysSpec)) schemaStaysCard

/-- THE SECOND FORM's CARD OF 'instarlaw12.SchemaTells'. -/
def schemaTellsUptoCard : Claim7 := { stood := { row := schemaTellsUptoRow, standIns := [], harness := (true, "f4afc9efc58b596baf952daf2960681e62fd99f4f9f18a472d22e0695458736a"), looks := false }, kinds := [], alts := [], laidByText := true, laidKinds := [.data, .pinned], laidTests := true, laidLooks := .later }
def SchemaTellsUptoCardSaid : Prop := Claim7.holds Tryd.pinned (.plain (OpenSpec.upto schemaTellsSpec)) schemaTellsUptoCard

/-- THE SECOND FORM's CARD OF 'instarlaw12.SchemaChanges'. -/
def schemaChangesUptoCard : Claim7 := { stood := { row := schemaChangesUptoRow, standIns := [], harness := (true, "f4afc9efc58b596baf952daf2960681e62fd99f4f9f18a472d22e0695458736a"), looks := false }, kinds := [], alts := [], laidByText := true, laidKinds := [.data, .pinned], laidTests := true, laidLooks := .later }
def SchemaChangesUptoCardSaid : Prop := Claim7.holds Tryd.pinned (.plain (OpenSpec.upto schemaChangesSpec)) schemaChangesUptoCard

/-- THE SECOND FORM's CARD OF 'instarlaw12.SchemaStays'. -/
def schemaStaysUptoCard : Claim7 := { stood := { row := schemaStaysUptoRow, standIns := [], harness := (true, "f4afc9efc58b596baf952daf2960681e62fd99f4f9f18a472d22e0695458736a"), looks := false }, kinds := [], alts := [], laidByText := true, laidKinds := [.data, .pinned], laidTests := true, laidLooks := .later }
def SchemaStaysUptoCardSaid : Prop := Claim7.holds Tryd.pinned (.plain (OpenSpec.upto schemaStaysSpec)) schemaStaysUptoCard
end Rows
end Go.Proofs.YtajnnkclonjcoaaDoor
