/-
  DERIVED. GIVEN WITH THE SEED: THE CARDS: each row of YthpmgnfmeldkjaaGreatDoorRows.lean that lists a variable, with what it lists TIED to the program's text (the seventh form; the later family's looks); each row that meets fmt, with fmt's text TOLD by the authors' own Lean function (tested against real Go, not proved from fmt's source: count such statements apart). THE CARD IS WHAT COUNTS. Prove the row's statement (the work); the ties are given (YthpmgnfmeldkjaaGreatDoorTie.lean); close each card by the builder's one call (the guide's Derived/Test/ToyasCard.lean, 'card_holds'). Laid BY PROGRAM, IN A SANDBOX (cutbox-door.mjs). By AI agents, Wed Nov 11 2026. No macro, syntax, notation, axiom, sorry.
-/
import Derived.Test.YthpmgnfmeldkjaaGreatDoorRows
import GoSem.ClaimSeven
namespace Go.Proofs.YthpmgnfmeldkjaaGreatDoor
namespace Rows

/-- THE TIED CARD OF 'instarlaw14.PlanMakes'. -/
def planMakesCard : Claim7 := { stood := { row := planMakesRow, standIns := [], harness := (true, "555d1851649cd33b32fe7aa940d61e88576288adaf9758e1396f4d3bef137e92"), looks := false }, kinds := [], alts := [], laidByText := true, laidKinds := [.data, .data, .data, .data, .pinned], laidTests := true, laidLooks := .later }
def PlanMakesCardSaid : Prop := Claim7.holds Tryz.pinned (.plain (OpenSpec.ofChange planMakesSpec)) planMakesCard

/-- THE TIED CARD OF 'instarlaw14.PlanSchemas'. -/
def planSchemasCard : Claim7 := { stood := { row := planSchemasRow, standIns := [], harness := (true, "555d1851649cd33b32fe7aa940d61e88576288adaf9758e1396f4d3bef137e92"), looks := false }, kinds := [], alts := [], laidByText := true, laidKinds := [.data, .data, .data, .data, .pinned], laidTests := true, laidLooks := .later }
def PlanSchemasCardSaid : Prop := Claim7.holds Tryz.pinned (.plain (OpenSpec.ofChange planSchemasSpec)) planSchemasCard

/-- THE TIED CARD OF 'instarlaw14.PlanNested'. -/
def planNestedCard : Claim7 := { stood := { row := planNestedRow, standIns := [], harness := (true, "555d1851649cd33b32fe7aa940d61e88576288adaf9758e1396f4d3bef137e92"), looks := false }, kinds := [], alts := [], laidByText := true, laidKinds := [.data, .data, .data, .data, .pinned], laidTests := true, laidLooks := .later }
def PlanNestedCardSaid : Prop := Claim7.holds Tryz.pinned (.plain (OpenSpec.ofChange planNestedSpec)) planNestedCard

/-- THE TIED CARD OF 'instarlaw14.PlanOwn'. -/
def planOwnCard : Claim7 := { stood := { row := planOwnRow, standIns := [], harness := (true, "555d1851649cd33b32fe7aa940d61e88576288adaf9758e1396f4d3bef137e92"), looks := false }, kinds := [], alts := [], laidByText := true, laidKinds := [.data, .data, .data, .data, .pinned], laidTests := true, laidLooks := .later }
def PlanOwnCardSaid : Prop := Claim7.holds Tryz.pinned (.plain (OpenSpec.ofChange planOwnSpec)) planOwnCard

/-- THE SECOND FORM's CARD OF 'instarlaw14.PlanMakes'. -/
def planMakesUptoCard : Claim7 := { stood := { row := planMakesUptoRow, standIns := [], harness := (true, "555d1851649cd33b32fe7aa940d61e88576288adaf9758e1396f4d3bef137e92"), looks := false }, kinds := [], alts := [], laidByText := true, laidKinds := [.data, .data, .data, .data, .pinned], laidTests := true, laidLooks := .later }
def PlanMakesUptoCardSaid : Prop := Claim7.holds Tryz.pinned (.plain (OpenSpec.upto planMakesSpec)) planMakesUptoCard

/-- THE SECOND FORM's CARD OF 'instarlaw14.PlanSchemas'. -/
def planSchemasUptoCard : Claim7 := { stood := { row := planSchemasUptoRow, standIns := [], harness := (true, "555d1851649cd33b32fe7aa940d61e88576288adaf9758e1396f4d3bef137e92"), looks := false }, kinds := [], alts := [], laidByText := true, laidKinds := [.data, .data, .data, .data, .pinned], laidTests := true, laidLooks := .later }
def PlanSchemasUptoCardSaid : Prop := Claim7.holds Tryz.pinned (.plain (OpenSpec.upto planSchemasSpec)) planSchemasUptoCard

/-- THE SECOND FORM's CARD OF 'instarlaw14.PlanNested'. -/
def planNestedUptoCard : Claim7 := { stood := { row := planNestedUptoRow, standIns := [], harness := (true, "555d1851649cd33b32fe7aa940d61e88576288adaf9758e1396f4d3bef137e92"), looks := false }, kinds := [], alts := [], laidByText := true, laidKinds := [.data, .data, .data, .data, .pinned], laidTests := true, laidLooks := .later }
def PlanNestedUptoCardSaid : Prop := Claim7.holds Tryz.pinned (.plain (OpenSpec.upto planNestedSpec)) planNestedUptoCard

/-- THE SECOND FORM's CARD OF 'instarlaw14.PlanOwn'. -/
def planOwnUptoCard : Claim7 := { stood := { row := planOwnUptoRow, standIns := [], harness := (true, "555d1851649cd33b32fe7aa940d61e88576288adaf9758e1396f4d3bef137e92"), looks := false }, kinds := [], alts := [], laidByText := true, laidKinds := [.data, .data, .data, .data, .pinned], laidTests := true, laidLooks := .later }
def PlanOwnUptoCardSaid : Prop := Claim7.holds Tryz.pinned (.plain (OpenSpec.upto planOwnSpec)) planOwnUptoCard
end Rows
end Go.Proofs.YthpmgnfmeldkjaaGreatDoor
