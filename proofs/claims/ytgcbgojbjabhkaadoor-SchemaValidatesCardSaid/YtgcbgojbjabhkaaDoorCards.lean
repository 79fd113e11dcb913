/-
  DERIVED. GIVEN WITH THE SEED: THE CARDS: each row of YtgcbgojbjabhkaaDoorRows.lean that lists a variable, with what it lists TIED to the program's text (the seventh form; the later family's looks); each row that meets fmt, with fmt's text TOLD by the authors' own Lean function (tested against real Go, not proved from fmt's source: count such statements apart). THE CARD IS WHAT COUNTS. Prove the row's statement (the work); the ties are given (YtgcbgojbjabhkaaDoorTie.lean); close each card by the builder's one call (the guide's Derived/Test/ToyasCard.lean, 'card_holds'). Laid BY PROGRAM, IN A SANDBOX (cutbox-door.mjs). By AI agents, Wed Nov 11 2026. No macro, syntax, notation, axiom, sorry.
-/
import Derived.Test.YtgcbgojbjabhkaaDoorRows
import GoSem.ClaimSeven
namespace Go.Proofs.YtgcbgojbjabhkaaDoor
namespace Rows

/-- THE TIED CARD OF 'triggerstorelaw4.SchemaNames'. -/
def schemaNamesCard : Claim7 := { stood := { row := schemaNamesRow, standIns := [], harness := (true, "698f4dd5578a54e8549020251174586d935fea41e2b08e38778f28187aae8827"), looks := false }, kinds := [], alts := [], laidByText := true, laidKinds := [.data, .data], laidTests := true, laidLooks := .later }
def SchemaNamesCardSaid : Prop := Claim7.holds Tryd.pinned (.plain (OpenSpec.ofChange schemaNamesSpec)) schemaNamesCard

/-- THE TIED CARD OF 'triggerstorelaw4.SchemaValidates'. -/
def schemaValidatesCard : Claim7 := { stood := { row := schemaValidatesRow, standIns := [], harness := (true, "698f4dd5578a54e8549020251174586d935fea41e2b08e38778f28187aae8827"), looks := false }, kinds := [], alts := [], laidByText := true, laidKinds := [.data, .data], laidTests := true, laidLooks := .later }
def SchemaValidatesCardSaid : Prop := Claim7.holds Tryd.pinned (.plain (OpenSpec.ofChange schemaValidatesSpec)) schemaValidatesCard

/-- THE TIED CARD OF 'triggerstorelaw4.SchemaFits'. -/
def schemaFitsCard : Claim7 := { stood := { row := schemaFitsRow, standIns := [], harness := (true, "698f4dd5578a54e8549020251174586d935fea41e2b08e38778f28187aae8827"), looks := false }, kinds := [], alts := [], laidByText := true, laidKinds := [.data, .data], laidTests := true, laidLooks := .later }
def SchemaFitsCardSaid : Prop := Claim7.holds Tryd.pinned (.plain (OpenSpec.ofChange schemaFitsSpec)) schemaFitsCard

/-- THE SECOND FORM's CARD OF 'triggerstorelaw4.SchemaNames'. -/
def schemaNamesUptoCard : Claim7 := { stood := { row := schemaNamesUptoRow, standIns := [], harness := (true, "698f4dd5578a54e8549020251174586d935fea41e2b08e38778f28187aae8827"), looks := false }, kinds := [], alts := [], laidByText := true, laidKinds := [.data, .data], laidTests := true, laidLooks := .later }
def SchemaNamesUptoCardSaid : Prop := Claim7.holds Tryd.pinned (.plain (OpenSpec.upto schemaNamesSpec)) schemaNamesUptoCard

/-- THE SECOND FORM's CARD OF 'triggerstorelaw4.SchemaValidates'. -/
def schemaValidatesUptoCard : Claim7 := { stood := { row := schemaValidatesUptoRow, standIns := [], harness := (true, "698f4dd5578a54e8549020251174586d935fea41e2b08e38778f28187aae8827"), looks := false }, kinds := [], alts := [], laidByText := true, laidKinds := [.data, .data], laidTests := true, laidLooks := .later }
def SchemaValidatesUptoCardSaid : Prop := Claim7.holds Tryd.pinned (.plain (OpenSpec.upto schemaValidatesSpec)) schemaValidatesUptoCard

/-- THE SECOND FORM's CARD OF 'triggerstorelaw4.SchemaFits'. -/
def schemaFitsUptoCard : Claim7 := { stood := { row := schemaFitsUptoRow, standIns := [], harness := (true, "698f4dd5578a54e8549020251174586d935fea41e2b08e38778f28187aae8827"), looks := false }, kinds := [], alts := [], laidByText := true, laidKinds := [.data, .data], laidTests := true, laidLooks := .later }
def SchemaFitsUptoCardSaid : Prop := Claim7.holds Tryd.pinned (.plain (OpenSpec.upto schemaFitsSpec)) schemaFitsUptoCard
end Rows
end Go.Proofs.YtgcbgojbjabhkaaDoor
