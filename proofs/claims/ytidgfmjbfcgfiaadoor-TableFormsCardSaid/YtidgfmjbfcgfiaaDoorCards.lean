/-
  DERIVED. GIVEN WITH THE SEED: THE CARDS: each row of YtidgfmjbfcgfiaaDoorRows.lean that lists a variable, with what it lists TIED to the program's text (the seventh form; the later family's looks); each row that meets fmt, with fmt's text TOLD by the authors' own Lean function (tested against real Go, not proved from fmt's source: count such statements apart). THE CARD IS WHAT COUNTS. Prove the row's statement (the work); the ties are given (YtidgfmjbfcgfiaaDoorTie.lean); close each card by the builder's one call (the guide's Derived/Test/ToyasCard.lean, 'card_holds'). Laid BY PROGRAM, IN A SANDBOX (cutbox-door.mjs). By AI agents, Wed Nov 11 2026. No macro, syntax, notation, axiom, sorry.
-/
import Derived.Test.YtidgfmjbfcgfiaaDoorRows
import GoSem.ClaimSeven
namespace Go.Proofs.YtidgfmjbfcgfiaaDoor
namespace Rows

/-- THE TIED CARD OF 'triggerstorelaw6.TableForms'. -/
def tableFormsCard : Claim7 := { stood := { row := tableFormsRow, standIns := [], harness := (true, "c7abb6d390f826f683900971997286305763c9dd1a0c861c21a5ac5cb018791f"), looks := false }, kinds := [], alts := [], laidByText := true, laidKinds := [.data, .data], laidTests := true, laidLooks := .later }
def TableFormsCardSaid : Prop := Claim7.holds Tryd.pinned (.plain (OpenSpec.ofChange tableFormsSpec)) tableFormsCard

/-- THE TIED CARD OF 'triggerstorelaw6.TableBegins'. -/
def tableBeginsCard : Claim7 := { stood := { row := tableBeginsRow, standIns := [], harness := (true, "c7abb6d390f826f683900971997286305763c9dd1a0c861c21a5ac5cb018791f"), looks := false }, kinds := [], alts := [], laidByText := true, laidKinds := [.data], laidTests := true, laidLooks := .later }
def TableBeginsCardSaid : Prop := Claim7.holds Tryd.pinned (.plain (OpenSpec.ofChange tableBeginsSpec)) tableBeginsCard

/-- THE TIED CARD OF 'triggerstorelaw6.TableFinds'. -/
def tableFindsCard : Claim7 := { stood := { row := tableFindsRow, standIns := [], harness := (true, "c7abb6d390f826f683900971997286305763c9dd1a0c861c21a5ac5cb018791f"), looks := false }, kinds := [], alts := [], laidByText := true, laidKinds := [.data], laidTests := true, laidLooks := .later }
def TableFindsCardSaid : Prop := Claim7.holds Tryd.pinned (.plain (OpenSpec.ofChange tableFindsSpec)) tableFindsCard

/-- THE SECOND FORM's CARD OF 'triggerstorelaw6.TableForms'. -/
def tableFormsUptoCard : Claim7 := { stood := { row := tableFormsUptoRow, standIns := [], harness := (true, "c7abb6d390f826f683900971997286305763c9dd1a0c861c21a5ac5cb018791f"), looks := false }, kinds := [], alts := [], laidByText := true, laidKinds := [.data, .data], laidTests := true, laidLooks := .later }
def TableFormsUptoCardSaid : Prop := Claim7.holds Tryd.pinned (.plain (OpenSpec.upto tableFormsSpec)) tableFormsUptoCard

/-- THE SECOND FORM's CARD OF 'triggerstorelaw6.TableBegins'. -/
def tableBeginsUptoCard : Claim7 := { stood := { row := tableBeginsUptoRow, standIns := [], harness := (true, "c7abb6d390f826f683900971997286305763c9dd1a0c861c21a5ac5cb018791f"), looks := false }, kinds := [], alts := [], laidByText := true, laidKinds := [.data], laidTests := true, laidLooks := .later }
def TableBeginsUptoCardSaid : Prop := Claim7.holds Tryd.pinned (.plain (OpenSpec.upto tableBeginsSpec)) tableBeginsUptoCard

/-- THE SECOND FORM's CARD OF 'triggerstorelaw6.TableFinds'. -/
def tableFindsUptoCard : Claim7 := { stood := { row := tableFindsUptoRow, standIns := [], harness := (true, "c7abb6d390f826f683900971997286305763c9dd1a0c861c21a5ac5cb018791f"), looks := false }, kinds := [], alts := [], laidByText := true, laidKinds := [.data], laidTests := true, laidLooks := .later }
def TableFindsUptoCardSaid : Prop := Claim7.holds Tryd.pinned (.plain (OpenSpec.upto tableFindsSpec)) tableFindsUptoCard
end Rows
end Go.Proofs.YtidgfmjbfcgfiaaDoor
