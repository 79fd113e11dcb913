/-
  DERIVED. GIVEN WITH THE SEED: THE CARDS: each row of YtnahjnomidlppaaDoorRows.lean that lists a variable, with what it lists TIED to the program's text (the seventh form; the later family's looks); each row that meets fmt, with fmt's text TOLD by the authors' own Lean function (tested against real Go, not proved from fmt's source: count such statements apart). THE CARD IS WHAT COUNTS. Prove the row's statement (the work); the ties are given (YtnahjnomidlppaaDoorTie.lean); close each card by the builder's one call (the guide's Derived/Test/ToyasCard.lean, 'card_holds'). Laid BY PROGRAM, IN A SANDBOX (cutbox-door.mjs). By AI agents, Wed Nov 11 2026. No macro, syntax, notation, axiom, sorry.
-/
import Derived.Test.YtnahjnomidlppaaDoorRows
import GoSem.ClaimSeven
namespace Go.Proofs.YtnahjnomidlppaaDoor
namespace Rows

/-- THE TIED CARD OF 'triggerstorelaw7.KeysForms'. -/
def keysFormsCard : Claim7 := { stood := { row := keysFormsRow, standIns := [], harness := (true, "8c1bb974fd011a934b66d18227053478d0a6e02cee9aa3fcd52ae97c4b32ce13"), looks := false }, kinds := [], alts := [], laidByText := true, laidKinds := [.data], laidTests := true, laidLooks := .later }
def KeysFormsCardSaid : Prop := Claim7.holds Tryd.pinned (.plain (OpenSpec.ofChange keysFormsSpec)) keysFormsCard

/-- THE TIED CARD OF 'triggerstorelaw7.KeysApplies'. -/
def keysAppliesCard : Claim7 := { stood := { row := keysAppliesRow, standIns := [], harness := (true, "8c1bb974fd011a934b66d18227053478d0a6e02cee9aa3fcd52ae97c4b32ce13"), looks := false }, kinds := [], alts := [], laidByText := true, laidKinds := [.data], laidTests := true, laidLooks := .later }
def KeysAppliesCardSaid : Prop := Claim7.holds Tryd.pinned (.plain (OpenSpec.ofChange keysAppliesSpec)) keysAppliesCard

/-- THE SECOND FORM's CARD OF 'triggerstorelaw7.KeysForms'. -/
def keysFormsUptoCard : Claim7 := { stood := { row := keysFormsUptoRow, standIns := [], harness := (true, "8c1bb974fd011a934b66d18227053478d0a6e02cee9aa3fcd52ae97c4b32ce13"), looks := false }, kinds := [], alts := [], laidByText := true, laidKinds := [.data], laidTests := true, laidLooks := .later }
def KeysFormsUptoCardSaid : Prop := Claim7.holds Tryd.pinned (.plain (OpenSpec.upto keysFormsSpec)) keysFormsUptoCard

/-- THE SECOND FORM's CARD OF 'triggerstorelaw7.KeysApplies'. -/
def keysAppliesUptoCard : Claim7 := { stood := { row := keysAppliesUptoRow, standIns := [], harness := (true, "8c1bb974fd011a934b66d18227053478d0a6e02cee9aa3fcd52ae97c4b32ce13"), looks := false }, kinds := [], alts := [], laidByText := true, laidKinds := [.data], laidTests := true, laidLooks := .later }
def KeysAppliesUptoCardSaid : Prop := Claim7.holds Tryd.pinned (.plain (OpenSpec.upto keysAppliesSpec)) keysAppliesUptoCard
end Rows
end Go.Proofs.YtnahjnomidlppaaDoor
