/-
  DERIVED. GIVEN WITH THE SEED: THE CARDS: each row of YtlelgkgdppkedaaGreatDoorRows.lean that lists a variable, with what it lists TIED to the program's text (the seventh form; the later family's looks); each row that meets fmt, with fmt's text TOLD by the authors' own Lean function (tested against real Go, not proved from fmt's source: count such statements apart). THE CARD IS WHAT COUNTS. Prove the row's statement (the work); the ties are given (YtlelgkgdppkedaaGreatDoorTie.lean); close each card by the builder's one call (the guide's Derived/Test/ToyasCard.lean, 'card_holds'). Laid BY PROGRAM, IN A SANDBOX (cutbox-door.mjs). By AI agents, Wed Nov 11 2026. No macro, syntax, notation, axiom, sorry.
-/
import Derived.Test.YtlelgkgdppkedaaGreatDoorRows
import GoSem.ClaimSeven
namespace Go.Proofs.YtlelgkgdppkedaaGreatDoor
namespace Rows

/-- THE TIED CARD OF 'triggerstorelaw8.DeltaTells'. -/
def deltaTellsCard : Claim7 := { stood := { row := deltaTellsRow, standIns := [], harness := (true, "485cd0fb18b9bb3f23959802f3c3dd8b2807b7ae2f26435c8813a2fe2af06675"), looks := false }, kinds := [], alts := [], laidByText := true, laidKinds := [.data], laidTests := true, laidLooks := .later }
def DeltaTellsCardSaid : Prop := Claim7.holds Tryz.pinned (.plain (OpenSpec.ofChange deltaTellsSpec)) deltaTellsCard

/-- THE TIED CARD OF 'triggerstorelaw8.DeltaNets'. -/
def deltaNetsCard : Claim7 := { stood := { row := deltaNetsRow, standIns := [], harness := (true, "485cd0fb18b9bb3f23959802f3c3dd8b2807b7ae2f26435c8813a2fe2af06675"), looks := false }, kinds := [], alts := [], laidByText := true, laidKinds := [.data], laidTests := true, laidLooks := .later }
def DeltaNetsCardSaid : Prop := Claim7.holds Tryz.pinned (.plain (OpenSpec.ofChange deltaNetsSpec)) deltaNetsCard

/-- THE TIED CARD OF 'triggerstorelaw9.StoreForms'. -/
def storeFormsCard : Claim7 := { stood := { row := storeFormsRow, standIns := [], harness := (true, "485cd0fb18b9bb3f23959802f3c3dd8b2807b7ae2f26435c8813a2fe2af06675"), looks := false }, kinds := [], alts := [], laidByText := true, laidKinds := [.data, .data], laidTests := true, laidLooks := .later }
def StoreFormsCardSaid : Prop := Claim7.holds Tryz.pinned (.plain (OpenSpec.ofChange storeFormsSpec)) storeFormsCard

/-- THE TIED CARD OF 'triggerstorelaw9.StoreUndoes'. -/
def storeUndoesCard : Claim7 := { stood := { row := storeUndoesRow, standIns := [], harness := (true, "485cd0fb18b9bb3f23959802f3c3dd8b2807b7ae2f26435c8813a2fe2af06675"), looks := false }, kinds := [], alts := [], laidByText := true, laidKinds := [.data], laidTests := true, laidLooks := .later }
def StoreUndoesCardSaid : Prop := Claim7.holds Tryz.pinned (.plain (OpenSpec.ofChange storeUndoesSpec)) storeUndoesCard

/-- THE TIED CARD OF 'triggerstorelaw9.StoreDiffers'. -/
def storeDiffersCard : Claim7 := { stood := { row := storeDiffersRow, standIns := [], harness := (true, "485cd0fb18b9bb3f23959802f3c3dd8b2807b7ae2f26435c8813a2fe2af06675"), looks := false }, kinds := [], alts := [], laidByText := true, laidKinds := [.data], laidTests := true, laidLooks := .later }
def StoreDiffersCardSaid : Prop := Claim7.holds Tryz.pinned (.plain (OpenSpec.ofChange storeDiffersSpec)) storeDiffersCard

/-- THE SECOND FORM's CARD OF 'triggerstorelaw8.DeltaTells'. -/
def deltaTellsUptoCard : Claim7 := { stood := { row := deltaTellsUptoRow, standIns := [], harness := (true, "485cd0fb18b9bb3f23959802f3c3dd8b2807b7ae2f26435c8813a2fe2af06675"), looks := false }, kinds := [], alts := [], laidByText := true, laidKinds := [.data], laidTests := true, laidLooks := .later }
def DeltaTellsUptoCardSaid : Prop := Claim7.holds Tryz.pinned (.plain (OpenSpec.upto deltaTellsSpec)) deltaTellsUptoCard

/-- THE SECOND FORM's CARD OF 'triggerstorelaw8.DeltaNets'. -/
def deltaNetsUptoCard : Claim7 := { stood := { row := deltaNetsUptoRow, standIns := [], harness := (true, "485cd0fb18b9bb3f23959802f3c3dd8b2807b7ae2f26435c8813a2fe2af06675"), looks := false }, kinds := [], alts := [], laidByText := true, laidKinds := [.data], laidTests := true, laidLooks := .later }
def DeltaNetsUptoCardSaid : Prop := Claim7.holds Tryz.pinned (.plain (OpenSpec.upto deltaNetsSpec)) deltaNetsUptoCard

/-- THE SECOND FORM's CARD OF 'triggerstorelaw9.StoreForms'. -/
def storeFormsUptoCard : Claim7 := { stood := { row := storeFormsUptoRow, standIns := [], harness := (true, "485cd0fb18b9bb3f23959802f3c3dd8b2807b7ae2f26435c8813a2fe2af06675"), looks := false }, kinds := [], alts := [], laidByText := true, laidKinds := [.data, .data], laidTests := true, laidLooks := .later }
def StoreFormsUptoCardSaid : Prop := Claim7.holds Tryz.pinned (.plain (OpenSpec.upto storeFormsSpec)) storeFormsUptoCard

/-- THE SECOND FORM's CARD OF 'triggerstorelaw9.StoreUndoes'. -/
def storeUndoesUptoCard : Claim7 := { stood := { row := storeUndoesUptoRow, standIns := [], harness := (true, "485cd0fb18b9bb3f23959802f3c3dd8b2807b7ae2f26435c8813a2fe2af06675"), looks := false }, kinds := [], alts := [], laidByText := true, laidKinds := [.data], laidTests := true, laidLooks := .later }
def StoreUndoesUptoCardSaid : Prop := Claim7.holds Tryz.pinned (.plain (OpenSpec.upto storeUndoesSpec)) storeUndoesUptoCard

/-- THE SECOND FORM's CARD OF 'triggerstorelaw9.StoreDiffers'. -/
def storeDiffersUptoCard : Claim7 := { stood := { row := storeDiffersUptoRow, standIns := [], harness := (true, "485cd0fb18b9bb3f23959802f3c3dd8b2807b7ae2f26435c8813a2fe2af06675"), looks := false }, kinds := [], alts := [], laidByText := true, laidKinds := [.data], laidTests := true, laidLooks := .later }
def StoreDiffersUptoCardSaid : Prop := Claim7.holds Tryz.pinned (.plain (OpenSpec.upto storeDiffersSpec)) storeDiffersUptoCard
end Rows
end Go.Proofs.YtlelgkgdppkedaaGreatDoor
