/-
  DERIVED. GIVEN WITH THE SEED: THE CARDS: each row of YtaajaeidiholmaaDoorRows.lean that lists a variable, with what it lists TIED to the program's text (the seventh form; the later family's looks); each row that meets fmt, with fmt's text TOLD by the authors' own Lean function (tested against real Go, not proved from fmt's source: count such statements apart). THE CARD IS WHAT COUNTS. Prove the row's statement (the work); the ties are given (YtaajaeidiholmaaDoorTie.lean); close each card by the builder's one call (the guide's Derived/Test/ToyasCard.lean, 'card_holds'). Laid BY PROGRAM, IN A SANDBOX (cutbox-door.mjs). By AI agents, Wed Nov 11 2026. No macro, syntax, notation, axiom, sorry.
-/
import Derived.Test.YtaajaeidiholmaaDoorRows
import GoSem.ClaimSeven
namespace Go.Proofs.YtaajaeidiholmaaDoor
namespace Rows

/-- THE TIED CARD OF 'triggerstorelaw12.PrintDiffers'. -/
def printDiffersCard : Claim7 := { stood := { row := printDiffersRow, standIns := [], harness := (true, "7866c58a40ceca3bfae5de72a37873d888c7c84628562c51eb260b2d52cf7013"), looks := false }, kinds := [], alts := [], laidByText := true, laidKinds := [.data, .data, .data, .data, .data, .data, .data, .data, .data, .data, .pinned], laidTests := true, laidLooks := .later }
def PrintDiffersCardSaid : Prop := Claim7.holds Tryd.pinned (.plain (OpenSpec.ofChange printDiffersSpec)) printDiffersCard

/-- THE SECOND FORM's CARD OF 'triggerstorelaw12.PrintDiffers'. -/
def printDiffersUptoCard : Claim7 := { stood := { row := printDiffersUptoRow, standIns := [], harness := (true, "7866c58a40ceca3bfae5de72a37873d888c7c84628562c51eb260b2d52cf7013"), looks := false }, kinds := [], alts := [], laidByText := true, laidKinds := [.data, .data, .data, .data, .data, .data, .data, .data, .data, .data, .pinned], laidTests := true, laidLooks := .later }
def PrintDiffersUptoCardSaid : Prop := Claim7.holds Tryd.pinned (.plain (OpenSpec.upto printDiffersSpec)) printDiffersUptoCard
end Rows
end Go.Proofs.YtaajaeidiholmaaDoor
