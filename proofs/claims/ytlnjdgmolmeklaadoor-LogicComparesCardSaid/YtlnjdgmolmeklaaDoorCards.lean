/-
  DERIVED. GIVEN WITH THE SEED: THE CARDS: each row of YtlnjdgmolmeklaaDoorRows.lean that lists a variable, with what it lists TIED to the program's text (the seventh form; the later family's looks); each row that meets fmt, with fmt's text TOLD by the authors' own Lean function (tested against real Go, not proved from fmt's source: count such statements apart). THE CARD IS WHAT COUNTS. Prove the row's statement (the work); the ties are given (YtlnjdgmolmeklaaDoorTie.lean); close each card by the builder's one call (the guide's Derived/Test/ToyasCard.lean, 'card_holds'). Laid BY PROGRAM, IN A SANDBOX (cutbox-door.mjs). By AI agents, Wed Nov 11 2026. No macro, syntax, notation, axiom, sorry.
-/
import Derived.Test.YtlnjdgmolmeklaaDoorRows
import GoSem.ClaimSeven
namespace Go.Proofs.YtlnjdgmolmeklaaDoor
namespace Rows

/-- THE TIED CARD OF 'triggerstorelaw2.LogicForms'. -/
def logicFormsCard : Claim7 := { stood := { row := logicFormsRow, standIns := [], harness := (true, "635fa432f43c20e6ec57931ef96448c2f734c623012a7d27a4bef84b39ca4ad9"), looks := false }, kinds := [], alts := [], laidByText := true, laidKinds := [.data, .data, .data], laidTests := true, laidLooks := .later }
def LogicFormsCardSaid : Prop := Claim7.holds Tryd.pinned (.plain (OpenSpec.ofChange logicFormsSpec)) logicFormsCard

/-- THE TIED CARD OF 'triggerstorelaw2.LogicLaws'. -/
def logicLawsCard : Claim7 := { stood := { row := logicLawsRow, standIns := [], harness := (true, "635fa432f43c20e6ec57931ef96448c2f734c623012a7d27a4bef84b39ca4ad9"), looks := false }, kinds := [], alts := [], laidByText := true, laidKinds := [.data, .data], laidTests := true, laidLooks := .later }
def LogicLawsCardSaid : Prop := Claim7.holds Tryd.pinned (.plain (OpenSpec.ofChange logicLawsSpec)) logicLawsCard

/-- THE TIED CARD OF 'triggerstorelaw2.LogicCompares'. -/
def logicComparesCard : Claim7 := { stood := { row := logicComparesRow, standIns := [], harness := (true, "635fa432f43c20e6ec57931ef96448c2f734c623012a7d27a4bef84b39ca4ad9"), looks := false }, kinds := [], alts := [], laidByText := true, laidKinds := [.data, .data], laidTests := true, laidLooks := .later }
def LogicComparesCardSaid : Prop := Claim7.holds Tryd.pinned (.plain (OpenSpec.ofChange logicComparesSpec)) logicComparesCard

/-- THE SECOND FORM's CARD OF 'triggerstorelaw2.LogicForms'. -/
def logicFormsUptoCard : Claim7 := { stood := { row := logicFormsUptoRow, standIns := [], harness := (true, "635fa432f43c20e6ec57931ef96448c2f734c623012a7d27a4bef84b39ca4ad9"), looks := false }, kinds := [], alts := [], laidByText := true, laidKinds := [.data, .data, .data], laidTests := true, laidLooks := .later }
def LogicFormsUptoCardSaid : Prop := Claim7.holds Tryd.pinned (.plain (OpenSpec.upto logicFormsSpec)) logicFormsUptoCard

/-- THE SECOND FORM's CARD OF 'triggerstorelaw2.LogicLaws'. -/
def logicLawsUptoCard : Claim7 := { stood := { row := logicLawsUptoRow, standIns := [], harness := (true, "635fa432f43c20e6ec57931ef96448c2f734c623012a7d27a4bef84b39ca4ad9"), looks := false }, kinds := [], alts := [], laidByText := true, laidKinds := [.data, .data], laidTests := true, laidLooks := .later }
def LogicLawsUptoCardSaid : Prop := Claim7.holds Tryd.pinned (.plain (OpenSpec.upto logicLawsSpec)) logicLawsUptoCard

/-- THE SECOND FORM's CARD OF 'triggerstorelaw2.LogicCompares'. -/
def logicComparesUptoCard : Claim7 := { stood := { row := logicComparesUptoRow, standIns := [], harness := (true, "635fa432f43c20e6ec57931ef96448c2f734c623012a7d27a4bef84b39ca4ad9"), looks := false }, kinds := [], alts := [], laidByText := true, laidKinds := [.data, .data], laidTests := true, laidLooks := .later }
def LogicComparesUptoCardSaid : Prop := Claim7.holds Tryd.pinned (.plain (OpenSpec.upto logicComparesSpec)) logicComparesUptoCard
end Rows
end Go.Proofs.YtlnjdgmolmeklaaDoor
