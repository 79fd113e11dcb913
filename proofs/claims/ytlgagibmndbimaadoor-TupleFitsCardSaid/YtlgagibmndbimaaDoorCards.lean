/-
  DERIVED. GIVEN WITH THE SEED: THE CARDS: each row of YtlgagibmndbimaaDoorRows.lean that lists a variable, with what it lists TIED to the program's text (the seventh form; the later family's looks); each row that meets fmt, with fmt's text TOLD by the authors' own Lean function (tested against real Go, not proved from fmt's source: count such statements apart). THE CARD IS WHAT COUNTS. Prove the row's statement (the work); the ties are given (YtlgagibmndbimaaDoorTie.lean); close each card by the builder's one call (the guide's Derived/Test/ToyasCard.lean, 'card_holds'). Laid BY PROGRAM, IN A SANDBOX (cutbox-door.mjs). By AI agents, Wed Nov 11 2026. No macro, syntax, notation, axiom, sorry.
-/
import Derived.Test.YtlgagibmndbimaaDoorRows
import GoSem.ClaimSeven
namespace Go.Proofs.YtlgagibmndbimaaDoor
namespace Rows

/-- THE TIED CARD OF 'triggerstorelaw5.TupleFits'. -/
def tupleFitsCard : Claim7 := { stood := { row := tupleFitsRow, standIns := [], harness := (true, "ea196fdb76e71c34fdddd245f57ca7f9990af2e1041bc9f3446ccb872246d1c7"), looks := false }, kinds := [], alts := [], laidByText := true, laidKinds := [.data, .data], laidTests := true, laidLooks := .later }
def TupleFitsCardSaid : Prop := Claim7.holds Tryd.pinned (.plain (OpenSpec.ofChange tupleFitsSpec)) tupleFitsCard

/-- THE TIED CARD OF 'triggerstorelaw5.TupleBags'. -/
def tupleBagsCard : Claim7 := { stood := { row := tupleBagsRow, standIns := [], harness := (true, "ea196fdb76e71c34fdddd245f57ca7f9990af2e1041bc9f3446ccb872246d1c7"), looks := false }, kinds := [], alts := [], laidByText := true, laidKinds := [.data], laidTests := true, laidLooks := .later }
def TupleBagsCardSaid : Prop := Claim7.holds Tryd.pinned (.plain (OpenSpec.ofChange tupleBagsSpec)) tupleBagsCard

/-- THE TIED CARD OF 'triggerstorelaw5.TupleSorts'. -/
def tupleSortsCard : Claim7 := { stood := { row := tupleSortsRow, standIns := [], harness := (true, "ea196fdb76e71c34fdddd245f57ca7f9990af2e1041bc9f3446ccb872246d1c7"), looks := false }, kinds := [], alts := [], laidByText := true, laidKinds := [.data], laidTests := true, laidLooks := .later }
def TupleSortsCardSaid : Prop := Claim7.holds Tryd.pinned (.plain (OpenSpec.ofChange tupleSortsSpec)) tupleSortsCard

/-- THE TIED CARD OF 'triggerstorelaw5.TupleDiffers'. -/
def tupleDiffersCard : Claim7 := { stood := { row := tupleDiffersRow, standIns := [], harness := (true, "ea196fdb76e71c34fdddd245f57ca7f9990af2e1041bc9f3446ccb872246d1c7"), looks := false }, kinds := [], alts := [], laidByText := true, laidKinds := [.data], laidTests := true, laidLooks := .later }
def TupleDiffersCardSaid : Prop := Claim7.holds Tryd.pinned (.plain (OpenSpec.ofChange tupleDiffersSpec)) tupleDiffersCard

/-- THE SECOND FORM's CARD OF 'triggerstorelaw5.TupleFits'. -/
def tupleFitsUptoCard : Claim7 := { stood := { row := tupleFitsUptoRow, standIns := [], harness := (true, "ea196fdb76e71c34fdddd245f57ca7f9990af2e1041bc9f3446ccb872246d1c7"), looks := false }, kinds := [], alts := [], laidByText := true, laidKinds := [.data, .data], laidTests := true, laidLooks := .later }
def TupleFitsUptoCardSaid : Prop := Claim7.holds Tryd.pinned (.plain (OpenSpec.upto tupleFitsSpec)) tupleFitsUptoCard

/-- THE SECOND FORM's CARD OF 'triggerstorelaw5.TupleBags'. -/
def tupleBagsUptoCard : Claim7 := { stood := { row := tupleBagsUptoRow, standIns := [], harness := (true, "ea196fdb76e71c34fdddd245f57ca7f9990af2e1041bc9f3446ccb872246d1c7"), looks := false }, kinds := [], alts := [], laidByText := true, laidKinds := [.data], laidTests := true, laidLooks := .later }
def TupleBagsUptoCardSaid : Prop := Claim7.holds Tryd.pinned (.plain (OpenSpec.upto tupleBagsSpec)) tupleBagsUptoCard

/-- THE SECOND FORM's CARD OF 'triggerstorelaw5.TupleSorts'. -/
def tupleSortsUptoCard : Claim7 := { stood := { row := tupleSortsUptoRow, standIns := [], harness := (true, "ea196fdb76e71c34fdddd245f57ca7f9990af2e1041bc9f3446ccb872246d1c7"), looks := false }, kinds := [], alts := [], laidByText := true, laidKinds := [.data], laidTests := true, laidLooks := .later }
def TupleSortsUptoCardSaid : Prop := Claim7.holds Tryd.pinned (.plain (OpenSpec.upto tupleSortsSpec)) tupleSortsUptoCard

/-- THE SECOND FORM's CARD OF 'triggerstorelaw5.TupleDiffers'. -/
def tupleDiffersUptoCard : Claim7 := { stood := { row := tupleDiffersUptoRow, standIns := [], harness := (true, "ea196fdb76e71c34fdddd245f57ca7f9990af2e1041bc9f3446ccb872246d1c7"), looks := false }, kinds := [], alts := [], laidByText := true, laidKinds := [.data], laidTests := true, laidLooks := .later }
def TupleDiffersUptoCardSaid : Prop := Claim7.holds Tryd.pinned (.plain (OpenSpec.upto tupleDiffersSpec)) tupleDiffersUptoCard
end Rows
end Go.Proofs.YtlgagibmndbimaaDoor
