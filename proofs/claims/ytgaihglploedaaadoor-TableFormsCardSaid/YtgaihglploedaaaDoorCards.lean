/-
  DERIVED. GIVEN WITH THE SEED: THE CARDS: each row of YtgaihglploedaaaDoorRows.lean that lists a variable, with what it lists TIED to the program's text (the seventh form; the later family's looks); each row that meets fmt, with fmt's text TOLD by the authors' own Lean function (tested against real Go, not proved from fmt's source: count such statements apart). THE CARD IS WHAT COUNTS. Prove the row's statement (the work); the ties are given (YtgaihglploedaaaDoorTie.lean); close each card by the builder's one call (the guide's Derived/Test/ToyasCard.lean, 'card_holds'). Laid BY PROGRAM, IN A SANDBOX (cutbox-door.mjs). By AI agents, Wed Nov 11 2026. No macro, syntax, notation, axiom, sorry.
-/
import Derived.Test.YtgaihglploedaaaDoorRows
import GoSem.ClaimSeven
namespace Go.Proofs.YtgaihglploedaaaDoor
namespace Rows

/-- THE TIED CARD OF 'triggerstorelaw5.TupleFits'. -/
def tupleFitsCard : Claim7 := { stood := { row := tupleFitsRow, standIns := [], harness := (true, "5d35b1c6915f0f400628e6677b0bb3421d2d508e236bf46ca38e4f591d4a8bc2"), looks := false }, kinds := [], alts := [], laidByText := true, laidKinds := [.data, .data], laidTests := true, laidLooks := .later }
def TupleFitsCardSaid : Prop := Claim7.holds Tryd.pinned (.plain (OpenSpec.ofChange tupleFitsSpec)) tupleFitsCard

/-- THE TIED CARD OF 'triggerstorelaw5.TupleBags'. -/
def tupleBagsCard : Claim7 := { stood := { row := tupleBagsRow, standIns := [], harness := (true, "5d35b1c6915f0f400628e6677b0bb3421d2d508e236bf46ca38e4f591d4a8bc2"), looks := false }, kinds := [], alts := [], laidByText := true, laidKinds := [.data], laidTests := true, laidLooks := .later }
def TupleBagsCardSaid : Prop := Claim7.holds Tryd.pinned (.plain (OpenSpec.ofChange tupleBagsSpec)) tupleBagsCard

/-- THE TIED CARD OF 'triggerstorelaw5.TupleSorts'. -/
def tupleSortsCard : Claim7 := { stood := { row := tupleSortsRow, standIns := [], harness := (true, "5d35b1c6915f0f400628e6677b0bb3421d2d508e236bf46ca38e4f591d4a8bc2"), looks := false }, kinds := [], alts := [], laidByText := true, laidKinds := [.data], laidTests := true, laidLooks := .later }
def TupleSortsCardSaid : Prop := Claim7.holds Tryd.pinned (.plain (OpenSpec.ofChange tupleSortsSpec)) tupleSortsCard

/-- THE TIED CARD OF 'triggerstorelaw5.TupleDiffers'. -/
def tupleDiffersCard : Claim7 := { stood := { row := tupleDiffersRow, standIns := [], harness := (true, "5d35b1c6915f0f400628e6677b0bb3421d2d508e236bf46ca38e4f591d4a8bc2"), looks := false }, kinds := [], alts := [], laidByText := true, laidKinds := [.data], laidTests := true, laidLooks := .later }
def TupleDiffersCardSaid : Prop := Claim7.holds Tryd.pinned (.plain (OpenSpec.ofChange tupleDiffersSpec)) tupleDiffersCard

/-- THE TIED CARD OF 'triggerstorelaw6.TableForms'. -/
def tableFormsCard : Claim7 := { stood := { row := tableFormsRow, standIns := [], harness := (true, "5d35b1c6915f0f400628e6677b0bb3421d2d508e236bf46ca38e4f591d4a8bc2"), looks := false }, kinds := [], alts := [], laidByText := true, laidKinds := [.data, .data], laidTests := true, laidLooks := .later }
def TableFormsCardSaid : Prop := Claim7.holds Tryd.pinned (.plain (OpenSpec.ofChange tableFormsSpec)) tableFormsCard

/-- THE TIED CARD OF 'triggerstorelaw6.TableBegins'. -/
def tableBeginsCard : Claim7 := { stood := { row := tableBeginsRow, standIns := [], harness := (true, "5d35b1c6915f0f400628e6677b0bb3421d2d508e236bf46ca38e4f591d4a8bc2"), looks := false }, kinds := [], alts := [], laidByText := true, laidKinds := [.data], laidTests := true, laidLooks := .later }
def TableBeginsCardSaid : Prop := Claim7.holds Tryd.pinned (.plain (OpenSpec.ofChange tableBeginsSpec)) tableBeginsCard

/-- THE TIED CARD OF 'triggerstorelaw6.TableFinds'. -/
def tableFindsCard : Claim7 := { stood := { row := tableFindsRow, standIns := [], harness := (true, "5d35b1c6915f0f400628e6677b0bb3421d2d508e236bf46ca38e4f591d4a8bc2"), looks := false }, kinds := [], alts := [], laidByText := true, laidKinds := [.data], laidTests := true, laidLooks := .later }
def TableFindsCardSaid : Prop := Claim7.holds Tryd.pinned (.plain (OpenSpec.ofChange tableFindsSpec)) tableFindsCard

/-- THE TIED CARD OF 'triggerstorelaw7.KeysForms'. -/
def keysFormsCard : Claim7 := { stood := { row := keysFormsRow, standIns := [], harness := (true, "5d35b1c6915f0f400628e6677b0bb3421d2d508e236bf46ca38e4f591d4a8bc2"), looks := false }, kinds := [], alts := [], laidByText := true, laidKinds := [.data], laidTests := true, laidLooks := .later }
def KeysFormsCardSaid : Prop := Claim7.holds Tryd.pinned (.plain (OpenSpec.ofChange keysFormsSpec)) keysFormsCard

/-- THE TIED CARD OF 'triggerstorelaw7.KeysApplies'. -/
def keysAppliesCard : Claim7 := { stood := { row := keysAppliesRow, standIns := [], harness := (true, "5d35b1c6915f0f400628e6677b0bb3421d2d508e236bf46ca38e4f591d4a8bc2"), looks := false }, kinds := [], alts := [], laidByText := true, laidKinds := [.data], laidTests := true, laidLooks := .later }
def KeysAppliesCardSaid : Prop := Claim7.holds Tryd.pinned (.plain (OpenSpec.ofChange keysAppliesSpec)) keysAppliesCard

/-- THE SECOND FORM's CARD OF 'triggerstorelaw5.TupleFits'. -/
def tupleFitsUptoCard : Claim7 := { stood := { row := tupleFitsUptoRow, standIns := [], harness := (true, "5d35b1c6915f0f400628e6677b0bb3421d2d508e236bf46ca38e4f591d4a8bc2"), looks := false }, kinds := [], alts := [], laidByText := true, laidKinds := [.data, .data], laidTests := true, laidLooks := .later }
def TupleFitsUptoCardSaid : Prop := Claim7.holds Tryd.pinned (.plain (OpenSpec.upto tupleFitsSpec)) tupleFitsUptoCard

/-- THE SECOND FORM's CARD OF 'triggerstorelaw5.TupleBags'. -/
def tupleBagsUptoCard : Claim7 := { stood := { row := tupleBagsUptoRow, standIns := [], harness := (true, "5d35b1c6915f0f400628e6677b0bb3421d2d508e236bf46ca38e4f591d4a8bc2"), looks := false }, kinds := [], alts := [], laidByText := true, laidKinds := [.data], laidTests := true, laidLooks := .later }
def TupleBagsUptoCardSaid : Prop := Claim7.holds Tryd.pinned (.plain (OpenSpec.upto tupleBagsSpec)) tupleBagsUptoCard

/-- THE SECOND FORM's CARD OF 'triggerstorelaw5.TupleSorts'. -/
def tupleSortsUptoCard : Claim7 := { stood := { row := tupleSortsUptoRow, standIns := [], harness := (true, "5d35b1c6915f0f400628e6677b0bb3421d2d508e236bf46ca38e4f591d4a8bc2"), looks := false }, kinds := [], alts := [], laidByText := true, laidKinds := [.data], laidTests := true, laidLooks := .later }
def TupleSortsUptoCardSaid : Prop := Claim7.holds Tryd.pinned (.plain (OpenSpec.upto tupleSortsSpec)) tupleSortsUptoCard

/-- THE SECOND FORM's CARD OF 'triggerstorelaw5.TupleDiffers'. -/
def tupleDiffersUptoCard : Claim7 := { stood := { row := tupleDiffersUptoRow, standIns := [], harness := (true, "5d35b1c6915f0f400628e6677b0bb3421d2d508e236bf46ca38e4f591d4a8bc2"), looks := false }, kinds := [], alts := [], laidByText := true, laidKinds := [.data], laidTests := true, laidLooks := .later }
def TupleDiffersUptoCardSaid : Prop := Claim7.holds Tryd.pinned (.plain (OpenSpec.upto tupleDiffersSpec)) tupleDiffersUptoCard

/-- THE SECOND FORM's CARD OF 'triggerstorelaw6.TableForms'. -/
def tableFormsUptoCard : Claim7 := { stood := { row := tableFormsUptoRow, standIns := [], harness := (true, "5d35b1c6915f0f400628e6677b0bb3421d2d508e236bf46ca38e4f591d4a8bc2"), looks := false }, kinds := [], alts := [], laidByText := true, laidKinds := [.data, .data], laidTests := true, laidLooks := .later }
def TableFormsUptoCardSaid : Prop := Claim7.holds Tryd.pinned (.plain (OpenSpec.upto tableFormsSpec)) tableFormsUptoCard

/-- THE SECOND FORM's CARD OF 'triggerstorelaw6.TableBegins'. -/
def tableBeginsUptoCard : Claim7 := { stood := { row := tableBeginsUptoRow, standIns := [], harness := (true, "5d35b1c6915f0f400628e6677b0bb3421d2d508e236bf46ca38e4f591d4a8bc2"), looks := false }, kinds := [], alts := [], laidByText := true, laidKinds := [.data], laidTests := true, laidLooks := .later }
def TableBeginsUptoCardSaid : Prop := Claim7.holds Tryd.pinned (.plain (OpenSpec.upto tableBeginsSpec)) tableBeginsUptoCard

/-- THE SECOND FORM's CARD OF 'triggerstorelaw6.TableFinds'. -/
def tableFindsUptoCard : Claim7 := { stood := { row := tableFindsUptoRow, standIns := [], harness := (true, "5d35b1c6915f0f400628e6677b0bb3421d2d508e236bf46ca38e4f591d4a8bc2"), looks := false }, kinds := [], alts := [], laidByText := true, laidKinds := [.data], laidTests := true, laidLooks := .later }
def TableFindsUptoCardSaid : Prop := Claim7.holds Tryd.pinned (.plain (OpenSpec.upto tableFindsSpec)) tableFindsUptoCard

/-- THE SECOND FORM's CARD OF 'triggerstorelaw7.KeysForms'. -/
def keysFormsUptoCard : Claim7 := { stood := { row := keysFormsUptoRow, standIns := [], harness := (true, "5d35b1c6915f0f400628e6677b0bb3421d2d508e236bf46ca38e4f591d4a8bc2"), looks := false }, kinds := [], alts := [], laidByText := true, laidKinds := [.data], laidTests := true, laidLooks := .later }
def KeysFormsUptoCardSaid : Prop := Claim7.holds Tryd.pinned (.plain (OpenSpec.upto keysFormsSpec)) keysFormsUptoCard

/-- THE SECOND FORM's CARD OF 'triggerstorelaw7.KeysApplies'. -/
def keysAppliesUptoCard : Claim7 := { stood := { row := keysAppliesUptoRow, standIns := [], harness := (true, "5d35b1c6915f0f400628e6677b0bb3421d2d508e236bf46ca38e4f591d4a8bc2"), looks := false }, kinds := [], alts := [], laidByText := true, laidKinds := [.data], laidTests := true, laidLooks := .later }
def KeysAppliesUptoCardSaid : Prop := Claim7.holds Tryd.pinned (.plain (OpenSpec.upto keysAppliesSpec)) keysAppliesUptoCard
end Rows
end Go.Proofs.YtgaihglploedaaaDoor
