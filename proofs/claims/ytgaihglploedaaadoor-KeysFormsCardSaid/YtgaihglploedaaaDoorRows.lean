/-
  NARROWER THAN 'FOR EVERY INPUT', by the rows' own cells (each row's printed sentence says how): TupleFits: laid · TupleBags: laid · TupleSorts: laid · TupleDiffers: laid · TableForms: laid · TableBegins: laid · TableFinds: laid · KeysForms: laid · KeysApplies: laid.
  DERIVED. THE GIVEN ROWS OF THIS SEAT. 9 by the template 'for every input the law returns true; each argument reads behind the call as it read before'; 0 by the template 'total and deterministic' (their statements: YtgaihglploedaaaDoorTotals.lean).
  GIVEN WITH THE SEED: the statements are not yours to turn. If you find one false, say at which input.
  Laid BY PROGRAM, IN A SANDBOX (cutbox-rows.mjs): the forced cells as the released guide's own fill.sh prints them over the translation 1cdefc65d1f0cae0… (all of the seat's roots in one cut). By AI agents, Wed Nov 11 2026. No macro, syntax, notation, axiom, sorry.
-/
import Derived.Test.YtgaihglploedaaaDoorChecked
import GoSem.Claim
import GoSem.ClaimJoined
import GoSem.ClaimMapViews
import Derived.JoinedTies
import Derived.KernelRfl
namespace Go.Proofs.YtgaihglploedaaaDoor
/- THE CELL 'sum', in the pinned program and in every row, IS THE sha256 OF THE DUMP (.gsa) THAT YtgaihglploedaaaDoorProg.lean LOADS. Nothing in Lean hashes anything: it is a label: what it is worth is what the hold of that sum in a sandbox is worth. -/
noncomputable def Tryd.pinned : Pinned := { name := "ytgaihglploedaaadoor", sum := "1cdefc65d1f0cae0815c21f76bdbf2c1716445019d4db3b36e76773d9cf319af", checked := Tryd.checked }
namespace Rows
def none {H : Type} : Left H := { results := [], args := [] }

/- WHAT THE LISTED PACKAGE-LEVEL VARIABLES READ AS WHEN THE CALL BEGINS. Each datum BY PROGRAM (the guide's laid-datum.mjs) off the statement by which the dump's own 'gosem.cut.vars' lays the variable. In a bare row this is a premise. The card (YtgaihglploedaaaDoorCards.lean) ties it to the program's text. -/
def laid_triggerstore_triggerstoreworld_words {H : Type} : DataW H := .agg [.lit (.string []), .lit (.string [97]), .lit (.string [98]), .lit (.string [105, 116, 39, 115]), .lit (.string [90, 32, 122]), .lit (.string [126])]
def laid_triggerstore_triggerstoreworld_names {H : Type} : DataW H := .agg [.lit (.string [105, 100]), .lit (.string [110]), .lit (.string [109]), .lit (.string [98]), .lit (.string [115]), .lit (.string [120]), .lit (.string [97, 49, 95]), .lit (.string [97, 98, 99, 100, 101, 102, 103, 104, 105, 106, 107, 108])]

/-- 'triggerstorelaw5.TupleFits': WHATEVER THE INPUT: true; the input reads as it did. -/
def tupleFitsSpec : ChangeSpec := { name := "tupleFits", fn := fun _ => fun
  | [d1, d2, d3] => { results := [.lit (.bool true)], args := [d1, d2, d3] }
  | _ => none }
def tupleFitsRow : OpenClaim := { program := "ytgaihglploedaaadoor", sum := "1cdefc65d1f0cae0815c21f76bdbf2c1716445019d4db3b36e76773d9cf319af", func := "triggerstore/triggerstorelaw5.TupleFits", spec := "tupleFits", inPlace := ["internal/bytealg.abigen_runtime_cmpstring"], unfollowed := true, recurses := true, named := ["triggerstore/triggerstoreworld.names", "triggerstore/triggerstoreworld.words"], plainKeys := false, apart := false, laid := [("triggerstore/triggerstoreworld.words", laid_triggerstore_triggerstoreworld_words), ("triggerstore/triggerstoreworld.names", laid_triggerstore_triggerstoreworld_names)] }
def TupleFitsSaid : Prop := tupleFitsRow.holds Tryd.pinned (OpenSpec.ofChange tupleFitsSpec)

/-- ITS FALSE NEIGHBOUR: 'it returns false'. Refute it at one input. -/
def tupleFitsWrong : ChangeSpec := { name := "tupleFits", fn := fun _ => fun
  | [d1, d2, d3] => { results := [.lit (.bool false)], args := [d1, d2, d3] }
  | _ => none }
def TupleFitsWrongFalsely : Prop := tupleFitsRow.holds Tryd.pinned (OpenSpec.ofChange tupleFitsWrong)

/-- 'triggerstorelaw5.TupleBags': WHATEVER THE INPUT: true; the input reads as it did. -/
def tupleBagsSpec : ChangeSpec := { name := "tupleBags", fn := fun _ => fun
  | [d1, d2, d3] => { results := [.lit (.bool true)], args := [d1, d2, d3] }
  | _ => none }
def tupleBagsRow : OpenClaim := { program := "ytgaihglploedaaadoor", sum := "1cdefc65d1f0cae0815c21f76bdbf2c1716445019d4db3b36e76773d9cf319af", func := "triggerstore/triggerstorelaw5.TupleBags", spec := "tupleBags", inPlace := ["internal/bytealg.abigen_runtime_cmpstring"], unfollowed := true, recurses := true, named := ["triggerstore/triggerstoreworld.words"], plainKeys := false, apart := false, laid := [("triggerstore/triggerstoreworld.words", laid_triggerstore_triggerstoreworld_words)] }
def TupleBagsSaid : Prop := tupleBagsRow.holds Tryd.pinned (OpenSpec.ofChange tupleBagsSpec)

/-- ITS FALSE NEIGHBOUR: 'it returns false'. Refute it at one input. -/
def tupleBagsWrong : ChangeSpec := { name := "tupleBags", fn := fun _ => fun
  | [d1, d2, d3] => { results := [.lit (.bool false)], args := [d1, d2, d3] }
  | _ => none }
def TupleBagsWrongFalsely : Prop := tupleBagsRow.holds Tryd.pinned (OpenSpec.ofChange tupleBagsWrong)

/-- 'triggerstorelaw5.TupleSorts': WHATEVER THE INPUT: true; the input reads as it did. -/
def tupleSortsSpec : ChangeSpec := { name := "tupleSorts", fn := fun _ => fun
  | [d] => { results := [.lit (.bool true)], args := [d] }
  | _ => none }
def tupleSortsRow : OpenClaim := { program := "ytgaihglploedaaadoor", sum := "1cdefc65d1f0cae0815c21f76bdbf2c1716445019d4db3b36e76773d9cf319af", func := "triggerstore/triggerstorelaw5.TupleSorts", spec := "tupleSorts", inPlace := ["internal/bytealg.abigen_runtime_cmpstring"], unfollowed := true, recurses := true, named := ["triggerstore/triggerstoreworld.words"], plainKeys := false, apart := false, laid := [("triggerstore/triggerstoreworld.words", laid_triggerstore_triggerstoreworld_words)] }
def TupleSortsSaid : Prop := tupleSortsRow.holds Tryd.pinned (OpenSpec.ofChange tupleSortsSpec)

/-- ITS FALSE NEIGHBOUR: 'it returns false'. Refute it at one input. -/
def tupleSortsWrong : ChangeSpec := { name := "tupleSorts", fn := fun _ => fun
  | [d] => { results := [.lit (.bool false)], args := [d] }
  | _ => none }
def TupleSortsWrongFalsely : Prop := tupleSortsRow.holds Tryd.pinned (OpenSpec.ofChange tupleSortsWrong)

/-- 'triggerstorelaw5.TupleDiffers': WHATEVER THE INPUT: true; the input reads as it did. -/
def tupleDiffersSpec : ChangeSpec := { name := "tupleDiffers", fn := fun _ => fun
  | [d] => { results := [.lit (.bool true)], args := [d] }
  | _ => none }
def tupleDiffersRow : OpenClaim := { program := "ytgaihglploedaaadoor", sum := "1cdefc65d1f0cae0815c21f76bdbf2c1716445019d4db3b36e76773d9cf319af", func := "triggerstore/triggerstorelaw5.TupleDiffers", spec := "tupleDiffers", inPlace := ["internal/bytealg.abigen_runtime_cmpstring"], unfollowed := true, recurses := true, named := ["triggerstore/triggerstoreworld.words"], plainKeys := false, apart := false, laid := [("triggerstore/triggerstoreworld.words", laid_triggerstore_triggerstoreworld_words)] }
def TupleDiffersSaid : Prop := tupleDiffersRow.holds Tryd.pinned (OpenSpec.ofChange tupleDiffersSpec)

/-- ITS FALSE NEIGHBOUR: 'it returns false'. Refute it at one input. -/
def tupleDiffersWrong : ChangeSpec := { name := "tupleDiffers", fn := fun _ => fun
  | [d] => { results := [.lit (.bool false)], args := [d] }
  | _ => none }
def TupleDiffersWrongFalsely : Prop := tupleDiffersRow.holds Tryd.pinned (OpenSpec.ofChange tupleDiffersWrong)

/-- 'triggerstorelaw6.TableForms': WHATEVER THE INPUT: true; the input reads as it did. -/
def tableFormsSpec : ChangeSpec := { name := "tableForms", fn := fun _ => fun
  | [d1, d2, d3, d4] => { results := [.lit (.bool true)], args := [d1, d2, d3, d4] }
  | _ => none }
def tableFormsRow : OpenClaim := { program := "ytgaihglploedaaadoor", sum := "1cdefc65d1f0cae0815c21f76bdbf2c1716445019d4db3b36e76773d9cf319af", func := "triggerstore/triggerstorelaw6.TableForms", spec := "tableForms", inPlace := ["internal/bytealg.abigen_runtime_cmpstring"], unfollowed := true, recurses := true, named := ["triggerstore/triggerstoreworld.words", "triggerstore/triggerstoreworld.names"], plainKeys := false, apart := false, laid := [("triggerstore/triggerstoreworld.words", laid_triggerstore_triggerstoreworld_words), ("triggerstore/triggerstoreworld.names", laid_triggerstore_triggerstoreworld_names)] }
def TableFormsSaid : Prop := tableFormsRow.holds Tryd.pinned (OpenSpec.ofChange tableFormsSpec)

/-- ITS FALSE NEIGHBOUR: 'it returns false'. Refute it at one input. -/
def tableFormsWrong : ChangeSpec := { name := "tableForms", fn := fun _ => fun
  | [d1, d2, d3, d4] => { results := [.lit (.bool false)], args := [d1, d2, d3, d4] }
  | _ => none }
def TableFormsWrongFalsely : Prop := tableFormsRow.holds Tryd.pinned (OpenSpec.ofChange tableFormsWrong)

/-- 'triggerstorelaw6.TableBegins': WHATEVER THE INPUT: true; the input reads as it did. -/
def tableBeginsSpec : ChangeSpec := { name := "tableBegins", fn := fun _ => fun
  | [d1, d2] => { results := [.lit (.bool true)], args := [d1, d2] }
  | _ => none }
def tableBeginsRow : OpenClaim := { program := "ytgaihglploedaaadoor", sum := "1cdefc65d1f0cae0815c21f76bdbf2c1716445019d4db3b36e76773d9cf319af", func := "triggerstore/triggerstorelaw6.TableBegins", spec := "tableBegins", unfollowed := true, recurses := true, named := ["triggerstore/triggerstoreworld.names"], plainKeys := false, apart := false, laid := [("triggerstore/triggerstoreworld.names", laid_triggerstore_triggerstoreworld_names)] }
def TableBeginsSaid : Prop := tableBeginsRow.holds Tryd.pinned (OpenSpec.ofChange tableBeginsSpec)

/-- ITS FALSE NEIGHBOUR: 'it returns false'. Refute it at one input. -/
def tableBeginsWrong : ChangeSpec := { name := "tableBegins", fn := fun _ => fun
  | [d1, d2] => { results := [.lit (.bool false)], args := [d1, d2] }
  | _ => none }
def TableBeginsWrongFalsely : Prop := tableBeginsRow.holds Tryd.pinned (OpenSpec.ofChange tableBeginsWrong)

/-- 'triggerstorelaw6.TableFinds': WHATEVER THE INPUT: true; the input reads as it did. -/
def tableFindsSpec : ChangeSpec := { name := "tableFinds", fn := fun _ => fun
  | [d] => { results := [.lit (.bool true)], args := [d] }
  | _ => none }
def tableFindsRow : OpenClaim := { program := "ytgaihglploedaaadoor", sum := "1cdefc65d1f0cae0815c21f76bdbf2c1716445019d4db3b36e76773d9cf319af", func := "triggerstore/triggerstorelaw6.TableFinds", spec := "tableFinds", inPlace := ["internal/bytealg.abigen_runtime_cmpstring"], unfollowed := true, recurses := true, named := ["triggerstore/triggerstoreworld.words"], plainKeys := false, apart := false, laid := [("triggerstore/triggerstoreworld.words", laid_triggerstore_triggerstoreworld_words)] }
def TableFindsSaid : Prop := tableFindsRow.holds Tryd.pinned (OpenSpec.ofChange tableFindsSpec)

/-- ITS FALSE NEIGHBOUR: 'it returns false'. Refute it at one input. -/
def tableFindsWrong : ChangeSpec := { name := "tableFinds", fn := fun _ => fun
  | [d] => { results := [.lit (.bool false)], args := [d] }
  | _ => none }
def TableFindsWrongFalsely : Prop := tableFindsRow.holds Tryd.pinned (OpenSpec.ofChange tableFindsWrong)

/-- 'triggerstorelaw7.KeysForms': WHATEVER THE INPUT: true; the input reads as it did. -/
def keysFormsSpec : ChangeSpec := { name := "keysForms", fn := fun _ => fun
  | [d1, d2, d3] => { results := [.lit (.bool true)], args := [d1, d2, d3] }
  | _ => none }
def keysFormsRow : OpenClaim := { program := "ytgaihglploedaaadoor", sum := "1cdefc65d1f0cae0815c21f76bdbf2c1716445019d4db3b36e76773d9cf319af", func := "triggerstore/triggerstorelaw7.KeysForms", spec := "keysForms", inPlace := ["internal/bytealg.abigen_runtime_cmpstring"], unfollowed := true, recurses := true, named := ["triggerstore/triggerstoreworld.words"], plainKeys := false, apart := false, laid := [("triggerstore/triggerstoreworld.words", laid_triggerstore_triggerstoreworld_words)] }
def KeysFormsSaid : Prop := keysFormsRow.holds Tryd.pinned (OpenSpec.ofChange keysFormsSpec)

/-- ITS FALSE NEIGHBOUR: 'it returns false'. Refute it at one input. -/
def keysFormsWrong : ChangeSpec := { name := "keysForms", fn := fun _ => fun
  | [d1, d2, d3] => { results := [.lit (.bool false)], args := [d1, d2, d3] }
  | _ => none }
def KeysFormsWrongFalsely : Prop := keysFormsRow.holds Tryd.pinned (OpenSpec.ofChange keysFormsWrong)

/-- 'triggerstorelaw7.KeysApplies': WHATEVER THE INPUT: true; the input reads as it did. -/
def keysAppliesSpec : ChangeSpec := { name := "keysApplies", fn := fun _ => fun
  | [d] => { results := [.lit (.bool true)], args := [d] }
  | _ => none }
def keysAppliesRow : OpenClaim := { program := "ytgaihglploedaaadoor", sum := "1cdefc65d1f0cae0815c21f76bdbf2c1716445019d4db3b36e76773d9cf319af", func := "triggerstore/triggerstorelaw7.KeysApplies", spec := "keysApplies", inPlace := ["internal/bytealg.abigen_runtime_cmpstring"], unfollowed := true, recurses := true, named := ["triggerstore/triggerstoreworld.words"], plainKeys := false, apart := false, laid := [("triggerstore/triggerstoreworld.words", laid_triggerstore_triggerstoreworld_words)] }
def KeysAppliesSaid : Prop := keysAppliesRow.holds Tryd.pinned (OpenSpec.ofChange keysAppliesSpec)

/-- ITS FALSE NEIGHBOUR: 'it returns false'. Refute it at one input. -/
def keysAppliesWrong : ChangeSpec := { name := "keysApplies", fn := fun _ => fun
  | [d] => { results := [.lit (.bool false)], args := [d] }
  | _ => none }
def KeysAppliesWrongFalsely : Prop := keysAppliesRow.holds Tryd.pinned (OpenSpec.ofChange keysAppliesWrong)

/- THE SECOND FORM. 'bulk': how many values and letters a reading holds, each counted each time it is reached (what is shared counts as often as it is met; a slice's spare places count too). A statement '..UptoSaid' is the law's where the arguments, and the package variables that the reading takes, are together of bulk at most 1048576: NARROWER than '..Said'. Prove '..Said' where nothing that the law and all that it calls make is longer than what came in: it says more and counts as full. Else prove '..UptoSaid'. A law counts once. -/
mutual
def uptoBulk {H : Type} : DataW H → Nat
  | .lit (.string bytes) => bytes.length + 1
  | .lit _ => 1
  | .nil => 1
  | .ptr d => uptoBulk d + 1
  | .slice elems spare => uptoBulkAll elems + uptoBulkAll spare + 1
  | .agg parts => uptoBulkAll parts + 1
  | .iface _ d => uptoBulk d + 1
  | .map entries => uptoBulkEntries entries + 1
  | .held _ => 1
def uptoBulkAll {H : Type} : List (DataW H) → Nat
  | [] => 0
  | d :: r => uptoBulk d + uptoBulkAll r
def uptoBulkEntries {H : Type} : List (Lit × DataW H) → Nat
  | [] => 0
  | x :: r => uptoBulkEntry x + uptoBulkEntries r
def uptoBulkEntry {H : Type} : Lit × DataW H → Nat
  | (.string bytes, d) => bytes.length + uptoBulk d + 1
  | (_, d) => uptoBulk d + 1
 end
def uptoSmall : (H : Type) → List (DataW H) → Bool := fun _ ds => decide (uptoBulkAll ds ≤ 1048576)
def OpenSpec.upto (s : _root_.Go.ChangeSpec) : _root_.Go.OpenSpec := { _root_.Go.OpenSpec.ofChange s with cond := some uptoSmall }

/-- 'triggerstorelaw5.TupleFits', WHERE WHAT IT READS IS OF BULK AT MOST 1048576: true; the input reads as it did. -/
def tupleFitsUptoRow : OpenClaim := { program := "ytgaihglploedaaadoor", sum := "1cdefc65d1f0cae0815c21f76bdbf2c1716445019d4db3b36e76773d9cf319af", func := "triggerstore/triggerstorelaw5.TupleFits", spec := "tupleFits", inPlace := ["internal/bytealg.abigen_runtime_cmpstring"], unfollowed := true, recurses := true, named := ["triggerstore/triggerstoreworld.names", "triggerstore/triggerstoreworld.words"], plainKeys := false, apart := false, laid := [("triggerstore/triggerstoreworld.words", laid_triggerstore_triggerstoreworld_words), ("triggerstore/triggerstoreworld.names", laid_triggerstore_triggerstoreworld_names)], narrowed := true }
def TupleFitsUptoSaid : Prop := tupleFitsUptoRow.holds Tryd.pinned (OpenSpec.upto tupleFitsSpec)

/-- 'triggerstorelaw5.TupleBags', WHERE WHAT IT READS IS OF BULK AT MOST 1048576: true; the input reads as it did. -/
def tupleBagsUptoRow : OpenClaim := { program := "ytgaihglploedaaadoor", sum := "1cdefc65d1f0cae0815c21f76bdbf2c1716445019d4db3b36e76773d9cf319af", func := "triggerstore/triggerstorelaw5.TupleBags", spec := "tupleBags", inPlace := ["internal/bytealg.abigen_runtime_cmpstring"], unfollowed := true, recurses := true, named := ["triggerstore/triggerstoreworld.words"], plainKeys := false, apart := false, laid := [("triggerstore/triggerstoreworld.words", laid_triggerstore_triggerstoreworld_words)], narrowed := true }
def TupleBagsUptoSaid : Prop := tupleBagsUptoRow.holds Tryd.pinned (OpenSpec.upto tupleBagsSpec)

/-- 'triggerstorelaw5.TupleSorts', WHERE WHAT IT READS IS OF BULK AT MOST 1048576: true; the input reads as it did. -/
def tupleSortsUptoRow : OpenClaim := { program := "ytgaihglploedaaadoor", sum := "1cdefc65d1f0cae0815c21f76bdbf2c1716445019d4db3b36e76773d9cf319af", func := "triggerstore/triggerstorelaw5.TupleSorts", spec := "tupleSorts", inPlace := ["internal/bytealg.abigen_runtime_cmpstring"], unfollowed := true, recurses := true, named := ["triggerstore/triggerstoreworld.words"], plainKeys := false, apart := false, laid := [("triggerstore/triggerstoreworld.words", laid_triggerstore_triggerstoreworld_words)], narrowed := true }
def TupleSortsUptoSaid : Prop := tupleSortsUptoRow.holds Tryd.pinned (OpenSpec.upto tupleSortsSpec)

/-- 'triggerstorelaw5.TupleDiffers', WHERE WHAT IT READS IS OF BULK AT MOST 1048576: true; the input reads as it did. -/
def tupleDiffersUptoRow : OpenClaim := { program := "ytgaihglploedaaadoor", sum := "1cdefc65d1f0cae0815c21f76bdbf2c1716445019d4db3b36e76773d9cf319af", func := "triggerstore/triggerstorelaw5.TupleDiffers", spec := "tupleDiffers", inPlace := ["internal/bytealg.abigen_runtime_cmpstring"], unfollowed := true, recurses := true, named := ["triggerstore/triggerstoreworld.words"], plainKeys := false, apart := false, laid := [("triggerstore/triggerstoreworld.words", laid_triggerstore_triggerstoreworld_words)], narrowed := true }
def TupleDiffersUptoSaid : Prop := tupleDiffersUptoRow.holds Tryd.pinned (OpenSpec.upto tupleDiffersSpec)

/-- 'triggerstorelaw6.TableForms', WHERE WHAT IT READS IS OF BULK AT MOST 1048576: true; the input reads as it did. -/
def tableFormsUptoRow : OpenClaim := { program := "ytgaihglploedaaadoor", sum := "1cdefc65d1f0cae0815c21f76bdbf2c1716445019d4db3b36e76773d9cf319af", func := "triggerstore/triggerstorelaw6.TableForms", spec := "tableForms", inPlace := ["internal/bytealg.abigen_runtime_cmpstring"], unfollowed := true, recurses := true, named := ["triggerstore/triggerstoreworld.words", "triggerstore/triggerstoreworld.names"], plainKeys := false, apart := false, laid := [("triggerstore/triggerstoreworld.words", laid_triggerstore_triggerstoreworld_words), ("triggerstore/triggerstoreworld.names", laid_triggerstore_triggerstoreworld_names)], narrowed := true }
def TableFormsUptoSaid : Prop := tableFormsUptoRow.holds Tryd.pinned (OpenSpec.upto tableFormsSpec)

/-- 'triggerstorelaw6.TableBegins', WHERE WHAT IT READS IS OF BULK AT MOST 1048576: true; the input reads as it did. -/
def tableBeginsUptoRow : OpenClaim := { program := "ytgaihglploedaaadoor", sum := "1cdefc65d1f0cae0815c21f76bdbf2c1716445019d4db3b36e76773d9cf319af", func := "triggerstore/triggerstorelaw6.TableBegins", spec := "tableBegins", unfollowed := true, recurses := true, named := ["triggerstore/triggerstoreworld.names"], plainKeys := false, apart := false, laid := [("triggerstore/triggerstoreworld.names", laid_triggerstore_triggerstoreworld_names)], narrowed := true }
def TableBeginsUptoSaid : Prop := tableBeginsUptoRow.holds Tryd.pinned (OpenSpec.upto tableBeginsSpec)

/-- 'triggerstorelaw6.TableFinds', WHERE WHAT IT READS IS OF BULK AT MOST 1048576: true; the input reads as it did. -/
def tableFindsUptoRow : OpenClaim := { program := "ytgaihglploedaaadoor", sum := "1cdefc65d1f0cae0815c21f76bdbf2c1716445019d4db3b36e76773d9cf319af", func := "triggerstore/triggerstorelaw6.TableFinds", spec := "tableFinds", inPlace := ["internal/bytealg.abigen_runtime_cmpstring"], unfollowed := true, recurses := true, named := ["triggerstore/triggerstoreworld.words"], plainKeys := false, apart := false, laid := [("triggerstore/triggerstoreworld.words", laid_triggerstore_triggerstoreworld_words)], narrowed := true }
def TableFindsUptoSaid : Prop := tableFindsUptoRow.holds Tryd.pinned (OpenSpec.upto tableFindsSpec)

/-- 'triggerstorelaw7.KeysForms', WHERE WHAT IT READS IS OF BULK AT MOST 1048576: true; the input reads as it did. -/
def keysFormsUptoRow : OpenClaim := { program := "ytgaihglploedaaadoor", sum := "1cdefc65d1f0cae0815c21f76bdbf2c1716445019d4db3b36e76773d9cf319af", func := "triggerstore/triggerstorelaw7.KeysForms", spec := "keysForms", inPlace := ["internal/bytealg.abigen_runtime_cmpstring"], unfollowed := true, recurses := true, named := ["triggerstore/triggerstoreworld.words"], plainKeys := false, apart := false, laid := [("triggerstore/triggerstoreworld.words", laid_triggerstore_triggerstoreworld_words)], narrowed := true }
def KeysFormsUptoSaid : Prop := keysFormsUptoRow.holds Tryd.pinned (OpenSpec.upto keysFormsSpec)

/-- 'triggerstorelaw7.KeysApplies', WHERE WHAT IT READS IS OF BULK AT MOST 1048576: true; the input reads as it did. -/
def keysAppliesUptoRow : OpenClaim := { program := "ytgaihglploedaaadoor", sum := "1cdefc65d1f0cae0815c21f76bdbf2c1716445019d4db3b36e76773d9cf319af", func := "triggerstore/triggerstorelaw7.KeysApplies", spec := "keysApplies", inPlace := ["internal/bytealg.abigen_runtime_cmpstring"], unfollowed := true, recurses := true, named := ["triggerstore/triggerstoreworld.words"], plainKeys := false, apart := false, laid := [("triggerstore/triggerstoreworld.words", laid_triggerstore_triggerstoreworld_words)], narrowed := true }
def KeysAppliesUptoSaid : Prop := keysAppliesUptoRow.holds Tryd.pinned (OpenSpec.upto keysAppliesSpec)

end Rows
end Go.Proofs.YtgaihglploedaaaDoor
