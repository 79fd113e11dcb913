/-
  NARROWER THAN 'FOR EVERY INPUT', by the rows' own cells (each row's printed sentence says how): LogicForms: laid · LogicLaws: laid · LogicCompares: laid.
  DERIVED. THE GIVEN ROWS OF THIS SEAT. 3 by the template 'for every input the law returns true; each argument reads behind the call as it read before'; 0 by the template 'total and deterministic' (their statements: YtlnjdgmolmeklaaDoorTotals.lean).
  GIVEN WITH THE SEED: the statements are not yours to turn. If you find one false, say at which input.
  Laid BY PROGRAM, IN A SANDBOX (cutbox-rows.mjs): the forced cells as the released guide's own fill.sh prints them over the translation e798f07b32c56089… (all of the seat's roots in one cut). By AI agents, Wed Nov 11 2026. No macro, syntax, notation, axiom, sorry.
-/
import Derived.Test.YtlnjdgmolmeklaaDoorChecked
import GoSem.Claim
import GoSem.ClaimJoined
import GoSem.ClaimMapViews
import Derived.JoinedTies
import Derived.KernelRfl
namespace Go.Proofs.YtlnjdgmolmeklaaDoor
/- THE CELL 'sum', in the pinned program and in every row, IS THE sha256 OF THE DUMP (.gsa) THAT YtlnjdgmolmeklaaDoorProg.lean LOADS. Nothing in Lean hashes anything: it is a label: what it is worth is what the hold of that sum in a sandbox is worth. -/
noncomputable def Tryd.pinned : Pinned := { name := "ytlnjdgmolmeklaadoor", sum := "e798f07b32c5608991a556790cbc3e875231b3856338993a30a2a7a231e9fdbb", checked := Tryd.checked }
namespace Rows
def none {H : Type} : Left H := { results := [], args := [] }

/- WHAT THE LISTED PACKAGE-LEVEL VARIABLES READ AS WHEN THE CALL BEGINS. Each datum BY PROGRAM (the guide's laid-datum.mjs) off the statement by which the dump's own 'gosem.cut.vars' lays the variable. In a bare row this is a premise. The card (YtlnjdgmolmeklaaDoorCards.lean) ties it to the program's text. -/
def laid_triggerstore_triggerstoreworld_words {H : Type} : DataW H := .agg [.lit (.string []), .lit (.string [97]), .lit (.string [98]), .lit (.string [105, 116, 39, 115]), .lit (.string [90, 32, 122]), .lit (.string [126])]
def laid_triggerstore_logic_andTable {H : Type} : DataW H := .agg [.agg [.lit (.int .i64 0), .lit (.int .i64 0), .lit (.int .i64 0)], .agg [.lit (.int .i64 0), .lit (.int .i64 1), .lit (.int .i64 1)], .agg [.lit (.int .i64 0), .lit (.int .i64 1), .lit (.int .i64 2)]]
def laid_triggerstore_logic_orTable {H : Type} : DataW H := .agg [.agg [.lit (.int .i64 0), .lit (.int .i64 1), .lit (.int .i64 2)], .agg [.lit (.int .i64 1), .lit (.int .i64 1), .lit (.int .i64 2)], .agg [.lit (.int .i64 2), .lit (.int .i64 2), .lit (.int .i64 2)]]

/-- 'triggerstorelaw2.LogicForms': WHATEVER THE INPUT: true; the input reads as it did. -/
def logicFormsSpec : ChangeSpec := { name := "logicForms", fn := fun _ => fun
  | [d1, d2, d3] => { results := [.lit (.bool true)], args := [d1, d2, d3] }
  | _ => none }
def logicFormsRow : OpenClaim := { program := "ytlnjdgmolmeklaadoor", sum := "e798f07b32c5608991a556790cbc3e875231b3856338993a30a2a7a231e9fdbb", func := "triggerstore/triggerstorelaw2.LogicForms", spec := "logicForms", inPlace := ["internal/bytealg.abigen_runtime_cmpstring"], named := ["triggerstore/triggerstoreworld.words", "triggerstore/logic.andTable", "triggerstore/logic.orTable"], apart := false, laid := [("triggerstore/triggerstoreworld.words", laid_triggerstore_triggerstoreworld_words), ("triggerstore/logic.andTable", laid_triggerstore_logic_andTable), ("triggerstore/logic.orTable", laid_triggerstore_logic_orTable)] }
def LogicFormsSaid : Prop := logicFormsRow.holds Tryd.pinned (OpenSpec.ofChange logicFormsSpec)

/-- ITS FALSE NEIGHBOUR: 'it returns false'. Refute it at one input. -/
def logicFormsWrong : ChangeSpec := { name := "logicForms", fn := fun _ => fun
  | [d1, d2, d3] => { results := [.lit (.bool false)], args := [d1, d2, d3] }
  | _ => none }
def LogicFormsWrongFalsely : Prop := logicFormsRow.holds Tryd.pinned (OpenSpec.ofChange logicFormsWrong)

/-- 'triggerstorelaw2.LogicLaws': WHATEVER THE INPUT: true; the input reads as it did. -/
def logicLawsSpec : ChangeSpec := { name := "logicLaws", fn := fun _ => fun
  | [d1, d2, d3] => { results := [.lit (.bool true)], args := [d1, d2, d3] }
  | _ => none }
def logicLawsRow : OpenClaim := { program := "ytlnjdgmolmeklaadoor", sum := "e798f07b32c5608991a556790cbc3e875231b3856338993a30a2a7a231e9fdbb", func := "triggerstore/triggerstorelaw2.LogicLaws", spec := "logicLaws", named := ["triggerstore/logic.andTable", "triggerstore/logic.orTable"], apart := false, laid := [("triggerstore/logic.andTable", laid_triggerstore_logic_andTable), ("triggerstore/logic.orTable", laid_triggerstore_logic_orTable)] }
def LogicLawsSaid : Prop := logicLawsRow.holds Tryd.pinned (OpenSpec.ofChange logicLawsSpec)

/-- ITS FALSE NEIGHBOUR: 'it returns false'. Refute it at one input. -/
def logicLawsWrong : ChangeSpec := { name := "logicLaws", fn := fun _ => fun
  | [d1, d2, d3] => { results := [.lit (.bool false)], args := [d1, d2, d3] }
  | _ => none }
def LogicLawsWrongFalsely : Prop := logicLawsRow.holds Tryd.pinned (OpenSpec.ofChange logicLawsWrong)

/-- 'triggerstorelaw2.LogicCompares': WHATEVER THE INPUT: true; the input reads as it did. -/
def logicComparesSpec : ChangeSpec := { name := "logicCompares", fn := fun _ => fun
  | [d1, d2] => { results := [.lit (.bool true)], args := [d1, d2] }
  | _ => none }
def logicComparesRow : OpenClaim := { program := "ytlnjdgmolmeklaadoor", sum := "e798f07b32c5608991a556790cbc3e875231b3856338993a30a2a7a231e9fdbb", func := "triggerstore/triggerstorelaw2.LogicCompares", spec := "logicCompares", inPlace := ["internal/bytealg.abigen_runtime_cmpstring"], named := ["triggerstore/triggerstoreworld.words", "triggerstore/logic.andTable"], apart := false, laid := [("triggerstore/triggerstoreworld.words", laid_triggerstore_triggerstoreworld_words), ("triggerstore/logic.andTable", laid_triggerstore_logic_andTable)] }
def LogicComparesSaid : Prop := logicComparesRow.holds Tryd.pinned (OpenSpec.ofChange logicComparesSpec)

/-- ITS FALSE NEIGHBOUR: 'it returns false'. Refute it at one input. -/
def logicComparesWrong : ChangeSpec := { name := "logicCompares", fn := fun _ => fun
  | [d1, d2] => { results := [.lit (.bool false)], args := [d1, d2] }
  | _ => none }
def LogicComparesWrongFalsely : Prop := logicComparesRow.holds Tryd.pinned (OpenSpec.ofChange logicComparesWrong)

/- THE SECOND FORM. 'bulk': how many values and letters a reading holds, each counted each time it is reached (what is shared counts as often as it is met; a slice's spare places count too). A statement '..UptoSaid' is the law's where the arguments, and the package variables that the reading takes, are together of bulk at most 1048576: NARROWER than '..Said'. Prove '..Said' where nothing that the law and all that it calls make is longer than what came in: it says more and counts as full. Else prove '..UptoSaid'. A law counts once. -/
mutual
def uptoBulk {H : Type} : DataW H → Nat
  | .lit (.string bytes) => bytes.length + 1
  | .lit _ => 1
  | .nil => 1
  | .ptr d => uptoBulk d + 1
  | .slice elems spare => uptoBulkAll elems + uptoBulkAll spare + 1
  | .agg parts => uptoBulkAll parts + 1
  | .iface _ d => uptoBulk d + 1
  | .map entries => uptoBulkEntries entries + 1
  | .held _ => 1
def uptoBulkAll {H : Type} : List (DataW H) → Nat
  | [] => 0
  | d :: r => uptoBulk d + uptoBulkAll r
def uptoBulkEntries {H : Type} : List (Lit × DataW H) → Nat
  | [] => 0
  | x :: r => uptoBulkEntry x + uptoBulkEntries r
def uptoBulkEntry {H : Type} : Lit × DataW H → Nat
  | (.string bytes, d) => bytes.length + uptoBulk d + 1
  | (_, d) => uptoBulk d + 1
 end
def uptoSmall : (H : Type) → List (DataW H) → Bool := fun _ ds => decide (uptoBulkAll ds ≤ 1048576)
def OpenSpec.upto (s : _root_.Go.ChangeSpec) : _root_.Go.OpenSpec := { _root_.Go.OpenSpec.ofChange s with cond := some uptoSmall }

/-- 'triggerstorelaw2.LogicForms', WHERE WHAT IT READS IS OF BULK AT MOST 1048576: true; the input reads as it did. -/
def logicFormsUptoRow : OpenClaim := { program := "ytlnjdgmolmeklaadoor", sum := "e798f07b32c5608991a556790cbc3e875231b3856338993a30a2a7a231e9fdbb", func := "triggerstore/triggerstorelaw2.LogicForms", spec := "logicForms", inPlace := ["internal/bytealg.abigen_runtime_cmpstring"], named := ["triggerstore/triggerstoreworld.words", "triggerstore/logic.andTable", "triggerstore/logic.orTable"], apart := false, laid := [("triggerstore/triggerstoreworld.words", laid_triggerstore_triggerstoreworld_words), ("triggerstore/logic.andTable", laid_triggerstore_logic_andTable), ("triggerstore/logic.orTable", laid_triggerstore_logic_orTable)], narrowed := true }
def LogicFormsUptoSaid : Prop := logicFormsUptoRow.holds Tryd.pinned (OpenSpec.upto logicFormsSpec)

/-- 'triggerstorelaw2.LogicLaws', WHERE WHAT IT READS IS OF BULK AT MOST 1048576: true; the input reads as it did. -/
def logicLawsUptoRow : OpenClaim := { program := "ytlnjdgmolmeklaadoor", sum := "e798f07b32c5608991a556790cbc3e875231b3856338993a30a2a7a231e9fdbb", func := "triggerstore/triggerstorelaw2.LogicLaws", spec := "logicLaws", named := ["triggerstore/logic.andTable", "triggerstore/logic.orTable"], apart := false, laid := [("triggerstore/logic.andTable", laid_triggerstore_logic_andTable), ("triggerstore/logic.orTable", laid_triggerstore_logic_orTable)], narrowed := true }
def LogicLawsUptoSaid : Prop := logicLawsUptoRow.holds Tryd.pinned (OpenSpec.upto logicLawsSpec)

/-- 'triggerstorelaw2.LogicCompares', WHERE WHAT IT READS IS OF BULK AT MOST 1048576: true; the input reads as it did. -/
def logicComparesUptoRow : OpenClaim := { program := "ytlnjdgmolmeklaadoor", sum := "e798f07b32c5608991a556790cbc3e875231b3856338993a30a2a7a231e9fdbb", func := "triggerstore/triggerstorelaw2.LogicCompares", spec := "logicCompares", inPlace := ["internal/bytealg.abigen_runtime_cmpstring"], named := ["triggerstore/triggerstoreworld.words", "triggerstore/logic.andTable"], apart := false, laid := [("triggerstore/triggerstoreworld.words", laid_triggerstore_triggerstoreworld_words), ("triggerstore/logic.andTable", laid_triggerstore_logic_andTable)], narrowed := true }
def LogicComparesUptoSaid : Prop := logicComparesUptoRow.holds Tryd.pinned (OpenSpec.upto logicComparesSpec)

end Rows
end Go.Proofs.YtlnjdgmolmeklaaDoor
