/-
  NARROWER THAN 'FOR EVERY INPUT', by the rows' own cells (each row's printed sentence says how): SyntaxLevels: laid · SyntaxExprs: loops, laid.
  DERIVED. THE GIVEN ROWS OF THIS SEAT. 2 by the template 'for every input the law returns true; each argument reads behind the call as it read before'; 0 by the template 'total and deterministic' (their statements: YtdlehlbahkikgaaDoorTotals.lean).
  GIVEN WITH THE SEED: the statements are not yours to turn. If you find one false, say at which input.
  Laid BY PROGRAM, IN A SANDBOX (cutbox-rows.mjs): the forced cells as the released guide's own fill.sh prints them over the translation bd539cd4f79039e5… (all of the seat's roots in one cut). By AI agents, Wed Nov 11 2026. No macro, syntax, notation, axiom, sorry.
-/
import Derived.Test.YtdlehlbahkikgaaDoorChecked
import GoSem.Claim
import GoSem.ClaimJoined
import GoSem.ClaimMapViews
import Derived.JoinedTies
import Derived.KernelRfl
namespace Go.Proofs.YtdlehlbahkikgaaDoor
/- THE CELL 'sum', in the pinned program and in every row, IS THE sha256 OF THE DUMP (.gsa) THAT YtdlehlbahkikgaaDoorProg.lean LOADS. Nothing in Lean hashes anything: it is a label: what it is worth is what the hold of that sum in a sandbox is worth. -/
noncomputable def Tryd.pinned : Pinned := { name := "ytdlehlbahkikgaadoor", sum := "bd539cd4f79039e5f423be58b9e9e6742fde335f932e5b65e63ec2e2c93e9c1e", checked := Tryd.checked }
namespace Rows
def none {H : Type} : Left H := { results := [], args := [] }

/- WHAT THE LISTED PACKAGE-LEVEL VARIABLES READ AS WHEN THE CALL BEGINS. Each datum BY PROGRAM (the guide's laid-datum.mjs) off the statement by which the dump's own 'gosem.cut.vars' lays the variable. In a bare row this is a premise. The card (YtdlehlbahkikgaaDoorCards.lean) ties it to the program's text. -/
def laid_triggerstore_triggerstoreworld_words {H : Type} : DataW H := .agg [.lit (.string []), .lit (.string [97]), .lit (.string [98]), .lit (.string [105, 116, 39, 115]), .lit (.string [90, 32, 122]), .lit (.string [126])]
def laid_triggerstore_triggerstoreworld_names {H : Type} : DataW H := .agg [.lit (.string [105, 100]), .lit (.string [110]), .lit (.string [109]), .lit (.string [98]), .lit (.string [115]), .lit (.string [120]), .lit (.string [97, 49, 95]), .lit (.string [97, 98, 99, 100, 101, 102, 103, 104, 105, 106, 107, 108])]
def laid_triggerstore_syntax_exprUses {H : Type} : DataW H := .agg [.lit (.int .i64 0), .lit (.int .i64 4), .lit (.int .i64 24), .lit (.int .i64 32), .lit (.int .i64 32), .lit (.int .i64 33), .lit (.int .i64 34), .lit (.int .i64 32), .lit (.int .i64 64), .lit (.int .i64 64), .lit (.int .i64 64), .lit (.int .i64 64), .lit (.int .i64 64)]
def laid_triggerstore_syntax_operators {H : Type} : DataW H := .agg [.agg [.lit (.int .i64 0), .agg [.lit (.int .i64 0), .lit (.int .i64 0), .lit (.int .i64 0)]], .agg [.lit (.int .i64 1), .agg [.lit (.int .i64 1), .lit (.int .i64 2), .lit (.int .i64 0)]], .agg [.lit (.int .i64 2), .agg [.lit (.int .i64 2), .lit (.int .i64 3), .lit (.int .i64 0)]], .agg [.lit (.int .i64 4), .agg [.lit (.int .i64 5), .lit (.int .i64 5), .lit (.int .i64 0)]], .agg [.lit (.int .i64 4), .agg [.lit (.int .i64 5), .lit (.int .i64 5), .lit (.int .i64 0)]], .agg [.lit (.int .i64 4), .agg [.lit (.int .i64 5), .lit (.int .i64 5), .lit (.int .i64 0)]], .agg [.lit (.int .i64 4), .agg [.lit (.int .i64 5), .lit (.int .i64 5), .lit (.int .i64 0)]], .agg [.lit (.int .i64 4), .agg [.lit (.int .i64 5), .lit (.int .i64 5), .lit (.int .i64 0)]], .agg [.lit (.int .i64 4), .agg [.lit (.int .i64 5), .lit (.int .i64 5), .lit (.int .i64 0)]], .agg [.lit (.int .i64 5), .agg [.lit (.int .i64 5), .lit (.int .i64 6), .lit (.int .i64 0)]], .agg [.lit (.int .i64 5), .agg [.lit (.int .i64 5), .lit (.int .i64 6), .lit (.int .i64 0)]], .agg [.lit (.int .i64 6), .agg [.lit (.int .i64 6), .lit (.int .i64 7), .lit (.int .i64 0)]], .agg [.lit (.int .i64 6), .agg [.lit (.int .i64 6), .lit (.int .i64 7), .lit (.int .i64 0)]], .agg [.lit (.int .i64 6), .agg [.lit (.int .i64 6), .lit (.int .i64 7), .lit (.int .i64 0)]]]

/-- 'triggerstorelaw11.SyntaxLevels': WHATEVER THE INPUT: true; the input reads as it did. -/
def syntaxLevelsSpec : ChangeSpec := { name := "syntaxLevels", fn := fun _ => fun
  | [d] => { results := [.lit (.bool true)], args := [d] }
  | _ => none }
def syntaxLevelsRow : OpenClaim := { program := "ytdlehlbahkikgaadoor", sum := "bd539cd4f79039e5f423be58b9e9e6742fde335f932e5b65e63ec2e2c93e9c1e", func := "triggerstore/triggerstorelaw11.SyntaxLevels", spec := "syntaxLevels", recurses := true, named := ["triggerstore/triggerstoreworld.names", "triggerstore/triggerstoreworld.words", "triggerstore/syntax.operators", "triggerstore/syntax.exprUses"], apart := false, laid := [("triggerstore/triggerstoreworld.words", laid_triggerstore_triggerstoreworld_words), ("triggerstore/triggerstoreworld.names", laid_triggerstore_triggerstoreworld_names), ("triggerstore/syntax.exprUses", laid_triggerstore_syntax_exprUses), ("triggerstore/syntax.operators", laid_triggerstore_syntax_operators)] }
def SyntaxLevelsSaid : Prop := syntaxLevelsRow.holds Tryd.pinned (OpenSpec.ofChange syntaxLevelsSpec)

/-- ITS FALSE NEIGHBOUR: 'it returns false'. Refute it at one input. -/
def syntaxLevelsWrong : ChangeSpec := { name := "syntaxLevels", fn := fun _ => fun
  | [d] => { results := [.lit (.bool false)], args := [d] }
  | _ => none }
def SyntaxLevelsWrongFalsely : Prop := syntaxLevelsRow.holds Tryd.pinned (OpenSpec.ofChange syntaxLevelsWrong)

/-- 'triggerstorelaw11.SyntaxExprs': WHATEVER THE INPUT: true; the input reads as it did. -/
def syntaxExprsSpec : ChangeSpec := { name := "syntaxExprs", fn := fun _ => fun
  | [d1, d2] => { results := [.lit (.bool true)], args := [d1, d2] }
  | _ => none }
def syntaxExprsRow : OpenClaim := { program := "ytdlehlbahkikgaadoor", sum := "bd539cd4f79039e5f423be58b9e9e6742fde335f932e5b65e63ec2e2c93e9c1e", func := "triggerstore/triggerstorelaw11.SyntaxExprs", spec := "syntaxExprs", recurses := true, named := ["triggerstore/triggerstoreworld.names", "triggerstore/triggerstoreworld.words", "triggerstore/syntax.exprUses", "triggerstore/syntax.operators"], loops := true, apart := false, laid := [("triggerstore/triggerstoreworld.words", laid_triggerstore_triggerstoreworld_words), ("triggerstore/triggerstoreworld.names", laid_triggerstore_triggerstoreworld_names), ("triggerstore/syntax.exprUses", laid_triggerstore_syntax_exprUses), ("triggerstore/syntax.operators", laid_triggerstore_syntax_operators)] }
def SyntaxExprsSaid : Prop := syntaxExprsRow.holds Tryd.pinned (OpenSpec.ofChange syntaxExprsSpec)

/-- ITS FALSE NEIGHBOUR: 'it returns false'. Refute it at one input. -/
def syntaxExprsWrong : ChangeSpec := { name := "syntaxExprs", fn := fun _ => fun
  | [d1, d2] => { results := [.lit (.bool false)], args := [d1, d2] }
  | _ => none }
def SyntaxExprsWrongFalsely : Prop := syntaxExprsRow.holds Tryd.pinned (OpenSpec.ofChange syntaxExprsWrong)

/- THE SECOND FORM. 'bulk': how many values and letters a reading holds, each counted each time it is reached (what is shared counts as often as it is met; a slice's spare places count too). A statement '..UptoSaid' is the law's where the arguments, and the package variables that the reading takes, are together of bulk at most 1048576: NARROWER than '..Said'. Prove '..Said' where nothing that the law and all that it calls make is longer than what came in: it says more and counts as full. Else prove '..UptoSaid'. A law counts once. -/
mutual
def uptoBulk {H : Type} : DataW H → Nat
  | .lit (.string bytes) => bytes.length + 1
  | .lit _ => 1
  | .nil => 1
  | .ptr d => uptoBulk d + 1
  | .slice elems spare => uptoBulkAll elems + uptoBulkAll spare + 1
  | .agg parts => uptoBulkAll parts + 1
  | .iface _ d => uptoBulk d + 1
  | .map entries => uptoBulkEntries entries + 1
  | .held _ => 1
def uptoBulkAll {H : Type} : List (DataW H) → Nat
  | [] => 0
  | d :: r => uptoBulk d + uptoBulkAll r
def uptoBulkEntries {H : Type} : List (Lit × DataW H) → Nat
  | [] => 0
  | x :: r => uptoBulkEntry x + uptoBulkEntries r
def uptoBulkEntry {H : Type} : Lit × DataW H → Nat
  | (.string bytes, d) => bytes.length + uptoBulk d + 1
  | (_, d) => uptoBulk d + 1
 end
def uptoSmall : (H : Type) → List (DataW H) → Bool := fun _ ds => decide (uptoBulkAll ds ≤ 1048576)
def OpenSpec.upto (s : _root_.Go.ChangeSpec) : _root_.Go.OpenSpec := { _root_.Go.OpenSpec.ofChange s with cond := some uptoSmall }

/-- 'triggerstorelaw11.SyntaxLevels', WHERE WHAT IT READS IS OF BULK AT MOST 1048576: true; the input reads as it did. -/
def syntaxLevelsUptoRow : OpenClaim := { program := "ytdlehlbahkikgaadoor", sum := "bd539cd4f79039e5f423be58b9e9e6742fde335f932e5b65e63ec2e2c93e9c1e", func := "triggerstore/triggerstorelaw11.SyntaxLevels", spec := "syntaxLevels", recurses := true, named := ["triggerstore/triggerstoreworld.names", "triggerstore/triggerstoreworld.words", "triggerstore/syntax.operators", "triggerstore/syntax.exprUses"], apart := false, laid := [("triggerstore/triggerstoreworld.words", laid_triggerstore_triggerstoreworld_words), ("triggerstore/triggerstoreworld.names", laid_triggerstore_triggerstoreworld_names), ("triggerstore/syntax.exprUses", laid_triggerstore_syntax_exprUses), ("triggerstore/syntax.operators", laid_triggerstore_syntax_operators)], narrowed := true }
def SyntaxLevelsUptoSaid : Prop := syntaxLevelsUptoRow.holds Tryd.pinned (OpenSpec.upto syntaxLevelsSpec)

/-- 'triggerstorelaw11.SyntaxExprs', WHERE WHAT IT READS IS OF BULK AT MOST 1048576: true; the input reads as it did. -/
def syntaxExprsUptoRow : OpenClaim := { program := "ytdlehlbahkikgaadoor", sum := "bd539cd4f79039e5f423be58b9e9e6742fde335f932e5b65e63ec2e2c93e9c1e", func := "triggerstore/triggerstorelaw11.SyntaxExprs", spec := "syntaxExprs", recurses := true, named := ["triggerstore/triggerstoreworld.names", "triggerstore/triggerstoreworld.words", "triggerstore/syntax.exprUses", "triggerstore/syntax.operators"], loops := true, apart := false, laid := [("triggerstore/triggerstoreworld.words", laid_triggerstore_triggerstoreworld_words), ("triggerstore/triggerstoreworld.names", laid_triggerstore_triggerstoreworld_names), ("triggerstore/syntax.exprUses", laid_triggerstore_syntax_exprUses), ("triggerstore/syntax.operators", laid_triggerstore_syntax_operators)], narrowed := true }
def SyntaxExprsUptoSaid : Prop := syntaxExprsUptoRow.holds Tryd.pinned (OpenSpec.upto syntaxExprsSpec)

end Rows
end Go.Proofs.YtdlehlbahkikgaaDoor
