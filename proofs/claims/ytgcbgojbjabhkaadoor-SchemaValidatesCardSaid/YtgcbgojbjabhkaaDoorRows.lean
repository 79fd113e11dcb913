/-
  NARROWER THAN 'FOR EVERY INPUT', by the rows' own cells (each row's printed sentence says how): SchemaNames: laid · SchemaValidates: laid · SchemaFits: laid.
  DERIVED. THE GIVEN ROWS OF THIS SEAT. 3 by the template 'for every input the law returns true; each argument reads behind the call as it read before'; 0 by the template 'total and deterministic' (their statements: YtgcbgojbjabhkaaDoorTotals.lean).
  GIVEN WITH THE SEED: the statements are not yours to turn. If you find one false, say at which input.
  Laid BY PROGRAM, IN A SANDBOX (cutbox-rows.mjs): the forced cells as the released guide's own fill.sh prints them over the translation 0684e2ec44a15f4a… (all of the seat's roots in one cut). By AI agents, Wed Nov 11 2026. No macro, syntax, notation, axiom, sorry.
-/
import Derived.Test.YtgcbgojbjabhkaaDoorChecked
import GoSem.Claim
import GoSem.ClaimJoined
import GoSem.ClaimMapViews
import Derived.JoinedTies
import Derived.KernelRfl
namespace Go.Proofs.YtgcbgojbjabhkaaDoor
/- THE CELL 'sum', in the pinned program and in every row, IS THE sha256 OF THE DUMP (.gsa) THAT YtgcbgojbjabhkaaDoorProg.lean LOADS. Nothing in Lean hashes anything: it is a label: what it is worth is what the hold of that sum in a sandbox is worth. -/
noncomputable def Tryd.pinned : Pinned := { name := "ytgcbgojbjabhkaadoor", sum := "0684e2ec44a15f4af2f692e93b3789cbf3bb09b5092ae975636ac9961a671702", checked := Tryd.checked }
namespace Rows
def none {H : Type} : Left H := { results := [], args := [] }

/- WHAT THE LISTED PACKAGE-LEVEL VARIABLES READ AS WHEN THE CALL BEGINS. Each datum BY PROGRAM (the guide's laid-datum.mjs) off the statement by which the dump's own 'gosem.cut.vars' lays the variable. In a bare row this is a premise. The card (YtgcbgojbjabhkaaDoorCards.lean) ties it to the program's text. -/
def laid_triggerstore_triggerstoreworld_names {H : Type} : DataW H := .agg [.lit (.string [105, 100]), .lit (.string [110]), .lit (.string [109]), .lit (.string [98]), .lit (.string [115]), .lit (.string [120]), .lit (.string [97, 49, 95]), .lit (.string [97, 98, 99, 100, 101, 102, 103, 104, 105, 106, 107, 108])]
def laid_triggerstore_schema_keywords {H : Type} : DataW H := .agg [.lit (.string [65, 66, 79, 82, 84]), .lit (.string [65, 70, 84, 69, 82]), .lit (.string [65, 78, 68]), .lit (.string [66, 69, 70, 79, 82, 69]), .lit (.string [66, 69, 71, 73, 78]), .lit (.string [66, 69, 84, 87, 69, 69, 78]), .lit (.string [66, 79, 79, 76]), .lit (.string [67, 79, 85, 78, 84]), .lit (.string [67, 82, 69, 65, 84, 69]), .lit (.string [68, 69, 76, 69, 84, 69]), .lit (.string [68, 69, 76, 69, 84, 69, 68]), .lit (.string [68, 82, 79, 80]), .lit (.string [69, 65, 67, 72]), .lit (.string [69, 78, 68]), .lit (.string [69, 88, 73, 83, 84, 83]), .lit (.string [70, 65, 76, 83, 69]), .lit (.string [70, 79, 76, 76, 79, 87, 83]), .lit (.string [70, 79, 82]), .lit (.string [70, 82, 79, 77]), .lit (.string [73, 78, 83, 69, 82, 84]), .lit (.string [73, 78, 83, 69, 82, 84, 69, 68]), .lit (.string [73, 78, 84]), .lit (.string [73, 78, 84, 79]), .lit (.string [73, 83]), .lit (.string [75, 69, 89]), .lit (.string [77, 65, 88]), .lit (.string [77, 73, 78]), .lit (.string [78, 69, 87]), .lit (.string [78, 79, 84]), .lit (.string [78, 85, 76, 76]), .lit (.string [79, 70]), .lit (.string [79, 76, 68]), .lit (.string [79, 78]), .lit (.string [79, 82]), .lit (.string [80, 82, 69, 67, 69, 68, 69, 83]), .lit (.string [80, 82, 73, 77, 65, 82, 89]), .lit (.string [82, 65, 78, 75]), .lit (.string [82, 79, 87]), .lit (.string [83, 69, 76, 69, 67, 84]), .lit (.string [83, 69, 84]), .lit (.string [83, 84, 65, 84, 69, 77, 69, 78, 84]), .lit (.string [83, 85, 77]), .lit (.string [84, 65, 66, 76, 69]), .lit (.string [84, 69, 88, 84]), .lit (.string [84, 79]), .lit (.string [84, 82, 73, 71, 71, 69, 82]), .lit (.string [84, 82, 85, 69]), .lit (.string [85, 80, 68, 65, 84, 69]), .lit (.string [86, 65, 76, 85, 69, 83]), .lit (.string [87, 72, 69, 78]), .lit (.string [87, 72, 69, 82, 69])]
def laid_triggerstore_triggerstoreworld_words {H : Type} : DataW H := .agg [.lit (.string []), .lit (.string [97]), .lit (.string [98]), .lit (.string [105, 116, 39, 115]), .lit (.string [90, 32, 122]), .lit (.string [126])]

/-- 'triggerstorelaw4.SchemaNames': WHATEVER THE INPUT: true; the input reads as it did. -/
def schemaNamesSpec : ChangeSpec := { name := "schemaNames", fn := fun _ => fun
  | [d1, d2, d3, d4] => { results := [.lit (.bool true)], args := [d1, d2, d3, d4] }
  | _ => none }
def schemaNamesRow : OpenClaim := { program := "ytgcbgojbjabhkaadoor", sum := "0684e2ec44a15f4af2f692e93b3789cbf3bb09b5092ae975636ac9961a671702", func := "triggerstore/triggerstorelaw4.SchemaNames", spec := "schemaNames", inPlace := ["internal/bytealg.IndexByteString", "internal/bytealg.IndexString"], named := ["triggerstore/triggerstoreworld.names", "triggerstore/schema.keywords", "internal/bytealg.MaxLen"], apart := false, laid := [("triggerstore/triggerstoreworld.names", laid_triggerstore_triggerstoreworld_names), ("triggerstore/schema.keywords", laid_triggerstore_schema_keywords)] }
def SchemaNamesSaid : Prop := schemaNamesRow.holds Tryd.pinned (OpenSpec.ofChange schemaNamesSpec)

/-- ITS FALSE NEIGHBOUR: 'it returns false'. Refute it at one input. -/
def schemaNamesWrong : ChangeSpec := { name := "schemaNames", fn := fun _ => fun
  | [d1, d2, d3, d4] => { results := [.lit (.bool false)], args := [d1, d2, d3, d4] }
  | _ => none }
def SchemaNamesWrongFalsely : Prop := schemaNamesRow.holds Tryd.pinned (OpenSpec.ofChange schemaNamesWrong)

/-- 'triggerstorelaw4.SchemaValidates': WHATEVER THE INPUT: true; the input reads as it did. -/
def schemaValidatesSpec : ChangeSpec := { name := "schemaValidates", fn := fun _ => fun
  | [d1, d2, d3] => { results := [.lit (.bool true)], args := [d1, d2, d3] }
  | _ => none }
def schemaValidatesRow : OpenClaim := { program := "ytgcbgojbjabhkaadoor", sum := "0684e2ec44a15f4af2f692e93b3789cbf3bb09b5092ae975636ac9961a671702", func := "triggerstore/triggerstorelaw4.SchemaValidates", spec := "schemaValidates", named := ["triggerstore/triggerstoreworld.names", "triggerstore/schema.keywords"], apart := false, laid := [("triggerstore/triggerstoreworld.names", laid_triggerstore_triggerstoreworld_names), ("triggerstore/schema.keywords", laid_triggerstore_schema_keywords)] }
def SchemaValidatesSaid : Prop := schemaValidatesRow.holds Tryd.pinned (OpenSpec.ofChange schemaValidatesSpec)

/-- ITS FALSE NEIGHBOUR: 'it returns false'. Refute it at one input. -/
def schemaValidatesWrong : ChangeSpec := { name := "schemaValidates", fn := fun _ => fun
  | [d1, d2, d3] => { results := [.lit (.bool false)], args := [d1, d2, d3] }
  | _ => none }
def SchemaValidatesWrongFalsely : Prop := schemaValidatesRow.holds Tryd.pinned (OpenSpec.ofChange schemaValidatesWrong)

/-- 'triggerstorelaw4.SchemaFits': WHATEVER THE INPUT: true; the input reads as it did. -/
def schemaFitsSpec : ChangeSpec := { name := "schemaFits", fn := fun _ => fun
  | [d1, d2, d3] => { results := [.lit (.bool true)], args := [d1, d2, d3] }
  | _ => none }
def schemaFitsRow : OpenClaim := { program := "ytgcbgojbjabhkaadoor", sum := "0684e2ec44a15f4af2f692e93b3789cbf3bb09b5092ae975636ac9961a671702", func := "triggerstore/triggerstorelaw4.SchemaFits", spec := "schemaFits", named := ["triggerstore/triggerstoreworld.words", "triggerstore/schema.keywords"], apart := false, laid := [("triggerstore/triggerstoreworld.words", laid_triggerstore_triggerstoreworld_words), ("triggerstore/schema.keywords", laid_triggerstore_schema_keywords)] }
def SchemaFitsSaid : Prop := schemaFitsRow.holds Tryd.pinned (OpenSpec.ofChange schemaFitsSpec)

/-- ITS FALSE NEIGHBOUR: 'it returns false'. Refute it at one input. -/
def schemaFitsWrong : ChangeSpec := { name := "schemaFits", fn := fun _ => fun
  | [d1, d2, d3] => { results := [.lit (.bool false)], args := [d1, d2, d3] }
  | _ => none }
def SchemaFitsWrongFalsely : Prop := schemaFitsRow.holds Tryd.pinned (OpenSpec.ofChange schemaFitsWrong)

/- THE SECOND FORM. 'bulk': how many values and letters a reading holds, each counted each time it is reached (what is shared counts as often as it is met; a slice's spare places count too). A statement '..UptoSaid' is the law's where the arguments, and the package variables that the reading takes, are together of bulk at most 1048576: NARROWER than '..Said'. Prove '..Said' where nothing that the law and all that it calls make is longer than what came in: it says more and counts as full. Else prove '..UptoSaid'. A law counts once. -/
mutual
def uptoBulk {H : Type} : DataW H → Nat
  | .lit (.string bytes) => bytes.length + 1
  | .lit _ => 1
  | .nil => 1
  | .ptr d => uptoBulk d + 1
  | .slice elems spare => uptoBulkAll elems + uptoBulkAll spare + 1
  | .agg parts => uptoBulkAll parts + 1
  | .iface _ d => uptoBulk d + 1
  | .map entries => uptoBulkEntries entries + 1
  | .held _ => 1
def uptoBulkAll {H : Type} : List (DataW H) → Nat
  | [] => 0
  | d :: r => uptoBulk d + uptoBulkAll r
def uptoBulkEntries {H : Type} : List (Lit × DataW H) → Nat
  | [] => 0
  | x :: r => uptoBulkEntry x + uptoBulkEntries r
def uptoBulkEntry {H : Type} : Lit × DataW H → Nat
  | (.string bytes, d) => bytes.length + uptoBulk d + 1
  | (_, d) => uptoBulk d + 1
 end
def uptoSmall : (H : Type) → List (DataW H) → Bool := fun _ ds => decide (uptoBulkAll ds ≤ 1048576)
def OpenSpec.upto (s : _root_.Go.ChangeSpec) : _root_.Go.OpenSpec := { _root_.Go.OpenSpec.ofChange s with cond := some uptoSmall }

/-- 'triggerstorelaw4.SchemaNames', WHERE WHAT IT READS IS OF BULK AT MOST 1048576: true; the input reads as it did. -/
def schemaNamesUptoRow : OpenClaim := { program := "ytgcbgojbjabhkaadoor", sum := "0684e2ec44a15f4af2f692e93b3789cbf3bb09b5092ae975636ac9961a671702", func := "triggerstore/triggerstorelaw4.SchemaNames", spec := "schemaNames", inPlace := ["internal/bytealg.IndexByteString", "internal/bytealg.IndexString"], named := ["triggerstore/triggerstoreworld.names", "triggerstore/schema.keywords", "internal/bytealg.MaxLen"], apart := false, laid := [("triggerstore/triggerstoreworld.names", laid_triggerstore_triggerstoreworld_names), ("triggerstore/schema.keywords", laid_triggerstore_schema_keywords)], narrowed := true }
def SchemaNamesUptoSaid : Prop := schemaNamesUptoRow.holds Tryd.pinned (OpenSpec.upto schemaNamesSpec)

/-- 'triggerstorelaw4.SchemaValidates', WHERE WHAT IT READS IS OF BULK AT MOST 1048576: true; the input reads as it did. -/
def schemaValidatesUptoRow : OpenClaim := { program := "ytgcbgojbjabhkaadoor", sum := "0684e2ec44a15f4af2f692e93b3789cbf3bb09b5092ae975636ac9961a671702", func := "triggerstore/triggerstorelaw4.SchemaValidates", spec := "schemaValidates", named := ["triggerstore/triggerstoreworld.names", "triggerstore/schema.keywords"], apart := false, laid := [("triggerstore/triggerstoreworld.names", laid_triggerstore_triggerstoreworld_names), ("triggerstore/schema.keywords", laid_triggerstore_schema_keywords)], narrowed := true }
def SchemaValidatesUptoSaid : Prop := schemaValidatesUptoRow.holds Tryd.pinned (OpenSpec.upto schemaValidatesSpec)

/-- 'triggerstorelaw4.SchemaFits', WHERE WHAT IT READS IS OF BULK AT MOST 1048576: true; the input reads as it did. -/
def schemaFitsUptoRow : OpenClaim := { program := "ytgcbgojbjabhkaadoor", sum := "0684e2ec44a15f4af2f692e93b3789cbf3bb09b5092ae975636ac9961a671702", func := "triggerstore/triggerstorelaw4.SchemaFits", spec := "schemaFits", named := ["triggerstore/triggerstoreworld.words", "triggerstore/schema.keywords"], apart := false, laid := [("triggerstore/triggerstoreworld.words", laid_triggerstore_triggerstoreworld_words), ("triggerstore/schema.keywords", laid_triggerstore_schema_keywords)], narrowed := true }
def SchemaFitsUptoSaid : Prop := schemaFitsUptoRow.holds Tryd.pinned (OpenSpec.upto schemaFitsSpec)

end Rows
end Go.Proofs.YtgcbgojbjabhkaaDoor
