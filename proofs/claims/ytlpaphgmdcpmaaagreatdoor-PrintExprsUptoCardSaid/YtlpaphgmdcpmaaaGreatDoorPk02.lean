/-
  Several texts in one.
-/
import Derived.Test.YtlpaphgmdcpmaaaGreatDoorRows
import Derived.Test.YtlpaphgmdcpmaaaGreatDoorPk01
import Derived.ProofKit
import Derived.OpenShut
import Derived.Deep.DeepHandedRow
import Derived.Lib.LaidTab
import Derived.Lib.LaidU8
import Derived.Lay
import Derived.LaidMore
import Derived.SevenTiedAt
import Derived.MakeChecks
import Derived.Clock
import Derived.Shelf.Vars
import Derived.Stop.LaidErr
import Derived.Lib.SmallJoins
import Derived.Deep.Slices
import Derived.Lib.Strings
import Derived.Below
import Derived.Lib.Itoa
import Derived.Lib.Replace
import Derived.Lib.Bytealg
import Derived.Lib.Small
/-
  FROM A WALK TO A STATEMENT: what all laws share. The listed variables give the environment; a law that turns nothing old leaves its arguments as they were.
-/
namespace Go.Proofs.YtlpaphgmdcpmaaaGreatDoor
set_option maxRecDepth 100000
open Go.ChangeShapes Go.WideShapes Go.ChangeAt Go.RowKit

theorem own : ownKnob Tryz.prog.godebug = none := by kernel_rfl
theorem laidOut : laidOutB Tryz.prog = true := by kernel_rfl

section
variable {H : Type} {enc : TypeId × Value → H} {P : Program}
theorem trodAll_below (hl : laidOutB P = true) {W W' : World} (hb : Below W.heap.size W W') : ∀ (ts : List TypeId) (vs : List Value) (ds : List (DataW H)) (ps : List MemPlace),
    (ts.all fun t => P.readableRec t && decide (t < P.types.size)) = true → DataW.TrodAll enc P W 0 (fun _ => true) true ts vs ds ps → (∀ x ∈ ps, x.block < W.heap.size) →
    DataW.TrodAll enc P W' 0 (fun b => decide (b < W.heap.size)) true ts vs ds ps
  | [], vs, ds, ps, _, h, _ => by
    obtain ⟨rfl, rfl, rfl⟩ := trodAll_nil h
    exact trodAll_mk0
  | t :: ts, vs, ds, ps, hr, h, hp => by
    obtain ⟨v, vs, d, ds, p, q, rfl, rfl, rfl, h1, h2⟩ := trodAll_cons h
    simp only [List.all_cons, Bool.and_eq_true, decide_eq_true_eq] at hr
    exact trodAll_cons_mk (Below.trod hl hr.1.1 hr.1.2 h1 hb (fun x hx => hp x (List.mem_append.2 (Or.inl hx))))
      (trodAll_below hl hb ts vs ds q hr.2 h2 (fun x hx => hp x (List.mem_append.2 (Or.inr hx))))
end

/-- A law that returns true and turns nothing old. -/
theorem law_post {H : Type} {enc : TypeId × Value → H} {s : ChangeSpec} {f : Func} {W W' : World} {args : Array Value} {ds gs : List (DataW H)} {before : List MemPlace}
    (hv : s.vars = []) (hf : f.resultTypes = #[4]) (hr : (f.params.toList.all fun t => Tryz.prog.readableRec t && decide (t < Tryz.prog.types.size)) = true)
    (hW : DataW.Whole enc Tryz.prog f.params.toList s.vars false W args.toList ds gs before)
    (hfn : s.fn H ds = { results := [.lit (.bool true)], args := ds }) (hb : Below W.heap.size W W') :
    s.post enc Tryz.prog f false true false false W args (.bool true) W' := by
  have hW' := hW
  have hlt := hW.lt
  obtain ⟨p, q, hA, hV, rfl, hfz, hnd⟩ := hW
  rw [hv] at hV
  obtain ⟨rfl, rfl⟩ := trodVars_none hV
  refine ⟨ds, [], p ++ [], [], p, [], hW', ?_, ?_, ?_, hb.frame _, fun h => by cases h⟩
  · rw [List.append_nil, hfn, hf]
    exact trodAll_mk1 (shut_bool Tryz.underlying4 true)
  · rw [List.append_nil, hfn]
    exact trodAll_below laidOut hb _ _ _ _ hr hA (fun x hx => hlt x (List.mem_append.2 (Or.inl hx)))
  · rw [List.append_nil, hfn, hv]
    rfl

/-- A cell of a listed array of strings. -/
theorem text_cell {W : World} {n : String} {g t : Nat} {l : List (List UInt8)} (hg : Tryz.prog.globalNamed n = some g) (hty : (Tryz.prog.globals[g]?).map (·.type) = some t)
    (ht : Tryz.prog.underlying t = some (.array l.length 9)) (h : Lib.VarReads Tryz.prog W n (.agg (l.map fun b => .lit (.string b)))) (i : Nat) (hi : i < l.length) :
    W.cell? ⟨g, i, none⟩ = some (.string ⟨(l.getD i []).toArray⟩) := by
  obtain ⟨g', t', cs, fuel, p, hg', ht', hv, hd⟩ := h
  obtain rfl := Option.some.inj (hg.symm.trans hg')
  obtain rfl := Option.some.inj (hty.symm.trans ht')
  obtain ⟨xs, m, _, ex, _, hl, hel⟩ := DataW.trod_array ht hd
  have c9 : Tryz.prog.cellsOf 9 = 1 := by kernel_rfl
  have hE := hel i hi
  rw [c9, Nat.mul_one, List.getElem?_eq_getElem (by omega)] at hE
  obtain ⟨s, e1, e2, _⟩ := DataW.trod_string Tryz.underlying9 hE
  have e3 : (xs.map (·.1)) = l.map fun b => .lit (.string b) := (DataW.agg.inj (Prod.mk.inj ex).1).symm
  have e4 : (xs.map (·.1))[i]? = (l.map fun b => (DataW.lit (.string b) : DataW Unit))[i]? := by rw [e3]
  rw [List.getElem?_map, List.getElem?_map, List.getElem?_eq_getElem (by omega : i < xs.length), List.getElem?_eq_getElem hi, e2] at e4
  have hs : s = ⟨(l.getD i []).toArray⟩ := by
    simp only [Option.map_some, Option.some.injEq, DataW.lit.injEq, Lit.string.injEq] at e4
    apply bytes_inj
    rw [e4, List.getD, List.getElem?_eq_getElem hi]; simp
  rw [World.var?_cell hg hv i, ← hs]
  have : cs.toList[i]? = some (.string s) := by
    have h0 : ((cs.toList.drop i).take 1)[0]? = some (.string s) := by rw [e1]; rfl
    simpa using h0
  simpa using this

theorem table_is {W : World} {n : String} {g t : Nat} {k : IntKind} {e : TypeId} {zs : List Int} {d : DataW Unit} (hg : Tryz.prog.globalNamed n = some g) (hty : (Tryz.prog.globals[g]?).map (·.type) = some t)
    (ht : Tryz.prog.underlying t = some (.array zs.length e)) (he : Tryz.prog.underlying e = some (.int k)) (hce : Tryz.prog.cellsOf e = 1) (hct : Tryz.prog.cellsOf t = zs.length) (hd : d = Lib.tabData k zs) (h : Lib.VarReads Tryz.prog W n d) :
    Lib.TabIs Tryz.prog W n k zs := by
  subst hd
  obtain ⟨g', t', cs, fuel, p, hg', ht', hv, hd⟩ := h
  obtain rfl := Option.some.inj (hg.symm.trans hg')
  obtain rfl := Option.some.inj (hty.symm.trans ht')
  unfold Lib.TabIs
  rw [hv, ← Lib.cells_of_tab ht he hce hct hd]

/-- A cell of a listed array of arrays of ints. -/
theorem grid_cell {W : World} {n : String} {g t e u : Nat} {k : IntKind} {m c : Nat} {L : List (List Int)} (hg : Tryz.prog.globalNamed n = some g) (hty : (Tryz.prog.globals[g]?).map (·.type) = some t)
    (ht : Tryz.prog.underlying t = some (.array m e)) (he : Tryz.prog.underlying e = some (.array c u)) (hu : Tryz.prog.underlying u = some (.int k)) (hce : Tryz.prog.cellsOf e = c) (hcu : Tryz.prog.cellsOf u = 1) (hL : ∀ i, i < m → (L.getD i []).length = c)
    (h : Lib.VarReads Tryz.prog W n (.agg (L.map (Lib.tabData k)))) (i j : Nat) (hi : i < m) (hj : j < c) :
    W.cell? ⟨g, i * c + j, none⟩ = some (.int k ((L.getD i []).getD j 0)) := by
  obtain ⟨g', t', cs, fuel, p, hg', ht', hv, hd⟩ := h
  obtain rfl := Option.some.inj (hg.symm.trans hg')
  obtain rfl := Option.some.inj (hty.symm.trans ht')
  obtain ⟨fuel', d, q, hdi, hx⟩ := Lib.array_elem ht hd i hi
  rw [hce] at hx
  have hil : i < L.length := by
    rw [List.getElem?_map] at hdi
    have := Option.map_eq_some_iff.1 hdi
    obtain ⟨l, hl, -⟩ := this
    exact (List.getElem?_eq_some_iff.1 hl).1
  rw [List.getElem?_map, List.getElem?_eq_getElem hil, Option.map_some, Option.some.injEq] at hdi
  subst hdi
  have hl := hL i hi
  have hLi : L.getD i [] = L[i] := by simp [List.getElem?_eq_getElem hil]
  rw [hLi] at hl ⊢
  have hcs := Lib.cells_of_tab he hu hcu hce hx
  rw [World.var?_cell hg hv (i * c + j), ← Array.getElem?_toList]
  have h1 := congrArg (·[j]?) hcs
  simp only [List.getElem?_take, List.getElem?_drop, if_pos hj] at h1
  rw [h1, List.getElem?_map, List.getElem?_eq_getElem (by omega : j < L[i].length)]
  simp [List.getElem?_eq_getElem (by omega : j < L[i].length)]
end Go.Proofs.YtlpaphgmdcpmaaaGreatDoor
/-
  The listed variables give the environment.
-/
namespace Go.Proofs.YtlpaphgmdcpmaaaGreatDoor
set_option maxRecDepth 100000
open Go.ChangeShapes Go.WideShapes Go.ChangeAt Go.RowKit

theorem global_size : Tryz.prog.globals.size = 13 := by kernel_rfl
theorem shape_size {W : World} (h : W.ShapedOpen Tryz.prog) : 13 ≤ W.heap.size := by
  have hz : (((begin Tryz.prog (fun _ _ => 0) default).world.heap[13 - 1]?).bind Obj.row?).isSome = true := by kernel_rfl
  obtain ⟨x, hx⟩ := Option.isSome_iff_exists.1 hz
  obtain ⟨cs, hh, -⟩ := h.1 (13 - 1) x.1 x.2 (by rw [global_size]; decide) hx
  have := (Array.getElem?_eq_some_iff.1 hh).1
  omega
theorem maxlen_of {W : World} (h : W.ShapedOpen Tryz.prog) : ∃ m, W.cell? ⟨6, 0, none⟩ = some (.int .i64 m) := by
  have hz : ((begin Tryz.prog (fun _ _ => 0) default).world.heap[6]?).bind Obj.row? = some (#[.int .i64 0], 3) := by kernel_rfl
  exact cell_of_shapedOpen_int h (by rw [global_size]; decide) hz rfl (by kernel_rfl) (by kernel_rfl) Tryz.underlying3

def opD {H : Type} (r : List Int) : DataW H := .agg [.lit (.int .i64 (r.getD 0 0)), Lib.tabData .i64 (r.drop 1)]
/-- A cell of the listed array of the operators. -/
theorem rows_cell {W : World} {n : String} {g t : Nat} {L : List (List Int)} (hg : Tryz.prog.globalNamed n = some g) (hty : (Tryz.prog.globals[g]?).map (·.type) = some t)
    (ht : Tryz.prog.underlying t = some (.array 14 136)) (hL : L.length = 14) (h4 : ∀ i, i < 14 → (L.getD i []).length = 4) (h : Lib.VarReads Tryz.prog W n (.agg (L.map opD))) (i j : Nat) (hi : i < 14) (hj : j < 4) :
    W.cell? ⟨g, i * 4 + j, none⟩ = some (.int .i64 ((L.getD i []).getD j 0)) := by
  obtain ⟨g', t', cs, fuel, p, hg', ht', hv, hd⟩ := h
  obtain rfl := Option.some.inj (hg.symm.trans hg')
  obtain rfl := Option.some.inj (hty.symm.trans ht')
  obtain ⟨fuel', d, q, hdi, hx⟩ := Lib.array_elem ht hd i hi
  have c4 : Tryz.prog.cellsOf 136 = 4 := by kernel_rfl
  have c3 : Tryz.prog.cellsOf 134 = 3 := by kernel_rfl
  have c1 : Tryz.prog.cellsOf 3 = 1 := by kernel_rfl
  rw [c4] at hx
  have hil : i < L.length := by omega
  rw [List.getElem?_map, List.getElem?_eq_getElem hil, Option.map_some, Option.some.injEq] at hdi
  subst hdi
  have hl := h4 i hi
  have hLi : L.getD i [] = L[i] := by simp [List.getElem?_eq_getElem hil]
  rw [hLi] at hl ⊢
  obtain ⟨r0, r1, r2, r3, hr⟩ : ∃ r0 r1 r2 r3, L[i] = [r0, r1, r2, r3] := by
    match hq : L[i], hl with
    | [a, b, c, d], _ => exact ⟨a, b, c, d, rfl⟩
  rw [hr] at hx ⊢
  obtain ⟨y0, y1, m, hxx, hlen, h0, h1⟩ := trod_struct2 Tryz.underlying136 hx
  rw [c4] at hlen
  obtain ⟨hd', -⟩ := Prod.mk.inj hxx
  have hd' : [DataW.lit (.int .i64 r0), Lib.tabData .i64 [r1, r2, r3]] = [y0.1, y1.1] := DataW.agg.inj hd'
  simp only [List.cons.injEq, and_true] at hd'
  have h0 : DataW.trod _ Tryz.prog W _ _ _ m 3 ((((cs.toList.drop (i * 4)).take 4).drop 0).take (Tryz.prog.cellsOf 3)) = some y0 := h0
  have h1 : DataW.trod _ Tryz.prog W _ _ _ m 134 ((((cs.toList.drop (i * 4)).take 4).drop 1).take (Tryz.prog.cellsOf 134)) = some y1 := h1
  rw [c1] at h0
  rw [c3] at h1
  have e1 : y1 = (Lib.tabData .i64 [r1, r2, r3], y1.2) := by rw [hd'.2]
  rw [e1] at h1
  have k1 := Lib.cells_of_tab (n := 3) Tryz.underlying134 Tryz.underlying3 c1 c3 h1
  obtain ⟨z, k0, z0, -⟩ := DataW.trod_int Tryz.underlying3 h0
  have hz : z = r0 := by
    have := hd'.1
    rw [z0] at this
    simp only [DataW.lit.injEq, Lit.int.injEq, true_and] at this
    exact this.symm
  subst hz
  rw [World.var?_cell hg hv (i * 4 + j), ← Array.getElem?_toList]
  generalize hw : (cs.toList.drop (i * 4)).take 4 = l4 at hlen k0 k1
  have hj4 : cs.toList[i * 4 + j]? = l4[j]? := by
    rw [← hw, List.getElem?_take, if_pos hj, List.getElem?_drop]
  rw [hj4]
  match l4, hlen with
  | [a, b, c, d], _ =>
    simp only [List.drop_zero, List.drop_succ_cons, List.take_succ_cons, List.take_zero, List.map_cons, List.map_nil, List.cons.injEq, and_true] at k0 k1
    obtain ⟨rfl, rfl, rfl⟩ := k1
    subst k0
    match j, hj with
    | 0, _ => rfl
    | 1, _ => rfl
    | 2, _ => rfl
    | 3, _ => rfl
def wordL : List (List UInt8) := [[], [97], [98], [105, 116, 39, 115], [90, 32, 122], [126]]
def truthL : List (List UInt8) := [[70, 65, 76, 83, 69], [84, 82, 85, 69]]
/-- The listed variables that this text asks for. -/
structure Listed (ls : List Nat) (l : List (String × DataW Unit)) : Prop where
  words : 3 ∈ ls → ("triggerstore/triggerstoreworld.words", Rows.laid_triggerstore_triggerstoreworld_words) ∈ l
  names : 5 ∈ ls → ("triggerstore/value.truthNames", Rows.laid_triggerstore_value_truthNames) ∈ l
  pow : 7 ∈ ls → ("internal/strconv.uint64pow10", Rows.laid_internal_strconv_uint64pow10) ∈ l
  cols : 0 ∈ ls → ("triggerstore/triggerstoreworld.names", Rows.laid_triggerstore_triggerstoreworld_names) ∈ l
  pops : 1 ∈ ls → ("triggerstore/print.operators", Rows.laid_triggerstore_print_operators) ∈ l
  rops : 2 ∈ ls → ("triggerstore/triggerstoreref12.operators", Rows.laid_triggerstore_triggerstoreref12_operators) ∈ l
  uses : 4 ∈ ls → ("triggerstore/syntax.exprUses", Rows.laid_triggerstore_syntax_exprUses) ∈ l
  opers : 8 ∈ ls → ("triggerstore/syntax.operators", Rows.laid_triggerstore_syntax_operators) ∈ l
theorem env_of {ls : List Nat} {W : World} {l : List (String × DataW Unit)} (h : laidMet Tryz.prog l W) (hs : W.ShapedOpen Tryz.prog) (hl : Listed ls l) : Env ls W := by
  have hz := shape_size hs
  constructor
  · exact hz
  · intro hm
    have rw := Lib.laidMet.reads h (hl.words hm)
    have gw : Tryz.prog.globalNamed "triggerstore/triggerstoreworld.words" = some 3 := by kernel_rfl
    have tw : (Tryz.prog.globals[3]?).map (·.type) = some 104 := by kernel_rfl
    have cw := text_cell (l := wordL) gw tw Tryz.underlying104 rw
    exact ⟨by omega, cw 0 (by decide), cw 1 (by decide), cw 2 (by decide), cw 3 (by decide), cw 4 (by decide), cw 5 (by decide)⟩
  · intro hm
    have rt := Lib.laidMet.reads h (hl.names hm)
    have gt : Tryz.prog.globalNamed "triggerstore/value.truthNames" = some 5 := by kernel_rfl
    have tt : (Tryz.prog.globals[5]?).map (·.type) = some 109 := by kernel_rfl
    exact text_cell (l := truthL) gt tt Tryz.underlying109 rt 0 (by decide)
  · intro hm
    have rt := Lib.laidMet.reads h (hl.names hm)
    have gt : Tryz.prog.globalNamed "triggerstore/value.truthNames" = some 5 := by kernel_rfl
    have tt : (Tryz.prog.globals[5]?).map (·.type) = some 109 := by kernel_rfl
    exact text_cell (l := truthL) gt tt Tryz.underlying109 rt 1 (by decide)
  · intro hm
    have rp := Lib.laidMet.reads h (hl.pow hm)
    exact table_is powG (show (Tryz.prog.globals[7]?).map (·.type) = some 141 by kernel_rfl) Tryz.underlying141 Tryz.underlying126 (by kernel_rfl) (by kernel_rfl) rfl rp
  · exact maxlen_of hs
  · intro hm
    have rn := Lib.laidMet.reads h (hl.cols hm)
    have gn : Tryz.prog.globalNamed "triggerstore/triggerstoreworld.names" = some 0 := by kernel_rfl
    have tn : (Tryz.prog.globals[0]?).map (·.type) = some 68 := by kernel_rfl
    exact fun i hi => text_cell (l := nameL) gn tn Tryz.underlying68 rn i hi
  · intro hm
    have rn := Lib.laidMet.reads h (hl.pops hm)
    have gn : Tryz.prog.globalNamed "triggerstore/print.operators" = some 1 := by kernel_rfl
    have tn : (Tryz.prog.globals[1]?).map (·.type) = some 88 := by kernel_rfl
    exact fun i hi => text_cell (l := opL) gn tn Tryz.underlying88 rn i hi
  · intro hm
    have rn := Lib.laidMet.reads h (hl.rops hm)
    have gn : Tryz.prog.globalNamed "triggerstore/triggerstoreref12.operators" = some 2 := by kernel_rfl
    have tn : (Tryz.prog.globals[2]?).map (·.type) = some 88 := by kernel_rfl
    exact fun i hi => text_cell (l := opL) gn tn Tryz.underlying88 rn i hi
  · intro hm i hi
    have hg : Tryz.prog.globalNamed "triggerstore/syntax.exprUses" = some 4 := by kernel_rfl
    have hu := table_is (zs := useL) (show Tryz.prog.globalNamed "triggerstore/syntax.exprUses" = some 4 by kernel_rfl) (show (Tryz.prog.globals[4]?).map (·.type) = some 106 by kernel_rfl) Tryz.underlying106 Tryz.underlying3 (by kernel_rfl) (by kernel_rfl) rfl (Lib.laidMet.reads h (hl.uses hm))
    exact hu.cell hg i hi
  · intro hm
    exact rows_cell (L := operL) (show Tryz.prog.globalNamed "triggerstore/syntax.operators" = some 8 by kernel_rfl) (show (Tryz.prog.globals[8]?).map (·.type) = some 146 by kernel_rfl) Tryz.underlying146 rfl (by decide) (Lib.laidMet.reads h (hl.opers hm))
end Go.Proofs.YtlpaphgmdcpmaaaGreatDoor
/-
  Arguments, opened: lists of numbers, values, texts.
-/
namespace Go.Proofs.YtlpaphgmdcpmaaaGreatDoor
set_option maxRecDepth 100000
open Go.ChangeShapes Go.WideShapes Go.ChangeAt Go.RowKit

section
variable {H : Type} {enc : TypeId × Value → H} {W : World} {v : Value} {d : DataW H} {p : List MemPlace}
/-- An argument of type []int: what the tape's helpers ask. -/
theorem open_tape (hv : ∃ b, Value.okWide Tryz.prog W .any b 28 v) (h : DataW.Trod enc Tryz.prog W 0 (fun _ => true) true 28 v d p) :
    ∃ (a : Option Addr) (len cap : Nat), v = .slice a len cap ∧ len ≤ cap ∧ len ≤ 9223372036854775807 ∧ IntsAt W a len := by
  obtain ⟨b, hv⟩ := hv
  obtain ⟨a0, len, cap, rfl⟩ := okWide_slice Tryz.underlying28 hv
  obtain ⟨fuel, hf⟩ := h
  rcases open_ints Tryz.underlying28 Tryz.underlying3 (by kernel_rfl) hf with ⟨hcs, hx⟩ | ⟨a, len', cap', zs, hcs, _, hl, hm, hz, hx, hcell, hwz⟩
  · simp only [Value.cells, List.cons.injEq, and_true, Value.slice.injEq] at hcs
    obtain ⟨rfl, rfl, rfl⟩ := hcs
    exact ⟨none, 0, 0, rfl, Nat.le_refl _, by decide, fun i hi => by omega⟩
  · simp only [Value.cells, List.cons.injEq, and_true, Value.slice.injEq] at hcs
    obtain ⟨rfl, rfl, rfl⟩ := hcs
    refine ⟨some a, len, cap, rfl, hl, by unfold maxLen at hm; omega, fun i hi => ?_⟩
    rw [if_pos rfl] at hz
    obtain ⟨c, o, rfl, hc⟩ := ints_at hcell (by omega)
    have hi' : i < zs.length := by omega
    have hci := hc i hi'
    have hw := hwz (zs.getD i 0) (by rw [List.getD, List.getElem?_eq_getElem hi']; exact List.getElem_mem hi')
    exact ⟨c, o, _, rfl, World.block_lt_of_cell? W _ hci, hci, (bounds_i64 hw).1, (bounds_i64 hw).2⟩
/-- An argument that is a value. -/
theorem open_val (hv : ∃ b, Value.okWide Tryz.prog W .any b 23 v) (h : DataW.Trod enc Tryz.prog W 0 (fun _ => true) true 23 v d p) :
    ∃ (k n : Int) (s : ByteArray), v = .agg #[.int .i64 k, .int .i64 n, .string s] ∧ -9223372036854775808 ≤ k ∧ k ≤ 9223372036854775807 ∧ -9223372036854775808 ≤ n ∧ n ≤ 9223372036854775807 ∧ s.size ≤ 9223372036854775807 := by
  obtain ⟨b, hv⟩ := hv
  obtain ⟨c0, c1, c2, y0, y1, y2, m, rfl, rfl, rfl, hy0, hy1, hy2⟩ := Joins.open_agg3 Tryz.underlying23 (by kernel_rfl) (by kernel_rfl) hv h
  obtain ⟨k, e0, rfl, wk⟩ := DataW.trod_int Tryz.underlying3 hy0
  obtain ⟨n, e1, rfl, wn⟩ := DataW.trod_int Tryz.underlying2 hy1
  obtain ⟨s, e2, rfl, ws⟩ := DataW.trod_string Tryz.underlying9 hy2
  simp only [List.cons.injEq, and_true] at e0 e1 e2
  subst e0 e1 e2
  exact ⟨k, n, s, rfl, (bounds_i64 wk).1, (bounds_i64 wk).2, (bounds_i64 wn).1, (bounds_i64 wn).2, ws⟩
end
end Go.Proofs.YtlpaphgmdcpmaaaGreatDoor
/-
  THE PLAIN FUNCTIONS: what Valid, Format, Compare compute, on kinds, numbers and bytes. No program.
-/
namespace Go.Proofs.YtlpaphgmdcpmaaaGreatDoor
set_option maxRecDepth 100000
open Go

def byteOK (c : UInt8) : Bool := 32 ≤ c && c ≤ 126
def textOK (l : List UInt8) : Bool := decide (l.length ≤ 64) && l.all byteOK
/-- Is a value valid? -/
def validB (k n : Int) (s : ByteArray) : Bool :=
  if k = 0 then n == 0 && s.toList.isEmpty else if k = 1 then s.toList.isEmpty else if k = 2 then (n == 0 || n == 1) && s.toList.isEmpty else if k = 3 then n == 0 && textOK s.data.toList else false
theorem textOK_len {l : List UInt8} (h : textOK l = true) : l.length ≤ 64 := by
  unfold textOK at h; simp at h; exact h.1
theorem textOK_long {l : List UInt8} (h : 64 < l.length) : textOK l = false := by
  unfold textOK; simp; intro h1; omega
theorem all_take_succ (l : List UInt8) (k : Nat) (h : k < l.length) (p : UInt8 → Bool) : (l.take (k + 1)).all p = ((l.take k).all p && p l[k]) := by
  rw [List.take_succ_eq_append_getElem h, List.all_append]; simp
theorem textOK_bad {l : List UInt8} {k : Nat} (h : k < l.length) (hb : byteOK l[k] = false) : textOK l = false := by
  unfold textOK
  have : l.all byteOK = false := by
    rw [List.all_eq_false]; exact ⟨l[k], List.getElem_mem h, by simp [hb]⟩
  simp [this]
theorem textOK_all {l : List UInt8} (hl : l.length ≤ 64) (h : (l.take l.length).all byteOK = true) : textOK l = true := by
  unfold textOK; rw [List.take_length] at h; simp [hl, h]
theorem byteOK_iff (c : UInt8) : byteOK c = true ↔ 32 ≤ (c.toNat : Int) ∧ (c.toNat : Int) ≤ 126 := by
  unfold byteOK; simp [UInt8.le_iff_toNat_le]; omega
theorem byteOK_false {c : UInt8} (h : (c.toNat : Int) < 32 ∨ 126 < (c.toNat : Int)) : byteOK c = false := by
  rw [Bool.eq_false_iff]; intro hc; have := (byteOK_iff c).1 hc; omega
theorem byteOK_true {c : UInt8} (h : 32 ≤ (c.toNat : Int)) (h2 : (c.toNat : Int) ≤ 126) : byteOK c = true := (byteOK_iff c).2 ⟨h, h2⟩
theorem no_bytes : (⟨#[]⟩ : ByteArray).toList = [] := by
  unfold ByteArray.toList ByteArray.toList.loop; rfl
theorem textOK_at {s : ByteArray} {k : Nat} (h : k < s.size) (hb : (s[k].toNat : Int) < 32 ∨ 126 < (s[k].toNat : Int)) : textOK s.data.toList = false :=
  textOK_bad (k := k) (by simpa using h) (byteOK_false (show ((s.data.toList[k]'(by simpa using h)).toNat : Int) < 32 ∨ _ from hb))
theorem allOK_succ {s : ByteArray} {k : Nat} (h : k < s.size) (ha : (s.data.toList.take k).all byteOK = true) (h1 : 32 ≤ (s[k].toNat : Int)) (h2 : (s[k].toNat : Int) ≤ 126) : (s.data.toList.take (k + 1)).all byteOK = true := by
  rw [all_take_succ _ _ (by simpa using h), ha]
  show (true && byteOK s[k]) = true
  rw [byteOK_true h1 h2]; rfl
theorem textOK_end {s : ByteArray} {k : Nat} (hk : k ≤ s.size) (h : ¬ k < s.size) (hl : s.size ≤ 64) (ha : (s.data.toList.take k).all byteOK = true) : textOK s.data.toList = true := by
  obtain rfl : k = s.size := by omega
  exact textOK_all (by simpa using hl) (by simpa using ha)
end Go.Proofs.YtlpaphgmdcpmaaaGreatDoor
