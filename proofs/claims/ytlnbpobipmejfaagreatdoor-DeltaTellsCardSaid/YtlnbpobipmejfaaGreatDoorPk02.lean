/-
  Several texts in one.
-/
import Derived.Test.YtlnbpobipmejfaaGreatDoorRows
import Derived.Test.YtlnbpobipmejfaaGreatDoorPk01
import Derived.ProofKit
import Derived.OpenShut
import Derived.Deep.DeepHandedRow
import Derived.Lib.LaidTab
import Derived.Lib.LaidU8
import Derived.Lay
import Derived.LaidMore
import Derived.SevenTiedAt
import Derived.MakeChecks
import Derived.Clock
import Derived.Shelf.Vars
import Derived.Stop.LaidErr
import Derived.Lib.SmallJoins
import Derived.Deep.Slices
import Derived.RegionTactic
import Derived.Deep.RegionWith
import Derived.Laws.BytesArg
/-
  FROM A WALK TO A STATEMENT: what all laws share. The listed variables give the environment; a law that turns nothing old leaves its arguments as they were.
-/
namespace Go.Proofs.YtlnbpobipmejfaaGreatDoor
set_option maxRecDepth 100000
open Go.ChangeShapes Go.WideShapes Go.ChangeAt Go.RowKit

theorem own : ownKnob Tryz.prog.godebug = none := by kernel_rfl
theorem laidOut : laidOutB Tryz.prog = true := by kernel_rfl

section
variable {H : Type} {enc : TypeId × Value → H} {P : Program}
theorem trodAll_below (hl : laidOutB P = true) {W W' : World} (hb : Below W.heap.size W W') : ∀ (ts : List TypeId) (vs : List Value) (ds : List (DataW H)) (ps : List MemPlace),
    (ts.all fun t => P.readableRec t && decide (t < P.types.size)) = true → DataW.TrodAll enc P W 0 (fun _ => true) true ts vs ds ps → (∀ x ∈ ps, x.block < W.heap.size) →
    DataW.TrodAll enc P W' 0 (fun b => decide (b < W.heap.size)) true ts vs ds ps
  | [], vs, ds, ps, _, h, _ => by
    obtain ⟨rfl, rfl, rfl⟩ := trodAll_nil h
    exact trodAll_mk0
  | t :: ts, vs, ds, ps, hr, h, hp => by
    obtain ⟨v, vs, d, ds, p, q, rfl, rfl, rfl, h1, h2⟩ := trodAll_cons h
    simp only [List.all_cons, Bool.and_eq_true, decide_eq_true_eq] at hr
    exact trodAll_cons_mk (Below.trod hl hr.1.1 hr.1.2 h1 hb (fun x hx => hp x (List.mem_append.2 (Or.inl hx))))
      (trodAll_below hl hb ts vs ds q hr.2 h2 (fun x hx => hp x (List.mem_append.2 (Or.inr hx))))
end

/-- A law that returns true and turns nothing old. -/
theorem law_post {H : Type} {enc : TypeId × Value → H} {s : ChangeSpec} {f : Func} {W W' : World} {args : Array Value} {ds gs : List (DataW H)} {before : List MemPlace}
    (hv : s.vars = []) (hf : f.resultTypes = #[4]) (hr : (f.params.toList.all fun t => Tryz.prog.readableRec t && decide (t < Tryz.prog.types.size)) = true)
    (hW : DataW.Whole enc Tryz.prog f.params.toList s.vars false W args.toList ds gs before)
    (hfn : s.fn H ds = { results := [.lit (.bool true)], args := ds }) (hb : Below W.heap.size W W') :
    s.post enc Tryz.prog f false true false false W args (.bool true) W' := by
  have hW' := hW
  have hlt := hW.lt
  obtain ⟨p, q, hA, hV, rfl, hfz, hnd⟩ := hW
  rw [hv] at hV
  obtain ⟨rfl, rfl⟩ := trodVars_none hV
  refine ⟨ds, [], p ++ [], [], p, [], hW', ?_, ?_, ?_, hb.frame _, fun h => by cases h⟩
  · rw [List.append_nil, hfn, hf]
    exact trodAll_mk1 (shut_bool Tryz.underlying4 true)
  · rw [List.append_nil, hfn]
    exact trodAll_below laidOut hb _ _ _ _ hr hA (fun x hx => hlt x (List.mem_append.2 (Or.inl hx)))
  · rw [List.append_nil, hfn, hv]
    rfl

/-- A cell of a listed array of strings. -/
theorem text_cell {W : World} {n : String} {g t : Nat} {l : List (List UInt8)} (hg : Tryz.prog.globalNamed n = some g) (hty : (Tryz.prog.globals[g]?).map (·.type) = some t)
    (ht : Tryz.prog.underlying t = some (.array l.length 9)) (h : Lib.VarReads Tryz.prog W n (.agg (l.map fun b => .lit (.string b)))) (i : Nat) (hi : i < l.length) :
    W.cell? ⟨g, i, none⟩ = some (.string ⟨(l.getD i []).toArray⟩) := by
  obtain ⟨g', t', cs, fuel, p, hg', ht', hv, hd⟩ := h
  obtain rfl := Option.some.inj (hg.symm.trans hg')
  obtain rfl := Option.some.inj (hty.symm.trans ht')
  obtain ⟨xs, m, _, ex, _, hl, hel⟩ := DataW.trod_array ht hd
  have c9 : Tryz.prog.cellsOf 9 = 1 := by kernel_rfl
  have hE := hel i hi
  rw [c9, Nat.mul_one, List.getElem?_eq_getElem (by omega)] at hE
  obtain ⟨s, e1, e2, _⟩ := DataW.trod_string Tryz.underlying9 hE
  have e3 : (xs.map (·.1)) = l.map fun b => .lit (.string b) := (DataW.agg.inj (Prod.mk.inj ex).1).symm
  have e4 : (xs.map (·.1))[i]? = (l.map fun b => (DataW.lit (.string b) : DataW Unit))[i]? := by rw [e3]
  rw [List.getElem?_map, List.getElem?_map, List.getElem?_eq_getElem (by omega : i < xs.length), List.getElem?_eq_getElem hi, e2] at e4
  have hs : s = ⟨(l.getD i []).toArray⟩ := by
    simp only [Option.map_some, Option.some.injEq, DataW.lit.injEq, Lit.string.injEq] at e4
    apply bytes_inj
    rw [e4, List.getD, List.getElem?_eq_getElem hi]; simp
  rw [World.var?_cell hg hv i, ← hs]
  have : cs.toList[i]? = some (.string s) := by
    have h0 : ((cs.toList.drop i).take 1)[0]? = some (.string s) := by rw [e1]; rfl
    simpa using h0
  simpa using this

theorem table_is {W : World} {n : String} {g t : Nat} {k : IntKind} {e : TypeId} {zs : List Int} {d : DataW Unit} (hg : Tryz.prog.globalNamed n = some g) (hty : (Tryz.prog.globals[g]?).map (·.type) = some t)
    (ht : Tryz.prog.underlying t = some (.array zs.length e)) (he : Tryz.prog.underlying e = some (.int k)) (hce : Tryz.prog.cellsOf e = 1) (hct : Tryz.prog.cellsOf t = zs.length) (hd : d = Lib.tabData k zs) (h : Lib.VarReads Tryz.prog W n d) :
    Lib.TabIs Tryz.prog W n k zs := by
  subst hd
  obtain ⟨g', t', cs, fuel, p, hg', ht', hv, hd⟩ := h
  obtain rfl := Option.some.inj (hg.symm.trans hg')
  obtain rfl := Option.some.inj (hty.symm.trans ht')
  unfold Lib.TabIs
  rw [hv, ← Lib.cells_of_tab ht he hce hct hd]

/-- A cell of a listed array of arrays of ints. -/
theorem grid_cell {W : World} {n : String} {g t e u : Nat} {k : IntKind} {m c : Nat} {L : List (List Int)} (hg : Tryz.prog.globalNamed n = some g) (hty : (Tryz.prog.globals[g]?).map (·.type) = some t)
    (ht : Tryz.prog.underlying t = some (.array m e)) (he : Tryz.prog.underlying e = some (.array c u)) (hu : Tryz.prog.underlying u = some (.int k)) (hce : Tryz.prog.cellsOf e = c) (hcu : Tryz.prog.cellsOf u = 1) (hL : ∀ i, i < m → (L.getD i []).length = c)
    (h : Lib.VarReads Tryz.prog W n (.agg (L.map (Lib.tabData k)))) (i j : Nat) (hi : i < m) (hj : j < c) :
    W.cell? ⟨g, i * c + j, none⟩ = some (.int k ((L.getD i []).getD j 0)) := by
  obtain ⟨g', t', cs, fuel, p, hg', ht', hv, hd⟩ := h
  obtain rfl := Option.some.inj (hg.symm.trans hg')
  obtain rfl := Option.some.inj (hty.symm.trans ht')
  obtain ⟨fuel', d, q, hdi, hx⟩ := Lib.array_elem ht hd i hi
  rw [hce] at hx
  have hil : i < L.length := by
    rw [List.getElem?_map] at hdi
    have := Option.map_eq_some_iff.1 hdi
    obtain ⟨l, hl, -⟩ := this
    exact (List.getElem?_eq_some_iff.1 hl).1
  rw [List.getElem?_map, List.getElem?_eq_getElem hil, Option.map_some, Option.some.injEq] at hdi
  subst hdi
  have hl := hL i hi
  have hLi : L.getD i [] = L[i] := by simp [List.getElem?_eq_getElem hil]
  rw [hLi] at hl ⊢
  have hcs := Lib.cells_of_tab he hu hcu hce hx
  rw [World.var?_cell hg hv (i * c + j), ← Array.getElem?_toList]
  have h1 := congrArg (·[j]?) hcs
  simp only [List.getElem?_take, List.getElem?_drop, if_pos hj] at h1
  rw [h1, List.getElem?_map, List.getElem?_eq_getElem (by omega : j < L[i].length)]
  simp [List.getElem?_eq_getElem (by omega : j < L[i].length)]
end Go.Proofs.YtlnbpobipmejfaaGreatDoor
/-
  The listed variables give the environment.
-/
namespace Go.Proofs.YtlnbpobipmejfaaGreatDoor
set_option maxRecDepth 100000
open Go.ChangeShapes Go.WideShapes Go.ChangeAt Go.RowKit

theorem global_size : Tryz.prog.globals.size = 2 := by kernel_rfl
theorem shape_size {W : World} (h : W.ShapedOpen Tryz.prog) : 2 ≤ W.heap.size := by
  have hz : (((begin Tryz.prog (fun _ _ => 0) default).world.heap[2 - 1]?).bind Obj.row?).isSome = true := by kernel_rfl
  obtain ⟨x, hx⟩ := Option.isSome_iff_exists.1 hz
  obtain ⟨cs, hh, -⟩ := h.1 (2 - 1) x.1 x.2 (by rw [global_size]; decide) hx
  have := (Array.getElem?_eq_some_iff.1 hh).1
  omega
theorem maxlen_of {W : World} (h : W.ShapedOpen Tryz.prog) : ∃ m, W.cell? ⟨1, 0, none⟩ = some (.int .i64 m) := by
  have hz : ((begin Tryz.prog (fun _ _ => 0) default).world.heap[1]?).bind Obj.row? = some (#[.int .i64 0], 3) := by kernel_rfl
  exact cell_of_shapedOpen_int h (by rw [global_size]; decide) hz rfl (by kernel_rfl) (by kernel_rfl) Tryz.underlying3

def wordL : List (List UInt8) := [[], [97], [98], [105, 116, 39, 115], [90, 32, 122], [126]]
def truthL : List (List UInt8) := [[70, 65, 76, 83, 69], [84, 82, 85, 69]]
/-- The listed variables that this text asks for. -/
structure Listed (ls : List Nat) (l : List (String × DataW Unit)) : Prop where
  words : 0 ∈ ls → ("triggerstore/triggerstoreworld.words", Rows.laid_triggerstore_triggerstoreworld_words) ∈ l
theorem env_of {ls : List Nat} {W : World} {l : List (String × DataW Unit)} (h : laidMet Tryz.prog l W) (hs : W.ShapedOpen Tryz.prog) (hl : Listed ls l) : Env ls W := by
  have hz := shape_size hs
  constructor
  · exact hz
  · intro hm
    have rw := Lib.laidMet.reads h (hl.words hm)
    have gw : Tryz.prog.globalNamed "triggerstore/triggerstoreworld.words" = some 0 := by kernel_rfl
    have tw : (Tryz.prog.globals[0]?).map (·.type) = some 114 := by kernel_rfl
    have cw := text_cell (l := wordL) gw tw Tryz.underlying114 rw
    exact ⟨by omega, cw 0 (by decide), cw 1 (by decide), cw 2 (by decide), cw 3 (by decide), cw 4 (by decide), cw 5 (by decide)⟩
  · exact maxlen_of hs
end Go.Proofs.YtlnbpobipmejfaaGreatDoor
/-
  Arguments, opened: lists of numbers, values, texts.
-/
namespace Go.Proofs.YtlnbpobipmejfaaGreatDoor
set_option maxRecDepth 100000
open Go.ChangeShapes Go.WideShapes Go.ChangeAt Go.RowKit

section
variable {H : Type} {enc : TypeId × Value → H} {W : World} {v : Value} {d : DataW H} {p : List MemPlace}
/-- An argument of type []int: what the tape's helpers ask. -/
theorem open_tape (hv : ∃ b, Value.okWide Tryz.prog W .any b 29 v) (h : DataW.Trod enc Tryz.prog W 0 (fun _ => true) true 29 v d p) :
    ∃ (a : Option Addr) (len cap : Nat), v = .slice a len cap ∧ len ≤ cap ∧ len ≤ 9223372036854775807 ∧ IntsAt W a len := by
  obtain ⟨b, hv⟩ := hv
  obtain ⟨a0, len, cap, rfl⟩ := okWide_slice Tryz.underlying29 hv
  obtain ⟨fuel, hf⟩ := h
  rcases open_ints Tryz.underlying29 Tryz.underlying3 (by kernel_rfl) hf with ⟨hcs, hx⟩ | ⟨a, len', cap', zs, hcs, _, hl, hm, hz, hx, hcell, hwz⟩
  · simp only [Value.cells, List.cons.injEq, and_true, Value.slice.injEq] at hcs
    obtain ⟨rfl, rfl, rfl⟩ := hcs
    exact ⟨none, 0, 0, rfl, Nat.le_refl _, by decide, fun i hi => by omega⟩
  · simp only [Value.cells, List.cons.injEq, and_true, Value.slice.injEq] at hcs
    obtain ⟨rfl, rfl, rfl⟩ := hcs
    refine ⟨some a, len, cap, rfl, hl, by unfold maxLen at hm; omega, fun i hi => ?_⟩
    rw [if_pos rfl] at hz
    obtain ⟨c, o, rfl, hc⟩ := ints_at hcell (by omega)
    have hi' : i < zs.length := by omega
    have hci := hc i hi'
    have hw := hwz (zs.getD i 0) (by rw [List.getD, List.getElem?_eq_getElem hi']; exact List.getElem_mem hi')
    exact ⟨c, o, _, rfl, World.block_lt_of_cell? W _ hci, hci, (bounds_i64 hw).1, (bounds_i64 hw).2⟩
/-- An argument that is a value. -/
theorem open_val (hv : ∃ b, Value.okWide Tryz.prog W .any b 55 v) (h : DataW.Trod enc Tryz.prog W 0 (fun _ => true) true 55 v d p) :
    ∃ (k n : Int) (s : ByteArray), v = .agg #[.int .i64 k, .int .i64 n, .string s] ∧ -9223372036854775808 ≤ k ∧ k ≤ 9223372036854775807 ∧ -9223372036854775808 ≤ n ∧ n ≤ 9223372036854775807 ∧ s.size ≤ 9223372036854775807 := by
  obtain ⟨b, hv⟩ := hv
  obtain ⟨c0, c1, c2, y0, y1, y2, m, rfl, rfl, rfl, hy0, hy1, hy2⟩ := Joins.open_agg3 Tryz.underlying55 (by kernel_rfl) (by kernel_rfl) hv h
  obtain ⟨k, e0, rfl, wk⟩ := DataW.trod_int Tryz.underlying3 hy0
  obtain ⟨n, e1, rfl, wn⟩ := DataW.trod_int Tryz.underlying2 hy1
  obtain ⟨s, e2, rfl, ws⟩ := DataW.trod_string Tryz.underlying9 hy2
  simp only [List.cons.injEq, and_true] at e0 e1 e2
  subst e0 e1 e2
  exact ⟨k, n, s, rfl, (bounds_i64 wk).1, (bounds_i64 wk).2, (bounds_i64 wn).1, (bounds_i64 wn).2, ws⟩
end
end Go.Proofs.YtlnbpobipmejfaaGreatDoor
/-
  Odd values: any kind, any number, a short text.
-/
namespace Go.Proofs.YtlnbpobipmejfaaGreatDoor
set_option maxRecDepth 100000
open Go.RowKit

/-- What Odd gives. -/
def IsOdd (k n : Int) (s : ByteArray) : Prop := -9223372036854775808 ≤ k ∧ k ≤ 9223372036854775807 ∧ -9223372036854775808 ≤ n ∧ n ≤ 9223372036854775807 ∧ s.size ≤ 100
def OddPost (b : Nat) (w : World) (e : Ending) (w' : World) : Prop := ∃ (k n : Int) (s : ByteArray), e = .returned (.agg #[.int .i64 k, .int .i64 n, .string s]) ∧ IsOdd k n s ∧ TapeAt w' b ∧ StepT b w w'

theorem IsVal.odd {k n : Int} {s : ByteArray} (h : IsVal k n s) : IsOdd k n s := by
  have hw : ∀ t, IsWord t → t.size ≤ 100 := by
    intro t ht
    rcases ht with rfl | rfl | rfl | rfl | rfl | rfl <;> decide
  unfold IsOdd
  rcases h with ⟨rfl, rfl, rfl⟩ | ⟨rfl, hn, rfl⟩ | ⟨rfl, h0, h1, rfl⟩ | ⟨rfl, rfl, hs⟩
  · decide
  · unfold IsNum at hn
    refine ⟨by decide, by decide, by omega, by omega, by decide⟩
  · refine ⟨by decide, by decide, by omega, by omega, by decide⟩
  · exact ⟨by decide, by decide, by decide, by decide, hw _ hs⟩

theorem IsVal.short {k n : Int} {s : ByteArray} (h : IsVal k n s) : s.size ≤ 64 := by
  have hw : ∀ t, IsWord t → t.size ≤ 64 := by
    intro t ht
    rcases ht with rfl | rfl | rfl | rfl | rfl | rfl <;> decide
  rcases h with ⟨-, -, rfl⟩ | ⟨-, -, rfl⟩ | ⟨-, -, -, rfl⟩ | ⟨-, -, hs⟩
  · decide
  · decide
  · decide
  · exact hw _ hs

/-- The call's two boxes: R for the result, V for the value that is made. -/
structure OddAt (w u : World) (b R V : Nat) (k n : Int) (s : ByteArray) : Prop where
  tape : TapeAt u b
  step : StepT b w u
  bR : b < R
  wR : w.heap.size ≤ R
  RV : R < V
  vz : V < u.heap.size
  r0 : ∃ x, u.cell? ⟨R, 0, none⟩ = some (.int .i64 x)
  r1 : ∃ x, u.cell? ⟨R, 1, none⟩ = some (.int .i64 x)
  r2 : ∃ x, u.cell? ⟨R, 2, none⟩ = some (.string x)
  v0 : u.cell? ⟨V, 0, none⟩ = some (.int .i64 k)
  v1 : u.cell? ⟨V, 1, none⟩ = some (.int .i64 n)
  v2 : u.cell? ⟨V, 2, none⟩ = some (.string s)
  fz : ∀ o, u.frozen? ⟨R, o, none⟩ = false ∧ u.frozen? ⟨V, o, none⟩ = false

theorem OddAt.next {w u u' : World} {b R V : Nat} {k n : Int} {s : ByteArray} (h : OddAt w u b R V k n s) (hs : StepT b u u') (ht : TapeAt u' b) : OddAt w u' b R V k n s := by
  have hb := h.bR
  have hV := h.RV
  have hz := h.vz
  have hc : ∀ B o, b < B → B ≤ V → u'.cell? ⟨B, o, none⟩ = u.cell? ⟨B, o, none⟩ := fun B o h1 h2 => hs.cell (by show B < _; omega) (by show B ≠ b; omega)
  have hf : ∀ B o, b < B → B ≤ V → u'.frozen? ⟨B, o, none⟩ = u.frozen? ⟨B, o, none⟩ := fun B o h1 h2 => hs.frozen (by show B < _; omega) (by show B ≠ b; omega)
  refine ⟨ht, h.step.trans hs, hb, h.wR, hV, Nat.lt_of_lt_of_le hz hs.size, ?_, ?_, ?_, ?_, ?_, ?_, fun o => ⟨?_, ?_⟩⟩
  · rw [hc _ _ hb (by omega)]; exact h.r0
  · rw [hc _ _ hb (by omega)]; exact h.r1
  · rw [hc _ _ hb (by omega)]; exact h.r2
  · rw [hc _ _ (by omega) (Nat.le_refl _)]; exact h.v0
  · rw [hc _ _ (by omega) (Nat.le_refl _)]; exact h.v1
  · rw [hc _ _ (by omega) (Nat.le_refl _)]; exact h.v2
  · rw [hf _ _ hb (by omega)]; exact (h.fz o).1
  · rw [hf _ _ (by omega) (Nat.le_refl _)]; exact (h.fz o).2

theorem OddAt.made {w w1 : World} {b : Nat} {k n : Int} {s : ByteArray} (hlt : b < w.heap.size) (ht : TapeAt w1 b)
    (hs : StepT b (w.alloc (.cells #[.int .i64 0, .int .i64 0, .string ⟨#[]⟩] 55)) w1) :
    OddAt w (w1.alloc (.cells #[.int .i64 k, .int .i64 n, .string s] 55)) b w.heap.size w1.heap.size k n s := by
  obtain ⟨a0, a1, a2, g0, g1, g2, hza⟩ := new3 hs hlt
  have hc : ∀ o, (w1.alloc (.cells #[.int .i64 k, .int .i64 n, .string s] 55)).cell? ⟨w.heap.size, o, none⟩ = w1.cell? ⟨w.heap.size, o, none⟩ := fun o =>
    World.cell?_of_block (w := w1) (Below.heap_alloc _ _ _ hza)
  have hf : ∀ o, (w1.alloc (.cells #[.int .i64 k, .int .i64 n, .string s] 55)).frozen? ⟨w.heap.size, o, none⟩ = w1.frozen? ⟨w.heap.size, o, none⟩ := fun o =>
    World.frozen?_of_block (w := w1) (Below.heap_alloc _ _ _ hza)
  have hg : ∀ o, w1.frozen? ⟨w.heap.size, o, none⟩ = false := fun o => by
    rw [hs.frozen (by simp) (by show w.heap.size ≠ b; omega)]
    go_simp
  refine ⟨ht.alloc _, hs.of_alloc.alloc _, hlt, Nat.le_refl _, hza, by simp, ⟨0, by rw [hc]; exact a0⟩, ⟨0, by rw [hc]; exact a1⟩, ⟨⟨#[]⟩, by rw [hc]; exact a2⟩, ?_, ?_, ?_, fun o => ⟨by rw [hf]; exact hg o, ?_⟩⟩
  all_goals go_simp

theorem OddAt.done {w u : World} {b R V : Nat} {k n : Int} {s : ByteArray} (h : OddAt w u b R V k n s) (x y z : Value) :
    TapeAt (((u.setCell ⟨R, 0, none⟩ x).setCell ⟨R, 1, none⟩ y).setCell ⟨R, 2, none⟩ z) b ∧ StepT b w (((u.setCell ⟨R, 0, none⟩ x).setCell ⟨R, 1, none⟩ y).setCell ⟨R, 2, none⟩ z) :=
  ⟨((h.tape.setCell (by exact h.bR) _).setCell (by exact h.bR) _).setCell (by exact h.bR) _, ((h.step.set2 h.wR _ _ _).set2 h.wR _ _ _).set2 h.wR _ _ _⟩

theorem OddAt.set {w u : World} {b R V : Nat} {k n : Int} {s : ByteArray} (h : OddAt w u b R V k n s) (o : Nat) (x : Value) {k' n' : Int} {s' : ByteArray}
    (h0 : (u.setCell ⟨V, o, none⟩ x).cell? ⟨V, 0, none⟩ = some (.int .i64 k')) (h1 : (u.setCell ⟨V, o, none⟩ x).cell? ⟨V, 1, none⟩ = some (.int .i64 n')) (h2 : (u.setCell ⟨V, o, none⟩ x).cell? ⟨V, 2, none⟩ = some (.string s')) :
    OddAt w (u.setCell ⟨V, o, none⟩ x) b R V k' n' s' := by
  have hRV := h.RV
  have hc : ∀ o', (u.setCell ⟨V, o, none⟩ x).cell? ⟨R, o', none⟩ = u.cell? ⟨R, o', none⟩ := fun o' => World.cell?_of_block (w := u) (Below.heap_setCell _ _ _ _ (show R ≠ V by omega))
  refine ⟨h.tape.setCell (by have := h.bR; show b < V; omega) _, h.step.set2 (by have := h.wR; omega) _ _ _, h.bR, h.wR, hRV, by simpa [World.setCell] using h.vz, by rw [hc]; exact h.r0, by rw [hc]; exact h.r1, by rw [hc]; exact h.r2, h0, h1, h2, fun o' => ⟨?_, ?_⟩⟩
  · rw [World.frozen?_of_block (w := u) (Below.heap_setCell _ _ _ _ (show R ≠ V by omega))]; exact (h.fz o').1
  · rw [World.frozen?_setCell]; exact (h.fz o').2

/-- One byte made a text. -/
def oneB (z : Int) : ByteArray := strOfNums [z]
theorem one_size (z : Int) : (oneB z).size = 1 := rfl
theorem one_byte (z : Int) (W : World) : Sem.run Tryz.prog (convert 121 9 (.slice (some ⟨W.heap.size, 0, none⟩) 1 1)) (W.alloc (.cells #[.int .u8 z] 5)) = .ok (.string (oneB z)) (W.alloc (.cells #[.int .u8 z] 5)) := by
  refine run_convert_bytes_arg _ 121 5 Tryz.underlying121 Tryz.underlying5 W.heap.size 0 1 1 [z] rfl (fun i hi => ?_) 9 Tryz.underlying9
  obtain rfl : i = 0 := by omega
  show (W.alloc _).cell? ⟨W.heap.size, 0, none⟩ = _
  go_simp

end Go.Proofs.YtlnbpobipmejfaaGreatDoor
