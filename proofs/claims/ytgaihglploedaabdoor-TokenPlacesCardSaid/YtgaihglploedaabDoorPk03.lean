/-
  Several texts in one.
-/
import Derived.Test.YtgaihglploedaabDoorPk01
import Derived.Test.YtgaihglploedaabDoorPk02
import Derived.Test.YtgaihglploedaabDoorRows
import Derived.ProofKit
import Derived.OpenShut
import Derived.Deep.DeepHandedRow
import Derived.Lib.LaidTab
import Derived.Lib.LaidU8
import Derived.Lay
import Derived.LaidMore
import Derived.SevenTiedAt
import Derived.MakeChecks
import Derived.Clock
import Derived.Shelf.Vars
import Derived.Stop.LaidErr
import Derived.Lib.SmallJoins
import Derived.Deep.Slices
/-
  WHAT HOLDS OF THE PACKAGE-LEVEL VARIABLES while a statement runs, and that it stays.
-/
namespace Go.Proofs.YtgaihglploedaabDoor
set_option maxRecDepth 100000
open Go.RowKit
variable {ls : List Nat}

/-- The tables of the logic. -/
def andL : List (List Int) := [[0, 0, 0], [0, 1, 1], [0, 1, 2]]
def orL : List (List Int) := [[0, 1, 2], [1, 1, 2], [2, 2, 2]]
/-- The keywords. -/
def keyL : List (List UInt8) := [[65, 66, 79, 82, 84], [65, 70, 84, 69, 82], [65, 78, 68], [66, 69, 70, 79, 82, 69], [66, 69, 71, 73, 78], [66, 69, 84, 87, 69, 69, 78], [66, 79, 79, 76], [67, 79, 85, 78, 84], [67, 82, 69, 65, 84, 69], [68, 69, 76, 69, 84, 69], [68, 69, 76, 69, 84, 69, 68], [68, 82, 79, 80], [69, 65, 67, 72], [69, 78, 68], [69, 88, 73, 83, 84, 83], [70, 65, 76, 83, 69], [70, 79, 76, 76, 79, 87, 83], [70, 79, 82], [70, 82, 79, 77], [73, 78, 83, 69, 82, 84], [73, 78, 83, 69, 82, 84, 69, 68], [73, 78, 84], [73, 78, 84, 79], [73, 83], [75, 69, 89], [77, 65, 88], [77, 73, 78], [78, 69, 87], [78, 79, 84], [78, 85, 76, 76], [79, 70], [79, 76, 68], [79, 78], [79, 82], [80, 82, 69, 67, 69, 68, 69, 83], [80, 82, 73, 77, 65, 82, 89], [82, 65, 78, 75], [82, 79, 87], [83, 69, 76, 69, 67, 84], [83, 69, 84], [83, 84, 65, 84, 69, 77, 69, 78, 84], [83, 85, 77], [84, 65, 66, 76, 69], [84, 69, 88, 84], [84, 79], [84, 82, 73, 71, 71, 69, 82], [84, 82, 85, 69], [85, 80, 68, 65, 84, 69], [86, 65, 76, 85, 69, 83], [87, 72, 69, 78], [87, 72, 69, 82, 69]]
def keyS (i : Nat) : ByteArray := ⟨(keyL.getD i []).toArray⟩
def KeysAt (w : World) : Prop := ∃ (cs : Array Value) (t : TypeId) (fr : Nat × Nat), w.heap[(3 : Nat)]? = some (.cells cs t fr) ∧ cs.size = 51 ∧ ∀ i, i < 51 → cs[i]? = some (.string (keyS i))
/-- The symbols, those of two bytes first. -/
def symS : List (List UInt8) := [[60, 62], [60, 61], [62, 61], [40], [41], [44], [59], [46], [42], [43], [45], [47], [37], [61], [60], [62]]
def symT (i : Nat) : ByteArray := ⟨(symS.getD i []).toArray⟩
def SymsAt (w : World) : Prop := ∃ (cs : Array Value) (t : TypeId) (fr : Nat × Nat), w.heap[(2 : Nat)]? = some (.cells cs t fr) ∧ cs.size = 16 ∧ ∀ i, i < 16 → cs[i]? = some (.string (symT i))
/-- The parts of texts. -/
def bitL : List (List UInt8) := [[97], [48], [49, 50], [48, 48], [57, 50, 50, 51, 51, 55, 50, 48, 51, 54, 56, 53, 52, 55, 55, 53, 56, 48, 55], [57, 50, 50, 51, 51, 55, 50, 48, 51, 54, 56, 53, 52, 55, 55, 53, 56, 48, 56], [39], [39, 39], [60], [62], [61], [83, 69, 76, 69, 67, 84], [115, 101, 108, 101, 99, 116], [32], [10], [120, 95, 57], [45], [40], [66], [46]]
def bitS (i : Nat) : ByteArray := ⟨(bitL.getD i []).toArray⟩
def BitsAt (w : World) : Prop := ∀ i, i < 20 → w.cell? ⟨0, i, none⟩ = some (.string (bitS i))
/-- The variables of the program hold what its text lays. -/
structure Env (ls : List Nat) (w : World) : Prop where
  size : 12 ≤ w.heap.size
  no : 1 ∈ ls → w.cell? ⟨1, 0, none⟩ = some (.string ⟨#[70, 65, 76, 83, 69]⟩)
  yes : 1 ∈ ls → w.cell? ⟨1, 1, none⟩ = some (.string ⟨#[84, 82, 85, 69]⟩)
  pow : Lib.TabIs Tryd.prog w "internal/strconv.uint64pow10" .u64 Lib.pow10Tab
  maxlen : ∃ m, w.cell? ⟨5, 0, none⟩ = some (.int .i64 m)
  keys : 3 ∈ ls → KeysAt w
  syms : 2 ∈ ls → SymsAt w
  bits : 0 ∈ ls → BitsAt w
  errS : 10 ∈ ls → ∃ tp p, w.var? Tryd.prog "strconv.ErrSyntax" = some #[.iface tp p]
  errR : 11 ∈ ls → ∃ tp p, w.var? Tryd.prog "strconv.ErrRange" = some #[.iface tp p]

theorem errSG : Tryd.prog.globalNamed "strconv.ErrSyntax" = some 10 := by kernel_rfl
theorem errRG : Tryd.prog.globalNamed "strconv.ErrRange" = some 11 := by kernel_rfl
theorem powG : Tryd.prog.globalNamed "internal/strconv.uint64pow10" = some 4 := by kernel_rfl

theorem Env.keep {w w' : World} (h : Env ls w) (hz : w.heap.size ≤ w'.heap.size) (hk : ∀ k, k < 12 → w'.heap[k]? = w.heap[k]?) : Env ls w' := by
  have hc : ∀ (b o : Nat), b < 12 → w'.cell? ⟨b, o, none⟩ = w.cell? ⟨b, o, none⟩ := fun b o hb => World.cell?_of_block (w := w) (hk b hb)
  constructor
  · exact Nat.le_trans h.size hz
  · intro hm; rw [hc _ _ (by decide)]; exact h.no hm
  · intro hm; rw [hc _ _ (by decide)]; exact h.yes hm
  · have hp := h.pow
    unfold Lib.TabIs World.var? at hp ⊢
    simp only [powG, Option.bind_some] at hp ⊢
    rw [hk _ (by decide)]
    exact hp
  · obtain ⟨m, hm⟩ := h.maxlen
    exact ⟨m, by rw [hc _ _ (by decide)]; exact hm⟩
  · intro hm
    obtain ⟨cs, t, fr, h1, h2⟩ := h.keys hm
    exact ⟨cs, t, fr, by rw [hk _ (by decide)]; exact h1, h2⟩
  · intro hm
    obtain ⟨cs, t, fr, h1, h2⟩ := h.syms hm
    exact ⟨cs, t, fr, by rw [hk _ (by decide)]; exact h1, h2⟩
  · intro hm i hi; rw [hc _ _ (by decide)]; exact h.bits hm i hi
  · intro hm
    obtain ⟨tp, p, he⟩ := h.errS hm
    refine ⟨tp, p, ?_⟩
    unfold World.var? at he ⊢
    simp only [errSG, Option.bind_some] at he ⊢
    rw [hk _ (by decide)]
    exact he
  · intro hm
    obtain ⟨tp, p, he⟩ := h.errR hm
    refine ⟨tp, p, ?_⟩
    unfold World.var? at he ⊢
    simp only [errRG, Option.bind_some] at he ⊢
    rw [hk _ (by decide)]
    exact he
theorem Env.below {w w' : World} {B : Nat} (h : Env ls w) (hb : Below B w w') (hB : 12 ≤ B) : Env ls w' := h.keep hb.size (fun k hk => hb.block k (by omega))
theorem Env.low {w w' : World} (h : Env ls w) (hb : Below w.heap.size w w') : Env ls w' := h.below hb h.size
theorem Env.step {w w' : World} {b : Nat} (h : Env ls w) (hs : StepT b w w') (hb : 12 ≤ b) : Env ls w' := h.keep hs.size (fun k hk => hs.block k (by have := h.size; omega) (by omega))
theorem Env.alloc {w : World} (h : Env ls w) (o : Obj) : Env ls (w.alloc o) := h.low ((Below.refl _ _).alloc (Nat.le_refl _) _)
theorem Env.drewN {w : World} (h : Env ls w) (n : Nat) : Env ls (w.drewN n) := h.keep (Nat.le_refl _) (fun _ _ => rfl)

theorem below_grow (w : World) (k : Nat) (os : Array Obj) : Below w.heap.size w (Sort.grow (w.drewN k) os) :=
  ⟨rfl, rfl, rfl, by show w.heap.size ≤ (w.heap ++ os).size; simp, fun i hi => by show (w.heap ++ os)[i]? = _; rw [Array.getElem?_append_left hi]⟩

/-- What is known of a new block of three cells, behind a call that turns nothing. -/
theorem box3 {w w' : World} {x y z : Value} {t : TypeId} (hb : Below (w.alloc (.cells #[x, y, z] t)).heap.size (w.alloc (.cells #[x, y, z] t)) w') :
    w'.cell? ⟨w.heap.size, 0, none⟩ = some x ∧ w'.cell? ⟨w.heap.size, 1, none⟩ = some y ∧ w'.cell? ⟨w.heap.size, 2, none⟩ = some z
    ∧ w'.frozen? ⟨w.heap.size, 0, none⟩ = false ∧ w'.frozen? ⟨w.heap.size, 1, none⟩ = false ∧ w'.frozen? ⟨w.heap.size, 2, none⟩ = false ∧ w.heap.size < w'.heap.size := by
  have hz := hb.size
  have hz' : (w.alloc (.cells #[x, y, z] t)).heap.size = w.heap.size + 1 := by simp
  rw [hz'] at hz
  refine ⟨?_, ?_, ?_, ?_, ?_, ?_, by omega⟩
  all_goals (first | rw [hb.cell (by rw [hz']; exact Nat.lt_succ_self _)] | rw [hb.frozen (by rw [hz']; exact Nat.lt_succ_self _)])
  all_goals go_simp
theorem Below.of_alloc {w w' : World} {o : Obj} (hb : Below (w.alloc o).heap.size (w.alloc o) w') : Below w.heap.size w w' :=
  Below.trans ((Below.refl _ _).alloc (Nat.le_refl _) _) (hb.mono (by simp))
theorem Below.next {w w' w2 : World} (h : Below w.heap.size w w') (k : Below w'.heap.size w' w2) : Below w.heap.size w w2 := h.trans (k.mono h.size)
theorem boxes2 {w w' : World} {x y z x' y' z' : Value} {t t' : TypeId} (hb : Below ((w.alloc (.cells #[x, y, z] t)).alloc (.cells #[x', y', z'] t')).heap.size ((w.alloc (.cells #[x, y, z] t)).alloc (.cells #[x', y', z'] t')) w') :
    (w'.cell? ⟨w.heap.size, 0, none⟩ = some x ∧ w'.cell? ⟨w.heap.size, 1, none⟩ = some y ∧ w'.cell? ⟨w.heap.size, 2, none⟩ = some z)
    ∧ (w'.frozen? ⟨w.heap.size, 0, none⟩ = false ∧ w'.frozen? ⟨w.heap.size, 1, none⟩ = false ∧ w'.frozen? ⟨w.heap.size, 2, none⟩ = false)
    ∧ (w'.cell? ⟨w.heap.size + 1, 0, none⟩ = some x' ∧ w'.cell? ⟨w.heap.size + 1, 1, none⟩ = some y' ∧ w'.cell? ⟨w.heap.size + 1, 2, none⟩ = some z') ∧ w.heap.size + 1 < w'.heap.size ∧ Below w.heap.size w w' := by
  have hz := hb.size
  have hz' : ((w.alloc (.cells #[x, y, z] t)).alloc (.cells #[x', y', z'] t')).heap.size = w.heap.size + 2 := by simp
  rw [hz'] at hz
  refine ⟨⟨?_, ?_, ?_⟩, ⟨?_, ?_, ?_⟩, ⟨?_, ?_, ?_⟩, by omega, Below.of_alloc (Below.of_alloc hb)⟩
  all_goals (first | rw [hb.cell (by rw [hz']; exact Nat.lt_add_of_pos_right (by decide))] | rw [hb.frozen (by rw [hz']; exact Nat.lt_add_of_pos_right (by decide))] | rw [hb.cell (by rw [hz']; exact Nat.lt_succ_self _)])
  all_goals go_simp
theorem Below.set_new {w w' : World} (h : Below w.heap.size w w') {a : Addr} (ha : w.heap.size ≤ a.block) (x : Value) : Below w.heap.size w (w'.setCell a x) := h.setCell ha x

/-- What a region may lean on while calls make memory: a box of three cells, the variables, and that nothing old is turned. -/
theorem keep3 {B A : Nat} {W u v : World} {x y z : Value} (hb : Below u.heap.size u v)
    (h : u.cell? ⟨B, 0, none⟩ = some x ∧ u.cell? ⟨B, 1, none⟩ = some y ∧ u.cell? ⟨B, 2, none⟩ = some z ∧ B < u.heap.size ∧ Env ls u ∧ Below A W u ∧ A ≤ u.heap.size) :
    v.cell? ⟨B, 0, none⟩ = some x ∧ v.cell? ⟨B, 1, none⟩ = some y ∧ v.cell? ⟨B, 2, none⟩ = some z ∧ B < v.heap.size ∧ Env ls v ∧ Below A W v ∧ A ≤ v.heap.size := by
  obtain ⟨h0, h1, h2, hz, hE, hB, hA⟩ := h
  have := hb.size
  exact ⟨by rw [hb.cell (by exact hz)]; exact h0, by rw [hb.cell (by exact hz)]; exact h1, by rw [hb.cell (by exact hz)]; exact h2, by omega, hE.low hb, hB.trans (hb.mono hA), by omega⟩
theorem keep6 {B B' A : Nat} {W u v : World} {x y z x' y' z' : Value} (hb : Below u.heap.size u v)
    (h : u.cell? ⟨B, 0, none⟩ = some x ∧ u.cell? ⟨B, 1, none⟩ = some y ∧ u.cell? ⟨B, 2, none⟩ = some z ∧ u.cell? ⟨B', 0, none⟩ = some x' ∧ u.cell? ⟨B', 1, none⟩ = some y' ∧ u.cell? ⟨B', 2, none⟩ = some z' ∧ B < u.heap.size ∧ B' < u.heap.size ∧ Env ls u ∧ Below A W u ∧ A ≤ u.heap.size) :
    v.cell? ⟨B, 0, none⟩ = some x ∧ v.cell? ⟨B, 1, none⟩ = some y ∧ v.cell? ⟨B, 2, none⟩ = some z ∧ v.cell? ⟨B', 0, none⟩ = some x' ∧ v.cell? ⟨B', 1, none⟩ = some y' ∧ v.cell? ⟨B', 2, none⟩ = some z' ∧ B < v.heap.size ∧ B' < v.heap.size ∧ Env ls v ∧ Below A W v ∧ A ≤ v.heap.size := by
  obtain ⟨h0, h1, h2, h0', h1', h2', hz, hz', hE, hB, hA⟩ := h
  have := hb.size
  exact ⟨by rw [hb.cell (by exact hz)]; exact h0, by rw [hb.cell (by exact hz)]; exact h1, by rw [hb.cell (by exact hz)]; exact h2, by rw [hb.cell (by exact hz')]; exact h0', by rw [hb.cell (by exact hz')]; exact h1', by rw [hb.cell (by exact hz')]; exact h2', by omega, by omega, hE.low hb, hB.trans (hb.mono hA), by omega⟩
theorem Env.drew {w : World} (h : Env ls w) : Env ls w.drew := h.keep (Nat.le_refl _) (fun _ _ => rfl)
end Go.Proofs.YtgaihglploedaabDoor
/-
  FROM A WALK TO A STATEMENT: what all laws share. The listed variables give the environment; a law that turns nothing old leaves its arguments as they were.
-/
namespace Go.Proofs.YtgaihglploedaabDoor
set_option maxRecDepth 100000
open Go.ChangeShapes Go.WideShapes Go.ChangeAt Go.RowKit

theorem own : ownKnob Tryd.prog.godebug = none := by kernel_rfl
theorem laidOut : laidOutB Tryd.prog = true := by kernel_rfl

section
variable {H : Type} {enc : TypeId × Value → H} {P : Program}
theorem trodAll_below (hl : laidOutB P = true) {W W' : World} (hb : Below W.heap.size W W') : ∀ (ts : List TypeId) (vs : List Value) (ds : List (DataW H)) (ps : List MemPlace),
    (ts.all fun t => P.readableRec t && decide (t < P.types.size)) = true → DataW.TrodAll enc P W 0 (fun _ => true) true ts vs ds ps → (∀ x ∈ ps, x.block < W.heap.size) →
    DataW.TrodAll enc P W' 0 (fun b => decide (b < W.heap.size)) true ts vs ds ps
  | [], vs, ds, ps, _, h, _ => by
    obtain ⟨rfl, rfl, rfl⟩ := trodAll_nil h
    exact trodAll_mk0
  | t :: ts, vs, ds, ps, hr, h, hp => by
    obtain ⟨v, vs, d, ds, p, q, rfl, rfl, rfl, h1, h2⟩ := trodAll_cons h
    simp only [List.all_cons, Bool.and_eq_true, decide_eq_true_eq] at hr
    exact trodAll_cons_mk (Below.trod hl hr.1.1 hr.1.2 h1 hb (fun x hx => hp x (List.mem_append.2 (Or.inl hx))))
      (trodAll_below hl hb ts vs ds q hr.2 h2 (fun x hx => hp x (List.mem_append.2 (Or.inr hx))))
end

/-- A law that returns true and turns nothing old. -/
theorem law_post {H : Type} {enc : TypeId × Value → H} {s : ChangeSpec} {f : Func} {W W' : World} {args : Array Value} {ds gs : List (DataW H)} {before : List MemPlace}
    (hv : s.vars = []) (hf : f.resultTypes = #[4]) (hr : (f.params.toList.all fun t => Tryd.prog.readableRec t && decide (t < Tryd.prog.types.size)) = true)
    (hW : DataW.Whole enc Tryd.prog f.params.toList s.vars false W args.toList ds gs before)
    (hfn : s.fn H ds = { results := [.lit (.bool true)], args := ds }) (hb : Below W.heap.size W W') :
    s.post enc Tryd.prog f false true false false W args (.bool true) W' := by
  have hW' := hW
  have hlt := hW.lt
  obtain ⟨p, q, hA, hV, rfl, hfz, hnd⟩ := hW
  rw [hv] at hV
  obtain ⟨rfl, rfl⟩ := trodVars_none hV
  refine ⟨ds, [], p ++ [], [], p, [], hW', ?_, ?_, ?_, hb.frame _, fun h => by cases h⟩
  · rw [List.append_nil, hfn, hf]
    exact trodAll_mk1 (shut_bool Tryd.underlying4 true)
  · rw [List.append_nil, hfn]
    exact trodAll_below laidOut hb _ _ _ _ hr hA (fun x hx => hlt x (List.mem_append.2 (Or.inl hx)))
  · rw [List.append_nil, hfn, hv]
    rfl

/-- A cell of a listed array of strings. -/
theorem text_cell {W : World} {n : String} {g t : Nat} {l : List (List UInt8)} (hg : Tryd.prog.globalNamed n = some g) (hty : (Tryd.prog.globals[g]?).map (·.type) = some t)
    (ht : Tryd.prog.underlying t = some (.array l.length 9)) (h : Lib.VarReads Tryd.prog W n (.agg (l.map fun b => .lit (.string b)))) (i : Nat) (hi : i < l.length) :
    W.cell? ⟨g, i, none⟩ = some (.string ⟨(l.getD i []).toArray⟩) := by
  obtain ⟨g', t', cs, fuel, p, hg', ht', hv, hd⟩ := h
  obtain rfl := Option.some.inj (hg.symm.trans hg')
  obtain rfl := Option.some.inj (hty.symm.trans ht')
  obtain ⟨xs, m, _, ex, _, hl, hel⟩ := DataW.trod_array ht hd
  have c9 : Tryd.prog.cellsOf 9 = 1 := by kernel_rfl
  have hE := hel i hi
  rw [c9, Nat.mul_one, List.getElem?_eq_getElem (by omega)] at hE
  obtain ⟨s, e1, e2, _⟩ := DataW.trod_string Tryd.underlying9 hE
  have e3 : (xs.map (·.1)) = l.map fun b => .lit (.string b) := (DataW.agg.inj (Prod.mk.inj ex).1).symm
  have e4 : (xs.map (·.1))[i]? = (l.map fun b => (DataW.lit (.string b) : DataW Unit))[i]? := by rw [e3]
  rw [List.getElem?_map, List.getElem?_map, List.getElem?_eq_getElem (by omega : i < xs.length), List.getElem?_eq_getElem hi, e2] at e4
  have hs : s = ⟨(l.getD i []).toArray⟩ := by
    simp only [Option.map_some, Option.some.injEq, DataW.lit.injEq, Lit.string.injEq] at e4
    apply bytes_inj
    rw [e4, List.getD, List.getElem?_eq_getElem hi]; simp
  rw [World.var?_cell hg hv i, ← hs]
  have : cs.toList[i]? = some (.string s) := by
    have h0 : ((cs.toList.drop i).take 1)[0]? = some (.string s) := by rw [e1]; rfl
    simpa using h0
  simpa using this

theorem table_is {W : World} {n : String} {g t : Nat} {k : IntKind} {e : TypeId} {zs : List Int} {d : DataW Unit} (hg : Tryd.prog.globalNamed n = some g) (hty : (Tryd.prog.globals[g]?).map (·.type) = some t)
    (ht : Tryd.prog.underlying t = some (.array zs.length e)) (he : Tryd.prog.underlying e = some (.int k)) (hce : Tryd.prog.cellsOf e = 1) (hct : Tryd.prog.cellsOf t = zs.length) (hd : d = Lib.tabData k zs) (h : Lib.VarReads Tryd.prog W n d) :
    Lib.TabIs Tryd.prog W n k zs := by
  subst hd
  obtain ⟨g', t', cs, fuel, p, hg', ht', hv, hd⟩ := h
  obtain rfl := Option.some.inj (hg.symm.trans hg')
  obtain rfl := Option.some.inj (hty.symm.trans ht')
  unfold Lib.TabIs
  rw [hv, ← Lib.cells_of_tab ht he hce hct hd]

/-- A cell of a listed array of arrays of ints. -/
theorem grid_cell {W : World} {n : String} {g t e u : Nat} {k : IntKind} {m c : Nat} {L : List (List Int)} (hg : Tryd.prog.globalNamed n = some g) (hty : (Tryd.prog.globals[g]?).map (·.type) = some t)
    (ht : Tryd.prog.underlying t = some (.array m e)) (he : Tryd.prog.underlying e = some (.array c u)) (hu : Tryd.prog.underlying u = some (.int k)) (hce : Tryd.prog.cellsOf e = c) (hcu : Tryd.prog.cellsOf u = 1) (hL : ∀ i, i < m → (L.getD i []).length = c)
    (h : Lib.VarReads Tryd.prog W n (.agg (L.map (Lib.tabData k)))) (i j : Nat) (hi : i < m) (hj : j < c) :
    W.cell? ⟨g, i * c + j, none⟩ = some (.int k ((L.getD i []).getD j 0)) := by
  obtain ⟨g', t', cs, fuel, p, hg', ht', hv, hd⟩ := h
  obtain rfl := Option.some.inj (hg.symm.trans hg')
  obtain rfl := Option.some.inj (hty.symm.trans ht')
  obtain ⟨fuel', d, q, hdi, hx⟩ := Lib.array_elem ht hd i hi
  rw [hce] at hx
  have hil : i < L.length := by
    rw [List.getElem?_map] at hdi
    have := Option.map_eq_some_iff.1 hdi
    obtain ⟨l, hl, -⟩ := this
    exact (List.getElem?_eq_some_iff.1 hl).1
  rw [List.getElem?_map, List.getElem?_eq_getElem hil, Option.map_some, Option.some.injEq] at hdi
  subst hdi
  have hl := hL i hi
  have hLi : L.getD i [] = L[i] := by simp [List.getElem?_eq_getElem hil]
  rw [hLi] at hl ⊢
  have hcs := Lib.cells_of_tab he hu hcu hce hx
  rw [World.var?_cell hg hv (i * c + j), ← Array.getElem?_toList]
  have h1 := congrArg (·[j]?) hcs
  simp only [List.getElem?_take, List.getElem?_drop, if_pos hj] at h1
  rw [h1, List.getElem?_map, List.getElem?_eq_getElem (by omega : j < L[i].length)]
  simp [List.getElem?_eq_getElem (by omega : j < L[i].length)]
end Go.Proofs.YtgaihglploedaabDoor
/-
  The listed variables give the environment.
-/
namespace Go.Proofs.YtgaihglploedaabDoor
set_option maxRecDepth 100000
open Go.ChangeShapes Go.WideShapes Go.ChangeAt Go.RowKit

theorem global_size : Tryd.prog.globals.size = 12 := by kernel_rfl
theorem shape_size {W : World} (h : W.ShapedOpen Tryd.prog) : 12 ≤ W.heap.size := by
  have hz : (((begin Tryd.prog (fun _ _ => 0) default).world.heap[12 - 1]?).bind Obj.row?).isSome = true := by kernel_rfl
  obtain ⟨x, hx⟩ := Option.isSome_iff_exists.1 hz
  obtain ⟨cs, hh, -⟩ := h.1 (12 - 1) x.1 x.2 (by rw [global_size]; decide) hx
  have := (Array.getElem?_eq_some_iff.1 hh).1
  omega
theorem maxlen_of {W : World} (h : W.ShapedOpen Tryd.prog) : ∃ m, W.cell? ⟨5, 0, none⟩ = some (.int .i64 m) := by
  have hz : ((begin Tryd.prog (fun _ _ => 0) default).world.heap[5]?).bind Obj.row? = some (#[.int .i64 0], 3) := by kernel_rfl
  exact cell_of_shapedOpen_int h (by rw [global_size]; decide) hz rfl (by kernel_rfl) (by kernel_rfl) Tryd.underlying3

def wordL : List (List UInt8) := [[], [97], [98], [105, 116, 39, 115], [90, 32, 122], [126]]
def truthL : List (List UInt8) := [[70, 65, 76, 83, 69], [84, 82, 85, 69]]
/-- The listed variables that this text asks for. -/
structure Listed (ls : List Nat) (l : List (String × DataW Unit)) : Prop where
  names : 1 ∈ ls → ("triggerstore/value.truthNames", Rows.laid_triggerstore_value_truthNames) ∈ l
  pow : ("internal/strconv.uint64pow10", Rows.laid_internal_strconv_uint64pow10) ∈ l
  keys : 3 ∈ ls → ("triggerstore/schema.keywords", Rows.laid_triggerstore_schema_keywords) ∈ l
  syms : 2 ∈ ls → ("triggerstore/token.symbols", Rows.laid_triggerstore_token_symbols) ∈ l
  bits : 0 ∈ ls → ("triggerstore/triggerstorelaw10.bits", Rows.laid_triggerstore_triggerstorelaw10_bits) ∈ l
  errS : 10 ∈ ls → ("strconv.ErrSyntax", Rows.laid_strconv_ErrSyntax) ∈ l
  errR : 11 ∈ ls → ("strconv.ErrRange", Rows.laid_strconv_ErrRange) ∈ l
theorem laidMet_mem {P : Program} {x : String × DataW Unit} {w : World} : ∀ {l : List (String × DataW Unit)}, x ∈ l → laidMet P l w → ∃ r, laidMet P (x :: r) w
  | [], h, _ => by cases h
  | y :: l, h, hm => by
    rcases List.mem_cons.1 h with rfl | h
    · exact ⟨l, hm⟩
    · exact laidMet_mem h hm.tail
theorem errStar_row (u : TypeId) (h : Tryd.prog.typeName? 3 u = some "*errors.errorString") : u = 114 := by
  have star : "*" ++ "errors.errorString" = "*errors.errorString" := by decide
  exact typeName_ptr_named (nm := "errors.errorString") (by rw [star]; kernel_rfl) (by kernel_rfl) (by decide) u (by rw [star]; exact h)
theorem env_of {ls : List Nat} {W : World} {l : List (String × DataW Unit)} (h : laidMet Tryd.prog l W) (hs : W.ShapedOpen Tryd.prog) (hl : Listed ls l) : Env ls W := by
  have hz := shape_size hs
  constructor
  · exact hz
  · intro hm
    have rt := Lib.laidMet.reads h (hl.names hm)
    have gt : Tryd.prog.globalNamed "triggerstore/value.truthNames" = some 1 := by kernel_rfl
    have tt : (Tryd.prog.globals[1]?).map (·.type) = some 49 := by kernel_rfl
    exact text_cell (l := truthL) gt tt Tryd.underlying49 rt 0 (by decide)
  · intro hm
    have rt := Lib.laidMet.reads h (hl.names hm)
    have gt : Tryd.prog.globalNamed "triggerstore/value.truthNames" = some 1 := by kernel_rfl
    have tt : (Tryd.prog.globals[1]?).map (·.type) = some 49 := by kernel_rfl
    exact text_cell (l := truthL) gt tt Tryd.underlying49 rt 1 (by decide)
  · have rp := Lib.laidMet.reads h hl.pow
    exact table_is powG (show (Tryd.prog.globals[4]?).map (·.type) = some 82 by kernel_rfl) Tryd.underlying82 Tryd.underlying60 (by kernel_rfl) (by kernel_rfl) rfl rp
  · exact maxlen_of hs
  · intro hm
    have rk := Lib.laidMet.reads h (hl.keys hm)
    have gk : Tryd.prog.globalNamed "triggerstore/schema.keywords" = some 3 := by kernel_rfl
    have tk : (Tryd.prog.globals[3]?).map (·.type) = some 78 := by kernel_rfl
    have ck := fun i (hi : i < 51) => text_cell (l := keyL) gk tk Tryd.underlying78 rk i hi
    obtain ⟨g', t', cs, fuel, p, hg', ht', hv, hd⟩ := rk
    obtain rfl := Option.some.inj (gk.symm.trans hg')
    obtain rfl := Option.some.inj (tk.symm.trans ht')
    obtain ⟨xs, m, _, ex, hsz, hlen, hel⟩ := DataW.trod_array Tryd.underlying78 hd
    have c51 : Tryd.prog.cellsOf 78 = 51 := by kernel_rfl
    unfold World.var? at hv
    rw [gk, Option.bind_some] at hv
    cases hh : W.heap[(3 : Nat)]? with
    | none => rw [hh] at hv; cases hv
    | some o =>
      cases o with
      | cells ks t fr =>
        rw [hh] at hv
        obtain rfl := Option.some.inj hv
        refine ⟨ks, t, fr, hh, by rw [c51] at hsz; simpa using hsz, fun i hi => ?_⟩
        have := ck i hi
        unfold World.cell? at this
        rw [hh] at this
        exact this
      | _ => rw [hh] at hv; cases hv
  · intro hm
    have rk := Lib.laidMet.reads h (hl.syms hm)
    have gk : Tryd.prog.globalNamed "triggerstore/token.symbols" = some 2 := by kernel_rfl
    have tk : (Tryd.prog.globals[2]?).map (·.type) = some 54 := by kernel_rfl
    have ck := fun i (hi : i < 16) => text_cell (l := symS) gk tk Tryd.underlying54 rk i hi
    obtain ⟨g', t', cs, fuel, p, hg', ht', hv, hd⟩ := rk
    obtain rfl := Option.some.inj (gk.symm.trans hg')
    obtain rfl := Option.some.inj (tk.symm.trans ht')
    obtain ⟨xs, m, _, ex, hsz, hlen, hel⟩ := DataW.trod_array Tryd.underlying54 hd
    have c16 : Tryd.prog.cellsOf 54 = 16 := by kernel_rfl
    unfold World.var? at hv
    rw [gk, Option.bind_some] at hv
    cases hh : W.heap[(2 : Nat)]? with
    | none => rw [hh] at hv; cases hv
    | some o =>
      cases o with
      | cells ks t fr =>
        rw [hh] at hv
        obtain rfl := Option.some.inj hv
        refine ⟨ks, t, fr, hh, by rw [c16] at hsz; simpa using hsz, fun i hi => ?_⟩
        have := ck i hi
        unfold World.cell? at this
        rw [hh] at this
        exact this
      | _ => rw [hh] at hv; cases hv
  · intro hm
    have rn := Lib.laidMet.reads h (hl.bits hm)
    have gn : Tryd.prog.globalNamed "triggerstore/triggerstorelaw10.bits" = some 0 := by kernel_rfl
    have tn : (Tryd.prog.globals[0]?).map (·.type) = some 32 := by kernel_rfl
    exact fun i hi => text_cell (l := bitL) gn tn Tryd.underlying32 rn i hi
  · intro hm
    obtain ⟨r, hr⟩ := laidMet_mem (hl.errS hm) h
    obtain ⟨a0, s0, hv0, -, -, -⟩ := laid_sentinel hr errSG (show (Tryd.prog.globals[10]?).map (·.type) = some 72 by kernel_rfl) Tryd.underlying72 errStar_row Tryd.underlying114 Tryd.underlying116 rfl rfl Tryd.underlying9 (by kernel_rfl) (by kernel_rfl)
    exact ⟨_, _, hv0⟩
  · intro hm
    obtain ⟨r, hr⟩ := laidMet_mem (hl.errR hm) h
    obtain ⟨a0, s0, hv0, -, -, -⟩ := laid_sentinel hr errRG (show (Tryd.prog.globals[11]?).map (·.type) = some 72 by kernel_rfl) Tryd.underlying72 errStar_row Tryd.underlying114 Tryd.underlying116 rfl rfl Tryd.underlying9 (by kernel_rfl) (by kernel_rfl)
    exact ⟨_, _, hv0⟩
end Go.Proofs.YtgaihglploedaabDoor
/-
  Arguments, opened: lists of numbers, values, texts.
-/
namespace Go.Proofs.YtgaihglploedaabDoor
set_option maxRecDepth 100000
open Go.ChangeShapes Go.WideShapes Go.ChangeAt Go.RowKit

section
variable {H : Type} {enc : TypeId × Value → H} {W : World} {v : Value} {d : DataW H} {p : List MemPlace}
/-- An argument of type []int: what the tape's helpers ask. -/
theorem open_tape (hv : ∃ b, Value.okWide Tryd.prog W .any b 28 v) (h : DataW.Trod enc Tryd.prog W 0 (fun _ => true) true 28 v d p) :
    ∃ (a : Option Addr) (len cap : Nat), v = .slice a len cap ∧ len ≤ cap ∧ len ≤ 9223372036854775807 ∧ IntsAt W a len := by
  obtain ⟨b, hv⟩ := hv
  obtain ⟨a0, len, cap, rfl⟩ := okWide_slice Tryd.underlying28 hv
  obtain ⟨fuel, hf⟩ := h
  rcases open_ints Tryd.underlying28 Tryd.underlying3 (by kernel_rfl) hf with ⟨hcs, hx⟩ | ⟨a, len', cap', zs, hcs, _, hl, hm, hz, hx, hcell, hwz⟩
  · simp only [Value.cells, List.cons.injEq, and_true, Value.slice.injEq] at hcs
    obtain ⟨rfl, rfl, rfl⟩ := hcs
    exact ⟨none, 0, 0, rfl, Nat.le_refl _, by decide, fun i hi => by omega⟩
  · simp only [Value.cells, List.cons.injEq, and_true, Value.slice.injEq] at hcs
    obtain ⟨rfl, rfl, rfl⟩ := hcs
    refine ⟨some a, len, cap, rfl, hl, by unfold maxLen at hm; omega, fun i hi => ?_⟩
    rw [if_pos rfl] at hz
    obtain ⟨c, o, rfl, hc⟩ := ints_at hcell (by omega)
    have hi' : i < zs.length := by omega
    have hci := hc i hi'
    have hw := hwz (zs.getD i 0) (by rw [List.getD, List.getElem?_eq_getElem hi']; exact List.getElem_mem hi')
    exact ⟨c, o, _, rfl, World.block_lt_of_cell? W _ hci, hci, (bounds_i64 hw).1, (bounds_i64 hw).2⟩
/-- An argument that is a value. -/
theorem open_val (hv : ∃ b, Value.okWide Tryd.prog W .any b 41 v) (h : DataW.Trod enc Tryd.prog W 0 (fun _ => true) true 41 v d p) :
    ∃ (k n : Int) (s : ByteArray), v = .agg #[.int .i64 k, .int .i64 n, .string s] ∧ -9223372036854775808 ≤ k ∧ k ≤ 9223372036854775807 ∧ -9223372036854775808 ≤ n ∧ n ≤ 9223372036854775807 ∧ s.size ≤ 9223372036854775807 := by
  obtain ⟨b, hv⟩ := hv
  obtain ⟨c0, c1, c2, y0, y1, y2, m, rfl, rfl, rfl, hy0, hy1, hy2⟩ := Joins.open_agg3 Tryd.underlying41 (by kernel_rfl) (by kernel_rfl) hv h
  obtain ⟨k, e0, rfl, wk⟩ := DataW.trod_int Tryd.underlying3 hy0
  obtain ⟨n, e1, rfl, wn⟩ := DataW.trod_int Tryd.underlying2 hy1
  obtain ⟨s, e2, rfl, ws⟩ := DataW.trod_string Tryd.underlying9 hy2
  simp only [List.cons.injEq, and_true] at e0 e1 e2
  subst e0 e1 e2
  exact ⟨k, n, s, rfl, (bounds_i64 wk).1, (bounds_i64 wk).2, (bounds_i64 wn).1, (bounds_i64 wn).2, ws⟩
end
end Go.Proofs.YtgaihglploedaabDoor
