/-
  FROM A WALK TO A STATEMENT: what all laws share. The listed variables give the environment; a law that turns nothing old leaves its arguments as they were.
-/
import Derived.Test.YtlgagibmndbimaaDoorRows
import Derived.Test.YtlgagibmndbimaaDoorEnv
import Derived.ProofKit
import Derived.OpenShut
import Derived.Deep.DeepHandedRow
import Derived.Lib.LaidTab
import Derived.Lib.LaidU8
import Derived.Lay
import Derived.LaidMore
import Derived.SevenTiedAt
import Derived.MakeChecks
import Derived.Clock
namespace Go.Proofs.YtlgagibmndbimaaDoor
open Go.ChangeShapes Go.WideShapes Go.ChangeAt Go.RowKit

theorem own : ownKnob Tryd.prog.godebug = none := by kernel_rfl
theorem laidOut : laidOutB Tryd.prog = true := by kernel_rfl

section
variable {H : Type} {enc : TypeId × Value → H} {P : Program}
theorem trodAll_below (hl : laidOutB P = true) {W W' : World} (hb : Below W.heap.size W W') : ∀ (ts : List TypeId) (vs : List Value) (ds : List (DataW H)) (ps : List MemPlace),
    (ts.all fun t => P.readableRec t && decide (t < P.types.size)) = true → DataW.TrodAll enc P W 0 (fun _ => true) true ts vs ds ps → (∀ x ∈ ps, x.block < W.heap.size) →
    DataW.TrodAll enc P W' 0 (fun b => decide (b < W.heap.size)) true ts vs ds ps
  | [], vs, ds, ps, _, h, _ => by
    obtain ⟨rfl, rfl, rfl⟩ := trodAll_nil h
    exact trodAll_mk0
  | t :: ts, vs, ds, ps, hr, h, hp => by
    obtain ⟨v, vs, d, ds, p, q, rfl, rfl, rfl, h1, h2⟩ := trodAll_cons h
    simp only [List.all_cons, Bool.and_eq_true, decide_eq_true_eq] at hr
    exact trodAll_cons_mk (Below.trod hl hr.1.1 hr.1.2 h1 hb (fun x hx => hp x (List.mem_append.2 (Or.inl hx))))
      (trodAll_below hl hb ts vs ds q hr.2 h2 (fun x hx => hp x (List.mem_append.2 (Or.inr hx))))
end

/-- A law that returns true and turns nothing old. -/
theorem law_post {H : Type} {enc : TypeId × Value → H} {s : ChangeSpec} {f : Func} {W W' : World} {args : Array Value} {ds gs : List (DataW H)} {before : List MemPlace}
    (hv : s.vars = []) (hf : f.resultTypes = #[4]) (hr : (f.params.toList.all fun t => Tryd.prog.readableRec t && decide (t < Tryd.prog.types.size)) = true)
    (hW : DataW.Whole enc Tryd.prog f.params.toList s.vars false W args.toList ds gs before)
    (hfn : s.fn H ds = { results := [.lit (.bool true)], args := ds }) (hb : Below W.heap.size W W') :
    s.post enc Tryd.prog f false true false false W args (.bool true) W' := by
  have hW' := hW
  have hlt := hW.lt
  obtain ⟨p, q, hA, hV, rfl, hfz, hnd⟩ := hW
  rw [hv] at hV
  obtain ⟨rfl, rfl⟩ := trodVars_none hV
  refine ⟨ds, [], p ++ [], [], p, [], hW', ?_, ?_, ?_, hb.frame _, fun h => by cases h⟩
  · rw [List.append_nil, hfn, hf]
    exact trodAll_mk1 (shut_bool Tryd.underlying4 true)
  · rw [List.append_nil, hfn]
    exact trodAll_below laidOut hb _ _ _ _ hr hA (fun x hx => hlt x (List.mem_append.2 (Or.inl hx)))
  · rw [List.append_nil, hfn, hv]
    rfl

/-- A cell of a listed array of strings. -/
theorem text_cell {W : World} {n : String} {g t : Nat} {l : List (List UInt8)} (hg : Tryd.prog.globalNamed n = some g) (hty : (Tryd.prog.globals[g]?).map (·.type) = some t)
    (ht : Tryd.prog.underlying t = some (.array l.length 9)) (h : Lib.VarReads Tryd.prog W n (.agg (l.map fun b => .lit (.string b)))) (i : Nat) (hi : i < l.length) :
    W.cell? ⟨g, i, none⟩ = some (.string ⟨(l.getD i []).toArray⟩) := by
  obtain ⟨g', t', cs, fuel, p, hg', ht', hv, hd⟩ := h
  obtain rfl := Option.some.inj (hg.symm.trans hg')
  obtain rfl := Option.some.inj (hty.symm.trans ht')
  obtain ⟨xs, m, _, ex, _, hl, hel⟩ := DataW.trod_array ht hd
  have c9 : Tryd.prog.cellsOf 9 = 1 := by kernel_rfl
  have hE := hel i hi
  rw [c9, Nat.mul_one, List.getElem?_eq_getElem (by omega)] at hE
  obtain ⟨s, e1, e2, _⟩ := DataW.trod_string Tryd.underlying9 hE
  have e3 : (xs.map (·.1)) = l.map fun b => .lit (.string b) := (DataW.agg.inj (Prod.mk.inj ex).1).symm
  have e4 : (xs.map (·.1))[i]? = (l.map fun b => (DataW.lit (.string b) : DataW Unit))[i]? := by rw [e3]
  rw [List.getElem?_map, List.getElem?_map, List.getElem?_eq_getElem (by omega : i < xs.length), List.getElem?_eq_getElem hi, e2] at e4
  have hs : s = ⟨(l.getD i []).toArray⟩ := by
    simp only [Option.map_some, Option.some.injEq, DataW.lit.injEq, Lit.string.injEq] at e4
    apply bytes_inj
    rw [e4, List.getD, List.getElem?_eq_getElem hi]; simp
  rw [World.var?_cell hg hv i, ← hs]
  have : cs.toList[i]? = some (.string s) := by
    have h0 : ((cs.toList.drop i).take 1)[0]? = some (.string s) := by rw [e1]; rfl
    simpa using h0
  simpa using this

theorem table_is {W : World} {n : String} {g t : Nat} {k : IntKind} {e : TypeId} {zs : List Int} {d : DataW Unit} (hg : Tryd.prog.globalNamed n = some g) (hty : (Tryd.prog.globals[g]?).map (·.type) = some t)
    (ht : Tryd.prog.underlying t = some (.array zs.length e)) (he : Tryd.prog.underlying e = some (.int k)) (hce : Tryd.prog.cellsOf e = 1) (hct : Tryd.prog.cellsOf t = zs.length) (hd : d = Lib.tabData k zs) (h : Lib.VarReads Tryd.prog W n d) :
    Lib.TabIs Tryd.prog W n k zs := by
  subst hd
  obtain ⟨g', t', cs, fuel, p, hg', ht', hv, hd⟩ := h
  obtain rfl := Option.some.inj (hg.symm.trans hg')
  obtain rfl := Option.some.inj (hty.symm.trans ht')
  unfold Lib.TabIs
  rw [hv, ← Lib.cells_of_tab ht he hce hct hd]

/-- A cell of a listed array of arrays of ints. -/
theorem grid_cell {W : World} {n : String} {g t e u : Nat} {k : IntKind} {m c : Nat} {L : List (List Int)} (hg : Tryd.prog.globalNamed n = some g) (hty : (Tryd.prog.globals[g]?).map (·.type) = some t)
    (ht : Tryd.prog.underlying t = some (.array m e)) (he : Tryd.prog.underlying e = some (.array c u)) (hu : Tryd.prog.underlying u = some (.int k)) (hce : Tryd.prog.cellsOf e = c) (hcu : Tryd.prog.cellsOf u = 1) (hL : ∀ i, i < m → (L.getD i []).length = c)
    (h : Lib.VarReads Tryd.prog W n (.agg (L.map (Lib.tabData k)))) (i j : Nat) (hi : i < m) (hj : j < c) :
    W.cell? ⟨g, i * c + j, none⟩ = some (.int k ((L.getD i []).getD j 0)) := by
  obtain ⟨g', t', cs, fuel, p, hg', ht', hv, hd⟩ := h
  obtain rfl := Option.some.inj (hg.symm.trans hg')
  obtain rfl := Option.some.inj (hty.symm.trans ht')
  obtain ⟨fuel', d, q, hdi, hx⟩ := Lib.array_elem ht hd i hi
  rw [hce] at hx
  have hil : i < L.length := by
    rw [List.getElem?_map] at hdi
    have := Option.map_eq_some_iff.1 hdi
    obtain ⟨l, hl, -⟩ := this
    exact (List.getElem?_eq_some_iff.1 hl).1
  rw [List.getElem?_map, List.getElem?_eq_getElem hil, Option.map_some, Option.some.injEq] at hdi
  subst hdi
  have hl := hL i hi
  have hLi : L.getD i [] = L[i] := by simp [List.getElem?_eq_getElem hil]
  rw [hLi] at hl ⊢
  have hcs := Lib.cells_of_tab he hu hcu hce hx
  rw [World.var?_cell hg hv (i * c + j), ← Array.getElem?_toList]
  have h1 := congrArg (·[j]?) hcs
  simp only [List.getElem?_take, List.getElem?_drop, if_pos hj] at h1
  rw [h1, List.getElem?_map, List.getElem?_eq_getElem (by omega : j < L[i].length)]
  simp [List.getElem?_eq_getElem (by omega : j < L[i].length)]
end Go.Proofs.YtlgagibmndbimaaDoor
