/-
  Several texts in one.
-/
import Derived.Test.YtaajaeidiholmaaDoorPk19
import Derived.Deep.AppendLies
import Derived.Test.YtaajaeidiholmaaDoorPk18
import Derived.Test.YtaajaeidiholmaaDoorPk15
/-
  What AnyExpr keeps while it makes an expression with arguments or a query.
-/
namespace Go.Proofs.YtaajaeidiholmaaDoor
set_option maxRecDepth 100000
open Go.RowKit
variable {ls : List Nat}

/-- An expression without arguments, as yet. -/
abbrev bareEx (kd op : Int) (no : Bool) (ps : Option Addr) (cs : Nat) (sub : List Qu) : Ex := .mk kd op no 0 0 ⟨#[]⟩ ⟨#[]⟩ ⟨#[]⟩ none 0 [] ps cs sub
/-- Behind the switch over kinds: the expression in the box X wants m arguments. -/
structure SwAt (b X D : Nat) (w : World) (kd : Int) (m : Nat) (op : Int) (no : Bool) (ps : Option Addr) (cs : Nat) (sub : List Qu) (u : World) : Prop where
  an : AnW b w u
  box : ExB u X (bareEx kd op no ps cs sub)
  xw : w.heap.size < X
  subs : QAt (fun c => X < c) u (ExAt (fun c => X < c) u D) ps sub
  lens : sub.length ≤ 1
  m3 : m ≤ 3
  good : ∀ pa ca args, args.length = m → (∀ a ∈ args, vE D a = true) → vOf (vE D) (.mk kd op no 0 0 ⟨#[]⟩ ⟨#[]⟩ ⟨#[]⟩ pa ca args ps cs sub) = true
theorem good_args {D : Nat} {kd op : Int} {no : Bool} {m : Nat} (h1 : 3 ≤ kd) (h2 : kd ≤ 7) (hm : m = argN kd) (hop : kd = 5 → 1 ≤ op ∧ op ≤ 13) (hop0 : kd ≠ 5 → op = 0) (hno : kd ≠ 6 → no = false) :
    ∀ pa ca args, args.length = m → (∀ a ∈ args, vE D a = true) → vOf (vE D) (.mk kd op no 0 0 ⟨#[]⟩ ⟨#[]⟩ ⟨#[]⟩ pa ca args none 0 []) = true :=
  fun _ _ _ hl hV => vOf_args h1 h2 (hl.trans hm) hop hop0 hno hV
theorem good_sub {D : Nat} {kd : Int} {ps : Option Addr} {cs : Nat} {q : Qu} (h1 : 8 ≤ kd) (h2 : kd ≤ 12) (hq : quB (vE D) kd q = true) :
    ∀ pa ca args, args.length = 0 → (∀ a ∈ args, vE D a = true) → vOf (vE D) (.mk kd 0 false 0 0 ⟨#[]⟩ ⟨#[]⟩ ⟨#[]⟩ pa ca args ps cs [q]) = true := by
  intro pa ca args hl _
  obtain rfl := List.eq_nil_of_length_eq_zero hl
  refine vOf_iff.2 ⟨by show 1 ≤ kd; omega, h2, by show 0 = argN kd; unfold argN; rw [if_neg (by omega), if_neg (by omega), if_neg (by omega)], by show 1 = subN kd; unfold subN; rw [if_pos ⟨h1, h2⟩], fun h => by have h : kd = 5 := h; omega, fun _ => rfl, fun _ => rfl, fun h => by have h : kd = 1 := h; omega, fun h => by have h : kd = 2 := h; omega,
    fun _ _ => ⟨plain_none rfl rfl rfl rfl rfl, (fun a ha => by cases ha), fun q' hq' => by obtain rfl := List.mem_singleton.1 hq'; exact hq⟩⟩
/-- A cell of a box is set. -/
theorem ExB.setOp {u : World} {X : Nat} {kd op : Int} {no : Bool} {ps : Option Addr} {cs : Nat} {sub : List Qu} (h : ExB u X (bareEx kd op no ps cs sub)) (op' : Int) : ExB (u.setCell ⟨X, 1, none⟩ (.int .i64 op')) X (bareEx kd op' no ps cs sub) := by
  obtain ⟨hl, c0, c1, c2, c3, c4, c5, c6, c7, c8, c9, fz⟩ := h
  refine ⟨by simpa [World.setCell] using hl, ?_, ?_, ?_, ?_, ?_, ?_, ?_, ?_, ?_, ?_, fun o => by rw [World.frozen?_setCell]; exact fz o⟩
  all_goals simp only [Ex.mk_k, Ex.mk_op, Ex.mk_no, Ex.mk_vk, Ex.mk_vi, Ex.mk_vt, Ex.mk_tb, Ex.mk_nm, Ex.mk_pa, Ex.mk_ca, Ex.mk_args, Ex.mk_ps, Ex.mk_cs, Ex.mk_sub] at *
  all_goals go_simp
theorem ExB.setNo {u : World} {X : Nat} {kd op : Int} {no : Bool} {ps : Option Addr} {cs : Nat} {sub : List Qu} (h : ExB u X (bareEx kd op no ps cs sub)) (no' : Bool) : ExB (u.setCell ⟨X, 2, none⟩ (.bool no')) X (bareEx kd op no' ps cs sub) := by
  obtain ⟨hl, c0, c1, c2, c3, c4, c5, c6, c7, c8, c9, fz⟩ := h
  refine ⟨by simpa [World.setCell] using hl, ?_, ?_, ?_, ?_, ?_, ?_, ?_, ?_, ?_, ?_, fun o => by rw [World.frozen?_setCell]; exact fz o⟩
  all_goals simp only [Ex.mk_k, Ex.mk_op, Ex.mk_no, Ex.mk_vk, Ex.mk_vi, Ex.mk_vt, Ex.mk_tb, Ex.mk_nm, Ex.mk_pa, Ex.mk_ca, Ex.mk_args, Ex.mk_ps, Ex.mk_cs, Ex.mk_sub] at *
  all_goals go_simp
theorem ExB.setSub {u : World} {X : Nat} {kd op : Int} {no : Bool} {ps : Option Addr} {cs : Nat} {sub : List Qu} (h : ExB u X (bareEx kd op no ps cs sub)) (p : Option Addr) (c : Nat) (q : Qu) : ExB (u.setCell ⟨X, 9, none⟩ (.slice p 1 c)) X (bareEx kd op no p c [q]) := by
  obtain ⟨hl, c0, c1, c2, c3, c4, c5, c6, c7, c8, c9, fz⟩ := h
  refine ⟨by simpa [World.setCell] using hl, ?_, ?_, ?_, ?_, ?_, ?_, ?_, ?_, ?_, ?_, fun o => by rw [World.frozen?_setCell]; exact fz o⟩
  all_goals simp only [Ex.mk_k, Ex.mk_op, Ex.mk_no, Ex.mk_vk, Ex.mk_vi, Ex.mk_vt, Ex.mk_tb, Ex.mk_nm, Ex.mk_pa, Ex.mk_ca, Ex.mk_args, Ex.mk_ps, Ex.mk_cs, Ex.mk_sub, List.length_singleton] at *
  all_goals go_simp
/-- A query that is made in the box Y. -/
structure QbAt (b X Y D : Nat) (w : World) (kd : Int) (fr : ByteArray) (pi : Option Addr) (ci : Nat) (items : List Ex) (pw : Option Addr) (cw : Nat) (wh : List Ex) (u : World) : Prop where
  an : AnW b w u
  box : ExB u X (bareEx kd 0 false none 0 [])
  xw : w.heap.size < X
  qb : QuBx u Y ⟨kd == 8, pi, ci, items, fr, pw, cw, wh⟩
  yx : X < Y
  frs : fr.size ≤ 9223372036854775807
  its : LAt (fun c => Y < c) u (ExAt (fun c => Y < c) u D) pi items
  whs : LAt (fun c => Y < c) u (ExAt (fun c => Y < c) u D) pw wh
theorem QbAt.next {b X Y D : Nat} {w u v : World} {kd : Int} {fr : ByteArray} {pi : Option Addr} {ci : Nat} {items : List Ex} {pw : Option Addr} {cw : Nat} {wh : List Ex} (h : QbAt b X Y D w kd fr pi ci items pw cw wh u) (hs : StepT b u v) (ht : TapeAt v b) : QbAt b X Y D w kd fr pi ci items pw cw wh v := by
  have hlt := h.an.lt
  have := h.xw
  have := h.yx
  exact ⟨h.an.next hs ht, h.box.step hs (by omega), h.xw, h.qb.step hs (by omega), h.yx, h.frs, h.its.step hs (fun c hc => by omega), h.whs.step hs (fun c hc => by omega)⟩
/-- A literal list of one expression. -/
theorem one_ex {N : Nat → Prop} {u : World} {D : Nat} {E : Ex} (h : ExAt N u D E) (hN : N u.heap.size) (t : TypeId) :
    LAt N (u.alloc (.cells #[.int .i64 E.k, .int .i64 E.op, .bool E.no, .int .i64 E.vk, .int .i64 E.vi, .string E.vt, .string E.tb, .string E.nm, .slice E.pa E.args.length E.ca, .slice E.ps E.sub.length E.cs] t)) (ExAt N (u.alloc (.cells #[.int .i64 E.k, .int .i64 E.op, .bool E.no, .int .i64 E.vk, .int .i64 E.vi, .string E.vt, .string E.tb, .string E.nm, .slice E.pa E.args.length E.ca, .slice E.ps E.sub.length E.cs] t)) D) (some ⟨u.heap.size, 0, none⟩) [E] := by
  intro i hi
  have hi0 : i = 0 := by simpa using hi
  subst hi0
  obtain ⟨hl, c0, c1, c2, c3, c4, c5, c6, c7, c8, c9, -⟩ := ExB.new u E t
  exact ⟨u.heap.size, 0, rfl, hl, hN, ⟨c0, c1, c2, c3, c4, c5, c6, c7, c8, c9⟩, h.low (below_alloc _ _)⟩
theorem QbAt.items {b X Y D : Nat} {w u : World} {kd : Int} {fr : ByteArray} {pi : Option Addr} {ci : Nat} {items : List Ex} {pw : Option Addr} {cw : Nat} {wh : List Ex} (h : QbAt b X Y D w kd fr pi ci items pw cw wh u) {E : Ex} (hE : ExAt (fun c => Y < c) u D E) (t : TypeId) :
    QbAt b X Y D w kd fr (some ⟨u.heap.size, 0, none⟩) 1 [E] pw cw wh ((u.setCell ⟨Y, 1, none⟩ (.slice (some ⟨u.heap.size, 0, none⟩) 1 1)).alloc (.cells #[.int .i64 E.k, .int .i64 E.op, .bool E.no, .int .i64 E.vk, .int .i64 E.vi, .string E.vt, .string E.tb, .string E.nm, .slice E.pa E.args.length E.ca, .slice E.ps E.sub.length E.cs] t)) := by
  rw [← World.setCell_alloc_past _ _ _ _ h.qb.lt]
  have hb := below_alloc u (.cells #[.int .i64 E.k, .int .i64 E.op, .bool E.no, .int .i64 E.vk, .int .i64 E.vi, .string E.vt, .string E.tb, .string E.nm, .slice E.pa E.args.length E.ca, .slice E.ps E.sub.length E.cs] t)
  have hone := one_ex hE h.qb.lt t
  have hq := h.qb.low hb
  have h2 := h.next (StepT.of_below hb) (h.an.tape.below hb)
  generalize u.alloc (.cells #[.int .i64 E.k, .int .i64 E.op, .bool E.no, .int .i64 E.vk, .int .i64 E.vi, .string E.vt, .string E.tb, .string E.nm, .slice E.pa E.args.length E.ca, .slice E.ps E.sub.length E.cs] t) = v at *
  generalize u.heap.size = Z at *
  have hx := (ButX.refl Y v).set 1 none (.slice (some ⟨Z, 0, none⟩) 1 1)
  have := h.xw
  have := h.yx
  have hN : ∀ c, c < v.heap.size → Y < c → c ≠ Y ∧ Y < c := fun c _ hc => ⟨by omega, hc⟩
  refine ⟨h2.an.but hx (by omega), h2.box.but hx (by omega), h.xw, ?_, h.yx, h.frs, hone.but hx hN, h2.whs.but hx hN⟩
  obtain ⟨hl, c0, c1, c2, c3, fz⟩ := hq
  refine ⟨by simpa [World.setCell] using hl, ?_, ?_, ?_, ?_, fun o => by rw [World.frozen?_setCell]; exact fz o⟩
  all_goals simp only [List.length_singleton] at *
  all_goals go_simp
theorem QbAt.wheres {b X Y D : Nat} {w u : World} {kd : Int} {fr : ByteArray} {pi : Option Addr} {ci : Nat} {items : List Ex} {pw : Option Addr} {cw : Nat} {wh : List Ex} (h : QbAt b X Y D w kd fr pi ci items pw cw wh u) {E : Ex} (hE : ExAt (fun c => Y < c) u D E) (t : TypeId) :
    QbAt b X Y D w kd fr pi ci items (some ⟨u.heap.size, 0, none⟩) 1 [E] ((u.setCell ⟨Y, 3, none⟩ (.slice (some ⟨u.heap.size, 0, none⟩) 1 1)).alloc (.cells #[.int .i64 E.k, .int .i64 E.op, .bool E.no, .int .i64 E.vk, .int .i64 E.vi, .string E.vt, .string E.tb, .string E.nm, .slice E.pa E.args.length E.ca, .slice E.ps E.sub.length E.cs] t)) := by
  rw [← World.setCell_alloc_past _ _ _ _ h.qb.lt]
  have hb := below_alloc u (.cells #[.int .i64 E.k, .int .i64 E.op, .bool E.no, .int .i64 E.vk, .int .i64 E.vi, .string E.vt, .string E.tb, .string E.nm, .slice E.pa E.args.length E.ca, .slice E.ps E.sub.length E.cs] t)
  have hone := one_ex hE h.qb.lt t
  have hq := h.qb.low hb
  have h2 := h.next (StepT.of_below hb) (h.an.tape.below hb)
  generalize u.alloc (.cells #[.int .i64 E.k, .int .i64 E.op, .bool E.no, .int .i64 E.vk, .int .i64 E.vi, .string E.vt, .string E.tb, .string E.nm, .slice E.pa E.args.length E.ca, .slice E.ps E.sub.length E.cs] t) = v at *
  generalize u.heap.size = Z at *
  have hx := (ButX.refl Y v).set 3 none (.slice (some ⟨Z, 0, none⟩) 1 1)
  have := h.xw
  have := h.yx
  have hN : ∀ c, c < v.heap.size → Y < c → c ≠ Y ∧ Y < c := fun c _ hc => ⟨by omega, hc⟩
  refine ⟨h2.an.but hx (by omega), h2.box.but hx (by omega), h.xw, ?_, h.yx, h.frs, h2.its.but hx hN, hone.but hx hN⟩
  obtain ⟨hl, c0, c1, c2, c3, fz⟩ := hq
  refine ⟨by simpa [World.setCell] using hl, ?_, ?_, ?_, ?_, fun o => by rw [World.frozen?_setCell]; exact fz o⟩
  all_goals simp only [List.length_singleton] at *
  all_goals go_simp
/-- The query is put into the expression. -/
theorem QbAt.put {b X Y D : Nat} {w u : World} {kd : Int} {fr : ByteArray} {pi : Option Addr} {ci : Nat} {items : List Ex} {pw : Option Addr} {cw : Nat} {wh : List Ex} (h : QbAt b X Y D w kd fr pi ci items pw cw wh u) (h8 : 8 ≤ kd) (h12 : kd ≤ 12) (hli : items.length = itemN kd) (hlw : wh.length ≤ 1) (hfr : srcB fr = true) (hVi : ∀ a ∈ items, vE D a = true) (hVw : ∀ a ∈ wh, vE D a = true) (t : TypeId) :
    SwAt b X D w kd 0 0 false (some ⟨u.heap.size, 0, none⟩) 1 [⟨kd == 8, pi, ci, items, fr, pw, cw, wh⟩] ((u.setCell ⟨X, 9, none⟩ (.slice (some ⟨u.heap.size, 0, none⟩) 1 1)).alloc (.cells #[.bool (kd == 8), .slice pi items.length ci, .string fr, .slice pw wh.length cw] t)) := by
  rw [← World.setCell_alloc_past _ _ _ _ h.box.lt]
  have hb := below_alloc u (.cells #[.bool (kd == 8), .slice pi items.length ci, .string fr, .slice pw wh.length cw] t)
  obtain ⟨hl, c0, c1, c2, c3, -⟩ := QuBx.new u ⟨kd == 8, pi, ci, items, fr, pw, cw, wh⟩ t
  have h2 := h.next (StepT.of_below hb) (h.an.tape.below hb)
  have hZ : Y < u.heap.size := h.qb.lt
  simp only at hl c0 c1 c2 c3
  generalize u.alloc (.cells #[.bool (kd == 8), .slice pi items.length ci, .string fr, .slice pw wh.length cw] t) = v at *
  generalize u.heap.size = Z at *
  have hx := (ButX.refl X v).set 9 none (.slice (some ⟨Z, 0, none⟩) 1 1)
  have := h.xw
  have hyx := h.yx
  have hN : ∀ c, c < v.heap.size → Y < c → c ≠ X ∧ X < c := fun c _ hc => ⟨by omega, by omega⟩
  refine ⟨h2.an.but hx (by omega), h2.box.setSub _ _ _, h.xw, ?_, Nat.le_refl _, Nat.zero_le _, good_sub h8 h12 (quB_mk (by rfl) hli hlw hfr hVi hVw)⟩
  intro i hi
  have hi0 : i = 0 := by simpa using hi
  subst hi0
  refine ⟨Z, 0, rfl, by rw [hx.size]; exact hl, by omega, QuC.keep (u := v) ⟨c0, c1, c2, c3⟩ (hx.block Z (by omega)), ⟨h.frs, ?_, ?_, h2.its.but hx hN, h2.whs.but hx hN⟩⟩
  · show items.length ≤ _; rw [hli]; unfold itemN; split <;> omega
  · show wh.length ≤ _; omega
end Go.Proofs.YtaajaeidiholmaaDoor
/-
  The arguments that AnyExpr appends.
-/
namespace Go.Proofs.YtaajaeidiholmaaDoor
set_option maxRecDepth 100000
open Go.RowKit
variable {ls : List Nat}

/-- The cells of an expression, of a list of them. -/
def excs (e : Ex) : List Value := [.int .i64 e.k, .int .i64 e.op, .bool e.no, .int .i64 e.vk, .int .i64 e.vi, .string e.vt, .string e.tb, .string e.nm, .slice e.pa e.args.length e.ca, .slice e.ps e.sub.length e.cs]
def ecells (l : List Ex) : List Value := l.flatMap excs
theorem ecells_length (l : List Ex) : (ecells l).length = l.length * 10 := by
  induction l with
  | nil => rfl
  | cons e l ih => show (excs e ++ ecells l).length = _; rw [List.length_append, ih, List.length_cons]; show 10 + _ = _; omega
theorem ecells_append (a b : List Ex) : ecells (a ++ b) = ecells a ++ ecells b := List.flatMap_append
theorem ecells_single (e : Ex) : ecells [e] = excs e := by unfold ecells; simp
theorem ecells_at (l : List Ex) : ∀ i, i < l.length → ∀ j, j < 10 → (ecells l)[i * 10 + j]? = (excs (eAt l i))[j]? := by
  induction l with
  | nil => intro i hi; simp at hi
  | cons e l ih =>
    intro i hi j hj
    have h0 : ecells (e :: l) = excs e ++ ecells l := rfl
    rw [h0]
    cases i with
    | zero => rw [List.getElem?_append_left (by show 0 * 10 + j < 10; omega), Nat.zero_mul, Nat.zero_add]; rfl
    | succ i =>
      rw [List.getElem?_append_right (by show 10 ≤ _; omega), show (i + 1) * 10 + j - (excs e).length = i * 10 + j by show (i + 1) * 10 + j - 10 = _; omega, ih i (by simpa using hi) j hj]
      rfl
theorem excs_one (e : Ex) : ∀ u ∈ excs e, u.oneCell' = true := by
  intro u hu
  simp only [excs, List.mem_cons, List.not_mem_nil, or_false] at hu
  rcases hu with rfl | rfl | rfl | rfl | rfl | rfl | rfl | rfl | rfl | rfl <;> rfl
theorem ecells_one (l : List Ex) : ∀ u ∈ ecells l, u.oneCell' = true := by
  intro u hu
  obtain ⟨e, -, h⟩ := List.mem_flatMap.1 hu
  exact excs_one e u h
/-- A list that the call owns lies in memory. -/
theorem LAt.own {N : Nat → Prop} {P : Ex → Prop} {u : World} {base n : Nat} {v : Value} {l : List Ex} (h : u.ownsRow base 30 10 v n (ecells l)) (hN : ∀ k, v.ownBlock = some k → N k) (hP : ∀ e ∈ l, P e) :
    ∃ p c, v = .slice p n c ∧ n = l.length ∧ LAt N u P p l ∧ ∀ q, p = some q → base ≤ q.block ∧ q.off = 0 := by
  obtain ⟨hl, h⟩ := h
  rw [ecells_length] at hl
  have hn : n = l.length := by omega
  rcases h with ⟨rfl, h0⟩ | ⟨g, cap, cur, rfl, hg, hh, hcap, hm, hcur, htake⟩
  · refine ⟨none, 0, by rw [h0], hn, fun i hi => by omega, fun q hq => by cases hq⟩
  · refine ⟨_, cap, rfl, hn, fun i hi => ⟨g, 0, rfl, (Array.getElem?_eq_some_iff.1 hh).1, hN g rfl, ?_, hP _ (eAt_mem hi)⟩, fun q hq => by cases hq; exact ⟨hg, rfl⟩⟩
    have key : ∀ j, j < 10 → u.cell? ⟨g, 0 + i * 10 + j, none⟩ = (excs (eAt l i))[j]? := by
      intro j hj
      have hj2 := ecells_at l i hi j hj
      rw [← htake] at hj2
      rw [List.getElem?_take, if_pos (by omega)] at hj2
      rw [← hj2, Nat.zero_add]
      simp [World.cell?, hh]
    exact ⟨key 0 (by decide), key 1 (by decide), key 2 (by decide), key 3 (by decide), key 4 (by decide), key 5 (by decide), key 6 (by decide), key 7 (by decide), key 8 (by decide), key 9 (by decide)⟩
theorem own_nil (u : World) (base : Nat) : u.ownsRow base 30 10 (.slice none 0 0) 0 (ecells []) := ⟨rfl, Or.inl ⟨rfl, rfl⟩⟩
/-- The cells of a new literal list. -/
theorem news_of {u : World} {X : Nat} {e : Ex} (h : ExB u X e) : ∀ j v, (excs e)[j]? = some v → u.cell? ((⟨X, 0, none⟩ : Addr).add j) = some v := by
  intro j v hj
  have hlt : j < 10 := (List.getElem?_eq_some_iff.1 hj).1
  have hadd : (⟨X, 0, none⟩ : Addr).add j = ⟨X, j, none⟩ := by unfold Addr.add; split <;> simp_all
  rw [hadd, ← hj]
  have h10 : j = 0 ∨ j = 1 ∨ j = 2 ∨ j = 3 ∨ j = 4 ∨ j = 5 ∨ j = 6 ∨ j = 7 ∨ j = 8 ∨ j = 9 := by omega
  rcases h10 with rfl | rfl | rfl | rfl | rfl | rfl | rfl | rfl | rfl | rfl
  · exact h.c0
  · exact h.c1
  · exact h.c2
  · exact h.c3
  · exact h.c4
  · exact h.c5
  · exact h.c6
  · exact h.c7
  · exact h.c8
  · exact h.c9
abbrev NOwn (X : Nat) (gb : Option Nat) : Nat → Prop := fun c => X < c ∧ gb ≠ some c
/-- An expression with the arguments so far. -/
abbrev argsEx (kd op : Int) (no : Bool) (vp : Option Addr) (vc : Nat) (args : List Ex) (ps : Option Addr) (cs : Nat) (sub : List Qu) : Ex := .mk kd op no 0 0 ⟨#[]⟩ ⟨#[]⟩ ⟨#[]⟩ vp vc args ps cs sub
structure LpAt (b X D : Nat) (w : World) (kd op : Int) (no : Bool) (ps : Option Addr) (cs : Nat) (sub : List Qu) (vp : Option Addr) (vc : Nat) (args : List Ex) (u : World) : Prop where
  an : AnW b w u
  box : ExB u X (argsEx kd op no vp vc args ps cs sub)
  xw : w.heap.size < X
  own : u.ownsRow (X + 1) 30 10 (.slice vp args.length vc) args.length (ecells args)
  arg : ∀ a ∈ args, ExAt (NOwn X (Value.slice vp args.length vc).ownBlock) u D a
  subs : QAt (NOwn X (Value.slice vp args.length vc).ownBlock) u (ExAt (NOwn X (Value.slice vp args.length vc).ownBlock) u D) ps sub
  vals : ∀ a ∈ args, vE D a = true
section
variable {b X D : Nat} {w u v : World} {kd op : Int} {no : Bool} {ps : Option Addr} {cs : Nat} {sub : List Qu} {vp : Option Addr} {vc : Nat} {args : List Ex}
theorem LpAt.next (h : LpAt b X D w kd op no ps cs sub vp vc args u) (hs : StepT b u v) (ht : TapeAt v b) : LpAt b X D w kd op no ps cs sub vp vc args v := by
  have hlt := h.an.lt
  have hxw := h.xw
  exact ⟨h.an.next hs ht, h.box.step hs (by omega), h.xw, owns_step h.own (by omega) hs, fun a ha => (h.arg a ha).step hs (fun c hc => by have := hc.1; omega), h.subs.step hs (fun c hc => by have := hc.1; omega), h.vals⟩
theorem LpAt.low (h : LpAt b X D w kd op no ps cs sub vp vc args u) (hb : Below u.heap.size u v) : LpAt b X D w kd op no ps cs sub vp vc args v := h.next (StepT.of_below hb) (h.an.tape.below hb)
/-- An expression that was made since may be appended. -/
theorem LpAt.new (h : LpAt b X D w kd op no ps cs sub vp vc args u) {E : Ex} (hE : ExAt (fun c => u.heap.size < c) v D E) : ExAt (NOwn X (Value.slice vp args.length vc).ownBlock) v D E :=
  hE.weak fun c _ hc => ⟨Nat.lt_trans h.box.lt hc, fun e => by have := owns_lt h.own c e; omega⟩
theorem LpAt.push {x w8 : World} (h : LpAt b X D w kd op no ps cs sub vp vc args x) {E : Ex} (hE : ExAt (NOwn X (Value.slice vp args.length vc).ownBlock) x D E) (hV : vE D E = true) {g cap : Nat}
    (hown : w8.ownsRow (X + 1) 30 10 (.slice (some ⟨g, 0, none⟩) (args.length + 1) cap) (args.length + 1) (ecells args ++ excs E)) (hg : x.grownBy w8 (Value.slice vp args.length vc).ownBlock) (hat : (Value.slice vp args.length vc).ownBlock = some g ∨ g = x.heap.size) :
    ExB w8 X (argsEx kd op no vp vc args ps cs sub) ∧ LpAt b X D w kd op no ps cs sub (some ⟨g, 0, none⟩) cap (args ++ [E]) (w8.setCell ⟨X, 8, none⟩ (.slice (some ⟨g, 0, none⟩) (args.length + 1) cap)) := by
  have hxw := h.xw
  have hlt := h.an.lt
  have hob : ∀ k, (Value.slice vp args.length vc).ownBlock = some k → X + 1 ≤ k := fun k hk => owns_block h.own k hk
  have hbx : ExB w8 X (argsEx kd op no vp vc args ps cs sub) := h.box.keep hg.size (hg.block X h.box.lt fun e => by have := hob X e.symm; omega)
  have hlen : (args ++ [E]).length = args.length + 1 := by simp
  refine ⟨hbx, ?_⟩
  have hset := (ButX.refl X w8).set 8 none (.slice (some ⟨g, 0, none⟩) (args.length + 1) cap)
  have hN : ∀ c, c < x.heap.size → NOwn X (Value.slice vp args.length vc).ownBlock c → (w8.setCell ⟨X, 8, none⟩ (.slice (some ⟨g, 0, none⟩) (args.length + 1) cap)).heap[c]? = x.heap[c]? ∧ NOwn X (Value.slice (some ⟨g, 0, none⟩) (args.length + 1) cap).ownBlock c := by
    intro c hc hn
    refine ⟨(hset.block c (by have := hn.1; omega)).trans (hg.block c hc fun e => hn.2 e.symm), hn.1, fun e => ?_⟩
    obtain rfl : g = c := Option.some.inj e
    rcases hat with h1 | h1
    · exact hn.2 h1
    · omega
  have hz : x.heap.size ≤ (w8.setCell ⟨X, 8, none⟩ (.slice (some ⟨g, 0, none⟩) (args.length + 1) cap)).heap.size := by rw [hset.size]; exact hg.size
  have hst : StepT b w w8 := ⟨hg.os.trans h.an.step.os, hg.tape.trans h.an.step.tape, hg.output.trans h.an.step.output, Nat.le_trans h.an.step.size hg.size, fun k hk hkb => (hg.block k (Nat.lt_of_lt_of_le hk h.an.step.size) fun e => by have := hob k e.symm; omega).trans (h.an.step.block k hk hkb)⟩
  have htp : TapeAt w8 b := h.an.tape.keep (fun k hk => hg.block k (by have := h.an.tape.lt; omega) fun e => by have := hob k e.symm; omega) hg.size
  have hrs : ExB w8 w.heap.size ex0 := h.an.res.keep hg.size (hg.block _ h.an.res.lt fun e => by have := hob _ e.symm; omega)
  refine ⟨AnW.but ⟨htp, hst, hrs, h.an.lt⟩ hset hxw, ?_, hxw, ?_, ?_, ?_, ?_⟩
  · obtain ⟨hl, c0, c1, c2, c3, c4, c5, c6, c7, c8, c9, fz⟩ := hbx
    refine ⟨by simpa [World.setCell] using hl, ?_, ?_, ?_, ?_, ?_, ?_, ?_, ?_, ?_, ?_, fun o => by rw [World.frozen?_setCell]; exact fz o⟩
    all_goals simp only [Ex.mk_k, Ex.mk_op, Ex.mk_no, Ex.mk_vk, Ex.mk_vi, Ex.mk_vt, Ex.mk_tb, Ex.mk_nm, Ex.mk_pa, Ex.mk_ca, Ex.mk_args, Ex.mk_ps, Ex.mk_cs, Ex.mk_sub, hlen] at *
    all_goals go_simp
  · rw [hlen, ecells_append, ecells_single]
    exact owns_keep hown fun k hk => hset.block k (by have := owns_block hown k hk; omega)
  · rw [hlen]
    intro a ha
    rcases List.mem_append.1 ha with ha | ha
    · exact ExAt.keep hz hN D a (h.arg a ha)
    · obtain rfl := List.mem_singleton.1 ha
      exact ExAt.keep hz hN D a hE
  · rw [hlen]
    exact QAt.keep h.subs hz hN fun e he => ExAt.keep hz hN D e he
  · intro a ha
    rcases List.mem_append.1 ha with ha | ha
    · exact h.vals a ha
    · obtain rfl := List.mem_singleton.1 ha; exact hV
/-- All arguments are there: the tree. -/
theorem LpAt.tree (h : LpAt b X D w kd op no ps cs sub vp vc args u) (hl : args.length ≤ 3) (hs : sub.length ≤ 1) : ExAt (fun c => X < c) u (D + 1) (argsEx kd op no vp vc args ps cs sub) := by
  obtain ⟨p, c, hv, -, hA, -⟩ := LAt.own (N := fun c => X < c) (P := ExAt (fun c => X < c) u D) h.own (fun k hk => by have := owns_block h.own k hk; omega) (fun e he => (h.arg e he).weak fun c _ hc => hc.1)
  injection hv with h1 h2 h3
  subst h1
  have e0 : (⟨#[]⟩ : ByteArray).size ≤ 9223372036854775807 := by decide
  exact ⟨e0, e0, e0, by show args.length ≤ _; omega, by show sub.length ≤ _; omega, hA, h.subs.weak fun c _ hc => hc.1, i64_zero⟩
end
end Go.Proofs.YtaajaeidiholmaaDoor
/-
  The sanity check of layer 11.
-/
namespace Go.Proofs.YtaajaeidiholmaaDoor
set_option maxRecDepth 100000
open Go.RowKit
variable {ls : List Nat}

set_option maxHeartbeats 2000000 in
theorem bin_any (op : Int) (a b : Ex) (w : World) :
    Calls Tryd.prog 21 #[.int .i64 op, exV a, exV b] w fun e w' => ∃ g, e = .returned (.agg #[.int .i64 5, .int .i64 op, .bool false, .int .i64 0, .int .i64 0, .string ⟨#[]⟩, .string ⟨#[]⟩, .string ⟨#[]⟩, .slice (some ⟨g, 0, none⟩) 2 2, .slice none 0 0]) ∧ w.heap.size ≤ g ∧ g < w'.heap.size ∧ ExC w' g 0 a ∧ ExC w' g 10 b ∧ Below w.heap.size w w' := by
  unfold exV
  go_enter Tryd.func21, Tryd.ntmps21
  go_wp2
  refine bodyPost_ret (v := .agg #[.int .i64 5, .int .i64 op, .bool false, .int .i64 0, .int .i64 0, .string ⟨#[]⟩, .string ⟨#[]⟩, .string ⟨#[]⟩, .slice (some ⟨w.heap.size + 1 + 1 + 1, 0, none⟩) 2 2, .slice none 0 0]) (by simp [results, Tryd.results21, go_sem]) rfl ⟨w.heap.size + 1 + 1 + 1, rfl, by omega, by simp, ?_, ?_, below_new (below_new (below_new (below_alloc _ _) _) _) _⟩
  · constructor <;> go_simp
  · constructor <;> go_simp
end Go.Proofs.YtaajaeidiholmaaDoor
/-
  The sanity check of layer 12.
-/
namespace Go.Proofs.YtaajaeidiholmaaDoor
set_option maxRecDepth 100000
open Go.RowKit
variable {ls : List Nat}

def kpA : Ex := colEx ⟨#[]⟩ ⟨#[97]⟩
def kpN (n : Int) : Ex := litEx 1 n ⟨#[]⟩
def kpSum (p : Option Addr) : Ex := argEx 5 9 false p 2 [kpA, kpN 1]
def kpMul (p q : Option Addr) : Ex := argEx 5 11 false q 2 [kpSum p, kpN 2]
theorem kpN_valid (V : Ex → Bool) {n : Int} (h : validB 1 n ⟨#[]⟩ = true) (h0 : 0 ≤ n) : vOf V (kpN n) = true := vOf_lit h h0
theorem kpMul_valid (p q : Option Addr) : vE 3 (kpMul p q) = true := by
  refine vOf_args (by decide) (by decide) rfl (fun _ => by decide) (fun h => absurd rfl h) (fun _ => rfl) fun a ha => ?_
  rcases List.mem_cons.1 ha with rfl | ha
  · refine vOf_args (by decide) (by decide) rfl (fun _ => by decide) (fun h => absurd rfl h) (fun _ => rfl) fun a ha => ?_
    rcases List.mem_cons.1 ha with rfl | ha
    · exact vOf_col qual_none (by decide +kernel)
    · obtain rfl := List.mem_singleton.1 ha; exact kpN_valid _ (by decide +kernel) (by decide)
  · obtain rfl := List.mem_singleton.1 ha; exact kpN_valid _ (by decide +kernel) (by decide)
theorem arg_bare {T : Ex → List ByteArray} {e : Ex} {i : Nat} (h : inPar e i = false) : argT T e i = T (eAt e.args i) := by unfold argT; rw [if_neg (by rw [h]; decide)]
theorem arg_parens {T : Ex → List ByteArray} {e : Ex} {i : Nat} (h : inPar e i = true) : argT T e i = [⟨#[40]⟩] ++ T (eAt e.args i) ++ [⟨#[41]⟩] := by unfold argT; rw [if_pos h]
theorem kp_words (p q : Option Addr) : wT 3 (kpMul p q) = [⟨#[40]⟩, ⟨#[97]⟩, ⟨#[43]⟩, fmtB 1 1 ⟨#[]⟩, ⟨#[41]⟩, ⟨#[42]⟩, fmtB 1 2 ⟨#[]⟩] := by
  have h1 : wT 1 kpA = [⟨#[97]⟩] := by
    rw [wT_succ, wOf_col rfl]
    show colT ⟨#[]⟩ ⟨#[97]⟩ = _
    unfold colT
    rw [eqT_none, if_pos rfl]; rfl
  have h2 : ∀ d n, wT (d + 1) (kpN n) = [fmtB 1 n ⟨#[]⟩] := fun d n => by rw [wT_succ, wOf_lit rfl]; rfl
  have h3 : wT 2 (kpSum p) = [⟨#[97]⟩, ⟨#[43]⟩, fmtB 1 1 ⟨#[]⟩] := by
    rw [wT_succ, wOf_bin rfl, arg_bare (i := 0) rfl, arg_bare (i := 1) rfl]
    show wT 1 kpA ++ [opS 9] ++ wT 1 (kpN 1) = _
    rw [h1, h2]; rfl
  rw [wT_succ, wOf_bin rfl, arg_parens (i := 0) rfl, arg_bare (i := 1) rfl]
  show [⟨#[40]⟩] ++ wT 2 (kpSum p) ++ [⟨#[41]⟩] ++ [opS 11] ++ wT 2 (kpN 2) = _
  rw [h3, h2]; rfl
theorem kp_one : fmtB 1 1 ⟨#[]⟩ = ⟨#[49]⟩ := by rw [fmtB_num]; decide +kernel
theorem kp_two : fmtB 1 2 ⟨#[]⟩ = ⟨#[50]⟩ := by rw [fmtB_num]; decide +kernel
theorem kp_text (p q : Option Addr) : prV 3 (kpMul p q) = .tuple #[.string ⟨#[40, 97, 32, 43, 32, 49, 41, 32, 42, 32, 50]⟩, .bool true] := by
  unfold prV
  rw [kpMul_valid, if_pos rfl, kp_words, kp_one, kp_two]
  rw [show joinS [⟨#[40]⟩, ⟨#[97]⟩, ⟨#[43]⟩, ⟨#[49]⟩, ⟨#[41]⟩, ⟨#[42]⟩, ⟨#[50]⟩] = ⟨#[40, 97, 32, 43, 32, 49, 41, 32, 42, 32, 50]⟩ by decide +kernel]
theorem num_any (n : Int) (h0 : 0 ≤ n) (w : World) : Calls Tryd.prog 22 #[.int .i64 n] w fun e w' => e = .returned (exV (kpN n)) ∧ Below w.heap.size w w' := by
  have hd : decide (n < 0) = false := decide_eq_false (by omega)
  go_enter Tryd.func22, Tryd.ntmps22
  go_wp2_with fail
  refine (lit_agg 1 n ⟨#[]⟩ _).mono ?_
  rintro e w' ⟨rfl, hb⟩
  have hx : ExB w' w.heap.size ex0 := (ExB.new w ex0 30).low hb
  have hB := Lib.hid (Below.of_alloc hb)
  clear hb
  obtain ⟨xl, x0, x1, x2, x3, x4, x5, x6, x7, x8, x9, xf⟩ := hx
  simp only [ex0, Ex.mk_k, Ex.mk_op, Ex.mk_no, Ex.mk_vk, Ex.mk_vi, Ex.mk_vt, Ex.mk_tb, Ex.mk_nm, Ex.mk_pa, Ex.mk_ca, Ex.mk_args, Ex.mk_ps, Ex.mk_cs, Ex.mk_sub, List.length_nil] at x0 x1 x2 x3 x4 x5 x6 x7 x8 x9
  go_wp2
  obtain ⟨y0, y1, y2, y3, y4, y5, y6, y7, y8, y9⟩ := set_ten (a := ex0) ⟨xl, x0, x1, x2, x3, x4, x5, x6, x7, x8, x9, xf⟩ (.int .i64 1) (.int .i64 0) (.bool false) (.int .i64 1) (.int .i64 n) (.string ⟨#[]⟩) (.string ⟨#[]⟩) (.string ⟨#[]⟩) (.slice none 0 0) (.slice none 0 0)
  refine bodyPost_ret (v := .agg #[.int .i64 1, .int .i64 0, .bool false, .int .i64 1, .int .i64 n, .string ⟨#[]⟩, .string ⟨#[]⟩, .string ⟨#[]⟩, .slice none 0 0, .slice none 0 0]) (by simp [results, Tryd.results22, go_sem, y0, y1, y2, y3, y4, y5, y6, y7, y8, y9]) rfl ⟨rfl, ?_⟩
  repeat (refine Below.setCell ?_ (by exact Nat.le_refl _) _)
  exact hB.out
theorem kp_pair {u : World} {g : Nat} {d : Nat} {a b : Ex} (hg : g < u.heap.size) (ha : ExC u g 0 a) (hb : ExC u g 10 b) (h1 : ExAt (fun _ => True) u d a) (h2 : ExAt (fun _ => True) u d b) (op : Int) : ExAt (fun _ => True) u (d + 1) (argEx 5 op false (some ⟨g, 0, none⟩) 2 [a, b]) := by
  have hl1 : LAt (fun _ => True) u (ExAt (fun _ => True) u d) (some ⟨g, 0, none⟩) [a, b] := fun i hi => by
    have hi2 : i = 0 ∨ i = 1 := by have hi : i < 2 := hi; omega
    rcases hi2 with rfl | rfl
    · exact ⟨g, 0, rfl, hg, trivial, ha, h1⟩
    · exact ⟨g, 0, rfl, hg, trivial, hb, h2⟩
  have e0 : (⟨#[]⟩ : ByteArray).size ≤ 9223372036854775807 := by decide
  exact ⟨e0, e0, e0, (show (2 : Nat) ≤ 9223372036854775807 by decide), (show (0 : Nat) ≤ 9223372036854775807 by decide), hl1, QAt.nil _ _ _ _, i64_zero⟩
set_option maxHeartbeats 4000000 in
theorem known12_any (w : World) (hE : Env ls w) (hu : 2 ∈ ls) (hm : 6 ∈ ls) (hp : 1 ∈ ls) (hN : 3 ∈ ls) (hP : 5 ∈ ls) :
    Calls Tryd.prog 8 #[] w fun e w' => e = .returned (.bool true) ∧ Below w.heap.size w w' := by
  have HE := Lib.hid hE
  have HPX := Lib.hid (fun e v h1 h2 h3 => pexpr_any (ls := ls) (N := fun _ => True) (d := 3) hu hm hp hN hP e v h1 h2 h3)
  clear hE
  go_enter Tryd.func8, Tryd.ntmps8
  go_wp2_with fail
  refine (col_agg ⟨#[]⟩ ⟨#[97]⟩ _).mono ?_
  rintro e w1 ⟨rfl, hb1⟩
  have HB1 := Lib.hid hb1
  clear hb1
  go_wp2_with fail
  refine (num_any 1 (by decide) _).mono ?_
  rintro e w2 ⟨rfl, hb2⟩
  have HB2 := Lib.hid (below_next HB1.out hb2)
  clear hb2
  go_wp2_with fail
  refine (bin_any 9 kpA (kpN 1) _).mono ?_
  rintro e w3 ⟨g, rfl, hg, hgl, hA, hB, hb3⟩
  have HB3 := Lib.hid (below_next HB2.out hb3)
  have hs := kp_pair hgl hA hB (ExAt.leaf _ _ 0 2 0 false 0 0 (by decide) (by decide) (by decide)) (ExAt.leaf _ _ 0 1 0 false 1 1 (by decide) (by decide) (by decide) (by decide)) 9
  have HS3 := Lib.hid hs
  clear hg hgl hA hB hb3 hs
  go_wp2_with fail
  refine (num_any 2 (by decide) _).mono ?_
  rintro e w4 ⟨rfl, hb4⟩
  have HB4 := Lib.hid (below_next HB3.out hb4)
  have HS4 := Lib.hid (HS3.out.low hb4)
  clear hb4
  go_wp2_with fail
  refine (bin_any 11 (kpSum (some ⟨g, 0, none⟩)) (kpN 2) _).mono ?_
  rintro e w5 ⟨g2, rfl, hg, hgl, hA, hB, hb5⟩
  have HB5 := Lib.hid (below_next HB4.out hb5)
  have hs := kp_pair hgl hA hB (HS4.out.low hb5) ((ExAt.leaf _ _ 0 1 0 false 1 2 (by decide) (by decide) (by decide) (by decide)).upto (by decide)) 11
  have hc := HPX.out (kpMul (some ⟨g, 0, none⟩) (some ⟨g2, 0, none⟩)) w5 hs (HE.out.low HB5.out) (by rw [kp_words]; decide)
  rw [kp_text] at hc
  have HC := Lib.hid hc
  clear hg hgl hA hB hb5 hs hc
  go_wp2_with fail
  refine (HC.out).mono ?_
  rintro e w6 ⟨rfl, hb6⟩
  have HB6 := Lib.hid (below_next HB5.out hb6)
  clear hb6
  go_wp2
  go_ret
  exact ⟨rfl, HB6.out⟩
end Go.Proofs.YtaajaeidiholmaaDoor
