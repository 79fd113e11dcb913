/-
  Several texts in one.
-/
import Derived.Test.YtdlehlbahkikgaaDoorPk13
import Derived.Test.YtdlehlbahkikgaaDoorPk15
import Derived.Deep.AppendLies
import Derived.Test.YtdlehlbahkikgaaDoorPk07
import Derived.Test.YtdlehlbahkikgaaDoorPk08
import Derived.Deep.RegionLaw
import Derived.Deep.CutRange
/-
  Appends at a step of a region that draws its order.
-/
namespace Go.Proofs.YtdlehlbahkikgaaDoor
set_option maxRecDepth 100000
open Go.RowKit
variable {ls : List Nat}

theorem Cell4.conj {u : World} {X : Nat} {a b c d : Value} (h : Cell4 u X a b c d) : u.cell? ⟨X, 0, none⟩ = some a ∧ u.cell? ⟨X, 1, none⟩ = some b ∧ u.cell? ⟨X, 2, none⟩ = some c ∧ u.cell? ⟨X, 3, none⟩ = some d ∧ X < u.heap.size := ⟨h.c0, h.c1, h.c2, h.c3, h.lt⟩
theorem Cell4.set0 {u : World} {X : Nat} {a b c d : Value} (h : Cell4 u X a b c d) (y : Value) : Cell4 (u.setCell ⟨X, 0, none⟩ y) X y b c d := by
  obtain ⟨hl, c0, c1, c2, c3, fz⟩ := h
  refine ⟨by simpa [World.setCell] using hl, ?_, ?_, ?_, ?_, fun o => ?_⟩
  · go_simp
  · go_simp
  · go_simp
  · go_simp
  · rw [World.frozen?_setCell]; exact fz o
theorem Cell4.set1 {u : World} {X : Nat} {a b c d : Value} (h : Cell4 u X a b c d) (y : Value) : Cell4 (u.setCell ⟨X, 1, none⟩ y) X a y c d := by
  obtain ⟨hl, c0, c1, c2, c3, fz⟩ := h
  refine ⟨by simpa [World.setCell] using hl, ?_, ?_, ?_, ?_, fun o => ?_⟩
  · go_simp
  · go_simp
  · go_simp
  · go_simp
  · rw [World.frozen?_setCell]; exact fz o
theorem InRow.ex {u : World} {base : Nat} {v : Value} {l : List Val} (h : InRow u base (v, l)) : ∃ p c, v = .slice p l.length c := ⟨_, _, (owned_shape h.1).1⟩
theorem keepCT {u v : World} {X : Nat} {x y : Value} (hb : Below u.heap.size u v) (h : u.cell? ⟨X, 0, none⟩ = some x ∧ u.cell? ⟨X, 1, none⟩ = some y ∧ X < u.heap.size) : v.cell? ⟨X, 0, none⟩ = some x ∧ v.cell? ⟨X, 1, none⟩ = some y ∧ X < v.heap.size := by
  obtain ⟨a, b, c⟩ := h
  exact ⟨by rw [hb.cell (by exact c)]; exact a, by rw [hb.cell (by exact c)]; exact b, Nat.lt_of_lt_of_le c hb.size⟩
theorem keepCG {u v : World} {X : Nat} {x y : Value} {row : Option Nat} (hg : u.grownBy v row) (hne : ∀ k, row = some k → k < X) (h : u.cell? ⟨X, 0, none⟩ = some x ∧ u.cell? ⟨X, 1, none⟩ = some y ∧ X < u.heap.size) : v.cell? ⟨X, 0, none⟩ = some x ∧ v.cell? ⟨X, 1, none⟩ = some y ∧ X < v.heap.size := by
  obtain ⟨a, b, c⟩ := h
  have hb := hg.block X c (fun e => by have := hne X e.symm; omega)
  exact ⟨by rw [World.cell?_of_block (w := u) hb]; exact a, by rw [World.cell?_of_block (w := u) hb]; exact b, Nat.lt_of_lt_of_le c hg.size⟩
theorem take_succ_tr {R : List TRow} {k : Nat} (h : k < R.length) : R.take k ++ [tAt R k] = R.take (k + 1) := by
  rw [List.take_add_one, List.getElem?_eq_getElem h, tAt_get h]; rfl
/-- At a step of a region that draws its order. -/
theorem step_of {P : Program} {ops : Array Oper} {o : Oper} {a : Act} {w : World} {K : Act → World → Prop} {Q : Exit → Act → World → Prop} {E : Prop} (hgd : o.guard = none) (h : o.wp P a w K Q) : if Region.wanted o (yielded ops a.tmps) = true then Oper.wp P o a w K Q else E := by
  rw [if_pos (by simp [Region.wanted, hgd])]
  exact h
end Go.Proofs.YtdlehlbahkikgaaDoor
/-
  Append of another's slice, nil or not, to a row of the call's own.
-/
namespace Go.Proofs.YtdlehlbahkikgaaDoor
set_option maxRecDepth 100000
open Go.RowKit

theorem run_append_nil7 {P : Program} {w : World} (base : Nat) (t ty e : TypeId) (i : TypeInfo) (size : Nat) (ht : P.underlying t = some (.slice e)) (hi : P.info? e = some i)
    (v : Value) (n c : Nat) (xs : List Value) (hown : w.ownsRow base e size v n xs) :
    (Builtin.append_ #[t, t] ty #[v, .slice none 0 c]).run P w = .ok v w := by
  rcases hown.2 with ⟨rfl, rfl⟩ | ⟨g, cap, cur, rfl, _, _, hnc, _⟩
  · simp [Builtin.append_, run_underlying ht, sizeOf, typeInfo, hi, Builtin.lenOf, Builtin.firstCells]
  · simp [Builtin.append_, run_underlying ht, sizeOf, typeInfo, hi, Builtin.lenOf, Builtin.firstCells, hnc, storeCells]
/-- Append of another's slice, nil or not, to a row of the call's own. -/
theorem wpList_append_any {w : World} {ops : Array Oper} {rest : List Oper} {o : Oper} {a : Act} {Q : Exit → Act → World → Prop} (hgd : o.guard = none) (s x : Operand) (t e : TypeId)
    (ho : o.op = .call { callee := .builtin .append, args := #[s, x], argTypes := #[t, t] })
    (base : Nat) (i0 : TypeInfo) (z : Value) (size bytes : Nat) (ht : Tryd.prog.underlying t = some (.slice e)) (hi : Tryd.prog.info? e = some i0) (hz0 : i0.zero = some z) (hz1 : i0.size = size) (hz2 : i0.bytes = bytes) (hzs : z.cells.size = size) (hsz : 0 < size) (v : Value) (n : Nat) (xs : List Value) (hs : a.eval s = v) (hown : w.ownsRow base e size v n xs)
    (px : Option Addr) (m cx : Nat) (ys : List Value) (hx : a.eval x = .slice px m cx) (hl : ys.length = m * size) (hsrc : ∀ ad, px = some ad → ∀ j u, ys[j]? = some u → w.cell? (ad.add j) = some u) (hnil : px = none → ys = []) (h1 : ∀ u ∈ ys, u.oneCell' = true) (h63 : n + m ≤ maxLen) (hsum : (n + m) * bytes ≤ 140737488355328) (hbase : base ≤ w.heap.size)
    (h : ∀ v' w', w'.ownsRow base e size v' (n + m) (xs ++ ys) → w.grownBy w' v.ownBlock → wpList Tryd.prog ops Q rest (a.put o.dst v') w') : wpList Tryd.prog ops Q (o :: rest) a w := by
  cases px with
  | none =>
    obtain rfl := hnil rfl
    obtain rfl : m = 0 := by
      rw [List.length_nil] at hl
      rcases Nat.mul_eq_zero.1 hl.symm with h0 | h0
      · exact h0
      · omega
    refine wpList_plain hgd fun K hK => ?_
    have hrun := run_append_nil7 (P := Tryd.prog) (w := w) base t o.type e i0 size ht hi v n cx xs hown
    unfold Oper.wp
    simp [execOp, ho, resolve, invoke, builtin, hs, hx, hrun, Result.andThen]
    exact hK _ _ (h v w (by simpa using hown) (World.grownBy.refl w _))
  | some ad =>
    refine wpList_append_own w hgd s x t ho base e i0 z size bytes ht hi hz0 hz1 hz2 hzs hsz v n xs hs hown ad m cx ys hx hl (hsrc ad rfl) h1 h63 hsum hbase ?_
    intro v' w' h1 h2 _
    exact h v' w' h1 h2
theorem step_append_any {w : World} {ops : Array Oper} {o : Oper} {a : Act} {K : Act → World → Prop} {Q : Exit → Act → World → Prop} {E : Prop} (hgd : o.guard = none) (s x : Operand) (t e : TypeId)
    (ho : o.op = .call { callee := .builtin .append, args := #[s, x], argTypes := #[t, t] })
    (base : Nat) (i0 : TypeInfo) (z : Value) (size bytes : Nat) (ht : Tryd.prog.underlying t = some (.slice e)) (hi : Tryd.prog.info? e = some i0) (hz0 : i0.zero = some z) (hz1 : i0.size = size) (hz2 : i0.bytes = bytes) (hzs : z.cells.size = size) (hsz : 0 < size) (v : Value) (n : Nat) (xs : List Value) (hs : a.eval s = v) (hown : w.ownsRow base e size v n xs)
    (px : Option Addr) (m cx : Nat) (ys : List Value) (hx : a.eval x = .slice px m cx) (hl : ys.length = m * size) (hsrc : ∀ ad, px = some ad → ∀ j u, ys[j]? = some u → w.cell? (ad.add j) = some u) (hnil : px = none → ys = []) (h1 : ∀ u ∈ ys, u.oneCell' = true) (h63 : n + m ≤ maxLen) (hsum : (n + m) * bytes ≤ 140737488355328) (hbase : base ≤ w.heap.size)
    (h : ∀ v' w', w'.ownsRow base e size v' (n + m) (xs ++ ys) → w.grownBy w' v.ownBlock → K (a.put o.dst v') w') : if Region.wanted o (yielded ops a.tmps) = true then Oper.wp Tryd.prog o a w K Q else E := by
  refine step_of hgd ?_
  cases px with
  | none =>
    obtain rfl := hnil rfl
    obtain rfl : m = 0 := by
      rw [List.length_nil] at hl
      rcases Nat.mul_eq_zero.1 hl.symm with h0 | h0
      · exact h0
      · omega
    have hrun := run_append_nil7 (P := Tryd.prog) (w := w) base t o.type e i0 size ht hi v n cx xs hown
    unfold Oper.wp
    simp [execOp, ho, resolve, invoke, builtin, hs, hx, hrun, Result.andThen]
    exact h v w (by simpa using hown) (World.grownBy.refl w _)
  | some ad =>
    refine wp_append_own w s x t ho base e i0 z size bytes ht hi hz0 hz1 hz2 hzs hsz v n xs hs hown ad m cx ys hx hl (hsrc ad rfl) h1 h63 hsum hbase ?_
    intro v' w' h1 h2 _
    exact h v' w' h1 h2
end Go.Proofs.YtdlehlbahkikgaaDoor
/-
  What spoiled of law 11 needs: the state of its walk, lists of queries of the call's own.
-/
namespace Go.Proofs.YtdlehlbahkikgaaDoor
set_option maxRecDepth 100000
open Go.RowKit
variable {ls : List Nat}

/-- The cells of a query, of a list of them. -/
def qucs (q : Qu) : List Value := [.bool q.st, .slice q.pi q.items.length q.ci, .string q.fr, .slice q.pw q.wh.length q.cw]
def qcells (l : List Qu) : List Value := l.flatMap qucs
theorem qcells_length (l : List Qu) : (qcells l).length = l.length * 4 := by
  induction l with
  | nil => rfl
  | cons e l ih => show (qucs e ++ qcells l).length = _; rw [List.length_append, ih, List.length_cons]; show 4 + _ = _; omega
theorem qcells_append (a b : List Qu) : qcells (a ++ b) = qcells a ++ qcells b := List.flatMap_append
theorem qcells_single (e : Qu) : qcells [e] = qucs e := by unfold qcells; simp
theorem qcells_at (l : List Qu) : ∀ i, i < l.length → ∀ j, j < 4 → (qcells l)[i * 4 + j]? = (qucs (qAt l i))[j]? := by
  induction l with
  | nil => intro i hi; simp at hi
  | cons e l ih =>
    intro i hi j hj
    have h0 : qcells (e :: l) = qucs e ++ qcells l := rfl
    rw [h0]
    cases i with
    | zero => rw [List.getElem?_append_left (by show 0 * 4 + j < 4; omega), Nat.zero_mul, Nat.zero_add]; rfl
    | succ i =>
      rw [List.getElem?_append_right (by show 4 ≤ _; omega), show (i + 1) * 4 + j - (qucs e).length = i * 4 + j by show (i + 1) * 4 + j - 4 = _; omega, ih i (by simpa using hi) j hj]
      rfl
theorem qucs_one (e : Qu) : ∀ u ∈ qucs e, u.oneCell' = true := by
  intro u hu
  simp only [qucs, List.mem_cons, List.not_mem_nil, or_false] at hu
  rcases hu with rfl | rfl | rfl | rfl <;> rfl
theorem qcells_one (l : List Qu) : ∀ u ∈ qcells l, u.oneCell' = true := by
  intro u hu
  obtain ⟨e, -, h⟩ := List.mem_flatMap.1 hu
  exact qucs_one e u h
theorem QAt.own {N : Nat → Prop} {P : Ex → Prop} {u : World} {base n : Nat} {v : Value} {l : List Qu} (h : u.ownsRow base 34 4 v n (qcells l)) (hN : ∀ k, v.ownBlock = some k → N k) (hP : ∀ e ∈ l, QuIn N u P e) :
    ∃ p c, v = .slice p n c ∧ n = l.length ∧ QAt N u P p l ∧ ∀ q, p = some q → base ≤ q.block ∧ q.off = 0 := by
  obtain ⟨hl, h⟩ := h
  rw [qcells_length] at hl
  have hn : n = l.length := by omega
  rcases h with ⟨rfl, h0⟩ | ⟨g, cap, cur, rfl, hg, hh, hcap, hm, hcur, htake⟩
  · refine ⟨none, 0, by rw [h0], hn, fun i hi => by omega, fun q hq => by cases hq⟩
  · refine ⟨_, cap, rfl, hn, fun i hi => ⟨g, 0, rfl, (Array.getElem?_eq_some_iff.1 hh).1, hN g rfl, ?_, hP _ (qAt_mem hi)⟩, fun q hq => by cases hq; exact ⟨hg, rfl⟩⟩
    have key : ∀ j, j < 4 → u.cell? ⟨g, 0 + i * 4 + j, none⟩ = (qucs (qAt l i))[j]? := by
      intro j hj
      have hj2 := qcells_at l i hi j hj
      rw [← htake] at hj2
      rw [List.getElem?_take, if_pos (by omega)] at hj2
      rw [← hj2, Nat.zero_add]
      simp [World.cell?, hh]
    exact ⟨key 0 (by decide), key 1 (by decide), key 2 (by decide), key 3 (by decide)⟩
theorem q_news {u : World} {X : Nat} {e : Qu} (h : QuBx u X e) : ∀ j v, (qucs e)[j]? = some v → u.cell? ((⟨X, 0, none⟩ : Addr).add j) = some v := by
  intro j v hj
  have hlt : j < 4 := (List.getElem?_eq_some_iff.1 hj).1
  have hadd : (⟨X, 0, none⟩ : Addr).add j = ⟨X, j, none⟩ := by unfold Addr.add; split <;> simp_all
  rw [hadd, ← hj]
  have h10 : j = 0 ∨ j = 1 ∨ j = 2 ∨ j = 3 := by omega
  rcases h10 with rfl | rfl | rfl | rfl
  · exact h.c0
  · exact h.c1
  · exact h.c2
  · exact h.c3
theorem qat_src {N : Nat → Prop} {u : World} {P : Ex → Prop} {p : Option Addr} {l : List Qu} (h : QAt N u P p l) : ∀ ad, p = some ad → ∀ j v, (qcells l)[j]? = some v → u.cell? (ad.add j) = some v := by
  intro ad hp j v hj
  have hjl : j < l.length * 4 := by
    have := (List.getElem?_eq_some_iff.1 hj).1
    rw [qcells_length] at this; exact this
  obtain ⟨c, o, hc, -, -, hC, -⟩ := h (j / 4) (by omega)
  rw [hp] at hc
  obtain rfl := Option.some.inj hc
  have hadd : (⟨c, o, none⟩ : Addr).add j = ⟨c, o + j, none⟩ := by unfold Addr.add; split <;> simp_all
  have he : j = j / 4 * 4 + j % 4 := by omega
  have hm : j % 4 < 4 := Nat.mod_lt _ (by decide)
  rw [he, qcells_at l (j / 4) (by omega) _ hm] at hj
  rw [hadd, show o + j = o + j / 4 * 4 + j % 4 by omega, ← hj]
  have h10 : j % 4 = 0 ∨ j % 4 = 1 ∨ j % 4 = 2 ∨ j % 4 = 3 := by omega
  rcases h10 with h | h | h | h <;> rw [h]
  · exact hC.c0
  · exact hC.c1
  · exact hC.c2
  · exact hC.c3
theorem qat_none {N : Nat → Prop} {u : World} {P : Ex → Prop} {p : Option Addr} {l : List Qu} (h : QAt N u P p l) : p = none → qcells l = [] := by
  intro hp
  cases l with
  | nil => rfl
  | cons a l =>
    obtain ⟨c, o, hc, -⟩ := h 0 (by simp)
    rw [hp] at hc; cases hc
theorem qat_mem {N : Nat → Prop} {u : World} {P : Ex → Prop} {p : Option Addr} {l : List Qu} (h : QAt N u P p l) : ∀ a ∈ l, QuIn N u P a := by
  intro a ha
  obtain ⟨i, hi, rfl⟩ := List.getElem_of_mem ha
  obtain ⟨c, o, -, -, -, -, hP⟩ := h i hi
  rwa [show qAt l i = l[i] by unfold qAt; rw [List.getD, List.getElem?_eq_getElem hi]; rfl] at hP
theorem lat_src11 {N : Nat → Prop} {u : World} {P : Ex → Prop} {p : Option Addr} {l : List Ex} (h : LAt N u P p l) : ∀ ad, p = some ad → ∀ j v, (ecells l)[j]? = some v → u.cell? (ad.add j) = some v := by
  intro ad hp j v hj
  have hjl : j < l.length * 10 := by
    have := (List.getElem?_eq_some_iff.1 hj).1
    rw [ecells_length] at this; exact this
  obtain ⟨c, o, hc, -, -, hC, -⟩ := h (j / 10) (by omega)
  rw [hp] at hc
  obtain rfl := Option.some.inj hc
  have hadd : (⟨c, o, none⟩ : Addr).add j = ⟨c, o + j, none⟩ := by unfold Addr.add; split <;> simp_all
  have he : j = j / 10 * 10 + j % 10 := by omega
  have hm : j % 10 < 10 := Nat.mod_lt _ (by decide)
  rw [he, ecells_at l (j / 10) (by omega) _ hm] at hj
  rw [hadd, show o + j = o + j / 10 * 10 + j % 10 by omega, ← hj]
  have h10 : j % 10 = 0 ∨ j % 10 = 1 ∨ j % 10 = 2 ∨ j % 10 = 3 ∨ j % 10 = 4 ∨ j % 10 = 5 ∨ j % 10 = 6 ∨ j % 10 = 7 ∨ j % 10 = 8 ∨ j % 10 = 9 := by omega
  rcases h10 with h | h | h | h | h | h | h | h | h | h <;> rw [h]
  · exact hC.c0
  · exact hC.c1
  · exact hC.c2
  · exact hC.c3
  · exact hC.c4
  · exact hC.c5
  · exact hC.c6
  · exact hC.c7
  · exact hC.c8
  · exact hC.c9
theorem lat_none11 {N : Nat → Prop} {u : World} {P : Ex → Prop} {p : Option Addr} {l : List Ex} (h : LAt N u P p l) : p = none → ecells l = [] := by
  intro hp
  cases l with
  | nil => rfl
  | cons a l =>
    obtain ⟨c, o, hc, -⟩ := h 0 (by simp)
    rw [hp] at hc; cases hc
theorem lat_mem11 {N : Nat → Prop} {u : World} {P : Ex → Prop} {p : Option Addr} {l : List Ex} (h : LAt N u P p l) : ∀ a ∈ l, P a := by
  intro a ha
  obtain ⟨i, hi, rfl⟩ := mem_eAt ha
  obtain ⟨c, o, -, -, -, -, hP⟩ := h i hi
  exact hP
theorem eowns_empty11 (w : World) : (w.alloc (.cells #[] 30)).ownsRow w.heap.size 30 10 (.slice (some ⟨w.heap.size, 0, none⟩) 0 0) 0 (ecells []) := by
  refine ⟨rfl, Or.inr ⟨w.heap.size, 0, #[], rfl, Nat.le_refl _, ?_, Nat.le_refl _, by decide, rfl, rfl⟩⟩
  show (w.heap.push _)[w.heap.size]? = _
  simp
theorem qowns_empty (w : World) : (w.alloc (.cells #[] 34)).ownsRow w.heap.size 34 4 (.slice (some ⟨w.heap.size, 0, none⟩) 0 0) 0 (qcells []) := by
  refine ⟨rfl, Or.inr ⟨w.heap.size, 0, #[], rfl, Nat.le_refl _, ?_, Nat.le_refl _, by decide, rfl, rfl⟩⟩
  show (w.heap.push _)[w.heap.size]? = _
  simp
theorem info_query : (Tryd.prog.info? 34).map (fun i => (i.zero, i.size, i.bytes)) = some (some (.agg #[.bool false, .slice none 0 0, .string ⟨#[]⟩, .slice none 0 0]), 4, 72) := by kernel_rfl
theorem QuIn.upto11 {N : Nat → Prop} {w : World} {d D : Nat} {q : Qu} (h : QuIn N w (ExAt N w d) q) (hd : d ≤ D) : QuIn N w (ExAt N w D) q := h.keep (Nat.le_refl _) (fun _ _ hn => ⟨rfl, hn⟩) fun _ hx => hx.upto hd
/-- The state of the walk. -/
abbrev SpN (N : Nat → Prop) (B b X R : Nat) : Nat → Prop := fun c => (N c ∨ B ≤ c) ∧ c ≠ b ∧ c ≠ X ∧ c ≠ R
structure SpW (N : Nat → Prop) (B b X R : Nat) (w : World) (d : Nat) (E : Ex) (u : World) : Prop where
  tape : TapeAt u b
  step : StepT b w u
  res : ExB u R ex0
  box : ExB u X E
  tree : ExAt (SpN N B b X R) u d E
  lt : b < w.heap.size
  xw : w.heap.size ≤ X
  rw : w.heap.size ≤ R
  xr : X ≠ R
  bz : B = w.heap.size
/-- What spoiled gives. -/
def Sp11Post (N : Nat → Prop) (b D : Nat) (w : World) (e : Ending) (v : World) : Prop := ∃ E : Ex, e = .returned (exV E) ∧ ExAt (fun c => (N c ∨ w.heap.size ≤ c) ∧ c ≠ b) v D E ∧ TapeAt v b ∧ StepT b w v
section
variable {N : Nat → Prop} {B b X R d : Nat} {w u v : World} {E : Ex}
theorem SpW.next (h : SpW N B b X R w d E u) (hs : StepT b u v) (ht : TapeAt v b) : SpW N B b X R w d E v := by
  have h1 := h.xw; have h2 := h.rw; have h3 := h.lt
  exact ⟨ht, h.step.trans hs, h.res.step hs (by omega), h.box.step hs (by omega), h.tree.step hs (fun c hc => hc.2.1), h.lt, h.xw, h.rw, h.xr, h.bz⟩
theorem SpW.low (h : SpW N B b X R w d E u) (hb : Below u.heap.size u v) : SpW N B b X R w d E v := h.next (StepT.of_below hb) (h.tape.below hb)
theorem SpW.sp_end (h : SpW N B b X R w d E u) (hb : ButX R u v) {e : Ending} (he : e = .returned (exV E)) {D : Nat} (hd : d ≤ D) : Sp11Post N b D w e v := by
  have h2 := h.rw; have h3 := h.lt; have h4 := h.bz
  exact ⟨E, he, (h.tree.but (M := fun c => (N c ∨ w.heap.size ≤ c) ∧ c ≠ b) hb fun c _ hc => ⟨hc.2.2.2, by rw [← h4]; exact hc.1, hc.2.1⟩).upto hd, h.tape.but hb (by omega), h.step.but hb (by omega)⟩
theorem SpW.put {E' : Ex} {D : Nat} (h : SpW N B b X R w d E u) (hb : ButX X u v) (hx : ExB v X E') (ht : ExAt (SpN N B b X R) v D E') : SpW N B b X R w D E' v := by
  have h1 := h.xw; have h3 := h.lt
  exact ⟨h.tape.but hb (by omega), h.step.but hb h1, h.res.but hb (fun e => h.xr e.symm), hx, ht, h.lt, h.xw, h.rw, h.xr, h.bz⟩
theorem SpW.field {k op vk vi k' op' vk' vi' : Int} {no no' : Bool} {vt tb nm vt' tb' nm' : ByteArray} {pa ps : Option Addr} {ca cs : Nat} {args : List Ex} {sub : List Qu} (h : SpW N B b X R w (d + 1) (.mk k op no vk vi vt tb nm pa ca args ps cs sub) u) (hb : ButX X u v) (hx : ExB v X (.mk k' op' no' vk' vi' vt' tb' nm' pa ca args ps cs sub))
    (h1 : vt'.size ≤ 9223372036854775807) (h2 : tb'.size ≤ 9223372036854775807) (h3 : nm'.size ≤ 9223372036854775807) : SpW N B b X R w (d + 1) (.mk k' op' no' vk' vi' vt' tb' nm' pa ca args ps cs sub) v := by
  refine h.put hb hx ?_
  have ht : ExIn (SpN N B b X R) u (ExAt (SpN N B b X R) u d) (.mk k op no vk vi vt tb nm pa ca args ps cs sub) := h.tree
  have ha : LAt (SpN N B b X R) u (ExAt (SpN N B b X R) u d) pa args := ht.args
  have hs : QAt (SpN N B b X R) u (ExAt (SpN N B b X R) u d) ps sub := ht.sub
  exact ⟨h1, h2, h3, ht.lena, ht.lens, ha.but hb fun c _ hc => ⟨hc.2.2.1, hc⟩, hs.but hb fun c _ hc => ⟨hc.2.2.1, hc⟩⟩
theorem exb_args {k op vk vi : Int} {no : Bool} {vt tb nm : ByteArray} {pa ps p' : Option Addr} {ca cs c' n : Nat} {args args' : List Ex} {sub : List Qu} (h : ExB u X (.mk k op no vk vi vt tb nm pa ca args ps cs sub)) (hn : args'.length = n) : ExB (u.setCell ⟨X, 8, none⟩ (.slice p' n c')) X (.mk k op no vk vi vt tb nm p' c' args' ps cs sub) := by
  subst hn
  obtain ⟨hl, c0, c1, c2, c3, c4, c5, c6, c7, c8, c9, fz⟩ := h
  refine ⟨by simpa [World.setCell] using hl, ?_, ?_, ?_, ?_, ?_, ?_, ?_, ?_, ?_, ?_, fun o => by rw [World.frozen?_setCell]; exact fz o⟩
  all_goals simp only [Ex.mk_k, Ex.mk_op, Ex.mk_no, Ex.mk_vk, Ex.mk_vi, Ex.mk_vt, Ex.mk_tb, Ex.mk_nm, Ex.mk_pa, Ex.mk_ca, Ex.mk_args, Ex.mk_ps, Ex.mk_cs, Ex.mk_sub] at *
  all_goals go_simp
theorem exb_sub {k op vk vi : Int} {no : Bool} {vt tb nm : ByteArray} {pa ps p' : Option Addr} {ca cs c' n : Nat} {args : List Ex} {sub sub' : List Qu} (h : ExB u X (.mk k op no vk vi vt tb nm pa ca args ps cs sub)) (hn : sub'.length = n) : ExB (u.setCell ⟨X, 9, none⟩ (.slice p' n c')) X (.mk k op no vk vi vt tb nm pa ca args p' c' sub') := by
  subst hn
  obtain ⟨hl, c0, c1, c2, c3, c4, c5, c6, c7, c8, c9, fz⟩ := h
  refine ⟨by simpa [World.setCell] using hl, ?_, ?_, ?_, ?_, ?_, ?_, ?_, ?_, ?_, ?_, fun o => by rw [World.frozen?_setCell]; exact fz o⟩
  all_goals simp only [Ex.mk_k, Ex.mk_op, Ex.mk_no, Ex.mk_vk, Ex.mk_vi, Ex.mk_vt, Ex.mk_tb, Ex.mk_nm, Ex.mk_pa, Ex.mk_ca, Ex.mk_args, Ex.mk_ps, Ex.mk_cs, Ex.mk_sub] at *
  all_goals go_simp
/-- New arguments are stored, new queries. -/
theorem SpW.setArgs {k op vk vi : Int} {no : Bool} {vt tb nm : ByteArray} {pa ps p' : Option Addr} {ca cs c' n D : Nat} {args args' : List Ex} {sub : List Qu} (h : SpW N B b X R w (d + 1) (.mk k op no vk vi vt tb nm pa ca args ps cs sub) u) (hd : d ≤ D) (hn : args'.length = n) (hz : n ≤ 1000)
    (hA : LAt (SpN N B b X R) u (ExAt (SpN N B b X R) u D) p' args') : SpW N B b X R w (D + 1) (.mk k op no vk vi vt tb nm p' c' args' ps cs sub) (u.setCell ⟨X, 8, none⟩ (.slice p' n c')) := by
  have hset := (ButX.refl X u).set 8 none (.slice p' n c')
  refine h.put hset (exb_args h.box hn) ?_
  have ht : ExIn (SpN N B b X R) u (ExAt (SpN N B b X R) u d) (.mk k op no vk vi vt tb nm pa ca args ps cs sub) := h.tree
  have hs : QAt (SpN N B b X R) u (ExAt (SpN N B b X R) u d) ps sub := ht.sub
  exact ⟨ht.vt, ht.tb, ht.nm, by show args'.length ≤ _; omega, ht.lens, hA.but hset fun c _ hc => ⟨hc.2.2.1, hc⟩, (hs.more hd).but hset fun c _ hc => ⟨hc.2.2.1, hc⟩⟩
theorem SpW.setSub {k op vk vi : Int} {no : Bool} {vt tb nm : ByteArray} {pa ps p' : Option Addr} {ca cs c' n D : Nat} {args : List Ex} {sub sub' : List Qu} (h : SpW N B b X R w (d + 1) (.mk k op no vk vi vt tb nm pa ca args ps cs sub) u) (hd : d ≤ D) (hn : sub'.length = n) (hz : n ≤ 1000)
    (hA : QAt (SpN N B b X R) u (ExAt (SpN N B b X R) u D) p' sub') : SpW N B b X R w (D + 1) (.mk k op no vk vi vt tb nm pa ca args p' c' sub') (u.setCell ⟨X, 9, none⟩ (.slice p' n c')) := by
  have hset := (ButX.refl X u).set 9 none (.slice p' n c')
  refine h.put hset (exb_sub h.box hn) ?_
  have ht : ExIn (SpN N B b X R) u (ExAt (SpN N B b X R) u d) (.mk k op no vk vi vt tb nm pa ca args ps cs sub) := h.tree
  have hs : LAt (SpN N B b X R) u (ExAt (SpN N B b X R) u d) pa args := ht.args
  exact ⟨ht.vt, ht.tb, ht.nm, ht.lena, by show sub'.length ≤ _; omega, (hs.more hd).but hset fun c _ hc => ⟨hc.2.2.1, hc⟩, hA.but hset fun c _ hc => ⟨hc.2.2.1, hc⟩⟩
theorem SpW.new (h : SpW N B b X R w d E u) : ∀ j, u.heap.size ≤ j → SpN N B b X R j := fun j hj => by
  have h1 := h.box.lt; have h2 := h.res.lt; have h3 := h.tape.lt; have h4 := h.bz; have h5 := h.step.size
  exact ⟨.inr (by omega), by omega, by omega, by omega⟩
/-- Lists of the call's own, laid since. -/
theorem SpW.ownA (_ : SpW N B b X R w d E v) {base n c : Nat} {p : Option Addr} {l : List Ex} {D : Nat} (ho : u.ownsRow base 30 10 (.slice p n c) n (ecells l)) (hB : ∀ j, base ≤ j → SpN N B b X R j) (ha : ∀ a ∈ l, ExAt (SpN N B b X R) u D a) : LAt (SpN N B b X R) u (ExAt (SpN N B b X R) u D) p l := by
  obtain ⟨p', c', hv, -, hA, -⟩ := LAt.own (N := SpN N B b X R) (P := ExAt (SpN N B b X R) u D) ho (fun k hk => hB k (owns_block ho k hk)) ha
  injection hv with h1 h2 h3
  subst h1
  exact hA
theorem SpW.ownQ (_ : SpW N B b X R w d E v) {base n c : Nat} {p : Option Addr} {l : List Qu} {D : Nat} (ho : u.ownsRow base 34 4 (.slice p n c) n (qcells l)) (hB : ∀ j, base ≤ j → SpN N B b X R j) (ha : ∀ a ∈ l, QuIn (SpN N B b X R) u (ExAt (SpN N B b X R) u D) a) : QAt (SpN N B b X R) u (ExAt (SpN N B b X R) u D) p l := by
  obtain ⟨p', c', hv, -, hA, -⟩ := QAt.own (N := SpN N B b X R) (P := ExAt (SpN N B b X R) u D) ho (fun k hk => hB k (owns_block ho k hk)) ha
  injection hv with h1 h2 h3
  subst h1
  exact hA
theorem SpW.args {k op vk vi : Int} {no : Bool} {vt tb nm : ByteArray} {pa ps : Option Addr} {ca cs : Nat} {args : List Ex} {sub : List Qu} (h : SpW N B b X R w (d + 1) (.mk k op no vk vi vt tb nm pa ca args ps cs sub) u) : LAt (SpN N B b X R) u (ExAt (SpN N B b X R) u d) pa args := by
  have ht : ExIn (SpN N B b X R) u (ExAt (SpN N B b X R) u d) (.mk k op no vk vi vt tb nm pa ca args ps cs sub) := h.tree
  exact ht.args
theorem SpW.subs {k op vk vi : Int} {no : Bool} {vt tb nm : ByteArray} {pa ps : Option Addr} {ca cs : Nat} {args : List Ex} {sub : List Qu} (h : SpW N B b X R w (d + 1) (.mk k op no vk vi vt tb nm pa ca args ps cs sub) u) : QAt (SpN N B b X R) u (ExAt (SpN N B b X R) u d) ps sub := by
  have ht : ExIn (SpN N B b X R) u (ExAt (SpN N B b X R) u d) (.mk k op no vk vi vt tb nm pa ca args ps cs sub) := h.tree
  exact ht.sub
/-- The new leaf behind the arguments. -/
theorem more_leaf {M : Nat → Prop} {p : Option Addr} {l : List Ex} (h : LAt M u (ExAt M u d) p l) : ∀ a ∈ l ++ [litEx 1 1 ⟨#[]⟩], ExAt M u (d + 1) a := by
  intro a ha
  rcases List.mem_append.1 ha with ha | ha
  · exact (lat_mem11 h a ha).more
  · obtain rfl := List.mem_singleton.1 ha
    exact ExAt.leaf _ _ _ _ _ _ _ _ (by decide) (by decide) (by decide)
def tQu (st : Bool) : Qu := ⟨st, none, 0, [], ⟨#[116]⟩, none, 0, []⟩
theorem more_tqu {M : Nat → Prop} {p : Option Addr} {l : List Qu} (h : QAt M u (ExAt M u d) p l) (st : Bool) : ∀ a ∈ l ++ [tQu st], QuIn M u (ExAt M u (d + 1)) a := by
  intro a ha
  rcases List.mem_append.1 ha with ha | ha
  · exact (qat_mem h a ha).upto11 (by omega)
  · obtain rfl := List.mem_singleton.1 ha
    exact ⟨by show (1 : Nat) ≤ _; decide, Nat.zero_le _, Nat.zero_le _, LAt.nil _ _ _ _, LAt.nil _ _ _ _⟩
/-- A list of one query in a new literal. -/
theorem one_qu {M : Nat → Prop} {P : Ex → Prop} {Y : Nat} {q : Qu} (hx : QuBx u Y q) (hM : M Y) (hq : QuIn M u P q) : QAt M u P (some ⟨Y, 0, none⟩) [q] := by
  intro i hi
  have hi : i < 1 := hi
  obtain rfl : i = 0 := by omega
  refine ⟨Y, 0, rfl, hx.lt, hM, ?_, hq⟩
  exact ⟨hx.c0, hx.c1, hx.c2, hx.c3⟩
end
theorem own_ex11 {u : World} {base : Nat} {vr : Value} {e : TypeId} {s n : Nat} {xs : List Value} (h : u.ownsRow base e s vr n xs) : ∃ p c, vr = .slice p n c := by
  rcases h.2 with ⟨rfl, rfl⟩ | ⟨g, cap, cur, rfl, -⟩
  · exact ⟨none, 0, rfl⟩
  · exact ⟨_, cap, rfl⟩
theorem own_pos11 {u : World} {base : Nat} {vr : Value} {e : TypeId} {s n : Nat} {xs : List Value} (h : u.ownsRow base e s vr n xs) (hn : 0 < n) : ∃ g c, vr = .slice (some ⟨g, 0, none⟩) n c ∧ base ≤ g ∧ ∃ cur, u.heap[g]? = some (.cells cur e (0, 0)) ∧ n ≤ c ∧ cur.size = c * s := by
  rcases h.2 with ⟨rfl, rfl⟩ | ⟨g, cap, cur, rfl, h1, h2, h3, h4, h5, h6⟩
  · omega
  · exact ⟨g, cap, rfl, h1, cur, h2, h3, h5⟩
/-- A place of a row is turned to another expression. -/
def put10 (u : World) (g o : Nat) (e : Ex) : World := (((((((((u.setCell ⟨g, o, none⟩ (.int .i64 e.k)).setCell ⟨g, o + 1, none⟩ (.int .i64 e.op)).setCell ⟨g, o + 2, none⟩ (.bool e.no)).setCell ⟨g, o + 3, none⟩ (.int .i64 e.vk)).setCell ⟨g, o + 4, none⟩ (.int .i64 e.vi)).setCell ⟨g, o + 5, none⟩ (.string e.vt)).setCell ⟨g, o + 6, none⟩ (.string e.tb)).setCell ⟨g, o + 7, none⟩ (.string e.nm)).setCell ⟨g, o + 8, none⟩ (.slice e.pa e.args.length e.ca)).setCell ⟨g, o + 9, none⟩ (.slice e.ps e.sub.length e.cs)
theorem put10_but (u : World) (g o : Nat) (e : Ex) : ButX g u (put10 u g o e) := ((((((((((ButX.refl g u).set _ _ _).set _ _ _).set _ _ _).set _ _ _).set _ _ _).set _ _ _).set _ _ _).set _ _ _).set _ _ _).set _ _ _
theorem put10_other (u : World) (g o : Nat) (e : Ex) {q : Nat} (h : q < o ∨ o + 10 ≤ q) : (put10 u g o e).cell? ⟨g, q, none⟩ = u.cell? ⟨g, q, none⟩ := by
  unfold put10
  repeat rw [World.cell?_setCell_other _ _ _ _ (by intro e; have := (Addr.mk.inj e).2.1; omega)]
theorem put10_here {u : World} {g o : Nat} (e : Ex) {x : Ex} (h : ExC u g o x) : ExC (put10 u g o e) g o e := by
  obtain ⟨c0, c1, c2, c3, c4, c5, c6, c7, c8, c9⟩ := h
  unfold put10
  refine ⟨?_, ?_, ?_, ?_, ?_, ?_, ?_, ?_, ?_, ?_⟩
  all_goals go_simp
theorem eAt_set {l : List Ex} {j i : Nat} {e : Ex} (hj : j < l.length) : eAt (l.set j e) i = if i = j then e else eAt l i := by
  unfold eAt
  by_cases h : i = j
  · subst h; rw [if_pos rfl]; simp [hj]
  · rw [if_neg h, List.getD, List.getD, List.getElem?_set, if_neg (fun e => h e.symm)]
theorem lat_put {M : Nat → Prop} {P Q : Ex → Prop} {u : World} {g j : Nat} {l : List Ex} {e : Ex} (h : LAt M u P (some ⟨g, 0, none⟩) l) (hj : j < l.length) (hQ : ∀ i, i < l.length → i ≠ j → Q (eAt l i)) (he : Q e) : LAt M (put10 u g (j * 10) e) Q (some ⟨g, 0, none⟩) (l.set j e) := by
  intro i hi
  rw [List.length_set] at hi
  obtain ⟨c, o, hc, hlt, hM, hC, -⟩ := h i hi
  obtain ⟨rfl, rfl⟩ : g = c ∧ 0 = o := by simpa using hc
  refine ⟨g, 0, rfl, by rw [(put10_but u g (j * 10) e).size]; exact hlt, hM, ?_, ?_⟩
  · rw [eAt_set hj]
    split
    · next hij =>
      subst hij
      rw [Nat.zero_add] at hC ⊢
      exact put10_here e hC
    · have hk : ∀ q, 0 + i * 10 ≤ q → q < 0 + i * 10 + 10 → (put10 u g (j * 10) e).cell? ⟨g, q, none⟩ = u.cell? ⟨g, q, none⟩ := fun q h1 h2 => put10_other u g _ e (by omega)
      exact ⟨(hk _ (by omega) (by omega)).trans hC.c0, (hk _ (by omega) (by omega)).trans hC.c1, (hk _ (by omega) (by omega)).trans hC.c2, (hk _ (by omega) (by omega)).trans hC.c3, (hk _ (by omega) (by omega)).trans hC.c4, (hk _ (by omega) (by omega)).trans hC.c5, (hk _ (by omega) (by omega)).trans hC.c6, (hk _ (by omega) (by omega)).trans hC.c7, (hk _ (by omega) (by omega)).trans hC.c8, (hk _ (by omega) (by omega)).trans hC.c9⟩
  · rw [eAt_set hj]
    split
    · exact he
    · exact hQ i hi (by assumption)
theorem QAt.weakN {N M : Nat → Prop} {u : World} {d : Nat} {p : Option Addr} {l : List Qu} (h : QAt N u (ExAt N u d) p l) (hM : ∀ c, c < u.heap.size → N c → M c) : QAt M u (ExAt M u d) p l := h.weak hM
/-- An argument in a row of the call's own is turned. -/
theorem SpW.putArg {N : Nat → Prop} {B b X R d g j : Nat} {w u : World} {k op vk vi : Int} {no : Bool} {vt tb nm : ByteArray} {ps : Option Addr} {ca cs : Nat} {args : List Ex} {sub : List Qu} {e : Ex} (h : SpW N B b X R w (d + 1) (.mk k op no vk vi vt tb nm (some ⟨g, 0, none⟩) ca args ps cs sub) u)
    (hg : SpN N B b X R g) (hgb : b < g) (hgw : w.heap.size ≤ g) (hj : j < args.length) (hz : args.length ≤ 1000) (hs : QAt (fun c => SpN N B b X R c ∧ c ≠ g) u (ExAt (fun c => SpN N B b X R c ∧ c ≠ g) u d) ps sub)
    (hQ : ∀ a ∈ args, ExAt (fun c => SpN N B b X R c ∧ c ≠ g) u d a) (he : ExAt (fun c => SpN N B b X R c ∧ c ≠ g) u (d + 1) e) :
    SpW N B b X R w (d + 1 + 1) (.mk k op no vk vi vt tb nm (some ⟨g, 0, none⟩) ca (args.set j e) ps cs sub) (put10 u g (j * 10) e) := by
  have hb := put10_but u g (j * 10) e
  have ht : ExIn (SpN N B b X R) u (ExAt (SpN N B b X R) u d) (.mk k op no vk vi vt tb nm (some ⟨g, 0, none⟩) ca args ps cs sub) := h.tree
  have hx := h.box.but hb (fun e => hg.2.2.1 e.symm)
  have hl : (args.set j e).length = args.length := List.length_set
  have hkeep : ∀ D a, ExAt (fun c => SpN N B b X R c ∧ c ≠ g) u D a → ExAt (SpN N B b X R) (put10 u g (j * 10) e) D a := fun D a ha => ha.but hb fun c _ hc => ⟨hc.2, hc.1⟩
  refine ⟨h.tape.but hb hgb, h.step.but hb hgw, h.res.but hb (fun e => hg.2.2.2 e.symm), ?_, ?_, h.lt, h.xw, h.rw, h.xr, h.bz⟩
  · obtain ⟨xl, c0, c1, c2, c3, c4, c5, c6, c7, c8, c9, fz⟩ := hx
    exact ⟨xl, c0, c1, c2, c3, c4, c5, c6, c7, c8.trans (by show _ = some (Value.slice _ (args.set j e).length _); rw [hl]; rfl), c9, fz⟩
  · refine ⟨ht.vt, ht.tb, ht.nm, by show (args.set j e).length ≤ _; rw [hl]; omega, ht.lens, ?_, ?_⟩
    · exact lat_put h.args hj (fun i hi _ => (hkeep _ _ (hQ _ (eAt_mem hi))).more) (hkeep _ _ he)
    · exact (hs.more (Nat.le_succ d)).but hb fun c _ hc => ⟨hc.2, hc.1⟩
theorem num1_any (w : World) : Calls Tryd.prog 28 #[.int .i64 1] w fun e w' => e = .returned (.agg #[.int .i64 1, .int .i64 0, .bool false, .int .i64 1, .int .i64 1, .string ⟨#[]⟩, .string ⟨#[]⟩, .string ⟨#[]⟩, .slice none 0 0, .slice none 0 0]) ∧ Below w.heap.size w w' := by
  go_enter Tryd.func28, Tryd.ntmps28
  go_wp2_with fail
  refine (lit_agg 1 1 ⟨#[]⟩ _).mono ?_
  rintro e w' ⟨rfl, hb⟩
  have hx : ExB w' w.heap.size ex0 := (ExB.new w ex0 30).low hb
  have hB := Lib.hid (Below.of_alloc hb)
  clear hb
  obtain ⟨xl, x0, x1, x2, x3, x4, x5, x6, x7, x8, x9, xf⟩ := hx
  simp only [ex0, Ex.mk_k, Ex.mk_op, Ex.mk_no, Ex.mk_vk, Ex.mk_vi, Ex.mk_vt, Ex.mk_tb, Ex.mk_nm, Ex.mk_pa, Ex.mk_ca, Ex.mk_args, Ex.mk_ps, Ex.mk_cs, Ex.mk_sub, List.length_nil] at x0 x1 x2 x3 x4 x5 x6 x7 x8 x9
  go_wp2
  obtain ⟨y0, y1, y2, y3, y4, y5, y6, y7, y8, y9⟩ := set_ten (a := ex0) ⟨xl, x0, x1, x2, x3, x4, x5, x6, x7, x8, x9, xf⟩ (.int .i64 1) (.int .i64 0) (.bool false) (.int .i64 1) (.int .i64 1) (.string ⟨#[]⟩) (.string ⟨#[]⟩) (.string ⟨#[]⟩) (.slice none 0 0) (.slice none 0 0)
  refine bodyPost_ret (v := .agg #[.int .i64 1, .int .i64 0, .bool false, .int .i64 1, .int .i64 1, .string ⟨#[]⟩, .string ⟨#[]⟩, .string ⟨#[]⟩, .slice none 0 0, .slice none 0 0]) (by simp [results, Tryd.results28, go_sem, y0, y1, y2, y3, y4, y5, y6, y7, y8, y9]) rfl ⟨rfl, ?_⟩
  repeat (refine Below.setCell ?_ (by exact Nat.le_refl _) _)
  exact hB.out
end Go.Proofs.YtdlehlbahkikgaaDoor
/-
  spoiled of law 11: a tree of at most one storey more.
-/
namespace Go.Proofs.YtdlehlbahkikgaaDoor
set_option maxRecDepth 100000
open Go.RowKit
variable {ls : List Nat}

/-- spoiled of well-formed trees of at most d storeys. -/
def SpDoes (ls : List Nat) (d : Nat) : Prop := ∀ (N : Nat → Prop) (b : Nat) (E : Ex) (w : World), 4 ≤ b → TapeAt w b → Env ls w → (∀ c, N c → c ≠ b) → ExAt N w d E → vE d E = true →
    Calls Tryd.prog 11 #[.pointer (some ⟨b, 0, none⟩), exV E] w (Sp11Post N b (d + 1) w)
theorem lits_tb {u v : World} {b : Nat} {t : TypeId} (hs : StepT b (u.alloc (.cells #[.string ⟨#[]⟩, .string ⟨#[78, 69, 87]⟩, .string ⟨#[84]⟩, .string ⟨#[83, 69, 76, 69, 67, 84]⟩, .string ⟨#[120]⟩] t)) v) (hb : b < u.heap.size) {j : Nat} (hj : j < 5) : ∃ s : ByteArray, v.cell? ⟨u.heap.size, j, none⟩ = some (.string s) ∧ u.heap.size < v.heap.size ∧ s.size ≤ 9223372036854775807 := by
  have hz : u.heap.size < v.heap.size := Nat.lt_of_lt_of_le (by simp) hs.size
  have hc : ∀ o, v.cell? ⟨u.heap.size, o, none⟩ = (u.alloc (.cells #[.string ⟨#[]⟩, .string ⟨#[78, 69, 87]⟩, .string ⟨#[84]⟩, .string ⟨#[83, 69, 76, 69, 67, 84]⟩, .string ⟨#[120]⟩] t)).cell? ⟨u.heap.size, o, none⟩ := fun o => hs.cell (by simp) (by show u.heap.size ≠ b; omega)
  obtain rfl | rfl | rfl | rfl | rfl : j = 0 ∨ j = 1 ∨ j = 2 ∨ j = 3 ∨ j = 4 := by omega
  · exact ⟨⟨#[]⟩, (hc _).trans (by go_simp), hz, by decide⟩
  · exact ⟨⟨#[78, 69, 87]⟩, (hc _).trans (by go_simp), hz, by decide⟩
  · exact ⟨⟨#[84]⟩, (hc _).trans (by go_simp), hz, by decide⟩
  · exact ⟨⟨#[83, 69, 76, 69, 67, 84]⟩, (hc _).trans (by go_simp), hz, by decide⟩
  · exact ⟨⟨#[120]⟩, (hc _).trans (by go_simp), hz, by decide⟩
theorem lits_nm {u v : World} {b : Nat} {t : TypeId} (hs : StepT b (u.alloc (.cells #[.string ⟨#[]⟩, .string ⟨#[65]⟩, .string ⟨#[110]⟩] t)) v) (hb : b < u.heap.size) {j : Nat} (hj : j < 3) : ∃ s : ByteArray, v.cell? ⟨u.heap.size, j, none⟩ = some (.string s) ∧ u.heap.size < v.heap.size ∧ s.size ≤ 9223372036854775807 := by
  have hz : u.heap.size < v.heap.size := Nat.lt_of_lt_of_le (by simp) hs.size
  have hc : ∀ o, v.cell? ⟨u.heap.size, o, none⟩ = (u.alloc (.cells #[.string ⟨#[]⟩, .string ⟨#[65]⟩, .string ⟨#[110]⟩] t)).cell? ⟨u.heap.size, o, none⟩ := fun o => hs.cell (by simp) (by show u.heap.size ≠ b; omega)
  obtain rfl | rfl | rfl : j = 0 ∨ j = 1 ∨ j = 2 := by omega
  · exact ⟨⟨#[]⟩, (hc _).trans (by go_simp), hz, by decide⟩
  · exact ⟨⟨#[65]⟩, (hc _).trans (by go_simp), hz, by decide⟩
  · exact ⟨⟨#[110]⟩, (hc _).trans (by go_simp), hz, by decide⟩
set_option maxHeartbeats 16000000 in
theorem spoiled11_step {d : Nat} (hd : d ≤ 1000) (H : SpDoes ls d) (hlw : 3 ∈ ls) : SpDoes ls (d + 1) := by
  intro N b E w h8 ht hE hNb hA hV
  have hlt := ht.lt
  have hF : Fine (vE d) E := vOf_fine hV
  have hna : E.args.length ≤ 3 := fine_three hF
  have hns : E.sub.length ≤ 1 := by rw [hF.subn]; unfold subN; split <;> omega
  have HAV := Lib.hid hF.args
  have HSV := Lib.hid (fun q hq => quB_fine (hF.sub q hq))
  have HE := Lib.hid hE
  have hb4 : b ≠ 3 := Nat.ne_of_gt (Nat.lt_of_lt_of_le (show 3 < 4 by decide) h8)
  have HH := Lib.hid H
  clear hF hV hE H
  obtain ⟨k, op, no, vk, vi, vt, tb, nm, pa, ca, args, ps, cs, sub⟩ := E
  have hbx := ExB.new w (Ex.mk k op no vk vi vt tb nm pa ca args ps cs sub) 30
  unfold exV
  simp only [Ex.mk_k, Ex.mk_op, Ex.mk_no, Ex.mk_vk, Ex.mk_vi, Ex.mk_vt, Ex.mk_tb, Ex.mk_nm, Ex.mk_pa, Ex.mk_ca, Ex.mk_args, Ex.mk_ps, Ex.mk_cs, Ex.mk_sub] at *
  have hres := ExB.new (w.alloc (.cells #[.int .i64 k, .int .i64 op, .bool no, .int .i64 vk, .int .i64 vi, .string vt, .string tb, .string nm, .slice pa args.length ca, .slice ps sub.length cs] 30)) ex0 30
  simp only [ex0, Ex.mk_k, Ex.mk_op, Ex.mk_no, Ex.mk_vk, Ex.mk_vi, Ex.mk_vt, Ex.mk_tb, Ex.mk_nm, Ex.mk_pa, Ex.mk_ca, Ex.mk_args, Ex.mk_ps, Ex.mk_cs, Ex.mk_sub, List.length_nil, size_alloc] at hres
  have HW : Hid (SpW N w.heap.size b w.heap.size (w.heap.size + 1) w (d + 1) (.mk k op no vk vi vt tb nm pa ca args ps cs sub) ((w.alloc (.cells #[.int .i64 k, .int .i64 op, .bool no, .int .i64 vk, .int .i64 vi, .string vt, .string tb, .string nm, .slice pa args.length ca, .slice ps sub.length cs] 30)).alloc (.cells #[.int .i64 0, .int .i64 0, .bool false, .int .i64 0, .int .i64 0, .string ⟨#[]⟩, .string ⟨#[]⟩, .string ⟨#[]⟩, .slice none 0 0, .slice none 0 0] 30))) :=
    Lib.hid ⟨(ht.alloc _).alloc _, ((StepT.refl b w).alloc _).alloc _, hres, hbx.low (below_alloc _ _), ((hA.weak fun c hc hn => ⟨.inl hn, hNb c hn, by omega, by omega⟩).low (below_alloc _ _)).low (below_alloc _ _), hlt, Nat.le_refl _, Nat.le_succ _, by omega, rfl⟩
  clear hres hbx hA ht hNb
  go_enter Tryd.func11, Tryd.ntmps11
  go_upto_region 1 with (fail)
  generalize World.alloc _ _ = u0 at HW ⊢
  generalize w.heap.size = X at HW ⊢
  go_cut [14] from 7 to 14 (fun s14 wx => ∃ q : Bool, s14 = .bool q ∧ (q = true → 0 < args.length) ∧ SpW N X b X (X + 1) w (d + 1) (.mk k op no vk vi vt tb nm pa ca args ps cs sub) wx)
  case first =>
    obtain ⟨xl, x0, x1, x2, x3, x4, x5, x6, x7, x8, x9, xf⟩ := HW.out.box
    simp only [Ex.mk_k, Ex.mk_op, Ex.mk_no, Ex.mk_vk, Ex.mk_vi, Ex.mk_vt, Ex.mk_tb, Ex.mk_nm, Ex.mk_pa, Ex.mk_ca, Ex.mk_args, Ex.mk_ps, Ex.mk_cs, Ex.mk_sub] at x0 x1 x2 x3 x4 x5 x6 x7 x8 x9
    by_cases hl0 : 0 < args.length
    · have hd0 : decide ((0 : Int) < args.length) = true := decide_eq_true (by omega)
      go_wp2_with fail
      refine (tbool_any b 2 _ (by omega) (by omega) HW.out.tape).mono ?_
      rintro e u1 ⟨q, rfl, ht1, hs1⟩
      have HW1 := Lib.hid (HW.out.next hs1 ht1)
      clear ht1 hs1
      go_wp2
      go_meet
      case rel => exact ⟨q, rfl, fun _ => hl0, HW1.out⟩
    · have hd0 : decide ((0 : Int) < args.length) = false := decide_eq_false (by omega)
      go_wp2
      go_meet
      case rel => exact ⟨false, rfl, (fun h => by cases h), HW.out⟩
  case rest =>
    obtain ⟨q, rfl, hq, hS⟩ := hcut
    have HW0 := Lib.hid hS
    clear hS HW
    cases q
    case true =>
      have hl0 := hq rfl
      clear hq
      obtain ⟨xl, x0, x1, x2, x3, x4, x5, x6, x7, x8, x9, xf⟩ := HW0.out.box
      simp only [Ex.mk_k, Ex.mk_op, Ex.mk_no, Ex.mk_vk, Ex.mk_vi, Ex.mk_vt, Ex.mk_tb, Ex.mk_nm, Ex.mk_pa, Ex.mk_ca, Ex.mk_args, Ex.mk_ps, Ex.mk_cs, Ex.mk_sub] at x0 x1 x2 x3 x4 x5 x6 x7 x8 x9
      go_wp2_with fail
      clear xl x0 x1 x2 x3 x4 x5 x6 x7 x8 x9 xf
      refine (next_any b (args.length : Int) _ (by omega) (by omega) HW0.out.tape).mono ?_
      rintro e u1 ⟨r, rfl, hr0, hr1, ht1, hs1⟩
      obtain ⟨j, rfl⟩ : ∃ j : Nat, r = j := ⟨r.toNat, by omega⟩
      have hj : j < args.length := by omega
      have HW1 := Lib.hid (HW0.out.next hs1 ht1)
      clear HW0 ht1 hs1 hr0 hr1
      have hbu : b < u1.heap.size := HW1.out.tape.lt
      have hXu : X < u1.heap.size := HW1.out.box.lt
      obtain ⟨i0, hi0, hz0, hz1, hz2⟩ := info_parts info_expr
      have HO := Lib.hid (eowns_empty11 u1)
      have HSR := Lib.hid ((HW1.out.low (below_alloc u1 (.cells #[] 30))).args)
      obtain ⟨xl, x0, x1, x2, x3, x4, x5, x6, x7, x8, x9, xf⟩ := HW1.out.box
      simp only [Ex.mk_k, Ex.mk_op, Ex.mk_no, Ex.mk_vk, Ex.mk_vi, Ex.mk_vt, Ex.mk_tb, Ex.mk_nm, Ex.mk_pa, Ex.mk_ca, Ex.mk_args, Ex.mk_ps, Ex.mk_cs, Ex.mk_sub] at x0 x1 x2 x3 x4 x5 x6 x7 x8 x9
      go_upto_region 4 with (at_builtin; refine wpList_append_any rfl (.tmp 20) (.tmp 22) 27 30 rfl u1.heap.size i0 _ 10 136 Tryd.underlying27 hi0 hz0 hz1 hz2 rfl (by decide) _ 0 (ecells []) (by rfl) HO.out pa args.length ca (ecells args) (by rfl) (ecells_length _) (lat_src11 HSR.out) (lat_none11 HSR.out) (ecells_one _) (by unfold maxLen; omega) (by omega) (by rw [size_alloc]; exact Nat.le_succ _) ?_; intro v2 w2 hown2 hg2; (have hst2 := step_grown_from ((StepT.refl b u1).alloc _) hg2 (fun k hk => by cases hk; exact Nat.le_refl _)); (have htt2 := TapeAt.grown (HW1.out.tape.alloc _) hg2 (fun k hk => by cases hk; exact HW1.out.tape.lt)); (have HW2 := Lib.hid (HW1.out.next hst2 htt2)); (have HO2 : Hid (w2.ownsRow u1.heap.size 30 10 v2 args.length (ecells args)) := Lib.hid (by rw [Nat.zero_add] at hown2; exact hown2)); (have HS2 := Lib.hid hst2); (have HT2 := Lib.hid htt2); clear hown2 hg2 hst2 htt2; obtain ⟨g, c2, e2, hgb, cur, hcur, hcap, hcz⟩ := own_pos11 HO2.out hl0; subst e2; clear xl x0 x1 x2 x3 x4 x5 x6 x7 x8 x9 xf; obtain ⟨zl, z0, z1, z2, z3, z4, z5, z6, z7, z8, z9, zf⟩ := HW2.out.box; simp only [Ex.mk_k, Ex.mk_op, Ex.mk_no, Ex.mk_vk, Ex.mk_vi, Ex.mk_vt, Ex.mk_tb, Ex.mk_nm, Ex.mk_pa, Ex.mk_ca, Ex.mk_args, Ex.mk_ps, Ex.mk_cs, Ex.mk_sub] at z0 z1 z2 z3 z4 z5 z6 z7 z8 z9)
      clear zl z0 z1 z2 z3 z4 z5 z6 z7 z8 z9 zf HO HSR
      have HBX := Lib.hid ((ButX.refl X w2).set 8 none (.slice (some ⟨g, 0, none⟩) args.length c2))
      have HW3 := Lib.hid (HW2.out.setArgs (c' := c2) (D := d) (n := args.length) (args' := args) (Nat.le_refl _) rfl (by omega) (HW2.out.ownA HO2.out HW1.out.new (lat_mem11 HW2.out.args)))
      have HAA : Hid (∀ a ∈ args, ExAt (fun c => SpN N X b X (X + 1) c ∧ c < u1.heap.size) (w2.setCell ⟨X, 8, none⟩ (.slice (some ⟨g, 0, none⟩) args.length c2)) d a) := Lib.hid fun a ha => (((lat_mem11 HW1.out.args a ha).weak (M := fun c => SpN N X b X (X + 1) c ∧ c < u1.heap.size) fun c hc hn => ⟨hn, hc⟩).step HS2.out fun c hc => hc.1.2.1).but HBX.out fun c _ hc => ⟨hc.1.2.2.1, hc⟩
      have HSS : Hid (QAt (fun c => SpN N X b X (X + 1) c ∧ c < u1.heap.size) (w2.setCell ⟨X, 8, none⟩ (.slice (some ⟨g, 0, none⟩) args.length c2)) (ExAt (fun c => SpN N X b X (X + 1) c ∧ c < u1.heap.size) (w2.setCell ⟨X, 8, none⟩ (.slice (some ⟨g, 0, none⟩) args.length c2)) d) ps sub) := Lib.hid (((HW1.out.subs.weakN (M := fun c => SpN N X b X (X + 1) c ∧ c < u1.heap.size) fun c hc hn => ⟨hn, hc⟩).step HS2.out fun c hc => hc.1.2.1).but HBX.out fun c _ hc => ⟨hc.1.2.2.1, hc⟩)
      have HO3 := Lib.hid (owns_keep HO2.out fun k hk => HBX.out.block k (by have := owns_block HO2.out k hk; omega))
      have HGM := Lib.hid (HW1.out.new g hgb)
      have HGC := Lib.hid ((HBX.out.block g (by omega)).trans hcur)
      clear HW2 HO2 HS2 HT2 hcur
      generalize World.setCell _ _ _ = w3 at HBX HW3 HAA HSS HO3 HGC ⊢
      have HBD := Lib.hid ((Below.refl w3.heap.size w3).drew)
      have HWD := Lib.hid (HW3.out.low HBD.out)
      have HAD : Hid (∀ a ∈ args, ExAt (fun c => SpN N X b X (X + 1) c ∧ c < u1.heap.size) w3.drew d a) := Lib.hid fun a ha => (HAA.out a ha).low HBD.out
      have HSD := Lib.hid (HSS.out.low HBD.out)
      have HED := Lib.hid (HE.out.step HWD.out.step h8)
      have HCALL := Lib.hid (HH.out (fun c => SpN N X b X (X + 1) c ∧ c < u1.heap.size) b (eAt args j) w3.drew h8 HWD.out.tape HED.out (fun c hc => hc.1.2.1) (HAD.out _ (eAt_mem hj)) (HAV.out _ (eAt_mem hj)))
      unfold exV at HCALL
      obtain ⟨e, o, hpo, hgl, hgN, hgC, -⟩ := HWD.out.args j hj
      obtain ⟨rfl, rfl⟩ : g = e ∧ 0 = o := by simpa using hpo
      rw [Nat.zero_add] at hgC
      have HGK := Lib.hid (fun (v : World) (hb : v.heap[g]? = w3.drew.heap[g]?) => hgC.keep hb)
      obtain ⟨g0, g1, g2, g3, g4, g5, g6, g7, g8, g9⟩ := hgC
      have gf3 : ∀ o, w3.frozen? ⟨g, o, none⟩ = false := fun o => by have := HGC.out; simp [World.frozen?, this]
      have gfz : ∀ o, w3.drew.frozen? ⟨g, o, none⟩ = false := fun o => (World.frozen?_of_block (w := w3) (a := ⟨g, o, none⟩) rfl).trans (gf3 o)
      clear gf3
      have HFZ := Lib.hid (fun (v : World) (hb : v.heap[g]? = w3.drew.heap[g]?) => fun o => (World.frozen?_of_block (w := w3.drew) (a := ⟨g, o, none⟩) hb).trans (gfz o))
      have hji : (j : Int) < args.length := by omega
      clear HAA HSS HO3 HGC HBX
      obtain ⟨xl, x0, x1, x2, x3, x4, x5, x6, x7, x8, x9, xf⟩ := HWD.out.box
      simp only [Ex.mk_k, Ex.mk_op, Ex.mk_no, Ex.mk_vk, Ex.mk_vi, Ex.mk_vt, Ex.mk_tb, Ex.mk_nm, Ex.mk_pa, Ex.mk_ca, Ex.mk_args, Ex.mk_ps, Ex.mk_cs, Ex.mk_sub] at x0 x1 x2 x3 x4 x5 x6 x7 x8 x9
      go_region_law (first
        | (go_simp; go_at_call 11; refine HCALL.out.mono ?_; rintro e w5 ⟨E2, rfl, hE2, ht5, hs5⟩; (have HW5 := Lib.hid (HWD.out.next hs5 ht5)); (have HE2 := Lib.hid hE2); (have HS5 := Lib.hid hs5); (have hk5 := hs5.block g hgl (by omega)); clear hE2 ht5 hs5 g0 g1 g2 g3 g4 g5 g6 g7 g8 g9 gfz xl x0 x1 x2 x3 x4 x5 x6 x7 x8 x9 xf; obtain ⟨g0, g1, g2, g3, g4, g5, g6, g7, g8, g9⟩ := HGK.out _ hk5; (have gfz := HFZ.out _ hk5); obtain ⟨xl, x0, x1, x2, x3, x4, x5, x6, x7, x8, x9, xf⟩ := HW5.out.box; simp only [Ex.mk_k, Ex.mk_op, Ex.mk_no, Ex.mk_vk, Ex.mk_vi, Ex.mk_vt, Ex.mk_tb, Ex.mk_nm, Ex.mk_pa, Ex.mk_ca, Ex.mk_args, Ex.mk_ps, Ex.mk_cs, Ex.mk_sub] at x0 x1 x2 x3 x4 x5 x6 x7 x8 x9; dsimp only [exV]))
      all_goals
        clear g0 g1 g2 g3 g4 g5 g6 g7 g8 g9 gfz xl x0 x1 x2 x3 x4 x5 x6 x7 x8 x9 xf
        have HF := Lib.hid (HW5.out.putArg (j := j) (e := E2) HGM.out (by omega) (by have := HW5.out.bz; have := HW5.out.xw; omega) hj (by omega) ((HSD.out.step HS5.out fun c hc => hc.1.2.1).weakN fun c _ hc => ⟨hc.1, by omega⟩) (fun a ha => ((HAD.out a ha).step HS5.out fun c hc => hc.1.2.1).weak fun c _ hc => ⟨hc.1, by omega⟩) (HE2.out.weak fun c _ hc => by rcases hc.1 with h | h; exact ⟨h.1, by omega⟩; exact ⟨HWD.out.new c h, by omega⟩))
        have hlen : (args.set j E2).length = args.length := List.length_set
        unfold put10 at HF
        generalize World.setCell _ _ _ = w9 at HF ⊢
        obtain ⟨xl, x0, x1, x2, x3, x4, x5, x6, x7, x8, x9, xf⟩ := HF.out.box
        simp only [Ex.mk_k, Ex.mk_op, Ex.mk_no, Ex.mk_vk, Ex.mk_vi, Ex.mk_vt, Ex.mk_tb, Ex.mk_nm, Ex.mk_pa, Ex.mk_ca, Ex.mk_args, Ex.mk_ps, Ex.mk_cs, Ex.mk_sub] at x0 x1 x2 x3 x4 x5 x6 x7 x8 x9
        rw [hlen] at x8
        obtain ⟨rl, r0, r1, r2, r3, r4, r5, r6, r7, r8, r9, rf⟩ := HF.out.res
        simp only [ex0, Ex.mk_k, Ex.mk_op, Ex.mk_no, Ex.mk_vk, Ex.mk_vi, Ex.mk_vt, Ex.mk_tb, Ex.mk_nm, Ex.mk_pa, Ex.mk_ca, Ex.mk_args, Ex.mk_ps, Ex.mk_cs, Ex.mk_sub, List.length_nil] at r0 r1 r2 r3 r4 r5 r6 r7 r8 r9
        go_wp2
        obtain ⟨y0, y1, y2, y3, y4, y5, y6, y7, y8, y9⟩ := set_ten HF.out.res (.int .i64 k) (.int .i64 op) (.bool no) (.int .i64 vk) (.int .i64 vi) (.string vt) (.string tb) (.string nm) (.slice (some ⟨g, 0, none⟩) args.length c2) (.slice ps sub.length cs)
        refine bodyPost_ret (v := .agg #[.int .i64 k, .int .i64 op, .bool no, .int .i64 vk, .int .i64 vi, .string vt, .string tb, .string nm, .slice (some ⟨g, 0, none⟩) args.length c2, .slice ps sub.length cs]) (by simp [results, Tryd.results11, go_sem, y0, y1, y2, y3, y4, y5, y6, y7, y8, y9]) rfl ?_
        exact HF.out.sp_end (E := (Ex.mk k op no vk vi vt tb nm (some ⟨g, 0, none⟩) c2 (args.set j E2) ps cs sub)) (but_ten _ _ _ _ _ _ _ _ _ _ _ _) (by unfold exV; simp only [Ex.mk_k, Ex.mk_op, Ex.mk_no, Ex.mk_vk, Ex.mk_vi, Ex.mk_vt, Ex.mk_tb, Ex.mk_nm, Ex.mk_pa, Ex.mk_ca, Ex.mk_args, Ex.mk_ps, Ex.mk_cs, Ex.mk_sub, hlen]) (by omega)
    clear hq
    go_wp2_with fail
    refine (next_any b 9 _ (by omega) (by omega) HW0.out.tape).mono ?_
    rintro e u1 ⟨r, rfl, hr0, hr1, ht1, hs1⟩
    have HW1 := Lib.hid (HW0.out.next hs1 ht1)
    clear HW0 ht1 hs1
    have hr : r = 0 ∨ r = 1 ∨ r = 2 ∨ r = 3 ∨ r = 4 ∨ r = 5 ∨ r = 6 ∨ r = 7 ∨ r = 8 := by omega
    rcases hr with rfl | rfl | rfl | rfl | rfl | rfl | rfl | rfl | rfl
    · skip
      go_wp2_with fail
      refine (next_any b 15 _ (by omega) (by omega) HW1.out.tape).mono ?_
      rintro e wv ⟨z, rfl, hz0, hz1, ht2', hs2⟩
      have HW2 := Lib.hid (HW1.out.next hs2 ht2')
      have hw1 : IntKind.i64.wrap (z - 1) = z - 1 := i64w (by omega) (by omega)
      clear HW1 ht2' hs2
      have HTB := Lib.hid (show ExIn (SpN N X b X (X + 1)) _ (ExAt (SpN N X b X (X + 1)) _ d) (.mk k op no vk vi vt tb nm pa ca args ps cs sub) from HW2.out.tree)
      have ht1 := HTB.out.vt
      have ht2 := HTB.out.tb
      have ht3 := HTB.out.nm
      simp only [Ex.mk_k, Ex.mk_op, Ex.mk_no, Ex.mk_vk, Ex.mk_vi, Ex.mk_vt, Ex.mk_tb, Ex.mk_nm, Ex.mk_pa, Ex.mk_ca, Ex.mk_args, Ex.mk_ps, Ex.mk_cs, Ex.mk_sub] at ht1 ht2 ht3
      obtain ⟨xl, x0, x1, x2, x3, x4, x5, x6, x7, x8, x9, xf⟩ := HW2.out.box
      simp only [Ex.mk_k, Ex.mk_op, Ex.mk_no, Ex.mk_vk, Ex.mk_vi, Ex.mk_vt, Ex.mk_tb, Ex.mk_nm, Ex.mk_pa, Ex.mk_ca, Ex.mk_args, Ex.mk_ps, Ex.mk_cs, Ex.mk_sub] at x0 x1 x2 x3 x4 x5 x6 x7 x8 x9
      have HX5 : Hid (ExB (wv.setCell ⟨X, 0, none⟩ (.int .i64 (z - 1))) X (Ex.mk (z - 1) op no vk vi vt tb nm pa ca args ps cs sub)) := Lib.hid (by
        refine ⟨by simpa [World.setCell] using xl, ?_, ?_, ?_, ?_, ?_, ?_, ?_, ?_, ?_, ?_, fun o => by simp only [World.frozen?_setCell]; exact xf o⟩
        all_goals simp only [Ex.mk_k, Ex.mk_op, Ex.mk_no, Ex.mk_vk, Ex.mk_vi, Ex.mk_vt, Ex.mk_tb, Ex.mk_nm, Ex.mk_pa, Ex.mk_ca, Ex.mk_args, Ex.mk_ps, Ex.mk_cs, Ex.mk_sub]
        all_goals go_simp)
      have HW5 := Lib.hid (HW2.out.field ((ButX.refl X wv).set 0 none (.int .i64 (z - 1))) HX5.out ht1 ht2 ht3)
      clear ht1 ht2 ht3
      go_upto_region 27 with (fail)
      clear xl x0 x1 x2 x3 x4 x5 x6 x7 x8 x9 xf HTB HX5 HW2
      generalize World.setCell _ _ _ = w5 at HW5 ⊢
      obtain ⟨xl, x0, x1, x2, x3, x4, x5, x6, x7, x8, x9, xf⟩ := HW5.out.box
      simp only [Ex.mk_k, Ex.mk_op, Ex.mk_no, Ex.mk_vk, Ex.mk_vi, Ex.mk_vt, Ex.mk_tb, Ex.mk_nm, Ex.mk_pa, Ex.mk_ca, Ex.mk_args, Ex.mk_ps, Ex.mk_cs, Ex.mk_sub] at x0 x1 x2 x3 x4 x5 x6 x7 x8 x9
      obtain ⟨rl, r0, r1, r2, r3, r4, r5, r6, r7, r8, r9, rf⟩ := HW5.out.res
      simp only [ex0, Ex.mk_k, Ex.mk_op, Ex.mk_no, Ex.mk_vk, Ex.mk_vi, Ex.mk_vt, Ex.mk_tb, Ex.mk_nm, Ex.mk_pa, Ex.mk_ca, Ex.mk_args, Ex.mk_ps, Ex.mk_cs, Ex.mk_sub, List.length_nil] at r0 r1 r2 r3 r4 r5 r6 r7 r8 r9
      go_wp2
      obtain ⟨y0, y1, y2, y3, y4, y5, y6, y7, y8, y9⟩ := set_ten HW5.out.res (.int .i64 (z - 1)) (.int .i64 op) (.bool no) (.int .i64 vk) (.int .i64 vi) (.string vt) (.string tb) (.string nm) (.slice pa args.length ca) (.slice ps sub.length cs)
      refine bodyPost_ret (v := .agg #[.int .i64 (z - 1), .int .i64 op, .bool no, .int .i64 vk, .int .i64 vi, .string vt, .string tb, .string nm, .slice pa args.length ca, .slice ps sub.length cs]) (by simp [results, Tryd.results11, go_sem, y0, y1, y2, y3, y4, y5, y6, y7, y8, y9]) rfl ?_
      exact HW5.out.sp_end (E := (Ex.mk (z - 1) op no vk vi vt tb nm pa ca args ps cs sub)) (but_ten _ _ _ _ _ _ _ _ _ _ _ _) rfl (by omega)
    · skip
      go_wp2_with fail
      refine (next_any b 16 _ (by omega) (by omega) HW1.out.tape).mono ?_
      rintro e wv ⟨z, rfl, hz0, hz1, ht2', hs2⟩
      have HW2 := Lib.hid (HW1.out.next hs2 ht2')
      have hw1 : IntKind.i64.wrap (z - 1) = z - 1 := i64w (by omega) (by omega)
      clear HW1 ht2' hs2
      have HTB := Lib.hid (show ExIn (SpN N X b X (X + 1)) _ (ExAt (SpN N X b X (X + 1)) _ d) (.mk k op no vk vi vt tb nm pa ca args ps cs sub) from HW2.out.tree)
      have ht1 := HTB.out.vt
      have ht2 := HTB.out.tb
      have ht3 := HTB.out.nm
      simp only [Ex.mk_k, Ex.mk_op, Ex.mk_no, Ex.mk_vk, Ex.mk_vi, Ex.mk_vt, Ex.mk_tb, Ex.mk_nm, Ex.mk_pa, Ex.mk_ca, Ex.mk_args, Ex.mk_ps, Ex.mk_cs, Ex.mk_sub] at ht1 ht2 ht3
      obtain ⟨xl, x0, x1, x2, x3, x4, x5, x6, x7, x8, x9, xf⟩ := HW2.out.box
      simp only [Ex.mk_k, Ex.mk_op, Ex.mk_no, Ex.mk_vk, Ex.mk_vi, Ex.mk_vt, Ex.mk_tb, Ex.mk_nm, Ex.mk_pa, Ex.mk_ca, Ex.mk_args, Ex.mk_ps, Ex.mk_cs, Ex.mk_sub] at x0 x1 x2 x3 x4 x5 x6 x7 x8 x9
      have HX5 : Hid (ExB (wv.setCell ⟨X, 1, none⟩ (.int .i64 (z - 1))) X (Ex.mk k (z - 1) no vk vi vt tb nm pa ca args ps cs sub)) := Lib.hid (by
        refine ⟨by simpa [World.setCell] using xl, ?_, ?_, ?_, ?_, ?_, ?_, ?_, ?_, ?_, ?_, fun o => by simp only [World.frozen?_setCell]; exact xf o⟩
        all_goals simp only [Ex.mk_k, Ex.mk_op, Ex.mk_no, Ex.mk_vk, Ex.mk_vi, Ex.mk_vt, Ex.mk_tb, Ex.mk_nm, Ex.mk_pa, Ex.mk_ca, Ex.mk_args, Ex.mk_ps, Ex.mk_cs, Ex.mk_sub]
        all_goals go_simp)
      have HW5 := Lib.hid (HW2.out.field ((ButX.refl X wv).set 1 none (.int .i64 (z - 1))) HX5.out ht1 ht2 ht3)
      clear ht1 ht2 ht3
      go_upto_region 27 with (fail)
      clear xl x0 x1 x2 x3 x4 x5 x6 x7 x8 x9 xf HTB HX5 HW2
      generalize World.setCell _ _ _ = w5 at HW5 ⊢
      obtain ⟨xl, x0, x1, x2, x3, x4, x5, x6, x7, x8, x9, xf⟩ := HW5.out.box
      simp only [Ex.mk_k, Ex.mk_op, Ex.mk_no, Ex.mk_vk, Ex.mk_vi, Ex.mk_vt, Ex.mk_tb, Ex.mk_nm, Ex.mk_pa, Ex.mk_ca, Ex.mk_args, Ex.mk_ps, Ex.mk_cs, Ex.mk_sub] at x0 x1 x2 x3 x4 x5 x6 x7 x8 x9
      obtain ⟨rl, r0, r1, r2, r3, r4, r5, r6, r7, r8, r9, rf⟩ := HW5.out.res
      simp only [ex0, Ex.mk_k, Ex.mk_op, Ex.mk_no, Ex.mk_vk, Ex.mk_vi, Ex.mk_vt, Ex.mk_tb, Ex.mk_nm, Ex.mk_pa, Ex.mk_ca, Ex.mk_args, Ex.mk_ps, Ex.mk_cs, Ex.mk_sub, List.length_nil] at r0 r1 r2 r3 r4 r5 r6 r7 r8 r9
      go_wp2
      obtain ⟨y0, y1, y2, y3, y4, y5, y6, y7, y8, y9⟩ := set_ten HW5.out.res (.int .i64 k) (.int .i64 (z - 1)) (.bool no) (.int .i64 vk) (.int .i64 vi) (.string vt) (.string tb) (.string nm) (.slice pa args.length ca) (.slice ps sub.length cs)
      refine bodyPost_ret (v := .agg #[.int .i64 k, .int .i64 (z - 1), .bool no, .int .i64 vk, .int .i64 vi, .string vt, .string tb, .string nm, .slice pa args.length ca, .slice ps sub.length cs]) (by simp [results, Tryd.results11, go_sem, y0, y1, y2, y3, y4, y5, y6, y7, y8, y9]) rfl ?_
      exact HW5.out.sp_end (E := (Ex.mk k (z - 1) no vk vi vt tb nm pa ca args ps cs sub)) (but_ten _ _ _ _ _ _ _ _ _ _ _ _) rfl (by omega)
    · skip
      obtain ⟨wv, hwv⟩ : ∃ wv, wv = u1 := ⟨u1, rfl⟩
      subst hwv
      have HW2 := HW1
      clear HW1
      have HTB := Lib.hid (show ExIn (SpN N X b X (X + 1)) _ (ExAt (SpN N X b X (X + 1)) _ d) (.mk k op no vk vi vt tb nm pa ca args ps cs sub) from HW2.out.tree)
      have ht1 := HTB.out.vt
      have ht2 := HTB.out.tb
      have ht3 := HTB.out.nm
      simp only [Ex.mk_k, Ex.mk_op, Ex.mk_no, Ex.mk_vk, Ex.mk_vi, Ex.mk_vt, Ex.mk_tb, Ex.mk_nm, Ex.mk_pa, Ex.mk_ca, Ex.mk_args, Ex.mk_ps, Ex.mk_cs, Ex.mk_sub] at ht1 ht2 ht3
      obtain ⟨xl, x0, x1, x2, x3, x4, x5, x6, x7, x8, x9, xf⟩ := HW2.out.box
      simp only [Ex.mk_k, Ex.mk_op, Ex.mk_no, Ex.mk_vk, Ex.mk_vi, Ex.mk_vt, Ex.mk_tb, Ex.mk_nm, Ex.mk_pa, Ex.mk_ca, Ex.mk_args, Ex.mk_ps, Ex.mk_cs, Ex.mk_sub] at x0 x1 x2 x3 x4 x5 x6 x7 x8 x9
      have HX5 : Hid (ExB (wv.setCell ⟨X, 2, none⟩ (.bool (!no))) X (Ex.mk k op (!no) vk vi vt tb nm pa ca args ps cs sub)) := Lib.hid (by
        refine ⟨by simpa [World.setCell] using xl, ?_, ?_, ?_, ?_, ?_, ?_, ?_, ?_, ?_, ?_, fun o => by simp only [World.frozen?_setCell]; exact xf o⟩
        all_goals simp only [Ex.mk_k, Ex.mk_op, Ex.mk_no, Ex.mk_vk, Ex.mk_vi, Ex.mk_vt, Ex.mk_tb, Ex.mk_nm, Ex.mk_pa, Ex.mk_ca, Ex.mk_args, Ex.mk_ps, Ex.mk_cs, Ex.mk_sub]
        all_goals go_simp)
      have HW5 := Lib.hid (HW2.out.field ((ButX.refl X wv).set 2 none (.bool (!no))) HX5.out ht1 ht2 ht3)
      clear ht1 ht2 ht3
      go_upto_region 27 with (fail)
      clear xl x0 x1 x2 x3 x4 x5 x6 x7 x8 x9 xf HTB HX5 HW2
      generalize World.setCell _ _ _ = w5 at HW5 ⊢
      obtain ⟨xl, x0, x1, x2, x3, x4, x5, x6, x7, x8, x9, xf⟩ := HW5.out.box
      simp only [Ex.mk_k, Ex.mk_op, Ex.mk_no, Ex.mk_vk, Ex.mk_vi, Ex.mk_vt, Ex.mk_tb, Ex.mk_nm, Ex.mk_pa, Ex.mk_ca, Ex.mk_args, Ex.mk_ps, Ex.mk_cs, Ex.mk_sub] at x0 x1 x2 x3 x4 x5 x6 x7 x8 x9
      obtain ⟨rl, r0, r1, r2, r3, r4, r5, r6, r7, r8, r9, rf⟩ := HW5.out.res
      simp only [ex0, Ex.mk_k, Ex.mk_op, Ex.mk_no, Ex.mk_vk, Ex.mk_vi, Ex.mk_vt, Ex.mk_tb, Ex.mk_nm, Ex.mk_pa, Ex.mk_ca, Ex.mk_args, Ex.mk_ps, Ex.mk_cs, Ex.mk_sub, List.length_nil] at r0 r1 r2 r3 r4 r5 r6 r7 r8 r9
      go_wp2
      obtain ⟨y0, y1, y2, y3, y4, y5, y6, y7, y8, y9⟩ := set_ten HW5.out.res (.int .i64 k) (.int .i64 op) (.bool (!no)) (.int .i64 vk) (.int .i64 vi) (.string vt) (.string tb) (.string nm) (.slice pa args.length ca) (.slice ps sub.length cs)
      refine bodyPost_ret (v := .agg #[.int .i64 k, .int .i64 op, .bool (!no), .int .i64 vk, .int .i64 vi, .string vt, .string tb, .string nm, .slice pa args.length ca, .slice ps sub.length cs]) (by simp [results, Tryd.results11, go_sem, y0, y1, y2, y3, y4, y5, y6, y7, y8, y9]) rfl ?_
      exact HW5.out.sp_end (E := (Ex.mk k op (!no) vk vi vt tb nm pa ca args ps cs sub)) (but_ten _ _ _ _ _ _ _ _ _ _ _ _) rfl (by omega)
    · skip
      go_wp2_with fail
      refine (odd_any b _ hb4 HW1.out.tape ((HE.out.step HW1.out.step h8).words hlw)).mono ?_
      rintro e wv ⟨ok, on, os, rfl, ho, ht2', hs2⟩
      have HW2 := Lib.hid (HW1.out.next hs2 ht2')
      have hos : os.size ≤ 9223372036854775807 := by have := ho.2.2.2.2; omega
      clear HW1 ht2' hs2 ho
      have HTB := Lib.hid (show ExIn (SpN N X b X (X + 1)) _ (ExAt (SpN N X b X (X + 1)) _ d) (.mk k op no vk vi vt tb nm pa ca args ps cs sub) from HW2.out.tree)
      have ht1 := HTB.out.vt
      have ht2 := HTB.out.tb
      have ht3 := HTB.out.nm
      simp only [Ex.mk_k, Ex.mk_op, Ex.mk_no, Ex.mk_vk, Ex.mk_vi, Ex.mk_vt, Ex.mk_tb, Ex.mk_nm, Ex.mk_pa, Ex.mk_ca, Ex.mk_args, Ex.mk_ps, Ex.mk_cs, Ex.mk_sub] at ht1 ht2 ht3
      obtain ⟨xl, x0, x1, x2, x3, x4, x5, x6, x7, x8, x9, xf⟩ := HW2.out.box
      simp only [Ex.mk_k, Ex.mk_op, Ex.mk_no, Ex.mk_vk, Ex.mk_vi, Ex.mk_vt, Ex.mk_tb, Ex.mk_nm, Ex.mk_pa, Ex.mk_ca, Ex.mk_args, Ex.mk_ps, Ex.mk_cs, Ex.mk_sub] at x0 x1 x2 x3 x4 x5 x6 x7 x8 x9
      have HX5 : Hid (ExB (((wv.setCell ⟨X, 3, none⟩ (.int .i64 ok)).setCell ⟨X, 4, none⟩ (.int .i64 on)).setCell ⟨X, 5, none⟩ (.string os)) X (Ex.mk k op no ok on os tb nm pa ca args ps cs sub)) := Lib.hid (by
        refine ⟨by simpa [World.setCell] using xl, ?_, ?_, ?_, ?_, ?_, ?_, ?_, ?_, ?_, ?_, fun o => by simp only [World.frozen?_setCell]; exact xf o⟩
        all_goals simp only [Ex.mk_k, Ex.mk_op, Ex.mk_no, Ex.mk_vk, Ex.mk_vi, Ex.mk_vt, Ex.mk_tb, Ex.mk_nm, Ex.mk_pa, Ex.mk_ca, Ex.mk_args, Ex.mk_ps, Ex.mk_cs, Ex.mk_sub]
        all_goals go_simp)
      have HW5 := Lib.hid (HW2.out.field ((((ButX.refl X wv).set 3 none (.int .i64 ok)).set 4 none (.int .i64 on)).set 5 none (.string os)) HX5.out hos ht2 ht3)
      clear ht1 ht2 ht3
      go_upto_region 27 with (fail)
      clear xl x0 x1 x2 x3 x4 x5 x6 x7 x8 x9 xf HTB HX5 HW2
      generalize World.setCell _ _ _ = w5 at HW5 ⊢
      obtain ⟨xl, x0, x1, x2, x3, x4, x5, x6, x7, x8, x9, xf⟩ := HW5.out.box
      simp only [Ex.mk_k, Ex.mk_op, Ex.mk_no, Ex.mk_vk, Ex.mk_vi, Ex.mk_vt, Ex.mk_tb, Ex.mk_nm, Ex.mk_pa, Ex.mk_ca, Ex.mk_args, Ex.mk_ps, Ex.mk_cs, Ex.mk_sub] at x0 x1 x2 x3 x4 x5 x6 x7 x8 x9
      obtain ⟨rl, r0, r1, r2, r3, r4, r5, r6, r7, r8, r9, rf⟩ := HW5.out.res
      simp only [ex0, Ex.mk_k, Ex.mk_op, Ex.mk_no, Ex.mk_vk, Ex.mk_vi, Ex.mk_vt, Ex.mk_tb, Ex.mk_nm, Ex.mk_pa, Ex.mk_ca, Ex.mk_args, Ex.mk_ps, Ex.mk_cs, Ex.mk_sub, List.length_nil] at r0 r1 r2 r3 r4 r5 r6 r7 r8 r9
      go_wp2
      obtain ⟨y0, y1, y2, y3, y4, y5, y6, y7, y8, y9⟩ := set_ten HW5.out.res (.int .i64 k) (.int .i64 op) (.bool no) (.int .i64 ok) (.int .i64 on) (.string os) (.string tb) (.string nm) (.slice pa args.length ca) (.slice ps sub.length cs)
      refine bodyPost_ret (v := .agg #[.int .i64 k, .int .i64 op, .bool no, .int .i64 ok, .int .i64 on, .string os, .string tb, .string nm, .slice pa args.length ca, .slice ps sub.length cs]) (by simp [results, Tryd.results11, go_sem, y0, y1, y2, y3, y4, y5, y6, y7, y8, y9]) rfl ?_
      exact HW5.out.sp_end (E := (Ex.mk k op no ok on os tb nm pa ca args ps cs sub)) (but_ten _ _ _ _ _ _ _ _ _ _ _ _) rfl (by omega)
    · skip
      go_wp2_with fail
      refine (next_any b 5 _ (by omega) (by omega) (HW1.out.low (below_alloc _ _)).tape).mono ?_
      rintro e wv ⟨z, rfl, hz0, hz1, ht2', hs2⟩
      obtain ⟨j, rfl⟩ : ∃ j : Nat, z = j := ⟨z.toNat, by omega⟩
      have hj : j < 5 := by omega
      obtain ⟨sv, hq, hql, hsv⟩ := lits_tb hs2 HW1.out.tape.lt hj
      have HW2 := Lib.hid ((HW1.out.low (below_alloc _ _)).next hs2 ht2')
      clear HW1 ht2' hs2
      have HTB := Lib.hid (show ExIn (SpN N X b X (X + 1)) _ (ExAt (SpN N X b X (X + 1)) _ d) (.mk k op no vk vi vt tb nm pa ca args ps cs sub) from HW2.out.tree)
      have ht1 := HTB.out.vt
      have ht2 := HTB.out.tb
      have ht3 := HTB.out.nm
      simp only [Ex.mk_k, Ex.mk_op, Ex.mk_no, Ex.mk_vk, Ex.mk_vi, Ex.mk_vt, Ex.mk_tb, Ex.mk_nm, Ex.mk_pa, Ex.mk_ca, Ex.mk_args, Ex.mk_ps, Ex.mk_cs, Ex.mk_sub] at ht1 ht2 ht3
      obtain ⟨xl, x0, x1, x2, x3, x4, x5, x6, x7, x8, x9, xf⟩ := HW2.out.box
      simp only [Ex.mk_k, Ex.mk_op, Ex.mk_no, Ex.mk_vk, Ex.mk_vi, Ex.mk_vt, Ex.mk_tb, Ex.mk_nm, Ex.mk_pa, Ex.mk_ca, Ex.mk_args, Ex.mk_ps, Ex.mk_cs, Ex.mk_sub] at x0 x1 x2 x3 x4 x5 x6 x7 x8 x9
      have HX5 : Hid (ExB (wv.setCell ⟨X, 6, none⟩ (.string sv)) X (Ex.mk k op no vk vi vt sv nm pa ca args ps cs sub)) := Lib.hid (by
        refine ⟨by simpa [World.setCell] using xl, ?_, ?_, ?_, ?_, ?_, ?_, ?_, ?_, ?_, ?_, fun o => by simp only [World.frozen?_setCell]; exact xf o⟩
        all_goals simp only [Ex.mk_k, Ex.mk_op, Ex.mk_no, Ex.mk_vk, Ex.mk_vi, Ex.mk_vt, Ex.mk_tb, Ex.mk_nm, Ex.mk_pa, Ex.mk_ca, Ex.mk_args, Ex.mk_ps, Ex.mk_cs, Ex.mk_sub]
        all_goals go_simp)
      have HW5 := Lib.hid (HW2.out.field ((ButX.refl X wv).set 6 none (.string sv)) HX5.out ht1 hsv ht3)
      clear ht1 ht2 ht3
      go_upto_region 27 with (fail)
      clear xl x0 x1 x2 x3 x4 x5 x6 x7 x8 x9 xf HTB HX5 HW2
      generalize World.setCell _ _ _ = w5 at HW5 ⊢
      obtain ⟨xl, x0, x1, x2, x3, x4, x5, x6, x7, x8, x9, xf⟩ := HW5.out.box
      simp only [Ex.mk_k, Ex.mk_op, Ex.mk_no, Ex.mk_vk, Ex.mk_vi, Ex.mk_vt, Ex.mk_tb, Ex.mk_nm, Ex.mk_pa, Ex.mk_ca, Ex.mk_args, Ex.mk_ps, Ex.mk_cs, Ex.mk_sub] at x0 x1 x2 x3 x4 x5 x6 x7 x8 x9
      obtain ⟨rl, r0, r1, r2, r3, r4, r5, r6, r7, r8, r9, rf⟩ := HW5.out.res
      simp only [ex0, Ex.mk_k, Ex.mk_op, Ex.mk_no, Ex.mk_vk, Ex.mk_vi, Ex.mk_vt, Ex.mk_tb, Ex.mk_nm, Ex.mk_pa, Ex.mk_ca, Ex.mk_args, Ex.mk_ps, Ex.mk_cs, Ex.mk_sub, List.length_nil] at r0 r1 r2 r3 r4 r5 r6 r7 r8 r9
      go_wp2
      obtain ⟨y0, y1, y2, y3, y4, y5, y6, y7, y8, y9⟩ := set_ten HW5.out.res (.int .i64 k) (.int .i64 op) (.bool no) (.int .i64 vk) (.int .i64 vi) (.string vt) (.string sv) (.string nm) (.slice pa args.length ca) (.slice ps sub.length cs)
      refine bodyPost_ret (v := .agg #[.int .i64 k, .int .i64 op, .bool no, .int .i64 vk, .int .i64 vi, .string vt, .string sv, .string nm, .slice pa args.length ca, .slice ps sub.length cs]) (by simp [results, Tryd.results11, go_sem, y0, y1, y2, y3, y4, y5, y6, y7, y8, y9]) rfl ?_
      exact HW5.out.sp_end (E := (Ex.mk k op no vk vi vt sv nm pa ca args ps cs sub)) (but_ten _ _ _ _ _ _ _ _ _ _ _ _) rfl (by omega)
    · skip
      go_wp2_with fail
      refine (next_any b 3 _ (by omega) (by omega) (HW1.out.low (below_alloc _ _)).tape).mono ?_
      rintro e wv ⟨z, rfl, hz0, hz1, ht2', hs2⟩
      obtain ⟨j, rfl⟩ : ∃ j : Nat, z = j := ⟨z.toNat, by omega⟩
      have hj : j < 3 := by omega
      obtain ⟨sv, hq, hql, hsv⟩ := lits_nm hs2 HW1.out.tape.lt hj
      have HW2 := Lib.hid ((HW1.out.low (below_alloc _ _)).next hs2 ht2')
      clear HW1 ht2' hs2
      have HTB := Lib.hid (show ExIn (SpN N X b X (X + 1)) _ (ExAt (SpN N X b X (X + 1)) _ d) (.mk k op no vk vi vt tb nm pa ca args ps cs sub) from HW2.out.tree)
      have ht1 := HTB.out.vt
      have ht2 := HTB.out.tb
      have ht3 := HTB.out.nm
      simp only [Ex.mk_k, Ex.mk_op, Ex.mk_no, Ex.mk_vk, Ex.mk_vi, Ex.mk_vt, Ex.mk_tb, Ex.mk_nm, Ex.mk_pa, Ex.mk_ca, Ex.mk_args, Ex.mk_ps, Ex.mk_cs, Ex.mk_sub] at ht1 ht2 ht3
      obtain ⟨xl, x0, x1, x2, x3, x4, x5, x6, x7, x8, x9, xf⟩ := HW2.out.box
      simp only [Ex.mk_k, Ex.mk_op, Ex.mk_no, Ex.mk_vk, Ex.mk_vi, Ex.mk_vt, Ex.mk_tb, Ex.mk_nm, Ex.mk_pa, Ex.mk_ca, Ex.mk_args, Ex.mk_ps, Ex.mk_cs, Ex.mk_sub] at x0 x1 x2 x3 x4 x5 x6 x7 x8 x9
      have HX5 : Hid (ExB (wv.setCell ⟨X, 7, none⟩ (.string sv)) X (Ex.mk k op no vk vi vt tb sv pa ca args ps cs sub)) := Lib.hid (by
        refine ⟨by simpa [World.setCell] using xl, ?_, ?_, ?_, ?_, ?_, ?_, ?_, ?_, ?_, ?_, fun o => by simp only [World.frozen?_setCell]; exact xf o⟩
        all_goals simp only [Ex.mk_k, Ex.mk_op, Ex.mk_no, Ex.mk_vk, Ex.mk_vi, Ex.mk_vt, Ex.mk_tb, Ex.mk_nm, Ex.mk_pa, Ex.mk_ca, Ex.mk_args, Ex.mk_ps, Ex.mk_cs, Ex.mk_sub]
        all_goals go_simp)
      have HW5 := Lib.hid (HW2.out.field ((ButX.refl X wv).set 7 none (.string sv)) HX5.out ht1 ht2 hsv)
      clear ht1 ht2 ht3
      go_upto_region 27 with (fail)
      clear xl x0 x1 x2 x3 x4 x5 x6 x7 x8 x9 xf HTB HX5 HW2
      generalize World.setCell _ _ _ = w5 at HW5 ⊢
      obtain ⟨xl, x0, x1, x2, x3, x4, x5, x6, x7, x8, x9, xf⟩ := HW5.out.box
      simp only [Ex.mk_k, Ex.mk_op, Ex.mk_no, Ex.mk_vk, Ex.mk_vi, Ex.mk_vt, Ex.mk_tb, Ex.mk_nm, Ex.mk_pa, Ex.mk_ca, Ex.mk_args, Ex.mk_ps, Ex.mk_cs, Ex.mk_sub] at x0 x1 x2 x3 x4 x5 x6 x7 x8 x9
      obtain ⟨rl, r0, r1, r2, r3, r4, r5, r6, r7, r8, r9, rf⟩ := HW5.out.res
      simp only [ex0, Ex.mk_k, Ex.mk_op, Ex.mk_no, Ex.mk_vk, Ex.mk_vi, Ex.mk_vt, Ex.mk_tb, Ex.mk_nm, Ex.mk_pa, Ex.mk_ca, Ex.mk_args, Ex.mk_ps, Ex.mk_cs, Ex.mk_sub, List.length_nil] at r0 r1 r2 r3 r4 r5 r6 r7 r8 r9
      go_wp2
      obtain ⟨y0, y1, y2, y3, y4, y5, y6, y7, y8, y9⟩ := set_ten HW5.out.res (.int .i64 k) (.int .i64 op) (.bool no) (.int .i64 vk) (.int .i64 vi) (.string vt) (.string tb) (.string sv) (.slice pa args.length ca) (.slice ps sub.length cs)
      refine bodyPost_ret (v := .agg #[.int .i64 k, .int .i64 op, .bool no, .int .i64 vk, .int .i64 vi, .string vt, .string tb, .string sv, .slice pa args.length ca, .slice ps sub.length cs]) (by simp [results, Tryd.results11, go_sem, y0, y1, y2, y3, y4, y5, y6, y7, y8, y9]) rfl ?_
      exact HW5.out.sp_end (E := (Ex.mk k op no vk vi vt tb sv pa ca args ps cs sub)) (but_ten _ _ _ _ _ _ _ _ _ _ _ _) rfl (by omega)
    · skip
      have hbu : b < u1.heap.size := HW1.out.tape.lt
      obtain ⟨i0, hi0, hz0, hz1, hz2⟩ := info_parts info_expr
      have HO := Lib.hid (eowns_empty11 u1)
      have HSR := Lib.hid ((HW1.out.low (below_alloc u1 (.cells #[] 30))).args)
      obtain ⟨xl, x0, x1, x2, x3, x4, x5, x6, x7, x8, x9, xf⟩ := HW1.out.box
      simp only [Ex.mk_k, Ex.mk_op, Ex.mk_no, Ex.mk_vk, Ex.mk_vi, Ex.mk_vt, Ex.mk_tb, Ex.mk_nm, Ex.mk_pa, Ex.mk_ca, Ex.mk_args, Ex.mk_ps, Ex.mk_cs, Ex.mk_sub] at x0 x1 x2 x3 x4 x5 x6 x7 x8 x9
      go_upto_region 24 with (fail)
      go_wp2_with (at_builtin; refine wpList_append_any rfl (.tmp 99) (.tmp 101) 27 30 rfl u1.heap.size i0 _ 10 136 Tryd.underlying27 hi0 hz0 hz1 hz2 rfl (by decide) _ 0 (ecells []) (by rfl) HO.out pa args.length ca (ecells args) (by rfl) (ecells_length _) (lat_src11 HSR.out) (lat_none11 HSR.out) (ecells_one _) (by unfold maxLen; omega) (by omega) (by rw [size_alloc]; exact Nat.le_succ _) ?_; intro v2 w2 hown2 hg2; (have hst2 := step_grown_from ((StepT.refl b u1).alloc _) hg2 (fun k hk => by cases hk; exact Nat.le_refl _)); (have htt2 := TapeAt.grown (HW1.out.tape.alloc _) hg2 (fun k hk => by cases hk; exact HW1.out.tape.lt)); (have HW2 := Lib.hid (HW1.out.next hst2 htt2)); (have HO2 : Hid (w2.ownsRow u1.heap.size 30 10 v2 args.length (ecells args)) := Lib.hid (by rw [Nat.zero_add] at hown2; exact hown2)); (have HS2 := Lib.hid hst2); (have HT2 := Lib.hid htt2); clear hown2 hg2 hst2 htt2)
      clear xl x0 x1 x2 x3 x4 x5 x6 x7 x8 x9 xf HO HSR
      refine (num1_any _).mono ?_
      rintro e w3 ⟨rfl, hb3⟩
      have HO3 := Lib.hid (owns_below (owns_below HO2.out hb3) (below_alloc w3 (.cells #[.int .i64 1, .int .i64 0, .bool false, .int .i64 1, .int .i64 1, .string ⟨#[]⟩, .string ⟨#[]⟩, .string ⟨#[]⟩, .slice none 0 0, .slice none 0 0] 30)))
      have HS3 := Lib.hid ((HS2.out.trans (StepT.of_below hb3)).trans (StepT.of_below (below_alloc w3 (.cells #[.int .i64 1, .int .i64 0, .bool false, .int .i64 1, .int .i64 1, .string ⟨#[]⟩, .string ⟨#[]⟩, .string ⟨#[]⟩, .slice none 0 0, .slice none 0 0] 30))))
      have HT3 := Lib.hid ((HT2.out.below hb3).alloc (.cells #[.int .i64 1, .int .i64 0, .bool false, .int .i64 1, .int .i64 1, .string ⟨#[]⟩, .string ⟨#[]⟩, .string ⟨#[]⟩, .slice none 0 0, .slice none 0 0] 30))
      have HNX := Lib.hid (ExB.new w3 (litEx 1 1 ⟨#[]⟩) 30)
      simp only [litEx, Ex.mk_k, Ex.mk_op, Ex.mk_no, Ex.mk_vk, Ex.mk_vi, Ex.mk_vt, Ex.mk_tb, Ex.mk_nm, Ex.mk_pa, Ex.mk_ca, Ex.mk_args, Ex.mk_ps, Ex.mk_cs, Ex.mk_sub, List.length_nil] at HNX
      have HW3 := Lib.hid (HW2.out.low hb3)
      clear HO2 HW2 HS2 HT2 hb3
      obtain ⟨xl, x0, x1, x2, x3, x4, x5, x6, x7, x8, x9, xf⟩ := HW3.out.box
      simp only [Ex.mk_k, Ex.mk_op, Ex.mk_no, Ex.mk_vk, Ex.mk_vi, Ex.mk_vt, Ex.mk_tb, Ex.mk_nm, Ex.mk_pa, Ex.mk_ca, Ex.mk_args, Ex.mk_ps, Ex.mk_cs, Ex.mk_sub] at x0 x1 x2 x3 x4 x5 x6 x7 x8 x9
      go_upto_region 27 with (at_builtin; refine wpList_append_any rfl (.tmp 102) (.tmp 104) 27 30 rfl u1.heap.size i0 _ 10 136 Tryd.underlying27 hi0 hz0 hz1 hz2 rfl (by decide) v2 args.length (ecells args) (by rfl) HO3.out (some ⟨w3.heap.size, 0, none⟩) 1 1 (excs (litEx 1 1 ⟨#[]⟩)) (by rfl) rfl (fun ad he => by cases he; exact news_of HNX.out) (fun e => by cases e) (excs_one _) (by unfold maxLen; omega) (by omega) HS3.out.size ?_; intro v4 w4 hown4 hg4; (have hst4 := step_grown_from HS3.out hg4 (fun k hk => owns_block HO3.out k hk)); (have htt4 := TapeAt.grown HT3.out hg4 (fun k hk => Nat.lt_of_lt_of_le hbu (owns_block HO3.out k hk))); (have HW4 := Lib.hid (HW1.out.next hst4 htt4)); obtain ⟨p4, c4, e4⟩ := own_ex11 hown4; subst e4; (have HW5 := Lib.hid (HW4.out.setArgs (c' := c4) (D := d + 1) (n := args.length + 1) (args' := args ++ [litEx 1 1 ⟨#[]⟩]) (by omega) (by simp) (by omega) (HW4.out.ownA (by rw [ecells_append, ecells_single]; exact hown4) HW1.out.new (more_leaf HW4.out.args)))); clear hown4 hg4 hst4 htt4 xl x0 x1 x2 x3 x4 x5 x6 x7 x8 x9 xf; obtain ⟨zl, z0, z1, z2, z3, z4, z5, z6, z7, z8, z9, zf⟩ := HW4.out.box; simp only [Ex.mk_k, Ex.mk_op, Ex.mk_no, Ex.mk_vk, Ex.mk_vi, Ex.mk_vt, Ex.mk_tb, Ex.mk_nm, Ex.mk_pa, Ex.mk_ca, Ex.mk_args, Ex.mk_ps, Ex.mk_cs, Ex.mk_sub] at z0 z1 z2 z3 z4 z5 z6 z7 z8 z9)
      clear zl z0 z1 z2 z3 z4 z5 z6 z7 z8 z9 zf HO3 HS3 HT3 HNX HW3 HW4 HW1
      generalize World.setCell _ _ _ = w5 at HW5 ⊢
      have hlen : (args ++ [litEx 1 1 ⟨#[]⟩]).length = args.length + 1 := by simp
      obtain ⟨xl, x0, x1, x2, x3, x4, x5, x6, x7, x8, x9, xf⟩ := HW5.out.box
      simp only [Ex.mk_k, Ex.mk_op, Ex.mk_no, Ex.mk_vk, Ex.mk_vi, Ex.mk_vt, Ex.mk_tb, Ex.mk_nm, Ex.mk_pa, Ex.mk_ca, Ex.mk_args, Ex.mk_ps, Ex.mk_cs, Ex.mk_sub] at x0 x1 x2 x3 x4 x5 x6 x7 x8 x9
      rw [hlen] at x8
      obtain ⟨rl, r0, r1, r2, r3, r4, r5, r6, r7, r8, r9, rf⟩ := HW5.out.res
      simp only [ex0, Ex.mk_k, Ex.mk_op, Ex.mk_no, Ex.mk_vk, Ex.mk_vi, Ex.mk_vt, Ex.mk_tb, Ex.mk_nm, Ex.mk_pa, Ex.mk_ca, Ex.mk_args, Ex.mk_ps, Ex.mk_cs, Ex.mk_sub, List.length_nil] at r0 r1 r2 r3 r4 r5 r6 r7 r8 r9
      go_wp2
      obtain ⟨y0, y1, y2, y3, y4, y5, y6, y7, y8, y9⟩ := set_ten HW5.out.res (.int .i64 k) (.int .i64 op) (.bool no) (.int .i64 vk) (.int .i64 vi) (.string vt) (.string tb) (.string nm) (.slice p4 (args.length + 1) c4) (.slice ps sub.length cs)
      refine bodyPost_ret (v := .agg #[.int .i64 k, .int .i64 op, .bool no, .int .i64 vk, .int .i64 vi, .string vt, .string tb, .string nm, .slice p4 (args.length + 1) c4, .slice ps sub.length cs]) (by simp [results, Tryd.results11, go_sem, y0, y1, y2, y3, y4, y5, y6, y7, y8, y9]) rfl ?_
      exact HW5.out.sp_end (E := (Ex.mk k op no vk vi vt tb nm p4 c4 (args ++ [litEx 1 1 ⟨#[]⟩]) ps cs sub)) (but_ten _ _ _ _ _ _ _ _ _ _ _ _) (by unfold exV; simp only [Ex.mk_k, Ex.mk_op, Ex.mk_no, Ex.mk_vk, Ex.mk_vi, Ex.mk_vt, Ex.mk_tb, Ex.mk_nm, Ex.mk_pa, Ex.mk_ca, Ex.mk_args, Ex.mk_ps, Ex.mk_cs, Ex.mk_sub, hlen]) (by omega)
    · skip
      have hbu : b < u1.heap.size := HW1.out.tape.lt
      obtain ⟨i0, hi0, hz0, hz1, hz2⟩ := info_parts info_query
      have HO := Lib.hid (qowns_empty u1)
      have HSR := Lib.hid ((HW1.out.low (below_alloc u1 (.cells #[] 34))).subs)
      obtain ⟨xl, x0, x1, x2, x3, x4, x5, x6, x7, x8, x9, xf⟩ := HW1.out.box
      simp only [Ex.mk_k, Ex.mk_op, Ex.mk_no, Ex.mk_vk, Ex.mk_vi, Ex.mk_vt, Ex.mk_tb, Ex.mk_nm, Ex.mk_pa, Ex.mk_ca, Ex.mk_args, Ex.mk_ps, Ex.mk_cs, Ex.mk_sub] at x0 x1 x2 x3 x4 x5 x6 x7 x8 x9
      go_upto_region 26 with (fail)
      go_wp2_with (at_builtin; refine wpList_append_any rfl (.tmp 109) (.tmp 111) 28 34 rfl u1.heap.size i0 _ 4 72 Tryd.underlying28 hi0 hz0 hz1 hz2 rfl (by decide) _ 0 (qcells []) (by rfl) HO.out ps sub.length cs (qcells sub) (by rfl) (qcells_length _) (qat_src HSR.out) (qat_none HSR.out) (qcells_one _) (by unfold maxLen; omega) (by omega) (by rw [size_alloc]; exact Nat.le_succ _) ?_; intro v2 w2 hown2 hg2; (have hst2 := step_grown_from ((StepT.refl b u1).alloc _) hg2 (fun k hk => by cases hk; exact Nat.le_refl _)); (have htt2 := TapeAt.grown (HW1.out.tape.alloc _) hg2 (fun k hk => by cases hk; exact HW1.out.tape.lt)); (have HW2 := Lib.hid (HW1.out.next hst2 htt2)); (have HO2 : Hid (w2.ownsRow u1.heap.size 34 4 v2 sub.length (qcells sub)) := Lib.hid (by rw [Nat.zero_add] at hown2; exact hown2)); (have HS2 := Lib.hid hst2); (have HT2 := Lib.hid htt2); clear hown2 hg2 hst2 htt2)
      clear xl x0 x1 x2 x3 x4 x5 x6 x7 x8 x9 xf HO HSR
      refine (tbool_any b 2 _ (by omega) (by omega) HW2.out.tape).mono ?_
      rintro e w3 ⟨q1, rfl, ht3, hs3⟩
      have HO3 := Lib.hid (owns_below (owns_step HO2.out hbu hs3) (below_alloc w3 (.cells #[.bool q1, .slice none 0 0, .string ⟨#[116]⟩, .slice none 0 0] 34)))
      have HS3 := Lib.hid ((HS2.out.trans hs3).trans (StepT.of_below (below_alloc w3 (.cells #[.bool q1, .slice none 0 0, .string ⟨#[116]⟩, .slice none 0 0] 34))))
      have HT3 := Lib.hid (ht3.alloc (.cells #[.bool q1, .slice none 0 0, .string ⟨#[116]⟩, .slice none 0 0] 34))
      have HNX := Lib.hid (QuBx.new w3 (tQu q1) 34)
      simp only [tQu, List.length_nil] at HNX
      have HW3 := Lib.hid (HW2.out.next hs3 ht3)
      clear HO2 HW2 HS2 HT2 hs3 ht3
      obtain ⟨xl, x0, x1, x2, x3, x4, x5, x6, x7, x8, x9, xf⟩ := HW3.out.box
      simp only [Ex.mk_k, Ex.mk_op, Ex.mk_no, Ex.mk_vk, Ex.mk_vi, Ex.mk_vt, Ex.mk_tb, Ex.mk_nm, Ex.mk_pa, Ex.mk_ca, Ex.mk_args, Ex.mk_ps, Ex.mk_cs, Ex.mk_sub] at x0 x1 x2 x3 x4 x5 x6 x7 x8 x9
      go_upto_region 27 with (at_builtin; refine wpList_append_any rfl (.tmp 112) (.tmp 116) 28 34 rfl u1.heap.size i0 _ 4 72 Tryd.underlying28 hi0 hz0 hz1 hz2 rfl (by decide) v2 sub.length (qcells sub) (by rfl) HO3.out (some ⟨w3.heap.size, 0, none⟩) 1 1 (qucs (tQu q1)) (by rfl) rfl (fun ad he => by cases he; exact q_news HNX.out) (fun e => by cases e) (qucs_one _) (by unfold maxLen; omega) (by omega) HS3.out.size ?_; intro v4 w4 hown4 hg4; (have hst4 := step_grown_from HS3.out hg4 (fun k hk => owns_block HO3.out k hk)); (have htt4 := TapeAt.grown HT3.out hg4 (fun k hk => Nat.lt_of_lt_of_le hbu (owns_block HO3.out k hk))); (have HW4 := Lib.hid (HW1.out.next hst4 htt4)); obtain ⟨p4, c4, e4⟩ := own_ex11 hown4; subst e4; (have HW5 := Lib.hid (HW4.out.setSub (c' := c4) (D := d + 1) (n := sub.length + 1) (sub' := sub ++ [tQu q1]) (by omega) (by simp) (by omega) (HW4.out.ownQ (by rw [qcells_append, qcells_single]; exact hown4) HW1.out.new (more_tqu HW4.out.subs q1)))); clear hown4 hg4 hst4 htt4 xl x0 x1 x2 x3 x4 x5 x6 x7 x8 x9 xf; obtain ⟨zl, z0, z1, z2, z3, z4, z5, z6, z7, z8, z9, zf⟩ := HW4.out.box; simp only [Ex.mk_k, Ex.mk_op, Ex.mk_no, Ex.mk_vk, Ex.mk_vi, Ex.mk_vt, Ex.mk_tb, Ex.mk_nm, Ex.mk_pa, Ex.mk_ca, Ex.mk_args, Ex.mk_ps, Ex.mk_cs, Ex.mk_sub] at z0 z1 z2 z3 z4 z5 z6 z7 z8 z9)
      clear zl z0 z1 z2 z3 z4 z5 z6 z7 z8 z9 zf HO3 HS3 HT3 HNX HW3 HW4 HW1
      generalize World.setCell _ _ _ = w5 at HW5 ⊢
      have hlen : (sub ++ [tQu q1]).length = sub.length + 1 := by simp
      obtain ⟨xl, x0, x1, x2, x3, x4, x5, x6, x7, x8, x9, xf⟩ := HW5.out.box
      simp only [Ex.mk_k, Ex.mk_op, Ex.mk_no, Ex.mk_vk, Ex.mk_vi, Ex.mk_vt, Ex.mk_tb, Ex.mk_nm, Ex.mk_pa, Ex.mk_ca, Ex.mk_args, Ex.mk_ps, Ex.mk_cs, Ex.mk_sub] at x0 x1 x2 x3 x4 x5 x6 x7 x8 x9
      rw [hlen] at x9
      obtain ⟨rl, r0, r1, r2, r3, r4, r5, r6, r7, r8, r9, rf⟩ := HW5.out.res
      simp only [ex0, Ex.mk_k, Ex.mk_op, Ex.mk_no, Ex.mk_vk, Ex.mk_vi, Ex.mk_vt, Ex.mk_tb, Ex.mk_nm, Ex.mk_pa, Ex.mk_ca, Ex.mk_args, Ex.mk_ps, Ex.mk_cs, Ex.mk_sub, List.length_nil] at r0 r1 r2 r3 r4 r5 r6 r7 r8 r9
      go_wp2
      obtain ⟨y0, y1, y2, y3, y4, y5, y6, y7, y8, y9⟩ := set_ten HW5.out.res (.int .i64 k) (.int .i64 op) (.bool no) (.int .i64 vk) (.int .i64 vi) (.string vt) (.string tb) (.string nm) (.slice pa args.length ca) (.slice p4 (sub.length + 1) c4)
      refine bodyPost_ret (v := .agg #[.int .i64 k, .int .i64 op, .bool no, .int .i64 vk, .int .i64 vi, .string vt, .string tb, .string nm, .slice pa args.length ca, .slice p4 (sub.length + 1) c4]) (by simp [results, Tryd.results11, go_sem, y0, y1, y2, y3, y4, y5, y6, y7, y8, y9]) rfl ?_
      exact HW5.out.sp_end (E := (Ex.mk k op no vk vi vt tb nm pa ca args p4 c4 (sub ++ [tQu q1]))) (but_ten _ _ _ _ _ _ _ _ _ _ _ _) (by unfold exV; simp only [Ex.mk_k, Ex.mk_op, Ex.mk_no, Ex.mk_vk, Ex.mk_vi, Ex.mk_vt, Ex.mk_tb, Ex.mk_nm, Ex.mk_pa, Ex.mk_ca, Ex.mk_args, Ex.mk_ps, Ex.mk_cs, Ex.mk_sub, hlen]) (by omega)
    · skip
      by_cases hl0 : 0 < sub.length
      case neg =>
        have hd0 : decide ((0 : Int) < sub.length) = false := decide_eq_false (by omega)
        obtain ⟨xl, x0, x1, x2, x3, x4, x5, x6, x7, x8, x9, xf⟩ := HW1.out.box
        simp only [Ex.mk_k, Ex.mk_op, Ex.mk_no, Ex.mk_vk, Ex.mk_vi, Ex.mk_vt, Ex.mk_tb, Ex.mk_nm, Ex.mk_pa, Ex.mk_ca, Ex.mk_args, Ex.mk_ps, Ex.mk_cs, Ex.mk_sub] at x0 x1 x2 x3 x4 x5 x6 x7 x8 x9
        go_upto_region 27 with (fail)
        clear xl x0 x1 x2 x3 x4 x5 x6 x7 x8 x9 xf
        obtain ⟨xl, x0, x1, x2, x3, x4, x5, x6, x7, x8, x9, xf⟩ := HW1.out.box
        simp only [Ex.mk_k, Ex.mk_op, Ex.mk_no, Ex.mk_vk, Ex.mk_vi, Ex.mk_vt, Ex.mk_tb, Ex.mk_nm, Ex.mk_pa, Ex.mk_ca, Ex.mk_args, Ex.mk_ps, Ex.mk_cs, Ex.mk_sub] at x0 x1 x2 x3 x4 x5 x6 x7 x8 x9
        obtain ⟨rl, r0, r1, r2, r3, r4, r5, r6, r7, r8, r9, rf⟩ := HW1.out.res
        simp only [ex0, Ex.mk_k, Ex.mk_op, Ex.mk_no, Ex.mk_vk, Ex.mk_vi, Ex.mk_vt, Ex.mk_tb, Ex.mk_nm, Ex.mk_pa, Ex.mk_ca, Ex.mk_args, Ex.mk_ps, Ex.mk_cs, Ex.mk_sub, List.length_nil] at r0 r1 r2 r3 r4 r5 r6 r7 r8 r9
        go_wp2
        obtain ⟨y0, y1, y2, y3, y4, y5, y6, y7, y8, y9⟩ := set_ten HW1.out.res (.int .i64 k) (.int .i64 op) (.bool no) (.int .i64 vk) (.int .i64 vi) (.string vt) (.string tb) (.string nm) (.slice pa args.length ca) (.slice ps sub.length cs)
        refine bodyPost_ret (v := .agg #[.int .i64 k, .int .i64 op, .bool no, .int .i64 vk, .int .i64 vi, .string vt, .string tb, .string nm, .slice pa args.length ca, .slice ps sub.length cs]) (by simp [results, Tryd.results11, go_sem, y0, y1, y2, y3, y4, y5, y6, y7, y8, y9]) rfl ?_
        exact HW1.out.sp_end (E := (Ex.mk k op no vk vi vt tb nm pa ca args ps cs sub)) (but_ten _ _ _ _ _ _ _ _ _ _ _ _) rfl (by omega)
      have hd0 : decide ((0 : Int) < sub.length) = true := decide_eq_true (by omega)
      obtain ⟨q0, rfl⟩ : ∃ q0, sub = [q0] := List.length_eq_one_iff.1 (by omega)
      obtain ⟨st, pi, ci, items, fr, pw, cw, wh⟩ := q0
      have hwl : wh.length ≤ 1 := (HSV.out _ (List.mem_singleton.2 rfl)).wh
      obtain ⟨g, o, rfl, hg, hN, hC, hQ⟩ := HW1.out.subs 0 (by simp)
      rw [Nat.zero_mul, Nat.add_zero] at hC
      have hC : QuC u1 g o ⟨st, pi, ci, items, fr, pw, cw, wh⟩ := hC
      have HQ := Lib.hid (show QuIn (SpN N X b X (X + 1)) u1 (ExAt (SpN N X b X (X + 1)) u1 d) ⟨st, pi, ci, items, fr, pw, cw, wh⟩ from hQ)
      clear hQ hN
      obtain ⟨c0, c1, c2, c3⟩ := hC
      simp only at c0 c1 c2 c3
      obtain ⟨xl, x0, x1, x2, x3, x4, x5, x6, x7, x8, x9, xf⟩ := HW1.out.box
      simp only [Ex.mk_k, Ex.mk_op, Ex.mk_no, Ex.mk_vk, Ex.mk_vi, Ex.mk_vt, Ex.mk_tb, Ex.mk_nm, Ex.mk_pa, Ex.mk_ca, Ex.mk_args, Ex.mk_ps, Ex.mk_cs, Ex.mk_sub] at x0 x1 x2 x3 x4 x5 x6 x7 x8 x9
      simp only [List.length_singleton] at x9 hd0
      go_upto_region 9 with (fail)
      clear c0 c1 c2 c3 hg xl x0 x1 x2 x3 x4 x5 x6 x7 x8 x9 xf
      have hbu : b < u1.heap.size := HW1.out.tape.lt
      have HY := Lib.hid (QuBx.new u1 ⟨st, pi, ci, items, fr, pw, cw, wh⟩ 34)
      have HSY := Lib.hid ((StepT.refl b u1).alloc (.cells #[.bool st, .slice pi items.length ci, .string fr, .slice pw wh.length cw] 34))
      have HTY := Lib.hid (HW1.out.tape.alloc (.cells #[.bool st, .slice pi items.length ci, .string fr, .slice pw wh.length cw] 34))
      simp only at HY
      have hub : u1.heap.size < (u1.alloc (.cells #[.bool st, .slice pi items.length ci, .string fr, .slice pw wh.length cw] 34)).heap.size := by simp
      generalize u1.alloc (.cells #[.bool st, .slice pi items.length ci, .string fr, .slice pw wh.length cw] 34) = u2 at HY HSY HTY hub ⊢
      generalize hYY : u1.heap.size = Y at HY hub ⊢
      have hbu2 : b < u2.heap.size := by omega
      obtain ⟨i0, hi0, hz0, hz1, hz2⟩ := info_parts info_expr
      have HO := Lib.hid (eowns_empty11 u2)
      have HSR := Lib.hid ((HQ.out.wh.step HSY.out (fun c hc => hc.2.1)).low (below_alloc u2 (.cells #[] 30)))
      obtain ⟨yl, y0, y1, y2, y3, yf⟩ := HY.out
      simp only at y0 y1 y2 y3
      have HW2b := Lib.hid (HW1.out.next HSY.out HTY.out)
      go_wp2_with (at_builtin; refine wpList_append_any rfl (.tmp 47) (.tmp 49) 27 30 rfl u2.heap.size i0 _ 10 136 Tryd.underlying27 hi0 hz0 hz1 hz2 rfl (by decide) _ 0 (ecells []) (by rfl) HO.out pw wh.length cw (ecells wh) (by rfl) (ecells_length _) (lat_src11 HSR.out) (lat_none11 HSR.out) (ecells_one _) (by unfold maxLen; omega) (by omega) (by rw [size_alloc]; exact Nat.le_succ _) ?_; intro v2 w2 hown2 hg2; (have hst2 := step_grown_from ((StepT.refl b u2).alloc _) hg2 (fun k hk => by cases hk; exact Nat.le_refl _)); (have htt2 := TapeAt.grown (HW2b.out.tape.alloc _) hg2 (fun k hk => by cases hk; exact HW2b.out.tape.lt)); (have HW2 := Lib.hid (HW2b.out.next hst2 htt2)); (have HO2 : Hid (w2.ownsRow u2.heap.size 30 10 v2 wh.length (ecells wh)) := Lib.hid (by rw [Nat.zero_add] at hown2; exact hown2)); (have HS2 := Lib.hid hst2); (have HT2 := Lib.hid htt2); clear hown2 hg2 hst2 htt2)
      clear yl y0 y1 y2 y3 yf HO HSR HW2b
      refine (num1_any _).mono ?_
      rintro e w3 ⟨rfl, hb3⟩
      have HO3 := Lib.hid (owns_below (owns_below HO2.out hb3) (below_alloc w3 (.cells #[.int .i64 1, .int .i64 0, .bool false, .int .i64 1, .int .i64 1, .string ⟨#[]⟩, .string ⟨#[]⟩, .string ⟨#[]⟩, .slice none 0 0, .slice none 0 0] 30)))
      have HS3 := Lib.hid ((HS2.out.trans (StepT.of_below hb3)).trans (StepT.of_below (below_alloc w3 (.cells #[.int .i64 1, .int .i64 0, .bool false, .int .i64 1, .int .i64 1, .string ⟨#[]⟩, .string ⟨#[]⟩, .string ⟨#[]⟩, .slice none 0 0, .slice none 0 0] 30))))
      have HT3 := Lib.hid ((HT2.out.below hb3).alloc (.cells #[.int .i64 1, .int .i64 0, .bool false, .int .i64 1, .int .i64 1, .string ⟨#[]⟩, .string ⟨#[]⟩, .string ⟨#[]⟩, .slice none 0 0, .slice none 0 0] 30))
      have HNX := Lib.hid (ExB.new w3 (litEx 1 1 ⟨#[]⟩) 30)
      simp only [litEx, Ex.mk_k, Ex.mk_op, Ex.mk_no, Ex.mk_vk, Ex.mk_vi, Ex.mk_vt, Ex.mk_tb, Ex.mk_nm, Ex.mk_pa, Ex.mk_ca, Ex.mk_args, Ex.mk_ps, Ex.mk_cs, Ex.mk_sub, List.length_nil] at HNX
      have HYE := Lib.hid ((HY.out.step HS2.out (by omega)).low hb3)
      clear HO2 HW2 HS2 HT2 hb3
      obtain ⟨yl, y0, y1, y2, y3, yf⟩ := HYE.out
      simp only at y0 y1 y2 y3
      have hbu := hbu2
      go_upto_region 10 with (at_builtin; refine wpList_append_any rfl (.tmp 50) (.tmp 52) 27 30 rfl u2.heap.size i0 _ 10 136 Tryd.underlying27 hi0 hz0 hz1 hz2 rfl (by decide) v2 wh.length (ecells wh) (by rfl) HO3.out (some ⟨w3.heap.size, 0, none⟩) 1 1 (excs (litEx 1 1 ⟨#[]⟩)) (by rfl) rfl (fun ad he => by cases he; exact news_of HNX.out) (fun e => by cases e) (excs_one _) (by unfold maxLen; omega) (by omega) HS3.out.size ?_; intro v4 w4 hown4 hg4; (have hst4 := step_grown_from HS3.out hg4 (fun k hk => owns_block HO3.out k hk)); (have htt4 := TapeAt.grown HT3.out hg4 (fun k hk => Nat.lt_of_lt_of_le hbu (owns_block HO3.out k hk))); obtain ⟨p4, c4, e4⟩ := own_ex11 hown4; subst e4; (have HO4 := Lib.hid hown4); (have HST4 := Lib.hid hst4); (have HTT4 := Lib.hid htt4); (have HY4 := Lib.hid (HY.out.step hst4 (by omega))); clear hown4 hg4 hst4 htt4 yl y0 y1 y2 y3 yf; obtain ⟨yl, y0, y1, y2, y3, yf⟩ := HY4.out; simp only at y0 y1 y2 y3)
      clear HO3 HS3 HT3 HNX HYE
      have HBY := Lib.hid ((ButX.refl Y w4).set 3 none (.slice p4 (wh.length + 1) c4))
      have HY5 : Hid (QuBx (w4.setCell ⟨Y, 3, none⟩ (.slice p4 (wh.length + 1) c4)) Y ⟨st, pi, ci, items, fr, p4, c4, wh ++ [litEx 1 1 ⟨#[]⟩]⟩) := Lib.hid (by
        refine ⟨by simpa [World.setCell] using yl, ?_, ?_, ?_, ?_, fun o => by simp only [World.frozen?_setCell]; exact yf o⟩
        all_goals simp only [List.length_append, List.length_singleton]
        all_goals go_simp)
      clear yl y0 y1 y2 y3 yf
      generalize World.setCell _ _ _ = w6 at HBY HY5 ⊢
      have HST6 := Lib.hid ((HSY.out.trans HST4.out).but HBY.out (by omega))
      have HTT6 := Lib.hid (HTT4.out.but HBY.out (by omega))
      have HW6 := Lib.hid (HW1.out.next HST6.out HTT6.out)
      have HO6 := Lib.hid (owns_keep HO4.out fun k hk => HBY.out.block k (by have := owns_block HO4.out k hk; omega))
      have HNB : Hid (∀ j, u2.heap.size ≤ j → SpN N X b X (X + 1) j) := Lib.hid fun j hj => HW1.out.new j (by omega)
      have HWH : Hid (LAt (SpN N X b X (X + 1)) w6 (ExAt (SpN N X b X (X + 1)) w6 (d + 1)) p4 (wh ++ [litEx 1 1 ⟨#[]⟩])) := Lib.hid (HW6.out.ownA (by rw [ecells_append, ecells_single]; exact HO6.out) HNB.out (more_leaf (HQ.out.wh.step HST6.out (fun c hc => hc.2.1))))
      have hlw : (wh ++ [litEx 1 1 ⟨#[]⟩]).length = wh.length + 1 := by simp
      have HQ6 : Hid (QuIn (SpN N X b X (X + 1)) w6 (ExAt (SpN N X b X (X + 1)) w6 (d + 1)) ⟨st, pi, ci, items, fr, p4, c4, wh ++ [litEx 1 1 ⟨#[]⟩]⟩) := Lib.hid ⟨HQ.out.size, HQ.out.leni, by show (wh ++ [litEx 1 1 ⟨#[]⟩]).length ≤ _; rw [hlw]; omega, (HQ.out.items.step HST6.out (fun c hc => hc.2.1)).more (Nat.le_succ d), HWH.out⟩
      have HW7 := Lib.hid (HW6.out.low (below_alloc w6 (.cells #[.bool st, .slice pi items.length ci, .string fr, .slice p4 (wh.length + 1) c4] 34)))
      have HNZ := QuBx.new w6 ⟨st, pi, ci, items, fr, p4, c4, wh ++ [litEx 1 1 ⟨#[]⟩]⟩ 34
      simp only [hlw] at HNZ
      have HW8 := Lib.hid (HW7.out.setSub (c' := 1) (D := d + 1) (n := 1) (sub' := [⟨st, pi, ci, items, fr, p4, c4, wh ++ [litEx 1 1 ⟨#[]⟩]⟩]) (by omega) rfl (by omega) (one_qu HNZ (HW6.out.new _ (Nat.le_refl _)) (HQ6.out.low (below_alloc w6 (.cells #[.bool st, .slice pi items.length ci, .string fr, .slice p4 (wh.length + 1) c4] 34)))))
      obtain ⟨yl, y0, y1, y2, y3, yf⟩ := HY5.out
      simp only [hlw] at y0 y1 y2 y3
      obtain ⟨xl, x0, x1, x2, x3, x4, x5, x6, x7, x8, x9, xf⟩ := HW7.out.box
      simp only [Ex.mk_k, Ex.mk_op, Ex.mk_no, Ex.mk_vk, Ex.mk_vi, Ex.mk_vt, Ex.mk_tb, Ex.mk_nm, Ex.mk_pa, Ex.mk_ca, Ex.mk_args, Ex.mk_ps, Ex.mk_cs, Ex.mk_sub] at x0 x1 x2 x3 x4 x5 x6 x7 x8 x9
      go_upto_region 27 with (fail)
      clear yl y0 y1 y2 y3 yf xl x0 x1 x2 x3 x4 x5 x6 x7 x8 x9 xf HW7 HNZ
      generalize World.setCell _ _ _ = w8 at HW8 ⊢
      obtain ⟨xl, x0, x1, x2, x3, x4, x5, x6, x7, x8, x9, xf⟩ := HW8.out.box
      simp only [Ex.mk_k, Ex.mk_op, Ex.mk_no, Ex.mk_vk, Ex.mk_vi, Ex.mk_vt, Ex.mk_tb, Ex.mk_nm, Ex.mk_pa, Ex.mk_ca, Ex.mk_args, Ex.mk_ps, Ex.mk_cs, Ex.mk_sub] at x0 x1 x2 x3 x4 x5 x6 x7 x8 x9
      simp only [List.length_singleton] at x9
      obtain ⟨rl, r0, r1, r2, r3, r4, r5, r6, r7, r8, r9, rf⟩ := HW8.out.res
      simp only [ex0, Ex.mk_k, Ex.mk_op, Ex.mk_no, Ex.mk_vk, Ex.mk_vi, Ex.mk_vt, Ex.mk_tb, Ex.mk_nm, Ex.mk_pa, Ex.mk_ca, Ex.mk_args, Ex.mk_ps, Ex.mk_cs, Ex.mk_sub, List.length_nil] at r0 r1 r2 r3 r4 r5 r6 r7 r8 r9
      go_wp2
      obtain ⟨y0, y1, y2, y3, y4, y5, y6, y7, y8, y9⟩ := set_ten HW8.out.res (.int .i64 k) (.int .i64 op) (.bool no) (.int .i64 vk) (.int .i64 vi) (.string vt) (.string tb) (.string nm) (.slice pa args.length ca) (.slice (some ⟨w6.heap.size, 0, none⟩) 1 1)
      refine bodyPost_ret (v := .agg #[.int .i64 k, .int .i64 op, .bool no, .int .i64 vk, .int .i64 vi, .string vt, .string tb, .string nm, .slice pa args.length ca, .slice (some ⟨w6.heap.size, 0, none⟩) 1 1]) (by simp [results, Tryd.results11, go_sem, y0, y1, y2, y3, y4, y5, y6, y7, y8, y9]) rfl ?_
      exact HW8.out.sp_end (E := (Ex.mk k op no vk vi vt tb nm pa ca args (some ⟨w6.heap.size, 0, none⟩) 1 ([⟨st, pi, ci, items, fr, p4, c4, wh ++ [litEx 1 1 ⟨#[]⟩]⟩]))) (but_ten _ _ _ _ _ _ _ _ _ _ _ _) rfl (by omega)
theorem spoiled11_any (hlw : 3 ∈ ls) : ∀ d, d ≤ 1000 → SpDoes ls d
  | 0, _ => fun _ _ _ _ _ _ _ _ h => h.elim
  | d + 1, h => spoiled11_step (by omega) (spoiled11_any hlw d (by omega)) hlw
end Go.Proofs.YtdlehlbahkikgaaDoor
