/-
  Several texts in one.
-/
import Derived.Test.YtgaihglploedaaaPk09
import Derived.Test.YtgaihglploedaaaPk04
import Derived.OwnWalk
import Derived.Laws.AppendOwn
import Derived.Test.YtgaihglploedaaaPk11
import Derived.Test.YtgaihglploedaaaPk01
import Derived.Test.YtgaihglploedaaaPk08
/-
  Rows of columns that the call owns: append; stores into them.
-/
namespace Go.Proofs.Ytgaihglploedaaa
set_option maxRecDepth 100000
open Go.RowKit
variable {ls : List Nat}

def cAt (l : List Col) (i : Nat) : Col := l.getD i default
/-- The cells of a list of columns. -/
def ccells : List Col → List Value
  | [] => []
  | x :: l => .string x.nm :: .int .i64 x.ty :: .bool x.nn :: .bool x.key :: ccells l
theorem ccells_length (l : List Col) : (ccells l).length = l.length * 4 := by
  induction l with
  | nil => rfl
  | cons x l ih => simp only [ccells, List.length_cons, ih]; omega
theorem ccells_append (a b : List Col) : ccells (a ++ b) = ccells a ++ ccells b := by
  induction a with
  | nil => rfl
  | cons x a ih => simp only [List.cons_append, ccells, ih]
theorem ccells_at (l : List Col) : ∀ i, i < l.length → (ccells l)[i * 4]? = some (.string (cAt l i).nm) ∧ (ccells l)[i * 4 + 1]? = some (.int .i64 (cAt l i).ty) ∧ (ccells l)[i * 4 + 2]? = some (.bool (cAt l i).nn) ∧ (ccells l)[i * 4 + 3]? = some (.bool (cAt l i).key) := by
  induction l with
  | nil => intro i hi; simp at hi
  | cons x l ih =>
    intro i hi
    cases i with
    | zero => exact ⟨rfl, rfl, rfl, rfl⟩
    | succ i =>
      have h := ih i (by simpa using hi)
      have e : cAt (x :: l) (i + 1) = cAt l i := by simp [cAt]
      rw [e, Nat.succ_mul]
      exact h
theorem ccells_one (l : List Col) : ∀ u ∈ ccells l, u.oneCell' = true := by
  induction l with
  | nil => intro u hu; simp [ccells] at hu
  | cons x l ih =>
    intro u hu
    simp only [ccells, List.mem_cons] at hu
    rcases hu with rfl | rfl | rfl | rfl | hu
    · rfl
    · rfl
    · rfl
    · rfl
    · exact ih u hu
/-- Texts of columns that Go could hold. -/
def Sized (l : List Col) : Prop := ∀ i, i < l.length → (cAt l i).nm.size ≤ 9223372036854775807
theorem cAt_left {a b : List Col} {i : Nat} (h : i < a.length) : cAt (a ++ b) i = cAt a i := by unfold cAt; rw [List.getD, List.getElem?_append_left h]; rfl
theorem cAt_new {a : List Col} {c : Col} : cAt (a ++ [c]) a.length = c := by unfold cAt; rw [List.getD, List.getElem?_append_right (Nat.le_refl _)]; simp
theorem all_add {P : Nat → Col → Prop} {a : List Col} {c : Col} (h : ∀ i, i < a.length → P i (cAt a i)) (hc : P a.length c) : ∀ i, i < (a ++ [c]).length → P i (cAt (a ++ [c]) i) := by
  intro i hi
  rw [List.length_append, List.length_singleton] at hi
  by_cases hin : i < a.length
  · rw [cAt_left hin]; exact h i hin
  · obtain rfl : i = a.length := by omega
    rw [cAt_new]; exact hc
theorem Sized.add {a : List Col} {c : Col} (h : Sized a) (hc : c.nm.size ≤ 9223372036854775807) : Sized (a ++ [c]) := all_add (P := fun _ c => c.nm.size ≤ 9223372036854775807) h hc
/-- Any columns in memory, as a list. -/
theorem cols_list (n : Nat) (f : Nat → Col) : ∃ l : List Col, l.length = n ∧ ∀ i, i < n → cAt l i = f i := by
  refine ⟨(List.range n).map f, by simp, fun i hi => ?_⟩
  unfold cAt
  rw [List.getD, List.getElem?_map, List.getElem?_range hi]
  rfl
theorem ColsAt.congr {w : World} {p : Option Addr} {n : Nat} {f g : Nat → Col} (h : ColsAt w p n f) (he : ∀ i, i < n → g i = f i) : ColsAt w p n g := fun i hi => by rw [he i hi]; exact h i hi

theorem cols_of_owns {w : World} {base n : Nat} {e : TypeId} {v : Value} {l : List Col} (h : w.ownsRow base e 4 v n (ccells l)) (hs : Sized l) :
    ∃ p cap, v = .slice p n cap ∧ n = l.length ∧ ColsAt w p n (cAt l) ∧ ∀ q, p = some q → base ≤ q.block ∧ q.off = 0 ∧ ∀ o, w.frozen? ⟨q.block, o, none⟩ = false := by
  obtain ⟨hl, h⟩ := h
  rw [ccells_length] at hl
  have hn : n = l.length := by omega
  rcases h with ⟨rfl, h0⟩ | ⟨g, cap, cur, rfl, hg, hh, hcap, hm, hcur, htake⟩
  · exact ⟨none, 0, by rw [h0], hn, fun i hi => by omega, fun q hq => by cases hq⟩
  · refine ⟨_, cap, rfl, hn, fun i hi => ⟨g, 0, rfl, (Array.getElem?_eq_some_iff.1 hh).1, hs i (by omega), ?_⟩, fun q hq => ?_⟩
    · have key : ∀ j v, (ccells l)[j]? = some v → w.cell? ⟨g, 0 + j, none⟩ = some v := by
        intro j v hj
        rw [← htake] at hj
        have hj' : cur.toList[j]? = some v := by
          rw [List.getElem?_take] at hj
          split at hj
          · exact hj
          · cases hj
        simp [World.cell?, hh]
        simpa using hj'
      obtain ⟨h0, h1, h2, h3⟩ := ccells_at l i (by omega)
      exact ⟨key _ _ h0, key _ _ h1, key _ _ h2, key _ _ h3⟩
    · cases hq
      exact ⟨hg, rfl, fun o => by simp [World.frozen?, hh]⟩

theorem info_col : (Try.prog.info? 62).map (fun i => (i.zero, i.size, i.bytes)) = some (some (.agg #[.string ⟨#[]⟩, .int .i64 0, .bool false, .bool false]), 4, 32) := by kernel_rfl

/-- What an append asks of a source. -/
theorem news_of_cols {w : World} {a : Addr} {l : List Col} (h : ColsAt w (some a) l.length (cAt l)) : ∀ j u, (ccells l)[j]? = some u → w.cell? (a.add j) = some u := by
  intro j u hj
  have hjl : j < l.length * 4 := by
    have := (List.getElem?_eq_some_iff.1 hj).1
    rw [ccells_length] at this; exact this
  have hi : j / 4 < l.length := by omega
  obtain ⟨c, o, hc, -, -, h0, h1, h2, h3⟩ := h (j / 4) hi
  obtain rfl := Option.some.inj hc
  obtain ⟨v0, v1, v2, v3⟩ := ccells_at l (j / 4) hi
  have ha : (⟨c, o, none⟩ : Addr).add j = ⟨c, o + j, none⟩ := by unfold Addr.add; split <;> simp_all
  rw [ha]
  have hr : j % 4 = 0 ∨ j % 4 = 1 ∨ j % 4 = 2 ∨ j % 4 = 3 := by omega
  rcases hr with hr | hr | hr | hr
  · have e : j = j / 4 * 4 := by omega
    rw [e] at hj ⊢
    have e2 : j / 4 * 4 / 4 = j / 4 := by omega
    rw [v0] at hj; obtain rfl := Option.some.inj hj; exact h0
  · have e : j = j / 4 * 4 + 1 := by omega
    rw [e] at hj ⊢
    rw [v1] at hj; obtain rfl := Option.some.inj hj; exact h1
  · have e : j = j / 4 * 4 + 2 := by omega
    rw [e] at hj ⊢
    rw [v2] at hj; obtain rfl := Option.some.inj hj; exact h2
  · have e : j = j / 4 * 4 + 3 := by omega
    rw [e] at hj ⊢
    rw [v3] at hj; obtain rfl := Option.some.inj hj; exact h3

/-- append(v, xs...) of columns, v the call's own, xs not nil. -/
theorem wpList_append_cols {w : World} {ops : Array Oper} {rest : List Oper} {o : Oper} {a : Act} {Q : Exit → Act → World → Prop} (hgd : o.guard = none) (s x : Operand)
    (ho : o.op = .call { callee := .builtin .append, args := #[s, x], argTypes := #[23, 23] })
    (base : Nat) (v : Value) (n : Nat) (l : List Col) (hs : a.eval s = v) (hown : w.ownsRow base 62 4 v n (ccells l))
    (ad : Addr) (lx : List Col) (cx m : Nat) (hx : a.eval x = .slice (some ad) m cx) (hm : lx.length = m) (hrow : ColsAt w (some ad) lx.length (cAt lx)) (hsum : (n + lx.length) * 32 ≤ 140737488355328) (hbase : base ≤ w.heap.size)
    (h : ∀ v' w', w'.ownsRow base 62 4 v' (n + lx.length) (ccells (l ++ lx)) → w.grownBy w' v.ownBlock → wpList Try.prog ops Q rest (a.put o.dst v') w') : wpList Try.prog ops Q (o :: rest) a w := by
  obtain ⟨i0, hi, hz0, hz1, hz2⟩ := info_parts info_col
  subst hm
  refine wpList_append_own w hgd s x 23 ho base 62 i0 _ 4 32 Try.underlying23 hi hz0 hz1 hz2 rfl (by decide) v n (ccells l) hs hown ad lx.length cx (ccells lx) hx (ccells_length lx) (news_of_cols hrow) (ccells_one lx) (by unfold maxLen; omega) hsum hbase ?_
  intro v' w' h1 h2 _
  exact h v' w' (by rw [ccells_append]; exact h1) h2

theorem cowns_empty (w : World) : (w.alloc (.cells #[] 62)).ownsRow w.heap.size 62 4 (.slice (some ⟨w.heap.size, 0, none⟩) 0 0) 0 (ccells []) := by
  refine ⟨rfl, Or.inr ⟨w.heap.size, 0, #[], rfl, Nat.le_refl _, ?_, Nat.le_refl _, by decide, rfl, rfl⟩⟩
  show (w.heap.push _)[w.heap.size]? = _
  simp
theorem Cell2.grown {u v : World} {X : Nat} {x y : Value} {row : Option Nat} (h : Cell2 u X x y) (hg : u.grownBy v row) (hr : ∀ k, row = some k → X < k) : Cell2 v X x y := by
  have hb : v.heap[X]? = u.heap[X]? := hg.block X h.lt (fun e => by have := hr X e.symm; omega)
  exact ⟨Nat.lt_of_lt_of_le h.lt hg.size, by rw [World.cell?_of_block (w := u) hb]; exact h.c0, by rw [World.cell?_of_block (w := u) hb]; exact h.c1, fun o => by rw [World.frozen?_of_block (w := u) hb]; exact h.fz o⟩
theorem Cell2.step {u v : World} {X b : Nat} {x y : Value} (h : Cell2 u X x y) (hs : StepT b u v) (hn : X ≠ b) : Cell2 v X x y :=
  ⟨Nat.lt_of_lt_of_le h.lt hs.size, by rw [hs.cell (by exact h.lt) (by exact hn)]; exact h.c0, by rw [hs.cell (by exact h.lt) (by exact hn)]; exact h.c1, fun o => by rw [hs.frozen (by exact h.lt) (by exact hn)]; exact h.fz o⟩
theorem Cell4.step {u v : World} {X b : Nat} {x y z q : Value} (h : Cell4 u X x y z q) (hs : StepT b u v) (hn : X ≠ b) : Cell4 v X x y z q :=
  ⟨Nat.lt_of_lt_of_le h.lt hs.size, by rw [hs.cell (by exact h.lt) (by exact hn)]; exact h.c0, by rw [hs.cell (by exact h.lt) (by exact hn)]; exact h.c1, by rw [hs.cell (by exact h.lt) (by exact hn)]; exact h.c2, by rw [hs.cell (by exact h.lt) (by exact hn)]; exact h.c3, fun o => by rw [hs.frozen (by exact h.lt) (by exact hn)]; exact h.fz o⟩
theorem set_size (u : World) (a : Addr) (y : Value) : (u.setCell a y).heap.size = u.heap.size := by simp [World.setCell]
theorem Cell2.far {u : World} {X Z o : Nat} {a b : Value} (h : Cell2 u X a b) (hn : X ≠ Z) (y : Value) : Cell2 (u.setCell ⟨Z, o, none⟩ y) X a b := by
  have hk : (u.setCell ⟨Z, o, none⟩ y).heap[X]? = u.heap[X]? := Below.heap_setCell _ _ _ _ hn
  exact ⟨by simpa [World.setCell] using h.lt, by rw [World.cell?_of_block (w := u) hk]; exact h.c0, by rw [World.cell?_of_block (w := u) hk]; exact h.c1, fun i => by rw [World.frozen?_of_block (w := u) hk]; exact h.fz i⟩
end Go.Proofs.Ytgaihglploedaaa
/-
  Tables: New of the reference.
-/
namespace Go.Proofs.Ytgaihglploedaaa
set_option maxRecDepth 100000
open Go.RowKit
variable {ls : List Nat}

/-- What New gives. -/
def TNewPost (nm : ByteArray) (n : Nat) (f : Nat → Col) (w : World) (e : Ending) (w' : World) : Prop := ∃ (T : Tab) (er : Int), e = .returned (.tuple #[T.v, .int .i64 er]) ∧ TabAt w' T ∧ T.R = [] ∧ Below w.heap.size w w' ∧
  ((schemaOK nm n f = true ∧ er = 0 ∧ T.nm = nm ∧ T.n = n ∧ (∀ i, i < n → T.f i = f i) ∧ T.nx = 1) ∨ (schemaOK nm n f = false ∧ er = 17 ∧ T.nm = ⟨#[]⟩ ∧ T.n = 0 ∧ T.nx = 0))
theorem schemaOK_range {nm : ByteArray} {n : Nat} {f : Nat → Col} (h : schemaOK nm n f = true) : 1 ≤ n ∧ n ≤ 6 := by
  unfold schemaOK at h
  simp only [Bool.and_eq_true, decide_eq_true_eq] at h
  exact h.1.2
theorem ColsAt.ptr {w : World} {p : Option Addr} {n : Nat} {f : Nat → Col} (h : ColsAt w p n f) (hn : 0 < n) : ∃ c o, p = some ⟨c, o, none⟩ ∧ c < w.heap.size := by
  obtain ⟨c, o, hp, hc, -⟩ := h 0 hn
  exact ⟨c, o, hp, hc⟩
theorem Cell4.far {u : World} {X Y : Nat} {a b c d : Value} (h : Cell4 u X a b c d) (hn : X ≠ Y) {o : Nat} (v : Value) : Cell4 (u.setCell ⟨Y, o, none⟩ v) X a b c d := by
  have hb : ∀ o', (u.setCell ⟨Y, o, none⟩ v).cell? ⟨X, o', none⟩ = u.cell? ⟨X, o', none⟩ := fun o' => World.cell?_of_block (w := u) (Below.heap_setCell _ _ _ _ hn)
  exact ⟨by simpa [World.setCell] using h.lt, by rw [hb]; exact h.c0, by rw [hb]; exact h.c1, by rw [hb]; exact h.c2, by rw [hb]; exact h.c3, fun o' => by rw [World.frozen?_setCell]; exact h.fz o'⟩
theorem Cell4.set2 {u : World} {X : Nat} {a b c d : Value} (h : Cell4 u X a b c d) (y : Value) : Cell4 (u.setCell ⟨X, 2, none⟩ y) X a b y d := by
  obtain ⟨hl, c0, c1, c2, c3, fz⟩ := h
  refine ⟨by simpa [World.setCell] using hl, ?_, ?_, ?_, ?_, fun o => ?_⟩
  · go_simp
  · go_simp
  · go_simp
  · go_simp
  · rw [World.frozen?_setCell]; exact fz o
theorem Cell4.set3 {u : World} {X : Nat} {a b c d : Value} (h : Cell4 u X a b c d) (y : Value) : Cell4 (u.setCell ⟨X, 3, none⟩ y) X a b c y := by
  obtain ⟨hl, c0, c1, c2, c3, fz⟩ := h
  refine ⟨by simpa [World.setCell] using hl, ?_, ?_, ?_, ?_, fun o => ?_⟩
  · go_simp
  · go_simp
  · go_simp
  · go_simp
  · rw [World.frozen?_setCell]; exact fz o
theorem cell4_put (u : World) {X : Nat} {a b c d : Value} (h : Cell4 u X a b c d) (x y z t : Value) : Cell4 ((((u.setCell ⟨X, 0, none⟩ x).setCell ⟨X, 1, none⟩ y).setCell ⟨X, 2, none⟩ z).setCell ⟨X, 3, none⟩ t) X x y z t := by
  obtain ⟨hl, c0, c1, c2, c3, fz⟩ := h
  refine ⟨by simpa [World.setCell] using hl, ?_, ?_, ?_, ?_, fun o => ?_⟩
  · go_simp
  · go_simp
  · go_simp
  · go_simp
  · rw [World.frozen?_setCell, World.frozen?_setCell, World.frozen?_setCell, World.frozen?_setCell]; exact fz o
def zeroTab : Tab := ⟨⟨#[]⟩, none, 0, 0, fun _ => default, 0, none, 0, []⟩
theorem zeroTab_at (w : World) : TabAt w zeroTab := ⟨by decide, by decide, (fun i hi => absurd hi (Nat.not_lt_zero _)), TRowsAt.nil _ _, by decide, fun r hr => absurd hr (List.not_mem_nil), by decide⟩
end Go.Proofs.Ytgaihglploedaaa
/-
  Equal texts.
-/
namespace Go.Proofs.Ytgaihglploedaaa
set_option maxRecDepth 100000
open Go.RowKit
theorem eq_texts {a b : ByteArray} (h : a = b) : (a.toList == b.toList) = true := by rw [h]; exact beq_self_eq_true _
theorem ne_texts {a b : ByteArray} (h : a ≠ b) : (a.toList == b.toList) = false := by
  rw [beq_eq_false_iff_ne, ByteArray.toList_eq, ByteArray.toList_eq]
  exact fun hc => h (ByteArray.ext (Array.toList_inj.1 hc))

end Go.Proofs.Ytgaihglploedaaa
/-
  SameTable of the world.
-/
namespace Go.Proofs.Ytgaihglploedaaa
set_option maxRecDepth 100000
open Go.RowKit
variable {ls : List Nat}

def sameC (a b : Col) : Bool := eqT a.nm b.nm && (a.ty == b.ty && (a.nn == b.nn && a.key == b.key))
theorem sameC_iff {a b : Col} : sameC a b = true ↔ a = b := by
  unfold sameC
  obtain ⟨a1, a2, a3, a4⟩ := a
  obtain ⟨b1, b2, b3, b4⟩ := b
  simp only [Bool.and_eq_true, eqT_iff, beq_iff_eq, Col.mk.injEq]
theorem neq_col (a b : Col) (w : World) : (binOp .neq 62 (.agg #[.string a.nm, .int .i64 a.ty, .bool a.nn, .bool a.key]) (.agg #[.string b.nm, .int .i64 b.ty, .bool b.nn, .bool b.key])).run Try.prog w = .ok (.bool (!sameC a b)) w := by
  go_simp
  unfold sameC eqT
  cases h1 : (a.nm.toList == b.nm.toList) <;> cases h2 : (a.ty == b.ty) <;> cases h3 : (a.nn == b.nn) <;> cases h4 : (a.key == b.key) <;> simp_all
instance : DecidableEq Col := fun a b => decidable_of_iff (sameC a b = true) sameC_iff
/-- Are the columns the same? -/
def sameCols (n : Nat) (f : Nat → Col) (m : Nat) (g : Nat → Col) : Bool := decide (n = m ∧ ∀ i, i < n → f i = g i)
theorem sameCols_no {n m : Nat} {f g : Nat → Col} {k : Nat} (hk : k < n) (h : ¬ f k = g k) : sameCols n f m g = false := decide_eq_false fun hc => h (hc.2 k hk)
theorem sameCols_len {n m : Nat} {f g : Nat → Col} (h : ¬ n = m) : sameCols n f m g = false := decide_eq_false fun hc => h hc.1
theorem sameCols_yes {n : Nat} {f g : Nat → Col} (h : ∀ i, i < n → f i = g i) : sameCols n f n g = true := decide_eq_true ⟨rfl, h⟩
def sameR (a b : TRow) : Bool := decide (a.1 = b.1) && decide (a.2 = b.2)
theorem sameR_iff {a b : TRow} : sameR a b = true ↔ a = b := by
  unfold sameR
  obtain ⟨a1, a2⟩ := a
  obtain ⟨b1, b2⟩ := b
  simp
theorem ext_trows {A B : List TRow} (hl : A.length = B.length) (h : ∀ i, i < A.length → tAt A i = tAt B i) : A = B := by
  apply List.ext_getElem hl
  intro i h1 h2
  have := h i h1
  rw [tAt_get h1, tAt_get h2] at this
  exact this
def sameT (T S : Tab) : Bool := (eqT T.nm S.nm && sameCols T.n T.f S.n S.f) && (T.nx == S.nx && decide (T.R = S.R))
end Go.Proofs.Ytgaihglploedaaa
