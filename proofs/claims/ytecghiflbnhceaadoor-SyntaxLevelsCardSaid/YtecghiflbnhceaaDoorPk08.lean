/-
  Several texts in one.
-/
import Derived.Test.YtecghiflbnhceaaDoorPk01
import Derived.OwnWalk
import Derived.Laws.AppendOwnNone
import Derived.Test.YtecghiflbnhceaaDoorPk07
import Derived.Test.YtecghiflbnhceaaDoorPk02
import Derived.Deep.Cut
/-
  Rows that a call owns, behind calls that turn other blocks.
-/
namespace Go.Proofs.YtecghiflbnhceaaDoor
set_option maxRecDepth 100000
open Go.RowKit

theorem i64w {z : Int} (h : -9223372036854775808 ≤ z) (h2 : z ≤ 9223372036854775807) : IntKind.i64.wrap z = z := by rw [IntKind.wrap_i64]; omega
theorem owns_block {w : World} {base n size : Nat} {e : TypeId} {v : Value} {xs : List Value} (h : w.ownsRow base e size v n xs) : ∀ k, v.ownBlock = some k → base ≤ k := by
  intro k hk
  rcases h.2 with ⟨rfl, -⟩ | ⟨g, cap, cur, rfl, hg, -⟩
  · cases hk
  · obtain rfl := Option.some.inj hk; exact hg
theorem owns_keep {w w' : World} {base n size : Nat} {e : TypeId} {v : Value} {xs : List Value} (h : w.ownsRow base e size v n xs) (hk : ∀ k, v.ownBlock = some k → w'.heap[k]? = w.heap[k]?) : w'.ownsRow base e size v n xs := by
  refine ⟨h.1, ?_⟩
  rcases h.2 with h2 | ⟨g, cap, cur, rfl, hg, hh, r⟩
  · exact Or.inl h2
  · exact Or.inr ⟨g, cap, cur, rfl, hg, by rw [hk g rfl]; exact hh, r⟩
theorem owns_lt {w : World} {base n size : Nat} {e : TypeId} {v : Value} {xs : List Value} (h : w.ownsRow base e size v n xs) : ∀ k, v.ownBlock = some k → k < w.heap.size := by
  intro k hk
  rcases h.2 with ⟨rfl, -⟩ | ⟨g, cap, cur, rfl, hg, hh, -⟩
  · cases hk
  · obtain rfl := Option.some.inj hk; exact (Array.getElem?_eq_some_iff.1 hh).1
theorem owns_base {w : World} {base base' n size : Nat} {e : TypeId} {v : Value} {xs : List Value} (h : w.ownsRow base e size v n xs) (hb : base' ≤ base) : w.ownsRow base' e size v n xs := by
  refine ⟨h.1, ?_⟩
  rcases h.2 with h2 | ⟨g, cap, cur, rfl, hg, r⟩
  · exact Or.inl h2
  · exact Or.inr ⟨g, cap, cur, rfl, Nat.le_trans hb hg, r⟩
theorem owns_step {w w' : World} {b base n size : Nat} {e : TypeId} {v : Value} {xs : List Value} (h : w.ownsRow base e size v n xs) (hb : b < base) (hs : StepT b w w') : w'.ownsRow base e size v n xs :=
  owns_keep h fun k hk => hs.block k (owns_lt h k hk) (by have := owns_block h k hk; omega)
/-- Two rows of different types lie in different blocks. -/
theorem owns_apart {w : World} {base base' n n' size size' : Nat} {e e' : TypeId} {v v' : Value} {xs xs' : List Value} (h : w.ownsRow base e size v n xs) (h' : w.ownsRow base' e' size' v' n' xs') (he : e ≠ e') (k : Nat) (hk : v.ownBlock = some k) : v'.ownBlock ≠ some k := by
  intro hk'
  rcases h.2 with ⟨rfl, -⟩ | ⟨g, cap, cur, rfl, hg, hh, -⟩
  · cases hk
  · rcases h'.2 with ⟨rfl, -⟩ | ⟨g', cap', cur', rfl, hg', hh', -⟩
    · cases hk'
    · obtain rfl := Option.some.inj hk
      have hgg : g' = g := Option.some.inj hk'
      rw [hgg] at hh'
      have hh2 := hh.symm.trans hh'
      injection hh2 with hh2
      injection hh2 with _ h2 _
      exact he h2

theorem step_grown {b : Nat} {u v : World} {row : Option Nat} (hg : u.grownBy v row) (hr : ∀ k, row = some k → u.heap.size ≤ k ∨ k = b) : StepT b u v :=
  ⟨hg.os, hg.tape, hg.output, hg.size, fun k hk hb => hg.block k hk (by intro he; rcases hr k he.symm with h | h <;> omega)⟩
/-- Behind a growth of a row that the call has made since u0. -/
theorem step_grown_from {b : Nat} {u0 u v : World} {row : Option Nat} (h : StepT b u0 u) (hg : u.grownBy v row) (hr : ∀ k, row = some k → u0.heap.size ≤ k) : StepT b u0 v :=
  ⟨hg.os.trans h.os, hg.tape.trans h.tape, hg.output.trans h.output, Nat.le_trans h.size hg.size, fun k hk hb => (hg.block k (Nat.lt_of_lt_of_le hk h.size) (by intro he; have := hr k he.symm; omega)).trans (h.block k hk hb)⟩
theorem TapeAt.grown {b : Nat} {u v : World} {row : Option Nat} (h : TapeAt u b) (hg : u.grownBy v row) (hr : ∀ k, row = some k → b < k) : TapeAt v b :=
  h.keep (fun k hk => hg.block k (Nat.lt_of_le_of_lt hk h.lt) (by intro he; have := hr k he.symm; omega)) hg.size
end Go.Proofs.YtecghiflbnhceaaDoor
/-
  Rows that the call owns, as lists of values; value slices as arguments.
-/
namespace Go.Proofs.YtecghiflbnhceaaDoor
set_option maxRecDepth 100000
open Go.ChangeShapes Go.WideShapes Go.ChangeAt Go.RowKit

/-- The cells of a list of values. -/
def vcells : List Val → List Value
  | [] => []
  | x :: l => .int .i64 x.1 :: .int .i64 x.2.1 :: .string x.2.2 :: vcells l
theorem vcells_length (l : List Val) : (vcells l).length = l.length * 3 := by
  induction l with
  | nil => rfl
  | cons x l ih => simp only [vcells, List.length_cons, ih]; omega
theorem vcells_append (a b : List Val) : vcells (a ++ b) = vcells a ++ vcells b := by
  induction a with
  | nil => rfl
  | cons x a ih => simp only [List.cons_append, vcells, ih]
theorem vcells_at (l : List Val) : ∀ i, i < l.length → (vcells l)[i * 3]? = some (.int .i64 (vAt l i).1) ∧ (vcells l)[i * 3 + 1]? = some (.int .i64 (vAt l i).2.1) ∧ (vcells l)[i * 3 + 2]? = some (.string (vAt l i).2.2) := by
  induction l with
  | nil => intro i hi; simp at hi
  | cons x l ih =>
    intro i hi
    cases i with
    | zero => exact ⟨rfl, rfl, rfl⟩
    | succ i =>
      have h := ih i (by simpa using hi)
      have e : vAt (x :: l) (i + 1) = vAt l i := by simp [vAt]
      rw [e, Nat.succ_mul]
      exact h
theorem vcells_one (l : List Val) : ∀ u ∈ vcells l, u.oneCell' = true := by
  induction l with
  | nil => intro u hu; simp [vcells] at hu
  | cons x l ih =>
    intro u hu
    simp only [vcells, List.mem_cons] at hu
    rcases hu with rfl | rfl | rfl | hu
    · rfl
    · rfl
    · rfl
    · exact ih u hu

theorem row_of_owns {w : World} {base n : Nat} {e : TypeId} {v : Value} {l : List Val} (h : w.ownsRow base e 3 v n (vcells l)) :
    ∃ p cap, v = .slice p n cap ∧ n = l.length ∧ RowAt w p l := by
  obtain ⟨hl, h⟩ := h
  rw [vcells_length] at hl
  have hn : n = l.length := by omega
  rcases h with ⟨rfl, h0⟩ | ⟨g, cap, cur, rfl, hg, hh, hcap, hm, hcur, htake⟩
  · exact ⟨none, 0, by rw [h0], hn, fun i hi => by omega⟩
  · refine ⟨_, cap, rfl, hn, fun i hi => ⟨g, 0, rfl, (Array.getElem?_eq_some_iff.1 hh).1, ?_⟩⟩
    have key : ∀ j v, (vcells l)[j]? = some v → w.cell? ⟨g, 0 + j, none⟩ = some v := by
      intro j v hj
      rw [← htake] at hj
      have hj' : cur.toList[j]? = some v := by
        rw [List.getElem?_take] at hj
        split at hj
        · exact hj
        · cases hj
      simp [World.cell?, hh]
      simpa using hj'
    obtain ⟨h0, h1, h2⟩ := vcells_at l i hi
    exact ⟨key _ _ h0, key _ _ h1, key _ _ h2⟩

theorem info_val : (Tryd.prog.info? 26).map (fun i => (i.zero, i.size, i.bytes)) = some (some (.agg #[.int .i64 0, .int .i64 0, .string ⟨#[]⟩]), 3, 32) := by kernel_rfl

/-- What an append asks of a source. -/
theorem news_of_row {w : World} {p : Option Addr} {l : List Val} (h : RowAt w p l) (a : Addr) (hp : p = some a) : ∀ j u, (vcells l)[j]? = some u → w.cell? (a.add j) = some u := by
  intro j u hj
  have hjl : j < l.length * 3 := by
    have := (List.getElem?_eq_some_iff.1 hj).1
    rw [vcells_length] at this; exact this
  have hi : j / 3 < l.length := by omega
  obtain ⟨c, o, hc, -, h0, h1, h2⟩ := h (j / 3) hi
  rw [hp] at hc
  obtain rfl := Option.some.inj hc
  obtain ⟨v0, v1, v2⟩ := vcells_at l (j / 3) hi
  have ha : (⟨c, o, none⟩ : Addr).add j = ⟨c, o + j, none⟩ := by unfold Addr.add; split <;> simp_all
  rw [ha]
  have hr : j % 3 = 0 ∨ j % 3 = 1 ∨ j % 3 = 2 := by omega
  rcases hr with hr | hr | hr
  · have e : j = j / 3 * 3 := by omega
    rw [e] at hj ⊢
    have e2 : j / 3 * 3 / 3 = j / 3 := by omega
    rw [v0] at hj; obtain rfl := Option.some.inj hj; exact h0
  · have e : j = j / 3 * 3 + 1 := by omega
    rw [e] at hj ⊢
    rw [v1] at hj; obtain rfl := Option.some.inj hj; exact h1
  · have e : j = j / 3 * 3 + 2 := by omega
    rw [e] at hj ⊢
    rw [v2] at hj; obtain rfl := Option.some.inj hj; exact h2

theorem owns_empty (w : World) : (w.alloc (.cells #[] 26)).ownsRow w.heap.size 26 3 (.slice (some ⟨w.heap.size, 0, none⟩) 0 0) 0 (vcells []) := by
  refine ⟨rfl, Or.inr ⟨w.heap.size, 0, #[], rfl, Nat.le_refl _, ?_, Nat.le_refl _, by decide, rfl, rfl⟩⟩
  show (w.heap.push _)[w.heap.size]? = _
  simp

theorem grown_below {B : Nat} {w u v : World} {row : Option Nat} (hB : Below B w u) (hz : B ≤ u.heap.size) (hg : u.grownBy v row) (hr : ∀ k, row = some k → B ≤ k) : Below B w v := hB.grown hg hz hr
theorem cmpRow_self (l : List Val) : cmpRow l l = 0 := by
  induction l with
  | nil => rfl
  | cons x l ih =>
    have h : cmpVal x x = 0 := (cmpV_zero _ _ _ _ _ _).2 ⟨rfl, rfl, rfl⟩
    rw [cmpRow, if_pos h]; exact ih

theorem bulk_one {H : Type} (d : DataW H) : 1 ≤ Rows.uptoBulk d := by
  cases d with
  | lit l => cases l <;> simp [Rows.uptoBulk]
  | _ => simp [Rows.uptoBulk]
theorem bulk_length {H : Type} (l : List (DataW H)) : l.length ≤ Rows.uptoBulkAll l := by
  induction l with
  | nil => simp [Rows.uptoBulkAll]
  | cons x r ih => have := bulk_one x; simp only [Rows.uptoBulkAll, List.length_cons]; omega
theorem bulk_slice {H : Type} (n : Nat) (elems spare : List (DataW H)) (h : elems.length = n) : n ≤ Rows.uptoBulk (.slice elems spare) := by
  have := bulk_length elems
  simp only [Rows.uptoBulk]; omega

theorem list_three {l : List Value} (h : l.length = 3) : ∃ a b c, l = [a, b, c] := by
  match l, h with
  | [a, b, c], _ => exact ⟨a, b, c, rfl⟩

theorem exists_list {P : Nat → Val → Prop} {n : Nat} (h : ∀ i, i < n → ∃ x, P i x) : ∃ l : List Val, l.length = n ∧ ∀ i, i < n → P i (vAt l i) := by
  induction n with
  | zero => exact ⟨[], rfl, fun i hi => by omega⟩
  | succ n ih =>
    obtain ⟨l, hl, hp⟩ := ih (fun i hi => h i (by omega))
    obtain ⟨x, hx⟩ := h n (by omega)
    refine ⟨l ++ [x], by simp [hl], fun i hi => ?_⟩
    by_cases hin : i < n
    · have e : vAt (l ++ [x]) i = vAt l i := by unfold vAt; rw [List.getD, List.getElem?_append_left (by omega)]; rfl
      rw [e]; exact hp i hin
    · obtain rfl : i = n := by omega
      have e : vAt (l ++ [x]) i = x := by unfold vAt; rw [List.getD, List.getElem?_append_right (by omega), hl]; simp
      rw [e]; exact hx

section
variable {H : Type} {enc : TypeId × Value → H} {W : World} {v : Value} {d : DataW H} {p : List MemPlace}
end
end Go.Proofs.YtecghiflbnhceaaDoor
/-
  Rows of the tape: at most n rows of at most four values.
-/
namespace Go.Proofs.YtecghiflbnhceaaDoor
set_option maxRecDepth 100000
open Go.RowKit

theorem row_new (u : World) (k n : Int) (s : ByteArray) (t : TypeId) : RowAt (u.alloc (.cells #[.int .i64 k, .int .i64 n, .string s] t)) (some ⟨u.heap.size, 0, none⟩) [(k, n, s)] := by
  intro i hi
  obtain rfl : i = 0 := by simpa using hi
  have hb := BoxAt.new u (k, n, s) t
  exact ⟨u.heap.size, 0, rfl, hb.1, hb.2.1, hb.2.2.1, hb.2.2.2⟩

end Go.Proofs.YtecghiflbnhceaaDoor
/-
  The order of rows is total. Plain; and how rows that have been made are read.
-/
namespace Go.Proofs.YtecghiflbnhceaaDoor
set_option maxRecDepth 100000
open Go Go.RowKit

theorem cmpVal_bd (x y : Val) : -1 ≤ cmpVal x y ∧ cmpVal x y ≤ 1 := cmpV_bd _ _ _ _ _ _
theorem cmpVal_neg (x y : Val) : cmpVal x y = - cmpVal y x := cmpV_neg _ _ _ _ _ _
theorem cmpRow_bd (a b : List Val) : -1 ≤ cmpRow a b ∧ cmpRow a b ≤ 1 := by
  induction a generalizing b with
  | nil => cases b <;> simp [cmpRow]
  | cons x a ih =>
    cases b with
    | nil => simp [cmpRow]
    | cons y b =>
      rw [cmpRow]
      split
      · exact ih b
      · exact cmpVal_bd x y
theorem cmpRow_neg (a b : List Val) : cmpRow a b = - cmpRow b a := by
  induction a generalizing b with
  | nil => cases b <;> simp [cmpRow]
  | cons x a ih =>
    cases b with
    | nil => simp [cmpRow]
    | cons y b =>
      rw [cmpRow, cmpRow]
      by_cases h : cmpVal x y = 0
      · have h2 : cmpVal y x = 0 := by rw [cmpVal_neg y x, h]; rfl
        rw [if_pos h, if_pos h2]; exact ih b
      · have h2 : ¬ cmpVal y x = 0 := fun e => h (by rw [cmpVal_neg x y, e]; rfl)
        rw [if_neg h, if_neg h2]; exact cmpVal_neg x y
theorem cmpRow_prefix (a : List Val) (x : Val) : cmpRow a (a ++ [x]) = -1 := by
  induction a with
  | nil => rfl
  | cons y a ih =>
    have h : cmpVal y y = 0 := (cmpV_zero _ _ _ _ _ _).2 ⟨rfl, rfl, rfl⟩
    rw [List.cons_append, cmpRow, if_pos h]; exact ih
theorem cmpRow_prefix' (a : List Val) (x : Val) : cmpRow (a ++ [x]) a = 1 := by rw [cmpRow_neg, cmpRow_prefix]; rfl
theorem cmpRow_first {a b : List Val} (ha : 0 < a.length) (hb : 0 < b.length) (h : ¬ cmpVal (vAt a 0) (vAt b 0) = 0) : cmpRow a b = cmpVal (vAt a 0) (vAt b 0) := by
  have := cmpRow_stop (a := a) (b := b) (i := 0) ha hb h
  simpa using this.symm
theorem cmpVal_zero (x y : Val) : cmpVal x y = 0 ↔ x = y := by
  unfold cmpVal
  rw [cmpV_zero]
  constructor
  · rintro ⟨h1, h2, h3⟩
    exact Prod.ext h1 (Prod.ext h2 h3)
  · rintro rfl; exact ⟨rfl, rfl, rfl⟩
theorem cmpRow_trans {a b c : List Val} (h1 : cmpRow a b ≤ 0) (h2 : cmpRow b c ≤ 0) : cmpRow a c ≤ 0 := by
  induction a generalizing b c with
  | nil => cases c <;> simp [cmpRow]
  | cons x a ih =>
    cases b with
    | nil => simp [cmpRow] at h1
    | cons y b =>
      cases c with
      | nil => simp [cmpRow] at h2
      | cons z c =>
        rw [cmpRow] at h1 h2 ⊢
        by_cases hxy : cmpVal x y = 0
        · have := (cmpVal_zero x y).1 hxy
          subst this
          rw [if_pos hxy] at h1
          by_cases hyz : cmpVal x z = 0
          · rw [if_pos hyz] at h2 ⊢
            exact ih h1 h2
          · rw [if_neg hyz] at h2 ⊢
            exact h2
        · rw [if_neg hxy] at h1
          by_cases hyz : cmpVal y z = 0
          · have := (cmpVal_zero y z).1 hyz
            subst this
            rw [if_neg hxy]; exact h1
          · rw [if_neg hyz] at h2
            have hxz : cmpVal x z ≤ 0 := cmpV_trans h1 h2
            split
            · rename_i hz
              exfalso
              have := (cmpVal_zero x z).1 hz
              subst this
              have h3 := cmpVal_neg x y
              have h4 := cmpVal_bd x y
              have h5 : cmpVal x y = 0 := by omega
              exact hxy h5
            · exact hxz

/-- A row's slice: where it lies, and its capacity. -/
def rowP (v : Value) : Option Addr := match v with | .slice p _ _ => p | _ => none
def rowC (v : Value) : Nat := match v with | .slice _ _ c => c | _ => 0
def gAt (G : List (Value × List Val)) (i : Nat) : Value × List Val := G.getD i (.slice none 0 0, [])

theorem owned_shape {u : World} {base : Nat} {v : Value} {l : List Val} (h : u.ownsRow base 26 3 v l.length (vcells l)) :
    v = .slice (rowP v) l.length (rowC v) ∧ RowAt u (rowP v) l ∧ (rowP v = none → l = [] ∧ rowC v = 0) := by
  obtain ⟨p, cap, hv, hn, hr⟩ := row_of_owns h
  refine ⟨by rw [hv]; rfl, by rw [hv]; exact hr, fun hp => ?_⟩
  rcases h.2 with ⟨rfl, h0⟩ | ⟨g, cap', cur, rfl, -⟩
  · exact ⟨List.eq_nil_of_length_eq_zero h0, rfl⟩
  · cases hp

end Go.Proofs.YtecghiflbnhceaaDoor
