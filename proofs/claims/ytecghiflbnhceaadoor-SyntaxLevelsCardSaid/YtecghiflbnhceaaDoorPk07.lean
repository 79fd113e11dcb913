/-
  Several texts in one.
-/
import Derived.Test.YtecghiflbnhceaaDoorPk01
import Derived.Test.YtecghiflbnhceaaDoorPk02
import Derived.StillTailTactics
import Derived.Test.YtecghiflbnhceaaDoorPk06
import Derived.Deep.RegionHeld3
/-
  Compare, of the program and of the reference.
-/
namespace Go.Proofs.YtecghiflbnhceaaDoor
set_option maxRecDepth 100000
open Go.RowKit

def orI (x y z : Int) : Int := if x = 0 then (if y = 0 then z else y) else x
/-- The order of values: by kind, then number, then text. -/
def cmpV (k n : Int) (s : ByteArray) (k' n' : Int) (s' : ByteArray) : Int :=
  orI (Lib.compareInt k k') (Lib.compareInt n n') (Lib.compareBytes s.data.toList s'.data.toList)

theorem ret_i {a b : Int} (h : a = b) : Ending.returned (.int .i64 a) = .returned (.int .i64 b) := by rw [h]

theorem two_boxes (w : World) (x y z x' y' z' : Value) (t : TypeId) :
    ∃ W, W = (w.alloc (.cells #[x, y, z] t)).alloc (.cells #[x', y', z'] t) ∧ Below w.heap.size w W ∧ W.heap.size = w.heap.size + 2 ∧ W.cell? ⟨w.heap.size, 0, none⟩ = some x ∧ W.cell? ⟨w.heap.size, 1, none⟩ = some y ∧ W.cell? ⟨w.heap.size, 2, none⟩ = some z
      ∧ W.cell? ⟨w.heap.size + 1, 0, none⟩ = some x' ∧ W.cell? ⟨w.heap.size + 1, 1, none⟩ = some y' ∧ W.cell? ⟨w.heap.size + 1, 2, none⟩ = some z' := by
  refine ⟨_, rfl, ((Below.refl _ _).alloc (Nat.le_refl _) _).alloc (by simp) _, by simp, ?_, ?_, ?_, ?_, ?_, ?_⟩
  all_goals go_simp

end Go.Proofs.YtecghiflbnhceaaDoor
/-
  Equality of values.
-/
namespace Go.Proofs.YtecghiflbnhceaaDoor
set_option maxRecDepth 100000
open Go.RowKit

/-- Are two values the same? -/
def sameV (k n : Int) (s : ByteArray) (k' n' : Int) (s' : ByteArray) : Bool := decide (k = k' ∧ n = n' ∧ s = s')
theorem sameV_iff {k n : Int} {s : ByteArray} {k' n' : Int} {s' : ByteArray} : sameV k n s k' n' s' = true ↔ k = k' ∧ n = n' ∧ s = s' := by unfold sameV; simp

theorem eql_val (k n : Int) (s : ByteArray) (k' n' : Int) (s' : ByteArray) (w : World) :
    (binOp .eql 26 (.agg #[.int .i64 k, .int .i64 n, .string s]) (.agg #[.int .i64 k', .int .i64 n', .string s'])).run Tryd.prog w = .ok (.bool (sameV k n s k' n' s')) w := by
  go_simp
  unfold sameV
  by_cases h1 : k = k'
  · by_cases h2 : n = n'
    · by_cases h3 : s = s'
      · simp [h1, h2, h3]
      · have h4 : ¬ s.toList = s'.toList := fun h => h3 (WideShapes.bytes_inj (by rw [ByteArray.toList_eq, ByteArray.toList_eq] at h; exact h))
        simp [h1, h2, h3, h4]
    · simp [h1, h2]
  · simp [h1]

end Go.Proofs.YtecghiflbnhceaaDoor
/-
  The order of values is total. Plain.
-/
namespace Go.Proofs.YtecghiflbnhceaaDoor
set_option maxRecDepth 100000
open Go

theorem cmpI_bd (a b : Int) : -1 ≤ Lib.compareInt a b ∧ Lib.compareInt a b ≤ 1 := by unfold Lib.compareInt; split <;> (try split) <;> omega
theorem cmpI_neg (a b : Int) : Lib.compareInt a b = - Lib.compareInt b a := by unfold Lib.compareInt; (repeat' split) <;> omega
theorem cmpI_zero (a b : Int) : Lib.compareInt a b = 0 ↔ a = b := by unfold Lib.compareInt; (repeat' split) <;> omega
theorem cmpI_le (a b : Int) : Lib.compareInt a b ≤ 0 ↔ a ≤ b := by unfold Lib.compareInt; (repeat' split) <;> omega

theorem cmpB_bd (a b : List UInt8) : -1 ≤ Lib.compareBytes a b ∧ Lib.compareBytes a b ≤ 1 := by
  induction a generalizing b with
  | nil => cases b <;> simp [Lib.compareBytes]
  | cons x a ih =>
    cases b with
    | nil => simp [Lib.compareBytes]
    | cons y b =>
      rw [Lib.compareBytes]
      split
      · decide
      · split
        · decide
        · exact ih b
theorem cmpB_neg (a b : List UInt8) : Lib.compareBytes a b = - Lib.compareBytes b a := by
  induction a generalizing b with
  | nil => cases b <;> simp [Lib.compareBytes]
  | cons x a ih =>
    cases b with
    | nil => simp [Lib.compareBytes]
    | cons y b =>
      rw [Lib.compareBytes, Lib.compareBytes]
      by_cases h : x < y
      · have h2 : ¬ y < x := fun h2 => by rw [UInt8.lt_iff_toNat_lt] at h h2; omega
        simp [h, h2]
      · by_cases h2 : y < x
        · simp [h, h2]
        · simp [h, h2, ih b]
theorem cmpB_zero (a b : List UInt8) : Lib.compareBytes a b = 0 ↔ a = b := by
  induction a generalizing b with
  | nil => cases b <;> simp [Lib.compareBytes]
  | cons x a ih =>
    cases b with
    | nil => simp [Lib.compareBytes]
    | cons y b =>
      rw [Lib.compareBytes]
      by_cases h : x < y
      · have : x ≠ y := fun e => by subst e; rw [UInt8.lt_iff_toNat_lt] at h; omega
        simp [h, this]
      · by_cases h2 : y < x
        · have : x ≠ y := fun e => by subst e; rw [UInt8.lt_iff_toNat_lt] at h2; omega
          simp [h, h2, this]
        · have : x = y := by
            apply UInt8.toNat_inj.1
            rw [UInt8.lt_iff_toNat_lt] at h h2; omega
          simp [this, ih b]
theorem cmpB_trans {a b c : List UInt8} (h1 : Lib.compareBytes a b ≤ 0) (h2 : Lib.compareBytes b c ≤ 0) : Lib.compareBytes a c ≤ 0 := by
  induction a generalizing b c with
  | nil => cases c <;> simp [Lib.compareBytes]
  | cons x a ih =>
    cases b with
    | nil => simp [Lib.compareBytes] at h1
    | cons y b =>
      cases c with
      | nil => simp [Lib.compareBytes] at h2
      | cons z c =>
        rw [Lib.compareBytes] at h1 h2 ⊢
        simp only [UInt8.lt_iff_toNat_lt] at h1 h2 ⊢
        by_cases a1 : x.toNat < y.toNat
        · by_cases a2 : y.toNat < z.toNat
          · rw [if_pos (by omega)]; decide
          · by_cases a3 : z.toNat < y.toNat
            · rw [if_neg a2, if_pos a3] at h2; omega
            · rw [if_pos (by omega)]; decide
        · by_cases a1' : y.toNat < x.toNat
          · rw [if_neg a1, if_pos a1'] at h1; omega
          · rw [if_neg a1, if_neg a1'] at h1
            by_cases a2 : y.toNat < z.toNat
            · rw [if_pos (by omega)]; decide
            · by_cases a3 : z.toNat < y.toNat
              · rw [if_neg a2, if_pos a3] at h2; omega
              · rw [if_neg a2, if_neg a3] at h2
                rw [if_neg (by omega), if_neg (by omega)]
                exact ih h1 h2

theorem cmpV_bd (k n : Int) (s : ByteArray) (k' n' : Int) (s' : ByteArray) : -1 ≤ cmpV k n s k' n' s' ∧ cmpV k n s k' n' s' ≤ 1 := by
  have h1 := cmpI_bd k k'
  have h2 := cmpI_bd n n'
  have h3 := cmpB_bd s.data.toList s'.data.toList
  unfold cmpV orI
  (repeat' split) <;> omega
theorem cmpV_neg (k n : Int) (s : ByteArray) (k' n' : Int) (s' : ByteArray) : cmpV k n s k' n' s' = - cmpV k' n' s' k n s := by
  unfold cmpV orI
  rw [cmpI_neg k k', cmpI_neg n n', cmpB_neg s.data.toList]
  (repeat' split) <;> omega
theorem cmpV_zero (k n : Int) (s : ByteArray) (k' n' : Int) (s' : ByteArray) : cmpV k n s k' n' s' = 0 ↔ (k = k' ∧ n = n' ∧ s = s') := by
  have hb : s.data.toList = s'.data.toList ↔ s = s' := ⟨fun h => WideShapes.bytes_inj h, fun h => by rw [h]⟩
  unfold cmpV orI
  split
  · rename_i h; rw [cmpI_zero] at h
    split
    · rename_i h2; rw [cmpI_zero] at h2; rw [cmpB_zero, hb]; simp [h, h2]
    · rename_i h2; rw [cmpI_zero] at h2 ⊢; simp [h2]
  · rename_i h; rw [cmpI_zero] at h ⊢; simp [h]
theorem cmpV_le (k n : Int) (s : ByteArray) (k' n' : Int) (s' : ByteArray) : cmpV k n s k' n' s' ≤ 0 ↔ (k < k' ∨ k = k' ∧ (n < n' ∨ n = n' ∧ Lib.compareBytes s.data.toList s'.data.toList ≤ 0)) := by
  unfold cmpV orI
  split
  · rename_i h; rw [cmpI_zero] at h
    split
    · rename_i h2; rw [cmpI_zero] at h2; simp [h, h2]
    · rename_i h2; rw [cmpI_zero] at h2; rw [cmpI_le]
      constructor
      · intro h3; exact Or.inr ⟨h, Or.inl (by omega)⟩
      · rintro (h3 | ⟨-, h3 | ⟨h3, -⟩⟩) <;> omega
  · rename_i h; rw [cmpI_zero] at h; rw [cmpI_le]
    constructor
    · intro h3; exact Or.inl (by omega)
    · rintro (h3 | ⟨h3, -⟩) <;> omega
theorem cmpV_trans {k n : Int} {s : ByteArray} {k' n' : Int} {s' : ByteArray} {k2 n2 : Int} {s2 : ByteArray} (h1 : cmpV k n s k' n' s' ≤ 0) (h2 : cmpV k' n' s' k2 n2 s2 ≤ 0) : cmpV k n s k2 n2 s2 ≤ 0 := by
  rw [cmpV_le] at h1 h2 ⊢
  rcases h1 with h1 | ⟨h1, h1' | ⟨h1', h1''⟩⟩ <;> rcases h2 with h2 | ⟨h2, h2' | ⟨h2', h2''⟩⟩
  all_goals first
    | exact Or.inl (by omega)
    | exact Or.inr ⟨by omega, Or.inl (by omega)⟩
    | exact Or.inr ⟨by omega, Or.inr ⟨by omega, cmpB_trans h1'' h2''⟩⟩
theorem cmpV_same (k n : Int) (s : ByteArray) (k' n' : Int) (s' : ByteArray) : ((cmpV k n s k' n' s' == 0) != sameV k n s k' n' s') = false := by
  have : (cmpV k n s k' n' s' == 0) = sameV k n s k' n' s' := by
    rw [Bool.eq_iff_iff, sameV_iff, beq_iff_eq, cmpV_zero]
  rw [this]; simp
theorem cmpV_same2 (k n : Int) (s : ByteArray) (k' n' : Int) (s' : ByteArray) : ((cmpV k n s k' n' s' == 0) == sameV k n s k' n' s') = true := by
  have : (cmpV k n s k' n' s' == 0) = sameV k n s k' n' s' := by
    rw [Bool.eq_iff_iff, sameV_iff, beq_iff_eq, cmpV_zero]
  rw [this]; simp
end Go.Proofs.YtecghiflbnhceaaDoor
/-
  CompareRows, of the program and of the reference.
-/
namespace Go.Proofs.YtecghiflbnhceaaDoor
set_option maxRecDepth 100000
open Go.RowKit

abbrev Val := Int × Int × ByteArray
def nilVal : Val := (0, 0, ⟨#[]⟩)
/-- The i-th of a list of values. -/
def vAt (l : List Val) (i : Nat) : Val := l.getD i nilVal
def cmpVal (x y : Val) : Int := cmpV x.1 x.2.1 x.2.2 y.1 y.2.1 y.2.2
/-- The order of rows. -/
def cmpRow : List Val → List Val → Int
  | [], [] => 0
  | [], _ :: _ => -1
  | _ :: _, [] => 1
  | x :: a, y :: b => if cmpVal x y = 0 then cmpRow a b else cmpVal x y

/-- A slice that reads as these values. -/
def RowAt (u : World) (p : Option Addr) (l : List Val) : Prop :=
  ∀ i, i < l.length → ∃ c o : Nat, p = some ⟨c, o, none⟩ ∧ c < u.heap.size ∧ u.cell? ⟨c, o + i * 3, none⟩ = some (.int .i64 (vAt l i).1) ∧ u.cell? ⟨c, o + i * 3 + 1, none⟩ = some (.int .i64 (vAt l i).2.1) ∧ u.cell? ⟨c, o + i * 3 + 2, none⟩ = some (.string (vAt l i).2.2)
theorem RowAt.low {u v : World} {p : Option Addr} {l : List Val} (h : RowAt u p l) (hb : Below u.heap.size u v) : RowAt v p l := fun i hi => by
  obtain ⟨c, o, hp, hc, h0, h1, h2⟩ := h i hi
  exact ⟨c, o, hp, Nat.lt_of_lt_of_le hc hb.size, by rw [hb.cell (by exact hc)]; exact h0, by rw [hb.cell (by exact hc)]; exact h1, by rw [hb.cell (by exact hc)]; exact h2⟩

theorem drop_cons {l : List Val} {i : Nat} (h : i < l.length) : l.drop i = vAt l i :: l.drop (i + 1) := by
  rw [List.drop_eq_getElem_cons h, vAt, List.getD, List.getElem?_eq_getElem h]; rfl
theorem cmpRow_step {a b : List Val} {i : Nat} (h : i < a.length) (h' : i < b.length) (hz : cmpVal (vAt a i) (vAt b i) = 0) : cmpRow (a.drop (i + 1)) (b.drop (i + 1)) = cmpRow (a.drop i) (b.drop i) := by
  rw [drop_cons h, drop_cons h', cmpRow, if_pos hz]
theorem cmpRow_stop {a b : List Val} {i : Nat} (h : i < a.length) (h' : i < b.length) (hz : ¬ cmpVal (vAt a i) (vAt b i) = 0) : cmpVal (vAt a i) (vAt b i) = cmpRow (a.drop i) (b.drop i) := by
  rw [drop_cons h, drop_cons h', cmpRow, if_neg hz]
theorem cmpRow_long {a b : List Val} {i : Nat} (h : i < a.length) (h' : b.length ≤ i) : cmpRow (a.drop i) (b.drop i) = 1 := by
  rw [drop_cons h, List.drop_eq_nil_of_le h']; rfl
theorem cmpRow_short {a b : List Val} {i : Nat} (h : a.length ≤ i) (h' : i < b.length) : cmpRow (a.drop i) (b.drop i) = -1 := by
  rw [drop_cons h', List.drop_eq_nil_of_le h]; rfl
theorem cmpRow_end {a b : List Val} {i : Nat} (h : a.length ≤ i) (h' : b.length ≤ i) : cmpRow (a.drop i) (b.drop i) = 0 := by
  rw [List.drop_eq_nil_of_le h', List.drop_eq_nil_of_le h]; rfl

end Go.Proofs.YtecghiflbnhceaaDoor
