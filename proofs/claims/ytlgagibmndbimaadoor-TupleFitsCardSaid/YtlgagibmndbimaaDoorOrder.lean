/-
  The order of values is total. Plain.
-/
import Derived.Test.YtlgagibmndbimaaDoorCompare
import Derived.Test.YtlgagibmndbimaaDoorEql
namespace Go.Proofs.YtlgagibmndbimaaDoor
open Go

theorem cmpI_bd (a b : Int) : -1 ≤ Lib.compareInt a b ∧ Lib.compareInt a b ≤ 1 := by unfold Lib.compareInt; split <;> (try split) <;> omega
theorem cmpI_neg (a b : Int) : Lib.compareInt a b = - Lib.compareInt b a := by unfold Lib.compareInt; (repeat' split) <;> omega
theorem cmpI_zero (a b : Int) : Lib.compareInt a b = 0 ↔ a = b := by unfold Lib.compareInt; (repeat' split) <;> omega
theorem cmpI_le (a b : Int) : Lib.compareInt a b ≤ 0 ↔ a ≤ b := by unfold Lib.compareInt; (repeat' split) <;> omega

theorem cmpB_bd (a b : List UInt8) : -1 ≤ Lib.compareBytes a b ∧ Lib.compareBytes a b ≤ 1 := by
  induction a generalizing b with
  | nil => cases b <;> simp [Lib.compareBytes]
  | cons x a ih =>
    cases b with
    | nil => simp [Lib.compareBytes]
    | cons y b =>
      rw [Lib.compareBytes]
      split
      · decide
      · split
        · decide
        · exact ih b
theorem cmpB_neg (a b : List UInt8) : Lib.compareBytes a b = - Lib.compareBytes b a := by
  induction a generalizing b with
  | nil => cases b <;> simp [Lib.compareBytes]
  | cons x a ih =>
    cases b with
    | nil => simp [Lib.compareBytes]
    | cons y b =>
      rw [Lib.compareBytes, Lib.compareBytes]
      by_cases h : x < y
      · have h2 : ¬ y < x := fun h2 => by rw [UInt8.lt_iff_toNat_lt] at h h2; omega
        simp [h, h2]
      · by_cases h2 : y < x
        · simp [h, h2]
        · simp [h, h2, ih b]
theorem cmpB_zero (a b : List UInt8) : Lib.compareBytes a b = 0 ↔ a = b := by
  induction a generalizing b with
  | nil => cases b <;> simp [Lib.compareBytes]
  | cons x a ih =>
    cases b with
    | nil => simp [Lib.compareBytes]
    | cons y b =>
      rw [Lib.compareBytes]
      by_cases h : x < y
      · have : x ≠ y := fun e => by subst e; rw [UInt8.lt_iff_toNat_lt] at h; omega
        simp [h, this]
      · by_cases h2 : y < x
        · have : x ≠ y := fun e => by subst e; rw [UInt8.lt_iff_toNat_lt] at h2; omega
          simp [h, h2, this]
        · have : x = y := by
            apply UInt8.toNat_inj.1
            rw [UInt8.lt_iff_toNat_lt] at h h2; omega
          simp [this, ih b]
theorem cmpB_trans {a b c : List UInt8} (h1 : Lib.compareBytes a b ≤ 0) (h2 : Lib.compareBytes b c ≤ 0) : Lib.compareBytes a c ≤ 0 := by
  induction a generalizing b c with
  | nil => cases c <;> simp [Lib.compareBytes]
  | cons x a ih =>
    cases b with
    | nil => simp [Lib.compareBytes] at h1
    | cons y b =>
      cases c with
      | nil => simp [Lib.compareBytes] at h2
      | cons z c =>
        rw [Lib.compareBytes] at h1 h2 ⊢
        simp only [UInt8.lt_iff_toNat_lt] at h1 h2 ⊢
        by_cases a1 : x.toNat < y.toNat
        · by_cases a2 : y.toNat < z.toNat
          · rw [if_pos (by omega)]; decide
          · by_cases a3 : z.toNat < y.toNat
            · rw [if_neg a2, if_pos a3] at h2; omega
            · rw [if_pos (by omega)]; decide
        · by_cases a1' : y.toNat < x.toNat
          · rw [if_neg a1, if_pos a1'] at h1; omega
          · rw [if_neg a1, if_neg a1'] at h1
            by_cases a2 : y.toNat < z.toNat
            · rw [if_pos (by omega)]; decide
            · by_cases a3 : z.toNat < y.toNat
              · rw [if_neg a2, if_pos a3] at h2; omega
              · rw [if_neg a2, if_neg a3] at h2
                rw [if_neg (by omega), if_neg (by omega)]
                exact ih h1 h2

theorem cmpV_bd (k n : Int) (s : ByteArray) (k' n' : Int) (s' : ByteArray) : -1 ≤ cmpV k n s k' n' s' ∧ cmpV k n s k' n' s' ≤ 1 := by
  have h1 := cmpI_bd k k'
  have h2 := cmpI_bd n n'
  have h3 := cmpB_bd s.data.toList s'.data.toList
  unfold cmpV orI
  (repeat' split) <;> omega
theorem cmpV_neg (k n : Int) (s : ByteArray) (k' n' : Int) (s' : ByteArray) : cmpV k n s k' n' s' = - cmpV k' n' s' k n s := by
  unfold cmpV orI
  rw [cmpI_neg k k', cmpI_neg n n', cmpB_neg s.data.toList]
  (repeat' split) <;> omega
theorem cmpV_zero (k n : Int) (s : ByteArray) (k' n' : Int) (s' : ByteArray) : cmpV k n s k' n' s' = 0 ↔ (k = k' ∧ n = n' ∧ s = s') := by
  have hb : s.data.toList = s'.data.toList ↔ s = s' := ⟨fun h => WideShapes.bytes_inj h, fun h => by rw [h]⟩
  unfold cmpV orI
  split
  · rename_i h; rw [cmpI_zero] at h
    split
    · rename_i h2; rw [cmpI_zero] at h2; rw [cmpB_zero, hb]; simp [h, h2]
    · rename_i h2; rw [cmpI_zero] at h2 ⊢; simp [h2]
  · rename_i h; rw [cmpI_zero] at h ⊢; simp [h]
theorem cmpV_le (k n : Int) (s : ByteArray) (k' n' : Int) (s' : ByteArray) : cmpV k n s k' n' s' ≤ 0 ↔ (k < k' ∨ k = k' ∧ (n < n' ∨ n = n' ∧ Lib.compareBytes s.data.toList s'.data.toList ≤ 0)) := by
  unfold cmpV orI
  split
  · rename_i h; rw [cmpI_zero] at h
    split
    · rename_i h2; rw [cmpI_zero] at h2; simp [h, h2]
    · rename_i h2; rw [cmpI_zero] at h2; rw [cmpI_le]
      constructor
      · intro h3; exact Or.inr ⟨h, Or.inl (by omega)⟩
      · rintro (h3 | ⟨-, h3 | ⟨h3, -⟩⟩) <;> omega
  · rename_i h; rw [cmpI_zero] at h; rw [cmpI_le]
    constructor
    · intro h3; exact Or.inl (by omega)
    · rintro (h3 | ⟨h3, -⟩) <;> omega
theorem cmpV_trans {k n : Int} {s : ByteArray} {k' n' : Int} {s' : ByteArray} {k2 n2 : Int} {s2 : ByteArray} (h1 : cmpV k n s k' n' s' ≤ 0) (h2 : cmpV k' n' s' k2 n2 s2 ≤ 0) : cmpV k n s k2 n2 s2 ≤ 0 := by
  rw [cmpV_le] at h1 h2 ⊢
  rcases h1 with h1 | ⟨h1, h1' | ⟨h1', h1''⟩⟩ <;> rcases h2 with h2 | ⟨h2, h2' | ⟨h2', h2''⟩⟩
  all_goals first
    | exact Or.inl (by omega)
    | exact Or.inr ⟨by omega, Or.inl (by omega)⟩
    | exact Or.inr ⟨by omega, Or.inr ⟨by omega, cmpB_trans h1'' h2''⟩⟩
theorem cmpV_same (k n : Int) (s : ByteArray) (k' n' : Int) (s' : ByteArray) : ((cmpV k n s k' n' s' == 0) != sameV k n s k' n' s') = false := by
  have : (cmpV k n s k' n' s' == 0) = sameV k n s k' n' s' := by
    rw [Bool.eq_iff_iff, sameV_iff, beq_iff_eq, cmpV_zero]
  rw [this]; simp
theorem cmpV_same2 (k n : Int) (s : ByteArray) (k' n' : Int) (s' : ByteArray) : ((cmpV k n s k' n' s' == 0) == sameV k n s k' n' s') = true := by
  have : (cmpV k n s k' n' s' == 0) = sameV k n s k' n' s' := by
    rw [Bool.eq_iff_iff, sameV_iff, beq_iff_eq, cmpV_zero]
  rw [this]; simp
end Go.Proofs.YtlgagibmndbimaaDoor
