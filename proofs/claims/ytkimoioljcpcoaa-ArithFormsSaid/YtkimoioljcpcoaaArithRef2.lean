/-
  THE REFERENCE's functions of one and two numbers.
-/
import Derived.Test.YtkimoioljcpcoaaArithRef
namespace Go.Proofs.Ytkimoioljcpcoaa
open Go.RowKit

section
variable (a b : Int) (w : World)
set_option maxHeartbeats 400000 in
theorem radd_any (ha : -9223372036854775808 ≤ a) (ha' : a ≤ 9223372036854775807) (hb : -9223372036854775808 ≤ b) (hb' : b ≤ 9223372036854775807) :
    Calls Try.prog 20 #[.int .i64 a, .int .i64 b] w fun e w' => e = .returned (.tuple #[.int .i64 (fitI (a + b)), .bool (fitB (a + b))]) ∧ Below w.heap.size w w' := by
  go_enter Try.func20, Try.ntmps20
  go_wp2_with fail
  refine (of_any a _ ha ha').mono ?_
  rintro e w1 ⟨rfl, h1⟩
  go_wp2_with fail
  refine (of_any b _ hb hb').mono ?_
  rintro e w2 ⟨rfl, h2⟩
  go_wp2_with fail
  refine (plus_any _ a b).mono ?_
  rintro e w3 ⟨rfl, h3⟩
  go_wp2_with fail
  refine (narrow_any _ (a + b) (by omega) (by omega)).mono ?_
  rintro e w4 ⟨rfl, h4⟩
  go_wp2
  go_ret2
  exact ⟨rfl, onto (onto (onto h1 h2) h3) h4⟩
set_option maxHeartbeats 400000 in
theorem rsub_any (ha : -9223372036854775808 ≤ a) (ha' : a ≤ 9223372036854775807) (hb : -9223372036854775808 ≤ b) (hb' : b ≤ 9223372036854775807) :
    Calls Try.prog 21 #[.int .i64 a, .int .i64 b] w fun e w' => e = .returned (.tuple #[.int .i64 (fitI (a - b)), .bool (fitB (a - b))]) ∧ Below w.heap.size w w' := by
  rw [Int.sub_eq_add_neg]
  go_enter Try.func21, Try.ntmps21
  go_wp2_with fail
  refine (of_any a _ ha ha').mono ?_
  rintro e w1 ⟨rfl, h1⟩
  go_wp2_with fail
  refine (of_any b _ hb hb').mono ?_
  rintro e w2 ⟨rfl, h2⟩
  go_wp2_with fail
  refine (minus_any _ b).mono ?_
  rintro e w3 ⟨rfl, h3⟩
  go_wp2_with fail
  refine (plus_any _ a (-b)).mono ?_
  rintro e w4 ⟨rfl, h4⟩
  go_wp2_with fail
  refine (narrow_any _ (a + -b) (by omega) (by omega)).mono ?_
  rintro e w5 ⟨rfl, h5⟩
  go_wp2
  go_ret2
  exact ⟨rfl, onto (onto (onto (onto h1 h2) h3) h4) h5⟩
set_option maxHeartbeats 400000 in
theorem rneg_any (ha : -9223372036854775808 ≤ a) (ha' : a ≤ 9223372036854775807) :
    Calls Try.prog 25 #[.int .i64 a] w fun e w' => e = .returned (.tuple #[.int .i64 (fitI (-a)), .bool (fitB (-a))]) ∧ Below w.heap.size w w' := by
  go_enter Try.func25, Try.ntmps25
  go_wp2_with fail
  refine (of_any a _ ha ha').mono ?_
  rintro e w1 ⟨rfl, h1⟩
  go_wp2_with fail
  refine (minus_any _ a).mono ?_
  rintro e w3 ⟨rfl, h3⟩
  go_wp2_with fail
  refine (narrow_any _ (-a) (by omega) (by omega)).mono ?_
  rintro e w5 ⟨rfl, h5⟩
  go_wp2
  go_ret2
  exact ⟨rfl, onto (onto h1 h3) h5⟩
theorem rdiv_zero :
    Calls Try.prog 23 #[.int .i64 a, .int .i64 0] w fun e w' => e = .returned (.tuple #[.int .i64 0, .bool false]) ∧ Below w.heap.size w w' := by
  go_enter Try.func23, Try.ntmps23
  go_wp2
  go_ret2
  exact ⟨rfl, Below.refl _ _⟩
theorem rrem_zero :
    Calls Try.prog 24 #[.int .i64 a, .int .i64 0] w fun e w' => e = .returned (.tuple #[.int .i64 0, .bool false]) ∧ Below w.heap.size w w' := by
  go_enter Try.func24, Try.ntmps24
  go_wp2
  go_ret2
  exact ⟨rfl, Below.refl _ _⟩

/-- A wide number that is made of a low half alone. -/
theorem narrow_low (x : Int) (h1 : 0 ≤ x) (h2 : x ≤ 18446744073709551615) :
    Calls Try.prog 31 #[.agg #[.int .i64 0, .int .u64 x]] w fun e w' => e = .returned (.tuple #[.int .i64 (fitI x), .bool (fitB x)]) ∧ Below w.heap.size w w' := by
  have h := narrow_any w x (by omega) (by omega)
  rw [show wrapH x = 0 by unfold wrapH wrap64; omega, show lowU x = x by unfold lowU; omega] at h
  exact h
theorem minus_low (x : Int) (h1 : 0 ≤ x) (h2 : x ≤ 18446744073709551615) :
    Calls Try.prog 32 #[.agg #[.int .i64 0, .int .u64 x]] w fun e w' => e = .returned (.agg #[.int .i64 (wrapH (-x)), .int .u64 (lowU (-x))]) ∧ Below w.heap.size w w' := by
  have h := minus_any w x
  rw [show wrapH x = 0 by unfold wrapH wrap64; omega, show lowU x = x by unfold lowU; omega] at h
  exact h

/-- The sign of a quotient. -/
theorem tdiv_same (h : decide (a < 0) = decide (b < 0)) : a.tdiv b = (a.natAbs : Int) / (b.natAbs : Int) := by
  by_cases ha : a < 0
  · have hb : b < 0 := by simpa [ha] using h.symm
    obtain ⟨x, rfl⟩ : ∃ x : Nat, a = -(x : Int) := ⟨a.natAbs, by omega⟩
    obtain ⟨y, rfl⟩ : ∃ y : Nat, b = -(y : Int) := ⟨b.natAbs, by omega⟩
    rw [Int.neg_tdiv, Int.tdiv_neg, Int.neg_neg, Int.natAbs_neg, Int.natAbs_neg]; rfl
  · have hb : ¬ b < 0 := by simpa [ha] using h.symm
    obtain ⟨x, rfl⟩ : ∃ x : Nat, a = (x : Int) := ⟨a.natAbs, by omega⟩
    obtain ⟨y, rfl⟩ : ∃ y : Nat, b = (y : Int) := ⟨b.natAbs, by omega⟩
    rfl
theorem tdiv_other (h : decide (a < 0) ≠ decide (b < 0)) : a.tdiv b = -((a.natAbs : Int) / (b.natAbs : Int)) := by
  by_cases ha : a < 0
  · have hb : ¬ b < 0 := fun hb => h (by simp [ha, hb])
    obtain ⟨x, rfl⟩ : ∃ x : Nat, a = -(x : Int) := ⟨a.natAbs, by omega⟩
    obtain ⟨y, rfl⟩ : ∃ y : Nat, b = (y : Int) := ⟨b.natAbs, by omega⟩
    rw [Int.neg_tdiv, Int.natAbs_neg]; rfl
  · have hb : b < 0 := by
      by_cases hb : b < 0
      · exact hb
      · exact absurd (by simp [ha, hb]) h
    obtain ⟨x, rfl⟩ : ∃ x : Nat, a = (x : Int) := ⟨a.natAbs, by omega⟩
    obtain ⟨y, rfl⟩ : ∃ y : Nat, b = -(y : Int) := ⟨b.natAbs, by omega⟩
    rw [Int.tdiv_neg, Int.natAbs_neg]; rfl
theorem div_le (h1 : -9223372036854775808 ≤ a) (h2 : a ≤ 9223372036854775807) : 0 ≤ (a.natAbs : Int) / (b.natAbs : Int) ∧ (a.natAbs : Int) / (b.natAbs : Int) ≤ 9223372036854775808 := by
  have h3 : a.natAbs / b.natAbs ≤ a.natAbs := Nat.div_le_self _ _
  have h4 : ((a.natAbs / b.natAbs : Nat) : Int) = (a.natAbs : Int) / (b.natAbs : Int) := rfl
  rw [← h4]
  generalize a.natAbs / b.natAbs = q at *
  omega
set_option maxHeartbeats 800000 in
theorem rdiv_any (ha : -9223372036854775808 ≤ a) (ha' : a ≤ 9223372036854775807) (hb : -9223372036854775808 ≤ b) (hb' : b ≤ 9223372036854775807) (h2 : b ≠ 0) :
    Calls Try.prog 23 #[.int .i64 a, .int .i64 b] w fun e w' => e = .returned (.tuple #[.int .i64 (fitI (a.tdiv b)), .bool (fitB (a.tdiv b))]) ∧ Below w.heap.size w w' := by
  have t2 : (b == 0) = false := by simpa using h2
  have hd := div_le a b ha ha'
  by_cases hs : decide (a < 0) = decide (b < 0)
  · rw [tdiv_same a b hs]
    have t3 : (decide (a < 0) == decide (b < 0)) = true := by rw [hs]; simp
    clear hs
    go_enter Try.func23, Try.ntmps23
    go_wp2_with fail
    refine (size_any a _ ha ha').mono ?_
    rintro e w1 ⟨rfl, rfl⟩
    go_wp2_with fail
    refine (size_any b _ hb hb').mono ?_
    rintro e w1 ⟨rfl, rfl⟩
    go_wp2_with fail
    refine (narrow_low _ _ hd.1 (by omega)).mono ?_
    rintro e w1 ⟨rfl, h1⟩
    go_wp2
    go_ret2
    exact ⟨rfl, onto ((Below.refl _ _).alloc (Nat.le_refl _) _) h1⟩
  · rw [tdiv_other a b hs]
    have t3 : (decide (a < 0) == decide (b < 0)) = false := beq_eq_false_iff_ne.2 hs
    clear hs
    go_enter Try.func23, Try.ntmps23
    go_wp2_with fail
    refine (size_any a _ ha ha').mono ?_
    rintro e w1 ⟨rfl, rfl⟩
    go_wp2_with fail
    refine (size_any b _ hb hb').mono ?_
    rintro e w1 ⟨rfl, rfl⟩
    go_wp2_with fail
    refine (minus_low _ _ hd.1 (by omega)).mono ?_
    rintro e w1 ⟨rfl, h1⟩
    obtain ⟨c0, c1, f0, f1, hz, hb2⟩ := box2 (n := w.heap.size) rfl h1
    clear h1
    go_wp2_with fail
    refine (narrow_any _ (-((a.natAbs : Int) / (b.natAbs : Int))) (by omega) (by omega)).mono ?_
    rintro e w2 ⟨rfl, h2⟩
    go_wp2
    go_ret2
    exact ⟨rfl, onto ((hb2.setCell (by simp) _).setCell (by simp) _) h2⟩
theorem tmod_pos (h : 0 ≤ a) : a.tmod b = ((a.natAbs : Int) % (b.natAbs : Int)) := by
  obtain ⟨x, rfl⟩ : ∃ x : Nat, a = (x : Int) := ⟨a.natAbs, by omega⟩
  by_cases hb : 0 ≤ b
  · obtain ⟨y, rfl⟩ : ∃ y : Nat, b = (y : Int) := ⟨b.natAbs, by omega⟩
    rfl
  · obtain ⟨y, rfl⟩ : ∃ y : Nat, b = -(y : Int) := ⟨b.natAbs, by omega⟩
    rw [Int.tmod_neg, Int.natAbs_neg]; rfl
theorem tmod_low (h : a < 0) : a.tmod b = -((a.natAbs : Int) % (b.natAbs : Int)) := by
  have := tmod_pos (-a) b (by omega)
  rw [Int.neg_tmod, Int.natAbs_neg] at this
  omega
theorem mod_le (h1 : -9223372036854775808 ≤ a) (h2 : a ≤ 9223372036854775807) : 0 ≤ ((a.natAbs : Int) % (b.natAbs : Int)) ∧ ((a.natAbs : Int) % (b.natAbs : Int)) ≤ 9223372036854775808 := by
  have h3 : a.natAbs % b.natAbs ≤ a.natAbs := Nat.mod_le _ _
  have h4 : ((a.natAbs % b.natAbs : Nat) : Int) = ((a.natAbs : Int) % (b.natAbs : Int)) := rfl
  rw [← h4]
  generalize a.natAbs % b.natAbs = q at *
  omega
theorem mod_fit (h : b ≠ 0) (hb : -9223372036854775808 ≤ b) (hb' : b ≤ 9223372036854775807) : -9223372036854775808 ≤ a.tmod b ∧ a.tmod b ≤ 9223372036854775807 := by
  have h5 := Int.natAbs_tmod a b
  have h6 : a.natAbs % b.natAbs < b.natAbs := Nat.mod_lt _ (by omega)
  omega
set_option maxHeartbeats 800000 in
theorem rrem_any (ha : -9223372036854775808 ≤ a) (ha' : a ≤ 9223372036854775807) (hb : -9223372036854775808 ≤ b) (hb' : b ≤ 9223372036854775807) (h2 : b ≠ 0) :
    Calls Try.prog 24 #[.int .i64 a, .int .i64 b] w fun e w' => e = .returned (.tuple #[.int .i64 (a.tmod b), .bool true]) ∧ Below w.heap.size w w' := by
  have hm := mod_fit a b h2 hb hb'
  have e1 : Ending.returned (.tuple #[.int .i64 (a.tmod b), .bool true]) = .returned (.tuple #[.int .i64 (fitI (a.tmod b)), .bool (fitB (a.tmod b))]) := two_yes hm.1 hm.2
  rw [e1]
  have t2 : (b == 0) = false := by simpa using h2
  have hd := mod_le a b ha ha'
  clear e1 hm
  by_cases hs : a < 0
  · rw [tmod_low a b hs]
    have t3 : decide (a < 0) = true := decide_eq_true hs
    go_enter Try.func24, Try.ntmps24
    go_wp2_with fail
    refine (size_any a _ ha ha').mono ?_
    rintro e w1 ⟨rfl, rfl⟩
    go_wp2_with fail
    refine (size_any b _ hb hb').mono ?_
    rintro e w1 ⟨rfl, rfl⟩
    go_wp2_with fail
    refine (minus_low _ _ hd.1 (by omega)).mono ?_
    rintro e w1 ⟨rfl, h1⟩
    obtain ⟨c0, c1, f0, f1, hz, hb2⟩ := box2 (n := w.heap.size) rfl h1
    clear h1
    go_wp2_with fail
    refine (narrow_any _ (-((a.natAbs : Int) % (b.natAbs : Int))) (by omega) (by omega)).mono ?_
    rintro e w2 ⟨rfl, h2⟩
    go_wp2
    go_ret2
    exact ⟨rfl, onto ((hb2.setCell (by simp) _).setCell (by simp) _) h2⟩
  · rw [tmod_pos a b (by omega)]
    have t3 : decide (a < 0) = false := decide_eq_false hs
    go_enter Try.func24, Try.ntmps24
    go_wp2_with fail
    refine (size_any a _ ha ha').mono ?_
    rintro e w1 ⟨rfl, rfl⟩
    go_wp2_with fail
    refine (size_any b _ hb hb').mono ?_
    rintro e w1 ⟨rfl, rfl⟩
    go_wp2_with fail
    refine (narrow_low _ _ hd.1 (by omega)).mono ?_
    rintro e w1 ⟨rfl, h1⟩
    go_wp2
    go_ret2
    exact ⟨rfl, onto ((Below.refl _ _).alloc (Nat.le_refl _) _) h1⟩

def absM : Int := (a.natAbs : Int) * (b.natAbs : Int)
def mulH : Int := absM a b / 18446744073709551616
def mulL : Int := absM a b % 18446744073709551616
theorem absM_range (ha : -9223372036854775808 ≤ a) (ha' : a ≤ 9223372036854775807) (hb : -9223372036854775808 ≤ b) (hb' : b ≤ 9223372036854775807) : 0 ≤ absM a b ∧ absM a b ≤ 85070591730234615865843651857942052864 := by
  have h : a.natAbs * b.natAbs ≤ 9223372036854775808 * 9223372036854775808 := Nat.mul_le_mul (by omega) (by omega)
  have e : absM a b = ((a.natAbs * b.natAbs : Nat) : Int) := by unfold absM; exact (Int.natCast_mul _ _).symm
  rw [e]
  generalize a.natAbs * b.natAbs = q at *
  omega
theorem mul64_any (ha : -9223372036854775808 ≤ a) (ha' : a ≤ 9223372036854775807) (hb : -9223372036854775808 ≤ b) (hb' : b ≤ 9223372036854775807) : Calls Try.prog 33 #[.int .u64 (a.natAbs : Int), .int .u64 (b.natAbs : Int)] w fun e w' => e = .returned (.tuple #[.int .u64 (mulH a b), .int .u64 (mulL a b)]) ∧ w = w' := by
  refine (Try.bits_Mul64 a.natAbs b.natAbs (by omega) (by omega) w).mono ?_
  rintro e w' ⟨h, hw⟩
  refine ⟨h.trans ?_, hw.symm⟩
  have e : absM a b = ((a.natAbs * b.natAbs : Nat) : Int) := by unfold absM; exact (Int.natCast_mul _ _).symm
  have e1 : ((a.natAbs * b.natAbs / 18446744073709551616 : Nat) : Int) = mulH a b := by unfold mulH; rw [e]; rfl
  have e2 : ((a.natAbs * b.natAbs % 18446744073709551616 : Nat) : Int) = mulL a b := by unfold mulL; rw [e]; rfl
  rw [e1, e2]
theorem mulH_eq (ha : -9223372036854775808 ≤ a) (ha' : a ≤ 9223372036854775807) (hb : -9223372036854775808 ≤ b) (hb' : b ≤ 9223372036854775807) : wrapH (absM a b) = mulH a b := by have h := absM_range a b ha ha' hb hb'; unfold mulH wrapH wrap64; omega
theorem narrow_mul (ha : -9223372036854775808 ≤ a) (ha' : a ≤ 9223372036854775807) (hb : -9223372036854775808 ≤ b) (hb' : b ≤ 9223372036854775807) :
    Calls Try.prog 31 #[.agg #[.int .i64 (mulH a b), .int .u64 (mulL a b)]] w fun e w' => e = .returned (.tuple #[.int .i64 (fitI (absM a b)), .bool (fitB (absM a b))]) ∧ Below w.heap.size w w' := by
  have h1 := absM_range a b ha ha' hb hb'
  have h := narrow_any w (absM a b) (by omega) (by omega)
  rw [mulH_eq a b ha ha' hb hb'] at h
  exact h
theorem minus_mul (ha : -9223372036854775808 ≤ a) (ha' : a ≤ 9223372036854775807) (hb : -9223372036854775808 ≤ b) (hb' : b ≤ 9223372036854775807) :
    Calls Try.prog 32 #[.agg #[.int .i64 (mulH a b), .int .u64 (mulL a b)]] w fun e w' => e = .returned (.agg #[.int .i64 (wrapH (-absM a b)), .int .u64 (lowU (-absM a b))]) ∧ Below w.heap.size w w' := by
  have h := minus_any w (absM a b)
  rw [mulH_eq a b ha ha' hb hb'] at h
  exact h
theorem mul_same (h : decide (a < 0) = decide (b < 0)) : a * b = absM a b := by
  unfold absM
  by_cases ha : a < 0
  · have hb : b < 0 := by simpa [ha] using h.symm
    rw [show (a.natAbs : Int) = -a by omega, show (b.natAbs : Int) = -b by omega, Int.neg_mul_neg]
  · have hb : ¬ b < 0 := by simpa [ha] using h.symm
    rw [show (a.natAbs : Int) = a by omega, show (b.natAbs : Int) = b by omega]
theorem mul_other (h : decide (a < 0) ≠ decide (b < 0)) : a * b = -absM a b := by
  unfold absM
  by_cases ha : a < 0
  · have hb : ¬ b < 0 := fun hb => h (by simp [ha, hb])
    rw [show (a.natAbs : Int) = -a by omega, show (b.natAbs : Int) = b by omega, Int.neg_mul, Int.neg_neg]
  · have hb : b < 0 := by
      by_cases hb : b < 0
      · exact hb
      · exact absurd (by simp [ha, hb]) h
    rw [show (a.natAbs : Int) = a by omega, show (b.natAbs : Int) = -b by omega, Int.mul_neg, Int.neg_neg]
set_option maxHeartbeats 800000 in
theorem rmul_any (ha : -9223372036854775808 ≤ a) (ha' : a ≤ 9223372036854775807) (hb : -9223372036854775808 ≤ b) (hb' : b ≤ 9223372036854775807) :
    Calls Try.prog 22 #[.int .i64 a, .int .i64 b] w fun e w' => e = .returned (.tuple #[.int .i64 (fitI (a * b)), .bool (fitB (a * b))]) ∧ Below w.heap.size w w' := by
  have hd := absM_range a b ha ha' hb hb'
  have hh : 0 ≤ mulH a b ∧ mulH a b ≤ 9223372036854775807 := by unfold mulH; omega
  by_cases hs : decide (a < 0) = decide (b < 0)
  · rw [mul_same a b hs]
    have t3 : (decide (a < 0) == decide (b < 0)) = true := by rw [hs]; simp
    clear hs
    go_enter Try.func22, Try.ntmps22
    go_wp2_with fail
    refine (size_any a _ ha ha').mono ?_
    rintro e w1 ⟨rfl, rfl⟩
    go_wp2_with fail
    refine (size_any b _ hb hb').mono ?_
    rintro e w1 ⟨rfl, rfl⟩
    go_wp2_with fail
    refine (mul64_any a b _ ha ha' hb hb').mono ?_
    rintro e w1 ⟨rfl, rfl⟩
    go_wp2_with fail
    refine (narrow_mul a b _ ha ha' hb hb').mono ?_
    rintro e w1 ⟨rfl, h1⟩
    go_wp2
    go_ret2
    exact ⟨rfl, onto ((Below.refl _ _).alloc (Nat.le_refl _) _) h1⟩
  · rw [mul_other a b hs]
    have t3 : (decide (a < 0) == decide (b < 0)) = false := beq_eq_false_iff_ne.2 hs
    clear hs
    go_enter Try.func22, Try.ntmps22
    go_wp2_with fail
    refine (size_any a _ ha ha').mono ?_
    rintro e w1 ⟨rfl, rfl⟩
    go_wp2_with fail
    refine (size_any b _ hb hb').mono ?_
    rintro e w1 ⟨rfl, rfl⟩
    go_wp2_with fail
    refine (mul64_any a b _ ha ha' hb hb').mono ?_
    rintro e w1 ⟨rfl, rfl⟩
    go_wp2_with fail
    refine (minus_mul a b _ ha ha' hb hb').mono ?_
    rintro e w1 ⟨rfl, h1⟩
    obtain ⟨c0, c1, f0, f1, hz, hb2⟩ := box2 (n := w.heap.size) rfl h1
    clear h1
    go_wp2_with fail
    refine (narrow_any _ (-absM a b) (by omega) (by omega)).mono ?_
    rintro e w2 ⟨rfl, h2⟩
    go_wp2
    go_ret2
    exact ⟨rfl, onto ((hb2.setCell (by simp) _).setCell (by simp) _) h2⟩
end
end Go.Proofs.Ytkimoioljcpcoaa
