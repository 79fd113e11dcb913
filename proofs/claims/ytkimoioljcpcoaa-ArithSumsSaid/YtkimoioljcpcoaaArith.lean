/-
  CHECKED ARITHMETIC: plain mathematics, and what the program's functions of one and two numbers return.
-/
import Derived.Test.YtkimoioljcpcoaaProg
import Derived.WalkKit
import Derived.WalkSpells
import Derived.WalkLawsBesides
import Derived.IntWalk
import Derived.Lib.Hide
namespace Go.Proofs.Ytkimoioljcpcoaa
open Go.RowKit

/-- A number of 64 bits. -/
def fitB (z : Int) : Bool := decide (-9223372036854775808 ≤ z ∧ z ≤ 9223372036854775807)
/-- The number itself if it is one of 64 bits, else 0. -/
def fitI (z : Int) : Int := if -9223372036854775808 ≤ z ∧ z ≤ 9223372036854775807 then z else 0
theorem fitB_yes {z : Int} (h : -9223372036854775808 ≤ z) (k : z ≤ 9223372036854775807) : fitB z = true := by unfold fitB; exact decide_eq_true ⟨h, k⟩
theorem fitB_no {z : Int} (h : z < -9223372036854775808 ∨ 9223372036854775807 < z) : fitB z = false := by unfold fitB; exact decide_eq_false (by omega)
theorem fitI_yes {z : Int} (h : -9223372036854775808 ≤ z) (k : z ≤ 9223372036854775807) : fitI z = z := by unfold fitI; exact if_pos ⟨h, k⟩
theorem fitI_no {z : Int} (h : z < -9223372036854775808 ∨ 9223372036854775807 < z) : fitI z = 0 := by unfold fitI; exact if_neg (by omega)
theorem fitI_range (z : Int) : -9223372036854775808 ≤ fitI z ∧ fitI z ≤ 9223372036854775807 := by unfold fitI; split <;> omega
theorem fitB_iff {z : Int} : fitB z = true ↔ -9223372036854775808 ≤ z ∧ z ≤ 9223372036854775807 := by unfold fitB; exact decide_eq_true_iff
theorem fitB_out {z : Int} (h : fitB z = false) : z < -9223372036854775808 ∨ 9223372036854775807 < z := by unfold fitB at h; have := of_decide_eq_false h; omega

theorem two_yes {z : Int} (h : -9223372036854775808 ≤ z) (k : z ≤ 9223372036854775807) : Ending.returned (.tuple #[.int .i64 z, .bool true]) = .returned (.tuple #[.int .i64 (fitI z), .bool (fitB z)]) := by rw [fitB_yes h k, fitI_yes h k]
theorem two_no {z : Int} (h : z < -9223372036854775808 ∨ 9223372036854775807 < z) : Ending.returned (.tuple #[.int .i64 0, .bool false]) = .returned (.tuple #[.int .i64 (fitI z), .bool (fitB z)]) := by rw [fitB_no h, fitI_no h]

theorem two_eq {y z : Int} (h : y = z) : Ending.returned (.tuple #[.int .i64 (fitI y), .bool (fitB y)]) = .returned (.tuple #[.int .i64 (fitI z), .bool (fitB z)]) := by rw [h]
theorem two_zero {z : Int} (h : z = 0) : Ending.returned (.tuple #[.int .i64 0, .bool true]) = .returned (.tuple #[.int .i64 (fitI z), .bool (fitB z)]) := by rw [h]; rfl
theorem two_wrap {z : Int} (e : wrap64 z = z) (h : -9223372036854775808 ≤ z) (k : z ≤ 9223372036854775807) : Ending.returned (.tuple #[.int .i64 (wrap64 z), .bool true]) = .returned (.tuple #[.int .i64 (fitI z), .bool (fitB z)]) := by rw [fitB_yes h k, fitI_yes h k, e]
theorem wrap64_in64 (z : Int) : -9223372036854775808 ≤ wrap64 z ∧ wrap64 z ≤ 9223372036854775807 := by unfold wrap64; omega
theorem tdiv_in64 (a b : Int) (ha : -9223372036854775808 ≤ a) (ha' : a ≤ 9223372036854775807) (hb : b ≠ -1) : -9223372036854775808 ≤ a.tdiv b ∧ a.tdiv b ≤ 9223372036854775807 := by
  have h := Int.natAbs_tdiv a b
  by_cases h0 : b = 0
  · subst h0; simp
  by_cases h1 : b = 1
  · subst h1; simp; omega
  have h2 : 2 ≤ b.natAbs := by omega
  have h3 : a.natAbs / b.natAbs ≤ a.natAbs / 2 := Nat.div_le_div_left h2 (by decide)
  have h4 : (a.tdiv b).natAbs = a.natAbs / b.natAbs := h
  omega
theorem wrap64_high {z : Int} (h : 9223372036854775807 < z) (k : z ≤ 18446744073709551615) : wrap64 z = z - 18446744073709551616 := by unfold wrap64; omega
theorem wrap64_low {z : Int} (h : z < -9223372036854775808) (k : -18446744073709551616 ≤ z) : wrap64 z = z + 18446744073709551616 := by unfold wrap64; omega

section
variable (a b : Int) (w : World)
set_option maxHeartbeats 400000 in
theorem add_any (ha : -9223372036854775808 ≤ a) (ha' : a ≤ 9223372036854775807) (hb : -9223372036854775808 ≤ b) (hb' : b ≤ 9223372036854775807) :
    Calls Try.prog 14 #[.int .i64 a, .int .i64 b] w fun e w' => e = .returned (.tuple #[.int .i64 (fitI (a + b)), .bool (fitB (a + b))]) ∧ w = w' := by
  rcases (by omega : (-9223372036854775808 ≤ a + b ∧ a + b ≤ 9223372036854775807 ∧ b < 0) ∨ (-9223372036854775808 ≤ a + b ∧ a + b ≤ 9223372036854775807 ∧ 0 ≤ b) ∨ (9223372036854775807 < a + b ∧ 0 ≤ b) ∨ (a + b < -9223372036854775808 ∧ b < 0)) with ⟨h1, h2, h3⟩ | ⟨h1, h2, h3⟩ | ⟨h1, h3⟩ | ⟨h1, h3⟩
  · skip
    have t1 : decide (a + b < a) = true := decide_eq_true (by omega)
    have t3 : decide (b < 0) = true := decide_eq_true (by omega)
    go_enter Try.func14, Try.ntmps14
    go_wp2
    go_ret2
    exact ⟨two_yes h1 h2, rfl⟩
  · skip
    have t1 : decide (a + b < a) = false := decide_eq_false (by omega)
    have t3 : decide (b < 0) = false := decide_eq_false (by omega)
    go_enter Try.func14, Try.ntmps14
    go_wp2
    go_ret2
    exact ⟨two_yes h1 h2, rfl⟩
  · skip
    have e := wrap64_high h1 (by omega)
    have t1 : decide (a + b - 18446744073709551616 < a) = true := decide_eq_true (by omega)
    have t3 : decide (b < 0) = false := decide_eq_false (by omega)
    go_enter Try.func14, Try.ntmps14
    go_wp2
    go_ret2
    exact ⟨two_no (.inr h1), rfl⟩
  · skip
    have e := wrap64_low h1 (by omega)
    have t1 : decide (a + b + 18446744073709551616 < a) = false := decide_eq_false (by omega)
    have t3 : decide (b < 0) = true := decide_eq_true (by omega)
    go_enter Try.func14, Try.ntmps14
    go_wp2
    go_ret2
    exact ⟨two_no (.inl h1), rfl⟩
set_option maxHeartbeats 400000 in
theorem sub_any (ha : -9223372036854775808 ≤ a) (ha' : a ≤ 9223372036854775807) (hb : -9223372036854775808 ≤ b) (hb' : b ≤ 9223372036854775807) :
    Calls Try.prog 15 #[.int .i64 a, .int .i64 b] w fun e w' => e = .returned (.tuple #[.int .i64 (fitI (a - b)), .bool (fitB (a - b))]) ∧ w = w' := by
  rcases (by omega : (-9223372036854775808 ≤ a - b ∧ a - b ≤ 9223372036854775807 ∧ b < 0) ∨ (-9223372036854775808 ≤ a - b ∧ a - b ≤ 9223372036854775807 ∧ 0 ≤ b) ∨ (9223372036854775807 < a - b ∧ b < 0) ∨ (a - b < -9223372036854775808 ∧ 0 ≤ b)) with ⟨h1, h2, h3⟩ | ⟨h1, h2, h3⟩ | ⟨h1, h3⟩ | ⟨h1, h3⟩
  · skip
    have t1 : decide (a - b > a) = true := decide_eq_true (by omega)
    have t2 : decide (a < a - b) = true := decide_eq_true (by omega)
    have t3 : decide (b < 0) = true := decide_eq_true (by omega)
    go_enter Try.func15, Try.ntmps15
    go_wp2
    go_ret2
    exact ⟨two_yes h1 h2, rfl⟩
  · skip
    have t1 : decide (a - b > a) = false := decide_eq_false (by omega)
    have t2 : decide (a < a - b) = false := decide_eq_false (by omega)
    have t3 : decide (b < 0) = false := decide_eq_false (by omega)
    go_enter Try.func15, Try.ntmps15
    go_wp2
    go_ret2
    exact ⟨two_yes h1 h2, rfl⟩
  · skip
    have e := wrap64_high h1 (by omega)
    have t1 : decide (a - b - 18446744073709551616 > a) = false := decide_eq_false (by omega)
    have t2 : decide (a < a - b - 18446744073709551616) = false := decide_eq_false (by omega)
    have t3 : decide (b < 0) = true := decide_eq_true (by omega)
    go_enter Try.func15, Try.ntmps15
    go_wp2
    go_ret2
    exact ⟨two_no (.inr h1), rfl⟩
  · skip
    have e := wrap64_low h1 (by omega)
    have t1 : decide (a - b + 18446744073709551616 > a) = true := decide_eq_true (by omega)
    have t2 : decide (a < a - b + 18446744073709551616) = true := decide_eq_true (by omega)
    have t3 : decide (b < 0) = false := decide_eq_false (by omega)
    go_enter Try.func15, Try.ntmps15
    go_wp2
    go_ret2
    exact ⟨two_no (.inl h1), rfl⟩

theorem neg_any (ha : -9223372036854775808 ≤ a) (ha' : a ≤ 9223372036854775807) :
    Calls Try.prog 19 #[.int .i64 a] w fun e w' => e = .returned (.tuple #[.int .i64 (fitI (-a)), .bool (fitB (-a))]) ∧ w = w' := by
  go_enter Try.func19, Try.ntmps19
  go_wp2_with (go_at_call 15; refine (sub_any 0 a _ (by omega) (by omega) ha ha').mono ?_; rintro e w' ⟨rfl, rfl⟩)
  go_ret2
  exact ⟨two_eq (by omega), rfl⟩

/-- Multiplication checked by division. -/
theorem mul_back {p : Int} (hb : b ≠ 0) (hb2 : -9223372036854775808 ≤ b) (hb3 : b ≤ 9223372036854775807) (hp : p = wrap64 (a * b)) (h : p.tdiv b = a) : p = a * b := by
  have h1 := Int.tmod_add_mul_tdiv p b
  rw [h] at h1
  have h2 : p.tmod b = p - b * a := by omega
  have h3 : b * a = a * b := Int.mul_comm b a
  rw [h3] at h2
  have h4 : p = (a * b + 9223372036854775808) % 18446744073709551616 - 9223372036854775808 := by rw [hp]; unfold wrap64; rfl
  generalize a * b = m at *
  have h5 : (p.tmod b).natAbs < b.natAbs := by
    rw [Int.natAbs_tmod]
    exact Nat.mod_lt _ (by omega)
  rw [h2] at h5
  omega
theorem div_back (hb : b ≠ 0) : (a * b).tdiv b = a := Int.mul_tdiv_cancel _ hb

set_option maxHeartbeats 400000 in
theorem mul_any (ha : -9223372036854775808 ≤ a) (ha' : a ≤ 9223372036854775807) (hb : -9223372036854775808 ≤ b) (hb' : b ≤ 9223372036854775807) :
    Calls Try.prog 18 #[.int .i64 a, .int .i64 b] w fun e w' => e = .returned (.tuple #[.int .i64 (fitI (a * b)), .bool (fitB (a * b))]) ∧ w = w' := by
  by_cases h1 : b = -1
  · subst h1
    go_enter Try.func18, Try.ntmps18
    go_wp2_with (go_at_call 19; refine (neg_any a _ ha ha').mono ?_; rintro e w' ⟨rfl, rfl⟩)
    go_ret2
    exact ⟨two_eq (by omega), rfl⟩
  by_cases h2 : b = 0
  · subst h2
    go_enter Try.func18, Try.ntmps18
    go_wp2
    go_ret2
    exact ⟨two_zero (Int.mul_zero a), rfl⟩
  have t1 : (b == -1) = false := by simpa using h1
  have t2 : (b == 0) = false := by simpa using h2
  by_cases hf : -9223372036854775808 ≤ a * b ∧ a * b ≤ 9223372036854775807
  · have HW := Lib.hid (IntWalk.wrap64_in (a * b) hf)
    have t3 : (wrap64 ((wrap64 (a * b)).tdiv b) != a) = false := by rw [HW.out, div_back a b h2, IntWalk.wrap64_in a ⟨ha, ha'⟩]; simp
    have HF := Lib.hid hf
    clear hf
    go_enter Try.func18, Try.ntmps18
    go_wp2
    go_ret2
    exact ⟨two_wrap HW.out HF.out.1 HF.out.2, rfl⟩
  · have hm := @mul_back a b _ h2 hb hb' rfl
    have hq := wrap64_in64 (a * b)
    have hr := tdiv_in64 (wrap64 (a * b)) b hq.1 hq.2 h1
    have t3 : (wrap64 ((wrap64 (a * b)).tdiv b) != a) = true := by
      rw [IntWalk.wrap64_in _ hr]
      simp only [bne_iff_ne, ne_eq]
      intro h
      have := hm h
      omega
    have HF := Lib.hid hf
    clear hf hm hq hr
    go_enter Try.func18, Try.ntmps18
    go_wp2
    go_ret2
    exact ⟨two_no (by have := HF.out; omega), rfl⟩
set_option maxHeartbeats 400000 in
theorem div_any (ha : -9223372036854775808 ≤ a) (ha' : a ≤ 9223372036854775807) (hb : -9223372036854775808 ≤ b) (hb' : b ≤ 9223372036854775807) (h2 : b ≠ 0) :
    Calls Try.prog 16 #[.int .i64 a, .int .i64 b] w fun e w' => e = .returned (.tuple #[.int .i64 (fitI (a.tdiv b)), .bool (fitB (a.tdiv b))]) ∧ w = w' := by
  have t2 : (b == 0) = false := by simpa using h2
  by_cases h1 : b = -1
  · subst h1
    go_enter Try.func16, Try.ntmps16
    go_wp2_with (go_at_call 19; refine (neg_any a _ ha ha').mono ?_; rintro e w' ⟨rfl, rfl⟩)
    go_ret2
    exact ⟨two_eq (by rw [Int.tdiv_neg, Int.tdiv_one]), rfl⟩
  have t1 : (b == -1) = false := by simpa using h1
  have hr := tdiv_in64 a b ha ha' h1
  have HW := Lib.hid (IntWalk.wrap64_in _ hr)
  have HR := Lib.hid hr
  clear hr
  go_enter Try.func16, Try.ntmps16
  go_wp2
  go_ret2
  exact ⟨two_wrap HW.out HR.out.1 HR.out.2, rfl⟩
theorem div_zero :
    Calls Try.prog 16 #[.int .i64 a, .int .i64 0] w fun e w' => e = .returned (.tuple #[.int .i64 0, .bool false]) ∧ w = w' := by
  go_enter Try.func16, Try.ntmps16
  go_wp2
  go_ret2
  exact ⟨rfl, rfl⟩
theorem rem_any (h2 : b ≠ 0) :
    Calls Try.prog 17 #[.int .i64 a, .int .i64 b] w fun e w' => e = .returned (.tuple #[.int .i64 (a.tmod b), .bool true]) ∧ w = w' := by
  have t2 : (b == 0) = false := by simpa using h2
  go_enter Try.func17, Try.ntmps17
  go_wp2
  go_ret2
  exact ⟨rfl, rfl⟩
theorem rem_zero :
    Calls Try.prog 17 #[.int .i64 a, .int .i64 0] w fun e w' => e = .returned (.tuple #[.int .i64 0, .bool false]) ∧ w = w' := by
  go_enter Try.func17, Try.ntmps17
  go_wp2
  go_ret2
  exact ⟨rfl, rfl⟩
end
end Go.Proofs.Ytkimoioljcpcoaa
