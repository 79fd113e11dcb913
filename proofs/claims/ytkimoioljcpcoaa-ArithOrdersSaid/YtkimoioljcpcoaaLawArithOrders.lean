/-
  THE WALK of ArithOrders.
-/
import Derived.Test.YtkimoioljcpcoaaArithKnown
namespace Go.Proofs.Ytkimoioljcpcoaa
open Go.RowKit

section
variable (a b : Int) (w : World)
theorem add_sw (ha : -9223372036854775808 ≤ a) (ha' : a ≤ 9223372036854775807) (hb : -9223372036854775808 ≤ b) (hb' : b ≤ 9223372036854775807) :
    Calls Try.prog 14 #[.int .i64 b, .int .i64 a] w fun e w' => e = .returned (.tuple #[.int .i64 (fitI (a + b)), .bool (fitB (a + b))]) ∧ w = w' :=
  (add_any b a w hb hb' ha ha').mono fun _ _ ⟨h, hw⟩ => ⟨h.trans (two_eq (Int.add_comm b a)), hw⟩
theorem mul_sw (ha : -9223372036854775808 ≤ a) (ha' : a ≤ 9223372036854775807) (hb : -9223372036854775808 ≤ b) (hb' : b ≤ 9223372036854775807) :
    Calls Try.prog 18 #[.int .i64 b, .int .i64 a] w fun e w' => e = .returned (.tuple #[.int .i64 (fitI (a * b)), .bool (fitB (a * b))]) ∧ w = w' :=
  (mul_any b a w hb hb' ha ha').mono fun _ _ ⟨h, hw⟩ => ⟨h.trans (two_eq (Int.mul_comm b a)), hw⟩
theorem sub_zero (ha : -9223372036854775808 ≤ a) (ha' : a ≤ 9223372036854775807) :
    Calls Try.prog 15 #[.int .i64 0, .int .i64 a] w fun e w' => e = .returned (.tuple #[.int .i64 (fitI (-a)), .bool (fitB (-a))]) ∧ w = w' :=
  (sub_any 0 a w (by omega) (by omega) ha ha').mono fun _ _ ⟨h, hw⟩ => ⟨h.trans (two_eq (Int.zero_sub a)), hw⟩

set_option maxHeartbeats 400000 in
theorem aorders_walk (ha : -9223372036854775808 ≤ a) (ha' : a ≤ 9223372036854775807) (hb : -9223372036854775808 ≤ b) (hb' : b ≤ 9223372036854775807) :
    Calls Try.prog 6 #[.int .i64 a, .int .i64 b] w fun e w' => e = .returned (.bool true) ∧ Below w.heap.size w w' := by
  go_enter Try.func6, Try.ntmps6
  go_wp2_with fail
  refine (add_any a b _ ha ha' hb hb').mono ?_
  rintro e w' ⟨rfl, rfl⟩
  go_wp2_with fail
  refine (add_sw a b _ ha ha' hb hb').mono ?_
  rintro e w' ⟨rfl, rfl⟩
  go_wp2_with fail
  refine (mul_any a b _ ha ha' hb hb').mono ?_
  rintro e w' ⟨rfl, rfl⟩
  go_wp2_with fail
  refine (mul_sw a b _ ha ha' hb hb').mono ?_
  rintro e w' ⟨rfl, rfl⟩
  go_wp2_with fail
  refine (neg_any a _ ha ha').mono ?_
  rintro e w' ⟨rfl, rfl⟩
  go_wp2_with fail
  refine (sub_zero a _ ha ha').mono ?_
  rintro e w' ⟨rfl, rfl⟩
  go_wp2_with fail
  refine (known_any _).mono ?_
  rintro e w' ⟨rfl, hb⟩
  go_wp2
  go_ret
  exact ⟨rfl, hb⟩
end
end Go.Proofs.Ytkimoioljcpcoaa
