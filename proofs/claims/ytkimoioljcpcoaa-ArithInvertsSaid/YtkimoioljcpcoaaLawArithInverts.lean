/-
  THE WALK of ArithInverts.
-/
import Derived.Test.YtkimoioljcpcoaaArithKnown
namespace Go.Proofs.Ytkimoioljcpcoaa
open Go.RowKit

/-- A function of two numbers returns two values and leaves the memory alone. -/
def Gives (f : FuncId) (a b y : Int) (o : Bool) : Prop := ∀ w : World, Calls Try.prog f #[.int .i64 a, .int .i64 b] w fun e w' => e = .returned (.tuple #[.int .i64 y, .bool o]) ∧ w = w'
theorem Gives.of {f : FuncId} {a b y z : Int} {o p : Bool} (h : ∀ w : World, Calls Try.prog f #[.int .i64 a, .int .i64 b] w fun e w' => e = .returned (.tuple #[.int .i64 y, .bool o]) ∧ w = w') (hy : y = z) (ho : o = p) : Gives f a b z p := by
  subst hy ho; exact h

theorem Gives.at {f : FuncId} {a b y : Int} {o : Bool} (h : Gives f a b y o) (w : World) : Calls Try.prog f #[.int .i64 a, .int .i64 b] w fun e w' => e = .returned (.tuple #[.int .i64 y, .bool o]) ∧ w = w' := h w
/-- The test of the first three rows passes. -/
def Fine (ok fine : Bool) (d a : Int) : Prop := ok = false ∨ (ok = true ∧ fine = true ∧ d = a)

section
variable (a b s d q r p : Int) (ok fine : Bool) (w : World)

set_option maxHeartbeats 1000000 in
theorem ainv_zero (hadd : Gives 14 a 0 s ok) (hsub : Gives 15 s 0 d fine) (hf : Fine ok fine d a) :
    Calls Try.prog 5 #[.int .i64 a, .int .i64 0] w fun e w' => e = .returned (.bool true) ∧ Below w.heap.size w w' := by
  have HA := Lib.hid hadd
  have HS := Lib.hid hsub
  clear hadd hsub
  rcases hf with rfl | ⟨rfl, rfl, rfl⟩
  all_goals
    go_enter Try.func5, Try.ntmps5
    go_wp2_with (first | (go_at_call 14; refine (HA.out.at _).mono ?_; rintro e w' ⟨rfl, rfl⟩) | (go_at_call 15; refine (HS.out.at _).mono ?_; rintro e w' ⟨rfl, rfl⟩) | (go_at_call 16; refine (div_zero _ _).mono ?_; rintro e w' ⟨rfl, rfl⟩) | (go_at_call 17; refine (rem_zero _ _).mono ?_; rintro e w' ⟨rfl, rfl⟩) | (go_at_call 10; refine (known_any _).mono ?_; rintro e w' ⟨rfl, hb⟩))
    go_ret
    exact ⟨rfl, hb⟩

set_option maxHeartbeats 1000000 in
theorem ainv_least (hadd : Gives 14 (-9223372036854775808) (-1) s ok) (hsub : Gives 15 s (-1) d fine) (hf : Fine ok fine d (-9223372036854775808))
    (hdiv : Gives 16 (-9223372036854775808) (-1) 0 false) (hmod : Gives 17 (-9223372036854775808) (-1) 0 true) :
    Calls Try.prog 5 #[.int .i64 (-9223372036854775808), .int .i64 (-1)] w fun e w' => e = .returned (.bool true) ∧ Below w.heap.size w w' := by
  have HA := Lib.hid hadd
  have HS := Lib.hid hsub
  have HD := Lib.hid hdiv
  have HM := Lib.hid hmod
  clear hadd hsub hdiv hmod
  rcases hf with rfl | ⟨rfl, rfl, rfl⟩
  all_goals
    go_enter Try.func5, Try.ntmps5
    go_wp2_with (first | (go_at_call 14; refine (HA.out.at _).mono ?_; rintro e w' ⟨rfl, rfl⟩) | (go_at_call 15; refine (HS.out.at _).mono ?_; rintro e w' ⟨rfl, rfl⟩) | (go_at_call 16; refine (HD.out.at _).mono ?_; rintro e w' ⟨rfl, rfl⟩) | (go_at_call 17; refine (HM.out.at _).mono ?_; rintro e w' ⟨rfl, rfl⟩) | (go_at_call 10; refine (known_any _).mono ?_; rintro e w' ⟨rfl, hb⟩))
    go_ret
    exact ⟨rfl, hb⟩

set_option maxHeartbeats 4000000 in
theorem ainv_main (hb0 : -9223372036854775808 ≤ b) (hb1 : b ≤ 9223372036854775807) (hbz : b ≠ 0) (hadd : Gives 14 a b s ok) (hsub : Gives 15 s b d fine) (hf : Fine ok fine d a)
    (hdiv : Gives 16 a b q true) (hmod : Gives 17 a b r true) (hmul : Gives 18 q b p true) (hadd2 : Gives 14 p r a true)
    (hr : r = 0 ∨ (0 < r ∧ 0 ≤ a) ∨ (r < 0 ∧ a < 0)) (hs : b = -9223372036854775808 ∨ (-9223372036854775808 < b ∧ b < 0 ∧ b < r ∧ r < -b) ∨ (0 < b ∧ -b < r ∧ r < b)) :
    Calls Try.prog 5 #[.int .i64 a, .int .i64 b] w fun e w' => e = .returned (.bool true) ∧ Below w.heap.size w w' := by
  have HA := Lib.hid hadd
  have HS := Lib.hid hsub
  have HD := Lib.hid hdiv
  have HM := Lib.hid hmod
  have HP := Lib.hid hmul
  have HB := Lib.hid hadd2
  clear hadd hsub hdiv hmod hmul hadd2
  have t0 : (b == 0) = false := by simpa using hbz
  have hc : (r = 0 ∧ (r != 0) = false) ∨ (0 < r ∧ (r != 0) = true ∧ decide (r < 0) = false ∧ decide (a < 0) = false) ∨ (r < 0 ∧ (r != 0) = true ∧ decide (r < 0) = true ∧ decide (a < 0) = true) := by
    rcases hr with rfl | ⟨r1, r2⟩ | ⟨r1, r2⟩
    · exact .inl ⟨rfl, rfl⟩
    · exact .inr (.inl ⟨r1, bne_iff_ne.2 (by omega), decide_eq_false (by omega), decide_eq_false (by omega)⟩)
    · exact .inr (.inr ⟨r1, bne_iff_ne.2 (by omega), decide_eq_true r1, decide_eq_true r2⟩)
  clear hr
  rcases hf with rfl | ⟨rfl, rfl, rfl⟩
  all_goals rcases hc with ⟨rfl, f1⟩ | ⟨r0, f1, f2, f3⟩ | ⟨r0, f1, f2, f3⟩
  all_goals rcases hs with rfl | ⟨s1, s2, s3, s4⟩ | ⟨s2, s3, s4⟩
  all_goals clear hbz
  · skip
    go_enter Try.func5, Try.ntmps5
    go_wp2_with (first | (go_at_call 14; (with_reducible refine (HA.out.at _).mono ?_); rintro e w' ⟨rfl, rfl⟩) | (go_at_call 15; (with_reducible refine (HS.out.at _).mono ?_); rintro e w' ⟨rfl, rfl⟩) | (go_at_call 16; (with_reducible refine (HD.out.at _).mono ?_); rintro e w' ⟨rfl, rfl⟩) | (go_at_call 17; (with_reducible refine (HM.out.at _).mono ?_); rintro e w' ⟨rfl, rfl⟩) | (go_at_call 18; (with_reducible refine (HP.out.at _).mono ?_); rintro e w' ⟨rfl, rfl⟩) | (go_at_call 14; (with_reducible refine (HB.out.at _).mono ?_); rintro e w' ⟨rfl, rfl⟩) | (go_at_call 10; refine (known_any _).mono ?_; rintro e w' ⟨rfl, hb⟩))
    go_ret
    exact ⟨rfl, hb⟩
  · skip
    have g0 : (b == -9223372036854775808) = false := beq_eq_false_iff_ne.2 (by omega)
    have g1 : decide (b < 0) = true := decide_eq_true s2
    go_enter Try.func5, Try.ntmps5
    go_wp2_with (first | (go_at_call 14; (with_reducible refine (HA.out.at _).mono ?_); rintro e w' ⟨rfl, rfl⟩) | (go_at_call 15; (with_reducible refine (HS.out.at _).mono ?_); rintro e w' ⟨rfl, rfl⟩) | (go_at_call 16; (with_reducible refine (HD.out.at _).mono ?_); rintro e w' ⟨rfl, rfl⟩) | (go_at_call 17; (with_reducible refine (HM.out.at _).mono ?_); rintro e w' ⟨rfl, rfl⟩) | (go_at_call 18; (with_reducible refine (HP.out.at _).mono ?_); rintro e w' ⟨rfl, rfl⟩) | (go_at_call 14; (with_reducible refine (HB.out.at _).mono ?_); rintro e w' ⟨rfl, rfl⟩) | (go_at_call 10; refine (known_any _).mono ?_; rintro e w' ⟨rfl, hb⟩))
    go_ret
    exact ⟨rfl, hb⟩
  · skip
    have g0 : (b == -9223372036854775808) = false := beq_eq_false_iff_ne.2 (by omega)
    have g1 : decide (b < 0) = false := decide_eq_false (by omega)
    go_enter Try.func5, Try.ntmps5
    go_wp2_with (first | (go_at_call 14; (with_reducible refine (HA.out.at _).mono ?_); rintro e w' ⟨rfl, rfl⟩) | (go_at_call 15; (with_reducible refine (HS.out.at _).mono ?_); rintro e w' ⟨rfl, rfl⟩) | (go_at_call 16; (with_reducible refine (HD.out.at _).mono ?_); rintro e w' ⟨rfl, rfl⟩) | (go_at_call 17; (with_reducible refine (HM.out.at _).mono ?_); rintro e w' ⟨rfl, rfl⟩) | (go_at_call 18; (with_reducible refine (HP.out.at _).mono ?_); rintro e w' ⟨rfl, rfl⟩) | (go_at_call 14; (with_reducible refine (HB.out.at _).mono ?_); rintro e w' ⟨rfl, rfl⟩) | (go_at_call 10; refine (known_any _).mono ?_; rintro e w' ⟨rfl, hb⟩))
    go_ret
    exact ⟨rfl, hb⟩
  · skip
    go_enter Try.func5, Try.ntmps5
    go_wp2_with (first | (go_at_call 14; (with_reducible refine (HA.out.at _).mono ?_); rintro e w' ⟨rfl, rfl⟩) | (go_at_call 15; (with_reducible refine (HS.out.at _).mono ?_); rintro e w' ⟨rfl, rfl⟩) | (go_at_call 16; (with_reducible refine (HD.out.at _).mono ?_); rintro e w' ⟨rfl, rfl⟩) | (go_at_call 17; (with_reducible refine (HM.out.at _).mono ?_); rintro e w' ⟨rfl, rfl⟩) | (go_at_call 18; (with_reducible refine (HP.out.at _).mono ?_); rintro e w' ⟨rfl, rfl⟩) | (go_at_call 14; (with_reducible refine (HB.out.at _).mono ?_); rintro e w' ⟨rfl, rfl⟩) | (go_at_call 10; refine (known_any _).mono ?_; rintro e w' ⟨rfl, hb⟩))
    go_ret
    exact ⟨rfl, hb⟩
  · skip
    have g0 : (b == -9223372036854775808) = false := beq_eq_false_iff_ne.2 (by omega)
    have g1 : decide (b < 0) = true := decide_eq_true s2
    have g2 : decide (b < r) = true := decide_eq_true s3
    have g3 : decide (r < -b) = true := decide_eq_true s4
    go_enter Try.func5, Try.ntmps5
    go_wp2_with (first | (go_at_call 14; (with_reducible refine (HA.out.at _).mono ?_); rintro e w' ⟨rfl, rfl⟩) | (go_at_call 15; (with_reducible refine (HS.out.at _).mono ?_); rintro e w' ⟨rfl, rfl⟩) | (go_at_call 16; (with_reducible refine (HD.out.at _).mono ?_); rintro e w' ⟨rfl, rfl⟩) | (go_at_call 17; (with_reducible refine (HM.out.at _).mono ?_); rintro e w' ⟨rfl, rfl⟩) | (go_at_call 18; (with_reducible refine (HP.out.at _).mono ?_); rintro e w' ⟨rfl, rfl⟩) | (go_at_call 14; (with_reducible refine (HB.out.at _).mono ?_); rintro e w' ⟨rfl, rfl⟩) | (go_at_call 10; refine (known_any _).mono ?_; rintro e w' ⟨rfl, hb⟩))
    go_ret
    exact ⟨rfl, hb⟩
  · skip
    have g0 : (b == -9223372036854775808) = false := beq_eq_false_iff_ne.2 (by omega)
    have g1 : decide (b < 0) = false := decide_eq_false (by omega)
    have g2 : decide (-b < r) = true := decide_eq_true s3
    have g3 : decide (r < b) = true := decide_eq_true s4
    go_enter Try.func5, Try.ntmps5
    go_wp2_with (first | (go_at_call 14; (with_reducible refine (HA.out.at _).mono ?_); rintro e w' ⟨rfl, rfl⟩) | (go_at_call 15; (with_reducible refine (HS.out.at _).mono ?_); rintro e w' ⟨rfl, rfl⟩) | (go_at_call 16; (with_reducible refine (HD.out.at _).mono ?_); rintro e w' ⟨rfl, rfl⟩) | (go_at_call 17; (with_reducible refine (HM.out.at _).mono ?_); rintro e w' ⟨rfl, rfl⟩) | (go_at_call 18; (with_reducible refine (HP.out.at _).mono ?_); rintro e w' ⟨rfl, rfl⟩) | (go_at_call 14; (with_reducible refine (HB.out.at _).mono ?_); rintro e w' ⟨rfl, rfl⟩) | (go_at_call 10; refine (known_any _).mono ?_; rintro e w' ⟨rfl, hb⟩))
    go_ret
    exact ⟨rfl, hb⟩
  · skip
    go_enter Try.func5, Try.ntmps5
    go_wp2_with (first | (go_at_call 14; (with_reducible refine (HA.out.at _).mono ?_); rintro e w' ⟨rfl, rfl⟩) | (go_at_call 15; (with_reducible refine (HS.out.at _).mono ?_); rintro e w' ⟨rfl, rfl⟩) | (go_at_call 16; (with_reducible refine (HD.out.at _).mono ?_); rintro e w' ⟨rfl, rfl⟩) | (go_at_call 17; (with_reducible refine (HM.out.at _).mono ?_); rintro e w' ⟨rfl, rfl⟩) | (go_at_call 18; (with_reducible refine (HP.out.at _).mono ?_); rintro e w' ⟨rfl, rfl⟩) | (go_at_call 14; (with_reducible refine (HB.out.at _).mono ?_); rintro e w' ⟨rfl, rfl⟩) | (go_at_call 10; refine (known_any _).mono ?_; rintro e w' ⟨rfl, hb⟩))
    go_ret
    exact ⟨rfl, hb⟩
  · skip
    have g0 : (b == -9223372036854775808) = false := beq_eq_false_iff_ne.2 (by omega)
    have g1 : decide (b < 0) = true := decide_eq_true s2
    have g2 : decide (b < r) = true := decide_eq_true s3
    have g3 : decide (r < -b) = true := decide_eq_true s4
    go_enter Try.func5, Try.ntmps5
    go_wp2_with (first | (go_at_call 14; (with_reducible refine (HA.out.at _).mono ?_); rintro e w' ⟨rfl, rfl⟩) | (go_at_call 15; (with_reducible refine (HS.out.at _).mono ?_); rintro e w' ⟨rfl, rfl⟩) | (go_at_call 16; (with_reducible refine (HD.out.at _).mono ?_); rintro e w' ⟨rfl, rfl⟩) | (go_at_call 17; (with_reducible refine (HM.out.at _).mono ?_); rintro e w' ⟨rfl, rfl⟩) | (go_at_call 18; (with_reducible refine (HP.out.at _).mono ?_); rintro e w' ⟨rfl, rfl⟩) | (go_at_call 14; (with_reducible refine (HB.out.at _).mono ?_); rintro e w' ⟨rfl, rfl⟩) | (go_at_call 10; refine (known_any _).mono ?_; rintro e w' ⟨rfl, hb⟩))
    go_ret
    exact ⟨rfl, hb⟩
  · skip
    have g0 : (b == -9223372036854775808) = false := beq_eq_false_iff_ne.2 (by omega)
    have g1 : decide (b < 0) = false := decide_eq_false (by omega)
    have g2 : decide (-b < r) = true := decide_eq_true s3
    have g3 : decide (r < b) = true := decide_eq_true s4
    go_enter Try.func5, Try.ntmps5
    go_wp2_with (first | (go_at_call 14; (with_reducible refine (HA.out.at _).mono ?_); rintro e w' ⟨rfl, rfl⟩) | (go_at_call 15; (with_reducible refine (HS.out.at _).mono ?_); rintro e w' ⟨rfl, rfl⟩) | (go_at_call 16; (with_reducible refine (HD.out.at _).mono ?_); rintro e w' ⟨rfl, rfl⟩) | (go_at_call 17; (with_reducible refine (HM.out.at _).mono ?_); rintro e w' ⟨rfl, rfl⟩) | (go_at_call 18; (with_reducible refine (HP.out.at _).mono ?_); rintro e w' ⟨rfl, rfl⟩) | (go_at_call 14; (with_reducible refine (HB.out.at _).mono ?_); rintro e w' ⟨rfl, rfl⟩) | (go_at_call 10; refine (known_any _).mono ?_; rintro e w' ⟨rfl, hb⟩))
    go_ret
    exact ⟨rfl, hb⟩
  · skip
    go_enter Try.func5, Try.ntmps5
    go_wp2_with (first | (go_at_call 14; (with_reducible refine (HA.out.at _).mono ?_); rintro e w' ⟨rfl, rfl⟩) | (go_at_call 15; (with_reducible refine (HS.out.at _).mono ?_); rintro e w' ⟨rfl, rfl⟩) | (go_at_call 16; (with_reducible refine (HD.out.at _).mono ?_); rintro e w' ⟨rfl, rfl⟩) | (go_at_call 17; (with_reducible refine (HM.out.at _).mono ?_); rintro e w' ⟨rfl, rfl⟩) | (go_at_call 18; (with_reducible refine (HP.out.at _).mono ?_); rintro e w' ⟨rfl, rfl⟩) | (go_at_call 14; (with_reducible refine (HB.out.at _).mono ?_); rintro e w' ⟨rfl, rfl⟩) | (go_at_call 10; refine (known_any _).mono ?_; rintro e w' ⟨rfl, hb⟩))
    go_ret
    exact ⟨rfl, hb⟩
  · skip
    have g0 : (b == -9223372036854775808) = false := beq_eq_false_iff_ne.2 (by omega)
    have g1 : decide (b < 0) = true := decide_eq_true s2
    go_enter Try.func5, Try.ntmps5
    go_wp2_with (first | (go_at_call 14; (with_reducible refine (HA.out.at _).mono ?_); rintro e w' ⟨rfl, rfl⟩) | (go_at_call 15; (with_reducible refine (HS.out.at _).mono ?_); rintro e w' ⟨rfl, rfl⟩) | (go_at_call 16; (with_reducible refine (HD.out.at _).mono ?_); rintro e w' ⟨rfl, rfl⟩) | (go_at_call 17; (with_reducible refine (HM.out.at _).mono ?_); rintro e w' ⟨rfl, rfl⟩) | (go_at_call 18; (with_reducible refine (HP.out.at _).mono ?_); rintro e w' ⟨rfl, rfl⟩) | (go_at_call 14; (with_reducible refine (HB.out.at _).mono ?_); rintro e w' ⟨rfl, rfl⟩) | (go_at_call 10; refine (known_any _).mono ?_; rintro e w' ⟨rfl, hb⟩))
    go_ret
    exact ⟨rfl, hb⟩
  · skip
    have g0 : (b == -9223372036854775808) = false := beq_eq_false_iff_ne.2 (by omega)
    have g1 : decide (b < 0) = false := decide_eq_false (by omega)
    go_enter Try.func5, Try.ntmps5
    go_wp2_with (first | (go_at_call 14; (with_reducible refine (HA.out.at _).mono ?_); rintro e w' ⟨rfl, rfl⟩) | (go_at_call 15; (with_reducible refine (HS.out.at _).mono ?_); rintro e w' ⟨rfl, rfl⟩) | (go_at_call 16; (with_reducible refine (HD.out.at _).mono ?_); rintro e w' ⟨rfl, rfl⟩) | (go_at_call 17; (with_reducible refine (HM.out.at _).mono ?_); rintro e w' ⟨rfl, rfl⟩) | (go_at_call 18; (with_reducible refine (HP.out.at _).mono ?_); rintro e w' ⟨rfl, rfl⟩) | (go_at_call 14; (with_reducible refine (HB.out.at _).mono ?_); rintro e w' ⟨rfl, rfl⟩) | (go_at_call 10; refine (known_any _).mono ?_; rintro e w' ⟨rfl, hb⟩))
    go_ret
    exact ⟨rfl, hb⟩
  · skip
    go_enter Try.func5, Try.ntmps5
    go_wp2_with (first | (go_at_call 14; (with_reducible refine (HA.out.at _).mono ?_); rintro e w' ⟨rfl, rfl⟩) | (go_at_call 15; (with_reducible refine (HS.out.at _).mono ?_); rintro e w' ⟨rfl, rfl⟩) | (go_at_call 16; (with_reducible refine (HD.out.at _).mono ?_); rintro e w' ⟨rfl, rfl⟩) | (go_at_call 17; (with_reducible refine (HM.out.at _).mono ?_); rintro e w' ⟨rfl, rfl⟩) | (go_at_call 18; (with_reducible refine (HP.out.at _).mono ?_); rintro e w' ⟨rfl, rfl⟩) | (go_at_call 14; (with_reducible refine (HB.out.at _).mono ?_); rintro e w' ⟨rfl, rfl⟩) | (go_at_call 10; refine (known_any _).mono ?_; rintro e w' ⟨rfl, hb⟩))
    go_ret
    exact ⟨rfl, hb⟩
  · skip
    have g0 : (b == -9223372036854775808) = false := beq_eq_false_iff_ne.2 (by omega)
    have g1 : decide (b < 0) = true := decide_eq_true s2
    have g2 : decide (b < r) = true := decide_eq_true s3
    have g3 : decide (r < -b) = true := decide_eq_true s4
    go_enter Try.func5, Try.ntmps5
    go_wp2_with (first | (go_at_call 14; (with_reducible refine (HA.out.at _).mono ?_); rintro e w' ⟨rfl, rfl⟩) | (go_at_call 15; (with_reducible refine (HS.out.at _).mono ?_); rintro e w' ⟨rfl, rfl⟩) | (go_at_call 16; (with_reducible refine (HD.out.at _).mono ?_); rintro e w' ⟨rfl, rfl⟩) | (go_at_call 17; (with_reducible refine (HM.out.at _).mono ?_); rintro e w' ⟨rfl, rfl⟩) | (go_at_call 18; (with_reducible refine (HP.out.at _).mono ?_); rintro e w' ⟨rfl, rfl⟩) | (go_at_call 14; (with_reducible refine (HB.out.at _).mono ?_); rintro e w' ⟨rfl, rfl⟩) | (go_at_call 10; refine (known_any _).mono ?_; rintro e w' ⟨rfl, hb⟩))
    go_ret
    exact ⟨rfl, hb⟩
  · skip
    have g0 : (b == -9223372036854775808) = false := beq_eq_false_iff_ne.2 (by omega)
    have g1 : decide (b < 0) = false := decide_eq_false (by omega)
    have g2 : decide (-b < r) = true := decide_eq_true s3
    have g3 : decide (r < b) = true := decide_eq_true s4
    go_enter Try.func5, Try.ntmps5
    go_wp2_with (first | (go_at_call 14; (with_reducible refine (HA.out.at _).mono ?_); rintro e w' ⟨rfl, rfl⟩) | (go_at_call 15; (with_reducible refine (HS.out.at _).mono ?_); rintro e w' ⟨rfl, rfl⟩) | (go_at_call 16; (with_reducible refine (HD.out.at _).mono ?_); rintro e w' ⟨rfl, rfl⟩) | (go_at_call 17; (with_reducible refine (HM.out.at _).mono ?_); rintro e w' ⟨rfl, rfl⟩) | (go_at_call 18; (with_reducible refine (HP.out.at _).mono ?_); rintro e w' ⟨rfl, rfl⟩) | (go_at_call 14; (with_reducible refine (HB.out.at _).mono ?_); rintro e w' ⟨rfl, rfl⟩) | (go_at_call 10; refine (known_any _).mono ?_; rintro e w' ⟨rfl, hb⟩))
    go_ret
    exact ⟨rfl, hb⟩
  · skip
    go_enter Try.func5, Try.ntmps5
    go_wp2_with (first | (go_at_call 14; (with_reducible refine (HA.out.at _).mono ?_); rintro e w' ⟨rfl, rfl⟩) | (go_at_call 15; (with_reducible refine (HS.out.at _).mono ?_); rintro e w' ⟨rfl, rfl⟩) | (go_at_call 16; (with_reducible refine (HD.out.at _).mono ?_); rintro e w' ⟨rfl, rfl⟩) | (go_at_call 17; (with_reducible refine (HM.out.at _).mono ?_); rintro e w' ⟨rfl, rfl⟩) | (go_at_call 18; (with_reducible refine (HP.out.at _).mono ?_); rintro e w' ⟨rfl, rfl⟩) | (go_at_call 14; (with_reducible refine (HB.out.at _).mono ?_); rintro e w' ⟨rfl, rfl⟩) | (go_at_call 10; refine (known_any _).mono ?_; rintro e w' ⟨rfl, hb⟩))
    go_ret
    exact ⟨rfl, hb⟩
  · skip
    have g0 : (b == -9223372036854775808) = false := beq_eq_false_iff_ne.2 (by omega)
    have g1 : decide (b < 0) = true := decide_eq_true s2
    have g2 : decide (b < r) = true := decide_eq_true s3
    have g3 : decide (r < -b) = true := decide_eq_true s4
    go_enter Try.func5, Try.ntmps5
    go_wp2_with (first | (go_at_call 14; (with_reducible refine (HA.out.at _).mono ?_); rintro e w' ⟨rfl, rfl⟩) | (go_at_call 15; (with_reducible refine (HS.out.at _).mono ?_); rintro e w' ⟨rfl, rfl⟩) | (go_at_call 16; (with_reducible refine (HD.out.at _).mono ?_); rintro e w' ⟨rfl, rfl⟩) | (go_at_call 17; (with_reducible refine (HM.out.at _).mono ?_); rintro e w' ⟨rfl, rfl⟩) | (go_at_call 18; (with_reducible refine (HP.out.at _).mono ?_); rintro e w' ⟨rfl, rfl⟩) | (go_at_call 14; (with_reducible refine (HB.out.at _).mono ?_); rintro e w' ⟨rfl, rfl⟩) | (go_at_call 10; refine (known_any _).mono ?_; rintro e w' ⟨rfl, hb⟩))
    go_ret
    exact ⟨rfl, hb⟩
  · skip
    have g0 : (b == -9223372036854775808) = false := beq_eq_false_iff_ne.2 (by omega)
    have g1 : decide (b < 0) = false := decide_eq_false (by omega)
    have g2 : decide (-b < r) = true := decide_eq_true s3
    have g3 : decide (r < b) = true := decide_eq_true s4
    go_enter Try.func5, Try.ntmps5
    go_wp2_with (first | (go_at_call 14; (with_reducible refine (HA.out.at _).mono ?_); rintro e w' ⟨rfl, rfl⟩) | (go_at_call 15; (with_reducible refine (HS.out.at _).mono ?_); rintro e w' ⟨rfl, rfl⟩) | (go_at_call 16; (with_reducible refine (HD.out.at _).mono ?_); rintro e w' ⟨rfl, rfl⟩) | (go_at_call 17; (with_reducible refine (HM.out.at _).mono ?_); rintro e w' ⟨rfl, rfl⟩) | (go_at_call 18; (with_reducible refine (HP.out.at _).mono ?_); rintro e w' ⟨rfl, rfl⟩) | (go_at_call 14; (with_reducible refine (HB.out.at _).mono ?_); rintro e w' ⟨rfl, rfl⟩) | (go_at_call 10; refine (known_any _).mono ?_; rintro e w' ⟨rfl, hb⟩))
    go_ret
    exact ⟨rfl, hb⟩

theorem fine_ex (ha : -9223372036854775808 ≤ a) (ha' : a ≤ 9223372036854775807) (hb : -9223372036854775808 ≤ b) (hb' : b ≤ 9223372036854775807) :
    ∃ (s d : Int) (ok fine : Bool), Gives 14 a b s ok ∧ Gives 15 s b d fine ∧ Fine ok fine d a := by
  by_cases h : -9223372036854775808 ≤ a + b ∧ a + b ≤ 9223372036854775807
  · exact ⟨a + b, a, true, true, .of (fun w => add_any a b w ha ha' hb hb') (fitI_yes h.1 h.2) (fitB_yes h.1 h.2), .of (fun w => sub_any (a + b) b w h.1 h.2 hb hb') (by rw [fitI_yes (by omega) (by omega)]; omega) (fitB_yes (by omega) (by omega)), .inr ⟨rfl, rfl, rfl⟩⟩
  · exact ⟨0, _, false, _, .of (fun w => add_any a b w ha ha' hb hb') (fitI_no (by omega)) (fitB_no (by omega)), .of (fun w => sub_any 0 b w (by omega) (by omega) hb hb') rfl rfl, .inl rfl⟩

theorem tmod_facts (hb : b ≠ 0) : (a.tmod b = 0 ∨ (0 < a.tmod b ∧ 0 ≤ a) ∨ (a.tmod b < 0 ∧ a < 0)) ∧ (a.tmod b).natAbs < b.natAbs ∧ (a.tmod b).natAbs ≤ a.natAbs := by
  have h1 := Int.natAbs_tmod a b
  have h2 : a.natAbs % b.natAbs < b.natAbs := Nat.mod_lt _ (by omega)
  have h3 : a.natAbs % b.natAbs ≤ a.natAbs := Nat.mod_le _ _
  refine ⟨?_, by omega, by omega⟩
  by_cases ha : 0 ≤ a
  · have := Int.tmod_nonneg b ha
    omega
  · have := Int.tmod_nonneg b (a := -a) (by omega)
    rw [Int.neg_tmod] at this
    omega

theorem ainv_walk (ha : -9223372036854775808 ≤ a) (ha' : a ≤ 9223372036854775807) (hb : -9223372036854775808 ≤ b) (hb' : b ≤ 9223372036854775807) :
    Calls Try.prog 5 #[.int .i64 a, .int .i64 b] w fun e w' => e = .returned (.bool true) ∧ Below w.heap.size w w' := by
  obtain ⟨s, d, ok, fine, hadd, hsub, hf⟩ := fine_ex a b ha ha' hb hb'
  by_cases h0 : b = 0
  · subst h0; exact ainv_zero a s d ok fine w hadd hsub hf
  by_cases h1 : a = -9223372036854775808 ∧ b = -1
  · obtain ⟨rfl, rfl⟩ := h1
    exact ainv_least s d ok fine w hadd hsub hf (.of (fun w => div_any _ _ w (by omega) (by omega) (by omega) (by omega) (by omega)) (by kernel_rfl) (by kernel_rfl)) (.of (fun w => rem_any _ _ w (by omega)) (by kernel_rfl) rfl)
  obtain ⟨m1, m2, m3⟩ := tmod_facts a b h0
  have hq : -9223372036854775808 ≤ a.tdiv b ∧ a.tdiv b ≤ 9223372036854775807 := by
    by_cases h2 : b = -1
    · subst h2
      rw [Int.tdiv_neg, Int.tdiv_one]
      omega
    · exact tdiv_in64 a b ha ha' h2
  have hp : a.tdiv b * b = a - a.tmod b := by
    have := Int.tmod_add_mul_tdiv a b
    rw [Int.mul_comm] at this
    omega
  have hpr : -9223372036854775808 ≤ a - a.tmod b ∧ a - a.tmod b ≤ 9223372036854775807 := by omega
  refine ainv_main a b s d (a.tdiv b) (a.tmod b) (a - a.tmod b) ok fine w hb hb' h0 hadd hsub hf ?_ ?_ ?_ ?_ m1 ?_
  · exact .of (fun w => div_any a b w ha ha' hb hb' h0) (fitI_yes hq.1 hq.2) (fitB_yes hq.1 hq.2)
  · exact .of (fun w => rem_any a b w h0) rfl rfl
  · exact .of (fun w => mul_any _ b w hq.1 hq.2 hb hb') (by rw [hp]; exact fitI_yes hpr.1 hpr.2) (by rw [hp]; exact fitB_yes hpr.1 hpr.2)
  · exact .of (fun w => add_any _ _ w hpr.1 hpr.2 (by omega) (by omega)) (by rw [fitI_yes (by omega) (by omega)]; omega) (fitB_yes (by omega) (by omega))
  · omega
end
end Go.Proofs.Ytkimoioljcpcoaa
