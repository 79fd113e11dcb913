/-
  NUMBERS OF 128 BITS IN TWO HALVES: plain mathematics; math/bits.Add64; arith.upperHalf.
-/
import Derived.Test.YtkimoioljcpcoaaArith
import Derived.Laws.Externs
namespace Go.Proofs.Ytkimoioljcpcoaa
open Go.RowKit

def lowU (z : Int) : Int := z % 18446744073709551616
def highU (z : Int) : Int := z / 18446744073709551616 % 18446744073709551616
theorem lowU_range (z : Int) : 0 ≤ lowU z ∧ lowU z ≤ 18446744073709551615 := by unfold lowU; omega
theorem highU_range (z : Int) : 0 ≤ highU z ∧ highU z ≤ 18446744073709551615 := by unfold highU; omega
def carU (x y : Int) : Int := (x + y) / 18446744073709551616
theorem carU_range {x y : Int} (hx : 0 ≤ x ∧ x ≤ 18446744073709551615) (hy : 0 ≤ y ∧ y ≤ 18446744073709551615) : 0 ≤ carU x y ∧ carU x y ≤ 1 := by unfold carU; omega
theorem lowU_add (z n : Int) : (lowU z + lowU n) % 18446744073709551616 = lowU (z + n) := by unfold lowU; omega
theorem highU_add (z n : Int) : (highU z + highU n + carU (lowU z) (lowU n)) % 18446744073709551616 = highU (z + n) := by unfold highU carU lowU; omega
theorem wrap64_low64 (z : Int) : wrap64 (lowU z) = wrap64 z := by unfold wrap64 lowU; omega
/-- The upper half tells whether the number is one of 64 bits. -/
theorem fit_high {z : Int} (h : -170141183460469231731687303715884105728 ≤ z) (k : z < 170141183460469231731687303715884105728) : (highU z == highU (wrap64 z)) = fitB z := by
  unfold fitB
  rw [Bool.eq_iff_iff, beq_iff_eq, decide_eq_true_iff]
  unfold highU wrap64
  omega
theorem fit_wrap {z : Int} (h : fitB z = true) : wrap64 z = z := IntWalk.wrap64_in z (fitB_iff.1 h)

theorem add64 (x y c : Int) (hx : 0 ≤ x ∧ x ≤ 18446744073709551615) (hy : 0 ≤ y ∧ y ≤ 18446744073709551615) (hc : 0 ≤ c ∧ c ≤ 1) (w : World) : (callFunc 27 #[.int .u64 x, .int .u64 y, .int .u64 c]).run Try.prog w =
    .ok (.value (.tuple #[.int .u64 ((x + y + c) % 18446744073709551616), .int .u64 ((x + y + c) / 18446744073709551616)])) w := by
  obtain ⟨x, rfl⟩ := Int.eq_ofNat_of_zero_le hx.1
  obtain ⟨y, rfl⟩ := Int.eq_ofNat_of_zero_le hy.1
  obtain ⟨c, rfl⟩ := Int.eq_ofNat_of_zero_le hc.1
  rw [run_callFunc_extern Try.func27 (by kernel_rfl) (by kernel_rfl) (by kernel_rfl) (e := add64Entry) (by kernel_rfl), run_add64 x y c (by omega) (by omega) (by omega) (by omega)]
  rfl
theorem add64_0 (x y : Int) (hx : 0 ≤ x ∧ x ≤ 18446744073709551615) (hy : 0 ≤ y ∧ y ≤ 18446744073709551615) (w : World) : (callFunc 27 #[.int .u64 x, .int .u64 y, .int .u64 0]).run Try.prog w =
    .ok (.value (.tuple #[.int .u64 ((x + y) % 18446744073709551616), .int .u64 (carU x y)])) w := by
  have := add64 x y 0 hx hy (by omega) w
  rw [Int.add_zero] at this
  exact this

theorem u64_wrap (n : Int) : IntKind.u64.wrap n = lowU n := by
  unfold lowU; simp [IntKind.wrap, IntKind.bits, IntKind.signed]
theorem add64_lo (z n : Int) (w : World) : (callFunc 27 #[.int .u64 (lowU z), .int .u64 (IntKind.u64.wrap n), .int .u64 0]).run Try.prog w =
    .ok (.value (.tuple #[.int .u64 (lowU (z + n)), .int .u64 (carU (lowU z) (lowU n))])) w := by
  rw [u64_wrap, add64_0 _ _ (lowU_range z) (lowU_range n), lowU_add]
theorem add64_00 (z n : Int) (w : World) : (callFunc 27 #[.int .u64 (lowU z), .int .u64 (lowU n), .int .u64 0]).run Try.prog w =
    .ok (.value (.tuple #[.int .u64 (lowU (z + n)), .int .u64 (carU (lowU z) (lowU n))])) w := by
  rw [add64_0 _ _ (lowU_range z) (lowU_range n), lowU_add]
theorem add64_hi (z n : Int) (w : World) : (callFunc 27 #[.int .u64 (highU z), .int .u64 (highU n), .int .u64 (carU (lowU z) (lowU n))]).run Try.prog w =
    .ok (.value (.tuple #[.int .u64 (highU (z + n)), .int .u64 ((highU z + highU n + carU (lowU z) (lowU n)) / 18446744073709551616)])) w := by
  rw [add64 _ _ _ (highU_range z) (highU_range n) (carU_range (lowU_range z) (lowU_range n)), highU_add]

theorem two_low {z : Int} (e : wrap64 (lowU z) = wrap64 z) (h : fitB z = true) : Ending.returned (.tuple #[.int .i64 (wrap64 (lowU z)), .bool true]) = .returned (.tuple #[.int .i64 (fitI z), .bool (fitB z)]) := by
  rw [e, h, fit_wrap h, fitI_yes (fitB_iff.1 h).1 (fitB_iff.1 h).2]
theorem upper_eq {n : Int} (h1 : -9223372036854775808 ≤ n) (h2 : n ≤ 9223372036854775807) : Ending.returned (.int .u64 (IntKind.u64.wrap (n / 9223372036854775808))) = .returned (.int .u64 (highU n)) := by
  have : IntKind.u64.wrap (n / 9223372036854775808) = highU n := by rw [u64_wrap]; unfold lowU highU; omega
  rw [this]
theorem upper_any (n : Int) (w : World) (h1 : -9223372036854775808 ≤ n) (h2 : n ≤ 9223372036854775807) :
    Calls Try.prog 28 #[.int .i64 n] w fun e w' => e = .returned (.int .u64 (highU n)) ∧ w = w' := by
  go_enter Try.func28, Try.ntmps28
  go_wp2
  go_ret
  exact ⟨upper_eq h1 h2, rfl⟩

/-- The sum of the first numbers. -/
def psum (f : Nat → Int) : Nat → Int
  | 0 => 0
  | k + 1 => psum f k + f k
theorem psum_bound {f : Nat → Int} {n : Nat} (h : ∀ i, i < n → -9223372036854775808 ≤ f i ∧ f i ≤ 9223372036854775807) : ∀ k, k ≤ n → -(9223372036854775808 * (k : Int)) ≤ psum f k ∧ psum f k ≤ 9223372036854775808 * (k : Int)
  | 0, _ => by simp [psum]
  | k + 1, hk => by
    have h1 := psum_bound h k (by omega)
    have h2 := h k (by omega)
    simp only [psum]
    omega
theorem psum_congr {f g : Nat → Int} : ∀ (n : Nat), (∀ i, i < n → f i = g i) → psum f n = psum g n
  | 0, _ => rfl
  | n + 1, h => by simp only [psum]; rw [psum_congr n (fun i hi => h i (by omega)), h n (by omega)]
theorem psum_head (f : Nat → Int) : ∀ n, psum f (n + 1) = f 0 + psum (fun i => f (i + 1)) n
  | 0 => by simp [psum]
  | n + 1 => by rw [psum, psum_head f n, psum]; omega
/-- The order of a list does not matter. -/
theorem psum_back (f : Nat → Int) : ∀ n, psum (fun i => f (n - 1 - i)) n = psum f n
  | 0 => rfl
  | n + 1 => by
    rw [psum_head]
    have : psum (fun i => f (n + 1 - 1 - (i + 1))) n = psum (fun i => f (n - 1 - i)) n := psum_congr n fun i hi => by congr 1; omega
    rw [this, psum_back f n, psum]
    simp only [Nat.add_sub_cancel, Nat.sub_zero]
    omega

/-- A slice of numbers of 64 bits. -/
def NumsAt (w : World) (p : Option Addr) (f : Nat → Int) (n : Nat) : Prop :=
  ∀ i, i < n → ∃ (c o : Nat), p = some ⟨c, o, none⟩ ∧ w.cell? ⟨c, o + i, none⟩ = some (.int .i64 (f i)) ∧ -9223372036854775808 ≤ f i ∧ f i ≤ 9223372036854775807

set_option maxHeartbeats 400000 in
theorem sum_any (p : Option Addr) (f : Nat → Int) (n cap : Nat) (w : World) (hn : n ≤ 17592186044416) (h : NumsAt w p f n) :
    Calls Try.prog 12 #[.slice p n cap] w fun e w' => e = .returned (.tuple #[.int .i64 (fitI (psum f n)), .bool (fitB (psum f n))]) ∧ w = w' := by
  go_enter Try.func12, Try.ntmps12
  go_wp2
  go_loop [4, 5, 12] (fun hi lo i => ∃ k : Nat, k ≤ n ∧ i = .int .i64 k ∧ hi = .int .u64 (highU (psum f k)) ∧ lo = .int .u64 (lowU (psum f k))) (fun _ _ i => n - (intOf i).toNat)
  case atStart => exact ⟨0, Nat.zero_le _, rfl, rfl, rfl⟩
  case round =>
    obtain ⟨k, hk, rfl, rfl, rfl⟩ := hrel
    by_cases hlt : k < n
    · obtain ⟨c, o, rfl, hcell, hf1, hf2⟩ := h k hlt
      have H := Lib.hid h
      clear h
      go_wp2_with (first | simp only [add64_lo] | (go_at_call 28; refine (upper_any _ _ hf1 hf2).mono ?_; rintro e w' ⟨rfl, rfl⟩) | simp only [add64_hi])
      go_round
      case rel => exact ⟨k + 1, by omega, by go_num, rfl, rfl⟩
      case measure => simp [intOf]; omega
    · obtain rfl : k = n := by omega
      have hb := psum_bound (fun i hi => (h i hi).elim fun _ ⟨_, _, _, h1, h2⟩ => ⟨h1, h2⟩) k (Nat.le_refl _)
      have hf := fit_high (z := psum f k) (by omega) (by omega)
      have hq := wrap64_in64 (lowU (psum f k))
      have HW := Lib.hid (wrap64_low64 (psum f k))
      rw [← HW.out] at hf
      have hk' : decide ((k : Int) < k) = false := decide_eq_false (by omega)
      clear h hb
      by_cases hB : fitB (psum f k) = true
      · have t1 : (highU (psum f k) != highU (wrap64 (lowU (psum f k)))) = false := by rw [bne, hf, hB]; rfl
        have HB := Lib.hid hB
        clear hB hf hk hlt
        go_wp2_with (go_at_call 28; refine (upper_any _ _ hq.1 hq.2).mono ?_; rintro e w' ⟨rfl, rfl⟩)
        go_ret2
        exact ⟨two_low HW.out HB.out, rfl⟩
      · have hB' : fitB (psum f k) = false := by simpa using hB
        have t1 : (highU (psum f k) != highU (wrap64 (lowU (psum f k)))) = true := by rw [bne, hf, hB']; rfl
        have HB := Lib.hid hB'
        clear hB hB' hf hk hlt
        go_wp2_with (go_at_call 28; refine (upper_any _ _ hq.1 hq.2).mono ?_; rintro e w' ⟨rfl, rfl⟩)
        go_ret2
        exact ⟨two_no (fitB_out HB.out), rfl⟩
end Go.Proofs.Ytkimoioljcpcoaa
