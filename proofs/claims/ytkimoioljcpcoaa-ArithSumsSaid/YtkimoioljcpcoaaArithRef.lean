/-
  THE REFERENCE's NUMBERS OF 128 BITS: of, plus, minus, narrow, size.
-/
import Derived.Test.YtkimoioljcpcoaaWide
import Derived.Test.YtkimoioljcpcoaaShelf
import Derived.Below
import Derived.Laws.BitsAllLaws
namespace Go.Proofs.Ytkimoioljcpcoaa
open Go.RowKit

/-- A wide number: the halves of z. -/
def wrapH (z : Int) : Int := wrap64 (z / 18446744073709551616)

theorem wrapH_range (z : Int) : -9223372036854775808 ≤ wrapH z ∧ wrapH z ≤ 9223372036854775807 := wrap64_in64 _
theorem of_high {a : Int} (h1 : -9223372036854775808 ≤ a) (h2 : a ≤ 9223372036854775807) : a / 9223372036854775808 = wrapH a := by unfold wrapH wrap64; omega
theorem fit_low {x : Int} (h : -170141183460469231731687303715884105728 ≤ x) (k : x < 170141183460469231731687303715884105728) : (wrap64 (lowU x) / 9223372036854775808 == wrapH x) = fitB x := by
  rw [wrap64_low64]
  unfold fitB
  rw [Bool.eq_iff_iff, beq_iff_eq, decide_eq_true_iff]
  unfold wrapH wrap64
  omega
theorem plus_high (x y : Int) : wrap64 (wrap64 (wrapH x + wrapH y) + carU (lowU x) (lowU y)) = wrapH (x + y) := by unfold wrapH wrap64 carU lowU; omega

theorem onto {w w' w2 : World} (h : Below w.heap.size w w') (k : Below w'.heap.size w' w2) : Below w.heap.size w w2 := h.trans (k.mono h.size)
/-- What is known of a new block of two cells, behind a call that turns nothing old. -/
theorem box2 {u w' : World} {x y : Value} {t : TypeId} {n : Nat} (hn : u.heap.size = n) (hb : Below (u.alloc (.cells #[x, y] t)).heap.size (u.alloc (.cells #[x, y] t)) w') :
    w'.cell? ⟨n, 0, none⟩ = some x ∧ w'.cell? ⟨n, 1, none⟩ = some y ∧ w'.frozen? ⟨n, 0, none⟩ = false ∧ w'.frozen? ⟨n, 1, none⟩ = false ∧ n < w'.heap.size ∧ Below u.heap.size u w' := by
  subst hn
  have hz : (u.alloc (.cells #[x, y] t)).heap.size = u.heap.size + 1 := by simp
  have hl : u.heap.size < (u.alloc (.cells #[x, y] t)).heap.size := by rw [hz]; exact Nat.lt_succ_self _
  refine ⟨?_, ?_, ?_, ?_, Nat.lt_of_lt_of_le hl hb.size, ((Below.refl _ _).alloc (Nat.le_refl _) _).trans (hb.mono (by rw [hz]; exact Nat.le_succ _))⟩
  · rw [hb.cell (by exact hl)]; go_simp
  · rw [hb.cell (by exact hl)]; go_simp
  · rw [hb.frozen (by exact hl)]; go_simp
  · rw [hb.frozen (by exact hl)]; go_simp
theorem set2 {u : World} {n : Nat} {a b : Value} (h0 : u.cell? ⟨n, 0, none⟩ = some a) (h1 : u.cell? ⟨n, 1, none⟩ = some b) (x y : Value) :
    ((u.setCell ⟨n, 0, none⟩ x).setCell ⟨n, 1, none⟩ y).cell? ⟨n, 0, none⟩ = some x ∧ ((u.setCell ⟨n, 0, none⟩ x).setCell ⟨n, 1, none⟩ y).cell? ⟨n, 1, none⟩ = some y := by
  constructor <;> simp [go_sem, h0, h1]
section
variable (a : Int) (w : World)
set_option maxHeartbeats 400000 in
theorem of_any (h1 : -9223372036854775808 ≤ a) (h2 : a ≤ 9223372036854775807) :
    Calls Try.prog 30 #[.int .i64 a] w fun e w' => e = .returned (.agg #[.int .i64 (wrapH a), .int .u64 (lowU a)]) ∧ Below w.heap.size w w' := by
  rw [← of_high h1 h2, ← u64_wrap]
  go_enter Try.func30, Try.ntmps30
  go_wp2
  exact bodyPost_ret (v := .agg #[.int .i64 (a / 9223372036854775808), .int .u64 (IntKind.u64.wrap a)]) (by simp [results, Try.results30, go_sem]) rfl ⟨rfl, (Below.refl _ _).alloc (Nat.le_refl _) _⟩
set_option maxHeartbeats 400000 in
theorem plus_any (x y : Int) :
    Calls Try.prog 29 #[.agg #[.int .i64 (wrapH x), .int .u64 (lowU x)], .agg #[.int .i64 (wrapH y), .int .u64 (lowU y)]] w fun e w' => e = .returned (.agg #[.int .i64 (wrapH (x + y)), .int .u64 (lowU (x + y))]) ∧ Below w.heap.size w w' := by
  have hc := carU_range (lowU_range x) (lowU_range y)
  rw [← plus_high]
  go_enter Try.func29, Try.ntmps29
  go_wp2_with (simp only [add64_00])
  exact bodyPost_ret (v := .agg #[.int .i64 (wrap64 (wrap64 (wrapH x + wrapH y) + carU (lowU x) (lowU y))), .int .u64 (lowU (x + y))]) (by simp [results, Try.results29, go_sem]) rfl ⟨rfl, (((Below.refl _ _).alloc (Nat.le_refl _) _).alloc (by simp) _).alloc (by simp; omega) _⟩
theorem not_i64 (h : Int) (h1 : -9223372036854775808 ≤ h) (h2 : h ≤ 9223372036854775807) : bits .xor .i64 (-1) h = -1 - h := by
  show IntKind.i64.wrap ((BitVec.ofInt 64 (-1) ^^^ BitVec.ofInt 64 h).toNat : Int) = _
  have e1 : BitVec.ofInt 64 (-1) = BitVec.allOnes 64 := by decide
  rw [e1, BitVec.allOnes_xor, BitVec.toNat_not, BitVec.toNat_ofInt, IntKind.wrap_i64]
  omega
theorem not_u64 (h : Int) (h1 : 0 ≤ h) (h2 : h ≤ 18446744073709551615) : bits .xor .u64 IntKind.u64.max h = 18446744073709551615 - h := by
  show IntKind.u64.wrap ((BitVec.ofInt 64 IntKind.u64.max ^^^ BitVec.ofInt 64 h).toNat : Int) = _
  have e1 : BitVec.ofInt 64 IntKind.u64.max = BitVec.allOnes 64 := by decide
  rw [e1, BitVec.allOnes_xor, BitVec.toNat_not, BitVec.toNat_ofInt, IntKind.wrap_u64]
  omega
theorem plus_not (x : Int) :
    Calls Try.prog 29 #[.agg #[.int .i64 (bits .xor .i64 (-1) (wrapH x)), .int .u64 (bits .xor .u64 IntKind.u64.max (lowU x))], .agg #[.int .i64 0, .int .u64 1]] w fun e w' => e = .returned (.agg #[.int .i64 (wrapH (-x)), .int .u64 (lowU (-x))]) ∧ Below w.heap.size w w' := by
  have h1 := wrapH_range x
  have h2 := lowU_range x
  rw [not_i64 _ h1.1 h1.2, not_u64 _ h2.1 h2.2]
  have e1 : -1 - wrapH x = wrapH (-x - 1) := by unfold wrapH wrap64; omega
  have e2 : 18446744073709551615 - lowU x = lowU (-x - 1) := by unfold lowU; omega
  have h := plus_any w (-x - 1) 1
  rw [show -x - 1 + 1 = -x by omega, show wrapH 1 = 0 by decide +kernel, show lowU 1 = 1 by decide +kernel, ← e1, ← e2] at h
  exact h
set_option maxHeartbeats 400000 in
theorem minus_any (x : Int) :
    Calls Try.prog 32 #[.agg #[.int .i64 (wrapH x), .int .u64 (lowU x)]] w fun e w' => e = .returned (.agg #[.int .i64 (wrapH (-x)), .int .u64 (lowU (-x))]) ∧ Below w.heap.size w w' := by
  have s1 : IntKind.i64.signed = true := rfl
  have s2 : IntKind.u64.signed = false := rfl
  go_enter Try.func32, Try.ntmps32
  go_wp2_with fail
  refine (plus_not _ x).mono ?_
  rintro e w' ⟨rfl, hb⟩
  obtain ⟨c0, c1, f0, f1, hz, hb'⟩ := box2 (n := w.heap.size + 1) (by simp) hb
  have hb2 := ((Below.refl w.heap.size w).alloc (Nat.le_refl _) _).trans (hb'.mono (by simp))
  clear hb hb'
  go_wp2
  exact bodyPost_ret (v := .agg #[.int .i64 (wrapH (-x)), .int .u64 (lowU (-x))]) (by simp [results, Try.results32, go_sem, c0, c1]) rfl ⟨rfl, (hb2.setCell (by simp) _).setCell (by simp) _⟩
set_option maxHeartbeats 400000 in
theorem narrow_any (x : Int)  (h : -170141183460469231731687303715884105728 ≤ x) (k : x < 170141183460469231731687303715884105728) :
    Calls Try.prog 31 #[.agg #[.int .i64 (wrapH x), .int .u64 (lowU x)]] w fun e w' => e = .returned (.tuple #[.int .i64 (fitI x), .bool (fitB x)]) ∧ Below w.heap.size w w' := by
  have hf := fit_low h k
  clear h k
  cases hB : fitB x
  · have t1 : (wrap64 (lowU x) / 9223372036854775808 != wrapH x) = true := by rw [bne, hf, hB]; rfl
    have HB := Lib.hid hB
    clear hB hf
    go_enter Try.func31, Try.ntmps31
    go_wp2
    go_ret2
    refine ⟨?_, (Below.refl _ _).alloc (Nat.le_refl _) _⟩
    have := @two_no x (fitB_out HB.out)
    rw [HB.out] at this
    exact this
  · have t1 : (wrap64 (lowU x) / 9223372036854775808 != wrapH x) = false := by rw [bne, hf, hB]; rfl
    have HB := Lib.hid hB
    clear hB hf
    go_enter Try.func31, Try.ntmps31
    go_wp2
    go_ret2
    refine ⟨?_, (Below.refl _ _).alloc (Nat.le_refl _) _⟩
    have := @two_low x (wrap64_low64 x) HB.out
    rw [HB.out] at this
    exact this
theorem size_neg (h : a < 0) (h1 : -9223372036854775808 ≤ a) : IntKind.u64.wrap (-IntKind.u64.wrap a) = (a.natAbs : Int) := by rw [u64_wrap, u64_wrap]; unfold lowU; omega
theorem size_any (h1 : -9223372036854775808 ≤ a) (h2 : a ≤ 9223372036854775807) :
    Calls Try.prog 34 #[.int .i64 a] w fun e w' => e = .returned (.int .u64 (a.natAbs : Int)) ∧ w = w' := by
  by_cases h : a < 0
  · rw [← size_neg a h h1]
    go_enter Try.func34, Try.ntmps34
    go_wp2
    go_ret
    exact ⟨rfl, rfl⟩
  · have e : (a.natAbs : Int) = a := by omega
    rw [e]
    clear e
    go_enter Try.func34, Try.ntmps34
    go_wp2
    go_ret
    exact ⟨rfl, rfl⟩
end
end Go.Proofs.Ytkimoioljcpcoaa
