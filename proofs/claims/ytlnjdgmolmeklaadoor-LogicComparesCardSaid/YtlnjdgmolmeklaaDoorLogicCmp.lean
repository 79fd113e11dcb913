/-
  Equal, Less of the program, on all values.
-/
import Derived.Test.YtlnjdgmolmeklaaDoorLogicOps
namespace Go.Proofs.YtlnjdgmolmeklaaDoor
open Go.RowKit

/-- Can two values be compared? -/
def okC (k n : Int) (s : ByteArray) (k' n' : Int) (s' : ByteArray) : Bool := validB k n s && validB k' n' s' && (k == k' || k == 0 || k' == 0)
/-- The place of the answer of a comparison. -/
def cmpQ (k n : Int) (s : ByteArray) (k' n' : Int) (s' : ByteArray) (want : Int) : Int :=
  if okC k n s k' n' s' then (if k == 0 || k' == 0 then 1 else if cmpV k n s k' n' s' == want then 2 else 0) else 1

set_option maxRecDepth 100000 in
set_option maxHeartbeats 1000000 in
theorem cmp_bad1 (k n : Int) (s : ByteArray) (k' n' : Int) (s' : ByteArray) (want : Int) (w : World) (hs : s.size ≤ 9223372036854775807) (_ : s'.size ≤ 9223372036854775807) (hv : validB k n s = false) :
    Calls Tryd.prog 35 #[.agg #[.int .i64 k, .int .i64 n, .string s], .agg #[.int .i64 k', .int .i64 n', .string s'], .int .i64 want] w fun e w' => e = ans 1 false ∧ Below w.heap.size w w' := by
  have HV := Lib.hid hv
  clear hv
  go_enter Tryd.func35, Tryd.ntmps35
  go_wp2_with fail
  refine (valid_any _ _ _ _ hs).mono ?_
  rintro e wn ⟨rfl, hbn⟩
  rw [HV.out]
  obtain ⟨hA, hB, hR, hW⟩ := box_three _ _ _ _ _ _ _ _ _ _ _ _ _ hbn
  clear hbn
  obtain ⟨az, a0, a1, a2, -⟩ := id hA; obtain ⟨bz, b0, b1, b2, -⟩ := id hB; obtain ⟨rz, r0, r1, r2, rf⟩ := id hR
  go_wp2
  exact bodyPost_ret (v := .tuple #[.agg #[.int .i64 0, .int .i64 0, .string ⟨#[]⟩], .bool false]) (by simp [results, Tryd.results35, go_sem, r0, r1, r2]) rfl ⟨rfl, Below.three2 hW _ _ _⟩

set_option maxRecDepth 100000 in
set_option maxHeartbeats 1000000 in
theorem cmp_bad2 (k n : Int) (s : ByteArray) (k' n' : Int) (s' : ByteArray) (want : Int) (w : World) (hs : s.size ≤ 9223372036854775807) (hs' : s'.size ≤ 9223372036854775807) (hv : validB k n s = true) (hv' : validB k' n' s' = false) :
    Calls Tryd.prog 35 #[.agg #[.int .i64 k, .int .i64 n, .string s], .agg #[.int .i64 k', .int .i64 n', .string s'], .int .i64 want] w fun e w' => e = ans 1 false ∧ Below w.heap.size w w' := by
  have HV := Lib.hid hv
  clear hv
  have HV' := Lib.hid hv'
  clear hv'
  go_enter Tryd.func35, Tryd.ntmps35
  go_wp2_with fail
  refine (valid_any _ _ _ _ hs).mono ?_
  rintro e wn ⟨rfl, hbn⟩
  rw [HV.out]
  obtain ⟨hA, hB, hR, hW⟩ := box_three _ _ _ _ _ _ _ _ _ _ _ _ _ hbn
  clear hbn
  obtain ⟨az, a0, a1, a2, -⟩ := id hA; obtain ⟨bz, b0, b1, b2, -⟩ := id hB; obtain ⟨rz, r0, r1, r2, rf⟩ := id hR
  go_wp2_with fail
  refine (valid_any _ _ _ _ hs').mono ?_
  rintro e wn ⟨rfl, hbn⟩
  rw [HV'.out]
  clear az a0 a1 a2 bz b0 b1 b2 rz r0 r1 r2 rf
  replace hA := hA.low hbn
  replace hB := hB.low hbn
  replace hR := hR.low hbn
  replace hW := Below.next hW hbn
  clear hbn
  obtain ⟨az, a0, a1, a2, -⟩ := id hA; obtain ⟨bz, b0, b1, b2, -⟩ := id hB; obtain ⟨rz, r0, r1, r2, rf⟩ := id hR
  go_wp2
  exact bodyPost_ret (v := .tuple #[.agg #[.int .i64 0, .int .i64 0, .string ⟨#[]⟩], .bool false]) (by simp [results, Tryd.results35, go_sem, r0, r1, r2]) rfl ⟨rfl, Below.three2 hW _ _ _⟩

set_option maxRecDepth 100000 in
set_option maxHeartbeats 1000000 in
theorem cmp_null1 (k n : Int) (s : ByteArray) (k' n' : Int) (s' : ByteArray) (want : Int) (w : World) (hs : s.size ≤ 9223372036854775807) (hs' : s'.size ≤ 9223372036854775807) (hv : validB k n s = true) (hv' : validB k' n' s' = true) (h0 : (k == 0) = true) :
    Calls Tryd.prog 35 #[.agg #[.int .i64 k, .int .i64 n, .string s], .agg #[.int .i64 k', .int .i64 n', .string s'], .int .i64 want] w fun e w' => e = ans 1 true ∧ Below w.heap.size w w' := by
  have HV := Lib.hid hv
  clear hv
  have HV' := Lib.hid hv'
  clear hv'
  go_enter Tryd.func35, Tryd.ntmps35
  go_wp2_with fail
  refine (valid_any _ _ _ _ hs).mono ?_
  rintro e wn ⟨rfl, hbn⟩
  rw [HV.out]
  obtain ⟨hA, hB, hR, hW⟩ := box_three _ _ _ _ _ _ _ _ _ _ _ _ _ hbn
  clear hbn
  obtain ⟨az, a0, a1, a2, -⟩ := id hA; obtain ⟨bz, b0, b1, b2, -⟩ := id hB; obtain ⟨rz, r0, r1, r2, rf⟩ := id hR
  go_wp2_with fail
  refine (valid_any _ _ _ _ hs').mono ?_
  rintro e wn ⟨rfl, hbn⟩
  rw [HV'.out]
  clear az a0 a1 a2 bz b0 b1 b2 rz r0 r1 r2 rf
  replace hA := hA.low hbn
  replace hB := hB.low hbn
  replace hR := hR.low hbn
  replace hW := Below.next hW hbn
  clear hbn
  obtain ⟨az, a0, a1, a2, -⟩ := id hA; obtain ⟨bz, b0, b1, b2, -⟩ := id hB; obtain ⟨rz, r0, r1, r2, rf⟩ := id hR
  go_wp2
  exact bodyPost_ret (v := .tuple #[.agg #[.int .i64 0, .int .i64 0, .string ⟨#[]⟩], .bool true]) (by simp [results, Tryd.results35, go_sem, r0, r1, r2]) rfl ⟨rfl, Below.three2 hW _ _ _⟩

set_option maxRecDepth 100000 in
set_option maxHeartbeats 1000000 in
theorem cmp_null2 (k n : Int) (s : ByteArray) (k' n' : Int) (s' : ByteArray) (want : Int) (w : World) (hs : s.size ≤ 9223372036854775807) (hs' : s'.size ≤ 9223372036854775807) (hv : validB k n s = true) (hv' : validB k' n' s' = true) (h0 : (k == 0) = false) (h0' : (k' == 0) = true) :
    Calls Tryd.prog 35 #[.agg #[.int .i64 k, .int .i64 n, .string s], .agg #[.int .i64 k', .int .i64 n', .string s'], .int .i64 want] w fun e w' => e = ans 1 true ∧ Below w.heap.size w w' := by
  have HV := Lib.hid hv
  clear hv
  have HV' := Lib.hid hv'
  clear hv'
  go_enter Tryd.func35, Tryd.ntmps35
  go_wp2_with fail
  refine (valid_any _ _ _ _ hs).mono ?_
  rintro e wn ⟨rfl, hbn⟩
  rw [HV.out]
  obtain ⟨hA, hB, hR, hW⟩ := box_three _ _ _ _ _ _ _ _ _ _ _ _ _ hbn
  clear hbn
  obtain ⟨az, a0, a1, a2, -⟩ := id hA; obtain ⟨bz, b0, b1, b2, -⟩ := id hB; obtain ⟨rz, r0, r1, r2, rf⟩ := id hR
  go_wp2_with fail
  refine (valid_any _ _ _ _ hs').mono ?_
  rintro e wn ⟨rfl, hbn⟩
  rw [HV'.out]
  clear az a0 a1 a2 bz b0 b1 b2 rz r0 r1 r2 rf
  replace hA := hA.low hbn
  replace hB := hB.low hbn
  replace hR := hR.low hbn
  replace hW := Below.next hW hbn
  clear hbn
  obtain ⟨az, a0, a1, a2, -⟩ := id hA; obtain ⟨bz, b0, b1, b2, -⟩ := id hB; obtain ⟨rz, r0, r1, r2, rf⟩ := id hR
  go_wp2
  exact bodyPost_ret (v := .tuple #[.agg #[.int .i64 0, .int .i64 0, .string ⟨#[]⟩], .bool true]) (by simp [results, Tryd.results35, go_sem, r0, r1, r2]) rfl ⟨rfl, Below.three2 hW _ _ _⟩

set_option maxRecDepth 100000 in
set_option maxHeartbeats 1000000 in
theorem cmp_kinds (k n : Int) (s : ByteArray) (k' n' : Int) (s' : ByteArray) (want : Int) (w : World) (hs : s.size ≤ 9223372036854775807) (hs' : s'.size ≤ 9223372036854775807) (hv : validB k n s = true) (hv' : validB k' n' s' = true) (h0 : (k == 0) = false) (h0' : (k' == 0) = false) (hk : (k != k') = true) :
    Calls Tryd.prog 35 #[.agg #[.int .i64 k, .int .i64 n, .string s], .agg #[.int .i64 k', .int .i64 n', .string s'], .int .i64 want] w fun e w' => e = ans 1 false ∧ Below w.heap.size w w' := by
  have HV := Lib.hid hv
  clear hv
  have HV' := Lib.hid hv'
  clear hv'
  go_enter Tryd.func35, Tryd.ntmps35
  go_wp2_with fail
  refine (valid_any _ _ _ _ hs).mono ?_
  rintro e wn ⟨rfl, hbn⟩
  rw [HV.out]
  obtain ⟨hA, hB, hR, hW⟩ := box_three _ _ _ _ _ _ _ _ _ _ _ _ _ hbn
  clear hbn
  obtain ⟨az, a0, a1, a2, -⟩ := id hA; obtain ⟨bz, b0, b1, b2, -⟩ := id hB; obtain ⟨rz, r0, r1, r2, rf⟩ := id hR
  go_wp2_with fail
  refine (valid_any _ _ _ _ hs').mono ?_
  rintro e wn ⟨rfl, hbn⟩
  rw [HV'.out]
  clear az a0 a1 a2 bz b0 b1 b2 rz r0 r1 r2 rf
  replace hA := hA.low hbn
  replace hB := hB.low hbn
  replace hR := hR.low hbn
  replace hW := Below.next hW hbn
  clear hbn
  obtain ⟨az, a0, a1, a2, -⟩ := id hA; obtain ⟨bz, b0, b1, b2, -⟩ := id hB; obtain ⟨rz, r0, r1, r2, rf⟩ := id hR
  go_wp2
  exact bodyPost_ret (v := .tuple #[.agg #[.int .i64 0, .int .i64 0, .string ⟨#[]⟩], .bool false]) (by simp [results, Tryd.results35, go_sem, r0, r1, r2]) rfl ⟨rfl, Below.three2 hW _ _ _⟩

set_option maxRecDepth 100000 in
set_option maxHeartbeats 1000000 in
theorem cmp_same_false (k n : Int) (s : ByteArray) (k' n' : Int) (s' : ByteArray) (want : Int) (w : World) (hs : s.size ≤ 9223372036854775807) (hs' : s'.size ≤ 9223372036854775807) (hv : validB k n s = true) (hv' : validB k' n' s' = true) (h0 : (k == 0) = false) (h0' : (k' == 0) = false) (hk : (k != k') = false) (hc : (cmpV k n s k' n' s' == want) = false) :
    Calls Tryd.prog 35 #[.agg #[.int .i64 k, .int .i64 n, .string s], .agg #[.int .i64 k', .int .i64 n', .string s'], .int .i64 want] w fun e w' => e = ans 0 true ∧ Below w.heap.size w w' := by
  have HV := Lib.hid hv
  clear hv
  have HV' := Lib.hid hv'
  clear hv'
  have HC := Lib.hid hc
  clear hc
  go_enter Tryd.func35, Tryd.ntmps35
  go_wp2_with fail
  refine (valid_any _ _ _ _ hs).mono ?_
  rintro e wn ⟨rfl, hbn⟩
  rw [HV.out]
  obtain ⟨hA, hB, hR, hW⟩ := box_three _ _ _ _ _ _ _ _ _ _ _ _ _ hbn
  clear hbn
  obtain ⟨az, a0, a1, a2, -⟩ := id hA; obtain ⟨bz, b0, b1, b2, -⟩ := id hB; obtain ⟨rz, r0, r1, r2, rf⟩ := id hR
  go_wp2_with fail
  refine (valid_any _ _ _ _ hs').mono ?_
  rintro e wn ⟨rfl, hbn⟩
  rw [HV'.out]
  clear az a0 a1 a2 bz b0 b1 b2 rz r0 r1 r2 rf
  replace hA := hA.low hbn
  replace hB := hB.low hbn
  replace hR := hR.low hbn
  replace hW := Below.next hW hbn
  clear hbn
  obtain ⟨az, a0, a1, a2, -⟩ := id hA; obtain ⟨bz, b0, b1, b2, -⟩ := id hB; obtain ⟨rz, r0, r1, r2, rf⟩ := id hR
  go_wp2_with fail
  refine (compare_any _ _ _ _ _ _ _).mono ?_
  rintro e wn ⟨rfl, hbn⟩
  clear az a0 a1 a2 bz b0 b1 b2 rz r0 r1 r2 rf
  replace hA := hA.low hbn
  replace hB := hB.low hbn
  replace hR := hR.low hbn
  replace hW := Below.next hW hbn
  clear hbn
  obtain ⟨az, a0, a1, a2, -⟩ := id hA; obtain ⟨bz, b0, b1, b2, -⟩ := id hB; obtain ⟨rz, r0, r1, r2, rf⟩ := id hR
  go_wp2_with fail
  rw [HC.out]
  refine (truth_any false _).mono ?_
  rintro e wn ⟨rfl, hbn⟩
  clear az a0 a1 a2 bz b0 b1 b2 rz r0 r1 r2 rf
  replace hA := hA.low hbn
  replace hB := hB.low hbn
  replace hR := hR.low hbn
  replace hW := Below.next hW hbn
  clear hbn
  obtain ⟨az, a0, a1, a2, -⟩ := id hA; obtain ⟨bz, b0, b1, b2, -⟩ := id hB; obtain ⟨rz, r0, r1, r2, rf⟩ := id hR
  go_wp2
  exact bodyPost_ret (v := .tuple #[.agg #[.int .i64 2, .int .i64 0, .string ⟨#[]⟩], .bool true]) (by simp [results, Tryd.results35, go_sem, r0, r1, r2]) rfl ⟨rfl, Below.three2 hW _ _ _⟩

set_option maxRecDepth 100000 in
set_option maxHeartbeats 1000000 in
theorem cmp_same_true (k n : Int) (s : ByteArray) (k' n' : Int) (s' : ByteArray) (want : Int) (w : World) (hs : s.size ≤ 9223372036854775807) (hs' : s'.size ≤ 9223372036854775807) (hv : validB k n s = true) (hv' : validB k' n' s' = true) (h0 : (k == 0) = false) (h0' : (k' == 0) = false) (hk : (k != k') = false) (hc : (cmpV k n s k' n' s' == want) = true) :
    Calls Tryd.prog 35 #[.agg #[.int .i64 k, .int .i64 n, .string s], .agg #[.int .i64 k', .int .i64 n', .string s'], .int .i64 want] w fun e w' => e = ans 2 true ∧ Below w.heap.size w w' := by
  have HV := Lib.hid hv
  clear hv
  have HV' := Lib.hid hv'
  clear hv'
  have HC := Lib.hid hc
  clear hc
  go_enter Tryd.func35, Tryd.ntmps35
  go_wp2_with fail
  refine (valid_any _ _ _ _ hs).mono ?_
  rintro e wn ⟨rfl, hbn⟩
  rw [HV.out]
  obtain ⟨hA, hB, hR, hW⟩ := box_three _ _ _ _ _ _ _ _ _ _ _ _ _ hbn
  clear hbn
  obtain ⟨az, a0, a1, a2, -⟩ := id hA; obtain ⟨bz, b0, b1, b2, -⟩ := id hB; obtain ⟨rz, r0, r1, r2, rf⟩ := id hR
  go_wp2_with fail
  refine (valid_any _ _ _ _ hs').mono ?_
  rintro e wn ⟨rfl, hbn⟩
  rw [HV'.out]
  clear az a0 a1 a2 bz b0 b1 b2 rz r0 r1 r2 rf
  replace hA := hA.low hbn
  replace hB := hB.low hbn
  replace hR := hR.low hbn
  replace hW := Below.next hW hbn
  clear hbn
  obtain ⟨az, a0, a1, a2, -⟩ := id hA; obtain ⟨bz, b0, b1, b2, -⟩ := id hB; obtain ⟨rz, r0, r1, r2, rf⟩ := id hR
  go_wp2_with fail
  refine (compare_any _ _ _ _ _ _ _).mono ?_
  rintro e wn ⟨rfl, hbn⟩
  clear az a0 a1 a2 bz b0 b1 b2 rz r0 r1 r2 rf
  replace hA := hA.low hbn
  replace hB := hB.low hbn
  replace hR := hR.low hbn
  replace hW := Below.next hW hbn
  clear hbn
  obtain ⟨az, a0, a1, a2, -⟩ := id hA; obtain ⟨bz, b0, b1, b2, -⟩ := id hB; obtain ⟨rz, r0, r1, r2, rf⟩ := id hR
  go_wp2_with fail
  rw [HC.out]
  refine (truth_any true _).mono ?_
  rintro e wn ⟨rfl, hbn⟩
  clear az a0 a1 a2 bz b0 b1 b2 rz r0 r1 r2 rf
  replace hA := hA.low hbn
  replace hB := hB.low hbn
  replace hR := hR.low hbn
  replace hW := Below.next hW hbn
  clear hbn
  obtain ⟨az, a0, a1, a2, -⟩ := id hA; obtain ⟨bz, b0, b1, b2, -⟩ := id hB; obtain ⟨rz, r0, r1, r2, rf⟩ := id hR
  go_wp2
  exact bodyPost_ret (v := .tuple #[.agg #[.int .i64 2, .int .i64 1, .string ⟨#[]⟩], .bool true]) (by simp [results, Tryd.results35, go_sem, r0, r1, r2]) rfl ⟨rfl, Below.three2 hW _ _ _⟩

theorem compares_any (k n : Int) (s : ByteArray) (k' n' : Int) (s' : ByteArray) (want : Int) (w : World) (hs : s.size ≤ 9223372036854775807) (hs' : s'.size ≤ 9223372036854775807) :
    Calls Tryd.prog 35 #[.agg #[.int .i64 k, .int .i64 n, .string s], .agg #[.int .i64 k', .int .i64 n', .string s'], .int .i64 want] w fun e w' => e = ans (cmpQ k n s k' n' s' want) (okC k n s k' n' s') ∧ Below w.heap.size w w' := by
  unfold cmpQ
  cases hv : validB k n s
  · have ho : okC k n s k' n' s' = false := by unfold okC; rw [hv]; rfl
    rw [ho]; exact cmp_bad1 k n s k' n' s' want w hs hs' hv
  cases hv' : validB k' n' s'
  · have ho : okC k n s k' n' s' = false := by unfold okC; rw [hv, hv']; rfl
    rw [ho]; exact cmp_bad2 k n s k' n' s' want w hs hs' hv hv'
  have ho : okC k n s k' n' s' = (k == k' || k == 0 || k' == 0) := by unfold okC; rw [hv, hv']; rfl
  rw [ho]
  cases h0 : (k == 0)
  · cases h0' : (k' == 0)
    · cases hk : (k == k')
      · exact cmp_kinds k n s k' n' s' want w hs hs' hv hv' h0 h0' (by unfold bne; rw [hk]; rfl)
      · cases hc : (cmpV k n s k' n' s' == want)
        · exact cmp_same_false k n s k' n' s' want w hs hs' hv hv' h0 h0' (by unfold bne; rw [hk]; rfl) hc
        · exact cmp_same_true k n s k' n' s' want w hs hs' hv hv' h0 h0' (by unfold bne; rw [hk]; rfl) hc
    · rw [Bool.or_true]; exact cmp_null2 k n s k' n' s' want w hs hs' hv hv' h0 h0'
  · rw [Bool.or_true, Bool.true_or]; exact cmp_null1 k n s k' n' s' want w hs hs' hv hv' h0

set_option maxHeartbeats 400000 in
theorem equal_any (k n : Int) (s : ByteArray) (k' n' : Int) (s' : ByteArray) (w : World) (hs : s.size ≤ 9223372036854775807) (hs' : s'.size ≤ 9223372036854775807) :
    Calls Tryd.prog 20 #[.agg #[.int .i64 k, .int .i64 n, .string s], .agg #[.int .i64 k', .int .i64 n', .string s']] w fun e w' => e = ans (cmpQ k n s k' n' s' 0) (okC k n s k' n' s') ∧ Below w.heap.size w w' := by
  go_enter Tryd.func20, Tryd.ntmps20
  go_wp2_with fail
  refine (compares_any _ _ _ _ _ _ _ _ hs hs').mono ?_
  rintro e wn ⟨rfl, hbn⟩
  obtain ⟨-, -, ⟨rz, r0, r1, r2, rf⟩, hW⟩ := box_three _ _ _ _ _ _ _ _ _ _ _ _ _ hbn
  clear hbn
  go_wp2
  exact bodyPost_ret (v := .tuple #[.agg #[.int .i64 (tvK (cmpQ k n s k' n' s' 0)), .int .i64 (tvN (cmpQ k n s k' n' s' 0)), .string ⟨#[]⟩], .bool (okC k n s k' n' s')]) (by simp [results, Tryd.results20, go_sem, r0, r1, r2]) rfl ⟨rfl, Below.three2 hW _ _ _⟩

set_option maxHeartbeats 400000 in
theorem less_any (k n : Int) (s : ByteArray) (k' n' : Int) (s' : ByteArray) (w : World) (hs : s.size ≤ 9223372036854775807) (hs' : s'.size ≤ 9223372036854775807) :
    Calls Tryd.prog 21 #[.agg #[.int .i64 k, .int .i64 n, .string s], .agg #[.int .i64 k', .int .i64 n', .string s']] w fun e w' => e = ans (cmpQ k n s k' n' s' (-1)) (okC k n s k' n' s') ∧ Below w.heap.size w w' := by
  go_enter Tryd.func21, Tryd.ntmps21
  go_wp2_with fail
  refine (compares_any _ _ _ _ _ _ _ _ hs hs').mono ?_
  rintro e wn ⟨rfl, hbn⟩
  obtain ⟨-, -, ⟨rz, r0, r1, r2, rf⟩, hW⟩ := box_three _ _ _ _ _ _ _ _ _ _ _ _ _ hbn
  clear hbn
  go_wp2
  exact bodyPost_ret (v := .tuple #[.agg #[.int .i64 (tvK (cmpQ k n s k' n' s' (-1))), .int .i64 (tvN (cmpQ k n s k' n' s' (-1))), .string ⟨#[]⟩], .bool (okC k n s k' n' s')]) (by simp [results, Tryd.results21, go_sem, r0, r1, r2]) rfl ⟨rfl, Below.three2 hW _ _ _⟩
end Go.Proofs.YtlnjdgmolmeklaaDoor
