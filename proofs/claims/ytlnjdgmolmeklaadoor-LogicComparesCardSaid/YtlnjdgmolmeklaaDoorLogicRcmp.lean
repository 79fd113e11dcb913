/-
  Equal, Less of the reference, on all values.
-/
import Derived.Test.YtlnjdgmolmeklaaDoorLogicCmp
namespace Go.Proofs.YtlnjdgmolmeklaaDoor
open Go.RowKit

set_option maxRecDepth 100000 in
set_option maxHeartbeats 1000000 in
theorem rcom_bad1 (k n : Int) (s : ByteArray) (k' n' : Int) (s' : ByteArray) (w : World) (hs : s.size ≤ 9223372036854775807) (_ : s'.size ≤ 9223372036854775807) (hv : validB k n s = false) :
    Calls Tryd.prog 36 #[.agg #[.int .i64 k, .int .i64 n, .string s], .agg #[.int .i64 k', .int .i64 n', .string s']] w fun e w' => e = .returned (.bool false) ∧ Below w.heap.size w w' := by
  have HV := Lib.hid hv
  clear hv
  go_enter Tryd.func36, Tryd.ntmps36
  go_wp2_with fail
  refine (rvalid_any _ _ _ _ hs).mono ?_
  rintro e wn ⟨rfl, hbn⟩
  rw [HV.out]
  obtain ⟨hA, hB, hW⟩ := box_two _ _ _ _ _ _ _ _ _ hbn
  clear hbn
  obtain ⟨az, a0, a1, a2, -⟩ := id hA
  obtain ⟨bz, b0, b1, b2, -⟩ := id hB
  go_wp2
  go_ret
  exact ⟨rfl, hW⟩

set_option maxRecDepth 100000 in
set_option maxHeartbeats 1000000 in
theorem rcom_bad2 (k n : Int) (s : ByteArray) (k' n' : Int) (s' : ByteArray) (w : World) (hs : s.size ≤ 9223372036854775807) (hs' : s'.size ≤ 9223372036854775807) (hv : validB k n s = true) (hv' : validB k' n' s' = false) :
    Calls Tryd.prog 36 #[.agg #[.int .i64 k, .int .i64 n, .string s], .agg #[.int .i64 k', .int .i64 n', .string s']] w fun e w' => e = .returned (.bool false) ∧ Below w.heap.size w w' := by
  have HV := Lib.hid hv
  clear hv
  have HV' := Lib.hid hv'
  clear hv'
  go_enter Tryd.func36, Tryd.ntmps36
  go_wp2_with fail
  refine (rvalid_any _ _ _ _ hs).mono ?_
  rintro e wn ⟨rfl, hbn⟩
  rw [HV.out]
  obtain ⟨hA, hB, hW⟩ := box_two _ _ _ _ _ _ _ _ _ hbn
  clear hbn
  obtain ⟨az, a0, a1, a2, -⟩ := id hA
  obtain ⟨bz, b0, b1, b2, -⟩ := id hB
  go_wp2_with fail
  refine (rvalid_any _ _ _ _ hs').mono ?_
  rintro e wn ⟨rfl, hbn⟩
  rw [HV'.out]
  clear az a0 a1 a2 bz b0 b1 b2
  replace hA := hA.low hbn
  replace hB := hB.low hbn
  replace hW := Below.next hW hbn
  clear hbn
  obtain ⟨az, a0, a1, a2, -⟩ := id hA
  obtain ⟨bz, b0, b1, b2, -⟩ := id hB
  go_wp2
  go_ret
  exact ⟨rfl, hW⟩

set_option maxRecDepth 100000 in
set_option maxHeartbeats 1000000 in
theorem rcom_same (k n : Int) (s : ByteArray) (k' n' : Int) (s' : ByteArray) (w : World) (hs : s.size ≤ 9223372036854775807) (hs' : s'.size ≤ 9223372036854775807) (hv : validB k n s = true) (hv' : validB k' n' s' = true) (hk : (k == k') = true) :
    Calls Tryd.prog 36 #[.agg #[.int .i64 k, .int .i64 n, .string s], .agg #[.int .i64 k', .int .i64 n', .string s']] w fun e w' => e = .returned (.bool true) ∧ Below w.heap.size w w' := by
  have HV := Lib.hid hv
  clear hv
  have HV' := Lib.hid hv'
  clear hv'
  go_enter Tryd.func36, Tryd.ntmps36
  go_wp2_with fail
  refine (rvalid_any _ _ _ _ hs).mono ?_
  rintro e wn ⟨rfl, hbn⟩
  rw [HV.out]
  obtain ⟨hA, hB, hW⟩ := box_two _ _ _ _ _ _ _ _ _ hbn
  clear hbn
  obtain ⟨az, a0, a1, a2, -⟩ := id hA
  obtain ⟨bz, b0, b1, b2, -⟩ := id hB
  go_wp2_with fail
  refine (rvalid_any _ _ _ _ hs').mono ?_
  rintro e wn ⟨rfl, hbn⟩
  rw [HV'.out]
  clear az a0 a1 a2 bz b0 b1 b2
  replace hA := hA.low hbn
  replace hB := hB.low hbn
  replace hW := Below.next hW hbn
  clear hbn
  obtain ⟨az, a0, a1, a2, -⟩ := id hA
  obtain ⟨bz, b0, b1, b2, -⟩ := id hB
  go_wp2
  go_ret
  exact ⟨rfl, hW⟩

set_option maxRecDepth 100000 in
set_option maxHeartbeats 1000000 in
theorem rcom_null1 (k n : Int) (s : ByteArray) (k' n' : Int) (s' : ByteArray) (w : World) (hs : s.size ≤ 9223372036854775807) (hs' : s'.size ≤ 9223372036854775807) (hv : validB k n s = true) (hv' : validB k' n' s' = true) (hk : (k == k') = false) (h0 : (k == 0) = true) :
    Calls Tryd.prog 36 #[.agg #[.int .i64 k, .int .i64 n, .string s], .agg #[.int .i64 k', .int .i64 n', .string s']] w fun e w' => e = .returned (.bool true) ∧ Below w.heap.size w w' := by
  have HV := Lib.hid hv
  clear hv
  have HV' := Lib.hid hv'
  clear hv'
  go_enter Tryd.func36, Tryd.ntmps36
  go_wp2_with fail
  refine (rvalid_any _ _ _ _ hs).mono ?_
  rintro e wn ⟨rfl, hbn⟩
  rw [HV.out]
  obtain ⟨hA, hB, hW⟩ := box_two _ _ _ _ _ _ _ _ _ hbn
  clear hbn
  obtain ⟨az, a0, a1, a2, -⟩ := id hA
  obtain ⟨bz, b0, b1, b2, -⟩ := id hB
  go_wp2_with fail
  refine (rvalid_any _ _ _ _ hs').mono ?_
  rintro e wn ⟨rfl, hbn⟩
  rw [HV'.out]
  clear az a0 a1 a2 bz b0 b1 b2
  replace hA := hA.low hbn
  replace hB := hB.low hbn
  replace hW := Below.next hW hbn
  clear hbn
  obtain ⟨az, a0, a1, a2, -⟩ := id hA
  obtain ⟨bz, b0, b1, b2, -⟩ := id hB
  go_wp2
  go_ret
  exact ⟨rfl, hW⟩

set_option maxRecDepth 100000 in
set_option maxHeartbeats 1000000 in
theorem rcom_null2 (k n : Int) (s : ByteArray) (k' n' : Int) (s' : ByteArray) (w : World) (hs : s.size ≤ 9223372036854775807) (hs' : s'.size ≤ 9223372036854775807) (hv : validB k n s = true) (hv' : validB k' n' s' = true) (hk : (k == k') = false) (h0 : (k == 0) = false) (h0' : (k' == 0) = true) :
    Calls Tryd.prog 36 #[.agg #[.int .i64 k, .int .i64 n, .string s], .agg #[.int .i64 k', .int .i64 n', .string s']] w fun e w' => e = .returned (.bool true) ∧ Below w.heap.size w w' := by
  have HV := Lib.hid hv
  clear hv
  have HV' := Lib.hid hv'
  clear hv'
  go_enter Tryd.func36, Tryd.ntmps36
  go_wp2_with fail
  refine (rvalid_any _ _ _ _ hs).mono ?_
  rintro e wn ⟨rfl, hbn⟩
  rw [HV.out]
  obtain ⟨hA, hB, hW⟩ := box_two _ _ _ _ _ _ _ _ _ hbn
  clear hbn
  obtain ⟨az, a0, a1, a2, -⟩ := id hA
  obtain ⟨bz, b0, b1, b2, -⟩ := id hB
  go_wp2_with fail
  refine (rvalid_any _ _ _ _ hs').mono ?_
  rintro e wn ⟨rfl, hbn⟩
  rw [HV'.out]
  clear az a0 a1 a2 bz b0 b1 b2
  replace hA := hA.low hbn
  replace hB := hB.low hbn
  replace hW := Below.next hW hbn
  clear hbn
  obtain ⟨az, a0, a1, a2, -⟩ := id hA
  obtain ⟨bz, b0, b1, b2, -⟩ := id hB
  go_wp2
  go_ret
  exact ⟨rfl, hW⟩

set_option maxRecDepth 100000 in
set_option maxHeartbeats 1000000 in
theorem rcom_no (k n : Int) (s : ByteArray) (k' n' : Int) (s' : ByteArray) (w : World) (hs : s.size ≤ 9223372036854775807) (hs' : s'.size ≤ 9223372036854775807) (hv : validB k n s = true) (hv' : validB k' n' s' = true) (hk : (k == k') = false) (h0 : (k == 0) = false) (h0' : (k' == 0) = false) :
    Calls Tryd.prog 36 #[.agg #[.int .i64 k, .int .i64 n, .string s], .agg #[.int .i64 k', .int .i64 n', .string s']] w fun e w' => e = .returned (.bool false) ∧ Below w.heap.size w w' := by
  have HV := Lib.hid hv
  clear hv
  have HV' := Lib.hid hv'
  clear hv'
  go_enter Tryd.func36, Tryd.ntmps36
  go_wp2_with fail
  refine (rvalid_any _ _ _ _ hs).mono ?_
  rintro e wn ⟨rfl, hbn⟩
  rw [HV.out]
  obtain ⟨hA, hB, hW⟩ := box_two _ _ _ _ _ _ _ _ _ hbn
  clear hbn
  obtain ⟨az, a0, a1, a2, -⟩ := id hA
  obtain ⟨bz, b0, b1, b2, -⟩ := id hB
  go_wp2_with fail
  refine (rvalid_any _ _ _ _ hs').mono ?_
  rintro e wn ⟨rfl, hbn⟩
  rw [HV'.out]
  clear az a0 a1 a2 bz b0 b1 b2
  replace hA := hA.low hbn
  replace hB := hB.low hbn
  replace hW := Below.next hW hbn
  clear hbn
  obtain ⟨az, a0, a1, a2, -⟩ := id hA
  obtain ⟨bz, b0, b1, b2, -⟩ := id hB
  go_wp2
  go_ret
  exact ⟨rfl, hW⟩

theorem rcom_any (k n : Int) (s : ByteArray) (k' n' : Int) (s' : ByteArray) (w : World) (hs : s.size ≤ 9223372036854775807) (hs' : s'.size ≤ 9223372036854775807) :
    Calls Tryd.prog 36 #[.agg #[.int .i64 k, .int .i64 n, .string s], .agg #[.int .i64 k', .int .i64 n', .string s']] w fun e w' => e = .returned (.bool (okC k n s k' n' s')) ∧ Below w.heap.size w w' := by
  cases hv : validB k n s
  · have ho : okC k n s k' n' s' = false := by unfold okC; rw [hv]; rfl
    rw [ho]; exact rcom_bad1 k n s k' n' s' w hs hs' hv
  cases hv' : validB k' n' s'
  · have ho : okC k n s k' n' s' = false := by unfold okC; rw [hv, hv']; rfl
    rw [ho]; exact rcom_bad2 k n s k' n' s' w hs hs' hv hv'
  have ho : okC k n s k' n' s' = (k == k' || k == 0 || k' == 0) := by unfold okC; rw [hv, hv']; rfl
  rw [ho]
  cases hk : (k == k')
  · cases h0 : (k == 0)
    · cases h0' : (k' == 0)
      · exact rcom_no k n s k' n' s' w hs hs' hv hv' hk h0 h0'
      · exact rcom_null2 k n s k' n' s' w hs hs' hv hv' hk h0 h0'
    · exact rcom_null1 k n s k' n' s' w hs hs' hv hv' hk h0
  · exact rcom_same k n s k' n' s' w hs hs' hv hv' hk

set_option maxRecDepth 100000 in
set_option maxHeartbeats 1000000 in
theorem requal_bad (k n : Int) (s : ByteArray) (k' n' : Int) (s' : ByteArray) (w : World) (hs : s.size ≤ 9223372036854775807) (hs' : s'.size ≤ 9223372036854775807) (ho : okC k n s k' n' s' = false) :
    Calls Tryd.prog 26 #[.agg #[.int .i64 k, .int .i64 n, .string s], .agg #[.int .i64 k', .int .i64 n', .string s']] w fun e w' => e = ans 1 false ∧ Below w.heap.size w w' := by
  have HO := Lib.hid ho
  clear ho
  go_enter Tryd.func26, Tryd.ntmps26
  go_wp2_with fail
  refine (rcom_any _ _ _ _ _ _ _ hs hs').mono ?_
  rintro e wn ⟨rfl, hbn⟩
  rw [HO.out]
  obtain ⟨hA, hB, hR, hW⟩ := box_three _ _ _ _ _ _ _ _ _ _ _ _ _ hbn
  clear hbn
  obtain ⟨az, a0, a1, a2, -⟩ := id hA; obtain ⟨bz, b0, b1, b2, -⟩ := id hB; obtain ⟨rz, r0, r1, r2, rf⟩ := id hR
  go_wp2
  exact bodyPost_ret (v := .tuple #[.agg #[.int .i64 0, .int .i64 0, .string ⟨#[]⟩], .bool false]) (by simp [results, Tryd.results26, go_sem, r0, r1, r2]) rfl ⟨rfl, Below.three2 hW _ _ _⟩

set_option maxRecDepth 100000 in
set_option maxHeartbeats 1000000 in
theorem requal_null1 (k n : Int) (s : ByteArray) (k' n' : Int) (s' : ByteArray) (w : World) (hs : s.size ≤ 9223372036854775807) (hs' : s'.size ≤ 9223372036854775807) (ho : okC k n s k' n' s' = true) (h0 : (k == 0) = true) :
    Calls Tryd.prog 26 #[.agg #[.int .i64 k, .int .i64 n, .string s], .agg #[.int .i64 k', .int .i64 n', .string s']] w fun e w' => e = ans 1 true ∧ Below w.heap.size w w' := by
  have HO := Lib.hid ho
  clear ho
  go_enter Tryd.func26, Tryd.ntmps26
  go_wp2_with fail
  refine (rcom_any _ _ _ _ _ _ _ hs hs').mono ?_
  rintro e wn ⟨rfl, hbn⟩
  rw [HO.out]
  obtain ⟨hA, hB, hR, hW⟩ := box_three _ _ _ _ _ _ _ _ _ _ _ _ _ hbn
  clear hbn
  obtain ⟨az, a0, a1, a2, -⟩ := id hA; obtain ⟨bz, b0, b1, b2, -⟩ := id hB; obtain ⟨rz, r0, r1, r2, rf⟩ := id hR
  go_wp2
  exact bodyPost_ret (v := .tuple #[.agg #[.int .i64 0, .int .i64 0, .string ⟨#[]⟩], .bool true]) (by simp [results, Tryd.results26, go_sem, r0, r1, r2]) rfl ⟨rfl, Below.three2 hW _ _ _⟩

set_option maxRecDepth 100000 in
set_option maxHeartbeats 1000000 in
theorem requal_null2 (k n : Int) (s : ByteArray) (k' n' : Int) (s' : ByteArray) (w : World) (hs : s.size ≤ 9223372036854775807) (hs' : s'.size ≤ 9223372036854775807) (ho : okC k n s k' n' s' = true) (h0 : (k == 0) = false) (h0' : (k' == 0) = true) :
    Calls Tryd.prog 26 #[.agg #[.int .i64 k, .int .i64 n, .string s], .agg #[.int .i64 k', .int .i64 n', .string s']] w fun e w' => e = ans 1 true ∧ Below w.heap.size w w' := by
  have HO := Lib.hid ho
  clear ho
  go_enter Tryd.func26, Tryd.ntmps26
  go_wp2_with fail
  refine (rcom_any _ _ _ _ _ _ _ hs hs').mono ?_
  rintro e wn ⟨rfl, hbn⟩
  rw [HO.out]
  obtain ⟨hA, hB, hR, hW⟩ := box_three _ _ _ _ _ _ _ _ _ _ _ _ _ hbn
  clear hbn
  obtain ⟨az, a0, a1, a2, -⟩ := id hA; obtain ⟨bz, b0, b1, b2, -⟩ := id hB; obtain ⟨rz, r0, r1, r2, rf⟩ := id hR
  go_wp2
  exact bodyPost_ret (v := .tuple #[.agg #[.int .i64 0, .int .i64 0, .string ⟨#[]⟩], .bool true]) (by simp [results, Tryd.results26, go_sem, r0, r1, r2]) rfl ⟨rfl, Below.three2 hW _ _ _⟩

set_option maxRecDepth 100000 in
set_option maxHeartbeats 1000000 in
theorem requal_false (k n : Int) (s : ByteArray) (k' n' : Int) (s' : ByteArray) (w : World) (hs : s.size ≤ 9223372036854775807) (hs' : s'.size ≤ 9223372036854775807) (ho : okC k n s k' n' s' = true) (h0 : (k == 0) = false) (h0' : (k' == 0) = false) (hc : (cmpV k n s k' n' s' == 0) = false) :
    Calls Tryd.prog 26 #[.agg #[.int .i64 k, .int .i64 n, .string s], .agg #[.int .i64 k', .int .i64 n', .string s']] w fun e w' => e = ans 0 true ∧ Below w.heap.size w w' := by
  have HO := Lib.hid ho
  clear ho
  have HC := Lib.hid hc
  clear hc
  go_enter Tryd.func26, Tryd.ntmps26
  go_wp2_with fail
  refine (rcom_any _ _ _ _ _ _ _ hs hs').mono ?_
  rintro e wn ⟨rfl, hbn⟩
  rw [HO.out]
  obtain ⟨hA, hB, hR, hW⟩ := box_three _ _ _ _ _ _ _ _ _ _ _ _ _ hbn
  clear hbn
  obtain ⟨az, a0, a1, a2, -⟩ := id hA; obtain ⟨bz, b0, b1, b2, -⟩ := id hB; obtain ⟨rz, r0, r1, r2, rf⟩ := id hR
  go_wp2_with fail
  refine (rcompare_any _ _ _ _ _ _ _).mono ?_
  rintro e wn ⟨rfl, hbn⟩
  clear az a0 a1 a2 bz b0 b1 b2 rz r0 r1 r2 rf
  replace hA := hA.low hbn
  replace hB := hB.low hbn
  replace hR := hR.low hbn
  replace hW := Below.next hW hbn
  clear hbn
  obtain ⟨az, a0, a1, a2, -⟩ := id hA; obtain ⟨bz, b0, b1, b2, -⟩ := id hB; obtain ⟨rz, r0, r1, r2, rf⟩ := id hR
  go_wp2_with fail
  rw [HC.out]
  refine (rtruth_any false _).mono ?_
  rintro e wn ⟨rfl, hbn⟩
  clear az a0 a1 a2 bz b0 b1 b2 rz r0 r1 r2 rf
  replace hA := hA.low hbn
  replace hB := hB.low hbn
  replace hR := hR.low hbn
  replace hW := Below.next hW hbn
  clear hbn
  obtain ⟨az, a0, a1, a2, -⟩ := id hA; obtain ⟨bz, b0, b1, b2, -⟩ := id hB; obtain ⟨rz, r0, r1, r2, rf⟩ := id hR
  go_wp2
  exact bodyPost_ret (v := .tuple #[.agg #[.int .i64 2, .int .i64 0, .string ⟨#[]⟩], .bool true]) (by simp [results, Tryd.results26, go_sem, r0, r1, r2]) rfl ⟨rfl, Below.three2 hW _ _ _⟩

set_option maxRecDepth 100000 in
set_option maxHeartbeats 1000000 in
theorem requal_true (k n : Int) (s : ByteArray) (k' n' : Int) (s' : ByteArray) (w : World) (hs : s.size ≤ 9223372036854775807) (hs' : s'.size ≤ 9223372036854775807) (ho : okC k n s k' n' s' = true) (h0 : (k == 0) = false) (h0' : (k' == 0) = false) (hc : (cmpV k n s k' n' s' == 0) = true) :
    Calls Tryd.prog 26 #[.agg #[.int .i64 k, .int .i64 n, .string s], .agg #[.int .i64 k', .int .i64 n', .string s']] w fun e w' => e = ans 2 true ∧ Below w.heap.size w w' := by
  have HO := Lib.hid ho
  clear ho
  have HC := Lib.hid hc
  clear hc
  go_enter Tryd.func26, Tryd.ntmps26
  go_wp2_with fail
  refine (rcom_any _ _ _ _ _ _ _ hs hs').mono ?_
  rintro e wn ⟨rfl, hbn⟩
  rw [HO.out]
  obtain ⟨hA, hB, hR, hW⟩ := box_three _ _ _ _ _ _ _ _ _ _ _ _ _ hbn
  clear hbn
  obtain ⟨az, a0, a1, a2, -⟩ := id hA; obtain ⟨bz, b0, b1, b2, -⟩ := id hB; obtain ⟨rz, r0, r1, r2, rf⟩ := id hR
  go_wp2_with fail
  refine (rcompare_any _ _ _ _ _ _ _).mono ?_
  rintro e wn ⟨rfl, hbn⟩
  clear az a0 a1 a2 bz b0 b1 b2 rz r0 r1 r2 rf
  replace hA := hA.low hbn
  replace hB := hB.low hbn
  replace hR := hR.low hbn
  replace hW := Below.next hW hbn
  clear hbn
  obtain ⟨az, a0, a1, a2, -⟩ := id hA; obtain ⟨bz, b0, b1, b2, -⟩ := id hB; obtain ⟨rz, r0, r1, r2, rf⟩ := id hR
  go_wp2_with fail
  rw [HC.out]
  refine (rtruth_any true _).mono ?_
  rintro e wn ⟨rfl, hbn⟩
  clear az a0 a1 a2 bz b0 b1 b2 rz r0 r1 r2 rf
  replace hA := hA.low hbn
  replace hB := hB.low hbn
  replace hR := hR.low hbn
  replace hW := Below.next hW hbn
  clear hbn
  obtain ⟨az, a0, a1, a2, -⟩ := id hA; obtain ⟨bz, b0, b1, b2, -⟩ := id hB; obtain ⟨rz, r0, r1, r2, rf⟩ := id hR
  go_wp2
  exact bodyPost_ret (v := .tuple #[.agg #[.int .i64 2, .int .i64 1, .string ⟨#[]⟩], .bool true]) (by simp [results, Tryd.results26, go_sem, r0, r1, r2]) rfl ⟨rfl, Below.three2 hW _ _ _⟩

theorem requal_any (k n : Int) (s : ByteArray) (k' n' : Int) (s' : ByteArray) (w : World) (hs : s.size ≤ 9223372036854775807) (hs' : s'.size ≤ 9223372036854775807) :
    Calls Tryd.prog 26 #[.agg #[.int .i64 k, .int .i64 n, .string s], .agg #[.int .i64 k', .int .i64 n', .string s']] w fun e w' => e = ans (cmpQ k n s k' n' s' (0)) (okC k n s k' n' s') ∧ Below w.heap.size w w' := by
  unfold cmpQ
  have hbd := (cmpV_bd k n s k' n' s').1
  cases ho : okC k n s k' n' s'
  · exact requal_bad k n s k' n' s' w hs hs' ho
  cases h0 : (k == 0)
  · cases h0' : (k' == 0)
    · cases hc : (cmpV k n s k' n' s' == (0))
      · exact requal_false k n s k' n' s' w hs hs' ho h0 h0' hc
      · exact requal_true k n s k' n' s' w hs hs' ho h0 h0' hc
    · exact requal_null2 k n s k' n' s' w hs hs' ho h0 h0'
  · exact requal_null1 k n s k' n' s' w hs hs' ho h0

set_option maxRecDepth 100000 in
set_option maxHeartbeats 1000000 in
theorem rless_bad (k n : Int) (s : ByteArray) (k' n' : Int) (s' : ByteArray) (w : World) (hs : s.size ≤ 9223372036854775807) (hs' : s'.size ≤ 9223372036854775807) (ho : okC k n s k' n' s' = false) :
    Calls Tryd.prog 27 #[.agg #[.int .i64 k, .int .i64 n, .string s], .agg #[.int .i64 k', .int .i64 n', .string s']] w fun e w' => e = ans 1 false ∧ Below w.heap.size w w' := by
  have HO := Lib.hid ho
  clear ho
  go_enter Tryd.func27, Tryd.ntmps27
  go_wp2_with fail
  refine (rcom_any _ _ _ _ _ _ _ hs hs').mono ?_
  rintro e wn ⟨rfl, hbn⟩
  rw [HO.out]
  obtain ⟨hA, hB, hR, hW⟩ := box_three _ _ _ _ _ _ _ _ _ _ _ _ _ hbn
  clear hbn
  obtain ⟨az, a0, a1, a2, -⟩ := id hA; obtain ⟨bz, b0, b1, b2, -⟩ := id hB; obtain ⟨rz, r0, r1, r2, rf⟩ := id hR
  go_wp2
  exact bodyPost_ret (v := .tuple #[.agg #[.int .i64 0, .int .i64 0, .string ⟨#[]⟩], .bool false]) (by simp [results, Tryd.results27, go_sem, r0, r1, r2]) rfl ⟨rfl, Below.three2 hW _ _ _⟩

set_option maxRecDepth 100000 in
set_option maxHeartbeats 1000000 in
theorem rless_null1 (k n : Int) (s : ByteArray) (k' n' : Int) (s' : ByteArray) (w : World) (hs : s.size ≤ 9223372036854775807) (hs' : s'.size ≤ 9223372036854775807) (ho : okC k n s k' n' s' = true) (h0 : (k == 0) = true) :
    Calls Tryd.prog 27 #[.agg #[.int .i64 k, .int .i64 n, .string s], .agg #[.int .i64 k', .int .i64 n', .string s']] w fun e w' => e = ans 1 true ∧ Below w.heap.size w w' := by
  have HO := Lib.hid ho
  clear ho
  go_enter Tryd.func27, Tryd.ntmps27
  go_wp2_with fail
  refine (rcom_any _ _ _ _ _ _ _ hs hs').mono ?_
  rintro e wn ⟨rfl, hbn⟩
  rw [HO.out]
  obtain ⟨hA, hB, hR, hW⟩ := box_three _ _ _ _ _ _ _ _ _ _ _ _ _ hbn
  clear hbn
  obtain ⟨az, a0, a1, a2, -⟩ := id hA; obtain ⟨bz, b0, b1, b2, -⟩ := id hB; obtain ⟨rz, r0, r1, r2, rf⟩ := id hR
  go_wp2
  exact bodyPost_ret (v := .tuple #[.agg #[.int .i64 0, .int .i64 0, .string ⟨#[]⟩], .bool true]) (by simp [results, Tryd.results27, go_sem, r0, r1, r2]) rfl ⟨rfl, Below.three2 hW _ _ _⟩

set_option maxRecDepth 100000 in
set_option maxHeartbeats 1000000 in
theorem rless_null2 (k n : Int) (s : ByteArray) (k' n' : Int) (s' : ByteArray) (w : World) (hs : s.size ≤ 9223372036854775807) (hs' : s'.size ≤ 9223372036854775807) (ho : okC k n s k' n' s' = true) (h0 : (k == 0) = false) (h0' : (k' == 0) = true) :
    Calls Tryd.prog 27 #[.agg #[.int .i64 k, .int .i64 n, .string s], .agg #[.int .i64 k', .int .i64 n', .string s']] w fun e w' => e = ans 1 true ∧ Below w.heap.size w w' := by
  have HO := Lib.hid ho
  clear ho
  go_enter Tryd.func27, Tryd.ntmps27
  go_wp2_with fail
  refine (rcom_any _ _ _ _ _ _ _ hs hs').mono ?_
  rintro e wn ⟨rfl, hbn⟩
  rw [HO.out]
  obtain ⟨hA, hB, hR, hW⟩ := box_three _ _ _ _ _ _ _ _ _ _ _ _ _ hbn
  clear hbn
  obtain ⟨az, a0, a1, a2, -⟩ := id hA; obtain ⟨bz, b0, b1, b2, -⟩ := id hB; obtain ⟨rz, r0, r1, r2, rf⟩ := id hR
  go_wp2
  exact bodyPost_ret (v := .tuple #[.agg #[.int .i64 0, .int .i64 0, .string ⟨#[]⟩], .bool true]) (by simp [results, Tryd.results27, go_sem, r0, r1, r2]) rfl ⟨rfl, Below.three2 hW _ _ _⟩

set_option maxRecDepth 100000 in
set_option maxHeartbeats 1000000 in
theorem rless_false (k n : Int) (s : ByteArray) (k' n' : Int) (s' : ByteArray) (w : World) (hs : s.size ≤ 9223372036854775807) (hs' : s'.size ≤ 9223372036854775807) (ho : okC k n s k' n' s' = true) (h0 : (k == 0) = false) (h0' : (k' == 0) = false) (hc : decide (cmpV k n s k' n' s' < 0) = false) :
    Calls Tryd.prog 27 #[.agg #[.int .i64 k, .int .i64 n, .string s], .agg #[.int .i64 k', .int .i64 n', .string s']] w fun e w' => e = ans 0 true ∧ Below w.heap.size w w' := by
  have HO := Lib.hid ho
  clear ho
  have HC := Lib.hid hc
  clear hc
  go_enter Tryd.func27, Tryd.ntmps27
  go_wp2_with fail
  refine (rcom_any _ _ _ _ _ _ _ hs hs').mono ?_
  rintro e wn ⟨rfl, hbn⟩
  rw [HO.out]
  obtain ⟨hA, hB, hR, hW⟩ := box_three _ _ _ _ _ _ _ _ _ _ _ _ _ hbn
  clear hbn
  obtain ⟨az, a0, a1, a2, -⟩ := id hA; obtain ⟨bz, b0, b1, b2, -⟩ := id hB; obtain ⟨rz, r0, r1, r2, rf⟩ := id hR
  go_wp2_with fail
  refine (rcompare_any _ _ _ _ _ _ _).mono ?_
  rintro e wn ⟨rfl, hbn⟩
  clear az a0 a1 a2 bz b0 b1 b2 rz r0 r1 r2 rf
  replace hA := hA.low hbn
  replace hB := hB.low hbn
  replace hR := hR.low hbn
  replace hW := Below.next hW hbn
  clear hbn
  obtain ⟨az, a0, a1, a2, -⟩ := id hA; obtain ⟨bz, b0, b1, b2, -⟩ := id hB; obtain ⟨rz, r0, r1, r2, rf⟩ := id hR
  go_wp2_with fail
  rw [HC.out]
  refine (rtruth_any false _).mono ?_
  rintro e wn ⟨rfl, hbn⟩
  clear az a0 a1 a2 bz b0 b1 b2 rz r0 r1 r2 rf
  replace hA := hA.low hbn
  replace hB := hB.low hbn
  replace hR := hR.low hbn
  replace hW := Below.next hW hbn
  clear hbn
  obtain ⟨az, a0, a1, a2, -⟩ := id hA; obtain ⟨bz, b0, b1, b2, -⟩ := id hB; obtain ⟨rz, r0, r1, r2, rf⟩ := id hR
  go_wp2
  exact bodyPost_ret (v := .tuple #[.agg #[.int .i64 2, .int .i64 0, .string ⟨#[]⟩], .bool true]) (by simp [results, Tryd.results27, go_sem, r0, r1, r2]) rfl ⟨rfl, Below.three2 hW _ _ _⟩

set_option maxRecDepth 100000 in
set_option maxHeartbeats 1000000 in
theorem rless_true (k n : Int) (s : ByteArray) (k' n' : Int) (s' : ByteArray) (w : World) (hs : s.size ≤ 9223372036854775807) (hs' : s'.size ≤ 9223372036854775807) (ho : okC k n s k' n' s' = true) (h0 : (k == 0) = false) (h0' : (k' == 0) = false) (hc : decide (cmpV k n s k' n' s' < 0) = true) :
    Calls Tryd.prog 27 #[.agg #[.int .i64 k, .int .i64 n, .string s], .agg #[.int .i64 k', .int .i64 n', .string s']] w fun e w' => e = ans 2 true ∧ Below w.heap.size w w' := by
  have HO := Lib.hid ho
  clear ho
  have HC := Lib.hid hc
  clear hc
  go_enter Tryd.func27, Tryd.ntmps27
  go_wp2_with fail
  refine (rcom_any _ _ _ _ _ _ _ hs hs').mono ?_
  rintro e wn ⟨rfl, hbn⟩
  rw [HO.out]
  obtain ⟨hA, hB, hR, hW⟩ := box_three _ _ _ _ _ _ _ _ _ _ _ _ _ hbn
  clear hbn
  obtain ⟨az, a0, a1, a2, -⟩ := id hA; obtain ⟨bz, b0, b1, b2, -⟩ := id hB; obtain ⟨rz, r0, r1, r2, rf⟩ := id hR
  go_wp2_with fail
  refine (rcompare_any _ _ _ _ _ _ _).mono ?_
  rintro e wn ⟨rfl, hbn⟩
  clear az a0 a1 a2 bz b0 b1 b2 rz r0 r1 r2 rf
  replace hA := hA.low hbn
  replace hB := hB.low hbn
  replace hR := hR.low hbn
  replace hW := Below.next hW hbn
  clear hbn
  obtain ⟨az, a0, a1, a2, -⟩ := id hA; obtain ⟨bz, b0, b1, b2, -⟩ := id hB; obtain ⟨rz, r0, r1, r2, rf⟩ := id hR
  go_wp2_with fail
  rw [HC.out]
  refine (rtruth_any true _).mono ?_
  rintro e wn ⟨rfl, hbn⟩
  clear az a0 a1 a2 bz b0 b1 b2 rz r0 r1 r2 rf
  replace hA := hA.low hbn
  replace hB := hB.low hbn
  replace hR := hR.low hbn
  replace hW := Below.next hW hbn
  clear hbn
  obtain ⟨az, a0, a1, a2, -⟩ := id hA; obtain ⟨bz, b0, b1, b2, -⟩ := id hB; obtain ⟨rz, r0, r1, r2, rf⟩ := id hR
  go_wp2
  exact bodyPost_ret (v := .tuple #[.agg #[.int .i64 2, .int .i64 1, .string ⟨#[]⟩], .bool true]) (by simp [results, Tryd.results27, go_sem, r0, r1, r2]) rfl ⟨rfl, Below.three2 hW _ _ _⟩

theorem rless_any (k n : Int) (s : ByteArray) (k' n' : Int) (s' : ByteArray) (w : World) (hs : s.size ≤ 9223372036854775807) (hs' : s'.size ≤ 9223372036854775807) :
    Calls Tryd.prog 27 #[.agg #[.int .i64 k, .int .i64 n, .string s], .agg #[.int .i64 k', .int .i64 n', .string s']] w fun e w' => e = ans (cmpQ k n s k' n' s' (-1)) (okC k n s k' n' s') ∧ Below w.heap.size w w' := by
  unfold cmpQ
  have hbd := (cmpV_bd k n s k' n' s').1
  cases ho : okC k n s k' n' s'
  · exact rless_bad k n s k' n' s' w hs hs' ho
  cases h0 : (k == 0)
  · cases h0' : (k' == 0)
    · cases hc : (cmpV k n s k' n' s' == (-1))
      · exact rless_false k n s k' n' s' w hs hs' ho h0 h0' (by simp at hc; simp; omega)
      · exact rless_true k n s k' n' s' w hs hs' ho h0 h0' (by simp at hc; simp; omega)
    · exact rless_null2 k n s k' n' s' w hs hs' ho h0 h0'
  · exact rless_null1 k n s k' n' s' w hs hs' ho h0
end Go.Proofs.YtlnjdgmolmeklaaDoor
