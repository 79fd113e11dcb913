/-
  THE STATEMENT LogicCompares, as a walk.
-/
import Derived.Test.YtlnjdgmolmeklaaDoorLawLogicForms
import Derived.Test.YtlnjdgmolmeklaaDoorValFacts
namespace Go.Proofs.YtlnjdgmolmeklaaDoor
open Go.RowKit
variable {ls : List Nat}

theorem null_valid : validB 0 0 ⟨#[]⟩ = true := by simp [validB]
theorem ok_kind {k n : Int} {s : ByteArray} {k2 n2 : Int} {s2 : ByteArray} (h : validB k n s = true) (h2 : validB k2 n2 s2 = true) (e : k = k2) : okC k n s k2 n2 s2 = true := by
  unfold okC; rw [h, h2, e]; simp
theorem ok_null {k n : Int} {s : ByteArray} (h : validB k n s = true) : okC k n s 0 0 ⟨#[]⟩ = true := by unfold okC; rw [h, null_valid]; simp
theorem ok_null' {k n : Int} {s : ByteArray} (h : validB k n s = true) : okC 0 0 ⟨#[]⟩ k n s = true := by unfold okC; rw [h, null_valid]; simp
theorem cmp_null {k n : Int} {s : ByteArray} (h : validB k n s = true) : cmpQ k n s 0 0 ⟨#[]⟩ 0 = 1 := by unfold cmpQ; rw [ok_null h]; simp
theorem cmp_null' {k n : Int} {s : ByteArray} (h : validB k n s = true) : cmpQ 0 0 ⟨#[]⟩ k n s (-1) = 1 := by unfold cmpQ; rw [ok_null' h]; simp
theorem cmp_kind {k n : Int} {s : ByteArray} {k2 n2 : Int} {s2 : ByteArray} (h : validB k n s = true) (h2 : validB k2 n2 s2 = true) (e : k = k2) (hk : 1 ≤ k) (c : Int) : cmpQ k n s k2 n2 s2 c = if cmpV k n s k2 n2 s2 = c then 2 else 0 := by
  unfold cmpQ
  rw [ok_kind h h2 e, if_pos rfl, if_neg (by simp; omega)]
  simp
/-- Of equal, less, greater exactly one is true. -/
theorem tri {k n : Int} {s : ByteArray} {k2 n2 : Int} {s2 : ByteArray} (h : validB k n s = true) (h2 : validB k2 n2 s2 = true) (e : k = k2) (hk : 1 ≤ k) :
    (cmpQ k n s k2 n2 s2 0 = 0 ∧ cmpQ k n s k2 n2 s2 (-1) = 2 ∧ cmpQ k2 n2 s2 k n s (-1) = 0) ∨ (cmpQ k n s k2 n2 s2 0 = 2 ∧ cmpQ k n s k2 n2 s2 (-1) = 0 ∧ cmpQ k2 n2 s2 k n s (-1) = 0)
    ∨ (cmpQ k n s k2 n2 s2 0 = 0 ∧ cmpQ k n s k2 n2 s2 (-1) = 0 ∧ cmpQ k2 n2 s2 k n s (-1) = 2) := by
  rw [cmp_kind h h2 e hk, cmp_kind h h2 e hk, cmp_kind h2 h e.symm (by omega), cmpV_neg k2 n2 s2 k n s]
  have hb := cmpV_bd k n s k2 n2 s2
  generalize cmpV k n s k2 n2 s2 = c at hb ⊢
  have hc : c = -1 ∨ c = 0 ∨ c = 1 := by omega
  rcases hc with rfl | rfl | rfl <;> simp

set_option maxRecDepth 100000 in
set_option maxHeartbeats 8000000 in
theorem lcomp_walk (w : World) (p : Option Addr) (len cap : Nat) (hl : len ≤ cap) (hml : len ≤ 9223372036854775807) (h : IntsAt w p len) (kind : Int) (hE : Env ls w) (hlw : 2 ∈ ls) (hlA : 0 ∈ ls) :
    Calls Tryd.prog 5 #[.slice p len cap, .int .i64 kind] w fun e w' => e = .returned (.bool true) ∧ Below w.heap.size w w' := by
  have hz8 := hE.size
  have hm := modI_range kind 3 (by omega)
  have HI := Lib.hid h
  clear h
  go_enter Tryd.func5, Tryd.ntmps5
  go_wp2_with fail
  refine (new_any _ p len cap hl hml HI.out).mono ?_
  rintro e w1 ⟨b, rfl, hb0, ht, hb1⟩
  replace hE := hE.low hb1
  have h8b : 4 ≤ b := by omega
  have hbw : b ≠ 2 := by omega
  go_wp2_with fail
  refine (mod_any _ _ _ (by omega) (by omega)).mono ?_
  rintro e w2 ⟨rfl, rfl⟩
  generalize modI kind 3 = m at hm ⊢
  go_wp2_with fail
  refine (typed_any b _ _ hbw ht (hE.words hlw)).mono ?_
  rintro e w3 ⟨k, n, s, rfl, hv, hk, ht3, hs3⟩
  replace hE := hE.step hs3 h8b
  go_wp2_with fail
  refine (typed_any b _ _ hbw ht3 (hE.words hlw)).mono ?_
  rintro e w4 ⟨k2, n2, s2, rfl, hv2, hk2, ht4, hs4⟩
  replace hE := hE.step hs4 h8b
  have hW : Below w.heap.size w w4 := (hb1.trans (hs3.below hb0 hb1.size)).trans (hs4.below hb0 (Nat.le_trans hb1.size hs3.size))
  have hkk : k = k2 := (hk (by omega) (by omega)).trans (hk2 (by omega) (by omega)).symm
  have hk1 : 1 ≤ k := by have := hk (by omega) (by omega); omega
  clear hk hk2 hm HI ht ht3 ht4 hs3 hs4 hb1 hb0 h8b hbw
  have hs : s.size ≤ 9223372036854775807 := by have := hv.size; omega
  have hs2 : s2.size ≤ 9223372036854775807 := by have := hv2.size; omega
  have hd := hv.valid
  have hd2 := hv2.valid
  clear hv hv2
  have HO1 := Lib.hid (ok_kind hd hd2 hkk)
  have HO2 := Lib.hid (ok_kind hd2 hd hkk.symm)
  have HO3 := Lib.hid (ok_null hd)
  have HO4 := Lib.hid (ok_null' hd2)
  have HN1 := Lib.hid (cmp_null hd)
  have HN2 := Lib.hid (cmp_null' hd2)
  have htri := tri hd hd2 hkk hk1
  clear hd hd2 hkk hk1
  go_upto_region 4 with (fail)
  have hA := (cell3_new w4 (.int .i64 k) (.int .i64 n) (.string s) 23).low (below_alloc _ (.cells #[.int .i64 k2, .int .i64 n2, .string s2] 23))
  have hB := (cell3_new (w4.alloc (.cells #[.int .i64 k, .int .i64 n, .string s] 23)) (.int .i64 k2) (.int .i64 n2) (.string s2) 23).at (size_alloc _ _)
  replace hE := (hE.alloc (.cells #[.int .i64 k, .int .i64 n, .string s] 23)).alloc (.cells #[.int .i64 k2, .int .i64 n2, .string s2] 23)
  replace hW := Below.next (Below.next hW (below_alloc _ (.cells #[.int .i64 k, .int .i64 n, .string s] 23))) (below_alloc _ (.cells #[.int .i64 k2, .int .i64 n2, .string s2] 23))
  generalize (w4.alloc _).alloc _ = u0 at hA hB hE hW ⊢
  generalize w4.heap.size + 1 = B at hB ⊢
  generalize w4.heap.size = A at hA ⊢
  rcases htri with ⟨e0, e1, e2⟩ | ⟨e0, e1, e2⟩ | ⟨e0, e1, e2⟩
  · have HE0 := Lib.hid e0
    have HE1 := Lib.hid e1
    have HE2 := Lib.hid e2
    clear e0 e1 e2
    obtain ⟨zA, c0A, c1A, c2A, -⟩ := id hA
    obtain ⟨zB, c0B, c1B, c2B, -⟩ := id hB
    go_wp2_with fail
    refine (equal_any k n s k2 n2 s2 _ hs hs2).mono ?_
    rintro e wn ⟨he, hbn⟩
    rw [HE0.out, HO1.out] at he
    have he2 : e = .returned (.tuple #[.agg #[.int .i64 2, .int .i64 0, .string ⟨#[]⟩], .bool true]) := he
    clear he
    subst he2
    clear zA c0A c1A c2A zB c0B c1B c2B
    go_upto_region 5 with (fail)
    replace hA := (hA.low hbn).low (below_alloc _ (.cells #[.int .i64 2, .int .i64 0, .string ⟨#[]⟩] 23))
    replace hB := (hB.low hbn).low (below_alloc _ (.cells #[.int .i64 2, .int .i64 0, .string ⟨#[]⟩] 23))
    have hQ := cell3_new wn (.int .i64 2) (.int .i64 0) (.string ⟨#[]⟩) 23
    replace hW := Below.next (Below.next hW hbn) (below_alloc _ (.cells #[.int .i64 2, .int .i64 0, .string ⟨#[]⟩] 23))
    replace hE := (hE.low hbn).alloc (.cells #[.int .i64 2, .int .i64 0, .string ⟨#[]⟩] 23)
    clear hbn
    generalize wn.alloc _ = u1 at hA hB hQ hW hE ⊢
    generalize wn.heap.size = Q at hQ ⊢
    obtain ⟨zA, c0A, c1A, c2A, -⟩ := id hA
    obtain ⟨zB, c0B, c1B, c2B, -⟩ := id hB
    go_wp2_with fail
    refine (less_any k n s k2 n2 s2 _ hs hs2).mono ?_
    rintro e wn ⟨he, hbn⟩
    rw [HE1.out, HO1.out] at he
    have he2 : e = .returned (.tuple #[.agg #[.int .i64 2, .int .i64 1, .string ⟨#[]⟩], .bool true]) := he
    clear he
    subst he2
    clear zA c0A c1A c2A zB c0B c1B c2B
    go_upto_region 6 with (fail)
    replace hA := (hA.low hbn).low (below_alloc _ (.cells #[.int .i64 2, .int .i64 1, .string ⟨#[]⟩] 23))
    replace hB := (hB.low hbn).low (below_alloc _ (.cells #[.int .i64 2, .int .i64 1, .string ⟨#[]⟩] 23))
    replace hQ := (hQ.low hbn).low (below_alloc _ (.cells #[.int .i64 2, .int .i64 1, .string ⟨#[]⟩] 23))
    have hL := cell3_new wn (.int .i64 2) (.int .i64 1) (.string ⟨#[]⟩) 23
    replace hW := Below.next (Below.next hW hbn) (below_alloc _ (.cells #[.int .i64 2, .int .i64 1, .string ⟨#[]⟩] 23))
    replace hE := (hE.low hbn).alloc (.cells #[.int .i64 2, .int .i64 1, .string ⟨#[]⟩] 23)
    clear hbn
    generalize wn.alloc _ = u2 at hA hB hQ hL hW hE ⊢
    generalize wn.heap.size = L at hL ⊢
    obtain ⟨zB, c0B, c1B, c2B, -⟩ := id hB
    obtain ⟨zA, c0A, c1A, c2A, -⟩ := id hA
    go_wp2_with fail
    refine (less_any k2 n2 s2 k n s _ hs2 hs).mono ?_
    rintro e wn ⟨he, hbn⟩
    rw [HE2.out, HO2.out] at he
    have he2 : e = .returned (.tuple #[.agg #[.int .i64 2, .int .i64 0, .string ⟨#[]⟩], .bool true]) := he
    clear he
    subst he2
    clear zB c0B c1B c2B zA c0A c1A c2A
    go_upto_region 7 with (fail)
    replace hA := (hA.low hbn).low (below_alloc _ (.cells #[.int .i64 2, .int .i64 0, .string ⟨#[]⟩] 23))
    replace hB := (hB.low hbn).low (below_alloc _ (.cells #[.int .i64 2, .int .i64 0, .string ⟨#[]⟩] 23))
    replace hQ := (hQ.low hbn).low (below_alloc _ (.cells #[.int .i64 2, .int .i64 0, .string ⟨#[]⟩] 23))
    replace hL := (hL.low hbn).low (below_alloc _ (.cells #[.int .i64 2, .int .i64 0, .string ⟨#[]⟩] 23))
    have hG := cell3_new wn (.int .i64 2) (.int .i64 0) (.string ⟨#[]⟩) 23
    replace hW := Below.next (Below.next hW hbn) (below_alloc _ (.cells #[.int .i64 2, .int .i64 0, .string ⟨#[]⟩] 23))
    replace hE := (hE.low hbn).alloc (.cells #[.int .i64 2, .int .i64 0, .string ⟨#[]⟩] 23)
    clear hbn
    generalize wn.alloc _ = u3 at hA hB hQ hL hG hW hE ⊢
    generalize wn.heap.size = G at hG ⊢
    obtain ⟨zA, c0A, c1A, c2A, -⟩ := id hA
    go_wp2_with fail
    refine (equal_any k n s 0 0 ⟨#[]⟩ _ hs (by decide)).mono ?_
    rintro e wn ⟨he, hbn⟩
    rw [HN1.out, HO3.out] at he
    have he2 : e = .returned (.tuple #[.agg #[.int .i64 0, .int .i64 0, .string ⟨#[]⟩], .bool true]) := he
    clear he
    subst he2
    clear zA c0A c1A c2A
    go_upto_region 8 with (fail)
    replace hA := (hA.low hbn).low (below_alloc _ (.cells #[.int .i64 0, .int .i64 0, .string ⟨#[]⟩] 23))
    replace hB := (hB.low hbn).low (below_alloc _ (.cells #[.int .i64 0, .int .i64 0, .string ⟨#[]⟩] 23))
    replace hQ := (hQ.low hbn).low (below_alloc _ (.cells #[.int .i64 0, .int .i64 0, .string ⟨#[]⟩] 23))
    replace hL := (hL.low hbn).low (below_alloc _ (.cells #[.int .i64 0, .int .i64 0, .string ⟨#[]⟩] 23))
    replace hG := (hG.low hbn).low (below_alloc _ (.cells #[.int .i64 0, .int .i64 0, .string ⟨#[]⟩] 23))
    have hN := cell3_new wn (.int .i64 0) (.int .i64 0) (.string ⟨#[]⟩) 23
    replace hW := Below.next (Below.next hW hbn) (below_alloc _ (.cells #[.int .i64 0, .int .i64 0, .string ⟨#[]⟩] 23))
    replace hE := (hE.low hbn).alloc (.cells #[.int .i64 0, .int .i64 0, .string ⟨#[]⟩] 23)
    clear hbn
    generalize wn.alloc _ = u4 at hA hB hQ hL hG hN hW hE ⊢
    generalize wn.heap.size = N at hN ⊢
    obtain ⟨zB, c0B, c1B, c2B, -⟩ := id hB
    go_wp2_with fail
    refine (less_any 0 0 ⟨#[]⟩ k2 n2 s2 _ (by decide) hs2).mono ?_
    rintro e wn ⟨he, hbn⟩
    rw [HN2.out, HO4.out] at he
    have he2 : e = .returned (.tuple #[.agg #[.int .i64 0, .int .i64 0, .string ⟨#[]⟩], .bool true]) := he
    clear he
    subst he2
    clear zB c0B c1B c2B
    go_upto_region 9 with (fail)
    replace hA := (hA.low hbn).low (below_alloc _ (.cells #[.int .i64 0, .int .i64 0, .string ⟨#[]⟩] 23))
    replace hB := (hB.low hbn).low (below_alloc _ (.cells #[.int .i64 0, .int .i64 0, .string ⟨#[]⟩] 23))
    replace hQ := (hQ.low hbn).low (below_alloc _ (.cells #[.int .i64 0, .int .i64 0, .string ⟨#[]⟩] 23))
    replace hL := (hL.low hbn).low (below_alloc _ (.cells #[.int .i64 0, .int .i64 0, .string ⟨#[]⟩] 23))
    replace hG := (hG.low hbn).low (below_alloc _ (.cells #[.int .i64 0, .int .i64 0, .string ⟨#[]⟩] 23))
    replace hN := (hN.low hbn).low (below_alloc _ (.cells #[.int .i64 0, .int .i64 0, .string ⟨#[]⟩] 23))
    have hM := cell3_new wn (.int .i64 0) (.int .i64 0) (.string ⟨#[]⟩) 23
    replace hW := Below.next (Below.next hW hbn) (below_alloc _ (.cells #[.int .i64 0, .int .i64 0, .string ⟨#[]⟩] 23))
    replace hE := (hE.low hbn).alloc (.cells #[.int .i64 0, .int .i64 0, .string ⟨#[]⟩] 23)
    clear hbn
    generalize wn.alloc _ = u5 at hA hB hQ hL hG hN hM hW hE ⊢
    generalize wn.heap.size = M at hM ⊢
    clear hA hB
    obtain ⟨zQ, c0Q, c1Q, c2Q, -⟩ := id hQ
    obtain ⟨zL, c0L, c1L, c2L, -⟩ := id hL
    obtain ⟨zG, c0G, c1G, c2G, -⟩ := id hG
    obtain ⟨zN, c0N, c1N, c2N, -⟩ := id hN
    obtain ⟨zM, c0M, c1M, c2M, -⟩ := id hM
    go_wp2_with fail
    refine (known2_any _ hE hlA).mono ?_
    rintro e wn ⟨rfl, hbn⟩
    go_wp2
    go_ret
    exact ⟨rfl, Below.next hW hbn⟩
  · have HE0 := Lib.hid e0
    have HE1 := Lib.hid e1
    have HE2 := Lib.hid e2
    clear e0 e1 e2
    obtain ⟨zA, c0A, c1A, c2A, -⟩ := id hA
    obtain ⟨zB, c0B, c1B, c2B, -⟩ := id hB
    go_wp2_with fail
    refine (equal_any k n s k2 n2 s2 _ hs hs2).mono ?_
    rintro e wn ⟨he, hbn⟩
    rw [HE0.out, HO1.out] at he
    have he2 : e = .returned (.tuple #[.agg #[.int .i64 2, .int .i64 1, .string ⟨#[]⟩], .bool true]) := he
    clear he
    subst he2
    clear zA c0A c1A c2A zB c0B c1B c2B
    go_upto_region 5 with (fail)
    replace hA := (hA.low hbn).low (below_alloc _ (.cells #[.int .i64 2, .int .i64 1, .string ⟨#[]⟩] 23))
    replace hB := (hB.low hbn).low (below_alloc _ (.cells #[.int .i64 2, .int .i64 1, .string ⟨#[]⟩] 23))
    have hQ := cell3_new wn (.int .i64 2) (.int .i64 1) (.string ⟨#[]⟩) 23
    replace hW := Below.next (Below.next hW hbn) (below_alloc _ (.cells #[.int .i64 2, .int .i64 1, .string ⟨#[]⟩] 23))
    replace hE := (hE.low hbn).alloc (.cells #[.int .i64 2, .int .i64 1, .string ⟨#[]⟩] 23)
    clear hbn
    generalize wn.alloc _ = u1 at hA hB hQ hW hE ⊢
    generalize wn.heap.size = Q at hQ ⊢
    obtain ⟨zA, c0A, c1A, c2A, -⟩ := id hA
    obtain ⟨zB, c0B, c1B, c2B, -⟩ := id hB
    go_wp2_with fail
    refine (less_any k n s k2 n2 s2 _ hs hs2).mono ?_
    rintro e wn ⟨he, hbn⟩
    rw [HE1.out, HO1.out] at he
    have he2 : e = .returned (.tuple #[.agg #[.int .i64 2, .int .i64 0, .string ⟨#[]⟩], .bool true]) := he
    clear he
    subst he2
    clear zA c0A c1A c2A zB c0B c1B c2B
    go_upto_region 6 with (fail)
    replace hA := (hA.low hbn).low (below_alloc _ (.cells #[.int .i64 2, .int .i64 0, .string ⟨#[]⟩] 23))
    replace hB := (hB.low hbn).low (below_alloc _ (.cells #[.int .i64 2, .int .i64 0, .string ⟨#[]⟩] 23))
    replace hQ := (hQ.low hbn).low (below_alloc _ (.cells #[.int .i64 2, .int .i64 0, .string ⟨#[]⟩] 23))
    have hL := cell3_new wn (.int .i64 2) (.int .i64 0) (.string ⟨#[]⟩) 23
    replace hW := Below.next (Below.next hW hbn) (below_alloc _ (.cells #[.int .i64 2, .int .i64 0, .string ⟨#[]⟩] 23))
    replace hE := (hE.low hbn).alloc (.cells #[.int .i64 2, .int .i64 0, .string ⟨#[]⟩] 23)
    clear hbn
    generalize wn.alloc _ = u2 at hA hB hQ hL hW hE ⊢
    generalize wn.heap.size = L at hL ⊢
    obtain ⟨zB, c0B, c1B, c2B, -⟩ := id hB
    obtain ⟨zA, c0A, c1A, c2A, -⟩ := id hA
    go_wp2_with fail
    refine (less_any k2 n2 s2 k n s _ hs2 hs).mono ?_
    rintro e wn ⟨he, hbn⟩
    rw [HE2.out, HO2.out] at he
    have he2 : e = .returned (.tuple #[.agg #[.int .i64 2, .int .i64 0, .string ⟨#[]⟩], .bool true]) := he
    clear he
    subst he2
    clear zB c0B c1B c2B zA c0A c1A c2A
    go_upto_region 7 with (fail)
    replace hA := (hA.low hbn).low (below_alloc _ (.cells #[.int .i64 2, .int .i64 0, .string ⟨#[]⟩] 23))
    replace hB := (hB.low hbn).low (below_alloc _ (.cells #[.int .i64 2, .int .i64 0, .string ⟨#[]⟩] 23))
    replace hQ := (hQ.low hbn).low (below_alloc _ (.cells #[.int .i64 2, .int .i64 0, .string ⟨#[]⟩] 23))
    replace hL := (hL.low hbn).low (below_alloc _ (.cells #[.int .i64 2, .int .i64 0, .string ⟨#[]⟩] 23))
    have hG := cell3_new wn (.int .i64 2) (.int .i64 0) (.string ⟨#[]⟩) 23
    replace hW := Below.next (Below.next hW hbn) (below_alloc _ (.cells #[.int .i64 2, .int .i64 0, .string ⟨#[]⟩] 23))
    replace hE := (hE.low hbn).alloc (.cells #[.int .i64 2, .int .i64 0, .string ⟨#[]⟩] 23)
    clear hbn
    generalize wn.alloc _ = u3 at hA hB hQ hL hG hW hE ⊢
    generalize wn.heap.size = G at hG ⊢
    obtain ⟨zA, c0A, c1A, c2A, -⟩ := id hA
    go_wp2_with fail
    refine (equal_any k n s 0 0 ⟨#[]⟩ _ hs (by decide)).mono ?_
    rintro e wn ⟨he, hbn⟩
    rw [HN1.out, HO3.out] at he
    have he2 : e = .returned (.tuple #[.agg #[.int .i64 0, .int .i64 0, .string ⟨#[]⟩], .bool true]) := he
    clear he
    subst he2
    clear zA c0A c1A c2A
    go_upto_region 8 with (fail)
    replace hA := (hA.low hbn).low (below_alloc _ (.cells #[.int .i64 0, .int .i64 0, .string ⟨#[]⟩] 23))
    replace hB := (hB.low hbn).low (below_alloc _ (.cells #[.int .i64 0, .int .i64 0, .string ⟨#[]⟩] 23))
    replace hQ := (hQ.low hbn).low (below_alloc _ (.cells #[.int .i64 0, .int .i64 0, .string ⟨#[]⟩] 23))
    replace hL := (hL.low hbn).low (below_alloc _ (.cells #[.int .i64 0, .int .i64 0, .string ⟨#[]⟩] 23))
    replace hG := (hG.low hbn).low (below_alloc _ (.cells #[.int .i64 0, .int .i64 0, .string ⟨#[]⟩] 23))
    have hN := cell3_new wn (.int .i64 0) (.int .i64 0) (.string ⟨#[]⟩) 23
    replace hW := Below.next (Below.next hW hbn) (below_alloc _ (.cells #[.int .i64 0, .int .i64 0, .string ⟨#[]⟩] 23))
    replace hE := (hE.low hbn).alloc (.cells #[.int .i64 0, .int .i64 0, .string ⟨#[]⟩] 23)
    clear hbn
    generalize wn.alloc _ = u4 at hA hB hQ hL hG hN hW hE ⊢
    generalize wn.heap.size = N at hN ⊢
    obtain ⟨zB, c0B, c1B, c2B, -⟩ := id hB
    go_wp2_with fail
    refine (less_any 0 0 ⟨#[]⟩ k2 n2 s2 _ (by decide) hs2).mono ?_
    rintro e wn ⟨he, hbn⟩
    rw [HN2.out, HO4.out] at he
    have he2 : e = .returned (.tuple #[.agg #[.int .i64 0, .int .i64 0, .string ⟨#[]⟩], .bool true]) := he
    clear he
    subst he2
    clear zB c0B c1B c2B
    go_upto_region 9 with (fail)
    replace hA := (hA.low hbn).low (below_alloc _ (.cells #[.int .i64 0, .int .i64 0, .string ⟨#[]⟩] 23))
    replace hB := (hB.low hbn).low (below_alloc _ (.cells #[.int .i64 0, .int .i64 0, .string ⟨#[]⟩] 23))
    replace hQ := (hQ.low hbn).low (below_alloc _ (.cells #[.int .i64 0, .int .i64 0, .string ⟨#[]⟩] 23))
    replace hL := (hL.low hbn).low (below_alloc _ (.cells #[.int .i64 0, .int .i64 0, .string ⟨#[]⟩] 23))
    replace hG := (hG.low hbn).low (below_alloc _ (.cells #[.int .i64 0, .int .i64 0, .string ⟨#[]⟩] 23))
    replace hN := (hN.low hbn).low (below_alloc _ (.cells #[.int .i64 0, .int .i64 0, .string ⟨#[]⟩] 23))
    have hM := cell3_new wn (.int .i64 0) (.int .i64 0) (.string ⟨#[]⟩) 23
    replace hW := Below.next (Below.next hW hbn) (below_alloc _ (.cells #[.int .i64 0, .int .i64 0, .string ⟨#[]⟩] 23))
    replace hE := (hE.low hbn).alloc (.cells #[.int .i64 0, .int .i64 0, .string ⟨#[]⟩] 23)
    clear hbn
    generalize wn.alloc _ = u5 at hA hB hQ hL hG hN hM hW hE ⊢
    generalize wn.heap.size = M at hM ⊢
    clear hA hB
    obtain ⟨zQ, c0Q, c1Q, c2Q, -⟩ := id hQ
    obtain ⟨zL, c0L, c1L, c2L, -⟩ := id hL
    obtain ⟨zG, c0G, c1G, c2G, -⟩ := id hG
    obtain ⟨zN, c0N, c1N, c2N, -⟩ := id hN
    obtain ⟨zM, c0M, c1M, c2M, -⟩ := id hM
    go_wp2_with fail
    refine (known2_any _ hE hlA).mono ?_
    rintro e wn ⟨rfl, hbn⟩
    go_wp2
    go_ret
    exact ⟨rfl, Below.next hW hbn⟩
  · have HE0 := Lib.hid e0
    have HE1 := Lib.hid e1
    have HE2 := Lib.hid e2
    clear e0 e1 e2
    obtain ⟨zA, c0A, c1A, c2A, -⟩ := id hA
    obtain ⟨zB, c0B, c1B, c2B, -⟩ := id hB
    go_wp2_with fail
    refine (equal_any k n s k2 n2 s2 _ hs hs2).mono ?_
    rintro e wn ⟨he, hbn⟩
    rw [HE0.out, HO1.out] at he
    have he2 : e = .returned (.tuple #[.agg #[.int .i64 2, .int .i64 0, .string ⟨#[]⟩], .bool true]) := he
    clear he
    subst he2
    clear zA c0A c1A c2A zB c0B c1B c2B
    go_upto_region 5 with (fail)
    replace hA := (hA.low hbn).low (below_alloc _ (.cells #[.int .i64 2, .int .i64 0, .string ⟨#[]⟩] 23))
    replace hB := (hB.low hbn).low (below_alloc _ (.cells #[.int .i64 2, .int .i64 0, .string ⟨#[]⟩] 23))
    have hQ := cell3_new wn (.int .i64 2) (.int .i64 0) (.string ⟨#[]⟩) 23
    replace hW := Below.next (Below.next hW hbn) (below_alloc _ (.cells #[.int .i64 2, .int .i64 0, .string ⟨#[]⟩] 23))
    replace hE := (hE.low hbn).alloc (.cells #[.int .i64 2, .int .i64 0, .string ⟨#[]⟩] 23)
    clear hbn
    generalize wn.alloc _ = u1 at hA hB hQ hW hE ⊢
    generalize wn.heap.size = Q at hQ ⊢
    obtain ⟨zA, c0A, c1A, c2A, -⟩ := id hA
    obtain ⟨zB, c0B, c1B, c2B, -⟩ := id hB
    go_wp2_with fail
    refine (less_any k n s k2 n2 s2 _ hs hs2).mono ?_
    rintro e wn ⟨he, hbn⟩
    rw [HE1.out, HO1.out] at he
    have he2 : e = .returned (.tuple #[.agg #[.int .i64 2, .int .i64 0, .string ⟨#[]⟩], .bool true]) := he
    clear he
    subst he2
    clear zA c0A c1A c2A zB c0B c1B c2B
    go_upto_region 6 with (fail)
    replace hA := (hA.low hbn).low (below_alloc _ (.cells #[.int .i64 2, .int .i64 0, .string ⟨#[]⟩] 23))
    replace hB := (hB.low hbn).low (below_alloc _ (.cells #[.int .i64 2, .int .i64 0, .string ⟨#[]⟩] 23))
    replace hQ := (hQ.low hbn).low (below_alloc _ (.cells #[.int .i64 2, .int .i64 0, .string ⟨#[]⟩] 23))
    have hL := cell3_new wn (.int .i64 2) (.int .i64 0) (.string ⟨#[]⟩) 23
    replace hW := Below.next (Below.next hW hbn) (below_alloc _ (.cells #[.int .i64 2, .int .i64 0, .string ⟨#[]⟩] 23))
    replace hE := (hE.low hbn).alloc (.cells #[.int .i64 2, .int .i64 0, .string ⟨#[]⟩] 23)
    clear hbn
    generalize wn.alloc _ = u2 at hA hB hQ hL hW hE ⊢
    generalize wn.heap.size = L at hL ⊢
    obtain ⟨zB, c0B, c1B, c2B, -⟩ := id hB
    obtain ⟨zA, c0A, c1A, c2A, -⟩ := id hA
    go_wp2_with fail
    refine (less_any k2 n2 s2 k n s _ hs2 hs).mono ?_
    rintro e wn ⟨he, hbn⟩
    rw [HE2.out, HO2.out] at he
    have he2 : e = .returned (.tuple #[.agg #[.int .i64 2, .int .i64 1, .string ⟨#[]⟩], .bool true]) := he
    clear he
    subst he2
    clear zB c0B c1B c2B zA c0A c1A c2A
    go_upto_region 7 with (fail)
    replace hA := (hA.low hbn).low (below_alloc _ (.cells #[.int .i64 2, .int .i64 1, .string ⟨#[]⟩] 23))
    replace hB := (hB.low hbn).low (below_alloc _ (.cells #[.int .i64 2, .int .i64 1, .string ⟨#[]⟩] 23))
    replace hQ := (hQ.low hbn).low (below_alloc _ (.cells #[.int .i64 2, .int .i64 1, .string ⟨#[]⟩] 23))
    replace hL := (hL.low hbn).low (below_alloc _ (.cells #[.int .i64 2, .int .i64 1, .string ⟨#[]⟩] 23))
    have hG := cell3_new wn (.int .i64 2) (.int .i64 1) (.string ⟨#[]⟩) 23
    replace hW := Below.next (Below.next hW hbn) (below_alloc _ (.cells #[.int .i64 2, .int .i64 1, .string ⟨#[]⟩] 23))
    replace hE := (hE.low hbn).alloc (.cells #[.int .i64 2, .int .i64 1, .string ⟨#[]⟩] 23)
    clear hbn
    generalize wn.alloc _ = u3 at hA hB hQ hL hG hW hE ⊢
    generalize wn.heap.size = G at hG ⊢
    obtain ⟨zA, c0A, c1A, c2A, -⟩ := id hA
    go_wp2_with fail
    refine (equal_any k n s 0 0 ⟨#[]⟩ _ hs (by decide)).mono ?_
    rintro e wn ⟨he, hbn⟩
    rw [HN1.out, HO3.out] at he
    have he2 : e = .returned (.tuple #[.agg #[.int .i64 0, .int .i64 0, .string ⟨#[]⟩], .bool true]) := he
    clear he
    subst he2
    clear zA c0A c1A c2A
    go_upto_region 8 with (fail)
    replace hA := (hA.low hbn).low (below_alloc _ (.cells #[.int .i64 0, .int .i64 0, .string ⟨#[]⟩] 23))
    replace hB := (hB.low hbn).low (below_alloc _ (.cells #[.int .i64 0, .int .i64 0, .string ⟨#[]⟩] 23))
    replace hQ := (hQ.low hbn).low (below_alloc _ (.cells #[.int .i64 0, .int .i64 0, .string ⟨#[]⟩] 23))
    replace hL := (hL.low hbn).low (below_alloc _ (.cells #[.int .i64 0, .int .i64 0, .string ⟨#[]⟩] 23))
    replace hG := (hG.low hbn).low (below_alloc _ (.cells #[.int .i64 0, .int .i64 0, .string ⟨#[]⟩] 23))
    have hN := cell3_new wn (.int .i64 0) (.int .i64 0) (.string ⟨#[]⟩) 23
    replace hW := Below.next (Below.next hW hbn) (below_alloc _ (.cells #[.int .i64 0, .int .i64 0, .string ⟨#[]⟩] 23))
    replace hE := (hE.low hbn).alloc (.cells #[.int .i64 0, .int .i64 0, .string ⟨#[]⟩] 23)
    clear hbn
    generalize wn.alloc _ = u4 at hA hB hQ hL hG hN hW hE ⊢
    generalize wn.heap.size = N at hN ⊢
    obtain ⟨zB, c0B, c1B, c2B, -⟩ := id hB
    go_wp2_with fail
    refine (less_any 0 0 ⟨#[]⟩ k2 n2 s2 _ (by decide) hs2).mono ?_
    rintro e wn ⟨he, hbn⟩
    rw [HN2.out, HO4.out] at he
    have he2 : e = .returned (.tuple #[.agg #[.int .i64 0, .int .i64 0, .string ⟨#[]⟩], .bool true]) := he
    clear he
    subst he2
    clear zB c0B c1B c2B
    go_upto_region 9 with (fail)
    replace hA := (hA.low hbn).low (below_alloc _ (.cells #[.int .i64 0, .int .i64 0, .string ⟨#[]⟩] 23))
    replace hB := (hB.low hbn).low (below_alloc _ (.cells #[.int .i64 0, .int .i64 0, .string ⟨#[]⟩] 23))
    replace hQ := (hQ.low hbn).low (below_alloc _ (.cells #[.int .i64 0, .int .i64 0, .string ⟨#[]⟩] 23))
    replace hL := (hL.low hbn).low (below_alloc _ (.cells #[.int .i64 0, .int .i64 0, .string ⟨#[]⟩] 23))
    replace hG := (hG.low hbn).low (below_alloc _ (.cells #[.int .i64 0, .int .i64 0, .string ⟨#[]⟩] 23))
    replace hN := (hN.low hbn).low (below_alloc _ (.cells #[.int .i64 0, .int .i64 0, .string ⟨#[]⟩] 23))
    have hM := cell3_new wn (.int .i64 0) (.int .i64 0) (.string ⟨#[]⟩) 23
    replace hW := Below.next (Below.next hW hbn) (below_alloc _ (.cells #[.int .i64 0, .int .i64 0, .string ⟨#[]⟩] 23))
    replace hE := (hE.low hbn).alloc (.cells #[.int .i64 0, .int .i64 0, .string ⟨#[]⟩] 23)
    clear hbn
    generalize wn.alloc _ = u5 at hA hB hQ hL hG hN hM hW hE ⊢
    generalize wn.heap.size = M at hM ⊢
    clear hA hB
    obtain ⟨zQ, c0Q, c1Q, c2Q, -⟩ := id hQ
    obtain ⟨zL, c0L, c1L, c2L, -⟩ := id hL
    obtain ⟨zG, c0G, c1G, c2G, -⟩ := id hG
    obtain ⟨zN, c0N, c1N, c2N, -⟩ := id hN
    obtain ⟨zM, c0M, c1M, c2M, -⟩ := id hM
    go_wp2_with fail
    refine (known2_any _ hE hlA).mono ?_
    rintro e wn ⟨rfl, hbn⟩
    go_wp2
    go_ret
    exact ⟨rfl, Below.next hW hbn⟩
end Go.Proofs.YtlnjdgmolmeklaaDoor
