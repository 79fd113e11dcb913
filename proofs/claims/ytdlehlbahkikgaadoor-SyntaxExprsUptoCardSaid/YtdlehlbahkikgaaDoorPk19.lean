/-
  Several texts in one.
-/
import Derived.Test.YtdlehlbahkikgaaDoorPk18
import Derived.Test.YtdlehlbahkikgaaDoorPk15
/-
  source, plain, Wrapped of reference 11.
-/
namespace Go.Proofs.YtdlehlbahkikgaaDoor
set_option maxRecDepth 100000
open Go.RowKit
variable {ls : List Nat}

set_option maxHeartbeats 1000000 in
theorem rsource_any (s : ByteArray) (hs : s.size ≤ 9223372036854775807) (w : World) :
    Calls Tryd.prog 43 #[.string s] w fun r w' => r = .returned (.bool (srcB s)) ∧ Below w.heap.size w w' := by
  have hd : srcB s = (nameOK s || decide (s.toList = [73, 78, 83, 69, 82, 84, 69, 68]) || decide (s.toList = [68, 69, 76, 69, 84, 69, 68])) := by rw [← eqT_lit, ← eqT_lit]; rfl
  have HS := Lib.hid hs
  clear hs
  cases hn : nameOK s
  · have HN := Lib.hid hn
    rw [hn] at hd
    clear hn
    by_cases h1 : s.toList = [73, 78, 83, 69, 82, 84, 69, 68]
    · have HD := Lib.hid (show srcB s = true by rw [hd, decide_eq_true h1]; simp)
      clear hd
      go_enter Tryd.func43, Tryd.ntmps43
      go_wp2_with fail
      refine (rvname_eq HS.out HN.out _).mono ?_
      rintro e w1 ⟨rfl, rfl⟩
      go_wp2
      go_ret
      exact ⟨ret_bool HD.out.symm, Below.refl _ _⟩
    have e1 : (s.toList == [73, 78, 83, 69, 82, 84, 69, 68]) = false := by simpa using h1
    by_cases h2 : s.toList = [68, 69, 76, 69, 84, 69, 68]
    · have HD := Lib.hid (show srcB s = true by rw [hd, decide_eq_true h2]; simp)
      clear hd h1
      go_enter Tryd.func43, Tryd.ntmps43
      go_wp2_with fail
      refine (rvname_eq HS.out HN.out _).mono ?_
      rintro e w1 ⟨rfl, rfl⟩
      go_wp2
      go_ret
      exact ⟨ret_bool HD.out.symm, Below.refl _ _⟩
    have e2 : (s.toList == [68, 69, 76, 69, 84, 69, 68]) = false := by simpa using h2
    have HD := Lib.hid (show srcB s = false by rw [hd, decide_eq_false h1, decide_eq_false h2]; rfl)
    clear hd h1 h2
    go_enter Tryd.func43, Tryd.ntmps43
    go_wp2_with fail
    refine (rvname_eq HS.out HN.out _).mono ?_
    rintro e w1 ⟨rfl, rfl⟩
    go_wp2
    go_ret
    exact ⟨ret_bool HD.out.symm, Below.refl _ _⟩
  have HN := Lib.hid hn
  have HD := Lib.hid (show srcB s = true by rw [hd, hn]; simp)
  clear hd hn
  go_enter Tryd.func43, Tryd.ntmps43
  go_wp2_with fail
  refine (rvname_eq HS.out HN.out _).mono ?_
  rintro e w1 ⟨rfl, rfl⟩
  go_wp2
  go_ret
  exact ⟨ret_bool HD.out.symm, Below.refl _ _⟩
set_option maxHeartbeats 1000000 in
theorem rplain_c (k op vk vi : Int) (no : Bool) (vt tb nm : ByteArray) (p q : Option Addr) (n c n' c' : Nat) (w : World) :
    Calls Tryd.prog 45 #[.agg #[.int .i64 k, .int .i64 op, .bool no, .int .i64 vk, .int .i64 vi, .string vt, .string tb, .string nm, .slice p n c, .slice q n' c']] w fun r w' => r = .returned (.bool (sameV vk vi vt 0 0 ⟨#[]⟩ && eqT tb ⟨#[]⟩ && eqT nm ⟨#[]⟩)) ∧ Below w.heap.size w w' := by
  rw [← empty_eqT, ← empty_eqT]
  cases hs : sameV vk vi vt 0 0 ⟨#[]⟩
  · have hq : ∀ u, (binOp .eql 26 (.agg #[.int .i64 vk, .int .i64 vi, .string vt]) (.agg #[.int .i64 0, .int .i64 0, .string ⟨#[]⟩])).run Tryd.prog u = .ok (.bool false) u := fun u => by rw [eql_val, hs]
    clear hs
    go_enter Tryd.func45, Tryd.ntmps45
    go_wp2
    go_ret
    exact ⟨rfl, below_alloc _ _⟩
  have hq : ∀ u, (binOp .eql 26 (.agg #[.int .i64 vk, .int .i64 vi, .string vt]) (.agg #[.int .i64 0, .int .i64 0, .string ⟨#[]⟩])).run Tryd.prog u = .ok (.bool true) u := fun u => by rw [eql_val, hs]
  clear hs
  cases ht : tb.toList.isEmpty
  · have e1 : (tb.toList == []) = false := by rw [List.isEmpty_eq_false_iff] at ht; simpa using ht
    clear ht
    go_enter Tryd.func45, Tryd.ntmps45
    go_wp2
    go_ret
    exact ⟨rfl, below_alloc _ _⟩
  have e1 : tb.toList = [] := List.isEmpty_iff.1 ht
  clear ht
  cases hn : nm.toList.isEmpty
  · have e2 : (nm.toList == []) = false := by rw [List.isEmpty_eq_false_iff] at hn; simpa using hn
    clear hn
    go_enter Tryd.func45, Tryd.ntmps45
    go_wp2
    go_ret
    exact ⟨rfl, below_alloc _ _⟩
  have e2 : nm.toList = [] := List.isEmpty_iff.1 hn
  clear hn
  go_enter Tryd.func45, Tryd.ntmps45
  go_wp2
  go_ret
  exact ⟨rfl, below_alloc _ _⟩
theorem rplain (e : Ex) (w : World) : Calls Tryd.prog 45 #[exV e] w fun r w' => r = .returned (.bool (plainB e)) ∧ Below w.heap.size w w' := by
  unfold plainB
  rw [noVal_same]
  exact rplain_c _ _ _ _ _ _ _ _ _ _ _ _ _ _ w
set_option maxHeartbeats 1000000 in
theorem rwrapped_c {N : Nat → Prop} {P : Ex → Prop} (k op vk vi : Int) (no : Bool) (vt tb nm : ByteArray) (p q : Option Addr) (args : List Ex) (c n' c' : Nat) (i : Nat) (w : World) (hi : i < args.length) (h3 : i < 3) (hA : LAt N w P p args) :
    Calls Tryd.prog 47 #[.agg #[.int .i64 k, .int .i64 op, .bool no, .int .i64 vk, .int .i64 vi, .string vt, .string tb, .string nm, .slice p args.length c, .slice q n' c'], .int .i64 i] w
      fun r w' => r = .returned (.bool (decide (prec (eAt args i).k (eAt args i).op < least k op i))) ∧ Below w.heap.size w w' := by
  have HA := Lib.hid (hA i hi)
  have HL := Lib.hid (fun u => rleast_any k op vk vi no vt tb nm p q args.length c n' c' i h3 u)
  clear hA
  go_enter Tryd.func47, Tryd.ntmps47
  go_upto_region 1 with (fail)
  have hb0 := below_alloc w (.cells #[.int .i64 k, .int .i64 op, .bool no, .int .i64 vk, .int .i64 vi, .string vt, .string tb, .string nm, .slice p args.length c, .slice q n' c'] 30)
  obtain ⟨g, o, rfl, hg, -, hC, -⟩ := HA.out
  have hC2 := hC.keep (hb0.block g hg)
  have hg2 := Nat.lt_of_lt_of_le hg hb0.size
  have HB2 := Lib.hid hb0
  have xl : w.heap.size < (w.alloc (.cells #[.int .i64 k, .int .i64 op, .bool no, .int .i64 vk, .int .i64 vi, .string vt, .string tb, .string nm, .slice (some ⟨g, o, none⟩) args.length c, .slice q n' c'] 30)).heap.size := by simp
  have x0 : (w.alloc (.cells #[.int .i64 k, .int .i64 op, .bool no, .int .i64 vk, .int .i64 vi, .string vt, .string tb, .string nm, .slice (some ⟨g, o, none⟩) args.length c, .slice q n' c'] 30)).cell? ⟨w.heap.size, 0, none⟩ = some (.int .i64 k) := by go_simp
  have x1 : (w.alloc (.cells #[.int .i64 k, .int .i64 op, .bool no, .int .i64 vk, .int .i64 vi, .string vt, .string tb, .string nm, .slice (some ⟨g, o, none⟩) args.length c, .slice q n' c'] 30)).cell? ⟨w.heap.size, 1, none⟩ = some (.int .i64 op) := by go_simp
  have x2 : (w.alloc (.cells #[.int .i64 k, .int .i64 op, .bool no, .int .i64 vk, .int .i64 vi, .string vt, .string tb, .string nm, .slice (some ⟨g, o, none⟩) args.length c, .slice q n' c'] 30)).cell? ⟨w.heap.size, 2, none⟩ = some (.bool no) := by go_simp
  have x3 : (w.alloc (.cells #[.int .i64 k, .int .i64 op, .bool no, .int .i64 vk, .int .i64 vi, .string vt, .string tb, .string nm, .slice (some ⟨g, o, none⟩) args.length c, .slice q n' c'] 30)).cell? ⟨w.heap.size, 3, none⟩ = some (.int .i64 vk) := by go_simp
  have x4 : (w.alloc (.cells #[.int .i64 k, .int .i64 op, .bool no, .int .i64 vk, .int .i64 vi, .string vt, .string tb, .string nm, .slice (some ⟨g, o, none⟩) args.length c, .slice q n' c'] 30)).cell? ⟨w.heap.size, 4, none⟩ = some (.int .i64 vi) := by go_simp
  have x5 : (w.alloc (.cells #[.int .i64 k, .int .i64 op, .bool no, .int .i64 vk, .int .i64 vi, .string vt, .string tb, .string nm, .slice (some ⟨g, o, none⟩) args.length c, .slice q n' c'] 30)).cell? ⟨w.heap.size, 5, none⟩ = some (.string vt) := by go_simp
  have x6 : (w.alloc (.cells #[.int .i64 k, .int .i64 op, .bool no, .int .i64 vk, .int .i64 vi, .string vt, .string tb, .string nm, .slice (some ⟨g, o, none⟩) args.length c, .slice q n' c'] 30)).cell? ⟨w.heap.size, 6, none⟩ = some (.string tb) := by go_simp
  have x7 : (w.alloc (.cells #[.int .i64 k, .int .i64 op, .bool no, .int .i64 vk, .int .i64 vi, .string vt, .string tb, .string nm, .slice (some ⟨g, o, none⟩) args.length c, .slice q n' c'] 30)).cell? ⟨w.heap.size, 7, none⟩ = some (.string nm) := by go_simp
  have x8 : (w.alloc (.cells #[.int .i64 k, .int .i64 op, .bool no, .int .i64 vk, .int .i64 vi, .string vt, .string tb, .string nm, .slice (some ⟨g, o, none⟩) args.length c, .slice q n' c'] 30)).cell? ⟨w.heap.size, 8, none⟩ = some (.slice (some ⟨g, o, none⟩) args.length c) := by go_simp
  have x9 : (w.alloc (.cells #[.int .i64 k, .int .i64 op, .bool no, .int .i64 vk, .int .i64 vi, .string vt, .string tb, .string nm, .slice (some ⟨g, o, none⟩) args.length c, .slice q n' c'] 30)).cell? ⟨w.heap.size, 9, none⟩ = some (.slice q n' c') := by go_simp
  generalize hW2 : w.alloc _ = W2 at *
  have HW2 := Lib.hid hW2
  clear hW2 hb0 hC HA
  have l0 := lowW_cell (W := W2) (by exact xl) x0
  have l1 := lowW_cell (W := W2) (by exact xl) x1
  have l2 := lowW_cell (W := W2) (by exact xl) x2
  have l3 := lowW_cell (W := W2) (by exact xl) x3
  have l4 := lowW_cell (W := W2) (by exact xl) x4
  have l5 := lowW_cell (W := W2) (by exact xl) x5
  have l6 := lowW_cell (W := W2) (by exact xl) x6
  have l7 := lowW_cell (W := W2) (by exact xl) x7
  have l8 := lowW_cell (W := W2) (by exact xl) x8
  have l9 := lowW_cell (W := W2) (by exact xl) x9
  have m0 := lowW_cell (W := W2) (by exact hg2) hC2.c0
  have m1 := lowW_cell (W := W2) (by exact hg2) hC2.c1
  have m2 := lowW_cell (W := W2) (by exact hg2) hC2.c2
  have m3 := lowW_cell (W := W2) (by exact hg2) hC2.c3
  have m4 := lowW_cell (W := W2) (by exact hg2) hC2.c4
  have m5 := lowW_cell (W := W2) (by exact hg2) hC2.c5
  have m6 := lowW_cell (W := W2) (by exact hg2) hC2.c6
  have m7 := lowW_cell (W := W2) (by exact hg2) hC2.c7
  have m8 := lowW_cell (W := W2) (by exact hg2) hC2.c8
  have m9 := lowW_cell (W := W2) (by exact hg2) hC2.c9
  have hia : (i : Int) < args.length := by omega
  have hP := Lib.hid (fun u => rprec (eAt args i) u)
  unfold exV at hP
  generalize hxe : eAt args i = x at *
  have HXE := Lib.hid hxe
  clear hxe xl x0 x1 x2 x3 x4 x5 x6 x7 x8 x9
  generalize hpl : least k op i = pl at HL
  have HPL := Lib.hid hpl
  clear hpl
  refine wp_region_low (by kernel_rfl) (by kernel_rfl) ?_
  repeat (refine wq_step (fun K hK => ?_); go_simp; first | (refine hK _ ?_; clear hK K) | (apply Exists.intro; refine ⟨fun _ => ?_, hK _ ?_⟩; (first | (go_at_call 25; exact Calls.low_of (hP.out _)) | (go_at_call 59; exact Calls.low_of (HL.out _))); clear hK K))
  refine wq_nil ?_
  rintro _ ⟨⟨d3, os3⟩, rfl⟩
  dsimp only
  have HB3 := Lib.hid (below_next HB2.out (lowW_low W2 d3 os3))
  clear l0 l1 l2 l3 l4 l5 l6 l7 l8 l9 m0 m1 m2 m3 m4 m5 m6 m7 m8 m9
  generalize lowW W2 d3 os3 = W3 at HB3 ⊢
  go_wp2
  go_ret
  exact ⟨ret_bool (by rw [HPL.out, HXE.out]), HB3.out⟩
end Go.Proofs.YtdlehlbahkikgaaDoor
/-
  Shape of reference 11.
-/
namespace Go.Proofs.YtdlehlbahkikgaaDoor
set_option maxRecDepth 100000
open Go.RowKit
variable {ls : List Nat}

set_option maxHeartbeats 1000000 in
theorem rshape_k1 (op : Int) (vk vi : Int) (no : Bool) (vt tb nm : ByteArray) (p q : Option Addr) (n c n' c' : Nat) (w : World) :
    Calls Tryd.prog 41 #[.agg #[.int .i64 1, .int .i64 op, .bool no, .int .i64 vk, .int .i64 vi, .string vt, .string tb, .string nm, .slice p n c, .slice q n' c']] w fun r w' => r = .returned (.bool (decide (n = 0) && decide (n' = 0))) ∧ Below w.heap.size w w' := by
  by_cases a : n = 0
  · subst a
    by_cases b : n' = 0
    · subst b
      go_enter Tryd.func41, Tryd.ntmps41
      go_wp2
      go_ret
      exact ⟨ret_bool (by simp), below_alloc _ _⟩
    · have b1 : ((n' : Int) == 0) = false := beq_eq_false_iff_ne.2 (by omega)
      have HB := Lib.hid (decide_eq_false b)
      clear b
      go_enter Tryd.func41, Tryd.ntmps41
      go_wp2
      go_ret
      exact ⟨ret_bool (by rw [HB.out]; simp), below_alloc _ _⟩
  have a1 : ((n : Int) == 0) = false := beq_eq_false_iff_ne.2 (by omega)
  have HB := Lib.hid (decide_eq_false a)
  clear a
  go_enter Tryd.func41, Tryd.ntmps41
  go_wp2
  go_ret
  exact ⟨ret_bool (by rw [HB.out]; simp), below_alloc _ _⟩
set_option maxHeartbeats 1000000 in
theorem rshape_k2 (op : Int) (vk vi : Int) (no : Bool) (vt tb nm : ByteArray) (p q : Option Addr) (n c n' c' : Nat) (w : World) :
    Calls Tryd.prog 41 #[.agg #[.int .i64 2, .int .i64 op, .bool no, .int .i64 vk, .int .i64 vi, .string vt, .string tb, .string nm, .slice p n c, .slice q n' c']] w fun r w' => r = .returned (.bool (decide (n = 0) && decide (n' = 0))) ∧ Below w.heap.size w w' := by
  by_cases a : n = 0
  · subst a
    by_cases b : n' = 0
    · subst b
      go_enter Tryd.func41, Tryd.ntmps41
      go_wp2
      go_ret
      exact ⟨ret_bool (by simp), below_alloc _ _⟩
    · have b1 : ((n' : Int) == 0) = false := beq_eq_false_iff_ne.2 (by omega)
      have HB := Lib.hid (decide_eq_false b)
      clear b
      go_enter Tryd.func41, Tryd.ntmps41
      go_wp2
      go_ret
      exact ⟨ret_bool (by rw [HB.out]; simp), below_alloc _ _⟩
  have a1 : ((n : Int) == 0) = false := beq_eq_false_iff_ne.2 (by omega)
  have HB := Lib.hid (decide_eq_false a)
  clear a
  go_enter Tryd.func41, Tryd.ntmps41
  go_wp2
  go_ret
  exact ⟨ret_bool (by rw [HB.out]; simp), below_alloc _ _⟩
set_option maxHeartbeats 1000000 in
theorem rshape_k3 (op : Int) (vk vi : Int) (no : Bool) (vt tb nm : ByteArray) (p q : Option Addr) (n c n' c' : Nat) (w : World) :
    Calls Tryd.prog 41 #[.agg #[.int .i64 3, .int .i64 op, .bool no, .int .i64 vk, .int .i64 vi, .string vt, .string tb, .string nm, .slice p n c, .slice q n' c']] w fun r w' => r = .returned (.bool (decide (n = 1) && decide (n' = 0))) ∧ Below w.heap.size w w' := by
  by_cases a : n = 1
  · subst a
    by_cases b : n' = 0
    · subst b
      go_enter Tryd.func41, Tryd.ntmps41
      go_wp2
      go_ret
      exact ⟨ret_bool (by simp), below_alloc _ _⟩
    · have b1 : ((n' : Int) == 0) = false := beq_eq_false_iff_ne.2 (by omega)
      have HB := Lib.hid (decide_eq_false b)
      clear b
      go_enter Tryd.func41, Tryd.ntmps41
      go_wp2
      go_ret
      exact ⟨ret_bool (by rw [HB.out]; simp), below_alloc _ _⟩
  have a1 : ((n : Int) == 1) = false := beq_eq_false_iff_ne.2 (by omega)
  have HB := Lib.hid (decide_eq_false a)
  clear a
  go_enter Tryd.func41, Tryd.ntmps41
  go_wp2
  go_ret
  exact ⟨ret_bool (by rw [HB.out]; simp), below_alloc _ _⟩
set_option maxHeartbeats 1000000 in
theorem rshape_k4 (op : Int) (vk vi : Int) (no : Bool) (vt tb nm : ByteArray) (p q : Option Addr) (n c n' c' : Nat) (w : World) :
    Calls Tryd.prog 41 #[.agg #[.int .i64 4, .int .i64 op, .bool no, .int .i64 vk, .int .i64 vi, .string vt, .string tb, .string nm, .slice p n c, .slice q n' c']] w fun r w' => r = .returned (.bool (decide (n = 1) && decide (n' = 0))) ∧ Below w.heap.size w w' := by
  by_cases a : n = 1
  · subst a
    by_cases b : n' = 0
    · subst b
      go_enter Tryd.func41, Tryd.ntmps41
      go_wp2
      go_ret
      exact ⟨ret_bool (by simp), below_alloc _ _⟩
    · have b1 : ((n' : Int) == 0) = false := beq_eq_false_iff_ne.2 (by omega)
      have HB := Lib.hid (decide_eq_false b)
      clear b
      go_enter Tryd.func41, Tryd.ntmps41
      go_wp2
      go_ret
      exact ⟨ret_bool (by rw [HB.out]; simp), below_alloc _ _⟩
  have a1 : ((n : Int) == 1) = false := beq_eq_false_iff_ne.2 (by omega)
  have HB := Lib.hid (decide_eq_false a)
  clear a
  go_enter Tryd.func41, Tryd.ntmps41
  go_wp2
  go_ret
  exact ⟨ret_bool (by rw [HB.out]; simp), below_alloc _ _⟩
set_option maxHeartbeats 1000000 in
theorem rshape_k6 (op : Int) (vk vi : Int) (no : Bool) (vt tb nm : ByteArray) (p q : Option Addr) (n c n' c' : Nat) (w : World) :
    Calls Tryd.prog 41 #[.agg #[.int .i64 6, .int .i64 op, .bool no, .int .i64 vk, .int .i64 vi, .string vt, .string tb, .string nm, .slice p n c, .slice q n' c']] w fun r w' => r = .returned (.bool (decide (n = 1) && decide (n' = 0))) ∧ Below w.heap.size w w' := by
  by_cases a : n = 1
  · subst a
    by_cases b : n' = 0
    · subst b
      go_enter Tryd.func41, Tryd.ntmps41
      go_wp2
      go_ret
      exact ⟨ret_bool (by simp), below_alloc _ _⟩
    · have b1 : ((n' : Int) == 0) = false := beq_eq_false_iff_ne.2 (by omega)
      have HB := Lib.hid (decide_eq_false b)
      clear b
      go_enter Tryd.func41, Tryd.ntmps41
      go_wp2
      go_ret
      exact ⟨ret_bool (by rw [HB.out]; simp), below_alloc _ _⟩
  have a1 : ((n : Int) == 1) = false := beq_eq_false_iff_ne.2 (by omega)
  have HB := Lib.hid (decide_eq_false a)
  clear a
  go_enter Tryd.func41, Tryd.ntmps41
  go_wp2
  go_ret
  exact ⟨ret_bool (by rw [HB.out]; simp), below_alloc _ _⟩
set_option maxHeartbeats 1000000 in
theorem rshape_k7 (op : Int) (vk vi : Int) (no : Bool) (vt tb nm : ByteArray) (p q : Option Addr) (n c n' c' : Nat) (w : World) :
    Calls Tryd.prog 41 #[.agg #[.int .i64 7, .int .i64 op, .bool no, .int .i64 vk, .int .i64 vi, .string vt, .string tb, .string nm, .slice p n c, .slice q n' c']] w fun r w' => r = .returned (.bool (decide (n = 3) && decide (n' = 0))) ∧ Below w.heap.size w w' := by
  by_cases a : n = 3
  · subst a
    by_cases b : n' = 0
    · subst b
      go_enter Tryd.func41, Tryd.ntmps41
      go_wp2
      go_ret
      exact ⟨ret_bool (by simp), below_alloc _ _⟩
    · have b1 : ((n' : Int) == 0) = false := beq_eq_false_iff_ne.2 (by omega)
      have HB := Lib.hid (decide_eq_false b)
      clear b
      go_enter Tryd.func41, Tryd.ntmps41
      go_wp2
      go_ret
      exact ⟨ret_bool (by rw [HB.out]; simp), below_alloc _ _⟩
  have a1 : ((n : Int) == 3) = false := beq_eq_false_iff_ne.2 (by omega)
  have HB := Lib.hid (decide_eq_false a)
  clear a
  go_enter Tryd.func41, Tryd.ntmps41
  go_wp2
  go_ret
  exact ⟨ret_bool (by rw [HB.out]; simp), below_alloc _ _⟩
set_option maxHeartbeats 1000000 in
theorem rshape_k5 (op : Int) (h : 1 ≤ op ∧ op ≤ 13) (vk vi : Int) (no : Bool) (vt tb nm : ByteArray) (p q : Option Addr) (n c n' c' : Nat) (w : World) :
    Calls Tryd.prog 41 #[.agg #[.int .i64 5, .int .i64 op, .bool no, .int .i64 vk, .int .i64 vi, .string vt, .string tb, .string nm, .slice p n c, .slice q n' c']] w fun r w' => r = .returned (.bool (decide (n = 2) && decide (n' = 0))) ∧ Below w.heap.size w w' := by
  have o1 : decide (op < 1) = false := decide_eq_false (by omega)
  have o2 : decide (13 < op) = false := decide_eq_false (by omega)
  clear h
  by_cases a : n = 2
  · subst a
    by_cases b : n' = 0
    · subst b
      go_enter Tryd.func41, Tryd.ntmps41
      go_wp2
      go_ret
      exact ⟨ret_bool (by simp), below_alloc _ _⟩
    · have b1 : ((n' : Int) == 0) = false := beq_eq_false_iff_ne.2 (by omega)
      have HB := Lib.hid (decide_eq_false b)
      clear b
      go_enter Tryd.func41, Tryd.ntmps41
      go_wp2
      go_ret
      exact ⟨ret_bool (by rw [HB.out]; simp), below_alloc _ _⟩
  have a1 : ((n : Int) == 2) = false := beq_eq_false_iff_ne.2 (by omega)
  have HB := Lib.hid (decide_eq_false a)
  clear a
  go_enter Tryd.func41, Tryd.ntmps41
  go_wp2
  go_ret
  exact ⟨ret_bool (by rw [HB.out]; simp), below_alloc _ _⟩
set_option maxHeartbeats 1000000 in
theorem rshape_lo (op : Int) (h : op < 1) (vk vi : Int) (no : Bool) (vt tb nm : ByteArray) (p q : Option Addr) (n c n' c' : Nat) (w : World) :
    Calls Tryd.prog 41 #[.agg #[.int .i64 5, .int .i64 op, .bool no, .int .i64 vk, .int .i64 vi, .string vt, .string tb, .string nm, .slice p n c, .slice q n' c']] w fun r w' => r = .returned (.bool false) ∧ Below w.heap.size w w' := by
  have o1 : decide (op < 1) = true := decide_eq_true h
  clear h
  go_enter Tryd.func41, Tryd.ntmps41
  go_wp2
  go_ret
  exact ⟨rfl, below_alloc _ _⟩
set_option maxHeartbeats 1000000 in
theorem rshape_hi (op : Int) (h : 13 < op) (vk vi : Int) (no : Bool) (vt tb nm : ByteArray) (p q : Option Addr) (n c n' c' : Nat) (w : World) :
    Calls Tryd.prog 41 #[.agg #[.int .i64 5, .int .i64 op, .bool no, .int .i64 vk, .int .i64 vi, .string vt, .string tb, .string nm, .slice p n c, .slice q n' c']] w fun r w' => r = .returned (.bool false) ∧ Below w.heap.size w w' := by
  have o1 : decide (op < 1) = false := decide_eq_false (by omega)
  have o2 : decide (13 < op) = true := decide_eq_true h
  clear h
  go_enter Tryd.func41, Tryd.ntmps41
  go_wp2
  go_ret
  exact ⟨rfl, below_alloc _ _⟩
set_option maxHeartbeats 1000000 in
theorem rshape_other (k op : Int) (h : k < 1 ∨ 12 < k) (vk vi : Int) (no : Bool) (vt tb nm : ByteArray) (p q : Option Addr) (n c n' c' : Nat) (w : World) :
    Calls Tryd.prog 41 #[.agg #[.int .i64 k, .int .i64 op, .bool no, .int .i64 vk, .int .i64 vi, .string vt, .string tb, .string nm, .slice p n c, .slice q n' c']] w fun r w' => r = .returned (.bool false) ∧ Below w.heap.size w w' := by
  have e1 : (k == 1) = false := beq_eq_false_iff_ne.2 (by omega)
  have e2 : (k == 2) = false := beq_eq_false_iff_ne.2 (by omega)
  have e3 : (k == 3) = false := beq_eq_false_iff_ne.2 (by omega)
  have e4 : (k == 4) = false := beq_eq_false_iff_ne.2 (by omega)
  have e5 : (k == 5) = false := beq_eq_false_iff_ne.2 (by omega)
  have e6 : (k == 6) = false := beq_eq_false_iff_ne.2 (by omega)
  have e7 : (k == 7) = false := beq_eq_false_iff_ne.2 (by omega)
  have e8 : (k == 8) = false := beq_eq_false_iff_ne.2 (by omega)
  have e9 : (k == 9) = false := beq_eq_false_iff_ne.2 (by omega)
  have e10 : (k == 10) = false := beq_eq_false_iff_ne.2 (by omega)
  have e11 : (k == 11) = false := beq_eq_false_iff_ne.2 (by omega)
  have e12 : (k == 12) = false := beq_eq_false_iff_ne.2 (by omega)
  clear h
  go_enter Tryd.func41, Tryd.ntmps41
  go_wp2
  go_ret
  exact ⟨rfl, below_alloc _ _⟩
set_option maxHeartbeats 1000000 in
theorem rshape_k8 (op : Int) (vk vi : Int) (no : Bool) (vt tb nm : ByteArray) (p q : Option Addr) (n c n' c' : Nat) (w : World) (pi : Option Addr) (li ci : Nat) (pw : Option Addr) (lw cw : Nat) (hS : n' = 1 → ∃ g o : Nat, q = some ⟨g, o, none⟩ ∧ g < w.heap.size ∧ w.cell? ⟨g, o + 1, none⟩ = some (.slice pi li ci) ∧ w.cell? ⟨g, o + 3, none⟩ = some (.slice pw lw cw)) :
    Calls Tryd.prog 41 #[.agg #[.int .i64 8, .int .i64 op, .bool no, .int .i64 vk, .int .i64 vi, .string vt, .string tb, .string nm, .slice p n c, .slice q n' c']] w fun r w' => r = .returned (.bool (decide (n = 0) && decide (n' = 1) && decide (li = 0) && decide (lw ≤ 1))) ∧ Below w.heap.size w w' := by
  have HS := Lib.hid hS
  clear hS
  by_cases a : n = 0
  · subst a
    by_cases b : n' = 1
    · subst b
      obtain ⟨g, o, rfl, hg, h1, h3⟩ := HS.out rfl
      have hb0 := below_alloc w (.cells #[.int .i64 8, .int .i64 op, .bool no, .int .i64 vk, .int .i64 vi, .string vt, .string tb, .string nm, .slice p 0 c, .slice (some ⟨g, o, none⟩) 1 c'] 30)
      have g1 := (hb0.cell (p := ⟨g, o + 1, none⟩) (by exact hg)).trans h1
      have g3 := (hb0.cell (p := ⟨g, o + 3, none⟩) (by exact hg)).trans h3
      clear hb0 h1 h3 HS
      by_cases d : li = 0
      · subst d
        by_cases e : lw ≤ 1
        · have e1 : decide ((lw : Int) ≤ 1) = true := decide_eq_true (by omega)
          have HB := Lib.hid (decide_eq_true e)
          clear e
          go_enter Tryd.func41, Tryd.ntmps41
          go_wp2
          go_ret
          exact ⟨ret_bool (by rw [HB.out]; simp), below_alloc _ _⟩
        · have e1 : decide ((lw : Int) ≤ 1) = false := decide_eq_false (by omega)
          have HB := Lib.hid (decide_eq_false e)
          clear e
          go_enter Tryd.func41, Tryd.ntmps41
          go_wp2
          go_ret
          exact ⟨ret_bool (by rw [HB.out]; simp), below_alloc _ _⟩
      · have d1 : ((li : Int) == 0) = false := beq_eq_false_iff_ne.2 (by omega)
        have HB := Lib.hid (decide_eq_false d)
        clear d
        go_enter Tryd.func41, Tryd.ntmps41
        go_wp2
        go_ret
        exact ⟨ret_bool (by rw [HB.out]; simp), below_alloc _ _⟩
    · have b1 : ((n' : Int) == 1) = false := beq_eq_false_iff_ne.2 (by omega)
      have HB := Lib.hid (decide_eq_false b)
      clear b
      go_enter Tryd.func41, Tryd.ntmps41
      go_wp2
      go_ret
      exact ⟨ret_bool (by rw [HB.out]; simp), below_alloc _ _⟩
  have a1 : ((n : Int) == 0) = false := beq_eq_false_iff_ne.2 (by omega)
  have HB := Lib.hid (decide_eq_false a)
  clear a
  go_enter Tryd.func41, Tryd.ntmps41
  go_wp2
  go_ret
  exact ⟨ret_bool (by rw [HB.out]; simp), below_alloc _ _⟩
set_option maxHeartbeats 1000000 in
theorem rshape_k9 (op : Int) (vk vi : Int) (no : Bool) (vt tb nm : ByteArray) (p q : Option Addr) (n c n' c' : Nat) (w : World) (pi : Option Addr) (li ci : Nat) (pw : Option Addr) (lw cw : Nat) (hS : n' = 1 → ∃ g o : Nat, q = some ⟨g, o, none⟩ ∧ g < w.heap.size ∧ w.cell? ⟨g, o + 1, none⟩ = some (.slice pi li ci) ∧ w.cell? ⟨g, o + 3, none⟩ = some (.slice pw lw cw)) :
    Calls Tryd.prog 41 #[.agg #[.int .i64 9, .int .i64 op, .bool no, .int .i64 vk, .int .i64 vi, .string vt, .string tb, .string nm, .slice p n c, .slice q n' c']] w fun r w' => r = .returned (.bool (decide (n = 0) && decide (n' = 1) && decide (li = 0) && decide (lw ≤ 1))) ∧ Below w.heap.size w w' := by
  have HS := Lib.hid hS
  clear hS
  by_cases a : n = 0
  · subst a
    by_cases b : n' = 1
    · subst b
      obtain ⟨g, o, rfl, hg, h1, h3⟩ := HS.out rfl
      have hb0 := below_alloc w (.cells #[.int .i64 9, .int .i64 op, .bool no, .int .i64 vk, .int .i64 vi, .string vt, .string tb, .string nm, .slice p 0 c, .slice (some ⟨g, o, none⟩) 1 c'] 30)
      have g1 := (hb0.cell (p := ⟨g, o + 1, none⟩) (by exact hg)).trans h1
      have g3 := (hb0.cell (p := ⟨g, o + 3, none⟩) (by exact hg)).trans h3
      clear hb0 h1 h3 HS
      by_cases d : li = 0
      · subst d
        by_cases e : lw ≤ 1
        · have e1 : decide ((lw : Int) ≤ 1) = true := decide_eq_true (by omega)
          have HB := Lib.hid (decide_eq_true e)
          clear e
          go_enter Tryd.func41, Tryd.ntmps41
          go_wp2
          go_ret
          exact ⟨ret_bool (by rw [HB.out]; simp), below_alloc _ _⟩
        · have e1 : decide ((lw : Int) ≤ 1) = false := decide_eq_false (by omega)
          have HB := Lib.hid (decide_eq_false e)
          clear e
          go_enter Tryd.func41, Tryd.ntmps41
          go_wp2
          go_ret
          exact ⟨ret_bool (by rw [HB.out]; simp), below_alloc _ _⟩
      · have d1 : ((li : Int) == 0) = false := beq_eq_false_iff_ne.2 (by omega)
        have HB := Lib.hid (decide_eq_false d)
        clear d
        go_enter Tryd.func41, Tryd.ntmps41
        go_wp2
        go_ret
        exact ⟨ret_bool (by rw [HB.out]; simp), below_alloc _ _⟩
    · have b1 : ((n' : Int) == 1) = false := beq_eq_false_iff_ne.2 (by omega)
      have HB := Lib.hid (decide_eq_false b)
      clear b
      go_enter Tryd.func41, Tryd.ntmps41
      go_wp2
      go_ret
      exact ⟨ret_bool (by rw [HB.out]; simp), below_alloc _ _⟩
  have a1 : ((n : Int) == 0) = false := beq_eq_false_iff_ne.2 (by omega)
  have HB := Lib.hid (decide_eq_false a)
  clear a
  go_enter Tryd.func41, Tryd.ntmps41
  go_wp2
  go_ret
  exact ⟨ret_bool (by rw [HB.out]; simp), below_alloc _ _⟩
set_option maxHeartbeats 1000000 in
theorem rshape_k10 (op : Int) (vk vi : Int) (no : Bool) (vt tb nm : ByteArray) (p q : Option Addr) (n c n' c' : Nat) (w : World) (pi : Option Addr) (li ci : Nat) (pw : Option Addr) (lw cw : Nat) (hS : n' = 1 → ∃ g o : Nat, q = some ⟨g, o, none⟩ ∧ g < w.heap.size ∧ w.cell? ⟨g, o + 1, none⟩ = some (.slice pi li ci) ∧ w.cell? ⟨g, o + 3, none⟩ = some (.slice pw lw cw)) :
    Calls Tryd.prog 41 #[.agg #[.int .i64 10, .int .i64 op, .bool no, .int .i64 vk, .int .i64 vi, .string vt, .string tb, .string nm, .slice p n c, .slice q n' c']] w fun r w' => r = .returned (.bool (decide (n = 0) && decide (n' = 1) && decide (li = 1) && decide (lw ≤ 1))) ∧ Below w.heap.size w w' := by
  have HS := Lib.hid hS
  clear hS
  by_cases a : n = 0
  · subst a
    by_cases b : n' = 1
    · subst b
      obtain ⟨g, o, rfl, hg, h1, h3⟩ := HS.out rfl
      have hb0 := below_alloc w (.cells #[.int .i64 10, .int .i64 op, .bool no, .int .i64 vk, .int .i64 vi, .string vt, .string tb, .string nm, .slice p 0 c, .slice (some ⟨g, o, none⟩) 1 c'] 30)
      have g1 := (hb0.cell (p := ⟨g, o + 1, none⟩) (by exact hg)).trans h1
      have g3 := (hb0.cell (p := ⟨g, o + 3, none⟩) (by exact hg)).trans h3
      clear hb0 h1 h3 HS
      by_cases d : li = 1
      · subst d
        by_cases e : lw ≤ 1
        · have e1 : decide ((lw : Int) ≤ 1) = true := decide_eq_true (by omega)
          have HB := Lib.hid (decide_eq_true e)
          clear e
          go_enter Tryd.func41, Tryd.ntmps41
          go_wp2
          go_ret
          exact ⟨ret_bool (by rw [HB.out]; simp), below_alloc _ _⟩
        · have e1 : decide ((lw : Int) ≤ 1) = false := decide_eq_false (by omega)
          have HB := Lib.hid (decide_eq_false e)
          clear e
          go_enter Tryd.func41, Tryd.ntmps41
          go_wp2
          go_ret
          exact ⟨ret_bool (by rw [HB.out]; simp), below_alloc _ _⟩
      · have d1 : ((li : Int) == 1) = false := beq_eq_false_iff_ne.2 (by omega)
        have HB := Lib.hid (decide_eq_false d)
        clear d
        go_enter Tryd.func41, Tryd.ntmps41
        go_wp2
        go_ret
        exact ⟨ret_bool (by rw [HB.out]; simp), below_alloc _ _⟩
    · have b1 : ((n' : Int) == 1) = false := beq_eq_false_iff_ne.2 (by omega)
      have HB := Lib.hid (decide_eq_false b)
      clear b
      go_enter Tryd.func41, Tryd.ntmps41
      go_wp2
      go_ret
      exact ⟨ret_bool (by rw [HB.out]; simp), below_alloc _ _⟩
  have a1 : ((n : Int) == 0) = false := beq_eq_false_iff_ne.2 (by omega)
  have HB := Lib.hid (decide_eq_false a)
  clear a
  go_enter Tryd.func41, Tryd.ntmps41
  go_wp2
  go_ret
  exact ⟨ret_bool (by rw [HB.out]; simp), below_alloc _ _⟩
set_option maxHeartbeats 1000000 in
theorem rshape_k11 (op : Int) (vk vi : Int) (no : Bool) (vt tb nm : ByteArray) (p q : Option Addr) (n c n' c' : Nat) (w : World) (pi : Option Addr) (li ci : Nat) (pw : Option Addr) (lw cw : Nat) (hS : n' = 1 → ∃ g o : Nat, q = some ⟨g, o, none⟩ ∧ g < w.heap.size ∧ w.cell? ⟨g, o + 1, none⟩ = some (.slice pi li ci) ∧ w.cell? ⟨g, o + 3, none⟩ = some (.slice pw lw cw)) :
    Calls Tryd.prog 41 #[.agg #[.int .i64 11, .int .i64 op, .bool no, .int .i64 vk, .int .i64 vi, .string vt, .string tb, .string nm, .slice p n c, .slice q n' c']] w fun r w' => r = .returned (.bool (decide (n = 0) && decide (n' = 1) && decide (li = 1) && decide (lw ≤ 1))) ∧ Below w.heap.size w w' := by
  have HS := Lib.hid hS
  clear hS
  by_cases a : n = 0
  · subst a
    by_cases b : n' = 1
    · subst b
      obtain ⟨g, o, rfl, hg, h1, h3⟩ := HS.out rfl
      have hb0 := below_alloc w (.cells #[.int .i64 11, .int .i64 op, .bool no, .int .i64 vk, .int .i64 vi, .string vt, .string tb, .string nm, .slice p 0 c, .slice (some ⟨g, o, none⟩) 1 c'] 30)
      have g1 := (hb0.cell (p := ⟨g, o + 1, none⟩) (by exact hg)).trans h1
      have g3 := (hb0.cell (p := ⟨g, o + 3, none⟩) (by exact hg)).trans h3
      clear hb0 h1 h3 HS
      by_cases d : li = 1
      · subst d
        by_cases e : lw ≤ 1
        · have e1 : decide ((lw : Int) ≤ 1) = true := decide_eq_true (by omega)
          have HB := Lib.hid (decide_eq_true e)
          clear e
          go_enter Tryd.func41, Tryd.ntmps41
          go_wp2
          go_ret
          exact ⟨ret_bool (by rw [HB.out]; simp), below_alloc _ _⟩
        · have e1 : decide ((lw : Int) ≤ 1) = false := decide_eq_false (by omega)
          have HB := Lib.hid (decide_eq_false e)
          clear e
          go_enter Tryd.func41, Tryd.ntmps41
          go_wp2
          go_ret
          exact ⟨ret_bool (by rw [HB.out]; simp), below_alloc _ _⟩
      · have d1 : ((li : Int) == 1) = false := beq_eq_false_iff_ne.2 (by omega)
        have HB := Lib.hid (decide_eq_false d)
        clear d
        go_enter Tryd.func41, Tryd.ntmps41
        go_wp2
        go_ret
        exact ⟨ret_bool (by rw [HB.out]; simp), below_alloc _ _⟩
    · have b1 : ((n' : Int) == 1) = false := beq_eq_false_iff_ne.2 (by omega)
      have HB := Lib.hid (decide_eq_false b)
      clear b
      go_enter Tryd.func41, Tryd.ntmps41
      go_wp2
      go_ret
      exact ⟨ret_bool (by rw [HB.out]; simp), below_alloc _ _⟩
  have a1 : ((n : Int) == 0) = false := beq_eq_false_iff_ne.2 (by omega)
  have HB := Lib.hid (decide_eq_false a)
  clear a
  go_enter Tryd.func41, Tryd.ntmps41
  go_wp2
  go_ret
  exact ⟨ret_bool (by rw [HB.out]; simp), below_alloc _ _⟩
set_option maxHeartbeats 1000000 in
theorem rshape_k12 (op : Int) (vk vi : Int) (no : Bool) (vt tb nm : ByteArray) (p q : Option Addr) (n c n' c' : Nat) (w : World) (pi : Option Addr) (li ci : Nat) (pw : Option Addr) (lw cw : Nat) (hS : n' = 1 → ∃ g o : Nat, q = some ⟨g, o, none⟩ ∧ g < w.heap.size ∧ w.cell? ⟨g, o + 1, none⟩ = some (.slice pi li ci) ∧ w.cell? ⟨g, o + 3, none⟩ = some (.slice pw lw cw)) :
    Calls Tryd.prog 41 #[.agg #[.int .i64 12, .int .i64 op, .bool no, .int .i64 vk, .int .i64 vi, .string vt, .string tb, .string nm, .slice p n c, .slice q n' c']] w fun r w' => r = .returned (.bool (decide (n = 0) && decide (n' = 1) && decide (li = 1) && decide (lw ≤ 1))) ∧ Below w.heap.size w w' := by
  have HS := Lib.hid hS
  clear hS
  by_cases a : n = 0
  · subst a
    by_cases b : n' = 1
    · subst b
      obtain ⟨g, o, rfl, hg, h1, h3⟩ := HS.out rfl
      have hb0 := below_alloc w (.cells #[.int .i64 12, .int .i64 op, .bool no, .int .i64 vk, .int .i64 vi, .string vt, .string tb, .string nm, .slice p 0 c, .slice (some ⟨g, o, none⟩) 1 c'] 30)
      have g1 := (hb0.cell (p := ⟨g, o + 1, none⟩) (by exact hg)).trans h1
      have g3 := (hb0.cell (p := ⟨g, o + 3, none⟩) (by exact hg)).trans h3
      clear hb0 h1 h3 HS
      by_cases d : li = 1
      · subst d
        by_cases e : lw ≤ 1
        · have e1 : decide ((lw : Int) ≤ 1) = true := decide_eq_true (by omega)
          have HB := Lib.hid (decide_eq_true e)
          clear e
          go_enter Tryd.func41, Tryd.ntmps41
          go_wp2
          go_ret
          exact ⟨ret_bool (by rw [HB.out]; simp), below_alloc _ _⟩
        · have e1 : decide ((lw : Int) ≤ 1) = false := decide_eq_false (by omega)
          have HB := Lib.hid (decide_eq_false e)
          clear e
          go_enter Tryd.func41, Tryd.ntmps41
          go_wp2
          go_ret
          exact ⟨ret_bool (by rw [HB.out]; simp), below_alloc _ _⟩
      · have d1 : ((li : Int) == 1) = false := beq_eq_false_iff_ne.2 (by omega)
        have HB := Lib.hid (decide_eq_false d)
        clear d
        go_enter Tryd.func41, Tryd.ntmps41
        go_wp2
        go_ret
        exact ⟨ret_bool (by rw [HB.out]; simp), below_alloc _ _⟩
    · have b1 : ((n' : Int) == 1) = false := beq_eq_false_iff_ne.2 (by omega)
      have HB := Lib.hid (decide_eq_false b)
      clear b
      go_enter Tryd.func41, Tryd.ntmps41
      go_wp2
      go_ret
      exact ⟨ret_bool (by rw [HB.out]; simp), below_alloc _ _⟩
  have a1 : ((n : Int) == 0) = false := beq_eq_false_iff_ne.2 (by omega)
  have HB := Lib.hid (decide_eq_false a)
  clear a
  go_enter Tryd.func41, Tryd.ntmps41
  go_wp2
  go_ret
  exact ⟨ret_bool (by rw [HB.out]; simp), below_alloc _ _⟩
/-- What Shape asks. -/
def shapeB (e : Ex) : Bool :=
  decide (1 ≤ e.k ∧ e.k ≤ 12) && decide (e.args.length = argN e.k) && decide (e.sub.length = subN e.k) && (if e.k = 5 then decide (1 ≤ e.op ∧ e.op ≤ 13) else true)
  && (if 8 ≤ e.k then decide ((qAt e.sub 0).items.length = itemN e.k) && decide ((qAt e.sub 0).wh.length ≤ 1) else true)
theorem rshape {N : Nat → Prop} {P : Ex → Prop} (e : Ex) (w : World) (hQ : QAt N w P e.ps e.sub) :
    Calls Tryd.prog 41 #[exV e] w fun r w' => r = .returned (.bool (shapeB e)) ∧ Below w.heap.size w w' := by
  have hS : e.sub.length = 1 → ∃ g o : Nat, e.ps = some ⟨g, o, none⟩ ∧ g < w.heap.size ∧ w.cell? ⟨g, o + 1, none⟩ = some (.slice (qAt e.sub 0).pi (qAt e.sub 0).items.length (qAt e.sub 0).ci) ∧ w.cell? ⟨g, o + 3, none⟩ = some (.slice (qAt e.sub 0).pw (qAt e.sub 0).wh.length (qAt e.sub 0).cw) := fun h => by
    obtain ⟨g, o, h1, h2, -, h4, -⟩ := hQ 0 (by omega)
    exact ⟨g, o, h1, h2, by simpa using h4.c1, by simpa using h4.c3⟩
  by_cases hr : e.k < 1 ∨ 12 < e.k
  · rw [show shapeB e = false by unfold shapeB; rw [decide_eq_false (by omega)]; rfl]
    exact rshape_other e.k e.op hr _ _ _ _ _ _ _ _ _ _ _ _ w
  have hk : e.k = 1 ∨ e.k = 2 ∨ e.k = 3 ∨ e.k = 4 ∨ e.k = 5 ∨ e.k = 6 ∨ e.k = 7 ∨ e.k = 8 ∨ e.k = 9 ∨ e.k = 10 ∨ e.k = 11 ∨ e.k = 12 := by omega
  clear hr
  unfold shapeB exV
  generalize e.k = k at *
  generalize e.op = op at *
  rcases hk with rfl | rfl | rfl | rfl | rfl | rfl | rfl | rfl | rfl | rfl | rfl | rfl
  case inr.inr.inr.inr.inl =>
    by_cases h1 : op < 1
    · rw [show decide (1 ≤ op ∧ op ≤ 13) = false from decide_eq_false (by omega)]
      exact (rshape_lo op h1 _ _ _ _ _ _ _ _ _ _ _ _ w).mono fun r w' h => ⟨h.1.trans (ret_bool (by simp)), h.2⟩
    by_cases h2 : 13 < op
    · rw [show decide (1 ≤ op ∧ op ≤ 13) = false from decide_eq_false (by omega)]
      exact (rshape_hi op h2 _ _ _ _ _ _ _ _ _ _ _ _ w).mono fun r w' h => ⟨h.1.trans (ret_bool (by simp)), h.2⟩
    · rw [show decide (1 ≤ op ∧ op ≤ 13) = true from decide_eq_true (by omega)]
      exact (rshape_k5 op (by omega) _ _ _ _ _ _ _ _ _ _ _ _ w).mono fun r w' h => ⟨h.1.trans (ret_bool (by simp [argN, subN])), h.2⟩
  case inl => exact (rshape_k1 op _ _ _ _ _ _ _ _ _ _ _ _ w).mono fun r w' h => ⟨h.1.trans (ret_bool (by simp [argN, subN])), h.2⟩
  case inr.inl => exact (rshape_k2 op _ _ _ _ _ _ _ _ _ _ _ _ w).mono fun r w' h => ⟨h.1.trans (ret_bool (by simp [argN, subN])), h.2⟩
  case inr.inr.inl => exact (rshape_k3 op _ _ _ _ _ _ _ _ _ _ _ _ w).mono fun r w' h => ⟨h.1.trans (ret_bool (by simp [argN, subN])), h.2⟩
  case inr.inr.inr.inl => exact (rshape_k4 op _ _ _ _ _ _ _ _ _ _ _ _ w).mono fun r w' h => ⟨h.1.trans (ret_bool (by simp [argN, subN])), h.2⟩
  case inr.inr.inr.inr.inr.inl => exact (rshape_k6 op _ _ _ _ _ _ _ _ _ _ _ _ w).mono fun r w' h => ⟨h.1.trans (ret_bool (by simp [argN, subN])), h.2⟩
  case inr.inr.inr.inr.inr.inr.inl => exact (rshape_k7 op _ _ _ _ _ _ _ _ _ _ _ _ w).mono fun r w' h => ⟨h.1.trans (ret_bool (by simp [argN, subN])), h.2⟩
  case inr.inr.inr.inr.inr.inr.inr.inl => exact (rshape_k8 op _ _ _ _ _ _ _ _ _ _ _ _ w _ _ _ _ _ _ hS).mono fun r w' h => ⟨h.1.trans (ret_bool (by simp [argN, subN, itemN, Bool.and_assoc])), h.2⟩
  case inr.inr.inr.inr.inr.inr.inr.inr.inl => exact (rshape_k9 op _ _ _ _ _ _ _ _ _ _ _ _ w _ _ _ _ _ _ hS).mono fun r w' h => ⟨h.1.trans (ret_bool (by simp [argN, subN, itemN, Bool.and_assoc])), h.2⟩
  case inr.inr.inr.inr.inr.inr.inr.inr.inr.inl => exact (rshape_k10 op _ _ _ _ _ _ _ _ _ _ _ _ w _ _ _ _ _ _ hS).mono fun r w' h => ⟨h.1.trans (ret_bool (by simp [argN, subN, itemN, Bool.and_assoc])), h.2⟩
  case inr.inr.inr.inr.inr.inr.inr.inr.inr.inr.inl => exact (rshape_k11 op _ _ _ _ _ _ _ _ _ _ _ _ w _ _ _ _ _ _ hS).mono fun r w' h => ⟨h.1.trans (ret_bool (by simp [argN, subN, itemN, Bool.and_assoc])), h.2⟩
  case inr.inr.inr.inr.inr.inr.inr.inr.inr.inr.inr => exact (rshape_k12 op _ _ _ _ _ _ _ _ _ _ _ _ w _ _ _ _ _ _ hS).mono fun r w' h => ⟨h.1.trans (ret_bool (by simp [argN, subN, itemN, Bool.and_assoc])), h.2⟩
end Go.Proofs.YtdlehlbahkikgaaDoor
/-
  ValidExpr of reference 11, and what it calls: over trees in memory.
-/
namespace Go.Proofs.YtdlehlbahkikgaaDoor
set_option maxRecDepth 100000
open Go.RowKit
variable {ls : List Nat}

/-- ValidExpr over trees of at most d storeys. -/
def RValDoes (d : Nat) : Prop := ∀ (N : Nat → Prop) (e : Ex) (w : World), ExAt N w d e →
    Calls Tryd.prog 24 #[exV e] w fun r w' => r = .returned (.bool (vE d e)) ∧ Below w.heap.size w w'
set_option maxHeartbeats 1000000 in
theorem rall_any {d : Nat} (H : RValDoes d) {N : Nat → Prop} (p : Option Addr) (l : List Ex) (cap : Nat) (w : World) (hA : LAt N w (ExAt N w d) p l) (hz : l.length ≤ 9223372036854775807) :
    Calls Tryd.prog 46 #[.slice p l.length cap] w fun r w' => r = .returned (.bool (l.all (vE d))) ∧ Below w.heap.size w w' := by
  have HA := Lib.hid hA
  have HD := Lib.hid H
  clear hA H
  have HH := Lib.hid (fun k hk h => all_hit (V := vE d) (l := l) (k := k) hk h)
  have HNN := Lib.hid (fun h => all_none (V := vE d) (l := l) h)
  generalize l.all (vE d) = res at *
  generalize hn : l.length = n at *
  have HN := Lib.hid hn
  clear hn
  go_enter Tryd.func46, Tryd.ntmps46
  go_wp2_with fail
  go_loopw [7] (fun i v => ∃ k : Nat, k ≤ n ∧ i = .int .i64 k ∧ (∀ j, j < k → vE d (eAt l j) = true) ∧ Below w.heap.size w v) (fun i _ => n - (intOf i).toNat)
  case atStart => exact ⟨0, Nat.zero_le _, rfl, fun j hj => by omega, Below.refl _ _⟩
  case round =>
    obtain ⟨k, hk, rfl, ha, hb⟩ := hrel
    have HB := Lib.hid hb
    have HAK := Lib.hid ha
    clear hb ha
    by_cases hlt : k < n
    · have hlt' : decide ((k : Int) < n) = true := decide_eq_true (by omega)
      have hkl : k < l.length := by rw [HN.out]; exact hlt
      obtain ⟨g, o, rfl, hg, hN, hC, hX⟩ := HA.out.low HB.out k hkl
      have HX := Lib.hid hX
      have HHK := Lib.hid (HH.out k hlt)
      clear hX
      obtain ⟨c0, c1, c2, c3, c4, c5, c6, c7, c8, c9⟩ := hC
      generalize hxe : eAt l k = x at *
      have HXE := Lib.hid hxe
      clear hxe
      go_wp2_with fail
      refine (HD.out N x _ (HX.out.low (below_alloc _ _))).mono ?_
      rintro e w' ⟨rfl, hb⟩
      have HB2 := Lib.hid (below_next HB.out (Below.of_alloc hb))
      clear hb c0 c1 c2 c3 c4 c5 c6 c7 c8 c9
      cases hv : vE d x
      · have HV := Lib.hid (HHK.out hv)
        clear hv
        go_wp2
        go_ret
        exact ⟨ret_bool HV.out.symm, HB2.out⟩
      · have HV := Lib.hid hv
        clear hv
        go_wp2
        go_roundw
        case rel => exact ⟨k + 1, by omega, by go_num, all_succ HAK.out (by rw [HXE.out]; exact HV.out), HB2.out⟩
        case measure => simp [intOf]; omega
    · have hlt' : decide ((k : Int) < n) = false := decide_eq_false (by omega)
      obtain rfl : k = n := by omega
      have HV := Lib.hid (HNN.out HAK.out)
      go_wp2
      go_ret
      exact ⟨ret_bool HV.out.symm, HB.out⟩

theorem sub_shape {V : Ex → Bool} {k : Int} {l : List Qu} : (decide (l.length = 1) && l.all (quB V k)) = (decide (l.length = 1) && (decide ((qAt l 0).items.length = itemN k) && decide ((qAt l 0).wh.length ≤ 1)) && l.all (quB V k)) := by
  match l with
  | [] => rfl
  | [q] =>
    show (true && (quB V k q && true)) = (true && (decide (q.items.length = itemN k) && decide (q.wh.length ≤ 1)) && (quB V k q && true))
    unfold quB
    generalize (q.st == decide (k = 8)) = a
    generalize decide (q.items.length = itemN k) = b
    generalize decide (q.wh.length ≤ 1) = c
    generalize srcB q.fr = d
    generalize q.items.all V = e
    generalize q.wh.all V = f
    revert a b c d e f
    decide
  | _ :: _ :: _ => simp
theorem shape_sub : ∀ (a s sa di p aa o n : Bool), (s && sa) = (s && di && sa) → (true && a && s && o && (!n || false) && (p && aa && sa)) = ((true && a && s && true && di) && (false || o) && (false || !n) && (p && aa && sa)) := by decide
theorem shape_five : ∀ (a s r n p : Bool), (true && a && s && r && (!n || false) && p) = ((true && a && s && r && true) && true && (false || !n) && p) := by decide
theorem shape_rest : ∀ (a s o n k6 p : Bool), (true && a && s && o && (!n || k6) && p) = ((true && a && s && true && true) && (false || o) && (k6 || !n) && p) := by decide
/-- What is well-formed, by its shape and the rest. -/
theorem vOf_shape {V : Ex → Bool} {e : Ex} : vOf V e = (shapeB e && (decide (e.k = 5) || decide (e.op = 0)) && (decide (e.k = 6) || !e.no)
    && (if e.k = 1 then validB e.vk e.vi e.vt && decide (0 ≤ e.vi) && eqT e.tb ⟨#[]⟩ && eqT e.nm ⟨#[]⟩
      else if e.k = 2 then noVal e && qualB e.tb && nameOK e.nm
      else plainB e && e.args.all V && e.sub.all (quB V e.k))) := by
  unfold vOf shapeB
  by_cases hr : 1 ≤ e.k ∧ e.k ≤ 12
  · rw [decide_eq_true hr]
    by_cases h8 : 8 ≤ e.k
    · have h1 : ¬ e.k = 1 := by omega
      have h2 : ¬ e.k = 2 := by omega
      have h5 : ¬ e.k = 5 := by omega
      have h6 : ¬ e.k = 6 := by omega
      rw [if_neg h5, if_neg h5, if_pos h8, if_neg h1, if_neg h2, decide_eq_false h5, decide_eq_false h6, show subN e.k = 1 from if_pos ⟨h8, hr.2⟩]
      exact shape_sub _ _ _ _ _ _ _ _ sub_shape
    · rw [if_neg h8]
      by_cases h5 : e.k = 5
      · have h6 : ¬ e.k = 6 := by omega
        rw [if_pos h5, if_pos h5, decide_eq_true h5, decide_eq_false h6, Bool.true_or]
        exact shape_five _ _ _ _ _
      · rw [if_neg h5, if_neg h5, decide_eq_false h5]
        exact shape_rest _ _ _ _ _ _
  · rw [decide_eq_false hr]
    simp only [Bool.false_and]
end Go.Proofs.YtdlehlbahkikgaaDoor
/-
  ValidExpr of reference 11, by cases.
-/
namespace Go.Proofs.YtdlehlbahkikgaaDoor
set_option maxRecDepth 100000
open Go.RowKit
variable {ls : List Nat}

set_option maxHeartbeats 1000000 in
theorem rvalid_bad {N : Nat → Prop} {d : Nat} (e : Ex) (w : World) (hQ : QAt N w (ExAt N w d) e.ps e.sub) (h : shapeB e = false ∨ (e.k ≠ 5 ∧ e.op ≠ 0) ∨ (e.k ≠ 6 ∧ e.no = true)) :
    Calls Tryd.prog 24 #[exV e] w fun r w' => r = .returned (.bool false) ∧ Below w.heap.size w w' := by
  have HS := Lib.hid fun u (hb : Below w.heap.size w u) => rshape e u (hQ.low hb)
  clear hQ
  generalize shapeB e = sh at *
  obtain ⟨k, op, no, vk, vi, vt, tb, nm, pa, ca, args, ps, cs, sub⟩ := e
  unfold exV at *
  simp only [Ex.mk_k, Ex.mk_op, Ex.mk_no, Ex.mk_vk, Ex.mk_vi, Ex.mk_vt, Ex.mk_tb, Ex.mk_nm, Ex.mk_pa, Ex.mk_ca, Ex.mk_args, Ex.mk_ps, Ex.mk_cs, Ex.mk_sub] at *
  cases sh
  · clear h
    go_enter Tryd.func24, Tryd.ntmps24
    go_wp2_with fail
    refine (HS.out _ (below_alloc _ _)).mono ?_
    rintro e w' ⟨rfl, hb⟩
    have hbx := ExB.new w (Ex.mk k op no vk vi vt tb nm pa ca args ps cs sub) 30
    simp only [Ex.mk_k, Ex.mk_op, Ex.mk_no, Ex.mk_vk, Ex.mk_vi, Ex.mk_vt, Ex.mk_tb, Ex.mk_nm, Ex.mk_pa, Ex.mk_ca, Ex.mk_args, Ex.mk_ps, Ex.mk_cs, Ex.mk_sub] at hbx
    have HXB := Lib.hid (hbx.low hb)
    have HB := Lib.hid (Below.of_alloc hb)
    clear hb hbx
    obtain ⟨xl, x0, x1, x2, x3, x4, x5, x6, x7, x8, x9, -⟩ := HXB.out
    simp only [Ex.mk_k, Ex.mk_op, Ex.mk_no, Ex.mk_vk, Ex.mk_vi, Ex.mk_vt, Ex.mk_tb, Ex.mk_nm, Ex.mk_pa, Ex.mk_ca, Ex.mk_args, Ex.mk_ps, Ex.mk_cs, Ex.mk_sub] at x0 x1 x2 x3 x4 x5 x6 x7 x8 x9
    go_wp2
    go_ret
    exact ⟨rfl, HB.out⟩
  replace h : (k ≠ 5 ∧ op ≠ 0) ∨ (k ≠ 6 ∧ no = true) := by rcases h with h | h; exact absurd h (by decide); exact h
  by_cases h5 : k = 5
  · have h6 : ¬ k = 6 := by omega
    obtain rfl : no = true := by rcases h with h | h; exact absurd h5 h.1; exact h.2
    clear h
    have b5 : (k == 5) = true := beq_iff_eq.2 h5
    have b5' : (k != 5) = false := by rw [bne, b5]; rfl
    have b6 : (k == 6) = false := beq_eq_false_iff_ne.2 h6
    have b6' : (k != 6) = true := by rw [bne, b6]; rfl
    clear h5 h6
    go_enter Tryd.func24, Tryd.ntmps24
    go_wp2_with fail
    refine (HS.out _ (below_alloc _ _)).mono ?_
    rintro e w' ⟨rfl, hb⟩
    have hbx := ExB.new w (Ex.mk k op true vk vi vt tb nm pa ca args ps cs sub) 30
    simp only [Ex.mk_k, Ex.mk_op, Ex.mk_no, Ex.mk_vk, Ex.mk_vi, Ex.mk_vt, Ex.mk_tb, Ex.mk_nm, Ex.mk_pa, Ex.mk_ca, Ex.mk_args, Ex.mk_ps, Ex.mk_cs, Ex.mk_sub] at hbx
    have HXB := Lib.hid (hbx.low hb)
    have HB := Lib.hid (Below.of_alloc hb)
    clear hb hbx
    obtain ⟨xl, x0, x1, x2, x3, x4, x5, x6, x7, x8, x9, -⟩ := HXB.out
    simp only [Ex.mk_k, Ex.mk_op, Ex.mk_no, Ex.mk_vk, Ex.mk_vi, Ex.mk_vt, Ex.mk_tb, Ex.mk_nm, Ex.mk_pa, Ex.mk_ca, Ex.mk_args, Ex.mk_ps, Ex.mk_cs, Ex.mk_sub] at x0 x1 x2 x3 x4 x5 x6 x7 x8 x9
    go_wp2
    go_ret
    exact ⟨rfl, HB.out⟩
  have b5 : (k == 5) = false := beq_eq_false_iff_ne.2 h5
  have b5' : (k != 5) = true := by rw [bne, b5]; rfl
  by_cases ho : op = 0
  · obtain ⟨h6, rfl⟩ : k ≠ 6 ∧ no = true := by rcases h with h | h; exact absurd ho h.2; exact h
    clear h h5
    have o1 : (op == 0) = true := beq_iff_eq.2 ho
    have o1' : (op != 0) = false := by rw [bne, o1]; rfl
    have b6 : (k == 6) = false := beq_eq_false_iff_ne.2 h6
    have b6' : (k != 6) = true := by rw [bne, b6]; rfl
    clear ho h6
    go_enter Tryd.func24, Tryd.ntmps24
    go_wp2_with fail
    refine (HS.out _ (below_alloc _ _)).mono ?_
    rintro e w' ⟨rfl, hb⟩
    have hbx := ExB.new w (Ex.mk k op true vk vi vt tb nm pa ca args ps cs sub) 30
    simp only [Ex.mk_k, Ex.mk_op, Ex.mk_no, Ex.mk_vk, Ex.mk_vi, Ex.mk_vt, Ex.mk_tb, Ex.mk_nm, Ex.mk_pa, Ex.mk_ca, Ex.mk_args, Ex.mk_ps, Ex.mk_cs, Ex.mk_sub] at hbx
    have HXB := Lib.hid (hbx.low hb)
    have HB := Lib.hid (Below.of_alloc hb)
    clear hb hbx
    obtain ⟨xl, x0, x1, x2, x3, x4, x5, x6, x7, x8, x9, -⟩ := HXB.out
    simp only [Ex.mk_k, Ex.mk_op, Ex.mk_no, Ex.mk_vk, Ex.mk_vi, Ex.mk_vt, Ex.mk_tb, Ex.mk_nm, Ex.mk_pa, Ex.mk_ca, Ex.mk_args, Ex.mk_ps, Ex.mk_cs, Ex.mk_sub] at x0 x1 x2 x3 x4 x5 x6 x7 x8 x9
    go_wp2
    go_ret
    exact ⟨rfl, HB.out⟩
  have o1 : (op == 0) = false := beq_eq_false_iff_ne.2 ho
  have o1' : (op != 0) = true := by rw [bne, o1]; rfl
  clear h h5 ho
  go_enter Tryd.func24, Tryd.ntmps24
  go_wp2_with fail
  refine (HS.out _ (below_alloc _ _)).mono ?_
  rintro e w' ⟨rfl, hb⟩
  have hbx := ExB.new w (Ex.mk k op no vk vi vt tb nm pa ca args ps cs sub) 30
  simp only [Ex.mk_k, Ex.mk_op, Ex.mk_no, Ex.mk_vk, Ex.mk_vi, Ex.mk_vt, Ex.mk_tb, Ex.mk_nm, Ex.mk_pa, Ex.mk_ca, Ex.mk_args, Ex.mk_ps, Ex.mk_cs, Ex.mk_sub] at hbx
  have HXB := Lib.hid (hbx.low hb)
  have HB := Lib.hid (Below.of_alloc hb)
  clear hb hbx
  obtain ⟨xl, x0, x1, x2, x3, x4, x5, x6, x7, x8, x9, -⟩ := HXB.out
  simp only [Ex.mk_k, Ex.mk_op, Ex.mk_no, Ex.mk_vk, Ex.mk_vi, Ex.mk_vt, Ex.mk_tb, Ex.mk_nm, Ex.mk_pa, Ex.mk_ca, Ex.mk_args, Ex.mk_ps, Ex.mk_cs, Ex.mk_sub] at x0 x1 x2 x3 x4 x5 x6 x7 x8 x9
  go_wp2
  go_ret
  exact ⟨rfl, HB.out⟩
theorem valid_neg {k n : Int} {s : ByteArray} (h : validB k n s = true) (hn : n < 0) : k = 1 := by
  unfold validB at h
  by_cases h1 : k = 1
  · exact h1
  · exfalso
    revert h
    repeat' split
    all_goals (simp; try omega)
set_option maxHeartbeats 1000000 in
theorem rvalid_k1 {N : Nat → Prop} {d : Nat} (e : Ex) (w : World) (hQ : QAt N w (ExAt N w d) e.ps e.sub) (hz : e.vt.size ≤ 9223372036854775807) (hs : shapeB e = true) (ho : e.op = 0) (hn : e.no = false) (hk : e.k = 1) :
    Calls Tryd.prog 24 #[exV e] w fun r w' => r = .returned (.bool (validB e.vk e.vi e.vt && decide (0 ≤ e.vi) && eqT e.tb ⟨#[]⟩ && eqT e.nm ⟨#[]⟩)) ∧ Below w.heap.size w w' := by
  have HS := Lib.hid fun u (hb : Below w.heap.size w u) => rshape e u (hQ.low hb)
  clear hQ
  rw [hs] at HS
  clear hs
  rw [← empty_eqT, ← empty_eqT]
  obtain ⟨k, op, no, vk, vi, vt, tb, nm, pa, ca, args, ps, cs, sub⟩ := e
  unfold exV at *
  simp only [Ex.mk_k, Ex.mk_op, Ex.mk_no, Ex.mk_vk, Ex.mk_vi, Ex.mk_vt, Ex.mk_tb, Ex.mk_nm, Ex.mk_pa, Ex.mk_ca, Ex.mk_args, Ex.mk_ps, Ex.mk_cs, Ex.mk_sub] at *
  subst hk ho hn
  have HZ := Lib.hid hz
  clear hz
  cases hv : validB vk vi vt
  all_goals
    have HV := Lib.hid (fun u => rval_eq HZ.out hv u)
    have hvt := hv
    clear hv
  · clear hvt
    go_enter Tryd.func24, Tryd.ntmps24
    go_wp2_with fail
    refine (HS.out _ (below_alloc _ _)).mono ?_
    rintro e w' ⟨rfl, hb⟩
    have hbx := ExB.new w (Ex.mk 1 0 false vk vi vt tb nm pa ca args ps cs sub) 30
    simp only [Ex.mk_k, Ex.mk_op, Ex.mk_no, Ex.mk_vk, Ex.mk_vi, Ex.mk_vt, Ex.mk_tb, Ex.mk_nm, Ex.mk_pa, Ex.mk_ca, Ex.mk_args, Ex.mk_ps, Ex.mk_cs, Ex.mk_sub] at hbx
    have HXB := Lib.hid (hbx.low hb)
    have HB := Lib.hid (Below.of_alloc hb)
    clear hb hbx
    obtain ⟨xl, x0, x1, x2, x3, x4, x5, x6, x7, x8, x9, -⟩ := HXB.out
    simp only [Ex.mk_k, Ex.mk_op, Ex.mk_no, Ex.mk_vk, Ex.mk_vi, Ex.mk_vt, Ex.mk_tb, Ex.mk_nm, Ex.mk_pa, Ex.mk_ca, Ex.mk_args, Ex.mk_ps, Ex.mk_cs, Ex.mk_sub] at x0 x1 x2 x3 x4 x5 x6 x7 x8 x9
    go_wp2_with fail
    refine (HV.out _).mono ?_
    rintro e w2 ⟨rfl, hb2⟩
    have HB2 := Lib.hid (below_next HB.out hb2)
    have HX2 := Lib.hid (HXB.out.low hb2)
    clear hb2 xl x0 x1 x2 x3 x4 x5 x6 x7 x8 x9
    obtain ⟨xl, x0, x1, x2, x3, x4, x5, x6, x7, x8, x9, -⟩ := HX2.out
    simp only [Ex.mk_k, Ex.mk_op, Ex.mk_no, Ex.mk_vk, Ex.mk_vi, Ex.mk_vt, Ex.mk_tb, Ex.mk_nm, Ex.mk_pa, Ex.mk_ca, Ex.mk_args, Ex.mk_ps, Ex.mk_cs, Ex.mk_sub] at x0 x1 x2 x3 x4 x5 x6 x7 x8 x9
    go_wp2
    go_ret
    exact ⟨rfl, HB2.out⟩
  by_cases hi : 0 ≤ vi
  case neg =>
    obtain rfl : vk = 1 := valid_neg hvt (by omega)
    have HI := Lib.hid (decide_eq_false hi)
    have i1 : decide (0 ≤ vi) = false := decide_eq_false hi
    clear hi hvt
    go_enter Tryd.func24, Tryd.ntmps24
    go_wp2_with fail
    refine (HS.out _ (below_alloc _ _)).mono ?_
    rintro e w' ⟨rfl, hb⟩
    have hbx := ExB.new w (Ex.mk 1 0 false 1 vi vt tb nm pa ca args ps cs sub) 30
    simp only [Ex.mk_k, Ex.mk_op, Ex.mk_no, Ex.mk_vk, Ex.mk_vi, Ex.mk_vt, Ex.mk_tb, Ex.mk_nm, Ex.mk_pa, Ex.mk_ca, Ex.mk_args, Ex.mk_ps, Ex.mk_cs, Ex.mk_sub] at hbx
    have HXB := Lib.hid (hbx.low hb)
    have HB := Lib.hid (Below.of_alloc hb)
    clear hb hbx
    obtain ⟨xl, x0, x1, x2, x3, x4, x5, x6, x7, x8, x9, -⟩ := HXB.out
    simp only [Ex.mk_k, Ex.mk_op, Ex.mk_no, Ex.mk_vk, Ex.mk_vi, Ex.mk_vt, Ex.mk_tb, Ex.mk_nm, Ex.mk_pa, Ex.mk_ca, Ex.mk_args, Ex.mk_ps, Ex.mk_cs, Ex.mk_sub] at x0 x1 x2 x3 x4 x5 x6 x7 x8 x9
    go_wp2_with fail
    refine (HV.out _).mono ?_
    rintro e w2 ⟨rfl, hb2⟩
    have HB2 := Lib.hid (below_next HB.out hb2)
    have HX2 := Lib.hid (HXB.out.low hb2)
    clear hb2 xl x0 x1 x2 x3 x4 x5 x6 x7 x8 x9
    obtain ⟨xl, x0, x1, x2, x3, x4, x5, x6, x7, x8, x9, -⟩ := HX2.out
    simp only [Ex.mk_k, Ex.mk_op, Ex.mk_no, Ex.mk_vk, Ex.mk_vi, Ex.mk_vt, Ex.mk_tb, Ex.mk_nm, Ex.mk_pa, Ex.mk_ca, Ex.mk_args, Ex.mk_ps, Ex.mk_cs, Ex.mk_sub] at x0 x1 x2 x3 x4 x5 x6 x7 x8 x9
    go_wp2
    go_ret
    exact ⟨ret_bool (by have h := of_decide_eq_false HI.out; simp [h]), HB2.out⟩
  clear hvt
  have HI := Lib.hid (decide_eq_true hi)
  have i1 : decide (0 ≤ vi) = true := decide_eq_true hi
  clear hi
  have hT : Hid (tb.toList.isEmpty = true) ∧ tb.toList = [] ∨ Hid (tb.toList.isEmpty = false) ∧ (tb.toList == []) = false := by
    cases h : tb.toList <;> simp [Hid]
  have hN : Hid (nm.toList.isEmpty = true) ∧ nm.toList = [] ∨ Hid (nm.toList.isEmpty = false) ∧ (nm.toList == []) = false := by
    cases h : nm.toList <;> simp [Hid]
  have hK : ((vk == 1) = true ∧ (vk != 1) = false) ∨ ((vk == 1) = false ∧ (vk != 1) = true) := by
    rw [bne]; cases (vk == 1) <;> simp
  rcases hT with ⟨HT, t1⟩ | ⟨HT, t1⟩ <;> rcases hN with ⟨HN, n1⟩ | ⟨HN, n1⟩ <;> rcases hK with ⟨v1, v1'⟩ | ⟨v1, v1'⟩
  all_goals
    go_enter Tryd.func24, Tryd.ntmps24
    go_wp2_with fail
    refine (HS.out _ (below_alloc _ _)).mono ?_
    rintro e w' ⟨rfl, hb⟩
    have hbx := ExB.new w (Ex.mk 1 0 false vk vi vt tb nm pa ca args ps cs sub) 30
    simp only [Ex.mk_k, Ex.mk_op, Ex.mk_no, Ex.mk_vk, Ex.mk_vi, Ex.mk_vt, Ex.mk_tb, Ex.mk_nm, Ex.mk_pa, Ex.mk_ca, Ex.mk_args, Ex.mk_ps, Ex.mk_cs, Ex.mk_sub] at hbx
    have HXB := Lib.hid (hbx.low hb)
    have HB := Lib.hid (Below.of_alloc hb)
    clear hb hbx
    obtain ⟨xl, x0, x1, x2, x3, x4, x5, x6, x7, x8, x9, -⟩ := HXB.out
    simp only [Ex.mk_k, Ex.mk_op, Ex.mk_no, Ex.mk_vk, Ex.mk_vi, Ex.mk_vt, Ex.mk_tb, Ex.mk_nm, Ex.mk_pa, Ex.mk_ca, Ex.mk_args, Ex.mk_ps, Ex.mk_cs, Ex.mk_sub] at x0 x1 x2 x3 x4 x5 x6 x7 x8 x9
    go_wp2_with fail
    refine (HV.out _).mono ?_
    rintro e w2 ⟨rfl, hb2⟩
    have HB2 := Lib.hid (below_next HB.out hb2)
    have HX2 := Lib.hid (HXB.out.low hb2)
    clear hb2 xl x0 x1 x2 x3 x4 x5 x6 x7 x8 x9
    obtain ⟨xl, x0, x1, x2, x3, x4, x5, x6, x7, x8, x9, -⟩ := HX2.out
    simp only [Ex.mk_k, Ex.mk_op, Ex.mk_no, Ex.mk_vk, Ex.mk_vi, Ex.mk_vt, Ex.mk_tb, Ex.mk_nm, Ex.mk_pa, Ex.mk_ca, Ex.mk_args, Ex.mk_ps, Ex.mk_cs, Ex.mk_sub] at x0 x1 x2 x3 x4 x5 x6 x7 x8 x9
    go_wp2
    go_ret
    exact ⟨ret_bool (by rw [HT.out, HN.out]; have h := of_decide_eq_true HI.out; simp [h]), HB2.out⟩
set_option maxHeartbeats 2000000 in
theorem rvalid_k2 {N : Nat → Prop} {d : Nat} (e : Ex) (w : World) (hQ : QAt N w (ExAt N w d) e.ps e.sub) (hzt : e.tb.size ≤ 9223372036854775807) (hzn : e.nm.size ≤ 9223372036854775807) (hs : shapeB e = true) (ho : e.op = 0) (hn : e.no = false) (hk : e.k = 2) :
    Calls Tryd.prog 24 #[exV e] w fun r w' => r = .returned (.bool (noVal e && qualB e.tb && nameOK e.nm)) ∧ Below w.heap.size w w' := by
  have HS := Lib.hid fun u (hb : Below w.heap.size w u) => rshape e u (hQ.low hb)
  clear hQ
  rw [hs] at HS
  clear hs
  rw [noVal_same]
  obtain ⟨k, op, no, vk, vi, vt, tb, nm, pa, ca, args, ps, cs, sub⟩ := e
  unfold exV at *
  simp only [Ex.mk_k, Ex.mk_op, Ex.mk_no, Ex.mk_vk, Ex.mk_vi, Ex.mk_vt, Ex.mk_tb, Ex.mk_nm, Ex.mk_pa, Ex.mk_ca, Ex.mk_args, Ex.mk_ps, Ex.mk_cs, Ex.mk_sub] at *
  have hd : qualB tb = (decide (tb.toList = []) || srcB tb || decide (tb.toList = [78, 69, 87]) || decide (tb.toList = [79, 76, 68])) := by rw [← eqT_lit, ← eqT_lit, ← eqT_lit]; rfl
  subst hk ho hn
  have HSC := Lib.hid (rsource_any tb hzt)
  have HZN := Lib.hid hzn
  clear hzt hzn
  have hN : ∃ b, Hid (nameOK nm = b) ∧ Hid (∀ u, Calls Tryd.prog 44 #[.string nm] u fun e w' => e = .returned (.bool b) ∧ w' = u) := ⟨_, Lib.hid rfl, Lib.hid fun u => rvname_eq HZN.out rfl u⟩
  have hV : ∃ b, Hid (sameV vk vi vt 0 0 ⟨#[]⟩ = b) ∧ ∀ u, (binOp .eql 26 (.agg #[.int .i64 vk, .int .i64 vi, .string vt]) (.agg #[.int .i64 0, .int .i64 0, .string ⟨#[]⟩])).run Tryd.prog u = .ok (.bool b) u := ⟨_, Lib.hid rfl, fun u => eql_val _ _ _ _ _ _ u⟩
  obtain ⟨bn, HBN, HN⟩ := hN
  obtain ⟨bv, HBV, hq⟩ := hV
  obtain ⟨bs, HBS⟩ : ∃ b, Hid (srcB tb = b) := ⟨_, Lib.hid rfl⟩
  rw [HBS.out] at HSC hd
  by_cases h0 : tb.toList = []
  · have HD := Lib.hid (show qualB tb = true by rw [hd]; simp [h0])
    clear hd
    go_enter Tryd.func24, Tryd.ntmps24
    go_wp2_with fail
    refine (HS.out _ (below_alloc _ _)).mono ?_
    rintro e w' ⟨rfl, hb⟩
    have hbx := ExB.new w (Ex.mk 2 0 false vk vi vt tb nm pa ca args ps cs sub) 30
    simp only [Ex.mk_k, Ex.mk_op, Ex.mk_no, Ex.mk_vk, Ex.mk_vi, Ex.mk_vt, Ex.mk_tb, Ex.mk_nm, Ex.mk_pa, Ex.mk_ca, Ex.mk_args, Ex.mk_ps, Ex.mk_cs, Ex.mk_sub] at hbx
    have HXB := Lib.hid (hbx.low hb)
    have HB := Lib.hid (Below.of_alloc hb)
    clear hb hbx
    obtain ⟨xl, x0, x1, x2, x3, x4, x5, x6, x7, x8, x9, -⟩ := HXB.out
    simp only [Ex.mk_k, Ex.mk_op, Ex.mk_no, Ex.mk_vk, Ex.mk_vi, Ex.mk_vt, Ex.mk_tb, Ex.mk_nm, Ex.mk_pa, Ex.mk_ca, Ex.mk_args, Ex.mk_ps, Ex.mk_cs, Ex.mk_sub] at x0 x1 x2 x3 x4 x5 x6 x7 x8 x9
    go_wp2_with fail
    refine (HN.out _).mono ?_
    rintro e w3 ⟨rfl, rfl⟩
    cases bn
    all_goals
      go_wp2
      go_ret
      exact ⟨ret_bool (by rw [HBV.out, HBN.out, HD.out]; simp), HB.out⟩
  have e0 : (tb.toList == []) = false := by simpa using h0
  cases bs
  case true =>
    have HD := Lib.hid (show qualB tb = true by rw [hd]; simp)
    clear hd h0
    go_enter Tryd.func24, Tryd.ntmps24
    go_wp2_with fail
    refine (HS.out _ (below_alloc _ _)).mono ?_
    rintro e w' ⟨rfl, hb⟩
    have hbx := ExB.new w (Ex.mk 2 0 false vk vi vt tb nm pa ca args ps cs sub) 30
    simp only [Ex.mk_k, Ex.mk_op, Ex.mk_no, Ex.mk_vk, Ex.mk_vi, Ex.mk_vt, Ex.mk_tb, Ex.mk_nm, Ex.mk_pa, Ex.mk_ca, Ex.mk_args, Ex.mk_ps, Ex.mk_cs, Ex.mk_sub] at hbx
    have HXB := Lib.hid (hbx.low hb)
    have HB := Lib.hid (Below.of_alloc hb)
    clear hb hbx
    obtain ⟨xl, x0, x1, x2, x3, x4, x5, x6, x7, x8, x9, -⟩ := HXB.out
    simp only [Ex.mk_k, Ex.mk_op, Ex.mk_no, Ex.mk_vk, Ex.mk_vi, Ex.mk_vt, Ex.mk_tb, Ex.mk_nm, Ex.mk_pa, Ex.mk_ca, Ex.mk_args, Ex.mk_ps, Ex.mk_cs, Ex.mk_sub] at x0 x1 x2 x3 x4 x5 x6 x7 x8 x9
    go_wp2_with fail
    refine (HSC.out _).mono ?_
    rintro e w2 ⟨rfl, hb2⟩
    have HB2 := Lib.hid (below_next HB.out hb2)
    have HX2 := Lib.hid (HXB.out.low hb2)
    clear hb2 xl x0 x1 x2 x3 x4 x5 x6 x7 x8 x9
    obtain ⟨xl, x0, x1, x2, x3, x4, x5, x6, x7, x8, x9, -⟩ := HX2.out
    simp only [Ex.mk_k, Ex.mk_op, Ex.mk_no, Ex.mk_vk, Ex.mk_vi, Ex.mk_vt, Ex.mk_tb, Ex.mk_nm, Ex.mk_pa, Ex.mk_ca, Ex.mk_args, Ex.mk_ps, Ex.mk_cs, Ex.mk_sub] at x0 x1 x2 x3 x4 x5 x6 x7 x8 x9
    go_wp2_with fail
    refine (HN.out _).mono ?_
    rintro e w3 ⟨rfl, rfl⟩
    cases bn
    all_goals
      go_wp2
      go_ret
      exact ⟨ret_bool (by rw [HBV.out, HBN.out, HD.out]; simp), HB2.out⟩
  by_cases h1 : tb.toList = [78, 69, 87]
  · have HD := Lib.hid (show qualB tb = true by rw [hd]; simp [h1])
    clear hd h0
    go_enter Tryd.func24, Tryd.ntmps24
    go_wp2_with fail
    refine (HS.out _ (below_alloc _ _)).mono ?_
    rintro e w' ⟨rfl, hb⟩
    have hbx := ExB.new w (Ex.mk 2 0 false vk vi vt tb nm pa ca args ps cs sub) 30
    simp only [Ex.mk_k, Ex.mk_op, Ex.mk_no, Ex.mk_vk, Ex.mk_vi, Ex.mk_vt, Ex.mk_tb, Ex.mk_nm, Ex.mk_pa, Ex.mk_ca, Ex.mk_args, Ex.mk_ps, Ex.mk_cs, Ex.mk_sub] at hbx
    have HXB := Lib.hid (hbx.low hb)
    have HB := Lib.hid (Below.of_alloc hb)
    clear hb hbx
    obtain ⟨xl, x0, x1, x2, x3, x4, x5, x6, x7, x8, x9, -⟩ := HXB.out
    simp only [Ex.mk_k, Ex.mk_op, Ex.mk_no, Ex.mk_vk, Ex.mk_vi, Ex.mk_vt, Ex.mk_tb, Ex.mk_nm, Ex.mk_pa, Ex.mk_ca, Ex.mk_args, Ex.mk_ps, Ex.mk_cs, Ex.mk_sub] at x0 x1 x2 x3 x4 x5 x6 x7 x8 x9
    go_wp2_with fail
    refine (HSC.out _).mono ?_
    rintro e w2 ⟨rfl, hb2⟩
    have HB2 := Lib.hid (below_next HB.out hb2)
    have HX2 := Lib.hid (HXB.out.low hb2)
    clear hb2 xl x0 x1 x2 x3 x4 x5 x6 x7 x8 x9
    obtain ⟨xl, x0, x1, x2, x3, x4, x5, x6, x7, x8, x9, -⟩ := HX2.out
    simp only [Ex.mk_k, Ex.mk_op, Ex.mk_no, Ex.mk_vk, Ex.mk_vi, Ex.mk_vt, Ex.mk_tb, Ex.mk_nm, Ex.mk_pa, Ex.mk_ca, Ex.mk_args, Ex.mk_ps, Ex.mk_cs, Ex.mk_sub] at x0 x1 x2 x3 x4 x5 x6 x7 x8 x9
    go_wp2_with fail
    refine (HN.out _).mono ?_
    rintro e w3 ⟨rfl, rfl⟩
    cases bn
    all_goals
      go_wp2
      go_ret
      exact ⟨ret_bool (by rw [HBV.out, HBN.out, HD.out]; simp), HB2.out⟩
  have e1 : (tb.toList == [78, 69, 87]) = false := by simpa using h1
  by_cases h2 : tb.toList = [79, 76, 68]
  · have HD := Lib.hid (show qualB tb = true by rw [hd]; simp [h2])
    clear hd h0 h1
    go_enter Tryd.func24, Tryd.ntmps24
    go_wp2_with fail
    refine (HS.out _ (below_alloc _ _)).mono ?_
    rintro e w' ⟨rfl, hb⟩
    have hbx := ExB.new w (Ex.mk 2 0 false vk vi vt tb nm pa ca args ps cs sub) 30
    simp only [Ex.mk_k, Ex.mk_op, Ex.mk_no, Ex.mk_vk, Ex.mk_vi, Ex.mk_vt, Ex.mk_tb, Ex.mk_nm, Ex.mk_pa, Ex.mk_ca, Ex.mk_args, Ex.mk_ps, Ex.mk_cs, Ex.mk_sub] at hbx
    have HXB := Lib.hid (hbx.low hb)
    have HB := Lib.hid (Below.of_alloc hb)
    clear hb hbx
    obtain ⟨xl, x0, x1, x2, x3, x4, x5, x6, x7, x8, x9, -⟩ := HXB.out
    simp only [Ex.mk_k, Ex.mk_op, Ex.mk_no, Ex.mk_vk, Ex.mk_vi, Ex.mk_vt, Ex.mk_tb, Ex.mk_nm, Ex.mk_pa, Ex.mk_ca, Ex.mk_args, Ex.mk_ps, Ex.mk_cs, Ex.mk_sub] at x0 x1 x2 x3 x4 x5 x6 x7 x8 x9
    go_wp2_with fail
    refine (HSC.out _).mono ?_
    rintro e w2 ⟨rfl, hb2⟩
    have HB2 := Lib.hid (below_next HB.out hb2)
    have HX2 := Lib.hid (HXB.out.low hb2)
    clear hb2 xl x0 x1 x2 x3 x4 x5 x6 x7 x8 x9
    obtain ⟨xl, x0, x1, x2, x3, x4, x5, x6, x7, x8, x9, -⟩ := HX2.out
    simp only [Ex.mk_k, Ex.mk_op, Ex.mk_no, Ex.mk_vk, Ex.mk_vi, Ex.mk_vt, Ex.mk_tb, Ex.mk_nm, Ex.mk_pa, Ex.mk_ca, Ex.mk_args, Ex.mk_ps, Ex.mk_cs, Ex.mk_sub] at x0 x1 x2 x3 x4 x5 x6 x7 x8 x9
    go_wp2_with fail
    refine (HN.out _).mono ?_
    rintro e w3 ⟨rfl, rfl⟩
    cases bn
    all_goals
      go_wp2
      go_ret
      exact ⟨ret_bool (by rw [HBV.out, HBN.out, HD.out]; simp), HB2.out⟩
  have e2 : (tb.toList == [79, 76, 68]) = false := by simpa using h2
  have HD := Lib.hid (show qualB tb = false by rw [hd]; simp [h0, h1, h2])
  clear hd h0 h1 h2
  go_enter Tryd.func24, Tryd.ntmps24
  go_wp2_with fail
  refine (HS.out _ (below_alloc _ _)).mono ?_
  rintro e w' ⟨rfl, hb⟩
  have hbx := ExB.new w (Ex.mk 2 0 false vk vi vt tb nm pa ca args ps cs sub) 30
  simp only [Ex.mk_k, Ex.mk_op, Ex.mk_no, Ex.mk_vk, Ex.mk_vi, Ex.mk_vt, Ex.mk_tb, Ex.mk_nm, Ex.mk_pa, Ex.mk_ca, Ex.mk_args, Ex.mk_ps, Ex.mk_cs, Ex.mk_sub] at hbx
  have HXB := Lib.hid (hbx.low hb)
  have HB := Lib.hid (Below.of_alloc hb)
  clear hb hbx
  obtain ⟨xl, x0, x1, x2, x3, x4, x5, x6, x7, x8, x9, -⟩ := HXB.out
  simp only [Ex.mk_k, Ex.mk_op, Ex.mk_no, Ex.mk_vk, Ex.mk_vi, Ex.mk_vt, Ex.mk_tb, Ex.mk_nm, Ex.mk_pa, Ex.mk_ca, Ex.mk_args, Ex.mk_ps, Ex.mk_cs, Ex.mk_sub] at x0 x1 x2 x3 x4 x5 x6 x7 x8 x9
  go_wp2_with fail
  refine (HSC.out _).mono ?_
  rintro e w2 ⟨rfl, hb2⟩
  have HB2 := Lib.hid (below_next HB.out hb2)
  have HX2 := Lib.hid (HXB.out.low hb2)
  clear hb2 xl x0 x1 x2 x3 x4 x5 x6 x7 x8 x9
  obtain ⟨xl, x0, x1, x2, x3, x4, x5, x6, x7, x8, x9, -⟩ := HX2.out
  simp only [Ex.mk_k, Ex.mk_op, Ex.mk_no, Ex.mk_vk, Ex.mk_vi, Ex.mk_vt, Ex.mk_tb, Ex.mk_nm, Ex.mk_pa, Ex.mk_ca, Ex.mk_args, Ex.mk_ps, Ex.mk_cs, Ex.mk_sub] at x0 x1 x2 x3 x4 x5 x6 x7 x8 x9
  go_wp2
  go_ret
  exact ⟨ret_bool (by rw [HD.out]; simp), HB2.out⟩
end Go.Proofs.YtdlehlbahkikgaaDoor
