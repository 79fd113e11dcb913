/-
  THE LOGIC, PLAIN: places, the tables, comparisons. And the contracts of its small functions.
-/
import Derived.Test.YtlnjdgmolmeklaaDoorMake
import Derived.Test.YtlnjdgmolmeklaaDoorRwords
import Derived.Test.YtlnjdgmolmeklaaDoorOrder
import Derived.Deep.RegionHeld3
namespace Go.Proofs.YtlnjdgmolmeklaaDoor
open Go.RowKit

/-- Is a value one of the logic? -/
def logB (k n : Int) (s : ByteArray) : Bool := (k == 2 || k == 0) && validB k n s
/-- The place of a value: 2 for true, 1 for null, 0 for the others. -/
def placeI (k n : Int) (s : ByteArray) : Int := if sameV k n s 2 1 ⟨#[]⟩ then 2 else if k = 0 then 1 else 0
/-- Kind and number of the value at a place. -/
def tvK (p : Int) : Int := if p = 1 then 0 else 2
def tvN (p : Int) : Int := if p = 2 then 1 else 0
def andP (p q : Int) : Int := (andL.getD p.toNat []).getD q.toNat 0
def orP (p q : Int) : Int := (orL.getD p.toNat []).getD q.toNat 0

theorem empty_of (s : ByteArray) (h : s.toList.isEmpty = true) : s = ⟨#[]⟩ := by
  apply WideShapes.bytes_inj
  rw [ByteArray.toList_eq] at h
  simpa using h

theorem log_three {k n : Int} {s : ByteArray} (h : logB k n s = true) : (k = 0 ∧ n = 0 ∧ s = ⟨#[]⟩) ∨ (k = 2 ∧ n = 0 ∧ s = ⟨#[]⟩) ∨ (k = 2 ∧ n = 1 ∧ s = ⟨#[]⟩) := by
  unfold logB at h
  rw [Bool.and_eq_true] at h
  obtain ⟨hk, hv⟩ := h
  have hk' : k = 2 ∨ k = 0 := by simpa using hk
  rcases hk' with rfl | rfl
  · unfold validB at hv
    rw [if_neg (by decide), if_neg (by decide), if_pos rfl, Bool.and_eq_true] at hv
    have hn : n = 0 ∨ n = 1 := by simpa using hv.1
    have hs := empty_of s hv.2
    rcases hn with rfl | rfl
    · exact Or.inr (Or.inl ⟨rfl, rfl, hs⟩)
    · exact Or.inr (Or.inr ⟨rfl, rfl, hs⟩)
  · unfold validB at hv
    rw [if_pos rfl, Bool.and_eq_true] at hv
    exact Or.inl ⟨rfl, by simpa using hv.1, empty_of s hv.2⟩
theorem log0 : logB 0 0 ⟨#[]⟩ = true := by simp [logB, validB]
theorem log1 : logB 2 0 ⟨#[]⟩ = true := by simp [logB, validB]
theorem log2 : logB 2 1 ⟨#[]⟩ = true := by simp [logB, validB]
theorem place_bd (k n : Int) (s : ByteArray) : 0 ≤ placeI k n s ∧ placeI k n s ≤ 2 := by
  unfold placeI
  split
  · omega
  · split <;> omega

set_option maxHeartbeats 400000 in
theorem logic_valid (k n : Int) (s : ByteArray) (w : World) (hs : s.size ≤ 9223372036854775807) :
    Calls Tryd.prog 28 #[.agg #[.int .i64 k, .int .i64 n, .string s]] w fun e w' => e = .returned (.bool (logB k n s)) ∧ Below w.heap.size w w' := by
  by_cases h2 : k = 2 ∨ k = 0
  · have hb : logB k n s = validB k n s := by unfold logB; simp [h2]
    have HB := Lib.hid hb
    clear hb
    rcases h2 with rfl | rfl
    all_goals
      go_enter Tryd.func28, Tryd.ntmps28
      go_wp2_with fail
      refine (valid_any _ _ _ _ hs).mono ?_
      rintro e w' ⟨rfl, hb⟩
      go_wp2
      go_ret
      exact ⟨ret_bool HB.out.symm, Below.of_alloc hb⟩
  · have hb : logB k n s = false := by unfold logB; simp; omega
    have h3 : (k == 2) = false := beq_eq_false_iff_ne.2 (by omega)
    have h4 : (k == 0) = false := beq_eq_false_iff_ne.2 (by omega)
    have HB := Lib.hid hb
    clear hb h2
    go_enter Tryd.func28, Tryd.ntmps28
    go_wp2
    go_ret
    exact ⟨ret_bool HB.out.symm, (Below.refl _ _).alloc (Nat.le_refl _) _⟩

set_option maxHeartbeats 400000 in
theorem rlogic_valid (k n : Int) (s : ByteArray) (w : World) (hs : s.size ≤ 9223372036854775807) :
    Calls Tryd.prog 29 #[.agg #[.int .i64 k, .int .i64 n, .string s]] w fun e w' => e = .returned (.bool (logB k n s)) ∧ Below w.heap.size w w' := by
  cases hv : validB k n s
  · have hb : logB k n s = false := by unfold logB; simp [hv]
    have HB := Lib.hid hb
    have HV := Lib.hid hv
    clear hb hv
    go_enter Tryd.func29, Tryd.ntmps29
    go_wp2_with fail
    refine (rvalid_any _ _ _ _ hs).mono ?_
    rintro e w' ⟨rfl, hb⟩
    rw [HV.out]
    go_wp2
    go_ret
    exact ⟨ret_bool HB.out.symm, Below.of_alloc hb⟩
  · have hb : logB k n s = (k == 2 || k == 0) := by unfold logB; simp [hv]
    have HB := Lib.hid hb
    have HV := Lib.hid hv
    clear hb hv
    by_cases h2 : k = 2
    · have h2' : (k == 2) = true := by simp [h2]
      have HB2 : Hid (logB k n s = true) := Lib.hid (by rw [HB.out, h2']; rfl)
      clear HB h2
      go_enter Tryd.func29, Tryd.ntmps29
      go_wp2_with fail
      refine (rvalid_any _ _ _ _ hs).mono ?_
      rintro e w' ⟨rfl, hb⟩
      rw [HV.out]
      obtain ⟨c0, c1, c2, -, -, -, hz⟩ := box3 hb
      go_wp2
      go_ret
      exact ⟨ret_bool HB2.out.symm, Below.of_alloc hb⟩
    · have h3 : (k == 2) = false := beq_eq_false_iff_ne.2 (by omega)
      have HB2 : Hid (logB k n s = (k == 0)) := Lib.hid (by rw [HB.out, h3]; rfl)
      clear HB h2
      go_enter Tryd.func29, Tryd.ntmps29
      go_wp2_with fail
      refine (rvalid_any _ _ _ _ hs).mono ?_
      rintro e w' ⟨rfl, hb⟩
      rw [HV.out]
      obtain ⟨c0, c1, c2, -, -, -, hz⟩ := box3 hb
      go_wp2
      go_ret
      exact ⟨ret_bool HB2.out.symm, Below.of_alloc hb⟩

/-- A box of three cells stays, and nothing old is turned. -/
theorem keepB {B A : Nat} {W u v : World} {x y z : Value} (hb : Below u.heap.size u v)
    (h : u.cell? ⟨B, 0, none⟩ = some x ∧ u.cell? ⟨B, 1, none⟩ = some y ∧ u.cell? ⟨B, 2, none⟩ = some z ∧ B < u.heap.size ∧ Below A W u ∧ A ≤ u.heap.size) :
    v.cell? ⟨B, 0, none⟩ = some x ∧ v.cell? ⟨B, 1, none⟩ = some y ∧ v.cell? ⟨B, 2, none⟩ = some z ∧ B < v.heap.size ∧ Below A W v ∧ A ≤ v.heap.size := by
  obtain ⟨h0, h1, h2, hz, hB, hA⟩ := h
  have := hb.size
  exact ⟨by rw [hb.cell (by exact hz)]; exact h0, by rw [hb.cell (by exact hz)]; exact h1, by rw [hb.cell (by exact hz)]; exact h2, by omega, hB.trans (hb.mono hA), by omega⟩
theorem boxB (w : World) (x y z : Value) (t : TypeId) :
    (w.alloc (.cells #[x, y, z] t)).cell? ⟨w.heap.size, 0, none⟩ = some x ∧ (w.alloc (.cells #[x, y, z] t)).cell? ⟨w.heap.size, 1, none⟩ = some y ∧ (w.alloc (.cells #[x, y, z] t)).cell? ⟨w.heap.size, 2, none⟩ = some z
    ∧ w.heap.size < (w.alloc (.cells #[x, y, z] t)).heap.size ∧ Below w.heap.size w (w.alloc (.cells #[x, y, z] t)) ∧ w.heap.size ≤ (w.alloc (.cells #[x, y, z] t)).heap.size := by
  refine ⟨?_, ?_, ?_, by simp, (Below.refl _ _).alloc (Nat.le_refl _) _, by simp⟩
  all_goals go_simp
theorem drewB {B A : Nat} {W u : World} {x y z : Value} (h : u.cell? ⟨B, 0, none⟩ = some x ∧ u.cell? ⟨B, 1, none⟩ = some y ∧ u.cell? ⟨B, 2, none⟩ = some z ∧ B < u.heap.size ∧ Below A W u ∧ A ≤ u.heap.size) :
    u.drew.cell? ⟨B, 0, none⟩ = some x ∧ u.drew.cell? ⟨B, 1, none⟩ = some y ∧ u.drew.cell? ⟨B, 2, none⟩ = some z ∧ B < u.drew.heap.size ∧ Below A W u.drew ∧ A ≤ u.drew.heap.size :=
  ⟨h.1, h.2.1, h.2.2.1, h.2.2.2.1, h.2.2.2.2.1.drew, h.2.2.2.2.2⟩

set_option maxHeartbeats 400000 in
theorem isTrue_any (k n : Int) (s : ByteArray) (w : World) :
    Calls Tryd.prog 30 #[.agg #[.int .i64 k, .int .i64 n, .string s]] w fun e w' => e = .returned (.bool (sameV k n s 2 1 ⟨#[]⟩)) ∧ Below w.heap.size w w' := by
  have HX := Lib.hid (drewB (boxB w (.int .i64 k) (.int .i64 n) (.string s) 23))
  go_enter Tryd.func30, Tryd.ntmps30
  go_wp2_with fail
  go_region_held3 (fun u => u.cell? ⟨w.heap.size, 0, none⟩ = some (.int .i64 k) ∧ u.cell? ⟨w.heap.size, 1, none⟩ = some (.int .i64 n) ∧ u.cell? ⟨w.heap.size, 2, none⟩ = some (.string s) ∧ w.heap.size < u.heap.size ∧ Below w.heap.size w u ∧ w.heap.size ≤ u.heap.size)
    (first
      | exact HX.out
      | exact keepB hbq (by assumption))
    (first
      | (go_at_call 41; refine (truth_any true _).mono ?_; rintro e wq ⟨rfl, hbq⟩)
      | (go_at_call 40; refine (same_any _ _ _ _ _ _ _).mono ?_; rintro e wq ⟨rfl, hbq⟩))
  rename_i hHeld
  obtain ⟨-, -, -, -, hB, -⟩ := hHeld
  go_wp2
  go_ret
  exact ⟨rfl, hB⟩

set_option maxHeartbeats 400000 in
theorem risTrue_any (k n : Int) (s : ByteArray) (w : World) :
    Calls Tryd.prog 31 #[.agg #[.int .i64 k, .int .i64 n, .string s]] w fun e w' => e = .returned (.bool (sameV k n s 2 1 ⟨#[]⟩)) ∧ Below w.heap.size w w' := by
  have HX := Lib.hid (drewB (boxB w (.int .i64 k) (.int .i64 n) (.string s) 23))
  have hq := eql_val k n s 2 1 ⟨#[]⟩
  go_enter Tryd.func31, Tryd.ntmps31
  go_wp2_with fail
  go_region_held3 (fun u => u.cell? ⟨w.heap.size, 0, none⟩ = some (.int .i64 k) ∧ u.cell? ⟨w.heap.size, 1, none⟩ = some (.int .i64 n) ∧ u.cell? ⟨w.heap.size, 2, none⟩ = some (.string s) ∧ w.heap.size < u.heap.size ∧ Below w.heap.size w u ∧ w.heap.size ≤ u.heap.size)
    (first
      | exact HX.out
      | exact keepB hbq (by assumption))
    (first
      | (go_at_call 7; refine (rtruth_any true _).mono ?_; rintro e wq ⟨rfl, hbq⟩; rw [if_pos rfl]))
  rename_i hHeld
  obtain ⟨-, -, -, -, hB, -⟩ := hHeld
  go_wp2
  go_ret
  exact ⟨rfl, hB⟩

set_option maxHeartbeats 400000 in
theorem place_any (k n : Int) (s : ByteArray) (w : World) :
    Calls Tryd.prog 33 #[.agg #[.int .i64 k, .int .i64 n, .string s]] w fun e w' => e = .returned (.int .i64 (placeI k n s)) ∧ Below w.heap.size w w' := by
  cases hv : sameV k n s 2 1 ⟨#[]⟩
  · have HV := Lib.hid hv
    by_cases h0 : k = 0
    · have hp : placeI k n s = 1 := by unfold placeI; rw [hv, h0]; rfl
      have HP := Lib.hid hp
      have h0' : (k == 0) = true := by simp [h0]
      clear hv hp h0
      go_enter Tryd.func33, Tryd.ntmps33
      go_wp2_with fail
      refine (isTrue_any _ _ _ _).mono ?_
      rintro e w' ⟨rfl, hb⟩
      rw [HV.out]
      obtain ⟨c0, c1, c2, -, -, -, hz⟩ := box3 hb
      go_wp2
      go_ret
      exact ⟨ret_i HP.out.symm, Below.of_alloc hb⟩
    · have hp : placeI k n s = 0 := by unfold placeI; rw [hv, if_neg h0]; rfl
      have HP := Lib.hid hp
      have h0' : (k == 0) = false := beq_eq_false_iff_ne.2 h0
      clear hv hp h0
      go_enter Tryd.func33, Tryd.ntmps33
      go_wp2_with fail
      refine (isTrue_any _ _ _ _).mono ?_
      rintro e w' ⟨rfl, hb⟩
      rw [HV.out]
      obtain ⟨c0, c1, c2, -, -, -, hz⟩ := box3 hb
      go_wp2
      go_ret
      exact ⟨ret_i HP.out.symm, Below.of_alloc hb⟩
  · have HV := Lib.hid hv
    have hp : placeI k n s = 2 := by unfold placeI; rw [hv]; rfl
    have HP := Lib.hid hp
    clear hv hp
    go_enter Tryd.func33, Tryd.ntmps33
    go_wp2_with fail
    refine (isTrue_any _ _ _ _).mono ?_
    rintro e w' ⟨rfl, hb⟩
    rw [HV.out]
    go_wp2
    go_ret
    exact ⟨ret_i HP.out.symm, Below.of_alloc hb⟩

theorem tv_two {p : Int} (h : ¬ p = 1) : tvK p = 2 := if_neg h

set_option maxHeartbeats 400000 in
theorem valueAt_any (p : Int) (w : World) :
    Calls Tryd.prog 32 #[.int .i64 p] w fun e w' => e = .returned (.agg #[.int .i64 (tvK p), .int .i64 (tvN p), .string ⟨#[]⟩]) ∧ Below w.heap.size w w' := by
  by_cases h1 : p = 1
  · subst h1
    go_enter Tryd.func32, Tryd.ntmps32
    go_wp2
    exact bodyPost_ret (v := .agg #[.int .i64 0, .int .i64 0, .string ⟨#[]⟩]) (by simp [results, Tryd.results32, go_sem]) rfl ⟨rfl, (Below.refl _ _).alloc (Nat.le_refl _) _⟩
  · have h1' : (p == 1) = false := beq_eq_false_iff_ne.2 h1
    by_cases h2 : p = 2
    · subst h2
      go_enter Tryd.func32, Tryd.ntmps32
      go_wp2_with fail
      refine (truth_any true _).mono ?_
      rintro e w' ⟨rfl, hb⟩
      obtain ⟨c0, c1, c2, f0, f1, f2, hz⟩ := box3 hb
      go_wp2
      exact bodyPost_ret (v := .agg #[.int .i64 2, .int .i64 1, .string ⟨#[]⟩]) (by simp [results, Tryd.results32, go_sem, c0, c1, c2]) rfl ⟨rfl, (((Below.of_alloc hb).setCell (by exact Nat.le_refl _) _).setCell (by exact Nat.le_refl _) _).setCell (by exact Nat.le_refl _) _⟩
    · have h2' : (p == 2) = false := beq_eq_false_iff_ne.2 h2
      have HK := Lib.hid (show tvK p = 2 from if_neg h1)
      have HN := Lib.hid (show tvN p = 0 from if_neg h2)
      clear h1 h2
      go_enter Tryd.func32, Tryd.ntmps32
      go_wp2_with fail
      refine (truth_any false _).mono ?_
      rintro e w' ⟨rfl, hb⟩
      obtain ⟨c0, c1, c2, f0, f1, f2, hz⟩ := box3 hb
      go_wp2
      exact bodyPost_ret (v := .agg #[.int .i64 2, .int .i64 0, .string ⟨#[]⟩]) (by simp [results, Tryd.results32, go_sem, c0, c1, c2]) rfl ⟨by rw [HK.out, HN.out], (((Below.of_alloc hb).setCell (by exact Nat.le_refl _) _).setCell (by exact Nat.le_refl _) _).setCell (by exact Nat.le_refl _) _⟩
end Go.Proofs.YtlnjdgmolmeklaaDoor
