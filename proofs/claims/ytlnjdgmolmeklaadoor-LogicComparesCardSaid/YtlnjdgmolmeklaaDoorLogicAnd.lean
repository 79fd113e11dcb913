/-
  And, Or of the program, on all values.
-/
import Derived.Test.YtlnjdgmolmeklaaDoorLogicOps
import Derived.Deep.CutRange
namespace Go.Proofs.YtlnjdgmolmeklaaDoor
open Go.RowKit
variable {ls : List Nat}

theorem place_nat (k n : Int) (s : ByteArray) : ∃ p : Nat, placeI k n s = p ∧ p < 3 := by
  obtain ⟨h0, h1⟩ := place_bd k n s
  exact ⟨(placeI k n s).toNat, by omega, by omega⟩

theorem keepT {A g o : Nat} {W u v : World} {x y z x' y' z' t : Value} (hb : Below u.heap.size u v) (hg : g < 4)
    (h : u.cell? ⟨A, 0, none⟩ = some x ∧ u.cell? ⟨A, 1, none⟩ = some y ∧ u.cell? ⟨A, 2, none⟩ = some z ∧ u.cell? ⟨A + 1, 0, none⟩ = some x' ∧ u.cell? ⟨A + 1, 1, none⟩ = some y' ∧ u.cell? ⟨A + 1, 2, none⟩ = some z'
      ∧ u.cell? ⟨g, o, none⟩ = some t ∧ u.cell? ⟨A + 2, 0, none⟩ = some (rd u (A + 2) 0) ∧ u.cell? ⟨A + 2, 1, none⟩ = some (rd u (A + 2) 1) ∧ u.cell? ⟨A + 2, 2, none⟩ = some (rd u (A + 2) 2) ∧ (∀ o, u.frozen? ⟨A + 2, o, none⟩ = false) ∧ A + 2 < u.heap.size ∧ Below A W u ∧ 4 ≤ A) :
    v.cell? ⟨A, 0, none⟩ = some x ∧ v.cell? ⟨A, 1, none⟩ = some y ∧ v.cell? ⟨A, 2, none⟩ = some z ∧ v.cell? ⟨A + 1, 0, none⟩ = some x' ∧ v.cell? ⟨A + 1, 1, none⟩ = some y' ∧ v.cell? ⟨A + 1, 2, none⟩ = some z'
      ∧ v.cell? ⟨g, o, none⟩ = some t ∧ v.cell? ⟨A + 2, 0, none⟩ = some (rd v (A + 2) 0) ∧ v.cell? ⟨A + 2, 1, none⟩ = some (rd v (A + 2) 1) ∧ v.cell? ⟨A + 2, 2, none⟩ = some (rd v (A + 2) 2) ∧ (∀ o, v.frozen? ⟨A + 2, o, none⟩ = false) ∧ A + 2 < v.heap.size ∧ Below A W v ∧ 4 ≤ A := by
  obtain ⟨h0, h1, h2, h3, h4, h5, h6, h7, h7', h7'', h7f, h8, h9, h10⟩ := h
  have := hb.size
  have hc : ∀ B o, B < u.heap.size → v.cell? ⟨B, o, none⟩ = u.cell? ⟨B, o, none⟩ := fun B o hB => hb.cell (by exact hB)
  obtain ⟨m0, m1, m2, m3⟩ := may_low ⟨h7, h7', h7'', h7f⟩ h8 hb
  exact ⟨by rw [hc _ _ (by omega)]; exact h0, by rw [hc _ _ (by omega)]; exact h1, by rw [hc _ _ (by omega)]; exact h2, by rw [hc _ _ (by omega)]; exact h3, by rw [hc _ _ (by omega)]; exact h4, by rw [hc _ _ (by omega)]; exact h5,
    by rw [hc _ _ (by omega)]; exact h6, m0, m1, m2, m3, by omega, h9.trans (hb.mono (by omega)), h10⟩
theorem keepTs {A g o : Nat} {W u : World} {x y z x' y' z' t a b c : Value} (hg : g < 4)
    (h : u.cell? ⟨A, 0, none⟩ = some x ∧ u.cell? ⟨A, 1, none⟩ = some y ∧ u.cell? ⟨A, 2, none⟩ = some z ∧ u.cell? ⟨A + 1, 0, none⟩ = some x' ∧ u.cell? ⟨A + 1, 1, none⟩ = some y' ∧ u.cell? ⟨A + 1, 2, none⟩ = some z'
      ∧ u.cell? ⟨g, o, none⟩ = some t ∧ u.cell? ⟨A + 2, 0, none⟩ = some (rd u (A + 2) 0) ∧ u.cell? ⟨A + 2, 1, none⟩ = some (rd u (A + 2) 1) ∧ u.cell? ⟨A + 2, 2, none⟩ = some (rd u (A + 2) 2) ∧ (∀ o, u.frozen? ⟨A + 2, o, none⟩ = false) ∧ A + 2 < u.heap.size ∧ Below A W u ∧ 4 ≤ A) :
    (((u.setCell ⟨A + 2, 0, none⟩ a).setCell ⟨A + 2, 1, none⟩ b).setCell ⟨A + 2, 2, none⟩ c).cell? ⟨A, 0, none⟩ = some x ∧ (((u.setCell ⟨A + 2, 0, none⟩ a).setCell ⟨A + 2, 1, none⟩ b).setCell ⟨A + 2, 2, none⟩ c).cell? ⟨A, 1, none⟩ = some y ∧ (((u.setCell ⟨A + 2, 0, none⟩ a).setCell ⟨A + 2, 1, none⟩ b).setCell ⟨A + 2, 2, none⟩ c).cell? ⟨A, 2, none⟩ = some z ∧ (((u.setCell ⟨A + 2, 0, none⟩ a).setCell ⟨A + 2, 1, none⟩ b).setCell ⟨A + 2, 2, none⟩ c).cell? ⟨A + 1, 0, none⟩ = some x' ∧ (((u.setCell ⟨A + 2, 0, none⟩ a).setCell ⟨A + 2, 1, none⟩ b).setCell ⟨A + 2, 2, none⟩ c).cell? ⟨A + 1, 1, none⟩ = some y' ∧ (((u.setCell ⟨A + 2, 0, none⟩ a).setCell ⟨A + 2, 1, none⟩ b).setCell ⟨A + 2, 2, none⟩ c).cell? ⟨A + 1, 2, none⟩ = some z'
      ∧ (((u.setCell ⟨A + 2, 0, none⟩ a).setCell ⟨A + 2, 1, none⟩ b).setCell ⟨A + 2, 2, none⟩ c).cell? ⟨g, o, none⟩ = some t ∧ (((u.setCell ⟨A + 2, 0, none⟩ a).setCell ⟨A + 2, 1, none⟩ b).setCell ⟨A + 2, 2, none⟩ c).cell? ⟨A + 2, 0, none⟩ = some (rd (((u.setCell ⟨A + 2, 0, none⟩ a).setCell ⟨A + 2, 1, none⟩ b).setCell ⟨A + 2, 2, none⟩ c) (A + 2) 0) ∧ (((u.setCell ⟨A + 2, 0, none⟩ a).setCell ⟨A + 2, 1, none⟩ b).setCell ⟨A + 2, 2, none⟩ c).cell? ⟨A + 2, 1, none⟩ = some (rd (((u.setCell ⟨A + 2, 0, none⟩ a).setCell ⟨A + 2, 1, none⟩ b).setCell ⟨A + 2, 2, none⟩ c) (A + 2) 1) ∧ (((u.setCell ⟨A + 2, 0, none⟩ a).setCell ⟨A + 2, 1, none⟩ b).setCell ⟨A + 2, 2, none⟩ c).cell? ⟨A + 2, 2, none⟩ = some (rd (((u.setCell ⟨A + 2, 0, none⟩ a).setCell ⟨A + 2, 1, none⟩ b).setCell ⟨A + 2, 2, none⟩ c) (A + 2) 2) ∧ (∀ o, (((u.setCell ⟨A + 2, 0, none⟩ a).setCell ⟨A + 2, 1, none⟩ b).setCell ⟨A + 2, 2, none⟩ c).frozen? ⟨A + 2, o, none⟩ = false) ∧ A + 2 < (((u.setCell ⟨A + 2, 0, none⟩ a).setCell ⟨A + 2, 1, none⟩ b).setCell ⟨A + 2, 2, none⟩ c).heap.size ∧ Below A W (((u.setCell ⟨A + 2, 0, none⟩ a).setCell ⟨A + 2, 1, none⟩ b).setCell ⟨A + 2, 2, none⟩ c) ∧ 4 ≤ A := by
  obtain ⟨h0, h1, h2, h3, h4, h5, h6, h7, h7', h7'', h7f, h8, h9, h10⟩ := h
  obtain ⟨m0, m1, m2, m3⟩ := (cell3_set (⟨h8, h7, h7', h7'', h7f⟩ : Cell3 u (A + 2) _ _ _) a b c).may
  exact ⟨by rw [cell3_far (by omega)]; exact h0, by rw [cell3_far (by omega)]; exact h1, by rw [cell3_far (by omega)]; exact h2, by rw [cell3_far (by omega)]; exact h3, by rw [cell3_far (by omega)]; exact h4, by rw [cell3_far (by omega)]; exact h5,
    by rw [cell3_far (by omega)]; exact h6, m0, m1, m2, m3, by rw [size_set3]; exact h8, ((h9.setCell (by exact Nat.le_add_right _ 2) _).setCell (by exact Nat.le_add_right _ 2) _).setCell (by exact Nat.le_add_right _ 2) _, h10⟩

set_option maxHeartbeats 400000 in
theorem and_bad (k n : Int) (s : ByteArray) (k' n' : Int) (s' : ByteArray) (w : World) (hs : s.size ≤ 9223372036854775807) (hs' : s'.size ≤ 9223372036854775807) (hl : logB k n s = false ∨ (logB k n s = true ∧ logB k' n' s' = false)) :
    Calls Tryd.prog 15 #[.agg #[.int .i64 k, .int .i64 n, .string s], .agg #[.int .i64 k', .int .i64 n', .string s']] w fun e w' => e = ans 1 false ∧ Below w.heap.size w w' := by
  rcases hl with hl | ⟨hl, hl'⟩
  · have HL := Lib.hid hl
    clear hl
    go_enter Tryd.func15, Tryd.ntmps15
    go_wp2_with fail
    refine (logic_valid _ _ _ _ hs).mono ?_
    rintro e w' ⟨rfl, hb⟩
    rw [HL.out]
    obtain ⟨-, -, ⟨rz, r0, r1, r2, rf⟩, hb'⟩ := box_three _ _ _ _ _ _ _ _ _ _ _ _ _ hb
    clear hb
    go_wp2
    exact bodyPost_ret (v := .tuple #[.agg #[.int .i64 0, .int .i64 0, .string ⟨#[]⟩], .bool false]) (by simp [results, Tryd.results15, go_sem, r0, r1, r2]) rfl ⟨rfl, Below.three2 hb' _ _ _⟩
  · have HL := Lib.hid hl
    have HL' := Lib.hid hl'
    clear hl hl'
    go_enter Tryd.func15, Tryd.ntmps15
    go_wp2_with fail
    refine (logic_valid _ _ _ _ hs).mono ?_
    rintro e w' ⟨rfl, hb⟩
    rw [HL.out]
    obtain ⟨-, ⟨bz, b0, b1, b2, bf⟩, hR, hb'⟩ := box_three _ _ _ _ _ _ _ _ _ _ _ _ _ hb
    clear hb
    go_wp2_with fail
    refine (logic_valid _ _ _ _ hs').mono ?_
    rintro e w2 ⟨rfl, hb2⟩
    rw [HL'.out]
    obtain ⟨rz, r0, r1, r2, rf⟩ := hR.low hb2
    have hb3 := Below.next hb' hb2
    clear hb2 hb' hR bz b0 b1 b2 bf
    go_wp2
    exact bodyPost_ret (v := .tuple #[.agg #[.int .i64 0, .int .i64 0, .string ⟨#[]⟩], .bool false]) (by simp [results, Tryd.results15, go_sem, r0, r1, r2]) rfl ⟨rfl, Below.three2 hb3 _ _ _⟩

set_option maxHeartbeats 400000 in
theorem or_bad (k n : Int) (s : ByteArray) (k' n' : Int) (s' : ByteArray) (w : World) (hs : s.size ≤ 9223372036854775807) (hs' : s'.size ≤ 9223372036854775807) (hl : logB k n s = false ∨ (logB k n s = true ∧ logB k' n' s' = false)) :
    Calls Tryd.prog 17 #[.agg #[.int .i64 k, .int .i64 n, .string s], .agg #[.int .i64 k', .int .i64 n', .string s']] w fun e w' => e = ans 1 false ∧ Below w.heap.size w w' := by
  rcases hl with hl | ⟨hl, hl'⟩
  · have HL := Lib.hid hl
    clear hl
    go_enter Tryd.func17, Tryd.ntmps17
    go_wp2_with fail
    refine (logic_valid _ _ _ _ hs).mono ?_
    rintro e w' ⟨rfl, hb⟩
    rw [HL.out]
    obtain ⟨-, -, ⟨rz, r0, r1, r2, rf⟩, hb'⟩ := box_three _ _ _ _ _ _ _ _ _ _ _ _ _ hb
    clear hb
    go_wp2
    exact bodyPost_ret (v := .tuple #[.agg #[.int .i64 0, .int .i64 0, .string ⟨#[]⟩], .bool false]) (by simp [results, Tryd.results17, go_sem, r0, r1, r2]) rfl ⟨rfl, Below.three2 hb' _ _ _⟩
  · have HL := Lib.hid hl
    have HL' := Lib.hid hl'
    clear hl hl'
    go_enter Tryd.func17, Tryd.ntmps17
    go_wp2_with fail
    refine (logic_valid _ _ _ _ hs).mono ?_
    rintro e w' ⟨rfl, hb⟩
    rw [HL.out]
    obtain ⟨-, ⟨bz, b0, b1, b2, bf⟩, hR, hb'⟩ := box_three _ _ _ _ _ _ _ _ _ _ _ _ _ hb
    clear hb
    go_wp2_with fail
    refine (logic_valid _ _ _ _ hs').mono ?_
    rintro e w2 ⟨rfl, hb2⟩
    rw [HL'.out]
    obtain ⟨rz, r0, r1, r2, rf⟩ := hR.low hb2
    have hb3 := Below.next hb' hb2
    clear hb2 hb' hR bz b0 b1 b2 bf
    go_wp2
    exact bodyPost_ret (v := .tuple #[.agg #[.int .i64 0, .int .i64 0, .string ⟨#[]⟩], .bool false]) (by simp [results, Tryd.results17, go_sem, r0, r1, r2]) rfl ⟨rfl, Below.three2 hb3 _ _ _⟩

set_option maxRecDepth 100000 in
set_option maxHeartbeats 4000000 in
theorem and_good (k n : Int) (s : ByteArray) (k' n' : Int) (s' : ByteArray) (w : World) (hE : Env ls w) (hlt : 0 ∈ ls) (hs : s.size ≤ 9223372036854775807) (hs' : s'.size ≤ 9223372036854775807) (hl : logB k n s = true) (hl' : logB k' n' s' = true) :
    Calls Tryd.prog 15 #[.agg #[.int .i64 k, .int .i64 n, .string s], .agg #[.int .i64 k', .int .i64 n', .string s']] w fun e w' => e = ans (andP (placeI k n s) (placeI k' n' s')) true ∧ Below w.heap.size w w' := by
  have HL := Lib.hid hl
  have HL' := Lib.hid hl'
  clear hl hl'
  obtain ⟨p, hp, hp3⟩ := place_nat k n s
  obtain ⟨q, hq, hq3⟩ := place_nat k' n' s'
  rw [hp, hq]
  have HP := Lib.hid hp
  have HQ := Lib.hid hq
  clear hp hq
  have HE := Lib.hid hE
  have hz8 := hE.size
  clear hE
  go_enter Tryd.func15, Tryd.ntmps15
  go_wp2_with fail
  refine (logic_valid _ _ _ _ hs).mono ?_
  rintro e w1 ⟨rfl, hb⟩
  rw [HL.out]
  obtain ⟨hA, hB, hR, hb1⟩ := box_three _ _ _ _ _ _ _ _ _ _ _ _ _ hb
  clear hb
  obtain ⟨bz, b0, b1, b2, bf⟩ := id hB
  go_wp2_with fail
  refine (logic_valid _ _ _ _ hs').mono ?_
  rintro e w2 ⟨rfl, hb2⟩
  rw [HL'.out]
  clear bz b0 b1 b2 bf
  obtain ⟨az, a0, a1, a2, -⟩ := hA.low hb2
  obtain ⟨bz, b0, b1, b2, -⟩ := hB.low hb2
  obtain ⟨rz, r0, r1, r2, rf⟩ := hR.low hb2
  have hb3 := Below.next hb1 hb2
  have ht := (HE.out.low hb3).ands hlt p q hp3 hq3
  clear hA hB hR hb1 hb2 HL HL' HE
  have hwz := hb3.size
  have hpi : (p : Int) < 3 := by omega
  have hqi : (q : Int) < 3 := by omega
  go_wp2_with fail
  go_region_held3 (fun u => u.cell? ⟨w.heap.size, 0, none⟩ = some (.int .i64 k) ∧ u.cell? ⟨w.heap.size, 1, none⟩ = some (.int .i64 n) ∧ u.cell? ⟨w.heap.size, 2, none⟩ = some (.string s) ∧ u.cell? ⟨w.heap.size + 1, 0, none⟩ = some (.int .i64 k') ∧ u.cell? ⟨w.heap.size + 1, 1, none⟩ = some (.int .i64 n') ∧ u.cell? ⟨w.heap.size + 1, 2, none⟩ = some (.string s')
      ∧ u.cell? ⟨0, p * 3 + q, none⟩ = some (.int .i64 (((andL.getD p []).getD q 0))) ∧ u.cell? ⟨w.heap.size + 2, 0, none⟩ = some (rd u (w.heap.size + 2) 0) ∧ u.cell? ⟨w.heap.size + 2, 1, none⟩ = some (rd u (w.heap.size + 2) 1) ∧ u.cell? ⟨w.heap.size + 2, 2, none⟩ = some (rd u (w.heap.size + 2) 2) ∧ (∀ o, u.frozen? ⟨w.heap.size + 2, o, none⟩ = false) ∧ w.heap.size + 2 < u.heap.size ∧ Below w.heap.size w u ∧ 4 ≤ w.heap.size)
    (first
      | exact ⟨a0, a1, a2, b0, b1, b2, ht, rd_some r0, rd_some r1, rd_some r2, rf, rz, hb3.drew, hz8⟩
      | exact keepT hbq (by decide) (by assumption)
      | exact keepTs (by decide) (by assumption))
    (first
      | (go_at_call 33; refine (place_any _ _ _ _).mono ?_; rintro e wq ⟨rfl, hbq⟩; (first | rw [HP.out] | rw [HQ.out]))
      | (go_at_call 32; refine (valueAt_any _ _).mono ?_; rintro e wq ⟨rfl, hbq⟩))
  rename_i hHeld
  obtain ⟨-, -, -, -, -, -, -, h0, h1, h2, -, -, hB, -⟩ := hHeld
  obtain ⟨e0, e1, e2⟩ := set3_read h0 h1 h2
  rw [e0] at h0
  rw [e1] at h1
  rw [e2] at h2
  clear e0 e1 e2 ht r0 r1 r2 rf a0 a1 a2 b0 b1 b2 hb3
  generalize (((wq.setCell _ _).setCell _ _).setCell _ _) = W at h0 h1 h2 hB ⊢
  go_wp2
  exact bodyPost_ret (v := .tuple #[.agg #[.int .i64 (tvK (andP p q)), .int .i64 (tvN (andP p q)), .string ⟨#[]⟩], .bool true]) (by simp [results, Tryd.results15, go_sem, h0, h1, h2, andP]) rfl ⟨rfl, hB⟩

set_option maxRecDepth 100000 in
set_option maxHeartbeats 4000000 in
theorem or_good (k n : Int) (s : ByteArray) (k' n' : Int) (s' : ByteArray) (w : World) (hE : Env ls w) (hlt : 1 ∈ ls) (hs : s.size ≤ 9223372036854775807) (hs' : s'.size ≤ 9223372036854775807) (hl : logB k n s = true) (hl' : logB k' n' s' = true) :
    Calls Tryd.prog 17 #[.agg #[.int .i64 k, .int .i64 n, .string s], .agg #[.int .i64 k', .int .i64 n', .string s']] w fun e w' => e = ans (orP (placeI k n s) (placeI k' n' s')) true ∧ Below w.heap.size w w' := by
  have HL := Lib.hid hl
  have HL' := Lib.hid hl'
  clear hl hl'
  obtain ⟨p, hp, hp3⟩ := place_nat k n s
  obtain ⟨q, hq, hq3⟩ := place_nat k' n' s'
  rw [hp, hq]
  have HP := Lib.hid hp
  have HQ := Lib.hid hq
  clear hp hq
  have HE := Lib.hid hE
  have hz8 := hE.size
  clear hE
  go_enter Tryd.func17, Tryd.ntmps17
  go_wp2_with fail
  refine (logic_valid _ _ _ _ hs).mono ?_
  rintro e w1 ⟨rfl, hb⟩
  rw [HL.out]
  obtain ⟨hA, hB, hR, hb1⟩ := box_three _ _ _ _ _ _ _ _ _ _ _ _ _ hb
  clear hb
  obtain ⟨bz, b0, b1, b2, bf⟩ := id hB
  go_wp2_with fail
  refine (logic_valid _ _ _ _ hs').mono ?_
  rintro e w2 ⟨rfl, hb2⟩
  rw [HL'.out]
  clear bz b0 b1 b2 bf
  obtain ⟨az, a0, a1, a2, -⟩ := hA.low hb2
  obtain ⟨bz, b0, b1, b2, -⟩ := hB.low hb2
  obtain ⟨rz, r0, r1, r2, rf⟩ := hR.low hb2
  have hb3 := Below.next hb1 hb2
  have ht := (HE.out.low hb3).ors hlt p q hp3 hq3
  clear hA hB hR hb1 hb2 HL HL' HE
  have hwz := hb3.size
  have hpi : (p : Int) < 3 := by omega
  have hqi : (q : Int) < 3 := by omega
  go_wp2_with fail
  go_region_held3 (fun u => u.cell? ⟨w.heap.size, 0, none⟩ = some (.int .i64 k) ∧ u.cell? ⟨w.heap.size, 1, none⟩ = some (.int .i64 n) ∧ u.cell? ⟨w.heap.size, 2, none⟩ = some (.string s) ∧ u.cell? ⟨w.heap.size + 1, 0, none⟩ = some (.int .i64 k') ∧ u.cell? ⟨w.heap.size + 1, 1, none⟩ = some (.int .i64 n') ∧ u.cell? ⟨w.heap.size + 1, 2, none⟩ = some (.string s')
      ∧ u.cell? ⟨1, p * 3 + q, none⟩ = some (.int .i64 (((orL.getD p []).getD q 0))) ∧ u.cell? ⟨w.heap.size + 2, 0, none⟩ = some (rd u (w.heap.size + 2) 0) ∧ u.cell? ⟨w.heap.size + 2, 1, none⟩ = some (rd u (w.heap.size + 2) 1) ∧ u.cell? ⟨w.heap.size + 2, 2, none⟩ = some (rd u (w.heap.size + 2) 2) ∧ (∀ o, u.frozen? ⟨w.heap.size + 2, o, none⟩ = false) ∧ w.heap.size + 2 < u.heap.size ∧ Below w.heap.size w u ∧ 4 ≤ w.heap.size)
    (first
      | exact ⟨a0, a1, a2, b0, b1, b2, ht, rd_some r0, rd_some r1, rd_some r2, rf, rz, hb3.drew, hz8⟩
      | exact keepT hbq (by decide) (by assumption)
      | exact keepTs (by decide) (by assumption))
    (first
      | (go_at_call 33; refine (place_any _ _ _ _).mono ?_; rintro e wq ⟨rfl, hbq⟩; (first | rw [HP.out] | rw [HQ.out]))
      | (go_at_call 32; refine (valueAt_any _ _).mono ?_; rintro e wq ⟨rfl, hbq⟩))
  rename_i hHeld
  obtain ⟨-, -, -, -, -, -, -, h0, h1, h2, -, -, hB, -⟩ := hHeld
  obtain ⟨e0, e1, e2⟩ := set3_read h0 h1 h2
  rw [e0] at h0
  rw [e1] at h1
  rw [e2] at h2
  clear e0 e1 e2 ht r0 r1 r2 rf a0 a1 a2 b0 b1 b2 hb3
  generalize (((wq.setCell _ _).setCell _ _).setCell _ _) = W at h0 h1 h2 hB ⊢
  go_wp2
  exact bodyPost_ret (v := .tuple #[.agg #[.int .i64 (tvK (orP p q)), .int .i64 (tvN (orP p q)), .string ⟨#[]⟩], .bool true]) (by simp [results, Tryd.results17, go_sem, h0, h1, h2, orP]) rfl ⟨rfl, hB⟩

theorem and_any (k n : Int) (s : ByteArray) (k' n' : Int) (s' : ByteArray) (w : World) (hE : Env ls w) (hlt : 0 ∈ ls) (hs : s.size ≤ 9223372036854775807) (hs' : s'.size ≤ 9223372036854775807) :
    Calls Tryd.prog 15 #[.agg #[.int .i64 k, .int .i64 n, .string s], .agg #[.int .i64 k', .int .i64 n', .string s']] w fun e w' => e = ans (andQ k n s k' n' s') (logB k n s && logB k' n' s') ∧ Below w.heap.size w w' := by
  cases hl : logB k n s
  · rw [show andQ k n s k' n' s' = 1 by unfold andQ; rw [hl]; rfl]; exact and_bad k n s k' n' s' w hs hs' (Or.inl hl)
  · cases hl' : logB k' n' s'
    · rw [show andQ k n s k' n' s' = 1 by unfold andQ; rw [hl, hl']; rfl]; exact and_bad k n s k' n' s' w hs hs' (Or.inr ⟨hl, hl'⟩)
    · rw [show andQ k n s k' n' s' = andP (placeI k n s) (placeI k' n' s') by unfold andQ; rw [hl, hl']; rfl]; exact and_good k n s k' n' s' w hE hlt hs hs' hl hl'

theorem or_any (k n : Int) (s : ByteArray) (k' n' : Int) (s' : ByteArray) (w : World) (hE : Env ls w) (hlt : 1 ∈ ls) (hs : s.size ≤ 9223372036854775807) (hs' : s'.size ≤ 9223372036854775807) :
    Calls Tryd.prog 17 #[.agg #[.int .i64 k, .int .i64 n, .string s], .agg #[.int .i64 k', .int .i64 n', .string s']] w fun e w' => e = ans (orQ k n s k' n' s') (logB k n s && logB k' n' s') ∧ Below w.heap.size w w' := by
  cases hl : logB k n s
  · rw [show orQ k n s k' n' s' = 1 by unfold orQ; rw [hl]; rfl]; exact or_bad k n s k' n' s' w hs hs' (Or.inl hl)
  · cases hl' : logB k' n' s'
    · rw [show orQ k n s k' n' s' = 1 by unfold orQ; rw [hl, hl']; rfl]; exact or_bad k n s k' n' s' w hs hs' (Or.inr ⟨hl, hl'⟩)
    · rw [show orQ k n s k' n' s' = orP (placeI k n s) (placeI k' n' s') by unfold orQ; rw [hl, hl']; rfl]; exact or_good k n s k' n' s' w hE hlt hs hs' hl hl'
end Go.Proofs.YtlnjdgmolmeklaaDoor
