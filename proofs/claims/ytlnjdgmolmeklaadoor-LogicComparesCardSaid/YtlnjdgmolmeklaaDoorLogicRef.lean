/-
  And, Or of the reference, on all values.
-/
import Derived.Test.YtlnjdgmolmeklaaDoorLogicOps
namespace Go.Proofs.YtlnjdgmolmeklaaDoor
open Go.RowKit

theorem Cell3.drew {u : World} {X : Nat} {x y z : Value} (h : Cell3 u X x y z) : Cell3 u.drew X x y z := ⟨h.lt, h.c0, h.c1, h.c2, h.fz⟩
theorem keep3c {A : Nat} {W u v : World} {x y z x' y' z' a0 a1 a2 b0 b1 b2 r0 r1 r2 : Value} (hb : Below u.heap.size u v)
    (h : u.cell? ⟨A, 0, none⟩ = some x ∧ u.cell? ⟨A, 1, none⟩ = some y ∧ u.cell? ⟨A, 2, none⟩ = some z ∧ u.cell? ⟨A + 1, 0, none⟩ = some x' ∧ u.cell? ⟨A + 1, 1, none⟩ = some y' ∧ u.cell? ⟨A + 1, 2, none⟩ = some z'
      ∧ Cell3 u A a0 a1 a2 ∧ Cell3 u (A + 1) b0 b1 b2 ∧ Cell3 u (A + 2) r0 r1 r2 ∧ Below A W u) :
    v.cell? ⟨A, 0, none⟩ = some x ∧ v.cell? ⟨A, 1, none⟩ = some y ∧ v.cell? ⟨A, 2, none⟩ = some z ∧ v.cell? ⟨A + 1, 0, none⟩ = some x' ∧ v.cell? ⟨A + 1, 1, none⟩ = some y' ∧ v.cell? ⟨A + 1, 2, none⟩ = some z'
      ∧ Cell3 v A a0 a1 a2 ∧ Cell3 v (A + 1) b0 b1 b2 ∧ Cell3 v (A + 2) r0 r1 r2 ∧ Below A W v := by
  obtain ⟨h0, h1, h2, h3, h4, h5, hA, hB, hR, h9⟩ := h
  have hzA := hA.lt
  have hzB := hB.lt
  have hc : ∀ B o, B < u.heap.size → v.cell? ⟨B, o, none⟩ = u.cell? ⟨B, o, none⟩ := fun B o hB => hb.cell (by exact hB)
  exact ⟨by rw [hc _ _ (by omega)]; exact h0, by rw [hc _ _ (by omega)]; exact h1, by rw [hc _ _ (by omega)]; exact h2, by rw [hc _ _ (by omega)]; exact h3, by rw [hc _ _ (by omega)]; exact h4, by rw [hc _ _ (by omega)]; exact h5,
    hA.low hb, hB.low hb, hR.low hb, h9.trans (hb.mono (by omega))⟩

set_option maxHeartbeats 400000 in
theorem rand_bad (k n : Int) (s : ByteArray) (k' n' : Int) (s' : ByteArray) (w : World) (hs : s.size ≤ 9223372036854775807) (hs' : s'.size ≤ 9223372036854775807) (hl : logB k n s = false ∨ (logB k n s = true ∧ logB k' n' s' = false)) :
    Calls Tryd.prog 24 #[.agg #[.int .i64 k, .int .i64 n, .string s], .agg #[.int .i64 k', .int .i64 n', .string s']] w fun e w' => e = ans 1 false ∧ Below w.heap.size w w' := by
  rcases hl with hl | ⟨hl, hl'⟩
  · have HL := Lib.hid hl
    clear hl
    go_enter Tryd.func24, Tryd.ntmps24
    go_wp2_with fail
    refine (rlogic_valid _ _ _ _ hs).mono ?_
    rintro e w' ⟨rfl, hb⟩
    rw [HL.out]
    obtain ⟨-, -, ⟨rz, r0, r1, r2, rf⟩, hb'⟩ := box_three _ _ _ _ _ _ _ _ _ _ _ _ _ hb
    clear hb
    go_wp2
    exact bodyPost_ret (v := .tuple #[.agg #[.int .i64 0, .int .i64 0, .string ⟨#[]⟩], .bool false]) (by simp [results, Tryd.results24, go_sem, r0, r1, r2]) rfl ⟨rfl, Below.three2 hb' _ _ _⟩
  · have HL := Lib.hid hl
    have HL' := Lib.hid hl'
    clear hl hl'
    go_enter Tryd.func24, Tryd.ntmps24
    go_wp2_with fail
    refine (rlogic_valid _ _ _ _ hs).mono ?_
    rintro e w' ⟨rfl, hb⟩
    rw [HL.out]
    obtain ⟨-, ⟨bz, b0, b1, b2, bf⟩, hR, hb'⟩ := box_three _ _ _ _ _ _ _ _ _ _ _ _ _ hb
    clear hb
    go_wp2_with fail
    refine (rlogic_valid _ _ _ _ hs').mono ?_
    rintro e w2 ⟨rfl, hb2⟩
    rw [HL'.out]
    obtain ⟨rz, r0, r1, r2, rf⟩ := hR.low hb2
    have hb3 := Below.next hb' hb2
    clear hb2 hb' hR bz b0 b1 b2 bf
    go_wp2
    exact bodyPost_ret (v := .tuple #[.agg #[.int .i64 0, .int .i64 0, .string ⟨#[]⟩], .bool false]) (by simp [results, Tryd.results24, go_sem, r0, r1, r2]) rfl ⟨rfl, Below.three2 hb3 _ _ _⟩

set_option maxHeartbeats 400000 in
theorem ror_bad (k n : Int) (s : ByteArray) (k' n' : Int) (s' : ByteArray) (w : World) (hs : s.size ≤ 9223372036854775807) (hs' : s'.size ≤ 9223372036854775807) (hl : logB k n s = false ∨ (logB k n s = true ∧ logB k' n' s' = false)) :
    Calls Tryd.prog 25 #[.agg #[.int .i64 k, .int .i64 n, .string s], .agg #[.int .i64 k', .int .i64 n', .string s']] w fun e w' => e = ans 1 false ∧ Below w.heap.size w w' := by
  rcases hl with hl | ⟨hl, hl'⟩
  · have HL := Lib.hid hl
    clear hl
    go_enter Tryd.func25, Tryd.ntmps25
    go_wp2_with fail
    refine (rlogic_valid _ _ _ _ hs).mono ?_
    rintro e w' ⟨rfl, hb⟩
    rw [HL.out]
    obtain ⟨-, -, ⟨rz, r0, r1, r2, rf⟩, hb'⟩ := box_three _ _ _ _ _ _ _ _ _ _ _ _ _ hb
    clear hb
    go_wp2
    exact bodyPost_ret (v := .tuple #[.agg #[.int .i64 0, .int .i64 0, .string ⟨#[]⟩], .bool false]) (by simp [results, Tryd.results25, go_sem, r0, r1, r2]) rfl ⟨rfl, Below.three2 hb' _ _ _⟩
  · have HL := Lib.hid hl
    have HL' := Lib.hid hl'
    clear hl hl'
    go_enter Tryd.func25, Tryd.ntmps25
    go_wp2_with fail
    refine (rlogic_valid _ _ _ _ hs).mono ?_
    rintro e w' ⟨rfl, hb⟩
    rw [HL.out]
    obtain ⟨-, ⟨bz, b0, b1, b2, bf⟩, hR, hb'⟩ := box_three _ _ _ _ _ _ _ _ _ _ _ _ _ hb
    clear hb
    go_wp2_with fail
    refine (rlogic_valid _ _ _ _ hs').mono ?_
    rintro e w2 ⟨rfl, hb2⟩
    rw [HL'.out]
    obtain ⟨rz, r0, r1, r2, rf⟩ := hR.low hb2
    have hb3 := Below.next hb' hb2
    clear hb2 hb' hR bz b0 b1 b2 bf
    go_wp2
    exact bodyPost_ret (v := .tuple #[.agg #[.int .i64 0, .int .i64 0, .string ⟨#[]⟩], .bool false]) (by simp [results, Tryd.results25, go_sem, r0, r1, r2]) rfl ⟨rfl, Below.three2 hb3 _ _ _⟩

set_option maxRecDepth 100000 in
set_option maxHeartbeats 1000000 in
theorem rand_11 (w : World) : Calls Tryd.prog 24 #[.agg #[.int .i64 0, .int .i64 0, .string ⟨#[]⟩], .agg #[.int .i64 0, .int .i64 0, .string ⟨#[]⟩]] w fun e w' => e = .returned (.tuple #[.agg #[.int .i64 0, .int .i64 0, .string ⟨#[]⟩], .bool true]) ∧ Below w.heap.size w w' := by
  have HL := Lib.hid log0
  have HL' := Lib.hid log0
  go_enter Tryd.func24, Tryd.ntmps24
  go_wp2_with fail
  refine (rlogic_valid _ _ _ _ (by decide)).mono ?_
  rintro e w1 ⟨rfl, hb⟩
  rw [HL.out]
  obtain ⟨hA, hB, hR, hb1⟩ := box_three _ _ _ _ _ _ _ _ _ _ _ _ _ hb
  clear hb
  obtain ⟨bz, b0, b1, b2, bf⟩ := id hB
  go_wp2_with fail
  refine (rlogic_valid _ _ _ _ (by decide)).mono ?_
  rintro e w2 ⟨rfl, hb2⟩
  rw [HL'.out]
  clear bz b0 b1 b2 bf
  replace hA := hA.low hb2
  replace hB := hB.low hb2
  replace hR := hR.low hb2
  have hW := Below.next hb1 hb2
  clear hb1 hb2 HL HL'
  obtain ⟨az, a0, a1, a2, -⟩ := id hA
  obtain ⟨bz, b0, b1, b2, -⟩ := id hB
  obtain ⟨rz, r0, r1, r2, rf⟩ := id hR
  go_wp2_with fail
  go_region_held3 (fun u => u.cell? ⟨w.heap.size, 0, none⟩ = some (.int .i64 0) ∧ u.cell? ⟨w.heap.size, 1, none⟩ = some (.int .i64 0) ∧ u.cell? ⟨w.heap.size, 2, none⟩ = some (.string ⟨#[]⟩) ∧ u.cell? ⟨w.heap.size + 1, 0, none⟩ = some (.int .i64 0) ∧ u.cell? ⟨w.heap.size + 1, 1, none⟩ = some (.int .i64 0) ∧ u.cell? ⟨w.heap.size + 1, 2, none⟩ = some (.string ⟨#[]⟩)
      ∧ Cell3 u w.heap.size (.int .i64 0) (.int .i64 0) (.string ⟨#[]⟩) ∧ Cell3 u (w.heap.size + 1) (.int .i64 0) (.int .i64 0) (.string ⟨#[]⟩) ∧ Cell3 u (w.heap.size + 2) (.int .i64 0) (.int .i64 0) (.string ⟨#[]⟩) ∧ Below w.heap.size w u)
    (first
      | exact ⟨a0, a1, a2, b0, b1, b2, hA.drew, hB.drew, hR.drew, hW.drew⟩
      | exact keep3c hbq (by assumption))
    (first
      | (go_at_call 7; refine (rtruth_any false _).mono ?_; rintro e wq ⟨rfl, hbq⟩))
  rename_i hHeld
  clear az a0 a1 a2 bz b0 b1 b2 rz r0 r1 r2 rf hA hB hR hW
  obtain ⟨a0, a1, a2, b0, b1, b2, hA, hB, hR, hW⟩ := hHeld
  have az := hA.lt
  have bz := hB.lt
  obtain ⟨rz, r0, r1, r2, rf⟩ := id hR
  go_wp2_with (first | (go_at_call 7; refine (rtruth_any _ _).mono ?_; rintro e wn ⟨rfl, hbn⟩; clear az a0 a1 a2 bz b0 b1 b2 rz r0 r1 r2 rf; replace hA := hA.low hbn; replace hB := hB.low hbn; replace hR := hR.low hbn; replace hW := Below.next hW hbn; clear hbn; obtain ⟨az, a0, a1, a2, -⟩ := id hA; obtain ⟨bz, b0, b1, b2, -⟩ := id hB; obtain ⟨rz, r0, r1, r2, rf⟩ := id hR))
  exact bodyPost_ret (v := .tuple #[.agg #[.int .i64 0, .int .i64 0, .string ⟨#[]⟩], .bool true]) (by simp [results, Tryd.results24, go_sem, r0, r1, r2]) rfl ⟨rfl, Below.three2 hW _ _ _⟩

set_option maxRecDepth 100000 in
set_option maxHeartbeats 1000000 in
theorem rand_10 (w : World) : Calls Tryd.prog 24 #[.agg #[.int .i64 0, .int .i64 0, .string ⟨#[]⟩], .agg #[.int .i64 2, .int .i64 0, .string ⟨#[]⟩]] w fun e w' => e = .returned (.tuple #[.agg #[.int .i64 2, .int .i64 0, .string ⟨#[]⟩], .bool true]) ∧ Below w.heap.size w w' := by
  have HL := Lib.hid log0
  have HL' := Lib.hid log1
  go_enter Tryd.func24, Tryd.ntmps24
  go_wp2_with fail
  refine (rlogic_valid _ _ _ _ (by decide)).mono ?_
  rintro e w1 ⟨rfl, hb⟩
  rw [HL.out]
  obtain ⟨hA, hB, hR, hb1⟩ := box_three _ _ _ _ _ _ _ _ _ _ _ _ _ hb
  clear hb
  obtain ⟨bz, b0, b1, b2, bf⟩ := id hB
  go_wp2_with fail
  refine (rlogic_valid _ _ _ _ (by decide)).mono ?_
  rintro e w2 ⟨rfl, hb2⟩
  rw [HL'.out]
  clear bz b0 b1 b2 bf
  replace hA := hA.low hb2
  replace hB := hB.low hb2
  replace hR := hR.low hb2
  have hW := Below.next hb1 hb2
  clear hb1 hb2 HL HL'
  obtain ⟨az, a0, a1, a2, -⟩ := id hA
  obtain ⟨bz, b0, b1, b2, -⟩ := id hB
  obtain ⟨rz, r0, r1, r2, rf⟩ := id hR
  go_wp2_with fail
  go_region_held3 (fun u => u.cell? ⟨w.heap.size, 0, none⟩ = some (.int .i64 0) ∧ u.cell? ⟨w.heap.size, 1, none⟩ = some (.int .i64 0) ∧ u.cell? ⟨w.heap.size, 2, none⟩ = some (.string ⟨#[]⟩) ∧ u.cell? ⟨w.heap.size + 1, 0, none⟩ = some (.int .i64 2) ∧ u.cell? ⟨w.heap.size + 1, 1, none⟩ = some (.int .i64 0) ∧ u.cell? ⟨w.heap.size + 1, 2, none⟩ = some (.string ⟨#[]⟩)
      ∧ Cell3 u w.heap.size (.int .i64 0) (.int .i64 0) (.string ⟨#[]⟩) ∧ Cell3 u (w.heap.size + 1) (.int .i64 2) (.int .i64 0) (.string ⟨#[]⟩) ∧ Cell3 u (w.heap.size + 2) (.int .i64 0) (.int .i64 0) (.string ⟨#[]⟩) ∧ Below w.heap.size w u)
    (first
      | exact ⟨a0, a1, a2, b0, b1, b2, hA.drew, hB.drew, hR.drew, hW.drew⟩
      | exact keep3c hbq (by assumption))
    (first
      | (go_at_call 7; refine (rtruth_any false _).mono ?_; rintro e wq ⟨rfl, hbq⟩))
  rename_i hHeld
  clear az a0 a1 a2 bz b0 b1 b2 rz r0 r1 r2 rf hA hB hR hW
  obtain ⟨a0, a1, a2, b0, b1, b2, hA, hB, hR, hW⟩ := hHeld
  have az := hA.lt
  have bz := hB.lt
  obtain ⟨rz, r0, r1, r2, rf⟩ := id hR
  go_wp2_with (first | (go_at_call 7; refine (rtruth_any _ _).mono ?_; rintro e wn ⟨rfl, hbn⟩; clear az a0 a1 a2 bz b0 b1 b2 rz r0 r1 r2 rf; replace hA := hA.low hbn; replace hB := hB.low hbn; replace hR := hR.low hbn; replace hW := Below.next hW hbn; clear hbn; obtain ⟨az, a0, a1, a2, -⟩ := id hA; obtain ⟨bz, b0, b1, b2, -⟩ := id hB; obtain ⟨rz, r0, r1, r2, rf⟩ := id hR))
  exact bodyPost_ret (v := .tuple #[.agg #[.int .i64 2, .int .i64 0, .string ⟨#[]⟩], .bool true]) (by simp [results, Tryd.results24, go_sem, r0, r1, r2]) rfl ⟨rfl, Below.three2 hW _ _ _⟩

set_option maxRecDepth 100000 in
set_option maxHeartbeats 1000000 in
theorem rand_12 (w : World) : Calls Tryd.prog 24 #[.agg #[.int .i64 0, .int .i64 0, .string ⟨#[]⟩], .agg #[.int .i64 2, .int .i64 1, .string ⟨#[]⟩]] w fun e w' => e = .returned (.tuple #[.agg #[.int .i64 0, .int .i64 0, .string ⟨#[]⟩], .bool true]) ∧ Below w.heap.size w w' := by
  have HL := Lib.hid log0
  have HL' := Lib.hid log2
  go_enter Tryd.func24, Tryd.ntmps24
  go_wp2_with fail
  refine (rlogic_valid _ _ _ _ (by decide)).mono ?_
  rintro e w1 ⟨rfl, hb⟩
  rw [HL.out]
  obtain ⟨hA, hB, hR, hb1⟩ := box_three _ _ _ _ _ _ _ _ _ _ _ _ _ hb
  clear hb
  obtain ⟨bz, b0, b1, b2, bf⟩ := id hB
  go_wp2_with fail
  refine (rlogic_valid _ _ _ _ (by decide)).mono ?_
  rintro e w2 ⟨rfl, hb2⟩
  rw [HL'.out]
  clear bz b0 b1 b2 bf
  replace hA := hA.low hb2
  replace hB := hB.low hb2
  replace hR := hR.low hb2
  have hW := Below.next hb1 hb2
  clear hb1 hb2 HL HL'
  obtain ⟨az, a0, a1, a2, -⟩ := id hA
  obtain ⟨bz, b0, b1, b2, -⟩ := id hB
  obtain ⟨rz, r0, r1, r2, rf⟩ := id hR
  go_wp2_with fail
  go_region_held3 (fun u => u.cell? ⟨w.heap.size, 0, none⟩ = some (.int .i64 0) ∧ u.cell? ⟨w.heap.size, 1, none⟩ = some (.int .i64 0) ∧ u.cell? ⟨w.heap.size, 2, none⟩ = some (.string ⟨#[]⟩) ∧ u.cell? ⟨w.heap.size + 1, 0, none⟩ = some (.int .i64 2) ∧ u.cell? ⟨w.heap.size + 1, 1, none⟩ = some (.int .i64 1) ∧ u.cell? ⟨w.heap.size + 1, 2, none⟩ = some (.string ⟨#[]⟩)
      ∧ Cell3 u w.heap.size (.int .i64 0) (.int .i64 0) (.string ⟨#[]⟩) ∧ Cell3 u (w.heap.size + 1) (.int .i64 2) (.int .i64 1) (.string ⟨#[]⟩) ∧ Cell3 u (w.heap.size + 2) (.int .i64 0) (.int .i64 0) (.string ⟨#[]⟩) ∧ Below w.heap.size w u)
    (first
      | exact ⟨a0, a1, a2, b0, b1, b2, hA.drew, hB.drew, hR.drew, hW.drew⟩
      | exact keep3c hbq (by assumption))
    (first
      | (go_at_call 7; refine (rtruth_any false _).mono ?_; rintro e wq ⟨rfl, hbq⟩))
  rename_i hHeld
  clear az a0 a1 a2 bz b0 b1 b2 rz r0 r1 r2 rf hA hB hR hW
  obtain ⟨a0, a1, a2, b0, b1, b2, hA, hB, hR, hW⟩ := hHeld
  have az := hA.lt
  have bz := hB.lt
  obtain ⟨rz, r0, r1, r2, rf⟩ := id hR
  go_wp2_with (first | (go_at_call 7; refine (rtruth_any _ _).mono ?_; rintro e wn ⟨rfl, hbn⟩; clear az a0 a1 a2 bz b0 b1 b2 rz r0 r1 r2 rf; replace hA := hA.low hbn; replace hB := hB.low hbn; replace hR := hR.low hbn; replace hW := Below.next hW hbn; clear hbn; obtain ⟨az, a0, a1, a2, -⟩ := id hA; obtain ⟨bz, b0, b1, b2, -⟩ := id hB; obtain ⟨rz, r0, r1, r2, rf⟩ := id hR))
  exact bodyPost_ret (v := .tuple #[.agg #[.int .i64 0, .int .i64 0, .string ⟨#[]⟩], .bool true]) (by simp [results, Tryd.results24, go_sem, r0, r1, r2]) rfl ⟨rfl, Below.three2 hW _ _ _⟩

set_option maxRecDepth 100000 in
set_option maxHeartbeats 1000000 in
theorem rand_01 (w : World) : Calls Tryd.prog 24 #[.agg #[.int .i64 2, .int .i64 0, .string ⟨#[]⟩], .agg #[.int .i64 0, .int .i64 0, .string ⟨#[]⟩]] w fun e w' => e = .returned (.tuple #[.agg #[.int .i64 2, .int .i64 0, .string ⟨#[]⟩], .bool true]) ∧ Below w.heap.size w w' := by
  have HL := Lib.hid log1
  have HL' := Lib.hid log0
  go_enter Tryd.func24, Tryd.ntmps24
  go_wp2_with fail
  refine (rlogic_valid _ _ _ _ (by decide)).mono ?_
  rintro e w1 ⟨rfl, hb⟩
  rw [HL.out]
  obtain ⟨hA, hB, hR, hb1⟩ := box_three _ _ _ _ _ _ _ _ _ _ _ _ _ hb
  clear hb
  obtain ⟨bz, b0, b1, b2, bf⟩ := id hB
  go_wp2_with fail
  refine (rlogic_valid _ _ _ _ (by decide)).mono ?_
  rintro e w2 ⟨rfl, hb2⟩
  rw [HL'.out]
  clear bz b0 b1 b2 bf
  replace hA := hA.low hb2
  replace hB := hB.low hb2
  replace hR := hR.low hb2
  have hW := Below.next hb1 hb2
  clear hb1 hb2 HL HL'
  obtain ⟨az, a0, a1, a2, -⟩ := id hA
  obtain ⟨bz, b0, b1, b2, -⟩ := id hB
  obtain ⟨rz, r0, r1, r2, rf⟩ := id hR
  go_wp2_with fail
  go_region_with (go_at_call 7; refine (rtruth_any false _).mono ?_; rintro e wn ⟨rfl, hbn⟩; clear az a0 a1 a2 bz b0 b1 b2 rz r0 r1 r2 rf; replace hA := hA.drew.low hbn; replace hB := hB.drew.low hbn; replace hR := hR.drew.low hbn; replace hW := Below.next hW.drew hbn; clear hbn; obtain ⟨az, a0, a1, a2, -⟩ := id hA; obtain ⟨bz, b0, b1, b2, -⟩ := id hB; obtain ⟨rz, r0, r1, r2, rf⟩ := id hR)
  all_goals
    go_wp2_with (first | (go_at_call 7; refine (rtruth_any _ _).mono ?_; rintro e wn ⟨rfl, hbn⟩; clear az a0 a1 a2 bz b0 b1 b2 rz r0 r1 r2 rf; replace hA := hA.low hbn; replace hB := hB.low hbn; replace hR := hR.low hbn; replace hW := Below.next hW hbn; clear hbn; obtain ⟨az, a0, a1, a2, -⟩ := id hA; obtain ⟨bz, b0, b1, b2, -⟩ := id hB; obtain ⟨rz, r0, r1, r2, rf⟩ := id hR))
    exact bodyPost_ret (v := .tuple #[.agg #[.int .i64 2, .int .i64 0, .string ⟨#[]⟩], .bool true]) (by simp [results, Tryd.results24, go_sem, r0, r1, r2]) rfl ⟨rfl, Below.three2 hW _ _ _⟩

set_option maxRecDepth 100000 in
set_option maxHeartbeats 1000000 in
theorem rand_00 (w : World) : Calls Tryd.prog 24 #[.agg #[.int .i64 2, .int .i64 0, .string ⟨#[]⟩], .agg #[.int .i64 2, .int .i64 0, .string ⟨#[]⟩]] w fun e w' => e = .returned (.tuple #[.agg #[.int .i64 2, .int .i64 0, .string ⟨#[]⟩], .bool true]) ∧ Below w.heap.size w w' := by
  have HL := Lib.hid log1
  have HL' := Lib.hid log1
  go_enter Tryd.func24, Tryd.ntmps24
  go_wp2_with fail
  refine (rlogic_valid _ _ _ _ (by decide)).mono ?_
  rintro e w1 ⟨rfl, hb⟩
  rw [HL.out]
  obtain ⟨hA, hB, hR, hb1⟩ := box_three _ _ _ _ _ _ _ _ _ _ _ _ _ hb
  clear hb
  obtain ⟨bz, b0, b1, b2, bf⟩ := id hB
  go_wp2_with fail
  refine (rlogic_valid _ _ _ _ (by decide)).mono ?_
  rintro e w2 ⟨rfl, hb2⟩
  rw [HL'.out]
  clear bz b0 b1 b2 bf
  replace hA := hA.low hb2
  replace hB := hB.low hb2
  replace hR := hR.low hb2
  have hW := Below.next hb1 hb2
  clear hb1 hb2 HL HL'
  obtain ⟨az, a0, a1, a2, -⟩ := id hA
  obtain ⟨bz, b0, b1, b2, -⟩ := id hB
  obtain ⟨rz, r0, r1, r2, rf⟩ := id hR
  go_wp2_with fail
  go_region_with (go_at_call 7; refine (rtruth_any false _).mono ?_; rintro e wn ⟨rfl, hbn⟩; clear az a0 a1 a2 bz b0 b1 b2 rz r0 r1 r2 rf; replace hA := hA.drew.low hbn; replace hB := hB.drew.low hbn; replace hR := hR.drew.low hbn; replace hW := Below.next hW.drew hbn; clear hbn; obtain ⟨az, a0, a1, a2, -⟩ := id hA; obtain ⟨bz, b0, b1, b2, -⟩ := id hB; obtain ⟨rz, r0, r1, r2, rf⟩ := id hR)
  all_goals
    go_wp2_with (first | (go_at_call 7; refine (rtruth_any _ _).mono ?_; rintro e wn ⟨rfl, hbn⟩; clear az a0 a1 a2 bz b0 b1 b2 rz r0 r1 r2 rf; replace hA := hA.low hbn; replace hB := hB.low hbn; replace hR := hR.low hbn; replace hW := Below.next hW hbn; clear hbn; obtain ⟨az, a0, a1, a2, -⟩ := id hA; obtain ⟨bz, b0, b1, b2, -⟩ := id hB; obtain ⟨rz, r0, r1, r2, rf⟩ := id hR))
    exact bodyPost_ret (v := .tuple #[.agg #[.int .i64 2, .int .i64 0, .string ⟨#[]⟩], .bool true]) (by simp [results, Tryd.results24, go_sem, r0, r1, r2]) rfl ⟨rfl, Below.three2 hW _ _ _⟩

set_option maxRecDepth 100000 in
set_option maxHeartbeats 1000000 in
theorem rand_02 (w : World) : Calls Tryd.prog 24 #[.agg #[.int .i64 2, .int .i64 0, .string ⟨#[]⟩], .agg #[.int .i64 2, .int .i64 1, .string ⟨#[]⟩]] w fun e w' => e = .returned (.tuple #[.agg #[.int .i64 2, .int .i64 0, .string ⟨#[]⟩], .bool true]) ∧ Below w.heap.size w w' := by
  have HL := Lib.hid log1
  have HL' := Lib.hid log2
  go_enter Tryd.func24, Tryd.ntmps24
  go_wp2_with fail
  refine (rlogic_valid _ _ _ _ (by decide)).mono ?_
  rintro e w1 ⟨rfl, hb⟩
  rw [HL.out]
  obtain ⟨hA, hB, hR, hb1⟩ := box_three _ _ _ _ _ _ _ _ _ _ _ _ _ hb
  clear hb
  obtain ⟨bz, b0, b1, b2, bf⟩ := id hB
  go_wp2_with fail
  refine (rlogic_valid _ _ _ _ (by decide)).mono ?_
  rintro e w2 ⟨rfl, hb2⟩
  rw [HL'.out]
  clear bz b0 b1 b2 bf
  replace hA := hA.low hb2
  replace hB := hB.low hb2
  replace hR := hR.low hb2
  have hW := Below.next hb1 hb2
  clear hb1 hb2 HL HL'
  obtain ⟨az, a0, a1, a2, -⟩ := id hA
  obtain ⟨bz, b0, b1, b2, -⟩ := id hB
  obtain ⟨rz, r0, r1, r2, rf⟩ := id hR
  go_wp2_with fail
  go_region_with (go_at_call 7; refine (rtruth_any false _).mono ?_; rintro e wn ⟨rfl, hbn⟩; clear az a0 a1 a2 bz b0 b1 b2 rz r0 r1 r2 rf; replace hA := hA.drew.low hbn; replace hB := hB.drew.low hbn; replace hR := hR.drew.low hbn; replace hW := Below.next hW.drew hbn; clear hbn; obtain ⟨az, a0, a1, a2, -⟩ := id hA; obtain ⟨bz, b0, b1, b2, -⟩ := id hB; obtain ⟨rz, r0, r1, r2, rf⟩ := id hR)
  all_goals
    go_wp2_with (first | (go_at_call 7; refine (rtruth_any _ _).mono ?_; rintro e wn ⟨rfl, hbn⟩; clear az a0 a1 a2 bz b0 b1 b2 rz r0 r1 r2 rf; replace hA := hA.low hbn; replace hB := hB.low hbn; replace hR := hR.low hbn; replace hW := Below.next hW hbn; clear hbn; obtain ⟨az, a0, a1, a2, -⟩ := id hA; obtain ⟨bz, b0, b1, b2, -⟩ := id hB; obtain ⟨rz, r0, r1, r2, rf⟩ := id hR))
    exact bodyPost_ret (v := .tuple #[.agg #[.int .i64 2, .int .i64 0, .string ⟨#[]⟩], .bool true]) (by simp [results, Tryd.results24, go_sem, r0, r1, r2]) rfl ⟨rfl, Below.three2 hW _ _ _⟩

set_option maxRecDepth 100000 in
set_option maxHeartbeats 1000000 in
theorem rand_21 (w : World) : Calls Tryd.prog 24 #[.agg #[.int .i64 2, .int .i64 1, .string ⟨#[]⟩], .agg #[.int .i64 0, .int .i64 0, .string ⟨#[]⟩]] w fun e w' => e = .returned (.tuple #[.agg #[.int .i64 0, .int .i64 0, .string ⟨#[]⟩], .bool true]) ∧ Below w.heap.size w w' := by
  have HL := Lib.hid log2
  have HL' := Lib.hid log0
  go_enter Tryd.func24, Tryd.ntmps24
  go_wp2_with fail
  refine (rlogic_valid _ _ _ _ (by decide)).mono ?_
  rintro e w1 ⟨rfl, hb⟩
  rw [HL.out]
  obtain ⟨hA, hB, hR, hb1⟩ := box_three _ _ _ _ _ _ _ _ _ _ _ _ _ hb
  clear hb
  obtain ⟨bz, b0, b1, b2, bf⟩ := id hB
  go_wp2_with fail
  refine (rlogic_valid _ _ _ _ (by decide)).mono ?_
  rintro e w2 ⟨rfl, hb2⟩
  rw [HL'.out]
  clear bz b0 b1 b2 bf
  replace hA := hA.low hb2
  replace hB := hB.low hb2
  replace hR := hR.low hb2
  have hW := Below.next hb1 hb2
  clear hb1 hb2 HL HL'
  obtain ⟨az, a0, a1, a2, -⟩ := id hA
  obtain ⟨bz, b0, b1, b2, -⟩ := id hB
  obtain ⟨rz, r0, r1, r2, rf⟩ := id hR
  go_wp2_with fail
  go_region_held3 (fun u => u.cell? ⟨w.heap.size, 0, none⟩ = some (.int .i64 2) ∧ u.cell? ⟨w.heap.size, 1, none⟩ = some (.int .i64 1) ∧ u.cell? ⟨w.heap.size, 2, none⟩ = some (.string ⟨#[]⟩) ∧ u.cell? ⟨w.heap.size + 1, 0, none⟩ = some (.int .i64 0) ∧ u.cell? ⟨w.heap.size + 1, 1, none⟩ = some (.int .i64 0) ∧ u.cell? ⟨w.heap.size + 1, 2, none⟩ = some (.string ⟨#[]⟩)
      ∧ Cell3 u w.heap.size (.int .i64 2) (.int .i64 1) (.string ⟨#[]⟩) ∧ Cell3 u (w.heap.size + 1) (.int .i64 0) (.int .i64 0) (.string ⟨#[]⟩) ∧ Cell3 u (w.heap.size + 2) (.int .i64 0) (.int .i64 0) (.string ⟨#[]⟩) ∧ Below w.heap.size w u)
    (first
      | exact ⟨a0, a1, a2, b0, b1, b2, hA.drew, hB.drew, hR.drew, hW.drew⟩
      | exact keep3c hbq (by assumption))
    (first
      | (go_at_call 7; refine (rtruth_any false _).mono ?_; rintro e wq ⟨rfl, hbq⟩))
  rename_i hHeld
  clear az a0 a1 a2 bz b0 b1 b2 rz r0 r1 r2 rf hA hB hR hW
  obtain ⟨a0, a1, a2, b0, b1, b2, hA, hB, hR, hW⟩ := hHeld
  have az := hA.lt
  have bz := hB.lt
  obtain ⟨rz, r0, r1, r2, rf⟩ := id hR
  go_wp2_with (first | (go_at_call 7; refine (rtruth_any _ _).mono ?_; rintro e wn ⟨rfl, hbn⟩; clear az a0 a1 a2 bz b0 b1 b2 rz r0 r1 r2 rf; replace hA := hA.low hbn; replace hB := hB.low hbn; replace hR := hR.low hbn; replace hW := Below.next hW hbn; clear hbn; obtain ⟨az, a0, a1, a2, -⟩ := id hA; obtain ⟨bz, b0, b1, b2, -⟩ := id hB; obtain ⟨rz, r0, r1, r2, rf⟩ := id hR))
  exact bodyPost_ret (v := .tuple #[.agg #[.int .i64 0, .int .i64 0, .string ⟨#[]⟩], .bool true]) (by simp [results, Tryd.results24, go_sem, r0, r1, r2]) rfl ⟨rfl, Below.three2 hW _ _ _⟩

set_option maxRecDepth 100000 in
set_option maxHeartbeats 1000000 in
theorem rand_20 (w : World) : Calls Tryd.prog 24 #[.agg #[.int .i64 2, .int .i64 1, .string ⟨#[]⟩], .agg #[.int .i64 2, .int .i64 0, .string ⟨#[]⟩]] w fun e w' => e = .returned (.tuple #[.agg #[.int .i64 2, .int .i64 0, .string ⟨#[]⟩], .bool true]) ∧ Below w.heap.size w w' := by
  have HL := Lib.hid log2
  have HL' := Lib.hid log1
  go_enter Tryd.func24, Tryd.ntmps24
  go_wp2_with fail
  refine (rlogic_valid _ _ _ _ (by decide)).mono ?_
  rintro e w1 ⟨rfl, hb⟩
  rw [HL.out]
  obtain ⟨hA, hB, hR, hb1⟩ := box_three _ _ _ _ _ _ _ _ _ _ _ _ _ hb
  clear hb
  obtain ⟨bz, b0, b1, b2, bf⟩ := id hB
  go_wp2_with fail
  refine (rlogic_valid _ _ _ _ (by decide)).mono ?_
  rintro e w2 ⟨rfl, hb2⟩
  rw [HL'.out]
  clear bz b0 b1 b2 bf
  replace hA := hA.low hb2
  replace hB := hB.low hb2
  replace hR := hR.low hb2
  have hW := Below.next hb1 hb2
  clear hb1 hb2 HL HL'
  obtain ⟨az, a0, a1, a2, -⟩ := id hA
  obtain ⟨bz, b0, b1, b2, -⟩ := id hB
  obtain ⟨rz, r0, r1, r2, rf⟩ := id hR
  go_wp2_with fail
  go_region_held3 (fun u => u.cell? ⟨w.heap.size, 0, none⟩ = some (.int .i64 2) ∧ u.cell? ⟨w.heap.size, 1, none⟩ = some (.int .i64 1) ∧ u.cell? ⟨w.heap.size, 2, none⟩ = some (.string ⟨#[]⟩) ∧ u.cell? ⟨w.heap.size + 1, 0, none⟩ = some (.int .i64 2) ∧ u.cell? ⟨w.heap.size + 1, 1, none⟩ = some (.int .i64 0) ∧ u.cell? ⟨w.heap.size + 1, 2, none⟩ = some (.string ⟨#[]⟩)
      ∧ Cell3 u w.heap.size (.int .i64 2) (.int .i64 1) (.string ⟨#[]⟩) ∧ Cell3 u (w.heap.size + 1) (.int .i64 2) (.int .i64 0) (.string ⟨#[]⟩) ∧ Cell3 u (w.heap.size + 2) (.int .i64 0) (.int .i64 0) (.string ⟨#[]⟩) ∧ Below w.heap.size w u)
    (first
      | exact ⟨a0, a1, a2, b0, b1, b2, hA.drew, hB.drew, hR.drew, hW.drew⟩
      | exact keep3c hbq (by assumption))
    (first
      | (go_at_call 7; refine (rtruth_any false _).mono ?_; rintro e wq ⟨rfl, hbq⟩))
  rename_i hHeld
  clear az a0 a1 a2 bz b0 b1 b2 rz r0 r1 r2 rf hA hB hR hW
  obtain ⟨a0, a1, a2, b0, b1, b2, hA, hB, hR, hW⟩ := hHeld
  have az := hA.lt
  have bz := hB.lt
  obtain ⟨rz, r0, r1, r2, rf⟩ := id hR
  go_wp2_with (first | (go_at_call 7; refine (rtruth_any _ _).mono ?_; rintro e wn ⟨rfl, hbn⟩; clear az a0 a1 a2 bz b0 b1 b2 rz r0 r1 r2 rf; replace hA := hA.low hbn; replace hB := hB.low hbn; replace hR := hR.low hbn; replace hW := Below.next hW hbn; clear hbn; obtain ⟨az, a0, a1, a2, -⟩ := id hA; obtain ⟨bz, b0, b1, b2, -⟩ := id hB; obtain ⟨rz, r0, r1, r2, rf⟩ := id hR))
  exact bodyPost_ret (v := .tuple #[.agg #[.int .i64 2, .int .i64 0, .string ⟨#[]⟩], .bool true]) (by simp [results, Tryd.results24, go_sem, r0, r1, r2]) rfl ⟨rfl, Below.three2 hW _ _ _⟩

set_option maxRecDepth 100000 in
set_option maxHeartbeats 1000000 in
theorem rand_22 (w : World) : Calls Tryd.prog 24 #[.agg #[.int .i64 2, .int .i64 1, .string ⟨#[]⟩], .agg #[.int .i64 2, .int .i64 1, .string ⟨#[]⟩]] w fun e w' => e = .returned (.tuple #[.agg #[.int .i64 2, .int .i64 1, .string ⟨#[]⟩], .bool true]) ∧ Below w.heap.size w w' := by
  have HL := Lib.hid log2
  have HL' := Lib.hid log2
  go_enter Tryd.func24, Tryd.ntmps24
  go_wp2_with fail
  refine (rlogic_valid _ _ _ _ (by decide)).mono ?_
  rintro e w1 ⟨rfl, hb⟩
  rw [HL.out]
  obtain ⟨hA, hB, hR, hb1⟩ := box_three _ _ _ _ _ _ _ _ _ _ _ _ _ hb
  clear hb
  obtain ⟨bz, b0, b1, b2, bf⟩ := id hB
  go_wp2_with fail
  refine (rlogic_valid _ _ _ _ (by decide)).mono ?_
  rintro e w2 ⟨rfl, hb2⟩
  rw [HL'.out]
  clear bz b0 b1 b2 bf
  replace hA := hA.low hb2
  replace hB := hB.low hb2
  replace hR := hR.low hb2
  have hW := Below.next hb1 hb2
  clear hb1 hb2 HL HL'
  obtain ⟨az, a0, a1, a2, -⟩ := id hA
  obtain ⟨bz, b0, b1, b2, -⟩ := id hB
  obtain ⟨rz, r0, r1, r2, rf⟩ := id hR
  go_wp2_with fail
  go_region_held3 (fun u => u.cell? ⟨w.heap.size, 0, none⟩ = some (.int .i64 2) ∧ u.cell? ⟨w.heap.size, 1, none⟩ = some (.int .i64 1) ∧ u.cell? ⟨w.heap.size, 2, none⟩ = some (.string ⟨#[]⟩) ∧ u.cell? ⟨w.heap.size + 1, 0, none⟩ = some (.int .i64 2) ∧ u.cell? ⟨w.heap.size + 1, 1, none⟩ = some (.int .i64 1) ∧ u.cell? ⟨w.heap.size + 1, 2, none⟩ = some (.string ⟨#[]⟩)
      ∧ Cell3 u w.heap.size (.int .i64 2) (.int .i64 1) (.string ⟨#[]⟩) ∧ Cell3 u (w.heap.size + 1) (.int .i64 2) (.int .i64 1) (.string ⟨#[]⟩) ∧ Cell3 u (w.heap.size + 2) (.int .i64 0) (.int .i64 0) (.string ⟨#[]⟩) ∧ Below w.heap.size w u)
    (first
      | exact ⟨a0, a1, a2, b0, b1, b2, hA.drew, hB.drew, hR.drew, hW.drew⟩
      | exact keep3c hbq (by assumption))
    (first
      | (go_at_call 7; refine (rtruth_any false _).mono ?_; rintro e wq ⟨rfl, hbq⟩))
  rename_i hHeld
  clear az a0 a1 a2 bz b0 b1 b2 rz r0 r1 r2 rf hA hB hR hW
  obtain ⟨a0, a1, a2, b0, b1, b2, hA, hB, hR, hW⟩ := hHeld
  have az := hA.lt
  have bz := hB.lt
  obtain ⟨rz, r0, r1, r2, rf⟩ := id hR
  go_wp2_with (first | (go_at_call 7; refine (rtruth_any _ _).mono ?_; rintro e wn ⟨rfl, hbn⟩; clear az a0 a1 a2 bz b0 b1 b2 rz r0 r1 r2 rf; replace hA := hA.low hbn; replace hB := hB.low hbn; replace hR := hR.low hbn; replace hW := Below.next hW hbn; clear hbn; obtain ⟨az, a0, a1, a2, -⟩ := id hA; obtain ⟨bz, b0, b1, b2, -⟩ := id hB; obtain ⟨rz, r0, r1, r2, rf⟩ := id hR))
  exact bodyPost_ret (v := .tuple #[.agg #[.int .i64 2, .int .i64 1, .string ⟨#[]⟩], .bool true]) (by simp [results, Tryd.results24, go_sem, r0, r1, r2]) rfl ⟨rfl, Below.three2 hW _ _ _⟩

theorem rand_good (k n : Int) (s : ByteArray) (k' n' : Int) (s' : ByteArray) (w : World) (hl : logB k n s = true) (hl' : logB k' n' s' = true) :
    Calls Tryd.prog 24 #[.agg #[.int .i64 k, .int .i64 n, .string s], .agg #[.int .i64 k', .int .i64 n', .string s']] w fun e w' => e = ans (andP (placeI k n s) (placeI k' n' s')) true ∧ Below w.heap.size w w' := by
  rcases log_three hl with ⟨rfl, rfl, rfl⟩ | ⟨rfl, rfl, rfl⟩ | ⟨rfl, rfl, rfl⟩
  all_goals rcases log_three hl' with ⟨rfl, rfl, rfl⟩ | ⟨rfl, rfl, rfl⟩ | ⟨rfl, rfl, rfl⟩
  · rw [place0]; exact rand_11 w
  · rw [place0, place1]; exact rand_10 w
  · rw [place0, place2]; exact rand_12 w
  · rw [place1, place0]; exact rand_01 w
  · rw [place1]; exact rand_00 w
  · rw [place1, place2]; exact rand_02 w
  · rw [place2, place0]; exact rand_21 w
  · rw [place2, place1]; exact rand_20 w
  · rw [place2]; exact rand_22 w

set_option maxRecDepth 100000 in
set_option maxHeartbeats 1000000 in
theorem ror_11 (w : World) : Calls Tryd.prog 25 #[.agg #[.int .i64 0, .int .i64 0, .string ⟨#[]⟩], .agg #[.int .i64 0, .int .i64 0, .string ⟨#[]⟩]] w fun e w' => e = .returned (.tuple #[.agg #[.int .i64 0, .int .i64 0, .string ⟨#[]⟩], .bool true]) ∧ Below w.heap.size w w' := by
  have HL := Lib.hid log0
  have HL' := Lib.hid log0
  go_enter Tryd.func25, Tryd.ntmps25
  go_wp2_with fail
  refine (rlogic_valid _ _ _ _ (by decide)).mono ?_
  rintro e w1 ⟨rfl, hb⟩
  rw [HL.out]
  obtain ⟨hA, hB, hR, hb1⟩ := box_three _ _ _ _ _ _ _ _ _ _ _ _ _ hb
  clear hb
  obtain ⟨bz, b0, b1, b2, bf⟩ := id hB
  go_wp2_with fail
  refine (rlogic_valid _ _ _ _ (by decide)).mono ?_
  rintro e w2 ⟨rfl, hb2⟩
  rw [HL'.out]
  clear bz b0 b1 b2 bf
  replace hA := hA.low hb2
  replace hB := hB.low hb2
  replace hR := hR.low hb2
  have hW := Below.next hb1 hb2
  clear hb1 hb2 HL HL'
  obtain ⟨az, a0, a1, a2, -⟩ := id hA
  obtain ⟨bz, b0, b1, b2, -⟩ := id hB
  obtain ⟨rz, r0, r1, r2, rf⟩ := id hR
  go_wp2_with (first | (go_at_call 7; refine (rtruth_any _ _).mono ?_; rintro e wn ⟨rfl, hbn⟩; clear az a0 a1 a2 bz b0 b1 b2 rz r0 r1 r2 rf; replace hA := hA.low hbn; replace hB := hB.low hbn; replace hR := hR.low hbn; replace hW := Below.next hW hbn; clear hbn; obtain ⟨az, a0, a1, a2, -⟩ := id hA; obtain ⟨bz, b0, b1, b2, -⟩ := id hB; obtain ⟨rz, r0, r1, r2, rf⟩ := id hR) | (go_at_call 31; refine (risTrue_any _ _ _ _).mono ?_; rintro e wn ⟨rfl, hbn⟩; clear az a0 a1 a2 bz b0 b1 b2 rz r0 r1 r2 rf; replace hA := hA.low hbn; replace hB := hB.low hbn; replace hR := hR.low hbn; replace hW := Below.next hW hbn; clear hbn; obtain ⟨az, a0, a1, a2, -⟩ := id hA; obtain ⟨bz, b0, b1, b2, -⟩ := id hB; obtain ⟨rz, r0, r1, r2, rf⟩ := id hR); (first | rw [show sameV 2 1 ⟨#[]⟩ 2 1 ⟨#[]⟩ = true by simp [sameV]] | rw [show sameV 2 0 ⟨#[]⟩ 2 1 ⟨#[]⟩ = false by simp [sameV]] | rw [show sameV 0 0 ⟨#[]⟩ 2 1 ⟨#[]⟩ = false by simp [sameV]]))
  exact bodyPost_ret (v := .tuple #[.agg #[.int .i64 0, .int .i64 0, .string ⟨#[]⟩], .bool true]) (by simp [results, Tryd.results25, go_sem, r0, r1, r2]) rfl ⟨rfl, Below.three2 hW _ _ _⟩

set_option maxRecDepth 100000 in
set_option maxHeartbeats 1000000 in
theorem ror_10 (w : World) : Calls Tryd.prog 25 #[.agg #[.int .i64 0, .int .i64 0, .string ⟨#[]⟩], .agg #[.int .i64 2, .int .i64 0, .string ⟨#[]⟩]] w fun e w' => e = .returned (.tuple #[.agg #[.int .i64 0, .int .i64 0, .string ⟨#[]⟩], .bool true]) ∧ Below w.heap.size w w' := by
  have HL := Lib.hid log0
  have HL' := Lib.hid log1
  go_enter Tryd.func25, Tryd.ntmps25
  go_wp2_with fail
  refine (rlogic_valid _ _ _ _ (by decide)).mono ?_
  rintro e w1 ⟨rfl, hb⟩
  rw [HL.out]
  obtain ⟨hA, hB, hR, hb1⟩ := box_three _ _ _ _ _ _ _ _ _ _ _ _ _ hb
  clear hb
  obtain ⟨bz, b0, b1, b2, bf⟩ := id hB
  go_wp2_with fail
  refine (rlogic_valid _ _ _ _ (by decide)).mono ?_
  rintro e w2 ⟨rfl, hb2⟩
  rw [HL'.out]
  clear bz b0 b1 b2 bf
  replace hA := hA.low hb2
  replace hB := hB.low hb2
  replace hR := hR.low hb2
  have hW := Below.next hb1 hb2
  clear hb1 hb2 HL HL'
  obtain ⟨az, a0, a1, a2, -⟩ := id hA
  obtain ⟨bz, b0, b1, b2, -⟩ := id hB
  obtain ⟨rz, r0, r1, r2, rf⟩ := id hR
  go_wp2_with (first | (go_at_call 7; refine (rtruth_any _ _).mono ?_; rintro e wn ⟨rfl, hbn⟩; clear az a0 a1 a2 bz b0 b1 b2 rz r0 r1 r2 rf; replace hA := hA.low hbn; replace hB := hB.low hbn; replace hR := hR.low hbn; replace hW := Below.next hW hbn; clear hbn; obtain ⟨az, a0, a1, a2, -⟩ := id hA; obtain ⟨bz, b0, b1, b2, -⟩ := id hB; obtain ⟨rz, r0, r1, r2, rf⟩ := id hR) | (go_at_call 31; refine (risTrue_any _ _ _ _).mono ?_; rintro e wn ⟨rfl, hbn⟩; clear az a0 a1 a2 bz b0 b1 b2 rz r0 r1 r2 rf; replace hA := hA.low hbn; replace hB := hB.low hbn; replace hR := hR.low hbn; replace hW := Below.next hW hbn; clear hbn; obtain ⟨az, a0, a1, a2, -⟩ := id hA; obtain ⟨bz, b0, b1, b2, -⟩ := id hB; obtain ⟨rz, r0, r1, r2, rf⟩ := id hR); (first | rw [show sameV 2 1 ⟨#[]⟩ 2 1 ⟨#[]⟩ = true by simp [sameV]] | rw [show sameV 2 0 ⟨#[]⟩ 2 1 ⟨#[]⟩ = false by simp [sameV]] | rw [show sameV 0 0 ⟨#[]⟩ 2 1 ⟨#[]⟩ = false by simp [sameV]]))
  exact bodyPost_ret (v := .tuple #[.agg #[.int .i64 0, .int .i64 0, .string ⟨#[]⟩], .bool true]) (by simp [results, Tryd.results25, go_sem, r0, r1, r2]) rfl ⟨rfl, Below.three2 hW _ _ _⟩

set_option maxRecDepth 100000 in
set_option maxHeartbeats 1000000 in
theorem ror_12 (w : World) : Calls Tryd.prog 25 #[.agg #[.int .i64 0, .int .i64 0, .string ⟨#[]⟩], .agg #[.int .i64 2, .int .i64 1, .string ⟨#[]⟩]] w fun e w' => e = .returned (.tuple #[.agg #[.int .i64 2, .int .i64 1, .string ⟨#[]⟩], .bool true]) ∧ Below w.heap.size w w' := by
  have HL := Lib.hid log0
  have HL' := Lib.hid log2
  go_enter Tryd.func25, Tryd.ntmps25
  go_wp2_with fail
  refine (rlogic_valid _ _ _ _ (by decide)).mono ?_
  rintro e w1 ⟨rfl, hb⟩
  rw [HL.out]
  obtain ⟨hA, hB, hR, hb1⟩ := box_three _ _ _ _ _ _ _ _ _ _ _ _ _ hb
  clear hb
  obtain ⟨bz, b0, b1, b2, bf⟩ := id hB
  go_wp2_with fail
  refine (rlogic_valid _ _ _ _ (by decide)).mono ?_
  rintro e w2 ⟨rfl, hb2⟩
  rw [HL'.out]
  clear bz b0 b1 b2 bf
  replace hA := hA.low hb2
  replace hB := hB.low hb2
  replace hR := hR.low hb2
  have hW := Below.next hb1 hb2
  clear hb1 hb2 HL HL'
  obtain ⟨az, a0, a1, a2, -⟩ := id hA
  obtain ⟨bz, b0, b1, b2, -⟩ := id hB
  obtain ⟨rz, r0, r1, r2, rf⟩ := id hR
  go_wp2_with (first | (go_at_call 7; refine (rtruth_any _ _).mono ?_; rintro e wn ⟨rfl, hbn⟩; clear az a0 a1 a2 bz b0 b1 b2 rz r0 r1 r2 rf; replace hA := hA.low hbn; replace hB := hB.low hbn; replace hR := hR.low hbn; replace hW := Below.next hW hbn; clear hbn; obtain ⟨az, a0, a1, a2, -⟩ := id hA; obtain ⟨bz, b0, b1, b2, -⟩ := id hB; obtain ⟨rz, r0, r1, r2, rf⟩ := id hR) | (go_at_call 31; refine (risTrue_any _ _ _ _).mono ?_; rintro e wn ⟨rfl, hbn⟩; clear az a0 a1 a2 bz b0 b1 b2 rz r0 r1 r2 rf; replace hA := hA.low hbn; replace hB := hB.low hbn; replace hR := hR.low hbn; replace hW := Below.next hW hbn; clear hbn; obtain ⟨az, a0, a1, a2, -⟩ := id hA; obtain ⟨bz, b0, b1, b2, -⟩ := id hB; obtain ⟨rz, r0, r1, r2, rf⟩ := id hR); (first | rw [show sameV 2 1 ⟨#[]⟩ 2 1 ⟨#[]⟩ = true by simp [sameV]] | rw [show sameV 2 0 ⟨#[]⟩ 2 1 ⟨#[]⟩ = false by simp [sameV]] | rw [show sameV 0 0 ⟨#[]⟩ 2 1 ⟨#[]⟩ = false by simp [sameV]]))
  exact bodyPost_ret (v := .tuple #[.agg #[.int .i64 2, .int .i64 1, .string ⟨#[]⟩], .bool true]) (by simp [results, Tryd.results25, go_sem, r0, r1, r2]) rfl ⟨rfl, Below.three2 hW _ _ _⟩

set_option maxRecDepth 100000 in
set_option maxHeartbeats 1000000 in
theorem ror_01 (w : World) : Calls Tryd.prog 25 #[.agg #[.int .i64 2, .int .i64 0, .string ⟨#[]⟩], .agg #[.int .i64 0, .int .i64 0, .string ⟨#[]⟩]] w fun e w' => e = .returned (.tuple #[.agg #[.int .i64 0, .int .i64 0, .string ⟨#[]⟩], .bool true]) ∧ Below w.heap.size w w' := by
  have HL := Lib.hid log1
  have HL' := Lib.hid log0
  go_enter Tryd.func25, Tryd.ntmps25
  go_wp2_with fail
  refine (rlogic_valid _ _ _ _ (by decide)).mono ?_
  rintro e w1 ⟨rfl, hb⟩
  rw [HL.out]
  obtain ⟨hA, hB, hR, hb1⟩ := box_three _ _ _ _ _ _ _ _ _ _ _ _ _ hb
  clear hb
  obtain ⟨bz, b0, b1, b2, bf⟩ := id hB
  go_wp2_with fail
  refine (rlogic_valid _ _ _ _ (by decide)).mono ?_
  rintro e w2 ⟨rfl, hb2⟩
  rw [HL'.out]
  clear bz b0 b1 b2 bf
  replace hA := hA.low hb2
  replace hB := hB.low hb2
  replace hR := hR.low hb2
  have hW := Below.next hb1 hb2
  clear hb1 hb2 HL HL'
  obtain ⟨az, a0, a1, a2, -⟩ := id hA
  obtain ⟨bz, b0, b1, b2, -⟩ := id hB
  obtain ⟨rz, r0, r1, r2, rf⟩ := id hR
  go_wp2_with (first | (go_at_call 7; refine (rtruth_any _ _).mono ?_; rintro e wn ⟨rfl, hbn⟩; clear az a0 a1 a2 bz b0 b1 b2 rz r0 r1 r2 rf; replace hA := hA.low hbn; replace hB := hB.low hbn; replace hR := hR.low hbn; replace hW := Below.next hW hbn; clear hbn; obtain ⟨az, a0, a1, a2, -⟩ := id hA; obtain ⟨bz, b0, b1, b2, -⟩ := id hB; obtain ⟨rz, r0, r1, r2, rf⟩ := id hR) | (go_at_call 31; refine (risTrue_any _ _ _ _).mono ?_; rintro e wn ⟨rfl, hbn⟩; clear az a0 a1 a2 bz b0 b1 b2 rz r0 r1 r2 rf; replace hA := hA.low hbn; replace hB := hB.low hbn; replace hR := hR.low hbn; replace hW := Below.next hW hbn; clear hbn; obtain ⟨az, a0, a1, a2, -⟩ := id hA; obtain ⟨bz, b0, b1, b2, -⟩ := id hB; obtain ⟨rz, r0, r1, r2, rf⟩ := id hR); (first | rw [show sameV 2 1 ⟨#[]⟩ 2 1 ⟨#[]⟩ = true by simp [sameV]] | rw [show sameV 2 0 ⟨#[]⟩ 2 1 ⟨#[]⟩ = false by simp [sameV]] | rw [show sameV 0 0 ⟨#[]⟩ 2 1 ⟨#[]⟩ = false by simp [sameV]]))
  exact bodyPost_ret (v := .tuple #[.agg #[.int .i64 0, .int .i64 0, .string ⟨#[]⟩], .bool true]) (by simp [results, Tryd.results25, go_sem, r0, r1, r2]) rfl ⟨rfl, Below.three2 hW _ _ _⟩

set_option maxRecDepth 100000 in
set_option maxHeartbeats 1000000 in
theorem ror_00 (w : World) : Calls Tryd.prog 25 #[.agg #[.int .i64 2, .int .i64 0, .string ⟨#[]⟩], .agg #[.int .i64 2, .int .i64 0, .string ⟨#[]⟩]] w fun e w' => e = .returned (.tuple #[.agg #[.int .i64 2, .int .i64 0, .string ⟨#[]⟩], .bool true]) ∧ Below w.heap.size w w' := by
  have HL := Lib.hid log1
  have HL' := Lib.hid log1
  go_enter Tryd.func25, Tryd.ntmps25
  go_wp2_with fail
  refine (rlogic_valid _ _ _ _ (by decide)).mono ?_
  rintro e w1 ⟨rfl, hb⟩
  rw [HL.out]
  obtain ⟨hA, hB, hR, hb1⟩ := box_three _ _ _ _ _ _ _ _ _ _ _ _ _ hb
  clear hb
  obtain ⟨bz, b0, b1, b2, bf⟩ := id hB
  go_wp2_with fail
  refine (rlogic_valid _ _ _ _ (by decide)).mono ?_
  rintro e w2 ⟨rfl, hb2⟩
  rw [HL'.out]
  clear bz b0 b1 b2 bf
  replace hA := hA.low hb2
  replace hB := hB.low hb2
  replace hR := hR.low hb2
  have hW := Below.next hb1 hb2
  clear hb1 hb2 HL HL'
  obtain ⟨az, a0, a1, a2, -⟩ := id hA
  obtain ⟨bz, b0, b1, b2, -⟩ := id hB
  obtain ⟨rz, r0, r1, r2, rf⟩ := id hR
  go_wp2_with (first | (go_at_call 7; refine (rtruth_any _ _).mono ?_; rintro e wn ⟨rfl, hbn⟩; clear az a0 a1 a2 bz b0 b1 b2 rz r0 r1 r2 rf; replace hA := hA.low hbn; replace hB := hB.low hbn; replace hR := hR.low hbn; replace hW := Below.next hW hbn; clear hbn; obtain ⟨az, a0, a1, a2, -⟩ := id hA; obtain ⟨bz, b0, b1, b2, -⟩ := id hB; obtain ⟨rz, r0, r1, r2, rf⟩ := id hR) | (go_at_call 31; refine (risTrue_any _ _ _ _).mono ?_; rintro e wn ⟨rfl, hbn⟩; clear az a0 a1 a2 bz b0 b1 b2 rz r0 r1 r2 rf; replace hA := hA.low hbn; replace hB := hB.low hbn; replace hR := hR.low hbn; replace hW := Below.next hW hbn; clear hbn; obtain ⟨az, a0, a1, a2, -⟩ := id hA; obtain ⟨bz, b0, b1, b2, -⟩ := id hB; obtain ⟨rz, r0, r1, r2, rf⟩ := id hR); (first | rw [show sameV 2 1 ⟨#[]⟩ 2 1 ⟨#[]⟩ = true by simp [sameV]] | rw [show sameV 2 0 ⟨#[]⟩ 2 1 ⟨#[]⟩ = false by simp [sameV]] | rw [show sameV 0 0 ⟨#[]⟩ 2 1 ⟨#[]⟩ = false by simp [sameV]]))
  exact bodyPost_ret (v := .tuple #[.agg #[.int .i64 2, .int .i64 0, .string ⟨#[]⟩], .bool true]) (by simp [results, Tryd.results25, go_sem, r0, r1, r2]) rfl ⟨rfl, Below.three2 hW _ _ _⟩

set_option maxRecDepth 100000 in
set_option maxHeartbeats 1000000 in
theorem ror_02 (w : World) : Calls Tryd.prog 25 #[.agg #[.int .i64 2, .int .i64 0, .string ⟨#[]⟩], .agg #[.int .i64 2, .int .i64 1, .string ⟨#[]⟩]] w fun e w' => e = .returned (.tuple #[.agg #[.int .i64 2, .int .i64 1, .string ⟨#[]⟩], .bool true]) ∧ Below w.heap.size w w' := by
  have HL := Lib.hid log1
  have HL' := Lib.hid log2
  go_enter Tryd.func25, Tryd.ntmps25
  go_wp2_with fail
  refine (rlogic_valid _ _ _ _ (by decide)).mono ?_
  rintro e w1 ⟨rfl, hb⟩
  rw [HL.out]
  obtain ⟨hA, hB, hR, hb1⟩ := box_three _ _ _ _ _ _ _ _ _ _ _ _ _ hb
  clear hb
  obtain ⟨bz, b0, b1, b2, bf⟩ := id hB
  go_wp2_with fail
  refine (rlogic_valid _ _ _ _ (by decide)).mono ?_
  rintro e w2 ⟨rfl, hb2⟩
  rw [HL'.out]
  clear bz b0 b1 b2 bf
  replace hA := hA.low hb2
  replace hB := hB.low hb2
  replace hR := hR.low hb2
  have hW := Below.next hb1 hb2
  clear hb1 hb2 HL HL'
  obtain ⟨az, a0, a1, a2, -⟩ := id hA
  obtain ⟨bz, b0, b1, b2, -⟩ := id hB
  obtain ⟨rz, r0, r1, r2, rf⟩ := id hR
  go_wp2_with (first | (go_at_call 7; refine (rtruth_any _ _).mono ?_; rintro e wn ⟨rfl, hbn⟩; clear az a0 a1 a2 bz b0 b1 b2 rz r0 r1 r2 rf; replace hA := hA.low hbn; replace hB := hB.low hbn; replace hR := hR.low hbn; replace hW := Below.next hW hbn; clear hbn; obtain ⟨az, a0, a1, a2, -⟩ := id hA; obtain ⟨bz, b0, b1, b2, -⟩ := id hB; obtain ⟨rz, r0, r1, r2, rf⟩ := id hR) | (go_at_call 31; refine (risTrue_any _ _ _ _).mono ?_; rintro e wn ⟨rfl, hbn⟩; clear az a0 a1 a2 bz b0 b1 b2 rz r0 r1 r2 rf; replace hA := hA.low hbn; replace hB := hB.low hbn; replace hR := hR.low hbn; replace hW := Below.next hW hbn; clear hbn; obtain ⟨az, a0, a1, a2, -⟩ := id hA; obtain ⟨bz, b0, b1, b2, -⟩ := id hB; obtain ⟨rz, r0, r1, r2, rf⟩ := id hR); (first | rw [show sameV 2 1 ⟨#[]⟩ 2 1 ⟨#[]⟩ = true by simp [sameV]] | rw [show sameV 2 0 ⟨#[]⟩ 2 1 ⟨#[]⟩ = false by simp [sameV]] | rw [show sameV 0 0 ⟨#[]⟩ 2 1 ⟨#[]⟩ = false by simp [sameV]]))
  exact bodyPost_ret (v := .tuple #[.agg #[.int .i64 2, .int .i64 1, .string ⟨#[]⟩], .bool true]) (by simp [results, Tryd.results25, go_sem, r0, r1, r2]) rfl ⟨rfl, Below.three2 hW _ _ _⟩

set_option maxRecDepth 100000 in
set_option maxHeartbeats 1000000 in
theorem ror_21 (w : World) : Calls Tryd.prog 25 #[.agg #[.int .i64 2, .int .i64 1, .string ⟨#[]⟩], .agg #[.int .i64 0, .int .i64 0, .string ⟨#[]⟩]] w fun e w' => e = .returned (.tuple #[.agg #[.int .i64 2, .int .i64 1, .string ⟨#[]⟩], .bool true]) ∧ Below w.heap.size w w' := by
  have HL := Lib.hid log2
  have HL' := Lib.hid log0
  go_enter Tryd.func25, Tryd.ntmps25
  go_wp2_with fail
  refine (rlogic_valid _ _ _ _ (by decide)).mono ?_
  rintro e w1 ⟨rfl, hb⟩
  rw [HL.out]
  obtain ⟨hA, hB, hR, hb1⟩ := box_three _ _ _ _ _ _ _ _ _ _ _ _ _ hb
  clear hb
  obtain ⟨bz, b0, b1, b2, bf⟩ := id hB
  go_wp2_with fail
  refine (rlogic_valid _ _ _ _ (by decide)).mono ?_
  rintro e w2 ⟨rfl, hb2⟩
  rw [HL'.out]
  clear bz b0 b1 b2 bf
  replace hA := hA.low hb2
  replace hB := hB.low hb2
  replace hR := hR.low hb2
  have hW := Below.next hb1 hb2
  clear hb1 hb2 HL HL'
  obtain ⟨az, a0, a1, a2, -⟩ := id hA
  obtain ⟨bz, b0, b1, b2, -⟩ := id hB
  obtain ⟨rz, r0, r1, r2, rf⟩ := id hR
  go_wp2_with (first | (go_at_call 7; refine (rtruth_any _ _).mono ?_; rintro e wn ⟨rfl, hbn⟩; clear az a0 a1 a2 bz b0 b1 b2 rz r0 r1 r2 rf; replace hA := hA.low hbn; replace hB := hB.low hbn; replace hR := hR.low hbn; replace hW := Below.next hW hbn; clear hbn; obtain ⟨az, a0, a1, a2, -⟩ := id hA; obtain ⟨bz, b0, b1, b2, -⟩ := id hB; obtain ⟨rz, r0, r1, r2, rf⟩ := id hR) | (go_at_call 31; refine (risTrue_any _ _ _ _).mono ?_; rintro e wn ⟨rfl, hbn⟩; clear az a0 a1 a2 bz b0 b1 b2 rz r0 r1 r2 rf; replace hA := hA.low hbn; replace hB := hB.low hbn; replace hR := hR.low hbn; replace hW := Below.next hW hbn; clear hbn; obtain ⟨az, a0, a1, a2, -⟩ := id hA; obtain ⟨bz, b0, b1, b2, -⟩ := id hB; obtain ⟨rz, r0, r1, r2, rf⟩ := id hR); (first | rw [show sameV 2 1 ⟨#[]⟩ 2 1 ⟨#[]⟩ = true by simp [sameV]] | rw [show sameV 2 0 ⟨#[]⟩ 2 1 ⟨#[]⟩ = false by simp [sameV]] | rw [show sameV 0 0 ⟨#[]⟩ 2 1 ⟨#[]⟩ = false by simp [sameV]]))
  exact bodyPost_ret (v := .tuple #[.agg #[.int .i64 2, .int .i64 1, .string ⟨#[]⟩], .bool true]) (by simp [results, Tryd.results25, go_sem, r0, r1, r2]) rfl ⟨rfl, Below.three2 hW _ _ _⟩

set_option maxRecDepth 100000 in
set_option maxHeartbeats 1000000 in
theorem ror_20 (w : World) : Calls Tryd.prog 25 #[.agg #[.int .i64 2, .int .i64 1, .string ⟨#[]⟩], .agg #[.int .i64 2, .int .i64 0, .string ⟨#[]⟩]] w fun e w' => e = .returned (.tuple #[.agg #[.int .i64 2, .int .i64 1, .string ⟨#[]⟩], .bool true]) ∧ Below w.heap.size w w' := by
  have HL := Lib.hid log2
  have HL' := Lib.hid log1
  go_enter Tryd.func25, Tryd.ntmps25
  go_wp2_with fail
  refine (rlogic_valid _ _ _ _ (by decide)).mono ?_
  rintro e w1 ⟨rfl, hb⟩
  rw [HL.out]
  obtain ⟨hA, hB, hR, hb1⟩ := box_three _ _ _ _ _ _ _ _ _ _ _ _ _ hb
  clear hb
  obtain ⟨bz, b0, b1, b2, bf⟩ := id hB
  go_wp2_with fail
  refine (rlogic_valid _ _ _ _ (by decide)).mono ?_
  rintro e w2 ⟨rfl, hb2⟩
  rw [HL'.out]
  clear bz b0 b1 b2 bf
  replace hA := hA.low hb2
  replace hB := hB.low hb2
  replace hR := hR.low hb2
  have hW := Below.next hb1 hb2
  clear hb1 hb2 HL HL'
  obtain ⟨az, a0, a1, a2, -⟩ := id hA
  obtain ⟨bz, b0, b1, b2, -⟩ := id hB
  obtain ⟨rz, r0, r1, r2, rf⟩ := id hR
  go_wp2_with (first | (go_at_call 7; refine (rtruth_any _ _).mono ?_; rintro e wn ⟨rfl, hbn⟩; clear az a0 a1 a2 bz b0 b1 b2 rz r0 r1 r2 rf; replace hA := hA.low hbn; replace hB := hB.low hbn; replace hR := hR.low hbn; replace hW := Below.next hW hbn; clear hbn; obtain ⟨az, a0, a1, a2, -⟩ := id hA; obtain ⟨bz, b0, b1, b2, -⟩ := id hB; obtain ⟨rz, r0, r1, r2, rf⟩ := id hR) | (go_at_call 31; refine (risTrue_any _ _ _ _).mono ?_; rintro e wn ⟨rfl, hbn⟩; clear az a0 a1 a2 bz b0 b1 b2 rz r0 r1 r2 rf; replace hA := hA.low hbn; replace hB := hB.low hbn; replace hR := hR.low hbn; replace hW := Below.next hW hbn; clear hbn; obtain ⟨az, a0, a1, a2, -⟩ := id hA; obtain ⟨bz, b0, b1, b2, -⟩ := id hB; obtain ⟨rz, r0, r1, r2, rf⟩ := id hR); (first | rw [show sameV 2 1 ⟨#[]⟩ 2 1 ⟨#[]⟩ = true by simp [sameV]] | rw [show sameV 2 0 ⟨#[]⟩ 2 1 ⟨#[]⟩ = false by simp [sameV]] | rw [show sameV 0 0 ⟨#[]⟩ 2 1 ⟨#[]⟩ = false by simp [sameV]]))
  exact bodyPost_ret (v := .tuple #[.agg #[.int .i64 2, .int .i64 1, .string ⟨#[]⟩], .bool true]) (by simp [results, Tryd.results25, go_sem, r0, r1, r2]) rfl ⟨rfl, Below.three2 hW _ _ _⟩

set_option maxRecDepth 100000 in
set_option maxHeartbeats 1000000 in
theorem ror_22 (w : World) : Calls Tryd.prog 25 #[.agg #[.int .i64 2, .int .i64 1, .string ⟨#[]⟩], .agg #[.int .i64 2, .int .i64 1, .string ⟨#[]⟩]] w fun e w' => e = .returned (.tuple #[.agg #[.int .i64 2, .int .i64 1, .string ⟨#[]⟩], .bool true]) ∧ Below w.heap.size w w' := by
  have HL := Lib.hid log2
  have HL' := Lib.hid log2
  go_enter Tryd.func25, Tryd.ntmps25
  go_wp2_with fail
  refine (rlogic_valid _ _ _ _ (by decide)).mono ?_
  rintro e w1 ⟨rfl, hb⟩
  rw [HL.out]
  obtain ⟨hA, hB, hR, hb1⟩ := box_three _ _ _ _ _ _ _ _ _ _ _ _ _ hb
  clear hb
  obtain ⟨bz, b0, b1, b2, bf⟩ := id hB
  go_wp2_with fail
  refine (rlogic_valid _ _ _ _ (by decide)).mono ?_
  rintro e w2 ⟨rfl, hb2⟩
  rw [HL'.out]
  clear bz b0 b1 b2 bf
  replace hA := hA.low hb2
  replace hB := hB.low hb2
  replace hR := hR.low hb2
  have hW := Below.next hb1 hb2
  clear hb1 hb2 HL HL'
  obtain ⟨az, a0, a1, a2, -⟩ := id hA
  obtain ⟨bz, b0, b1, b2, -⟩ := id hB
  obtain ⟨rz, r0, r1, r2, rf⟩ := id hR
  go_wp2_with (first | (go_at_call 7; refine (rtruth_any _ _).mono ?_; rintro e wn ⟨rfl, hbn⟩; clear az a0 a1 a2 bz b0 b1 b2 rz r0 r1 r2 rf; replace hA := hA.low hbn; replace hB := hB.low hbn; replace hR := hR.low hbn; replace hW := Below.next hW hbn; clear hbn; obtain ⟨az, a0, a1, a2, -⟩ := id hA; obtain ⟨bz, b0, b1, b2, -⟩ := id hB; obtain ⟨rz, r0, r1, r2, rf⟩ := id hR) | (go_at_call 31; refine (risTrue_any _ _ _ _).mono ?_; rintro e wn ⟨rfl, hbn⟩; clear az a0 a1 a2 bz b0 b1 b2 rz r0 r1 r2 rf; replace hA := hA.low hbn; replace hB := hB.low hbn; replace hR := hR.low hbn; replace hW := Below.next hW hbn; clear hbn; obtain ⟨az, a0, a1, a2, -⟩ := id hA; obtain ⟨bz, b0, b1, b2, -⟩ := id hB; obtain ⟨rz, r0, r1, r2, rf⟩ := id hR); (first | rw [show sameV 2 1 ⟨#[]⟩ 2 1 ⟨#[]⟩ = true by simp [sameV]] | rw [show sameV 2 0 ⟨#[]⟩ 2 1 ⟨#[]⟩ = false by simp [sameV]] | rw [show sameV 0 0 ⟨#[]⟩ 2 1 ⟨#[]⟩ = false by simp [sameV]]))
  exact bodyPost_ret (v := .tuple #[.agg #[.int .i64 2, .int .i64 1, .string ⟨#[]⟩], .bool true]) (by simp [results, Tryd.results25, go_sem, r0, r1, r2]) rfl ⟨rfl, Below.three2 hW _ _ _⟩

theorem ror_good (k n : Int) (s : ByteArray) (k' n' : Int) (s' : ByteArray) (w : World) (hl : logB k n s = true) (hl' : logB k' n' s' = true) :
    Calls Tryd.prog 25 #[.agg #[.int .i64 k, .int .i64 n, .string s], .agg #[.int .i64 k', .int .i64 n', .string s']] w fun e w' => e = ans (orP (placeI k n s) (placeI k' n' s')) true ∧ Below w.heap.size w w' := by
  rcases log_three hl with ⟨rfl, rfl, rfl⟩ | ⟨rfl, rfl, rfl⟩ | ⟨rfl, rfl, rfl⟩
  all_goals rcases log_three hl' with ⟨rfl, rfl, rfl⟩ | ⟨rfl, rfl, rfl⟩ | ⟨rfl, rfl, rfl⟩
  · rw [place0]; exact ror_11 w
  · rw [place0, place1]; exact ror_10 w
  · rw [place0, place2]; exact ror_12 w
  · rw [place1, place0]; exact ror_01 w
  · rw [place1]; exact ror_00 w
  · rw [place1, place2]; exact ror_02 w
  · rw [place2, place0]; exact ror_21 w
  · rw [place2, place1]; exact ror_20 w
  · rw [place2]; exact ror_22 w

theorem rand_any (k n : Int) (s : ByteArray) (k' n' : Int) (s' : ByteArray) (w : World) (hs : s.size ≤ 9223372036854775807) (hs' : s'.size ≤ 9223372036854775807) :
    Calls Tryd.prog 24 #[.agg #[.int .i64 k, .int .i64 n, .string s], .agg #[.int .i64 k', .int .i64 n', .string s']] w fun e w' => e = ans (andQ k n s k' n' s') (logB k n s && logB k' n' s') ∧ Below w.heap.size w w' := by
  cases hl : logB k n s
  · rw [show andQ k n s k' n' s' = 1 by unfold andQ; rw [hl]; rfl]; exact rand_bad k n s k' n' s' w hs hs' (Or.inl hl)
  · cases hl' : logB k' n' s'
    · rw [show andQ k n s k' n' s' = 1 by unfold andQ; rw [hl, hl']; rfl]; exact rand_bad k n s k' n' s' w hs hs' (Or.inr ⟨hl, hl'⟩)
    · rw [show andQ k n s k' n' s' = andP (placeI k n s) (placeI k' n' s') by unfold andQ; rw [hl, hl']; rfl]; exact rand_good k n s k' n' s' w hl hl'

theorem ror_any (k n : Int) (s : ByteArray) (k' n' : Int) (s' : ByteArray) (w : World) (hs : s.size ≤ 9223372036854775807) (hs' : s'.size ≤ 9223372036854775807) :
    Calls Tryd.prog 25 #[.agg #[.int .i64 k, .int .i64 n, .string s], .agg #[.int .i64 k', .int .i64 n', .string s']] w fun e w' => e = ans (orQ k n s k' n' s') (logB k n s && logB k' n' s') ∧ Below w.heap.size w w' := by
  cases hl : logB k n s
  · rw [show orQ k n s k' n' s' = 1 by unfold orQ; rw [hl]; rfl]; exact ror_bad k n s k' n' s' w hs hs' (Or.inl hl)
  · cases hl' : logB k' n' s'
    · rw [show orQ k n s k' n' s' = 1 by unfold orQ; rw [hl, hl']; rfl]; exact ror_bad k n s k' n' s' w hs hs' (Or.inr ⟨hl, hl'⟩)
    · rw [show orQ k n s k' n' s' = orP (placeI k n s) (placeI k' n' s') by unfold orQ; rw [hl, hl']; rfl]; exact ror_good k n s k' n' s' w hl hl'
end Go.Proofs.YtlnjdgmolmeklaaDoor
