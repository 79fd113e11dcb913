/-
  The function alike of the statements: it returns true for every two values.
-/
import Derived.Test.YtlnjdgmolmeklaaDoorLogicAnd
import Derived.Test.YtlnjdgmolmeklaaDoorLogicRef
import Derived.Test.YtlnjdgmolmeklaaDoorLogicRcmp
import Derived.Deep.CutRange
namespace Go.Proofs.YtlnjdgmolmeklaaDoor
open Go.RowKit
variable {ls : List Nat}

theorem Cell3.far {u : World} {X Y : Nat} {a b c : Value} (h : Cell3 u X a b c) (hn : X ≠ Y) (x y z : Value) : Cell3 (((u.setCell ⟨Y, 0, none⟩ x).setCell ⟨Y, 1, none⟩ y).setCell ⟨Y, 2, none⟩ z) X a b c :=
  ⟨by rw [size_set3]; exact h.lt, by rw [cell3_far hn]; exact h.c0, by rw [cell3_far hn]; exact h.c1, by rw [cell3_far hn]; exact h.c2, fun o => by rw [World.frozen?_setCell, World.frozen?_setCell, World.frozen?_setCell]; exact h.fz o⟩
theorem keep5 {A B0 B1 B2 B3 B4 : Nat} {W u v : World} {x00 x01 x02 x10 x11 x12 x20 x21 x22 x30 x31 x32 x40 x41 x42 : Value} (hb : Below u.heap.size u v) (hA : A ≤ B0)
    (h : u.cell? ⟨B0, 0, none⟩ = some x00 ∧ u.cell? ⟨B0, 1, none⟩ = some x01 ∧ u.cell? ⟨B0, 2, none⟩ = some x02 ∧ u.cell? ⟨B1, 0, none⟩ = some x10 ∧ u.cell? ⟨B1, 1, none⟩ = some x11 ∧ u.cell? ⟨B1, 2, none⟩ = some x12 ∧ u.cell? ⟨B2, 0, none⟩ = some x20 ∧ u.cell? ⟨B2, 1, none⟩ = some x21 ∧ u.cell? ⟨B2, 2, none⟩ = some x22 ∧ u.cell? ⟨B3, 0, none⟩ = some x30 ∧ u.cell? ⟨B3, 1, none⟩ = some x31 ∧ u.cell? ⟨B3, 2, none⟩ = some x32 ∧ u.cell? ⟨B4, 0, none⟩ = some x40 ∧ u.cell? ⟨B4, 1, none⟩ = some x41 ∧ u.cell? ⟨B4, 2, none⟩ = some x42 ∧ B0 < u.heap.size ∧ B1 < u.heap.size ∧ B2 < u.heap.size ∧ B3 < u.heap.size ∧ B4 < u.heap.size ∧ Below A W u) :
    v.cell? ⟨B0, 0, none⟩ = some x00 ∧ v.cell? ⟨B0, 1, none⟩ = some x01 ∧ v.cell? ⟨B0, 2, none⟩ = some x02 ∧ v.cell? ⟨B1, 0, none⟩ = some x10 ∧ v.cell? ⟨B1, 1, none⟩ = some x11 ∧ v.cell? ⟨B1, 2, none⟩ = some x12 ∧ v.cell? ⟨B2, 0, none⟩ = some x20 ∧ v.cell? ⟨B2, 1, none⟩ = some x21 ∧ v.cell? ⟨B2, 2, none⟩ = some x22 ∧ v.cell? ⟨B3, 0, none⟩ = some x30 ∧ v.cell? ⟨B3, 1, none⟩ = some x31 ∧ v.cell? ⟨B3, 2, none⟩ = some x32 ∧ v.cell? ⟨B4, 0, none⟩ = some x40 ∧ v.cell? ⟨B4, 1, none⟩ = some x41 ∧ v.cell? ⟨B4, 2, none⟩ = some x42 ∧ B0 < v.heap.size ∧ B1 < v.heap.size ∧ B2 < v.heap.size ∧ B3 < v.heap.size ∧ B4 < v.heap.size ∧ Below A W v := by
  obtain ⟨h00, h01, h02, h10, h11, h12, h20, h21, h22, h30, h31, h32, h40, h41, h42, z0, z1, z2, z3, z4, hB⟩ := h
  have := hb.size
  exact ⟨by rw [hb.cell (by exact z0)]; exact h00, by rw [hb.cell (by exact z0)]; exact h01, by rw [hb.cell (by exact z0)]; exact h02, by rw [hb.cell (by exact z1)]; exact h10, by rw [hb.cell (by exact z1)]; exact h11, by rw [hb.cell (by exact z1)]; exact h12, by rw [hb.cell (by exact z2)]; exact h20, by rw [hb.cell (by exact z2)]; exact h21, by rw [hb.cell (by exact z2)]; exact h22, by rw [hb.cell (by exact z3)]; exact h30, by rw [hb.cell (by exact z3)]; exact h31, by rw [hb.cell (by exact z3)]; exact h32, by rw [hb.cell (by exact z4)]; exact h40, by rw [hb.cell (by exact z4)]; exact h41, by rw [hb.cell (by exact z4)]; exact h42, by omega, by omega, by omega, by omega, by omega, hB.trans (hb.mono (by omega))⟩

set_option maxRecDepth 100000 in
set_option maxHeartbeats 4000000 in
theorem alike_any (k n : Int) (s : ByteArray) (k' n' : Int) (s' : ByteArray) (w : World) (hE : Env ls w) (hlA : 0 ∈ ls) (hlO : 1 ∈ ls) (hs : s.size ≤ 9223372036854775807) (hs' : s'.size ≤ 9223372036854775807) :
    Calls Tryd.prog 12 #[.agg #[.int .i64 k, .int .i64 n, .string s], .agg #[.int .i64 k', .int .i64 n', .string s']] w fun e w' => e = .returned (.bool true) ∧ Below w.heap.size w w' := by
  have HS := Lib.hid (And.intro hs hs')
  go_enter Tryd.func12, Tryd.ntmps12
  go_upto_region 1 with (fail)
  have hA := (cell3_new w (.int .i64 k) (.int .i64 n) (.string s) 23).low (below_alloc _ (.cells #[.int .i64 k', .int .i64 n', .string s'] 23))
  have hB := (cell3_new (w.alloc (.cells #[.int .i64 k, .int .i64 n, .string s] 23)) (.int .i64 k') (.int .i64 n') (.string s') 23).at (size_alloc _ _)
  have hW := Below.next (below_alloc w (.cells #[.int .i64 k, .int .i64 n, .string s] 23)) (below_alloc _ (.cells #[.int .i64 k', .int .i64 n', .string s'] 23))
  replace hE := (hE.alloc (.cells #[.int .i64 k, .int .i64 n, .string s] 23)).alloc (.cells #[.int .i64 k', .int .i64 n', .string s'] 23)
  generalize (w.alloc _).alloc _ = u0 at hA hB hW hE ⊢
  obtain ⟨az, a0, a1, a2, -⟩ := id hA
  obtain ⟨bz, b0, b1, b2, -⟩ := id hB
  go_wp2_with fail
  refine (not_any _ _ _ _ hs).mono ?_
  rintro e wn ⟨rfl, hbn⟩
  clear az a0 a1 a2 bz b0 b1 b2
  go_upto_region 2 with (fail)
  replace hA := hA.low hbn
  replace hB := hB.low hbn
  have oN : w.heap.size < wn.heap.size ∧ (w.heap.size + 1) < wn.heap.size := ⟨hA.lt, hB.lt⟩
  replace hA := hA.low (below_alloc _ (.cells #[.int .i64 (tvK (notQ k n s)), .int .i64 (tvN (notQ k n s)), .string ⟨#[]⟩] 23))
  replace hB := hB.low (below_alloc _ (.cells #[.int .i64 (tvK (notQ k n s)), .int .i64 (tvN (notQ k n s)), .string ⟨#[]⟩] 23))
  have hN := cell3_new wn (.int .i64 (tvK (notQ k n s))) (.int .i64 (tvN (notQ k n s))) (.string ⟨#[]⟩) 23
  replace hW := Below.next hW hbn
  have lN := hW.size
  replace hW := Below.next hW (below_alloc _ (.cells #[.int .i64 (tvK (notQ k n s)), .int .i64 (tvN (notQ k n s)), .string ⟨#[]⟩] 23))
  replace hE := (hE.low hbn).alloc (.cells #[.int .i64 (tvK (notQ k n s)), .int .i64 (tvN (notQ k n s)), .string ⟨#[]⟩] 23)
  clear hbn
  generalize wn.alloc _ = u1 at hA hB hN hW hE ⊢
  generalize wn.heap.size = N at hN lN oN ⊢
  obtain ⟨az, a0, a1, a2, -⟩ := id hA
  obtain ⟨bz, b0, b1, b2, -⟩ := id hB
  go_wp2_with fail
  refine (rnot_any _ _ _ _ hs).mono ?_
  rintro e wn ⟨rfl, hbn⟩
  clear az a0 a1 a2 bz b0 b1 b2
  go_upto_region 3 with (fail)
  replace hA := hA.low hbn
  replace hB := hB.low hbn
  replace hN := hN.low hbn
  have oM : w.heap.size < wn.heap.size ∧ (w.heap.size + 1) < wn.heap.size ∧ N < wn.heap.size := ⟨hA.lt, hB.lt, hN.lt⟩
  replace hA := hA.low (below_alloc _ (.cells #[.int .i64 (tvK (notQ k n s)), .int .i64 (tvN (notQ k n s)), .string ⟨#[]⟩] 23))
  replace hB := hB.low (below_alloc _ (.cells #[.int .i64 (tvK (notQ k n s)), .int .i64 (tvN (notQ k n s)), .string ⟨#[]⟩] 23))
  replace hN := hN.low (below_alloc _ (.cells #[.int .i64 (tvK (notQ k n s)), .int .i64 (tvN (notQ k n s)), .string ⟨#[]⟩] 23))
  have hM := cell3_new wn (.int .i64 (tvK (notQ k n s))) (.int .i64 (tvN (notQ k n s))) (.string ⟨#[]⟩) 23
  replace hW := Below.next hW hbn
  have lM := hW.size
  replace hW := Below.next hW (below_alloc _ (.cells #[.int .i64 (tvK (notQ k n s)), .int .i64 (tvN (notQ k n s)), .string ⟨#[]⟩] 23))
  replace hE := (hE.low hbn).alloc (.cells #[.int .i64 (tvK (notQ k n s)), .int .i64 (tvN (notQ k n s)), .string ⟨#[]⟩] 23)
  clear hbn
  generalize wn.alloc _ = u2 at hA hB hN hM hW hE ⊢
  generalize wn.heap.size = M at hM lM oM ⊢
  obtain ⟨az, a0, a1, a2, -⟩ := id hA
  obtain ⟨bz, b0, b1, b2, -⟩ := id hB
  go_wp2_with fail
  refine (and_any _ _ _ _ _ _ _ hE hlA hs hs').mono ?_
  rintro e wn ⟨rfl, hbn⟩
  clear az a0 a1 a2 bz b0 b1 b2
  go_upto_region 4 with (fail)
  replace hA := hA.low hbn
  replace hB := hB.low hbn
  replace hN := hN.low hbn
  replace hM := hM.low hbn
  have oC : w.heap.size < wn.heap.size ∧ (w.heap.size + 1) < wn.heap.size ∧ N < wn.heap.size ∧ M < wn.heap.size := ⟨hA.lt, hB.lt, hN.lt, hM.lt⟩
  replace hA := hA.low (below_alloc _ (.cells #[.int .i64 (tvK (andQ k n s k' n' s')), .int .i64 (tvN (andQ k n s k' n' s')), .string ⟨#[]⟩] 23))
  replace hB := hB.low (below_alloc _ (.cells #[.int .i64 (tvK (andQ k n s k' n' s')), .int .i64 (tvN (andQ k n s k' n' s')), .string ⟨#[]⟩] 23))
  replace hN := hN.low (below_alloc _ (.cells #[.int .i64 (tvK (andQ k n s k' n' s')), .int .i64 (tvN (andQ k n s k' n' s')), .string ⟨#[]⟩] 23))
  replace hM := hM.low (below_alloc _ (.cells #[.int .i64 (tvK (andQ k n s k' n' s')), .int .i64 (tvN (andQ k n s k' n' s')), .string ⟨#[]⟩] 23))
  have hC := cell3_new wn (.int .i64 (tvK (andQ k n s k' n' s'))) (.int .i64 (tvN (andQ k n s k' n' s'))) (.string ⟨#[]⟩) 23
  replace hW := Below.next hW hbn
  have lC := hW.size
  replace hW := Below.next hW (below_alloc _ (.cells #[.int .i64 (tvK (andQ k n s k' n' s')), .int .i64 (tvN (andQ k n s k' n' s')), .string ⟨#[]⟩] 23))
  replace hE := (hE.low hbn).alloc (.cells #[.int .i64 (tvK (andQ k n s k' n' s')), .int .i64 (tvN (andQ k n s k' n' s')), .string ⟨#[]⟩] 23)
  clear hbn
  generalize wn.alloc _ = u3 at hA hB hN hM hC hW hE ⊢
  generalize wn.heap.size = C at hC lC oC ⊢
  obtain ⟨az, a0, a1, a2, -⟩ := id hA
  obtain ⟨bz, b0, b1, b2, -⟩ := id hB
  go_wp2_with fail
  refine (rand_any _ _ _ _ _ _ _ hs hs').mono ?_
  rintro e wn ⟨rfl, hbn⟩
  clear az a0 a1 a2 bz b0 b1 b2
  go_upto_region 5 with (fail)
  replace hA := hA.low hbn
  replace hB := hB.low hbn
  replace hN := hN.low hbn
  replace hM := hM.low hbn
  replace hC := hC.low hbn
  have oD : w.heap.size < wn.heap.size ∧ (w.heap.size + 1) < wn.heap.size ∧ N < wn.heap.size ∧ M < wn.heap.size ∧ C < wn.heap.size := ⟨hA.lt, hB.lt, hN.lt, hM.lt, hC.lt⟩
  replace hA := hA.low (below_alloc _ (.cells #[.int .i64 (tvK (andQ k n s k' n' s')), .int .i64 (tvN (andQ k n s k' n' s')), .string ⟨#[]⟩] 23))
  replace hB := hB.low (below_alloc _ (.cells #[.int .i64 (tvK (andQ k n s k' n' s')), .int .i64 (tvN (andQ k n s k' n' s')), .string ⟨#[]⟩] 23))
  replace hN := hN.low (below_alloc _ (.cells #[.int .i64 (tvK (andQ k n s k' n' s')), .int .i64 (tvN (andQ k n s k' n' s')), .string ⟨#[]⟩] 23))
  replace hM := hM.low (below_alloc _ (.cells #[.int .i64 (tvK (andQ k n s k' n' s')), .int .i64 (tvN (andQ k n s k' n' s')), .string ⟨#[]⟩] 23))
  replace hC := hC.low (below_alloc _ (.cells #[.int .i64 (tvK (andQ k n s k' n' s')), .int .i64 (tvN (andQ k n s k' n' s')), .string ⟨#[]⟩] 23))
  have hD := cell3_new wn (.int .i64 (tvK (andQ k n s k' n' s'))) (.int .i64 (tvN (andQ k n s k' n' s'))) (.string ⟨#[]⟩) 23
  replace hW := Below.next hW hbn
  have lD := hW.size
  replace hW := Below.next hW (below_alloc _ (.cells #[.int .i64 (tvK (andQ k n s k' n' s')), .int .i64 (tvN (andQ k n s k' n' s')), .string ⟨#[]⟩] 23))
  replace hE := (hE.low hbn).alloc (.cells #[.int .i64 (tvK (andQ k n s k' n' s')), .int .i64 (tvN (andQ k n s k' n' s')), .string ⟨#[]⟩] 23)
  clear hbn
  generalize wn.alloc _ = u4 at hA hB hN hM hC hD hW hE ⊢
  generalize wn.heap.size = D at hD lD oD ⊢
  obtain ⟨az, a0, a1, a2, -⟩ := id hA
  obtain ⟨bz, b0, b1, b2, -⟩ := id hB
  go_wp2_with fail
  refine (or_any _ _ _ _ _ _ _ hE hlO hs hs').mono ?_
  rintro e wn ⟨rfl, hbn⟩
  clear az a0 a1 a2 bz b0 b1 b2
  go_upto_region 6 with (fail)
  replace hA := hA.low hbn
  replace hB := hB.low hbn
  replace hN := hN.low hbn
  replace hM := hM.low hbn
  replace hC := hC.low hbn
  replace hD := hD.low hbn
  have oF : w.heap.size < wn.heap.size ∧ (w.heap.size + 1) < wn.heap.size ∧ N < wn.heap.size ∧ M < wn.heap.size ∧ C < wn.heap.size ∧ D < wn.heap.size := ⟨hA.lt, hB.lt, hN.lt, hM.lt, hC.lt, hD.lt⟩
  replace hA := hA.low (below_alloc _ (.cells #[.int .i64 (tvK (orQ k n s k' n' s')), .int .i64 (tvN (orQ k n s k' n' s')), .string ⟨#[]⟩] 23))
  replace hB := hB.low (below_alloc _ (.cells #[.int .i64 (tvK (orQ k n s k' n' s')), .int .i64 (tvN (orQ k n s k' n' s')), .string ⟨#[]⟩] 23))
  replace hN := hN.low (below_alloc _ (.cells #[.int .i64 (tvK (orQ k n s k' n' s')), .int .i64 (tvN (orQ k n s k' n' s')), .string ⟨#[]⟩] 23))
  replace hM := hM.low (below_alloc _ (.cells #[.int .i64 (tvK (orQ k n s k' n' s')), .int .i64 (tvN (orQ k n s k' n' s')), .string ⟨#[]⟩] 23))
  replace hC := hC.low (below_alloc _ (.cells #[.int .i64 (tvK (orQ k n s k' n' s')), .int .i64 (tvN (orQ k n s k' n' s')), .string ⟨#[]⟩] 23))
  replace hD := hD.low (below_alloc _ (.cells #[.int .i64 (tvK (orQ k n s k' n' s')), .int .i64 (tvN (orQ k n s k' n' s')), .string ⟨#[]⟩] 23))
  have hF := cell3_new wn (.int .i64 (tvK (orQ k n s k' n' s'))) (.int .i64 (tvN (orQ k n s k' n' s'))) (.string ⟨#[]⟩) 23
  replace hW := Below.next hW hbn
  have lF := hW.size
  replace hW := Below.next hW (below_alloc _ (.cells #[.int .i64 (tvK (orQ k n s k' n' s')), .int .i64 (tvN (orQ k n s k' n' s')), .string ⟨#[]⟩] 23))
  replace hE := (hE.low hbn).alloc (.cells #[.int .i64 (tvK (orQ k n s k' n' s')), .int .i64 (tvN (orQ k n s k' n' s')), .string ⟨#[]⟩] 23)
  clear hbn
  generalize wn.alloc _ = u5 at hA hB hN hM hC hD hF hW hE ⊢
  generalize wn.heap.size = F at hF lF oF ⊢
  obtain ⟨az, a0, a1, a2, -⟩ := id hA
  obtain ⟨bz, b0, b1, b2, -⟩ := id hB
  go_wp2_with fail
  refine (ror_any _ _ _ _ _ _ _ hs hs').mono ?_
  rintro e wn ⟨rfl, hbn⟩
  clear az a0 a1 a2 bz b0 b1 b2
  go_upto_region 7 with (fail)
  replace hA := hA.low hbn
  replace hB := hB.low hbn
  replace hN := hN.low hbn
  replace hM := hM.low hbn
  replace hC := hC.low hbn
  replace hD := hD.low hbn
  replace hF := hF.low hbn
  have oG : w.heap.size < wn.heap.size ∧ (w.heap.size + 1) < wn.heap.size ∧ N < wn.heap.size ∧ M < wn.heap.size ∧ C < wn.heap.size ∧ D < wn.heap.size ∧ F < wn.heap.size := ⟨hA.lt, hB.lt, hN.lt, hM.lt, hC.lt, hD.lt, hF.lt⟩
  replace hA := hA.low (below_alloc _ (.cells #[.int .i64 (tvK (orQ k n s k' n' s')), .int .i64 (tvN (orQ k n s k' n' s')), .string ⟨#[]⟩] 23))
  replace hB := hB.low (below_alloc _ (.cells #[.int .i64 (tvK (orQ k n s k' n' s')), .int .i64 (tvN (orQ k n s k' n' s')), .string ⟨#[]⟩] 23))
  replace hN := hN.low (below_alloc _ (.cells #[.int .i64 (tvK (orQ k n s k' n' s')), .int .i64 (tvN (orQ k n s k' n' s')), .string ⟨#[]⟩] 23))
  replace hM := hM.low (below_alloc _ (.cells #[.int .i64 (tvK (orQ k n s k' n' s')), .int .i64 (tvN (orQ k n s k' n' s')), .string ⟨#[]⟩] 23))
  replace hC := hC.low (below_alloc _ (.cells #[.int .i64 (tvK (orQ k n s k' n' s')), .int .i64 (tvN (orQ k n s k' n' s')), .string ⟨#[]⟩] 23))
  replace hD := hD.low (below_alloc _ (.cells #[.int .i64 (tvK (orQ k n s k' n' s')), .int .i64 (tvN (orQ k n s k' n' s')), .string ⟨#[]⟩] 23))
  replace hF := hF.low (below_alloc _ (.cells #[.int .i64 (tvK (orQ k n s k' n' s')), .int .i64 (tvN (orQ k n s k' n' s')), .string ⟨#[]⟩] 23))
  have hG := cell3_new wn (.int .i64 (tvK (orQ k n s k' n' s'))) (.int .i64 (tvN (orQ k n s k' n' s'))) (.string ⟨#[]⟩) 23
  replace hW := Below.next hW hbn
  have lG := hW.size
  replace hW := Below.next hW (below_alloc _ (.cells #[.int .i64 (tvK (orQ k n s k' n' s')), .int .i64 (tvN (orQ k n s k' n' s')), .string ⟨#[]⟩] 23))
  replace hE := (hE.low hbn).alloc (.cells #[.int .i64 (tvK (orQ k n s k' n' s')), .int .i64 (tvN (orQ k n s k' n' s')), .string ⟨#[]⟩] 23)
  clear hbn
  generalize wn.alloc _ = u6 at hA hB hN hM hC hD hF hG hW hE ⊢
  generalize wn.heap.size = G at hG lG oG ⊢
  obtain ⟨nz, n0, n1, n2, nf⟩ := id hN
  obtain ⟨mz, m0, m1, m2, mf⟩ := id hM
  obtain ⟨cz, c0, c1, c2, cf⟩ := id hC
  obtain ⟨dz, d0, d1, d2, df⟩ := id hD
  obtain ⟨fz, f0, f1, f2, ff⟩ := id hF
  obtain ⟨gz, g0, g1, g2, gf⟩ := id hG
  clear hE
  go_upto_region 9 with (fail)
  clear nz n0 n1 n2 nf mz m0 m1 m2 mf cz c0 c1 c2 cf dz d0 d1 d2 df fz f0 f1 f2 ff gz g0 g1 g2 gf
  clear hN hM oN oM lN lM
  obtain ⟨az, a0, a1, a2, af⟩ := id hA
  obtain ⟨bz, b0, b1, b2, bf⟩ := id hB
  obtain ⟨cz, c0, c1, c2, cf⟩ := id hC
  go_wp2_with fail
  refine (equal_any _ _ _ _ _ _ _ hs hs').mono ?_
  rintro e wn ⟨rfl, hbn⟩
  clear az a0 a1 a2 af bz b0 b1 b2 bf cz c0 c1 c2 cf
  replace hA := hA.low hbn
  replace hB := hB.low hbn
  replace hC := hC.low hbn
  replace hD := hD.low hbn
  replace hF := hF.low hbn
  replace hG := hG.low hbn
  replace hW := Below.next hW hbn
  clear hbn
  obtain ⟨cz, c0, c1, c2, cf⟩ := id hC
  go_upto_region 10 with (fail)
  clear cz c0 c1 c2 cf
  replace hA := hA.far (show w.heap.size ≠ C by omega) (.int .i64 (tvK (cmpQ k n s k' n' s' 0))) (.int .i64 (tvN (cmpQ k n s k' n' s' 0))) (.string ⟨#[]⟩)
  replace hB := hB.far (show (w.heap.size + 1) ≠ C by omega) (.int .i64 (tvK (cmpQ k n s k' n' s' 0))) (.int .i64 (tvN (cmpQ k n s k' n' s' 0))) (.string ⟨#[]⟩)
  replace hC := cell3_set hC (.int .i64 (tvK (cmpQ k n s k' n' s' 0))) (.int .i64 (tvN (cmpQ k n s k' n' s' 0))) (.string ⟨#[]⟩)
  replace hD := hD.far (show D ≠ C by omega) (.int .i64 (tvK (cmpQ k n s k' n' s' 0))) (.int .i64 (tvN (cmpQ k n s k' n' s' 0))) (.string ⟨#[]⟩)
  replace hF := hF.far (show F ≠ C by omega) (.int .i64 (tvK (cmpQ k n s k' n' s' 0))) (.int .i64 (tvN (cmpQ k n s k' n' s' 0))) (.string ⟨#[]⟩)
  replace hG := hG.far (show G ≠ C by omega) (.int .i64 (tvK (cmpQ k n s k' n' s' 0))) (.int .i64 (tvN (cmpQ k n s k' n' s' 0))) (.string ⟨#[]⟩)
  replace hW := Below.three hW lC (.int .i64 (tvK (cmpQ k n s k' n' s' 0))) (.int .i64 (tvN (cmpQ k n s k' n' s' 0))) (.string ⟨#[]⟩)
  generalize ((wn.setCell _ _).setCell _ _).setCell _ _ = v0 at hA hB hC hD hF hG hW ⊢
  obtain ⟨az, a0, a1, a2, af⟩ := id hA
  obtain ⟨bz, b0, b1, b2, bf⟩ := id hB
  obtain ⟨dz, d0, d1, d2, df⟩ := id hD
  go_wp2_with fail
  refine (requal_any _ _ _ _ _ _ _ hs hs').mono ?_
  rintro e wn ⟨rfl, hbn⟩
  clear az a0 a1 a2 af bz b0 b1 b2 bf dz d0 d1 d2 df
  replace hA := hA.low hbn
  replace hB := hB.low hbn
  replace hC := hC.low hbn
  replace hD := hD.low hbn
  replace hF := hF.low hbn
  replace hG := hG.low hbn
  replace hW := Below.next hW hbn
  clear hbn
  obtain ⟨dz, d0, d1, d2, df⟩ := id hD
  go_upto_region 11 with (fail)
  clear dz d0 d1 d2 df
  replace hA := hA.far (show w.heap.size ≠ D by omega) (.int .i64 (tvK (cmpQ k n s k' n' s' 0))) (.int .i64 (tvN (cmpQ k n s k' n' s' 0))) (.string ⟨#[]⟩)
  replace hB := hB.far (show (w.heap.size + 1) ≠ D by omega) (.int .i64 (tvK (cmpQ k n s k' n' s' 0))) (.int .i64 (tvN (cmpQ k n s k' n' s' 0))) (.string ⟨#[]⟩)
  replace hC := hC.far (show C ≠ D by omega) (.int .i64 (tvK (cmpQ k n s k' n' s' 0))) (.int .i64 (tvN (cmpQ k n s k' n' s' 0))) (.string ⟨#[]⟩)
  replace hD := cell3_set hD (.int .i64 (tvK (cmpQ k n s k' n' s' 0))) (.int .i64 (tvN (cmpQ k n s k' n' s' 0))) (.string ⟨#[]⟩)
  replace hF := hF.far (show F ≠ D by omega) (.int .i64 (tvK (cmpQ k n s k' n' s' 0))) (.int .i64 (tvN (cmpQ k n s k' n' s' 0))) (.string ⟨#[]⟩)
  replace hG := hG.far (show G ≠ D by omega) (.int .i64 (tvK (cmpQ k n s k' n' s' 0))) (.int .i64 (tvN (cmpQ k n s k' n' s' 0))) (.string ⟨#[]⟩)
  replace hW := Below.three hW lD (.int .i64 (tvK (cmpQ k n s k' n' s' 0))) (.int .i64 (tvN (cmpQ k n s k' n' s' 0))) (.string ⟨#[]⟩)
  generalize ((wn.setCell _ _).setCell _ _).setCell _ _ = v1 at hA hB hC hD hF hG hW ⊢
  obtain ⟨az, a0, a1, a2, af⟩ := id hA
  obtain ⟨bz, b0, b1, b2, bf⟩ := id hB
  obtain ⟨fz, f0, f1, f2, ff⟩ := id hF
  go_wp2_with fail
  refine (less_any _ _ _ _ _ _ _ hs hs').mono ?_
  rintro e wn ⟨rfl, hbn⟩
  clear az a0 a1 a2 af bz b0 b1 b2 bf fz f0 f1 f2 ff
  replace hA := hA.low hbn
  replace hB := hB.low hbn
  replace hC := hC.low hbn
  replace hD := hD.low hbn
  replace hF := hF.low hbn
  replace hG := hG.low hbn
  replace hW := Below.next hW hbn
  clear hbn
  obtain ⟨fz, f0, f1, f2, ff⟩ := id hF
  go_upto_region 12 with (fail)
  clear fz f0 f1 f2 ff
  replace hA := hA.far (show w.heap.size ≠ F by omega) (.int .i64 (tvK (cmpQ k n s k' n' s' (-1)))) (.int .i64 (tvN (cmpQ k n s k' n' s' (-1)))) (.string ⟨#[]⟩)
  replace hB := hB.far (show (w.heap.size + 1) ≠ F by omega) (.int .i64 (tvK (cmpQ k n s k' n' s' (-1)))) (.int .i64 (tvN (cmpQ k n s k' n' s' (-1)))) (.string ⟨#[]⟩)
  replace hC := hC.far (show C ≠ F by omega) (.int .i64 (tvK (cmpQ k n s k' n' s' (-1)))) (.int .i64 (tvN (cmpQ k n s k' n' s' (-1)))) (.string ⟨#[]⟩)
  replace hD := hD.far (show D ≠ F by omega) (.int .i64 (tvK (cmpQ k n s k' n' s' (-1)))) (.int .i64 (tvN (cmpQ k n s k' n' s' (-1)))) (.string ⟨#[]⟩)
  replace hF := cell3_set hF (.int .i64 (tvK (cmpQ k n s k' n' s' (-1)))) (.int .i64 (tvN (cmpQ k n s k' n' s' (-1)))) (.string ⟨#[]⟩)
  replace hG := hG.far (show G ≠ F by omega) (.int .i64 (tvK (cmpQ k n s k' n' s' (-1)))) (.int .i64 (tvN (cmpQ k n s k' n' s' (-1)))) (.string ⟨#[]⟩)
  replace hW := Below.three hW lF (.int .i64 (tvK (cmpQ k n s k' n' s' (-1)))) (.int .i64 (tvN (cmpQ k n s k' n' s' (-1)))) (.string ⟨#[]⟩)
  generalize ((wn.setCell _ _).setCell _ _).setCell _ _ = v2 at hA hB hC hD hF hG hW ⊢
  obtain ⟨az, a0, a1, a2, af⟩ := id hA
  obtain ⟨bz, b0, b1, b2, bf⟩ := id hB
  obtain ⟨gz, g0, g1, g2, gf⟩ := id hG
  go_wp2_with fail
  refine (rless_any _ _ _ _ _ _ _ hs hs').mono ?_
  rintro e wn ⟨rfl, hbn⟩
  clear az a0 a1 a2 af bz b0 b1 b2 bf gz g0 g1 g2 gf
  replace hA := hA.low hbn
  replace hB := hB.low hbn
  replace hC := hC.low hbn
  replace hD := hD.low hbn
  replace hF := hF.low hbn
  replace hG := hG.low hbn
  replace hW := Below.next hW hbn
  clear hbn
  obtain ⟨gz, g0, g1, g2, gf⟩ := id hG
  go_upto_region 13 with (fail)
  clear gz g0 g1 g2 gf
  replace hA := hA.far (show w.heap.size ≠ G by omega) (.int .i64 (tvK (cmpQ k n s k' n' s' (-1)))) (.int .i64 (tvN (cmpQ k n s k' n' s' (-1)))) (.string ⟨#[]⟩)
  replace hB := hB.far (show (w.heap.size + 1) ≠ G by omega) (.int .i64 (tvK (cmpQ k n s k' n' s' (-1)))) (.int .i64 (tvN (cmpQ k n s k' n' s' (-1)))) (.string ⟨#[]⟩)
  replace hC := hC.far (show C ≠ G by omega) (.int .i64 (tvK (cmpQ k n s k' n' s' (-1)))) (.int .i64 (tvN (cmpQ k n s k' n' s' (-1)))) (.string ⟨#[]⟩)
  replace hD := hD.far (show D ≠ G by omega) (.int .i64 (tvK (cmpQ k n s k' n' s' (-1)))) (.int .i64 (tvN (cmpQ k n s k' n' s' (-1)))) (.string ⟨#[]⟩)
  replace hF := hF.far (show F ≠ G by omega) (.int .i64 (tvK (cmpQ k n s k' n' s' (-1)))) (.int .i64 (tvN (cmpQ k n s k' n' s' (-1)))) (.string ⟨#[]⟩)
  replace hG := cell3_set hG (.int .i64 (tvK (cmpQ k n s k' n' s' (-1)))) (.int .i64 (tvN (cmpQ k n s k' n' s' (-1)))) (.string ⟨#[]⟩)
  replace hW := Below.three hW lG (.int .i64 (tvK (cmpQ k n s k' n' s' (-1)))) (.int .i64 (tvN (cmpQ k n s k' n' s' (-1)))) (.string ⟨#[]⟩)
  generalize ((wn.setCell _ _).setCell _ _).setCell _ _ = v3 at hA hB hC hD hF hG hW ⊢
  obtain ⟨az, a0, a1, a2, af⟩ := id hA
  obtain ⟨cz, c0, c1, c2, cf⟩ := id hC
  obtain ⟨dz, d0, d1, d2, df⟩ := id hD
  obtain ⟨fz, f0, f1, f2, ff⟩ := id hF
  obtain ⟨gz, g0, g1, g2, gf⟩ := id hG
  go_region_held3 (fun u => u.cell? ⟨w.heap.size, 0, none⟩ = some (.int .i64 k) ∧ u.cell? ⟨w.heap.size, 1, none⟩ = some (.int .i64 n) ∧ u.cell? ⟨w.heap.size, 2, none⟩ = some (.string s) ∧ u.cell? ⟨C, 0, none⟩ = some (.int .i64 (tvK (cmpQ k n s k' n' s' 0))) ∧ u.cell? ⟨C, 1, none⟩ = some (.int .i64 (tvN (cmpQ k n s k' n' s' 0))) ∧ u.cell? ⟨C, 2, none⟩ = some (.string ⟨#[]⟩) ∧ u.cell? ⟨D, 0, none⟩ = some (.int .i64 (tvK (cmpQ k n s k' n' s' 0))) ∧ u.cell? ⟨D, 1, none⟩ = some (.int .i64 (tvN (cmpQ k n s k' n' s' 0))) ∧ u.cell? ⟨D, 2, none⟩ = some (.string ⟨#[]⟩) ∧ u.cell? ⟨F, 0, none⟩ = some (.int .i64 (tvK (cmpQ k n s k' n' s' (-1)))) ∧ u.cell? ⟨F, 1, none⟩ = some (.int .i64 (tvN (cmpQ k n s k' n' s' (-1)))) ∧ u.cell? ⟨F, 2, none⟩ = some (.string ⟨#[]⟩) ∧ u.cell? ⟨G, 0, none⟩ = some (.int .i64 (tvK (cmpQ k n s k' n' s' (-1)))) ∧ u.cell? ⟨G, 1, none⟩ = some (.int .i64 (tvN (cmpQ k n s k' n' s' (-1)))) ∧ u.cell? ⟨G, 2, none⟩ = some (.string ⟨#[]⟩) ∧ w.heap.size < u.heap.size ∧ C < u.heap.size ∧ D < u.heap.size ∧ F < u.heap.size ∧ G < u.heap.size ∧ Below w.heap.size w u)
    (first
      | exact ⟨a0, a1, a2, c0, c1, c2, d0, d1, d2, f0, f1, f2, g0, g1, g2, az, cz, dz, fz, gz, hW.drew⟩
      | exact keep5 hbq (Nat.le_refl _) (by assumption))
    (first
      | (go_at_call 28; refine (logic_valid _ _ _ _ HS.out.1).mono ?_; rintro e wq ⟨rfl, hbq⟩)
      | (go_at_call 29; refine (rlogic_valid _ _ _ _ HS.out.1).mono ?_; rintro e wq ⟨rfl, hbq⟩)
      | (go_at_call 30; refine (isTrue_any _ _ _ _).mono ?_; rintro e wq ⟨rfl, hbq⟩)
      | (go_at_call 31; refine (risTrue_any _ _ _ _).mono ?_; rintro e wq ⟨rfl, hbq⟩))
  all_goals
    rename_i hHeld
    have hB9 := hHeld.2.2.2.2.2.2.2.2.2.2.2.2.2.2.2.2.2.2.2.2
    clear hHeld
    go_wp2
    go_ret
    exact ⟨rfl, hB9⟩
end Go.Proofs.YtlnjdgmolmeklaaDoor
