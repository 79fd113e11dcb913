/-
  Compare, of the program and of the reference.
-/
import Derived.Test.YtlgagibmndbimaaDoorEnv
import Derived.Test.YtlgagibmndbimaaDoorPlain
import Derived.StillTailTactics
namespace Go.Proofs.YtlgagibmndbimaaDoor
open Go.RowKit

def orI (x y z : Int) : Int := if x = 0 then (if y = 0 then z else y) else x
/-- The order of values: by kind, then number, then text. -/
def cmpV (k n : Int) (s : ByteArray) (k' n' : Int) (s' : ByteArray) : Int :=
  orI (Lib.compareInt k k') (Lib.compareInt n n') (Lib.compareBytes s.data.toList s'.data.toList)

theorem ret_i {a b : Int} (h : a = b) : Ending.returned (.int .i64 a) = .returned (.int .i64 b) := by rw [h]

set_option maxHeartbeats 400000 in
theorem nan64_any (x : Int) (w : World) :
    Calls Tryd.prog 71 #[.int .i64 x] w fun e w' => e = .returned (.bool false) ∧ w' = w := by
  go_enter Tryd.func71, Tryd.ntmps71
  go_wp2
  all_goals
    go_ret
    exact ⟨by simp, rfl⟩

set_option maxHeartbeats 400000 in
theorem cmp64_any (x y : Int) (w : World) :
    Calls Tryd.prog 58 #[.int .i64 x, .int .i64 y] w fun e w' => e = .returned (.int .i64 (Lib.compareInt x y)) ∧ w' = w := by
  go_enter Tryd.func58, Tryd.ntmps58
  go_wp2_with (go_at_call 71; refine (nan64_any _ _).mono ?_; rintro e w' ⟨rfl, rfl⟩)
  all_goals
    go_ret
    refine ⟨ret_i ?_, rfl⟩
    unfold Lib.compareInt
    simp_all
    try omega

set_option maxHeartbeats 400000 in
theorem or3_any (a : Nat) (cap : Nat) (x y z : Int) (w : World) (h0 : w.cell? ⟨a, 0, none⟩ = some (.int .i64 x)) (h1 : w.cell? ⟨a, 1, none⟩ = some (.int .i64 y)) (h2 : w.cell? ⟨a, 2, none⟩ = some (.int .i64 z)) :
    Calls Tryd.prog 56 #[.slice (some ⟨a, 0, none⟩) 3 cap] w fun e w' => e = .returned (.int .i64 (orI x y z)) ∧ w' = w := by
  go_enter Tryd.func56, Tryd.ntmps56
  go_wp2
  go_loop [5, 8] (fun _ i => ∃ k : Nat, k ≤ 3 ∧ i = .int .i64 k ∧ (0 < k → x = 0) ∧ (1 < k → y = 0) ∧ (2 < k → z = 0)) (fun _ i => 3 - (intOf i).toNat)
  case atStart => exact ⟨0, by omega, rfl, by omega, by omega, by omega⟩
  case round =>
    obtain ⟨k, hk, rfl, ha⟩ := hrel
    have HA := Lib.hid ha
    clear ha
    have hk4 : k = 0 ∨ k = 1 ∨ k = 2 ∨ k = 3 := by omega
    rcases hk4 with rfl | rfl | rfl | rfl
    · go_wp2
      all_goals first
        | (go_ret; exact ⟨ret_i (by simp_all [orI]), rfl⟩)
        | exact ⟨⟨1, by omega, rfl, by simp_all, by omega, by omega⟩, by simp [intOf]⟩
    · have hx := HA.out.1 (by omega)
      have HX := Lib.hid hx
      clear hx HA
      go_wp2
      all_goals first
        | (go_ret; exact ⟨ret_i (by have := HX.out; simp_all [orI]), rfl⟩)
        | exact ⟨⟨2, by omega, rfl, fun _ => HX.out, by simp_all, by omega⟩, by simp [intOf]⟩
    · have hx := HA.out.1 (by omega)
      have hy := HA.out.2.1 (by omega)
      have HX := Lib.hid hx
      have HY := Lib.hid hy
      clear hx hy HA
      go_wp2
      all_goals first
        | (go_ret; exact ⟨ret_i (by have := HX.out; have := HY.out; simp_all [orI]), rfl⟩)
        | exact ⟨⟨3, by omega, rfl, fun _ => HX.out, fun _ => HY.out, by simp_all⟩, by simp [intOf]⟩
    · go_wp2
      go_ret
      obtain ⟨hx, hy, hz⟩ := HA.out
      exact ⟨ret_i (by simp [orI, hx, hy, hz]), rfl⟩

theorem two_boxes (w : World) (x y z x' y' z' : Value) (t : TypeId) :
    ∃ W, W = (w.alloc (.cells #[x, y, z] t)).alloc (.cells #[x', y', z'] t) ∧ Below w.heap.size w W ∧ W.heap.size = w.heap.size + 2 ∧ W.cell? ⟨w.heap.size, 0, none⟩ = some x ∧ W.cell? ⟨w.heap.size, 1, none⟩ = some y ∧ W.cell? ⟨w.heap.size, 2, none⟩ = some z
      ∧ W.cell? ⟨w.heap.size + 1, 0, none⟩ = some x' ∧ W.cell? ⟨w.heap.size + 1, 1, none⟩ = some y' ∧ W.cell? ⟨w.heap.size + 1, 2, none⟩ = some z' := by
  refine ⟨_, rfl, ((Below.refl _ _).alloc (Nat.le_refl _) _).alloc (by simp) _, by simp, ?_, ?_, ?_, ?_, ?_, ?_⟩
  all_goals go_simp

set_option maxRecDepth 100000 in
set_option maxHeartbeats 400000 in
theorem compare_any (k n : Int) (s : ByteArray) (k' n' : Int) (s' : ByteArray) (w : World) :
    Calls Tryd.prog 51 #[.agg #[.int .i64 k, .int .i64 n, .string s], .agg #[.int .i64 k', .int .i64 n', .string s']] w fun e w' => e = .returned (.int .i64 (cmpV k n s k' n' s')) ∧ Below w.heap.size w w' := by
  obtain ⟨W, hW, hb, hz, c0, c1, c2, d0, d1, d2⟩ := two_boxes w (.int .i64 k) (.int .i64 n) (.string s) (.int .i64 k') (.int .i64 n') (.string s') 34
  have HZ := Lib.hid hz
  clear hz
  go_enter Tryd.func51, Tryd.ntmps51
  have HW := Lib.hid hW
  clear hW
  go_wp2_with fail
  rw [← HW.out]
  clear HW
  go_still_tail 15, (by kernel_rfl)
  still_call (Tryd.cmp_Compare_int _ _ _)
  repeat still_step
  still_call (cmp64_any _ _ _)
  repeat still_step
  still_call (Tryd.strings_Compare _ _ _)
  try refine wpStill_nil ?_
  have hz := HZ.out
  clear c0 c1 c2 d0 d1 d2 HZ
  have hb' : Below w.heap.size w W.drew := hb.drew
  have hz' : W.drew.heap.size = w.heap.size + 2 := hz
  change wpList _ _ _ _ _ W.drew
  generalize W.drew = W2 at hb' hz'
  clear hb hz W
  go_wp2_with fail
  refine (or3_any (w.heap.size + 2) 3 (Lib.compareInt k k') (Lib.compareInt n n') (Lib.compareBytes s.data.toList s'.data.toList) _ ?_ ?_ ?_).mono ?_
  · rw [← hz']; go_simp
  · rw [← hz']; go_simp
  · rw [← hz']; go_simp
  rintro e w3 ⟨rfl, rfl⟩
  go_wp2
  go_ret
  exact ⟨rfl, hb'.alloc (by omega) _⟩

set_option maxHeartbeats 400000 in
theorem rcompare_any (k n : Int) (s : ByteArray) (k' n' : Int) (s' : ByteArray) (w : World) :
    Calls Tryd.prog 42 #[.agg #[.int .i64 k, .int .i64 n, .string s], .agg #[.int .i64 k', .int .i64 n', .string s']] w fun e w' => e = .returned (.int .i64 (cmpV k n s k' n' s')) ∧ Below w.heap.size w w' := by
  go_enter Tryd.func42, Tryd.ntmps42
  go_wp2_with (go_at_call 52; refine (Tryd.strings_Compare _ _ _).mono ?_; rintro e w' ⟨rfl, rfl⟩)
  all_goals
    go_ret
    refine ⟨ret_i ?_, ((Below.refl _ _).alloc (Nat.le_refl _) _).alloc (by simp) _⟩
  all_goals
    simp only [bne_iff_ne, ne_eq, bne_eq_false_iff_eq] at *
    unfold cmpV orI Lib.compareInt
    (repeat' split) <;> first | rfl | omega
end Go.Proofs.YtlgagibmndbimaaDoor
