/-
  Valid, of the program and of the reference.
-/
import Derived.Test.YtlgagibmndbimaaDoorProg
import Derived.Test.YtlgagibmndbimaaDoorPlain
import Derived.WalkKit
import Derived.WalkSpells
import Derived.WalkLawsBesides
import Derived.Deep.QuietTactic
import Derived.BigQuiet
import Derived.Lib.Hide
namespace Go.Proofs.YtlgagibmndbimaaDoor
open Go.RowKit

theorem ret_bool {a b : Bool} (h : a = b) : Ending.returned (.bool a) = .returned (.bool b) := by rw [h]

set_option maxHeartbeats 400000 in
theorem vtext_any (s : ByteArray) (w : World) (hs : s.size ≤ 9223372036854775807) :
    Calls Tryd.prog 53 #[.string s] w fun e w' => e = .returned (.bool (textOK s.data.toList)) ∧ w' = w := by
  by_cases hl : 64 < s.size
  · have hf := Lib.hid (textOK_long (l := s.data.toList) (by simpa using hl))
    go_enter Tryd.func53, Tryd.ntmps53
    go_wp2
    all_goals
      go_ret
      exact ⟨ret_bool hf.out.symm, rfl⟩
  · go_enter Tryd.func53, Tryd.ntmps53
    go_wp2
    go_loop [3, 9] (fun _ i => ∃ k : Nat, k ≤ s.size ∧ i = .int .i64 k ∧ (s.data.toList.take k).all byteOK = true) (fun _ i => s.size - (intOf i).toNat)
    case atStart => exact ⟨0, Nat.zero_le _, rfl, by simp⟩
    case round =>
      obtain ⟨k, hk, rfl, ha⟩ := hrel
      have HA := Lib.hid ha
      clear ha
      by_cases hlt : k < s.size
      · go_wp2
        all_goals first
          | (go_ret; exact ⟨ret_bool (textOK_at hlt (by omega)).symm, rfl⟩)
          | exact ⟨⟨k + 1, by omega, by go_num, allOK_succ hlt HA.out (by omega) (by omega)⟩, by simp [intOf]; omega⟩
      · go_wp2
        all_goals
          go_ret
          exact ⟨ret_bool (textOK_end hk hlt (by omega) HA.out).symm, rfl⟩

set_option maxHeartbeats 400000 in
theorem valid_any (k n : Int) (s : ByteArray) (w : World) (hs : s.size ≤ 9223372036854775807) :
    Calls Tryd.prog 45 #[.agg #[.int .i64 k, .int .i64 n, .string s]] w fun e w' => e = .returned (.bool (validB k n s)) ∧ Below w.heap.size w w' := by
  go_enter Tryd.func45, Tryd.ntmps45
  go_wp2_with (go_at_call 53; refine (vtext_any _ _ hs).mono ?_; rintro e w' ⟨rfl, rfl⟩)
  all_goals
    go_ret
    refine ⟨ret_bool ?_, (Below.refl _ _).alloc (Nat.le_refl _) _⟩
    simp_all [validB]

theorem validB_text (s : ByteArray) : validB 3 0 s = textOK s.data.toList := by simp [validB]

set_option maxHeartbeats 400000 in
theorem rvalid_short (s : ByteArray) (w : World) (hs : s.size ≤ 64) :
    Calls Tryd.prog 46 #[.agg #[.int .i64 3, .int .i64 0, .string s]] w fun e w' => e = .returned (.bool (textOK s.data.toList)) ∧ Below w.heap.size w w' := by
  go_enter Tryd.func46, Tryd.ntmps46
  go_wp2
  go_loop [3] (fun i => ∃ j : Nat, j ≤ s.size ∧ i = .int .i64 j ∧ (s.data.toList.take j).all byteOK = true) (fun i => s.size - (intOf i).toNat)
  case atStart => exact ⟨0, Nat.zero_le _, rfl, by simp⟩
  case round =>
    obtain ⟨j, hk, rfl, ha⟩ := hrel
    have HA := Lib.hid ha
    clear ha
    by_cases hlt : j < s.size
    · go_wp2
      all_goals first
        | (go_ret; exact ⟨ret_bool (textOK_at hlt (by omega)).symm, (Below.refl _ _).alloc (Nat.le_refl _) _⟩)
        | exact ⟨⟨j + 1, by omega, by go_num, allOK_succ hlt HA.out (by omega) (by omega)⟩, by simp [intOf]; omega⟩
    · go_wp2
      all_goals
        go_ret
        exact ⟨ret_bool (textOK_end hk hlt hs HA.out).symm, (Below.refl _ _).alloc (Nat.le_refl _) _⟩

set_option maxHeartbeats 400000 in
theorem rvalid_other (k n : Int) (s : ByteArray) (w : World) (hs : s.size ≤ 9223372036854775807) (h : (k == 3) = false ∨ ¬ n = 0 ∨ (64 : Int) < s.size) :
    Calls Tryd.prog 46 #[.agg #[.int .i64 k, .int .i64 n, .string s]] w fun e w' => e = .returned (.bool (validB k n s)) ∧ Below w.heap.size w w' := by
  have hl : (64 : Int) < s.size → textOK s.data.toList = false := fun h => textOK_long (by simp; omega)
  have HL := Lib.hid hl
  clear hl
  rcases h with h | h | h
  all_goals
    go_enter Tryd.func46, Tryd.ntmps46
    go_wp2
  all_goals
    go_ret
    refine ⟨ret_bool ?_, (Below.refl _ _).alloc (Nat.le_refl _) _⟩
    first | (simp_all [validB]; done) | (simp_all [validB, HL.out (by assumption)]; done)

theorem rvalid_any (k n : Int) (s : ByteArray) (w : World) (hs : s.size ≤ 9223372036854775807) :
    Calls Tryd.prog 46 #[.agg #[.int .i64 k, .int .i64 n, .string s]] w fun e w' => e = .returned (.bool (validB k n s)) ∧ Below w.heap.size w w' := by
  by_cases h : k = 3 ∧ n = 0 ∧ s.size ≤ 64
  · obtain ⟨rfl, rfl, h⟩ := h
    rw [validB_text]; exact rvalid_short s w h
  · refine rvalid_other k n s w hs ?_
    by_cases h3 : k = 3
    · by_cases h0 : n = 0
      · exact Or.inr (Or.inr (by omega))
      · exact Or.inr (Or.inl h0)
    · exact Or.inl (beq_eq_false_iff_ne.2 h3)
end Go.Proofs.YtlgagibmndbimaaDoor
