/-
  THE SANITY CHECK of the statements about arith.
-/
import Derived.Test.YtkimoioljcpcoaaWide
import Derived.Below
import Derived.KernelRfl
namespace Go.Proofs.Ytkimoioljcpcoaa
open Go.RowKit

section
variable (w : World)
theorem div_known : Calls Try.prog 16 #[.int .i64 (-7), .int .i64 2] w fun e w' => e = .returned (.tuple #[.int .i64 (-3), .bool true]) ∧ w = w' :=
  (div_any (-7) 2 w (by omega) (by omega) (by omega) (by omega) (by omega)).mono fun _ _ ⟨h, hw⟩ => ⟨h.trans (by kernel_rfl), hw⟩
theorem mod_known : Calls Try.prog 17 #[.int .i64 (-7), .int .i64 2] w fun e w' => e = .returned (.tuple #[.int .i64 (-1), .bool true]) ∧ w = w' :=
  (rem_any (-7) 2 w (by omega)).mono fun _ _ ⟨h, hw⟩ => ⟨h.trans (by kernel_rfl), hw⟩
theorem add_known : Calls Try.prog 14 #[.int .i64 9223372036854775807, .int .i64 1] w fun e w' => e = .returned (.tuple #[.int .i64 0, .bool false]) ∧ w = w' :=
  (add_any 9223372036854775807 1 w (by omega) (by omega) (by omega) (by omega)).mono fun _ _ ⟨h, hw⟩ => ⟨h.trans (by kernel_rfl), hw⟩
def knownF : Nat → Int
  | 0 => 9223372036854775807
  | 1 => 5
  | _ => -5
theorem sum_known (c : Nat) (h0 : w.cell? ⟨c, 0, none⟩ = some (.int .i64 9223372036854775807)) (h1 : w.cell? ⟨c, 1, none⟩ = some (.int .i64 5)) (h2 : w.cell? ⟨c, 2, none⟩ = some (.int .i64 (-5))) :
    Calls Try.prog 12 #[.slice (some ⟨c, 0, none⟩) 3 3] w fun e w' => e = .returned (.tuple #[.int .i64 9223372036854775807, .bool true]) ∧ w = w' := by
  refine (sum_any _ knownF 3 3 w (by omega) ?_).mono fun _ _ ⟨h, hw⟩ => ⟨h.trans (by kernel_rfl), hw⟩
  intro i hi
  rcases (by omega : i = 0 ∨ i = 1 ∨ i = 2) with rfl | rfl | rfl
  · exact ⟨c, 0, rfl, h0, by decide, by decide⟩
  · exact ⟨c, 0, rfl, h1, by decide, by decide⟩
  · exact ⟨c, 0, rfl, h2, by decide, by decide⟩

theorem known_any : Calls Try.prog 10 #[] w fun e w' => e = .returned (.bool true) ∧ Below w.heap.size w w' := by
  go_enter Try.func10, Try.ntmps10
  go_wp2_with (first | (go_at_call 16; refine (div_known _).mono ?_; rintro e w' ⟨rfl, rfl⟩) | (go_at_call 17; refine (mod_known _).mono ?_; rintro e w' ⟨rfl, rfl⟩) | (go_at_call 14; refine (add_known _).mono ?_; rintro e w' ⟨rfl, rfl⟩) | (go_at_call 12; refine (sum_known _ _ (by simp [go_sem]) (by simp [go_sem]) (by simp [go_sem])).mono ?_; rintro e w' ⟨rfl, rfl⟩))
  go_ret
  exact ⟨rfl, (Below.refl _ _).alloc (Nat.le_refl _) _⟩
end
end Go.Proofs.Ytkimoioljcpcoaa
