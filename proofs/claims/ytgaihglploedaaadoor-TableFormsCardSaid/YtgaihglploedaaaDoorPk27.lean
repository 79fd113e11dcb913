/-
  Several texts in one.
-/
import Derived.Test.YtgaihglploedaaaDoorPk25
import Derived.Test.YtgaihglploedaaaDoorPk17
/-
  What Get and Lookup find in a valid table.
-/
namespace Go.Proofs.YtgaihglploedaaaDoor
set_option maxRecDepth 100000
open Go.RowKit

theorem validT_parts {nm : ByteArray} {n : Nat} {f : Nat → Col} {nx : Int} {R : List TRow} (h : validT nm n f nx R = true) : schemaOK nm n f = true ∧ R.length ≤ 100 ∧ 1 ≤ nx ∧ nx ≤ 2147483648 ∧ (∀ i, i < R.length → RowOK f n nx R i) ∧ (keysR (findKey f n) R).Nodup := by
  unfold validT dupR at h
  simp only [Bool.and_eq_true, decide_eq_true_eq, Bool.not_not] at h
  exact ⟨h.1.1.1, h.1.1.2.1, h.1.1.2.2.1, h.1.1.2.2.2, h.1.2, h.2⟩
theorem ids_up {f : Nat → Col} {n : Nat} {nx : Int} {R : List TRow} (h : ∀ i, i < R.length → RowOK f n nx R i) : ∀ i, i < R.length → ∀ j, j < i → (tAt R j).1 < (tAt R i).1 := by
  intro i
  induction i with
  | zero => intro _ j hj; omega
  | succ i ih =>
    intro hi j hj
    have h1 := (h (i + 1) hi).2.2.1 (by omega)
    rw [Nat.add_sub_cancel] at h1
    by_cases hji : j = i
    · subst hji; exact h1
    · exact Int.lt_trans (ih (by omega) j (by omega)) h1
theorem get_row {f : Nat → Col} {n : Nat} {nx : Int} {R : List TRow} (h : ∀ i, i < R.length → RowOK f n nx R i) {i : Nat} (hi : i < R.length) : getR (tAt R i).1 R = some (tAt R i).2 :=
  getR_hit hi rfl fun j hj e => by have := ids_up h i hi j hj; omega
theorem get_next {f : Nat → Col} {n : Nat} {nx : Int} {R : List TRow} (h : ∀ i, i < R.length → RowOK f n nx R i) : getR nx R = none :=
  getR_none fun j hj e => by have := (h j hj).2.1; omega
theorem key_apart {k : Int} {R : List TRow} (h : (keysR k R).Nodup) {i j : Nat} (hi : i < R.length) (hj : j < i) {v : Val} (hv : keyV k (tAt R i).2 = some v) : keyV k (tAt R j).2 ≠ some v := by
  intro he
  have h1 := h.sublist (keysR_sub (i := i + 1))
  rw [keysR_take hi, hv, List.nodup_append] at h1
  refine h1.2.2 v ?_ v (by simp) rfl
  unfold keysR
  refine List.mem_filterMap.2 ⟨tAt R j, ?_, he⟩
  rw [tAt_get (by omega)]
  exact List.mem_take_iff_getElem.2 ⟨j, by omega, rfl⟩
theorem look_row {k : Int} {R : List TRow} (h : (keysR k R).Nodup) {i : Nat} (hi : i < R.length) {v : Val} (hv : keyV k (tAt R i).2 = some v) : lookR k v R = some (tAt R i).1 :=
  lookR_hit hi hv fun _ hj => key_apart h hi hj hv
theorem findKey_first {f : Nat → Col} {n : Nat} (hn : 0 < n) (h : (f 0).key = true) : findKey f n = 0 := findI_hit (P := fun i => (f i).key) hn h (fun j hj => absurd hj (Nat.not_lt_zero j))
end Go.Proofs.YtgaihglploedaaaDoor
