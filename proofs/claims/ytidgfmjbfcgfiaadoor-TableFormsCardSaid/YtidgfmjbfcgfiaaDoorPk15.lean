/-
  Several texts in one.
-/
import Derived.Test.YtidgfmjbfcgfiaaDoorPk13
import Derived.Test.YtidgfmjbfcgfiaaDoorPk11
import Derived.Test.YtidgfmjbfcgfiaaDoorPk01
/-
  What Get and Lookup find in a valid table.
-/
namespace Go.Proofs.YtidgfmjbfcgfiaaDoor
set_option maxRecDepth 100000
open Go.RowKit

theorem validT_parts {nm : ByteArray} {n : Nat} {f : Nat → Col} {nx : Int} {R : List TRow} (h : validT nm n f nx R = true) : schemaOK nm n f = true ∧ R.length ≤ 100 ∧ 1 ≤ nx ∧ nx ≤ 2147483648 ∧ (∀ i, i < R.length → RowOK f n nx R i) ∧ (keysR (findKey f n) R).Nodup := by
  unfold validT dupR at h
  simp only [Bool.and_eq_true, decide_eq_true_eq, Bool.not_not] at h
  exact ⟨h.1.1.1, h.1.1.2.1, h.1.1.2.2.1, h.1.1.2.2.2, h.1.2, h.2⟩
theorem ids_up {f : Nat → Col} {n : Nat} {nx : Int} {R : List TRow} (h : ∀ i, i < R.length → RowOK f n nx R i) : ∀ i, i < R.length → ∀ j, j < i → (tAt R j).1 < (tAt R i).1 := by
  intro i
  induction i with
  | zero => intro _ j hj; omega
  | succ i ih =>
    intro hi j hj
    have h1 := (h (i + 1) hi).2.2.1 (by omega)
    rw [Nat.add_sub_cancel] at h1
    by_cases hji : j = i
    · subst hji; exact h1
    · exact Int.lt_trans (ih (by omega) j (by omega)) h1
theorem get_row {f : Nat → Col} {n : Nat} {nx : Int} {R : List TRow} (h : ∀ i, i < R.length → RowOK f n nx R i) {i : Nat} (hi : i < R.length) : getR (tAt R i).1 R = some (tAt R i).2 :=
  getR_hit hi rfl fun j hj e => by have := ids_up h i hi j hj; omega
theorem get_next {f : Nat → Col} {n : Nat} {nx : Int} {R : List TRow} (h : ∀ i, i < R.length → RowOK f n nx R i) : getR nx R = none :=
  getR_none fun j hj e => by have := (h j hj).2.1; omega
theorem key_apart {k : Int} {R : List TRow} (h : (keysR k R).Nodup) {i j : Nat} (hi : i < R.length) (hj : j < i) {v : Val} (hv : keyV k (tAt R i).2 = some v) : keyV k (tAt R j).2 ≠ some v := by
  intro he
  have h1 := h.sublist (keysR_sub (i := i + 1))
  rw [keysR_take hi, hv, List.nodup_append] at h1
  refine h1.2.2 v ?_ v (by simp) rfl
  unfold keysR
  refine List.mem_filterMap.2 ⟨tAt R j, ?_, he⟩
  rw [tAt_get (by omega)]
  exact List.mem_take_iff_getElem.2 ⟨j, by omega, rfl⟩
theorem look_row {k : Int} {R : List TRow} (h : (keysR k R).Nodup) {i : Nat} (hi : i < R.length) {v : Val} (hv : keyV k (tAt R i).2 = some v) : lookR k v R = some (tAt R i).1 :=
  lookR_hit hi hv fun _ hj => key_apart h hi hj hv
theorem findKey_first {f : Nat → Col} {n : Nat} (hn : 0 < n) (h : (f 0).key = true) : findKey f n = 0 := findI_hit (P := fun i => (f i).key) hn h (fun j hj => absurd hj (Nat.not_lt_zero j))
end Go.Proofs.YtidgfmjbfcgfiaaDoor
/-
  Names: what the tape's Name gives; the words of the program, one by one.
-/
namespace Go.Proofs.YtidgfmjbfcgfiaaDoor
set_option maxRecDepth 100000
open Go.RowKit
variable {ls : List Nat}

def NamePost (b : Nat) (w : World) (e : Ending) (w' : World) : Prop := ∃ i : Nat, e = .returned (.string (nameS i)) ∧ i < 8 ∧ TapeAt w' b ∧ StepT b w w'
set_option maxHeartbeats 400000 in
theorem name_any (b : Nat) (w : World) (hb : 3 ≤ b) (ht : TapeAt w b) (hE : Env ls w) (hm : 0 ∈ ls) :
    Calls Tryd.prog 28 #[.pointer (some ⟨b, 0, none⟩)] w (NamePost b w) := by
  go_enter Tryd.func28, Tryd.ntmps28
  go_wp2_with fail
  refine (next_any b _ _ (by omega) (by omega) ht).mono ?_
  rintro e w' ⟨r, rfl, hr0, hr1, ht1, hs1⟩
  have HS := Lib.hid hs1
  have HT := Lib.hid ht1
  obtain ⟨i, rfl⟩ : ∃ i : Nat, r = i := ⟨r.toNat, by omega⟩
  have hc := (hE.step hs1 hb).names hm i (by omega)
  clear hs1 ht1
  go_wp2
  go_ret
  exact ⟨i, rfl, by omega, HT.out, HS.out⟩
theorem name_all {P : ByteArray → Prop} (h : ∀ i : Fin 8, P (nameS i)) (i : Nat) (hi : i < 8) : P (nameS i) := h ⟨i, hi⟩
end Go.Proofs.YtidgfmjbfcgfiaaDoor
