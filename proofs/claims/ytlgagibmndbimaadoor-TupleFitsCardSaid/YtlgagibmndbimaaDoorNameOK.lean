/-
  ValidName, of the program and of the reference.
-/
import Derived.Test.YtlgagibmndbimaaDoorPlain
import Derived.Test.YtlgagibmndbimaaDoorEnv
import Derived.Laws.IdiomStrings
namespace Go.Proofs.YtlgagibmndbimaaDoor
open Go.RowKit

def ltrI (c : Int) : Bool := decide (97 ≤ c ∧ c ≤ 122)
def digI (c : Int) : Bool := decide (48 ≤ c ∧ c ≤ 57)
def ltrB (c : UInt8) : Bool := ltrI (c.toNat : Int)
def restB (c : UInt8) : Bool := ltrI (c.toNat : Int) || digI (c.toNat : Int) || decide ((c.toNat : Int) = 95)
/-- Is a text a name? -/
def nameOK (s : ByteArray) : Bool := decide (1 ≤ s.size ∧ s.size ≤ 12) && (s.data.toList.take 1).all ltrB && s.data.toList.all restB

theorem nameOK_len {s : ByteArray} (h : s.size < 1 ∨ 12 < s.size) : nameOK s = false := by
  unfold nameOK
  rw [decide_eq_false (by omega)]; rfl
theorem nameOK_bad {s : ByteArray} {k : Nat} (h : k < s.size) (hb : restB s[k] = false) : nameOK s = false := by
  unfold nameOK
  have : s.data.toList.all restB = false := by
    rw [List.all_eq_false]; exact ⟨s[k], by simp [ByteArray.getElem_eq_getElem_data], by simp [hb]⟩
  rw [this, Bool.and_false]
theorem nameOK_first {s : ByteArray} (h : 0 < s.size) (hb : ltrB s[0] = false) : nameOK s = false := by
  unfold nameOK
  have : (s.data.toList.take 1).all ltrB = false := by
    rw [all_take_succ _ 0 (by simpa using h)]
    show (true && ltrB s[0]) = false
    rw [hb]; rfl
  rw [this, Bool.and_false]; rfl
theorem nameOK_yes {s : ByteArray} (h : 1 ≤ s.size) (h2 : s.size ≤ 12) (hb : ltrB s[0] = true) (ha : (s.data.toList.take s.size).all restB = true) : nameOK s = true := by
  unfold nameOK
  rw [decide_eq_true ⟨h, h2⟩, all_take_succ _ 0 (by simp; omega)]
  have : s.data.toList.take s.size = s.data.toList := by rw [show s.size = s.data.toList.length by simp]; exact List.take_length
  rw [this] at ha
  rw [ha]
  show (true && (true && ltrB s[0]) && true) = true
  rw [hb]; rfl
theorem rest_succ {s : ByteArray} {k : Nat} (h : k < s.size) (ha : (s.data.toList.take k).all restB = true) (hb : restB s[k] = true) : (s.data.toList.take (k + 1)).all restB = true := by
  rw [all_take_succ _ _ (by simpa using h), ha]
  show (true && restB s[k]) = true
  rw [hb]; rfl
theorem restB_let {c : UInt8} (h : ltrI (c.toNat : Int) = true) : restB c = true := by unfold restB; rw [h]; rfl
theorem restB_dig {c : UInt8} (h : digI (c.toNat : Int) = true) : restB c = true := by unfold restB; rw [h]; cases ltrI _ <;> rfl
theorem restB_low {c : UInt8} (h : (c.toNat : Int) = 95) : restB c = true := by unfold restB; rw [decide_eq_true h]; simp
theorem restB_no {c : UInt8} (h : ltrI (c.toNat : Int) = false) (h2 : digI (c.toNat : Int) = false) (h3 : ¬ (c.toNat : Int) = 95) : restB c = false := by unfold restB; rw [h, h2, decide_eq_false h3]; rfl
theorem ltrI_not {c : Int} (h : c < 97 ∨ 122 < c) : ltrI c = false := by unfold ltrI; exact decide_eq_false (by omega)
theorem ltrI_yes {c : Int} (h : 97 ≤ c) (h2 : c ≤ 122) : ltrI c = true := by unfold ltrI; exact decide_eq_true (by omega)
theorem digI_not {c : Int} (h : c < 48 ∨ 57 < c) : digI c = false := by unfold digI; exact decide_eq_false (by omega)
theorem digI_yes {c : Int} (h : 48 ≤ c) (h2 : c ≤ 57) : digI c = true := by unfold digI; exact decide_eq_true (by omega)
theorem ret_b {a b : Bool} (h : a = b) : Ending.returned (.bool a) = .returned (.bool b) := by rw [h]


theorem below_bytes (w : World) (o : Obj) : Below w.heap.size w (w.drew.alloc o) := ((Below.refl w.heap.size w).alloc (Nat.le_refl _) o).drew
theorem bytes_cells (w : World) (s : ByteArray) (cap : Nat) (t : TypeId) (fr : Nat × Nat) : ∀ k (h : k < s.size), (w.drew.alloc (.cells (bytesRow s cap) t fr)).cell? ⟨w.heap.size, k, none⟩ = some (.int .u8 (s[k].toNat : Int)) := by
  intro k h
  show (w.drew.alloc _).cell? ⟨w.drew.heap.size, k, none⟩ = _
  rw [World.cell?_alloc_mark, bytesRow_at s _ k h]
  rfl

theorem first_succ {s : ByteArray} {k : Nat} (h : k < s.size) (hl : ltrI (s[k].toNat : Int) = true) (hf : 0 < k → ∃ h : 0 < s.size, ltrB s[0] = true) : 0 < k + 1 → ∃ h : 0 < s.size, ltrB s[0] = true := by
  intro _
  cases k with
  | zero => exact ⟨h, hl⟩
  | succ n => exact hf (by omega)
theorem nameOK_zero {s : ByteArray} {k : Nat} (h : k < s.size) (h0 : k = 0) (hl : ltrI (s[k].toNat : Int) = false) : nameOK s = false := by
  subst h0; exact nameOK_first h hl

end Go.Proofs.YtlgagibmndbimaaDoor
