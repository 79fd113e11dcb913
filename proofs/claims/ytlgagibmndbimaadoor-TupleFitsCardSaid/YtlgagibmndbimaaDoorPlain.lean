/-
  THE PLAIN FUNCTIONS: what Valid, Format, Compare compute, on kinds, numbers and bytes. No program.
-/
import Derived.Lib.Strings
import Derived.Below
import Derived.Lib.Itoa
import Derived.Lib.Replace
import Derived.Lib.Bytealg
import Derived.Lib.Small
namespace Go.Proofs.YtlgagibmndbimaaDoor
open Go

def byteOK (c : UInt8) : Bool := 32 ≤ c && c ≤ 126
def textOK (l : List UInt8) : Bool := decide (l.length ≤ 64) && l.all byteOK
/-- Is a value valid? -/
def validB (k n : Int) (s : ByteArray) : Bool :=
  if k = 0 then n == 0 && s.toList.isEmpty else if k = 1 then s.toList.isEmpty else if k = 2 then (n == 0 || n == 1) && s.toList.isEmpty else if k = 3 then n == 0 && textOK s.data.toList else false
theorem textOK_len {l : List UInt8} (h : textOK l = true) : l.length ≤ 64 := by
  unfold textOK at h; simp at h; exact h.1
theorem textOK_long {l : List UInt8} (h : 64 < l.length) : textOK l = false := by
  unfold textOK; simp; intro h1; omega
theorem all_take_succ (l : List UInt8) (k : Nat) (h : k < l.length) (p : UInt8 → Bool) : (l.take (k + 1)).all p = ((l.take k).all p && p l[k]) := by
  rw [List.take_succ_eq_append_getElem h, List.all_append]; simp
theorem textOK_bad {l : List UInt8} {k : Nat} (h : k < l.length) (hb : byteOK l[k] = false) : textOK l = false := by
  unfold textOK
  have : l.all byteOK = false := by
    rw [List.all_eq_false]; exact ⟨l[k], List.getElem_mem h, by simp [hb]⟩
  simp [this]
theorem textOK_all {l : List UInt8} (hl : l.length ≤ 64) (h : (l.take l.length).all byteOK = true) : textOK l = true := by
  unfold textOK; rw [List.take_length] at h; simp [hl, h]
theorem byteOK_iff (c : UInt8) : byteOK c = true ↔ 32 ≤ (c.toNat : Int) ∧ (c.toNat : Int) ≤ 126 := by
  unfold byteOK; simp [UInt8.le_iff_toNat_le]; omega
theorem byteOK_false {c : UInt8} (h : (c.toNat : Int) < 32 ∨ 126 < (c.toNat : Int)) : byteOK c = false := by
  rw [Bool.eq_false_iff]; intro hc; have := (byteOK_iff c).1 hc; omega
theorem byteOK_true {c : UInt8} (h : 32 ≤ (c.toNat : Int)) (h2 : (c.toNat : Int) ≤ 126) : byteOK c = true := (byteOK_iff c).2 ⟨h, h2⟩
theorem no_bytes : (⟨#[]⟩ : ByteArray).toList = [] := by
  unfold ByteArray.toList ByteArray.toList.loop; rfl
theorem textOK_at {s : ByteArray} {k : Nat} (h : k < s.size) (hb : (s[k].toNat : Int) < 32 ∨ 126 < (s[k].toNat : Int)) : textOK s.data.toList = false :=
  textOK_bad (k := k) (by simpa using h) (byteOK_false (show ((s.data.toList[k]'(by simpa using h)).toNat : Int) < 32 ∨ _ from hb))
theorem allOK_succ {s : ByteArray} {k : Nat} (h : k < s.size) (ha : (s.data.toList.take k).all byteOK = true) (h1 : 32 ≤ (s[k].toNat : Int)) (h2 : (s[k].toNat : Int) ≤ 126) : (s.data.toList.take (k + 1)).all byteOK = true := by
  rw [all_take_succ _ _ (by simpa using h), ha]
  show (true && byteOK s[k]) = true
  rw [byteOK_true h1 h2]; rfl
theorem textOK_end {s : ByteArray} {k : Nat} (hk : k ≤ s.size) (h : ¬ k < s.size) (hl : s.size ≤ 64) (ha : (s.data.toList.take k).all byteOK = true) : textOK s.data.toList = true := by
  obtain rfl : k = s.size := by omega
  exact textOK_all (by simpa using hl) (by simpa using ha)
end Go.Proofs.YtlgagibmndbimaaDoor
