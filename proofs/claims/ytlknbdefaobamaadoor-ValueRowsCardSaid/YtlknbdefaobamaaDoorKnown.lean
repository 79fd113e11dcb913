/-
  Words, Number, Truth, and the statements' sanity check.
-/
import Derived.Test.YtlknbdefaobamaaDoorRformat
import Derived.Test.YtlknbdefaobamaaDoorCompare
import Derived.Deep.RegionHeld3
namespace Go.Proofs.YtlknbdefaobamaaDoor
open Go.RowKit

/-- What Words gives. -/
def wordsN (s : ByteArray) : Int := if textOK s.data.toList then 3 else 0
def wordsS (s : ByteArray) : ByteArray := if textOK s.data.toList then s else ⟨#[]⟩

set_option maxHeartbeats 400000 in
theorem words_any (s : ByteArray) (w : World) (hs : s.size ≤ 9223372036854775807) :
    Calls Tryd.prog 15 #[.string s] w fun e w' => e = .returned (.tuple #[.agg #[.int .i64 (wordsN s), .int .i64 0, .string (wordsS s)], .bool (textOK s.data.toList)]) ∧ Below w.heap.size w w' := by
  have hv : validB 3 0 s = textOK s.data.toList := validB_text s
  have HV := Lib.hid hv
  clear hv
  cases ht : textOK s.data.toList
  · have HT := Lib.hid ht
    clear ht
    go_enter Tryd.func15, Tryd.ntmps15
    go_wp2_with fail
    refine (valid_any _ _ _ _ hs).mono ?_
    rintro e w' ⟨rfl, hb⟩
    rw [HV.out, HT.out]
    obtain ⟨⟨c0, c1, c2⟩, ⟨f0, f1, f2⟩, ⟨d0, d1, d2⟩, hz, hb'⟩ := boxes2 hb
    clear hb
    go_wp2
    refine bodyPost_ret (v := .tuple #[.agg #[.int .i64 0, .int .i64 0, .string ⟨#[]⟩], .bool false]) (by simp [results, Tryd.results15, go_sem, c0, c1, c2]) rfl ⟨?_, ?_⟩
    · simp [wordsN, wordsS, HT.out]
    · exact ((hb'.setCell (by exact Nat.le_refl _) _).setCell (by exact Nat.le_refl _) _).setCell (by exact Nat.le_refl _) _
  · have HT := Lib.hid ht
    clear ht
    go_enter Tryd.func15, Tryd.ntmps15
    go_wp2_with fail
    refine (valid_any _ _ _ _ hs).mono ?_
    rintro e w' ⟨rfl, hb⟩
    rw [HV.out, HT.out]
    obtain ⟨⟨c0, c1, c2⟩, ⟨f0, f1, f2⟩, ⟨d0, d1, d2⟩, hz, hb'⟩ := boxes2 hb
    clear hb
    go_wp2
    refine bodyPost_ret (v := .tuple #[.agg #[.int .i64 3, .int .i64 0, .string s], .bool true]) (by simp [results, Tryd.results15, go_sem, c0, c1, c2]) rfl ⟨?_, ?_⟩
    · simp [wordsN, wordsS, HT.out]
    · exact ((hb'.setCell (by exact Nat.le_refl _) _).setCell (by exact Nat.le_refl _) _).setCell (by exact Nat.le_refl _) _

set_option maxHeartbeats 400000 in
theorem num_any (n : Int) (w : World) :
    Calls Tryd.prog 17 #[.int .i64 n] w fun e w' => e = .returned (.agg #[.int .i64 1, .int .i64 n, .string ⟨#[]⟩]) ∧ Below w.heap.size w w' := by
  go_enter Tryd.func17, Tryd.ntmps17
  go_wp2
  exact bodyPost_ret (v := .agg #[.int .i64 1, .int .i64 n, .string ⟨#[]⟩]) (by simp [results, Tryd.results17, go_sem]) rfl ⟨rfl, (Below.refl _ _).alloc (Nat.le_refl _) _⟩

set_option maxHeartbeats 400000 in
theorem truth_any (b : Bool) (w : World) :
    Calls Tryd.prog 19 #[.bool b] w fun e w' => e = .returned (.agg #[.int .i64 2, .int .i64 (if b then 1 else 0), .string ⟨#[]⟩]) ∧ Below w.heap.size w w' := by
  cases b
  · go_enter Tryd.func19, Tryd.ntmps19
    go_wp2
    exact bodyPost_ret (v := .agg #[.int .i64 2, .int .i64 0, .string ⟨#[]⟩]) (by simp [results, Tryd.results19, go_sem]) rfl ⟨rfl, ((Below.refl _ _).alloc (Nat.le_refl _) _).alloc (by simp) _⟩
  · go_enter Tryd.func19, Tryd.ntmps19
    go_wp2
    exact bodyPost_ret (v := .agg #[.int .i64 2, .int .i64 1, .string ⟨#[]⟩]) (by simp [results, Tryd.results19, go_sem]) rfl ⟨rfl, ((Below.refl _ _).alloc (Nat.le_refl _) _).alloc (by simp) _⟩

def itS : ByteArray := ⟨#[105, 116, 39, 115]⟩
theorem it_ok : textOK itS.data.toList = true := by decide
theorem it_fmt : fmtB 3 0 itS = ⟨#[39, 105, 116, 39, 39, 115, 39]⟩ := by
  rw [fmtB_text _ it_ok]
  decide +kernel
theorem five_true : cmpV 1 5 ⟨#[]⟩ 2 1 ⟨#[]⟩ = -1 := by decide

set_option maxHeartbeats 1000000 in
theorem known_any (w : World) (hE : Env w) :
    Calls Tryd.prog 21 #[] w fun e w' => e = .returned (.bool true) ∧ Below w.heap.size w w' := by
  have HF := Lib.hid it_fmt
  have HC := Lib.hid five_true
  go_enter Tryd.func21, Tryd.ntmps21
  go_wp2_with fail
  refine (words_any itS _ (by decide)).mono ?_
  rintro e w' ⟨rfl, hb⟩
  rw [show textOK itS.data.toList = true from it_ok, show wordsN itS = 3 by decide, show wordsS itS = itS by decide]
  have hE1 := hE.low hb
  go_wp2_with fail
  refine (format_any 3 0 itS _ (hE1.alloc _) (by decide) (by decide) (by decide)).mono ?_
  rintro e w2 ⟨rfl, hb2⟩
  rw [HF.out]
  go_wp2_with fail
  refine (num_any 5 _).mono ?_
  rintro e w3 ⟨rfl, hb3⟩
  go_wp2_with fail
  refine (truth_any true _).mono ?_
  rintro e w4 ⟨rfl, hb4⟩
  rw [if_pos rfl]
  go_wp2_with fail
  refine (compare_any 1 5 ⟨#[]⟩ 2 1 ⟨#[]⟩ _).mono ?_
  rintro e w5 ⟨rfl, hb5⟩
  rw [HC.out]
  go_wp2
  go_ret
  exact ⟨rfl, Below.next (Below.next (Below.next (Below.next hb (Below.of_alloc hb2)) hb3) hb4) hb5⟩
end Go.Proofs.YtlknbdefaobamaaDoor
