/-
  Words, Number, Truth of the reference.
-/
import Derived.Test.YtlknbdefaobamaaDoorKnown
namespace Go.Proofs.YtlknbdefaobamaaDoor
open Go.RowKit

set_option maxHeartbeats 400000 in
theorem rwords_any (s : ByteArray) (w : World) (hs : s.size ≤ 9223372036854775807) :
    Calls Tryd.prog 16 #[.string s] w fun e w' => e = .returned (.tuple #[.agg #[.int .i64 (wordsN s), .int .i64 0, .string (wordsS s)], .bool (textOK s.data.toList)]) ∧ Below w.heap.size w w' := by
  have hv : validB 3 0 s = textOK s.data.toList := validB_text s
  have HV := Lib.hid hv
  clear hv
  cases ht : textOK s.data.toList
  · have HT := Lib.hid ht
    clear ht
    go_enter Tryd.func16, Tryd.ntmps16
    go_wp2_with fail
    refine (rvalid_any _ _ _ _ hs).mono ?_
    rintro e w' ⟨rfl, hb⟩
    rw [HV.out, HT.out]
    obtain ⟨⟨c0, c1, c2⟩, ⟨f0, f1, f2⟩, ⟨d0, d1, d2⟩, hz, hb'⟩ := boxes2 hb
    clear hb
    go_wp2
    refine bodyPost_ret (v := .tuple #[.agg #[.int .i64 0, .int .i64 0, .string ⟨#[]⟩], .bool false]) (by simp [results, Tryd.results16, go_sem, c0, c1, c2]) rfl ⟨?_, ?_⟩
    · simp [wordsN, wordsS, HT.out]
    · exact ((hb'.setCell (by exact Nat.le_refl _) _).setCell (by exact Nat.le_refl _) _).setCell (by exact Nat.le_refl _) _
  · have HT := Lib.hid ht
    clear ht
    go_enter Tryd.func16, Tryd.ntmps16
    go_wp2_with fail
    refine (rvalid_any _ _ _ _ hs).mono ?_
    rintro e w' ⟨rfl, hb⟩
    rw [HV.out, HT.out]
    obtain ⟨⟨c0, c1, c2⟩, ⟨f0, f1, f2⟩, ⟨d0, d1, d2⟩, hz, hb'⟩ := boxes2 hb
    clear hb
    go_wp2
    refine bodyPost_ret (v := .tuple #[.agg #[.int .i64 3, .int .i64 0, .string s], .bool true]) (by simp [results, Tryd.results16, go_sem, c0, c1, c2]) rfl ⟨?_, ?_⟩
    · simp [wordsN, wordsS, HT.out]
    · exact ((hb'.setCell (by exact Nat.le_refl _) _).setCell (by exact Nat.le_refl _) _).setCell (by exact Nat.le_refl _) _

set_option maxHeartbeats 400000 in
theorem rnum_any (n : Int) (w : World) :
    Calls Tryd.prog 18 #[.int .i64 n] w fun e w' => e = .returned (.agg #[.int .i64 1, .int .i64 n, .string ⟨#[]⟩]) ∧ Below w.heap.size w w' := by
  go_enter Tryd.func18, Tryd.ntmps18
  go_wp2
  exact bodyPost_ret (v := .agg #[.int .i64 1, .int .i64 n, .string ⟨#[]⟩]) (by simp [results, Tryd.results18, go_sem]) rfl ⟨rfl, (Below.refl _ _).alloc (Nat.le_refl _) _⟩

set_option maxHeartbeats 400000 in
theorem rtruth_any (b : Bool) (w : World) :
    Calls Tryd.prog 20 #[.bool b] w fun e w' => e = .returned (.agg #[.int .i64 2, .int .i64 (if b then 1 else 0), .string ⟨#[]⟩]) ∧ Below w.heap.size w w' := by
  cases b
  · go_enter Tryd.func20, Tryd.ntmps20
    go_wp2
    exact bodyPost_ret (v := .agg #[.int .i64 2, .int .i64 0, .string ⟨#[]⟩]) (by simp [results, Tryd.results20, go_sem]) rfl ⟨rfl, (Below.refl _ _).alloc (Nat.le_refl _) _⟩
  · go_enter Tryd.func20, Tryd.ntmps20
    go_wp2
    exact bodyPost_ret (v := .agg #[.int .i64 2, .int .i64 1, .string ⟨#[]⟩]) (by simp [results, Tryd.results20, go_sem]) rfl ⟨rfl, (Below.refl _ _).alloc (Nat.le_refl _) _⟩

end Go.Proofs.YtlknbdefaobamaaDoor
