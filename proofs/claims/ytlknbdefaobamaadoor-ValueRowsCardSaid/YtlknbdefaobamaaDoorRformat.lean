/-
  Format of the reference: the same text.
-/
import Derived.Test.YtlknbdefaobamaaDoorFormat
namespace Go.Proofs.YtlknbdefaobamaaDoor
open Go.RowKit

set_option maxHeartbeats 400000 in
theorem rformat_bad (k n : Int) (s : ByteArray) (w : World) (hs : s.size ≤ 9223372036854775807) (hv : validB k n s = false) :
    Calls Tryd.prog 14 #[.agg #[.int .i64 k, .int .i64 n, .string s]] w fun e w' => e = .returned (.string (fmtB k n s)) ∧ Below w.heap.size w w' := by
  have hf : fmtB k n s = ⟨#[63]⟩ := by unfold fmtB; rw [hv]; rfl
  have HF := Lib.hid hf
  have HV := Lib.hid hv
  clear hf hv
  go_enter Tryd.func14, Tryd.ntmps14
  go_wp2_with fail
  refine (rvalid_any k n s _ hs).mono ?_
  rintro e w' ⟨rfl, hb⟩
  rw [HV.out]
  go_wp2
  go_ret
  exact ⟨ret_str HF.out.symm, Below.of_alloc hb⟩

set_option maxHeartbeats 400000 in
theorem rformat_null (w : World) :
    Calls Tryd.prog 14 #[.agg #[.int .i64 0, .int .i64 0, .string ⟨#[]⟩]] w fun e w' => e = .returned (.string ⟨#[78, 85, 76, 76]⟩) ∧ Below w.heap.size w w' := by
  have HV := Lib.hid (show validB 0 0 ⟨#[]⟩ = true by simp [validB])
  go_enter Tryd.func14, Tryd.ntmps14
  go_wp2_with fail
  refine (rvalid_any 0 0 ⟨#[]⟩ _ (by decide)).mono ?_
  rintro e w' ⟨rfl, hb⟩
  rw [HV.out]
  obtain ⟨c0, c1, c2, -⟩ := box3 hb
  go_wp2
  go_ret
  exact ⟨rfl, Below.of_alloc hb⟩

set_option maxHeartbeats 400000 in
theorem rformat_num (n : Int) (w : World) (hE : Env w) (h1 : -9223372036854775808 ≤ n) (h2 : n ≤ 9223372036854775807) :
    Calls Tryd.prog 14 #[.agg #[.int .i64 1, .int .i64 n, .string ⟨#[]⟩]] w fun e w' => e = .returned (.string ⟨(Lib.itoa n).toArray⟩) ∧ Below w.heap.size w w' := by
  have HV := Lib.hid (show validB 1 n ⟨#[]⟩ = true by simp [validB])
  go_enter Tryd.func14, Tryd.ntmps14
  go_wp2_with fail
  refine (rvalid_any 1 n ⟨#[]⟩ _ (by decide)).mono ?_
  rintro e w' ⟨rfl, hb⟩
  rw [HV.out]
  obtain ⟨c0, c1, c2, -⟩ := box3 hb
  have hb' := Below.of_alloc hb
  have hp := (hE.low hb').pow
  clear HV hb hE
  go_wp2_with (go_at_call 31; refine (Tryd.strconv_FormatInt_10 n h1 h2 _ hp).mono ?_; rintro e w2 ⟨rfl, kk, os, rfl⟩)
  go_ret
  exact ⟨rfl, Below.next hb' (below_grow _ _ _)⟩

set_option maxHeartbeats 400000 in
theorem rformat_truth (n : Int) (w : World) (hE : Env w) (hn : n = 0 ∨ n = 1) :
    Calls Tryd.prog 14 #[.agg #[.int .i64 2, .int .i64 n, .string ⟨#[]⟩]] w fun e w' => e = .returned (.string (if n = 1 then ⟨#[84, 82, 85, 69]⟩ else ⟨#[70, 65, 76, 83, 69]⟩)) ∧ Below w.heap.size w w' := by
  rcases hn with rfl | rfl
  · have HV := Lib.hid (show validB 2 0 ⟨#[]⟩ = true by simp [validB])
    go_enter Tryd.func14, Tryd.ntmps14
    go_wp2_with fail
    refine (rvalid_any 2 0 ⟨#[]⟩ _ (by decide)).mono ?_
    rintro e w' ⟨rfl, hb⟩
    rw [HV.out]
    obtain ⟨c0, c1, c2, -⟩ := box3 hb
    have hb' := Below.of_alloc hb
    have hp := (hE.low hb').no
    go_wp2
    go_ret
    exact ⟨rfl, hb'⟩
  · have HV := Lib.hid (show validB 2 1 ⟨#[]⟩ = true by simp [validB])
    go_enter Tryd.func14, Tryd.ntmps14
    go_wp2_with fail
    refine (rvalid_any 2 1 ⟨#[]⟩ _ (by decide)).mono ?_
    rintro e w' ⟨rfl, hb⟩
    rw [HV.out]
    obtain ⟨c0, c1, c2, -⟩ := box3 hb
    have hb' := Below.of_alloc hb
    have hp := (hE.low hb').yes
    go_wp2
    go_ret
    exact ⟨rfl, hb'⟩

set_option maxHeartbeats 400000 in
theorem rformat_text (s : ByteArray) (w : World) (hE : Env w) (hv : textOK s.data.toList = true) :
    Calls Tryd.prog 14 #[.agg #[.int .i64 3, .int .i64 0, .string s]] w fun e w' => e = .returned (.string (quoteB s)) ∧ Below w.heap.size w w' := by
  have hl := textOK_len hv
  have hl' : s.size ≤ 64 := by simpa using hl
  have HV := Lib.hid (show validB 3 0 s = true by rw [validB_text, hv])
  clear hv hl
  go_enter Tryd.func14, Tryd.ntmps14
  go_wp2_with fail
  refine (rvalid_any 3 0 s _ (by omega)).mono ?_
  rintro e w' ⟨rfl, hb⟩
  rw [HV.out]
  obtain ⟨c0, c1, c2, -⟩ := box3 hb
  have hb' := Below.of_alloc hb
  obtain ⟨m, hm⟩ := (hE.low hb').maxlen
  clear HV hb hE
  have hq := quote_len s.data.toList (by simpa using hl')
  have hlen : s.size + Lib.countB s ⟨#[39]⟩ * (⟨#[39, 39]⟩ : ByteArray).size ≤ 140737488355328 := by
    have h1 := Lib.countB_le ⟨#[39]⟩ (by decide) s.size s (Nat.le_refl _)
    have h2 : (⟨#[39, 39]⟩ : ByteArray).size = 2 := rfl
    rw [h2]; omega
  go_wp2_with fail
  refine (Tryd.strings_ReplaceAll s ⟨#[39]⟩ ⟨#[39, 39]⟩ m _ (by omega) hm (by decide) hlen).mono ?_
  rintro e w2 ⟨rfl, hb2⟩
  go_wp2
  go_ret
  exact ⟨ret_str (by simp [quoteB]), Below.next hb' hb2⟩
theorem rformat_any (k n : Int) (s : ByteArray) (w : World) (hE : Env w) (hs : s.size ≤ 9223372036854775807) (h1 : -9223372036854775808 ≤ n) (h2 : n ≤ 9223372036854775807) :
    Calls Tryd.prog 14 #[.agg #[.int .i64 k, .int .i64 n, .string s]] w fun e w' => e = .returned (.string (fmtB k n s)) ∧ Below w.heap.size w w' := by
  cases hv : validB k n s
  · exact rformat_bad k n s w hs hv
  · rcases validB_cases hv with ⟨rfl, rfl, rfl⟩ | ⟨rfl, rfl⟩ | ⟨rfl, hn, rfl⟩ | ⟨rfl, rfl, ht⟩
    · rw [fmtB_null]; exact rformat_null w
    · rw [fmtB_num]; exact rformat_num n w hE h1 h2
    · rw [fmtB_truth n hn]; exact rformat_truth n w hE hn
    · rw [fmtB_text s ht]; exact rformat_text s w hE ht
end Go.Proofs.YtlknbdefaobamaaDoor
