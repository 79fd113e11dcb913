/-
  Format, of the program and of the reference.
-/
import Derived.Test.YtlknbdefaobamaaDoorEnv
import Derived.Test.YtlknbdefaobamaaDoorValid
import Derived.Lib.CountLaws
import Derived.Lib.SplitLaws
namespace Go.Proofs.YtlknbdefaobamaaDoor
open Go.RowKit

/-- The text of a value: '?' if it is not valid. -/
def quoteB (s : ByteArray) : ByteArray := ⟨#[39]⟩ ++ ⟨(Lib.replaceAll s.data.toList [39] [39, 39]).toArray⟩ ++ ⟨#[39]⟩
def fmtB (k n : Int) (s : ByteArray) : ByteArray :=
  if validB k n s then (if k = 1 then ⟨(Lib.itoa n).toArray⟩ else if k = 2 then (if n = 1 then ⟨#[84, 82, 85, 69]⟩ else ⟨#[70, 65, 76, 83, 69]⟩) else if k = 3 then quoteB s else ⟨#[78, 85, 76, 76]⟩) else ⟨#[63]⟩

theorem replaceK_len (old new : List UInt8) (k : Nat) (s : List UInt8) : (Lib.replaceK old new k s).length ≤ s.length + k * new.length := by
  induction k generalizing s with
  | zero => simp [Lib.replaceK]
  | succ k ih =>
    rw [Lib.replaceK]
    split
    · omega
    · have := ih (s.drop ((Lib.index s old).toNat + old.length))
      simp only [List.length_append, List.length_take, List.length_drop] at this ⊢
      rw [Nat.succ_mul]
      omega
theorem quote_len (s : List UInt8) (h : s.length ≤ 64) : (Lib.replaceAll s [39] [39, 39]).length ≤ 300 := by
  unfold Lib.replaceAll Lib.replace
  split
  · omega
  · have h1 := replaceK_len [39] [39, 39] (Lib.replaceNum s [39] (-1)) s
    have h2 : Lib.replaceNum s [39] (-1) = Lib.count s [39] := by unfold Lib.replaceNum; rw [if_pos (Or.inl (by decide))]
    have h3 := Lib.count_le s [39]
    rw [h2] at h1
    simp only [List.length_cons, List.length_nil] at h1
    rw [h2]
    omega

theorem ret_str {a b : ByteArray} (h : a = b) : Ending.returned (.string a) = .returned (.string b) := by rw [h]

set_option maxHeartbeats 400000 in
theorem format_bad (k n : Int) (s : ByteArray) (w : World) (hs : s.size ≤ 9223372036854775807) (hv : validB k n s = false) :
    Calls Tryd.prog 13 #[.agg #[.int .i64 k, .int .i64 n, .string s]] w fun e w' => e = .returned (.string (fmtB k n s)) ∧ Below w.heap.size w w' := by
  have hf : fmtB k n s = ⟨#[63]⟩ := by unfold fmtB; rw [hv]; rfl
  have HF := Lib.hid hf
  have HV := Lib.hid hv
  clear hf hv
  go_enter Tryd.func13, Tryd.ntmps13
  go_wp2_with fail
  refine (valid_any k n s _ hs).mono ?_
  rintro e w' ⟨rfl, hb⟩
  rw [HV.out]
  go_wp2
  go_ret
  exact ⟨ret_str HF.out.symm, Below.of_alloc hb⟩

set_option maxHeartbeats 400000 in
theorem format_null (w : World) :
    Calls Tryd.prog 13 #[.agg #[.int .i64 0, .int .i64 0, .string ⟨#[]⟩]] w fun e w' => e = .returned (.string ⟨#[78, 85, 76, 76]⟩) ∧ Below w.heap.size w w' := by
  have HV := Lib.hid (show validB 0 0 ⟨#[]⟩ = true by simp [validB])
  go_enter Tryd.func13, Tryd.ntmps13
  go_wp2_with fail
  refine (valid_any 0 0 ⟨#[]⟩ _ (by decide)).mono ?_
  rintro e w' ⟨rfl, hb⟩
  rw [HV.out]
  obtain ⟨c0, c1, c2, -⟩ := box3 hb
  go_wp2
  go_ret
  exact ⟨rfl, Below.of_alloc hb⟩

set_option maxHeartbeats 400000 in
theorem format_num (n : Int) (w : World) (hE : Env w) (h1 : -9223372036854775808 ≤ n) (h2 : n ≤ 9223372036854775807) :
    Calls Tryd.prog 13 #[.agg #[.int .i64 1, .int .i64 n, .string ⟨#[]⟩]] w fun e w' => e = .returned (.string ⟨(Lib.itoa n).toArray⟩) ∧ Below w.heap.size w w' := by
  have HV := Lib.hid (show validB 1 n ⟨#[]⟩ = true by simp [validB])
  go_enter Tryd.func13, Tryd.ntmps13
  go_wp2_with fail
  refine (valid_any 1 n ⟨#[]⟩ _ (by decide)).mono ?_
  rintro e w' ⟨rfl, hb⟩
  rw [HV.out]
  obtain ⟨c0, c1, c2, -⟩ := box3 hb
  have hb' := Below.of_alloc hb
  have hp := (hE.low hb').pow
  clear HV hb hE
  go_wp2_with (go_at_call 31; refine (Tryd.strconv_FormatInt_10 n h1 h2 _ hp).mono ?_; rintro e w2 ⟨rfl, kk, os, rfl⟩)
  go_ret
  exact ⟨rfl, Below.next hb' (below_grow _ _ _)⟩

set_option maxHeartbeats 400000 in
theorem format_truth (n : Int) (w : World) (hE : Env w) (hn : n = 0 ∨ n = 1) :
    Calls Tryd.prog 13 #[.agg #[.int .i64 2, .int .i64 n, .string ⟨#[]⟩]] w fun e w' => e = .returned (.string (if n = 1 then ⟨#[84, 82, 85, 69]⟩ else ⟨#[70, 65, 76, 83, 69]⟩)) ∧ Below w.heap.size w w' := by
  rcases hn with rfl | rfl
  · have HV := Lib.hid (show validB 2 0 ⟨#[]⟩ = true by simp [validB])
    go_enter Tryd.func13, Tryd.ntmps13
    go_wp2_with fail
    refine (valid_any 2 0 ⟨#[]⟩ _ (by decide)).mono ?_
    rintro e w' ⟨rfl, hb⟩
    rw [HV.out]
    obtain ⟨c0, c1, c2, -⟩ := box3 hb
    have hb' := Below.of_alloc hb
    have hp := (hE.low hb').no
    go_wp2
    go_ret
    exact ⟨rfl, hb'⟩
  · have HV := Lib.hid (show validB 2 1 ⟨#[]⟩ = true by simp [validB])
    go_enter Tryd.func13, Tryd.ntmps13
    go_wp2_with fail
    refine (valid_any 2 1 ⟨#[]⟩ _ (by decide)).mono ?_
    rintro e w' ⟨rfl, hb⟩
    rw [HV.out]
    obtain ⟨c0, c1, c2, -⟩ := box3 hb
    have hb' := Below.of_alloc hb
    have hp := (hE.low hb').yes
    go_wp2
    go_ret
    exact ⟨rfl, hb'⟩

set_option maxHeartbeats 400000 in
theorem format_text (s : ByteArray) (w : World) (hE : Env w) (hv : textOK s.data.toList = true) :
    Calls Tryd.prog 13 #[.agg #[.int .i64 3, .int .i64 0, .string s]] w fun e w' => e = .returned (.string (quoteB s)) ∧ Below w.heap.size w w' := by
  have hl := textOK_len hv
  have hl' : s.size ≤ 64 := by simpa using hl
  have HV := Lib.hid (show validB 3 0 s = true by rw [validB_text, hv])
  clear hv hl
  go_enter Tryd.func13, Tryd.ntmps13
  go_wp2_with fail
  refine (valid_any 3 0 s _ (by omega)).mono ?_
  rintro e w' ⟨rfl, hb⟩
  rw [HV.out]
  obtain ⟨c0, c1, c2, -⟩ := box3 hb
  have hb' := Below.of_alloc hb
  obtain ⟨m, hm⟩ := (hE.low hb').maxlen
  clear HV hb hE
  have hq := quote_len s.data.toList (by simpa using hl')
  have hlen : s.size + Lib.countB s ⟨#[39]⟩ * (⟨#[39, 39]⟩ : ByteArray).size ≤ 140737488355328 := by
    have h1 := Lib.countB_le ⟨#[39]⟩ (by decide) s.size s (Nat.le_refl _)
    have h2 : (⟨#[39, 39]⟩ : ByteArray).size = 2 := rfl
    rw [h2]; omega
  go_wp2_with fail
  refine (Tryd.strings_ReplaceAll s ⟨#[39]⟩ ⟨#[39, 39]⟩ m _ (by omega) hm (by decide) hlen).mono ?_
  rintro e w2 ⟨rfl, hb2⟩
  go_wp2
  go_ret
  exact ⟨ret_str (by simp [quoteB]), Below.next hb' hb2⟩

theorem validB_cases {k n : Int} {s : ByteArray} (h : validB k n s = true) :
    (k = 0 ∧ n = 0 ∧ s = ⟨#[]⟩) ∨ (k = 1 ∧ s = ⟨#[]⟩) ∨ (k = 2 ∧ (n = 0 ∨ n = 1) ∧ s = ⟨#[]⟩) ∨ (k = 3 ∧ n = 0 ∧ textOK s.data.toList = true) := by
  have he : s.toList.isEmpty = true → s = ⟨#[]⟩ := fun h => by
    rw [ByteArray.toList_eq] at h
    exact WideShapes.bytes_inj (by simpa using h)
  unfold validB at h
  split at h
  · simp only [Bool.and_eq_true, beq_iff_eq] at h; exact Or.inl ⟨by assumption, h.1, he h.2⟩
  · split at h
    · exact Or.inr (Or.inl ⟨by assumption, he h⟩)
    · split at h
      · simp only [Bool.and_eq_true, Bool.or_eq_true, beq_iff_eq] at h; exact Or.inr (Or.inr (Or.inl ⟨by assumption, h.1, he h.2⟩))
      · split at h
        · simp only [Bool.and_eq_true, beq_iff_eq] at h; exact Or.inr (Or.inr (Or.inr ⟨by assumption, h.1, h.2⟩))
        · cases h
theorem fmtB_null : fmtB 0 0 ⟨#[]⟩ = ⟨#[78, 85, 76, 76]⟩ := by unfold fmtB; rw [show validB 0 0 ⟨#[]⟩ = true by simp [validB]]; rfl
theorem fmtB_num (n : Int) : fmtB 1 n ⟨#[]⟩ = ⟨(Lib.itoa n).toArray⟩ := by unfold fmtB; rw [show validB 1 n ⟨#[]⟩ = true by simp [validB]]; rfl
theorem fmtB_truth (n : Int) (h : n = 0 ∨ n = 1) : fmtB 2 n ⟨#[]⟩ = if n = 1 then ⟨#[84, 82, 85, 69]⟩ else ⟨#[70, 65, 76, 83, 69]⟩ := by
  unfold fmtB; rw [show validB 2 n ⟨#[]⟩ = true by simp [validB]; exact h]; rfl
theorem fmtB_text (s : ByteArray) (h : textOK s.data.toList = true) : fmtB 3 0 s = quoteB s := by unfold fmtB; rw [show validB 3 0 s = true by rw [validB_text, h]]; rfl

theorem format_any (k n : Int) (s : ByteArray) (w : World) (hE : Env w) (hs : s.size ≤ 9223372036854775807) (h1 : -9223372036854775808 ≤ n) (h2 : n ≤ 9223372036854775807) :
    Calls Tryd.prog 13 #[.agg #[.int .i64 k, .int .i64 n, .string s]] w fun e w' => e = .returned (.string (fmtB k n s)) ∧ Below w.heap.size w w' := by
  cases hv : validB k n s
  · exact format_bad k n s w hs hv
  · rcases validB_cases hv with ⟨rfl, rfl, rfl⟩ | ⟨rfl, rfl⟩ | ⟨rfl, hn, rfl⟩ | ⟨rfl, rfl, ht⟩
    · rw [fmtB_null]; exact format_null w
    · rw [fmtB_num]; exact format_num n w hE h1 h2
    · rw [fmtB_truth n hn]; exact format_truth n w hE hn
    · rw [fmtB_text s ht]; exact format_text s w hE ht
end Go.Proofs.YtlknbdefaobamaaDoor
