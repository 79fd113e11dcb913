/-
  Different values of the tape are written differently. Plain.
-/
import Derived.Test.YtlknbdefaobamaaDoorVals
import Derived.Test.YtlknbdefaobamaaDoorFormat
namespace Go.Proofs.YtlknbdefaobamaaDoor
open Go

theorem digit_nat (d : Nat) (h : d < 10) : (UInt8.ofNat (48 + d)).toNat = 48 + d := by
  simp; omega
theorem dec_val (u : Nat) : (Lib.decDigits u).foldl (fun a c => a * 10 + (c.toNat - 48)) 0 = u := by
  induction u using Nat.strongRecOn with
  | _ u ih =>
    rw [Lib.decDigits]
    split
    · rename_i h
      simp only [List.foldl_cons, List.foldl_nil]
      rw [digit_nat u h]; omega
    · rename_i h
      rw [List.foldl_append, ih (u / 10) (by omega)]
      simp only [List.foldl_cons, List.foldl_nil]
      rw [digit_nat (u % 10) (by omega)]; omega
theorem dec_inj {a b : Nat} (h : Lib.decDigits a = Lib.decDigits b) : a = b := by rw [← dec_val a, ← dec_val b, h]
theorem dec_head (u : Nat) : ∃ c l, Lib.decDigits u = c :: l ∧ 48 ≤ c.toNat ∧ c.toNat ≤ 57 := by
  induction u using Nat.strongRecOn with
  | _ u ih =>
    rw [Lib.decDigits]
    split
    · rename_i h
      exact ⟨_, _, rfl, by rw [digit_nat u h]; omega, by rw [digit_nat u h]; omega⟩
    · obtain ⟨c, l, hc, h1, h2⟩ := ih (u / 10) (by omega)
      exact ⟨c, _, by rw [hc]; rfl, h1, h2⟩
theorem itoa_head (n : Int) : ∃ c l, Lib.itoa n = c :: l ∧ (c = 45 ∨ 48 ≤ c.toNat) ∧ c.toNat ≤ 57 := by
  unfold Lib.itoa
  split
  · exact ⟨_, _, rfl, Or.inl rfl, by decide⟩
  · obtain ⟨c, l, hc, h1, h2⟩ := dec_head n.toNat
    exact ⟨c, l, hc, Or.inr h1, h2⟩
theorem itoa_inj {a b : Int} (h : Lib.itoa a = Lib.itoa b) : a = b := by
  unfold Lib.itoa at h
  split at h <;> split at h
  · have := dec_inj (List.cons.inj h).2; omega
  · obtain ⟨c, l, hc, h1, -⟩ := dec_head b.toNat
    rw [hc] at h; have := (List.cons.inj h).1; rw [← this] at h1; exact absurd h1 (by decide)
  · obtain ⟨c, l, hc, h1, -⟩ := dec_head a.toNat
    rw [hc] at h; have := (List.cons.inj h).1; rw [this] at h1; exact absurd h1 (by decide)
  · have := dec_inj h; omega

theorem IsVal.valid {k n : Int} {s : ByteArray} (h : IsVal k n s) : validB k n s = true := by
  rcases h with ⟨rfl, rfl, rfl⟩ | ⟨rfl, -, rfl⟩ | ⟨rfl, h0, h1, rfl⟩ | ⟨rfl, rfl, hs⟩
  · simp [validB]
  · simp [validB]
  · have : n = 0 ∨ n = 1 := by omega
    simp [validB]; exact this
  · rw [validB_text]
    rcases hs with rfl | rfl | rfl | rfl | rfl | rfl <;> decide
theorem IsVal.size {k n : Int} {s : ByteArray} (h : IsVal k n s) : s.size ≤ 64 := by
  rcases h with ⟨-, -, rfl⟩ | ⟨-, -, rfl⟩ | ⟨-, -, -, rfl⟩ | ⟨-, -, hs⟩
  · decide
  · decide
  · decide
  · rcases hs with rfl | rfl | rfl | rfl | rfl | rfl <;> decide
theorem IsVal.range {k n : Int} {s : ByteArray} (h : IsVal k n s) : -9223372036854775808 ≤ n ∧ n ≤ 9223372036854775807 := by
  rcases h with ⟨-, rfl, -⟩ | ⟨-, hn, -⟩ | ⟨-, h0, h1, -⟩ | ⟨-, rfl, -⟩
  · decide
  · unfold IsNum at hn; omega
  · omega
  · decide

/-- The first byte of a text. -/
def firstB (s : ByteArray) : Option UInt8 := s.data.toList.head?
/-- Which kind a text shows by its first byte. -/
theorem fmt_first {k n : Int} {s : ByteArray} (h : IsVal k n s) :
    ∃ c, firstB (fmtB k n s) = some c ∧ ((k = 0 ∧ c = 78) ∨ (k = 1 ∧ (c = 45 ∨ 48 ≤ c.toNat) ∧ c.toNat ≤ 57) ∨ (k = 2 ∧ (c = 84 ∨ c = 70)) ∨ (k = 3 ∧ c = 39)) := by
  rcases h with ⟨rfl, rfl, rfl⟩ | ⟨rfl, hn, rfl⟩ | ⟨rfl, h0, h1, rfl⟩ | ⟨rfl, rfl, hs⟩
  · rw [fmtB_null]; exact ⟨_, rfl, Or.inl ⟨rfl, rfl⟩⟩
  · rw [fmtB_num]
    obtain ⟨c, l, hc, h1, h2⟩ := itoa_head n
    exact ⟨c, by simp [firstB, hc], Or.inr (Or.inl ⟨rfl, h1, h2⟩)⟩
  · rw [fmtB_truth n (by omega)]
    by_cases h : n = 1
    · rw [if_pos h]; exact ⟨_, rfl, Or.inr (Or.inr (Or.inl ⟨rfl, Or.inl rfl⟩))⟩
    · rw [if_neg h]; exact ⟨_, rfl, Or.inr (Or.inr (Or.inl ⟨rfl, Or.inr rfl⟩))⟩
  · rw [fmtB_text s (by rw [← validB_text]; exact IsVal.valid (Or.inr (Or.inr (Or.inr ⟨rfl, rfl, hs⟩))))]
    exact ⟨39, by simp [firstB, quoteB], Or.inr (Or.inr (Or.inr ⟨rfl, rfl⟩))⟩
theorem fmt_mark {k n : Int} {s : ByteArray} (h : IsVal k n s) : fmtB k n s ≠ ⟨#[63]⟩ := by
  intro he
  obtain ⟨c, hc, h2⟩ := fmt_first h
  rw [he] at hc
  have : c = 63 := (Option.some.inj hc).symm
  subst this
  rcases h2 with ⟨-, h⟩ | ⟨-, -, h⟩ | ⟨-, h⟩ | ⟨-, h⟩ <;> revert h <;> decide

def word (i : Nat) : ByteArray := match i with | 0 => ⟨#[]⟩ | 1 => ⟨#[97]⟩ | 2 => ⟨#[98]⟩ | 3 => ⟨#[105, 116, 39, 115]⟩ | 4 => ⟨#[90, 32, 122]⟩ | _ => ⟨#[126]⟩
theorem word_of {s : ByteArray} (h : IsWord s) : ∃ i, i < 6 ∧ s = word i := by
  rcases h with rfl | rfl | rfl | rfl | rfl | rfl
  · exact ⟨0, by decide, rfl⟩
  · exact ⟨1, by decide, rfl⟩
  · exact ⟨2, by decide, rfl⟩
  · exact ⟨3, by decide, rfl⟩
  · exact ⟨4, by decide, rfl⟩
  · exact ⟨5, by decide, rfl⟩
theorem quote_words : ∀ i, i < 6 → ∀ j, j < 6 → (quoteB (word i)).data.toList = (quoteB (word j)).data.toList → i = j := by decide +kernel
theorem quote_inj {s t : ByteArray} (hs : IsWord s) (ht : IsWord t) (h : quoteB s = quoteB t) : s = t := by
  obtain ⟨i, hi, rfl⟩ := word_of hs
  obtain ⟨j, hj, rfl⟩ := word_of ht
  rw [quote_words i hi j hj (by rw [h])]

theorem fmt_inj {k n : Int} {s : ByteArray} {k' n' : Int} {s' : ByteArray} (h : IsVal k n s) (h' : IsVal k' n' s') (he : fmtB k n s = fmtB k' n' s') : k = k' ∧ n = n' ∧ s = s' := by
  have hk : k = k' := by
    obtain ⟨c, hc, h2⟩ := fmt_first h
    obtain ⟨c', hc', h2'⟩ := fmt_first h'
    rw [he, hc'] at hc
    obtain rfl := Option.some.inj hc
    clear he hc' hc h h'
    rcases h2 with ⟨rfl, h⟩ | ⟨rfl, h, h3⟩ | ⟨rfl, h⟩ | ⟨rfl, h⟩ <;> rcases h2' with ⟨rfl, h'⟩ | ⟨rfl, h', h3'⟩ | ⟨rfl, h'⟩ | ⟨rfl, h'⟩ <;> first | rfl | (exfalso; simp_all; done) | (exfalso; rcases h with rfl | rfl <;> simp_all; done) | (exfalso; rcases h' with rfl | rfl <;> simp_all; done)
  subst hk
  rcases h with ⟨rfl, rfl, rfl⟩ | ⟨rfl, hn, rfl⟩ | ⟨rfl, h0, h1, rfl⟩ | ⟨rfl, rfl, hs⟩ <;> rcases h' with ⟨hk, hn', hs'⟩ | ⟨hk, hn', hs'⟩ | ⟨hk, h0', h1', hs'⟩ | ⟨hk, hn', hs'⟩ <;> try (exact absurd hk (by decide))
  · exact ⟨rfl, hn'.symm, hs'.symm⟩
  · subst hs'
    rw [fmtB_num, fmtB_num] at he
    exact ⟨rfl, itoa_inj (by simpa using he), rfl⟩
  · subst hs'
    rw [fmtB_truth n (by omega), fmtB_truth n' (by omega)] at he
    refine ⟨rfl, ?_, rfl⟩
    by_cases a : n = 1 <;> by_cases b : n' = 1 <;> simp [a, b] at he <;> omega
  · subst hn'
    have hv : ∀ t, IsWord t → textOK t.data.toList = true := fun t ht => by rw [← validB_text]; exact IsVal.valid (Or.inr (Or.inr (Or.inr ⟨rfl, rfl, ht⟩)))
    rw [fmtB_text s (hv s hs), fmtB_text s' (hv s' hs')] at he
    exact ⟨rfl, rfl, quote_inj hs hs' he⟩
end Go.Proofs.YtlknbdefaobamaaDoor
