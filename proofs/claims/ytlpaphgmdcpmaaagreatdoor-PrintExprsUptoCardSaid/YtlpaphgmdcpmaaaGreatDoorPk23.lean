/-
  Several texts in one.
-/
import Derived.Test.YtlpaphgmdcpmaaaGreatDoorPk19
import Derived.Test.YtlpaphgmdcpmaaaGreatDoorPk22
import Derived.Lib.CountLaws
import Derived.Lib.Replace
import Derived.Test.YtlpaphgmdcpmaaaGreatDoorPk18
/-
  Valid values are written differently: also texts of any kind. Plain.
-/
namespace Go.Proofs.YtlpaphgmdcpmaaaGreatDoor
set_option maxRecDepth 100000
open Go

theorem ba_ext {s t : ByteArray} (h : s.data.toList = t.data.toList) : s = t := by
  cases s with
  | mk a =>
    cases t with
    | mk b => exact congrArg _ (Array.ext' h)
theorem ba_of_eqT {s t : ByteArray} (h : eqT s t = true) : s = t := by
  have h := eqT_eq h
  rw [ByteArray.toList_eq, ByteArray.toList_eq] at h
  exact ba_ext h
def dbl1 : List UInt8 → List UInt8
  | [] => []
  | c :: r => if c = 39 then 39 :: 39 :: dbl1 r else c :: dbl1 r
theorem index1_ne {c : UInt8} (h : c ≠ 39) (l : List UInt8) : Lib.index (c :: l) [39] = if Lib.index l [39] == -1 then -1 else Lib.index l [39] + 1 := by
  rw [Lib.index, if_neg]
  simp [List.isPrefixOf]
  intro e; exact absurd e.symm h
theorem index1_hit (r : List UInt8) : Lib.index (39 :: r) [39] = (0 : Nat) := by
  rw [Lib.index, if_pos (by simp [List.isPrefixOf])]; rfl
theorem rep1_eq (s : List UInt8) : Lib.replaceAll s [39] [39, 39] = Lib.replaceK [39] [39, 39] (Lib.count s [39]) s := by
  unfold Lib.replaceAll Lib.replace
  rw [if_neg (by decide)]
  unfold Lib.replaceNum
  rw [if_pos (Or.inl (by decide))]
theorem rep1_nil : Lib.replaceAll [] [39] [39, 39] = [] := by decide
theorem rep1_hit (r : List UInt8) : Lib.replaceAll (39 :: r) [39] [39, 39] = 39 :: 39 :: Lib.replaceAll r [39] [39, 39] := by
  rw [rep1_eq, rep1_eq, Lib.count_hit (by decide) (index1_hit r), Nat.add_comm 1, Lib.replaceK_hit _ _ _ _ 0 (index1_hit r)]
  rfl
theorem rep1_ne {c : UInt8} (h : c ≠ 39) (l : List UInt8) : Lib.replaceAll (c :: l) [39] [39, 39] = c :: Lib.replaceAll l [39] [39, 39] := by
  rw [rep1_eq, rep1_eq]
  have hi := index1_ne h l
  by_cases hm : Lib.index l [39] = -1
  · rw [hm] at hi
    rw [Lib.count_miss hm, Lib.count_miss (by simpa using hi)]
    rfl
  · obtain ⟨i, he⟩ : ∃ i : Nat, Lib.index l [39] = i := ⟨(Lib.index l [39]).toNat, by have := Lib.index_ge l [39]; omega⟩
    have hb : (Lib.index l [39] == -1) = false := beq_eq_false_iff_ne.2 hm
    rw [hb, he] at hi
    have hi' : Lib.index (c :: l) [39] = ((i + 1 : Nat) : Int) := by rw [hi]; rfl
    rw [Lib.count_hit (by decide) hi', Lib.count_hit (by decide) he, Nat.add_comm 1, Nat.add_comm 1, Lib.replaceK_hit _ _ _ _ _ hi', Lib.replaceK_hit _ _ _ _ _ he, show i + 1 + ([39] : List UInt8).length = (i + ([39] : List UInt8).length) + 1 by omega, List.drop_succ_cons, List.take_succ_cons]
    rfl
theorem rep1_dbl (l : List UInt8) : Lib.replaceAll l [39] [39, 39] = dbl1 l := by
  induction l with
  | nil => exact rep1_nil
  | cons c r ih =>
    unfold dbl1
    by_cases h : c = 39
    · subst h; rw [if_pos rfl, rep1_hit, ih]
    · rw [if_neg h, rep1_ne h, ih]
theorem quote_list (s : ByteArray) : (quoteB s).data.toList = 39 :: (dbl1 s.data.toList ++ [39]) := by
  unfold quoteB
  rw [rep1_dbl]
  simp [ByteArray.data_append]
/-- Behind a quoted text no quote comes: it ends where it ends. -/
theorem dbl_cut : ∀ (a b x y : List UInt8), x.head? ≠ some 39 → y.head? ≠ some 39 → dbl1 a ++ 39 :: x = dbl1 b ++ 39 :: y → a = b ∧ x = y
  | [], [], x, y, _, _, h => ⟨rfl, (List.cons.inj h).2⟩
  | [], d :: b, x, y, hx, _, h => by
    exfalso
    unfold dbl1 at h
    split at h
    · have h2 := (List.cons.inj h).2
      exact hx (by rw [h2]; rfl)
    · rename_i hd
      exact hd (List.cons.inj h).1.symm
  | c :: a, [], x, y, _, hy, h => by
    exfalso
    have h : dbl1 (c :: a) ++ 39 :: x = 39 :: y := h
    rw [dbl1] at h
    split at h
    · have h2 := (List.cons.inj h).2
      exact hy (by
        have : y = 39 :: (dbl1 a ++ 39 :: x) := h2.symm
        rw [this]; rfl)
    · rename_i hd
      exact hd (List.cons.inj h).1
  | c :: a, d :: b, x, y, hx, hy, h => by
    rw [dbl1, dbl1] at h
    by_cases hc : c = 39
    · by_cases hd : d = 39
      · rw [if_pos hc, if_pos hd] at h
        have h2 := (List.cons.inj (List.cons.inj h).2).2
        obtain ⟨h3, h4⟩ := dbl_cut a b x y hx hy h2
        exact ⟨by rw [hc, hd, h3], h4⟩
      · rw [if_pos hc, if_neg hd] at h
        exact absurd (List.cons.inj h).1.symm hd
    · by_cases hd : d = 39
      · rw [if_neg hc, if_pos hd] at h
        exact absurd (List.cons.inj h).1 hc
      · rw [if_neg hc, if_neg hd] at h
        obtain ⟨h1, h2⟩ := List.cons.inj h
        obtain ⟨h3, h4⟩ := dbl_cut a b x y hx hy h2
        exact ⟨by rw [h1, h3], h4⟩
theorem quoteB_inj {s t : ByteArray} (h : quoteB s = quoteB t) : s = t := by
  have h1 : (quoteB s).data.toList = (quoteB t).data.toList := by rw [h]
  rw [quote_list, quote_list] at h1
  exact ba_ext (dbl_cut _ _ [] [] (by simp) (by simp) (List.cons.inj h1).2).1
/-- The first byte of a written value. -/
theorem fmt_head {k n : Int} {s : ByteArray} (h : validB k n s = true) :
    ∃ c l, (fmtB k n s).data.toList = c :: l ∧ ((k = 0 ∧ c = 78) ∨ (k = 1 ∧ (c = 45 ∨ 48 ≤ c.toNat) ∧ c.toNat ≤ 57) ∨ (k = 2 ∧ (c = 84 ∨ c = 70)) ∨ (k = 3 ∧ c = 39)) := by
  rcases validB_cases h with ⟨rfl, rfl, rfl⟩ | ⟨rfl, rfl⟩ | ⟨rfl, hn, rfl⟩ | ⟨rfl, rfl, ht⟩
  · rw [fmtB_null]; exact ⟨_, _, rfl, .inl ⟨rfl, rfl⟩⟩
  · rw [fmtB_num]
    obtain ⟨c, l, hc, h1, h2⟩ := itoa_head n
    exact ⟨c, l, by simp [hc], .inr (.inl ⟨rfl, h1, h2⟩)⟩
  · rw [fmtB_truth n hn]
    by_cases h : n = 1
    · rw [if_pos h]; exact ⟨_, _, rfl, .inr (.inr (.inl ⟨rfl, .inl rfl⟩))⟩
    · rw [if_neg h]; exact ⟨_, _, rfl, .inr (.inr (.inl ⟨rfl, .inr rfl⟩))⟩
  · rw [fmtB_text s ht]
    exact ⟨39, _, quote_list s, .inr (.inr (.inr ⟨rfl, rfl⟩))⟩
theorem fmtB_inj {k n k' n' : Int} {s s' : ByteArray} (h : validB k n s = true) (h' : validB k' n' s' = true) (he : fmtB k n s = fmtB k' n' s') : k = k' ∧ n = n' ∧ s = s' := by
  have hk : k = k' := by
    obtain ⟨c, l, hc, h2⟩ := fmt_head h
    obtain ⟨c', l', hc', h2'⟩ := fmt_head h'
    rw [he, hc'] at hc
    obtain rfl := (List.cons.inj hc).1
    clear he hc' hc h h'
    rcases h2 with ⟨rfl, h⟩ | ⟨rfl, h, h3⟩ | ⟨rfl, h⟩ | ⟨rfl, h⟩ <;> rcases h2' with ⟨rfl, h'⟩ | ⟨rfl, h', h3'⟩ | ⟨rfl, h'⟩ | ⟨rfl, h'⟩ <;> first | rfl | (exfalso; subst h; revert h'; decide) | (exfalso; subst h'; revert h; decide) | (exfalso; subst h; revert h3'; decide) | (exfalso; subst h'; revert h3; decide) | (exfalso; rcases h with rfl | rfl <;> revert h' <;> decide) | (exfalso; rcases h' with rfl | rfl <;> revert h <;> decide) | (exfalso; rcases h with rfl | rfl <;> revert h3' <;> decide) | (exfalso; rcases h' with rfl | rfl <;> revert h3 <;> decide) | (exfalso; rcases h' with rfl | h' <;> simp_all <;> done) | (exfalso; rcases h with rfl | h <;> simp_all <;> done)
  subst hk
  rcases validB_cases h with ⟨rfl, rfl, rfl⟩ | ⟨rfl, rfl⟩ | ⟨rfl, hn, rfl⟩ | ⟨rfl, rfl, ht⟩
  · rcases validB_cases h' with ⟨-, h1, h2⟩ | ⟨h1, -⟩ | ⟨h1, -, -⟩ | ⟨h1, -, -⟩
    · exact ⟨rfl, h1.symm, h2.symm⟩
    all_goals exact absurd h1 (by decide)
  · rcases validB_cases h' with ⟨h1, -, -⟩ | ⟨-, h2⟩ | ⟨h1, -, -⟩ | ⟨h1, -, -⟩
    · exact absurd h1 (by decide)
    · subst h2
      rw [fmtB_num, fmtB_num] at he
      exact ⟨rfl, itoa_inj (by simpa using he), rfl⟩
    all_goals exact absurd h1 (by decide)
  · rcases validB_cases h' with ⟨h1, -, -⟩ | ⟨h1, -⟩ | ⟨-, hn', h2⟩ | ⟨h1, -, -⟩
    · exact absurd h1 (by decide)
    · exact absurd h1 (by decide)
    · subst h2
      rw [fmtB_truth n hn, fmtB_truth n' hn'] at he
      refine ⟨rfl, ?_, rfl⟩
      by_cases a : n = 1 <;> by_cases b : n' = 1 <;> simp [a, b] at he <;> omega
    · exact absurd h1 (by decide)
  · rcases validB_cases h' with ⟨h1, -, -⟩ | ⟨h1, -⟩ | ⟨h1, -, -⟩ | ⟨-, h2, ht'⟩
    · exact absurd h1 (by decide)
    · exact absurd h1 (by decide)
    · exact absurd h1 (by decide)
    · subst h2
      rw [fmtB_text s ht, fmtB_text s' ht'] at he
      exact ⟨rfl, rfl, quoteB_inj he⟩
end Go.Proofs.YtlpaphgmdcpmaaaGreatDoor
/-
  The words of a well-formed tree are read back as this tree, its addresses left out. Plain.
-/
namespace Go.Proofs.YtlpaphgmdcpmaaaGreatDoor
set_option maxRecDepth 100000
open Go

def clQ (f : Ex → Ex) (q : Qu) : Qu := ⟨q.st, none, 0, q.items.map f, q.fr, none, 0, q.wh.map f⟩
/-- A tree without its addresses. -/
def cl : Nat → Ex → Ex
  | 0 => fun _ => ex0
  | d + 1 => fun e => .mk e.k e.op e.no e.vk e.vi e.vt e.tb e.nm none 0 (e.args.map (cl d)) none 0 (e.sub.map (clQ (cl d)))
section
variable {d : Nat} {e : Ex}
theorem plain_vals (h : plainB e = true) : e.vk = 0 ∧ e.vi = 0 ∧ e.vt = ⟨#[]⟩ ∧ e.tb = ⟨#[]⟩ ∧ e.nm = ⟨#[]⟩ := by
  unfold plainB noVal at h
  simp only [Bool.and_eq_true, decide_eq_true_eq] at h
  exact ⟨h.1.1.1.1, h.1.1.1.2, ba_of_eqT h.1.1.2, ba_of_eqT h.1.2, ba_of_eqT h.2⟩
theorem cl_lit (h : FineV (vE d) e) (hk : e.k = 1) : cl (d + 1) e = litEx e.vk e.vi e.vt := by
  obtain ⟨-, -, h3, h4⟩ := h.lit hk
  have ha := h.fine.noArgs (by rw [hk]; rfl)
  have hs := h.fine.noSub (by rw [hk]; rfl)
  show Ex.mk e.k e.op e.no e.vk e.vi e.vt e.tb e.nm none 0 (e.args.map (cl d)) none 0 (e.sub.map (clQ (cl d))) = _
  rw [hk, h.op0 (by omega), h.no6 (by omega), ba_of_eqT h3, ba_of_eqT h4, ha, hs]; rfl
theorem cl_col (h : FineV (vE d) e) (hk : e.k = 2) : cl (d + 1) e = colEx e.tb e.nm := by
  obtain ⟨h1, -, -⟩ := h.col hk
  have ha := h.fine.noArgs (by rw [hk]; rfl)
  have hs := h.fine.noSub (by rw [hk]; rfl)
  unfold noVal at h1
  simp only [Bool.and_eq_true, decide_eq_true_eq] at h1
  show Ex.mk e.k e.op e.no e.vk e.vi e.vt e.tb e.nm none 0 (e.args.map (cl d)) none 0 (e.sub.map (clQ (cl d))) = _
  rw [hk, h.op0 (by omega), h.no6 (by omega), h1.1.1, h1.1.2, ba_of_eqT h1.2, ha, hs]; rfl
theorem cl_args (h : FineV (vE d) e) (h3 : 3 ≤ e.k) (h7 : e.k ≤ 7) : cl (d + 1) e = argEx e.k e.op e.no none 0 (e.args.map (cl d)) := by
  obtain ⟨h1, -, -⟩ := h.rest (by omega) (by omega)
  obtain ⟨p1, p2, p3, p4, p5⟩ := plain_vals h1
  have hs := h.fine.noSub (by unfold subN; rw [if_neg (by omega)])
  show Ex.mk e.k e.op e.no e.vk e.vi e.vt e.tb e.nm none 0 (e.args.map (cl d)) none 0 (e.sub.map (clQ (cl d))) = _
  rw [p1, p2, p3, p4, p5, hs]; rfl
theorem cl_sub (h : FineV (vE d) e) (h8 : 8 ≤ e.k) : cl (d + 1) e = subEx e.k none 0 (clQ (cl d) (qAt e.sub 0)) := by
  obtain ⟨h1, -, -⟩ := h.rest (by omega) (by omega)
  obtain ⟨p1, p2, p3, p4, p5⟩ := plain_vals h1
  have ha := h.fine.noArgs (by unfold argN; rw [if_neg (by omega), if_neg (by omega), if_neg (by omega)])
  obtain ⟨q, hq⟩ := List.length_eq_one_iff.1 (show e.sub.length = 1 from h.subn.trans (by unfold subN; rw [if_pos ⟨h8, h.hi⟩]))
  show Ex.mk e.k e.op e.no e.vk e.vi e.vt e.tb e.nm none 0 (e.args.map (cl d)) none 0 (e.sub.map (clQ (cl d))) = _
  rw [h.op0 (by omega), h.no6 (by omega), p1, p2, p3, p4, p5, ha, hq]; rfl
theorem args_one (h : e.args.length = 1) : e.args.map (cl d) = [cl d (eAt e.args 0)] := by
  match e.args, h with
  | [a], _ => rfl
theorem args_two (h : e.args.length = 2) : e.args.map (cl d) = [cl d (eAt e.args 0), cl d (eAt e.args 1)] := by
  match e.args, h with
  | [a, b], _ => rfl
theorem args_three (h : e.args.length = 3) : e.args.map (cl d) = [cl d (eAt e.args 0), cl d (eAt e.args 1), cl d (eAt e.args 2)] := by
  match e.args, h with
  | [a, b, c], _ => rfl
end
theorem litOf_fmt {k n : Int} {s : ByteArray} (h : validB k n s = true) (hn : 0 ≤ n) : litOf (fmtB k n s) = litEx k n s := by
  unfold litOf
  have hx : ∃ v : Int × Int × ByteArray, validB v.1 v.2.1 v.2.2 = true ∧ 0 ≤ v.2.1 ∧ fmtB v.1 v.2.1 v.2.2 = fmtB k n s := ⟨(k, n, s), h, hn, rfl⟩
  rw [dif_pos hx]
  obtain ⟨h1, -, h3⟩ := hx.choose_spec
  obtain ⟨e1, e2, e3⟩ := fmtB_inj h1 h h3
  rw [e1, e2, e3]
/-- Words that are told apart by their first byte. -/
theorem free_head {s : ByteArray} {c : UInt8} {l : List UInt8} (h : s.data.toList = c :: l) (hc : c ≠ 78 ∧ c ≠ 45 ∧ c ≠ 69 ∧ c ≠ 40) : Free s := by
  refine ⟨fun e => ?_, fun e => ?_, fun e => ?_, fun e => ?_⟩
  all_goals
    subst e
    have h1 := (List.cons.inj h).1
    first
      | exact hc.1 h1.symm
      | exact hc.2.1 h1.symm
      | exact hc.2.2.1 h1.symm
      | exact hc.2.2.2 h1.symm
theorem lit_words {k n : Int} {s : ByteArray} (h : validB k n s = true) (hn : 0 ≤ n) : Free (fmtB k n s) ∧ litT (fmtB k n s) = true := by
  rcases validB_cases h with ⟨rfl, rfl, rfl⟩ | ⟨rfl, rfl⟩ | ⟨rfl, hn, rfl⟩ | ⟨rfl, rfl, ht⟩
  · rw [fmtB_null]
    unfold Free
    refine ⟨⟨by decide +kernel, by decide +kernel, by decide +kernel, by decide +kernel⟩, by decide +kernel⟩
  · rw [fmtB_num]
    have hi : Lib.itoa n = Lib.decDigits n.toNat := by unfold Lib.itoa; rw [if_neg (by omega)]
    obtain ⟨c, l, hc, h1, h2⟩ := dec_head n.toNat
    have hd : (⟨(Lib.itoa n).toArray⟩ : ByteArray).data.toList = c :: l := by simp [hi, hc]
    refine ⟨free_head hd ⟨fun e => by subst e; revert h2; decide, fun e => by subst e; revert h1; decide, fun e => by subst e; revert h2; decide, fun e => by subst e; revert h1; decide⟩, ?_⟩
    unfold litT
    rw [hd]
    simp [h1, h2]
  · rw [fmtB_truth n hn]
    split
    · unfold Free
      refine ⟨⟨by decide +kernel, by decide +kernel, by decide +kernel, by decide +kernel⟩, by decide +kernel⟩
    · unfold Free
      refine ⟨⟨by decide +kernel, by decide +kernel, by decide +kernel, by decide +kernel⟩, by decide +kernel⟩
  · rw [fmtB_text s ht]
    have hd := quote_list s
    refine ⟨free_head hd (by decide), ?_⟩
    unfold litT
    rw [hd]
    simp
theorem name_words {s : ByteArray} (h : nameOK s = true) : Free s ∧ litT s = false := by
  unfold nameOK at h
  simp only [Bool.and_eq_true, decide_eq_true_eq] at h
  obtain ⟨⟨⟨h1, h2⟩, h3⟩, -⟩ := h
  have hz : s.data.toList.length = s.size := by rw [Array.length_toList]; rfl
  obtain ⟨c, l, hc⟩ : ∃ c l, s.data.toList = c :: l := by
    cases hl : s.data.toList with
    | nil => rw [hl] at hz; simp at hz; omega
    | cons c l => exact ⟨c, l, rfl⟩
  rw [hc] at h3
  simp only [List.take_succ_cons, List.take_zero, List.all_cons, List.all_nil, Bool.and_true] at h3
  unfold ltrB ltrI at h3
  have h3 := of_decide_eq_true h3
  have hn : ∀ x : UInt8, x.toNat < 97 → c ≠ x := fun x hx e => by subst e; omega
  refine ⟨free_head hc ⟨hn _ (by decide), hn _ (by decide), hn _ (by decide), hn _ (by decide)⟩, ?_⟩
  have hne : ∀ t : ByteArray, (∃ x l', t.data.toList = x :: l' ∧ x.toNat < 97) → s ≠ t := by
    rintro t ⟨x, l', ht, hx⟩ rfl
    rw [hc] at ht
    have := (List.cons.inj ht).1
    exact hn x hx this
  unfold litT
  rw [decide_eq_false (hne tNUL ⟨78, _, rfl, by decide⟩), decide_eq_false (hne tTRU ⟨84, _, rfl, by decide⟩), decide_eq_false (hne tFAL ⟨70, _, rfl, by decide⟩), hc]
  simp only [Bool.false_or, Bool.or_eq_false_iff, decide_eq_false_iff_not]
  exact ⟨by omega, hn 39 (by decide)⟩
theorem qual_words {s : ByteArray} (h : qualB s = true) (h0 : eqT s ⟨#[]⟩ = false) : Free s ∧ litT s = false := by
  unfold qualB srcB at h
  rw [h0] at h
  simp only [Bool.false_or, Bool.or_eq_true] at h
  rcases h with (((h | h) | h) | h) | h
  · exact name_words h
  all_goals
    rw [ba_of_eqT h]
    unfold Free
    refine ⟨⟨by decide +kernel, by decide +kernel, by decide +kernel, by decide +kernel⟩, by decide +kernel⟩
theorem hp_three (r : List ByteArray) : hp r ≠ 3 := by
  cases r with
  | nil => decide
  | cons t r =>
    show hpC t ≠ 3
    unfold hpC
    split
    · unfold prec
      repeat' split
      all_goals first | omega | decide
    · split <;> decide
theorem hp_le (r : List ByteArray) : hp r ≤ 6 := by
  cases r with
  | nil => decide
  | cons t r =>
    show hpC t ≤ 6
    unfold hpC
    split
    · rename_i hb
      have hlt : binOf t < 14 := by
        unfold binOf at hb ⊢
        cases hf : (List.range 13).find? (fun i => decide (opS (i + 1) = t)) with
        | none => rw [hf] at hb; exact absurd rfl hb
        | some i =>
          have := List.mem_range.1 (List.mem_of_find?_eq_some hf)
          show i + 1 < 14
          omega
      have : ∀ j : Fin 14, j.val ≠ 0 → prec 5 j.val ≤ 6 := by decide +kernel
      exact this ⟨binOf t, hlt⟩ hb
    · split <;> decide
/-- What follows does not go on with a column. -/
def NoDot (r : List ByteArray) : Prop := r.head? ≠ some tDOT
theorem noDot {t : ByteArray} {r : List ByteArray} (h : t ≠ tDOT) : NoDot (t :: r) := by unfold NoDot; simpa using h
/-- Trees are read back. -/
def Back (d : Nat) : Prop := ∀ (e : Ex) (p : Int) (r : List ByteArray) (x : Ex × List ByteArray), vE d e = true → p ≤ prec e.k e.op → hp r ≤ prec e.k e.op → NoDot r → Rd (.rest p (cl d e)) r x → Rd (.ex p) (wT d e ++ r) x
/-- The first word of a tree is not SELECT. -/
def NoSel (d : Nat) : Prop := ∀ (e : Ex) (r : List ByteArray), vE d e = true → (wT d e ++ r).head? ≠ some tSEL
theorem arg_back {d : Nat} (H : Back d) (HS : NoSel d) {e : Ex} {i : Nat} (hv : vE d (eAt e.args i) = true) {p : Int} {r : List ByteArray} {x : Ex × List ByteArray} (hp1 : p ≤ least e.k e.op i) (hr : hp r ≤ least e.k e.op i) (hd : NoDot r) (h : Rd (.rest p (cl d (eAt e.args i))) r x) : Rd (.ex p) (argT (wT d) e i ++ r) x := by
  unfold argT
  split
  · rw [show [(⟨#[40]⟩ : ByteArray)] ++ wT d (eAt e.args i) ++ [⟨#[41]⟩] ++ r = tLP :: (wT d (eAt e.args i) ++ (tRP :: r)) by simp]
    refine Rd.ex (Rd.paren (HS _ _ hv) (H _ 1 (tRP :: r) _ hv (by have := prec_pos (eAt e.args i).k (eAt e.args i).op; omega) (by rw [hp_rp]; exact Int.le_of_lt (prec_pos _ _)) (noDot (by decide +kernel)) (Rd.stop (.inr (hp_rp r))))) h
  · rename_i hin
    have hq : least e.k e.op i ≤ prec (eAt e.args i).k (eAt e.args i).op := by
      unfold inPar at hin
      simpa using hin
    exact H _ p r x hv (by omega) (by omega) hd h
theorem prec_five (j : Nat) (h1 : 1 ≤ j) (h2 : j ≤ 13) : binOf (opS j) = j ∧ binOf (opS j) ≠ 0 := by
  have h := binOf_op ⟨j, by omega⟩
  exact ⟨h, by rw [h]; exact Nat.ne_of_gt h1⟩
theorem least_ge {k op : Int} {i : Nat} (hk : k = 5) (hop : 1 ≤ op ∧ op ≤ 13) : prec k op ≤ least k op 0 ∧ (prec k op < least k op 1) ∧ least k op i = least 5 op i := by
  subst hk
  have h13 : op = 1 ∨ op = 2 ∨ op = 3 ∨ op = 4 ∨ op = 5 ∨ op = 6 ∨ op = 7 ∨ op = 8 ∨ op = 9 ∨ op = 10 ∨ op = 11 ∨ op = 12 ∨ op = 13 := by omega
  rcases h13 with rfl | rfl | rfl | rfl | rfl | rfl | rfl | rfl | rfl | rfl | rfl | rfl | rfl <;> exact ⟨by decide, by decide, rfl⟩
theorem op_dot : ∀ j : Fin 14, j.val ≠ 0 → opS j.val ≠ tDOT := by decide +kernel
theorem from_back {d : Nat} (H : Back d) {q : Qu} {k : Int} (hq : FineQ (vE d) k q) {r : List ByteArray} : RdF (fromT (wT d) q ++ (tRP :: r)) ((q.fr, q.wh.map (cl d)), r) := by
  unfold fromT
  match hw : q.wh, hq.wh with
  | [], _ => exact RdF.none
  | [a], _ =>
    rw [show [(⟨#[70, 82, 79, 77]⟩ : ByteArray), q.fr] ++ whT (wT d) [a] ++ (tRP :: r) = tFROM :: q.fr :: tWHE :: (wT d a ++ (tRP :: r)) by simp [whT]]
    have hv := hq.allW a (by rw [hw]; exact List.mem_singleton.2 rfl)
    exact RdF.some (H a 1 (tRP :: r) _ hv (by have := prec_pos a.k a.op; omega) (by rw [hp_rp]; exact Int.le_of_lt (prec_pos _ _)) (noDot (by decide +kernel)) (Rd.stop (.inr (hp_rp r))))
theorem agg_word {k : Int} (h1 : 10 ≤ k) (h2 : k ≤ 12) : aggK (aggS k) = k ∧ aggS k ≠ tCNT := by
  have : k = 10 ∨ k = 11 ∨ k = 12 := by omega
  rcases this with rfl | rfl | rfl <;> exact ⟨by decide +kernel, by decide +kernel⟩
set_option maxHeartbeats 1000000 in
theorem back_step {d : Nat} (H : Back d) (HS : NoSel d) : Back (d + 1) := by
  intro e p r x hv hp1 hr hd hx
  have hV : FineV (vE d) e := vOf_iff.1 hv
  have hF := hV.fine
  have hn := hF.argn
  have hlo := hF.lo
  have hhi := hF.hi
  have hva : ∀ i, i < e.args.length → vE d (eAt e.args i) = true := fun i hi => hF.args _ (eAt_mem hi)
  rw [wT_succ]
  have hk : e.k = 1 ∨ e.k = 2 ∨ e.k = 3 ∨ e.k = 4 ∨ e.k = 5 ∨ e.k = 6 ∨ e.k = 7 ∨ 8 ≤ e.k := by omega
  rcases hk with hk | hk | hk | hk | hk | hk | hk | hk
  · rw [cl_lit hV hk] at hx
    rw [wOf_lit hk]
    obtain ⟨h1, h2, -, -⟩ := hV.lit hk
    obtain ⟨hf, hl⟩ := lit_words h1 h2
    exact Rd.ex (Rd.lit hf hl) (by rw [litOf_fmt h1 h2]; exact hx)
  · rw [cl_col hV hk] at hx
    rw [wOf_col hk]
    obtain ⟨-, h2, h3⟩ := hV.col hk
    unfold colT
    cases h0 : eqT e.tb ⟨#[]⟩
    · obtain ⟨hf, hl⟩ := qual_words h2 h0
      exact Rd.ex (Rd.colq hf hl) hx
    · obtain ⟨hf, hl⟩ := name_words h3
      rw [ba_of_eqT h0] at hx
      exact Rd.ex (Rd.col hf hl hd) hx
  · have h1 : e.args.length = 1 := by rw [hn, hk]; rfl
    rw [cl_args hV (by omega) (by omega), args_one h1, hk, hF.op0 (by omega), hF.no6 (by omega)] at hx
    rw [wOf_not hk]
    have hpr : prec e.k e.op = 3 := by rw [hk]; rfl
    have hls : least e.k e.op 0 = 3 := by rw [hk]; rfl
    have h3 := hp_three r
    refine Rd.ex (Rd.not (arg_back H HS (hva 0 (by omega)) (by rw [hls]; omega) (by rw [hls]; omega) hd (Rd.stop (.inl ?_)))) hx
    omega
  · have h1 : e.args.length = 1 := by rw [hn, hk]; rfl
    rw [cl_args hV (by omega) (by omega), args_one h1, hk, hF.op0 (by omega), hF.no6 (by omega)] at hx
    rw [wOf_neg hk]
    have hls : least e.k e.op 0 = 7 := by rw [hk]; rfl
    have h6 := hp_le r
    exact Rd.ex (Rd.neg (arg_back H HS (hva 0 (by omega)) (by rw [hls]; omega) (by rw [hls]; omega) hd (Rd.stop (.inl (by omega))))) hx
  · have h1 : e.args.length = 2 := by rw [hn, hk]; rfl
    have hop := hF.op5 hk
    obtain ⟨j, hj⟩ : ∃ j : Nat, e.op = j := ⟨e.op.toNat, by omega⟩
    obtain ⟨hb1, hb2⟩ := prec_five j (by omega) (by omega)
    obtain ⟨g1, g2, g3⟩ := least_ge (i := 1) hk hop
    have hpr : prec e.k e.op = prec 5 (binOf (opS j)) := by rw [hk, hj, hb1]
    rw [cl_args hV (by omega) (by omega), args_two h1, hk, hF.no6 (by omega), hj] at hx
    rw [wOf_bin hk, hj, Int.toNat_natCast, List.append_assoc, List.append_assoc]
    have hh : hp (opS j :: (argT (wT d) e 1 ++ r)) = prec 5 (binOf (opS j)) := by show hpC _ = _; unfold hpC; rw [if_pos hb2]
    refine arg_back H HS (hva 0 (by omega)) (by omega) (by show hp (opS j :: (argT (wT d) e 1 ++ r)) ≤ _; rw [hh, ← hpr]; exact g1) (noDot (op_dot ⟨j, by omega⟩ (by show j ≠ 0; omega))) ?_
    refine Rd.bin hb2 (by rw [← hpr]; exact hp1) ?_ (b := cl d (eAt e.args 1)) (r := r) (by rw [hb1]; exact hx)
    have hl1 : least 5 (binOf (opS j)) 1 = least e.k e.op 1 := by rw [hb1, g3, hj]
    rw [hl1]
    exact arg_back H HS (hva 1 (by omega)) (Int.le_refl _) (by omega) hd (Rd.stop (.inl (by omega)))
  · have h1 : e.args.length = 1 := by rw [hn, hk]; rfl
    have hpr : prec e.k e.op = 4 := by rw [hk]; rfl
    have hls : least e.k e.op 0 = 5 := by rw [hk]; rfl
    rw [cl_args hV (by omega) (by omega), args_one h1, hk, hF.op0 (by omega)] at hx
    rw [wOf_null hk, List.append_assoc]
    unfold nullT
    cases hno : e.no
    · rw [hno] at hx
      refine arg_back H HS (hva 0 (by omega)) (by omega) ?_ ?_ ?_
      · show hp (tIS :: tNUL :: r) ≤ _
        rw [hp_is]; omega
      · exact noDot (by decide +kernel)
      · exact Rd.null (by omega) hx
    · rw [hno] at hx
      refine arg_back H HS (hva 0 (by omega)) (by omega) ?_ ?_ ?_
      · show hp (tIS :: tNOT :: tNUL :: r) ≤ _
        rw [hp_is]; omega
      · exact noDot (by decide +kernel)
      · exact Rd.nullN (by omega) hx
  · have h1 : e.args.length = 3 := by rw [hn, hk]; rfl
    have hpr : prec e.k e.op = 4 := by rw [hk]; rfl
    have hl0 : ∀ i, least e.k e.op i = 5 := fun i => by rw [hk]; rfl
    rw [cl_args hV (by omega) (by omega), args_three h1, hk, hF.op0 (by omega), hF.no6 (by omega)] at hx
    rw [wOf_btw hk]
    rw [show argT (wT d) e 0 ++ [(⟨#[66, 69, 84, 87, 69, 69, 78]⟩ : ByteArray)] ++ argT (wT d) e 1 ++ [⟨#[65, 78, 68]⟩] ++ argT (wT d) e 2 ++ r = argT (wT d) e 0 ++ (tBTW :: (argT (wT d) e 1 ++ (tAND :: (argT (wT d) e 2 ++ r)))) by simp]
    refine arg_back H HS (hva 0 (by omega)) (by rw [hl0]; omega) (by rw [hl0, hp_btw]; omega) (noDot (by decide +kernel)) ?_
    refine Rd.btw (by omega) (b := cl d (eAt e.args 1)) (u := argT (wT d) e 2 ++ r) (c := cl d (eAt e.args 2)) (r := r) ?_ ?_ hx
    · exact arg_back H HS (hva 1 (by omega)) (by rw [hl0]; omega) (by rw [hl0, hp_and]; omega) (noDot (by decide +kernel)) (Rd.stop (.inl (by rw [hp_and]; omega)))
    · exact arg_back H HS (hva 2 (by omega)) (by rw [hl0]; omega) (by rw [hl0]; omega) hd (Rd.stop (.inl (by omega)))
  · rw [cl_sub hV hk] at hx
    rw [wOf_sub hk]
    have hQ := quB_fine (hF.sub (qAt e.sub 0) (qAt_mem (by rw [hF.subn]; unfold subN; rw [if_pos ⟨hk, hhi⟩]; decide)))
    have hfb := from_back H hQ (r := r)
    unfold subT
    have h3 : e.k = 8 ∨ e.k = 9 ∨ 10 ≤ e.k := by omega
    rcases h3 with h8 | h9 | h10
    · have hi : (qAt e.sub 0).items = [] := List.eq_nil_of_length_eq_zero (hQ.items.trans (by rw [h8]; rfl))
      have hcl : clQ (cl d) (qAt e.sub 0) = quN true [] ((qAt e.sub 0).fr, (qAt e.sub 0).wh.map (cl d)) := by
        unfold clQ quN; rw [hi, hQ.st, h8]; rfl
      rw [hcl, h8] at hx
      rw [if_pos h8, show headT (wT d) e.k (qAt e.sub 0) = [⟨#[42]⟩] by unfold headT; rw [if_pos h8]]
      rw [show [(⟨#[69, 88, 73, 83, 84, 83]⟩ : ByteArray)] ++ [⟨#[40]⟩, ⟨#[83, 69, 76, 69, 67, 84]⟩] ++ [⟨#[42]⟩] ++ fromT (wT d) (qAt e.sub 0) ++ [⟨#[41]⟩] ++ r = tEXI :: tLP :: tSEL :: tSTAR :: (fromT (wT d) (qAt e.sub 0) ++ (tRP :: r)) by simp]
      exact Rd.ex (Rd.exi hfb) hx
    · have hi : (qAt e.sub 0).items = [] := List.eq_nil_of_length_eq_zero (hQ.items.trans (by rw [h9]; rfl))
      have hcl : clQ (cl d) (qAt e.sub 0) = quN false [] ((qAt e.sub 0).fr, (qAt e.sub 0).wh.map (cl d)) := by
        unfold clQ quN; rw [hi, hQ.st, h9]; rfl
      rw [hcl, h9] at hx
      rw [if_neg (by omega), show headT (wT d) e.k (qAt e.sub 0) = [⟨#[67, 79, 85, 78, 84]⟩, ⟨#[40]⟩, ⟨#[42]⟩, ⟨#[41]⟩] by unfold headT; rw [if_neg (by omega), if_pos h9]]
      rw [show ([] : List ByteArray) ++ [⟨#[40]⟩, ⟨#[83, 69, 76, 69, 67, 84]⟩] ++ [⟨#[67, 79, 85, 78, 84]⟩, ⟨#[40]⟩, ⟨#[42]⟩, ⟨#[41]⟩] ++ fromT (wT d) (qAt e.sub 0) ++ [⟨#[41]⟩] ++ r = tLP :: tSEL :: tCNT :: tLP :: tSTAR :: tRP :: (fromT (wT d) (qAt e.sub 0) ++ (tRP :: r)) by simp]
      exact Rd.ex (Rd.cnt hfb) hx
    · have hi1 : (qAt e.sub 0).items.length = 1 := hQ.items.trans (by unfold itemN; rw [if_pos ⟨h10, hhi⟩])
      obtain ⟨a, ha⟩ := List.length_eq_one_iff.1 hi1
      have hva := hQ.allI a (by rw [ha]; exact List.mem_singleton.2 rfl)
      have hcl : clQ (cl d) (qAt e.sub 0) = quN false [cl d a] ((qAt e.sub 0).fr, (qAt e.sub 0).wh.map (cl d)) := by
        unfold clQ quN; rw [ha, hQ.st, decide_eq_false (by omega)]; rfl
      obtain ⟨w1, w2⟩ := agg_word h10 hhi
      rw [hcl, ← w1] at hx
      have hea : eAt (qAt e.sub 0).items 0 = a := by rw [ha]; rfl
      rw [if_neg (by omega), show headT (wT d) e.k (qAt e.sub 0) = [aggS e.k] ++ ([⟨#[40]⟩] ++ wT d a ++ [⟨#[41]⟩]) by unfold headT; rw [if_neg (by omega), if_neg (by omega), hea]]
      rw [show ([] : List ByteArray) ++ [⟨#[40]⟩, ⟨#[83, 69, 76, 69, 67, 84]⟩] ++ ([aggS e.k] ++ ([⟨#[40]⟩] ++ wT d a ++ [⟨#[41]⟩])) ++ fromT (wT d) (qAt e.sub 0) ++ [⟨#[41]⟩] ++ r = tLP :: tSEL :: aggS e.k :: tLP :: (wT d a ++ (tRP :: (fromT (wT d) (qAt e.sub 0) ++ (tRP :: r)))) by simp]
      refine Rd.ex (Rd.agg w2 ?_ hfb) hx
      exact H a 1 _ _ hva (by have := prec_pos a.k a.op; omega) (by rw [hp_rp]; exact Int.le_of_lt (prec_pos _ _)) (noDot (by decide +kernel)) (Rd.stop (.inr (hp_rp _)))
end Go.Proofs.YtlpaphgmdcpmaaaGreatDoor
/-
  All trees are read back; trees with the same words are the same. Plain.
-/
namespace Go.Proofs.YtlpaphgmdcpmaaaGreatDoor
set_option maxRecDepth 100000
open Go

theorem ne_sel {s : ByteArray} {c : UInt8} {l : List UInt8} (h : s.data.toList = c :: l) (hc : c ≠ 83) : s ≠ tSEL := by
  rintro rfl
  exact hc (List.cons.inj h).1.symm
theorem name_sel {s : ByteArray} (h : nameOK s = true) : s ≠ tSEL := by
  rintro rfl
  revert h
  unfold nameOK
  intro h
  simp only [Bool.and_eq_true, decide_eq_true_eq] at h
  have h3 := h.1.2
  revert h3
  decide +kernel
theorem qual_sel {s : ByteArray} (h : qualB s = true) (h0 : eqT s ⟨#[]⟩ = false) : s ≠ tSEL := by
  unfold qualB srcB at h
  rw [h0] at h
  simp only [Bool.false_or, Bool.or_eq_true] at h
  rcases h with (((h | h) | h) | h) | h
  · exact name_sel h
  all_goals
    rw [ba_of_eqT h]
    decide +kernel
theorem arg_sel {d : Nat} (H : NoSel d) {e : Ex} {i : Nat} (hv : vE d (eAt e.args i) = true) (r : List ByteArray) : (argT (wT d) e i ++ r).head? ≠ some tSEL := by
  unfold argT
  split
  · show some tLP ≠ some tSEL
    decide +kernel
  · exact H _ r hv
theorem some_ne {s t : ByteArray} (h : s ≠ t) : some s ≠ some t := fun e => h (Option.some.inj e)
theorem sel_step {d : Nat} (H : NoSel d) : NoSel (d + 1) := by
  intro e r hv
  have hV : FineV (vE d) e := vOf_iff.1 hv
  have hF := hV.fine
  have hn := hF.argn
  have hlo := hF.lo
  have hhi := hF.hi
  have hva : ∀ i, i < e.args.length → vE d (eAt e.args i) = true := fun i hi => hF.args _ (eAt_mem hi)
  rw [wT_succ]
  have hk : e.k = 1 ∨ e.k = 2 ∨ e.k = 3 ∨ e.k = 4 ∨ e.k = 5 ∨ e.k = 6 ∨ e.k = 7 ∨ 8 ≤ e.k := by omega
  rcases hk with hk | hk | hk | hk | hk | hk | hk | hk
  · rw [wOf_lit hk]
    obtain ⟨c, l, hc, h⟩ := fmt_head (hV.lit hk).1
    refine some_ne (ne_sel hc ?_)
    rcases h with ⟨-, h⟩ | ⟨-, -, h⟩ | ⟨-, h | h⟩ | ⟨-, h⟩
    · rw [h]; decide
    · intro e; rw [e] at h; revert h; decide
    · rw [h]; decide
    · rw [h]; decide
    · rw [h]; decide
  · rw [wOf_col hk]
    obtain ⟨-, h2, h3⟩ := hV.col hk
    unfold colT
    cases h0 : eqT e.tb ⟨#[]⟩
    · exact some_ne (qual_sel h2 h0)
    · exact some_ne (name_sel h3)
  · rw [wOf_not hk]
    exact some_ne (s := tNOT) (by decide +kernel)
  · rw [wOf_neg hk]
    exact some_ne (s := tMIN) (by decide +kernel)
  · rw [wOf_bin hk, List.append_assoc, List.append_assoc]
    exact arg_sel H (hva 0 (by rw [hn, hk]; decide)) _
  · rw [wOf_null hk, List.append_assoc]
    exact arg_sel H (hva 0 (by rw [hn, hk]; decide)) _
  · rw [wOf_btw hk]
    simp only [List.append_assoc]
    exact arg_sel H (hva 0 (by rw [hn, hk]; decide)) _
  · rw [wOf_sub hk]
    unfold subT
    by_cases h8 : e.k = 8
    · rw [if_pos h8]
      exact some_ne (s := tEXI) (by decide +kernel)
    · rw [if_neg h8]
      exact some_ne (s := tLP) (by decide +kernel)
theorem all_back : ∀ d, Back d ∧ NoSel d
  | 0 => ⟨fun _ _ _ _ hv _ _ _ => (by cases hv), fun _ _ hv => (by cases hv)⟩
  | d + 1 => ⟨back_step (all_back d).1 (all_back d).2, sel_step (all_back d).2⟩
/-- Trees with the same words are the same. -/
theorem words_inj {d : Nat} {a b : Ex} (ha : vE d a = true) (hb : vE d b = true) (h : wT d a = wT d b) : cl d a = cl d b := by
  have hx := fun (e : Ex) (hv : vE d e = true) => (all_back d).1 e 1 [] (cl d e, []) hv (by have := prec_pos e.k e.op; omega) (Int.le_of_lt (prec_pos _ _)) (by unfold NoDot; simp) (Rd.stop (.inr rfl))
  have h1 := hx a ha
  rw [h] at h1
  exact (Prod.mk.inj (h1.det (hx b hb))).1
/-- Trees are compared, their addresses left out. -/
def sameL (f : Ex → Ex → Bool) (a b : List Ex) : Bool := decide (a.length = b.length) && (List.range a.length).all fun i => f (eAt a i) (eAt b i)
def sameLQ (f : Qu → Qu → Bool) (a b : List Qu) : Bool := decide (a.length = b.length) && (List.range a.length).all fun i => f (qAt a i) (qAt b i)
def sameQB (f : Ex → Ex → Bool) (p q : Qu) : Bool := (p.st == q.st) && sameL f p.items q.items && eqT p.fr q.fr && sameL f p.wh q.wh
def sameF (f : Ex → Ex → Bool) (a b : Ex) : Bool := (a.k == b.k) && (a.op == b.op) && (a.no == b.no) && sameV a.vk a.vi a.vt b.vk b.vi b.vt && eqT a.tb b.tb && eqT a.nm b.nm && sameL f a.args b.args && sameLQ (sameQB f) a.sub b.sub
def sameB : Nat → Ex → Ex → Bool
  | 0 => fun _ _ => true
  | d + 1 => sameF (sameB d)
theorem sameL_iff {f : Ex → Ex → Bool} {a b : List Ex} : sameL f a b = true ↔ a.length = b.length ∧ ∀ i, i < a.length → f (eAt a i) (eAt b i) = true := by
  unfold sameL
  simp [List.all_eq_true]
theorem sameLQ_iff {f : Qu → Qu → Bool} {a b : List Qu} : sameLQ f a b = true ↔ a.length = b.length ∧ ∀ i, i < a.length → f (qAt a i) (qAt b i) = true := by
  unfold sameLQ
  simp [List.all_eq_true]
theorem sameQB_iff {f : Ex → Ex → Bool} {p q : Qu} : sameQB f p q = true ↔ p.st = q.st ∧ sameL f p.items q.items = true ∧ p.fr = q.fr ∧ sameL f p.wh q.wh = true := by
  unfold sameQB
  simp only [Bool.and_eq_true, beq_iff_eq, eqT_iff, and_assoc]
structure SameP (f : Ex → Ex → Bool) (a b : Ex) : Prop where
  k : a.k = b.k
  op : a.op = b.op
  no : a.no = b.no
  vk : a.vk = b.vk
  vi : a.vi = b.vi
  vt : a.vt = b.vt
  tb : a.tb = b.tb
  nm : a.nm = b.nm
  args : sameL f a.args b.args = true
  sub : sameLQ (sameQB f) a.sub b.sub = true
theorem sameF_iff {f : Ex → Ex → Bool} {a b : Ex} : sameF f a b = true ↔ SameP f a b := by
  unfold sameF
  simp only [Bool.and_eq_true, beq_iff_eq, eqT_iff, sameV_iff]
  exact ⟨fun h => ⟨h.1.1.1.1.1.1.1, h.1.1.1.1.1.1.2, h.1.1.1.1.1.2, h.1.1.1.1.2.1, h.1.1.1.1.2.2.1, h.1.1.1.1.2.2.2, h.1.1.1.2, h.1.1.2, h.1.2, h.2⟩, fun h => ⟨⟨⟨⟨⟨⟨⟨h.k, h.op⟩, h.no⟩, h.vk, h.vi, h.vt⟩, h.tb⟩, h.nm⟩, h.args⟩, h.sub⟩⟩
theorem map_at {f : Ex → Ex} {l : List Ex} {i : Nat} (h : i < l.length) : eAt (l.map f) i = f (eAt l i) := by
  rw [eAt_get (by simpa using h), eAt_get h, List.getElem_map]
theorem qmap_at {f : Qu → Qu} {l : List Qu} {i : Nat} (h : i < l.length) : qAt (l.map f) i = f (qAt l i) := by
  unfold qAt
  rw [List.getD, List.getD, List.getElem?_map, List.getElem?_eq_getElem h]; rfl
theorem map_same {f : Ex → Ex} {g : Ex → Ex → Bool} (H : ∀ x y, f x = f y → g x y = true) {a b : List Ex} (h : a.map f = b.map f) : sameL g a b = true := by
  have hl : a.length = b.length := by simpa using congrArg List.length h
  refine sameL_iff.2 ⟨hl, fun i hi => H _ _ ?_⟩
  have e1 : eAt (a.map f) i = f (eAt a i) := map_at hi
  have e2 : eAt (b.map f) i = f (eAt b i) := map_at (by omega)
  rw [← e1, ← e2, h]
theorem cl_same : ∀ (d : Nat) (a b : Ex), cl d a = cl d b → sameB d a b = true
  | 0, _, _, _ => rfl
  | d + 1, a, b, h => by
    have h : Ex.mk a.k a.op a.no a.vk a.vi a.vt a.tb a.nm none 0 (a.args.map (cl d)) none 0 (a.sub.map (clQ (cl d))) = Ex.mk b.k b.op b.no b.vk b.vi b.vt b.tb b.nm none 0 (b.args.map (cl d)) none 0 (b.sub.map (clQ (cl d))) := h
    injection h with h1 h2 h3 h4 h5 h6 h7 h8 _ _ h9 _ _ h10
    refine sameF_iff.2 ⟨h1, h2, h3, h4, h5, h6, h7, h8, map_same (cl_same d) h9, sameLQ_iff.2 ⟨by simpa using congrArg List.length h10, fun i hi => ?_⟩⟩
    have hl : a.sub.length = b.sub.length := by simpa using congrArg List.length h10
    have hq : clQ (cl d) (qAt a.sub i) = clQ (cl d) (qAt b.sub i) := by
      have e1 : qAt (a.sub.map (clQ (cl d))) i = clQ (cl d) (qAt a.sub i) := qmap_at hi
      have e2 : qAt (b.sub.map (clQ (cl d))) i = clQ (cl d) (qAt b.sub i) := qmap_at (by omega)
      rw [← e1, ← e2, h10]
    unfold clQ at hq
    injection hq with q1 _ _ q2 q3 _ _ q4
    exact sameQB_iff.2 ⟨q1, map_same (cl_same d) q2, q3, map_same (cl_same d) q4⟩
theorem arg_words {d : Nat} (H : ∀ x y, vE d x = true → sameB d x y = true → wT d x = wT d y) {a b : Ex} (hP : SameP (sameB d) a b) (hv : ∀ x ∈ a.args, vE d x = true) (i : Nat) : argT (wT d) a i = argT (wT d) b i := by
  obtain ⟨hl, hs⟩ := sameL_iff.1 hP.args
  by_cases hi : i < a.args.length
  · have hvi := hv _ (eAt_mem hi)
    have hsi := hs i hi
    have hw := H _ _ hvi hsi
    have hko : (eAt a.args i).k = (eAt b.args i).k ∧ (eAt a.args i).op = (eAt b.args i).op := by
      match d, hvi, hsi with
      | d + 1, _, hsi => exact ⟨(sameF_iff.1 hsi).k, (sameF_iff.1 hsi).op⟩
    unfold argT inPar
    rw [hw, hko.1, hko.2, hP.k, hP.op]
  · have h1 : eAt a.args i = ex0 := by unfold eAt; rw [List.getD, List.getElem?_eq_none (by omega)]; rfl
    have h2 : eAt b.args i = ex0 := by unfold eAt; rw [List.getD, List.getElem?_eq_none (by omega)]; rfl
    unfold argT inPar
    rw [h1, h2, hP.k, hP.op]
theorem wh_words {d : Nat} (H : ∀ x y, vE d x = true → sameB d x y = true → wT d x = wT d y) : ∀ (a b : List Ex), sameL (sameB d) a b = true → (∀ x ∈ a, vE d x = true) → a.length ≤ 1 → whT (wT d) a = whT (wT d) b
  | [], [], _, _, _ => rfl
  | [], y :: b, h, _, _ => by have := (sameL_iff.1 h).1; simp at this
  | [x], [], h, _, _ => by have := (sameL_iff.1 h).1; simp at this
  | [x], [y], h, hv, _ => by
    have hw := H x y (hv x (List.mem_singleton.2 rfl)) ((sameL_iff.1 h).2 0 (by simp))
    simp only [whT, List.flatMap_cons, List.flatMap_nil, hw]
  | [x], y :: z :: b, h, _, _ => by have := (sameL_iff.1 h).1; simp at this
  | x :: x' :: a, b, _, _, hl => by simp at hl
theorem same_words : ∀ (d : Nat) (a b : Ex), vE d a = true → sameB d a b = true → wT d a = wT d b
  | 0, _, _, hv, _ => by cases hv
  | d + 1, a, b, hv, h => by
    have hV : FineV (vE d) a := vOf_iff.1 hv
    have hF := hV.fine
    have hP := sameF_iff.1 h
    have hA := arg_words (same_words d) hP hF.args
    have hlo := hF.lo
    have hhi := hF.hi
    rw [wT_succ, wT_succ]
    have hkb := hP.k
    have hk : a.k = 1 ∨ a.k = 2 ∨ a.k = 3 ∨ a.k = 4 ∨ a.k = 5 ∨ a.k = 6 ∨ a.k = 7 ∨ 8 ≤ a.k := by omega
    rcases hk with hk | hk | hk | hk | hk | hk | hk | hk
    · rw [wOf_lit hk, wOf_lit (by omega), hP.vk, hP.vi, hP.vt]
    · rw [wOf_col hk, wOf_col (by omega), hP.tb, hP.nm]
    · rw [wOf_not hk, wOf_not (by omega), hA]
    · rw [wOf_neg hk, wOf_neg (by omega), hA]
    · rw [wOf_bin hk, wOf_bin (by omega), hA, hA, hP.op]
    · rw [wOf_null hk, wOf_null (by omega), hA, hP.no]
    · rw [wOf_btw hk, wOf_btw (by omega), hA, hA, hA]
    · rw [wOf_sub hk, wOf_sub (by omega), ← hP.k]
      have h1 : a.sub.length = 1 := hF.subn.trans (by unfold subN; rw [if_pos ⟨hk, hhi⟩])
      obtain ⟨q1, q2, q3, q4⟩ := sameQB_iff.1 ((sameLQ_iff.1 hP.sub).2 0 (by omega))
      have hQ := quB_fine (hF.sub (qAt a.sub 0) (qAt_mem (by omega)))
      have hfr : fromT (wT d) (qAt a.sub 0) = fromT (wT d) (qAt b.sub 0) := by
        unfold fromT
        rw [q3, wh_words (same_words d) _ _ q4 hQ.allW hQ.wh]
      have hhd : headT (wT d) a.k (qAt a.sub 0) = headT (wT d) a.k (qAt b.sub 0) := by
        unfold headT
        by_cases h8 : a.k = 8
        · rw [if_pos h8, if_pos h8]
        · by_cases h9 : a.k = 9
          · rw [if_neg h8, if_neg h8, if_pos h9, if_pos h9]
          · have hi : 0 < (qAt a.sub 0).items.length := by rw [hQ.items]; unfold itemN; rw [if_pos (by omega)]; decide
            rw [if_neg h8, if_neg h8, if_neg h9, if_neg h9, same_words d _ _ (hQ.allI _ (eAt_mem hi)) ((sameL_iff.1 q2).2 0 hi)]
      unfold subT
      rw [hfr, hhd]
/-- Valid trees have the same words if and only if they are the same. -/
theorem words_same {d : Nat} {a b : Ex} (ha : vE d a = true) (hb : vE d b = true) : wT d a = wT d b ↔ sameB d a b = true :=
  ⟨fun h => cl_same d a b (words_inj ha hb h), same_words d a b ha⟩
end Go.Proofs.YtlpaphgmdcpmaaaGreatDoor
/-
  The joined words of valid trees tell the words apart. Plain.
-/
namespace Go.Proofs.YtlpaphgmdcpmaaaGreatDoor
set_option maxRecDepth 100000
open Go

def jn (p : ByteArray) : List ByteArray → List UInt8
  | [] => []
  | s :: r => spcL p s ++ s.data.toList ++ jn s r
/-- The joined words, from the first to the last. -/
def joinF : List ByteArray → List UInt8
  | [] => []
  | s :: r => s.data.toList ++ jn s r
theorem jn_snoc (s : ByteArray) : ∀ (A : List ByteArray) (p : ByteArray), jn p (A ++ [s]) = jn p A ++ spcL (A.getLast?.getD p) s ++ s.data.toList
  | [], p => by simp [jn]
  | x :: A, p => by
    show spcL p x ++ x.data.toList ++ jn x (A ++ [s]) = spcL p x ++ x.data.toList ++ jn x A ++ _ ++ _
    rw [jn_snoc s A x, List.getLast?_cons]
    simp [List.append_assoc]
theorem joinF_snoc (s p : ByteArray) (A : List ByteArray) : joinF ((A ++ [p]) ++ [s]) = joinF (A ++ [p]) ++ spcL p s ++ s.data.toList := by
  cases A with
  | nil => simp [joinF, jn]
  | cons x A =>
    show x.data.toList ++ jn x ((A ++ [p]) ++ [s]) = x.data.toList ++ jn x (A ++ [p]) ++ _ ++ _
    rw [jn_snoc s (A ++ [p]) x]
    simp [List.append_assoc]
theorem joinN_eq (L : List ByteArray) : ∀ k, k ≤ L.length → joinN L k = joinF (L.take k)
  | 0, _ => rfl
  | k + 1, hk => by
    have ih := joinN_eq L k (by omega)
    have ht : L.take (k + 1) = L.take k ++ [sAt L k] := by rw [sAt_get (by omega), List.take_append_getElem]
    show joinN L k ++ (if k = 0 then [] else spcL (sAt L (k - 1)) (sAt L k)) ++ (sAt L k).data.toList = _
    rw [ih, ht]
    by_cases h0 : k = 0
    · subst h0; simp [joinF, jn]
    · rw [if_neg h0]
      obtain ⟨j, rfl⟩ : ∃ j, k = j + 1 := ⟨k - 1, by omega⟩
      have ht2 : L.take (j + 1) = L.take j ++ [sAt L j] := by rw [sAt_get (by omega), List.take_append_getElem]
      rw [ht2, joinF_snoc]; rfl
theorem joinS_list (L : List ByteArray) : (joinS L).data.toList = joinF L := by
  show (joinN L L.length).toArray.toList = _
  rw [joinN_eq L L.length (Nat.le_refl _), List.take_length]
/- The bytes of words, of operators, of single symbols. -/
def wb (c : UInt8) : Bool := decide (48 ≤ c.toNat ∧ c.toNat ≤ 57) || decide (65 ≤ c.toNat ∧ c.toNat ≤ 90) || decide (97 ≤ c.toNat ∧ c.toNat ≤ 122) || c == 95
def ob (c : UInt8) : Bool := c == 42 || c == 43 || c == 45 || c == 47 || c == 37 || c == 60 || c == 61 || c == 62 || c == 33
def db (c : UInt8) : Bool := c == 40 || c == 41 || c == 46
def goodWB (s : ByteArray) : Bool := match s.data.toList with
  | [] => false
  | c :: l => (wb c && l.all wb) || (ob c && l.all ob) || (db c && l.isEmpty)
def GoodW (s : ByteArray) : Prop := goodWB s = true ∨ ∃ x, s = quoteB x
def sep (c : UInt8) : Bool := c == 32 || c == 44 || c == 59 || c == 46 || c == 41
def Tail (s : ByteArray) (X : List UInt8) : Prop := X = [] ∨ (∃ c l, X = c :: l ∧ sep c = true) ∨ s.data.toList = [40] ∨ s.data.toList = [46]
theorem good_cases {s : ByteArray} (h : GoodW s) : ∃ c l, s.data.toList = c :: l ∧ ((wb c = true ∧ l.all wb = true) ∨ (ob c = true ∧ l.all ob = true) ∨ (db c = true ∧ l = []) ∨ (c = 39 ∧ ∃ x, l = dbl1 x ++ [39])) := by
  rcases h with h | ⟨x, rfl⟩
  · unfold goodWB at h
    cases hl : s.data.toList with
    | nil => rw [hl] at h; cases h
    | cons c l =>
      rw [hl] at h
      simp only [Bool.or_eq_true, Bool.and_eq_true] at h
      rcases h with (h | h) | h
      · exact ⟨c, l, rfl, .inl h⟩
      · exact ⟨c, l, rfl, .inr (.inl h)⟩
      · exact ⟨c, l, rfl, .inr (.inr (.inl ⟨h.1, List.isEmpty_iff.1 h.2⟩))⟩
  · exact ⟨39, _, quote_list x, .inr (.inr (.inr ⟨rfl, _, rfl⟩))⟩
/-- A run of bytes of one kind ends where its kind ends. -/
theorem span_cut {f : UInt8 → Bool} : ∀ (a b X Y : List UInt8), a.all f = true → b.all f = true → (∀ c, X.head? = some c → f c = false) → (∀ c, Y.head? = some c → f c = false) → a ++ X = b ++ Y → a = b ∧ X = Y
  | [], [], _, _, _, _, _, _, h => ⟨rfl, h⟩
  | [], d :: b, X, Y, _, hb, hX, _, h => by
    exfalso
    have h : X = d :: (b ++ Y) := h
    have h1 := hX d (by rw [h]; rfl)
    simp only [List.all_cons, Bool.and_eq_true] at hb
    rw [h1] at hb; exact absurd hb.1 (by decide)
  | c :: a, [], X, Y, ha, _, _, hY, h => by
    exfalso
    have h : c :: (a ++ X) = Y := h
    have h1 := hY c (by rw [← h]; rfl)
    simp only [List.all_cons, Bool.and_eq_true] at ha
    rw [h1] at ha; exact absurd ha.1 (by decide)
  | c :: a, d :: b, X, Y, ha, hb, hX, hY, h => by
    obtain ⟨h1, h2⟩ := List.cons.inj h
    simp only [List.all_cons, Bool.and_eq_true] at ha hb
    obtain ⟨h3, h4⟩ := span_cut a b X Y ha.2 hb.2 hX hY h2
    exact ⟨by rw [h1, h3], h4⟩
theorem byte_all (P : UInt8 → Bool) (h : ∀ i : Fin 256, P (UInt8.ofNat i.val) = true) (c : UInt8) : P c = true := by
  have := h ⟨c.toNat, c.toNat_lt⟩
  simpa using this
theorem sep_wb (c : UInt8) (h : sep c = true) : wb c = false ∧ ob c = false ∧ c ≠ 39 := by
  have := byte_all (fun c => !sep c || (!wb c && !ob c && c != 39)) (by decide +kernel) c
  rw [h] at this
  simpa [and_assoc] using this
theorem kind_apart (c : UInt8) : (wb c = true → ob c = false ∧ db c = false ∧ c ≠ 39) ∧ (ob c = true → db c = false ∧ c ≠ 39) ∧ (db c = true → c ≠ 39) := by
  have := byte_all (fun c => (!wb c || (!ob c && !db c && c != 39)) && (!ob c || (!db c && c != 39)) && (!db c || c != 39)) (by decide +kernel) c
  simp only [Bool.and_eq_true, Bool.or_eq_true, Bool.not_eq_true', bne_iff_ne] at this
  obtain ⟨⟨h1, h2⟩, h3⟩ := this
  refine ⟨fun h => ?_, fun h => ?_, fun h => ?_⟩
  · rcases h1 with h1 | h1
    · rw [h] at h1; cases h1
    · exact ⟨h1.1.1, h1.1.2, h1.2⟩
  · rcases h2 with h2 | h2
    · rw [h] at h2; cases h2
    · exact h2
  · rcases h3 with h3 | h3
    · rw [h] at h3; cases h3
    · exact h3
theorem tail_head {s : ByteArray} {X : List UInt8} {c0 : UInt8} {l : List UInt8} (h : Tail s X) (hs : s.data.toList = c0 :: l) (h40 : c0 ≠ 40) (h46 : c0 ≠ 46) : ∀ c, X.head? = some c → sep c = true := by
  intro c hc
  rcases h with rfl | ⟨d, r, rfl, hd⟩ | h | h
  · cases hc
  · obtain rfl : d = c := by simpa using hc
    exact hd
  · rw [hs] at h; exact absurd (List.cons.inj h).1 h40
  · rw [hs] at h; exact absurd (List.cons.inj h).1 h46
/-- A word is fixed by the text that it begins. -/
theorem good_cut {s t : ByteArray} {X Y : List UInt8} (hs : GoodW s) (ht : GoodW t) (hX : Tail s X) (hY : Tail t Y) (h : s.data.toList ++ X = t.data.toList ++ Y) : s = t ∧ X = Y := by
  obtain ⟨c, l, h1, h2⟩ := good_cases hs
  obtain ⟨c', l', h1', h2'⟩ := good_cases ht
  have hcc : c = c' := by rw [h1, h1'] at h; exact (List.cons.inj h).1
  subst hcc
  obtain ⟨k1, k2, k3⟩ := kind_apart c
  rcases h2 with ⟨w, wl⟩ | ⟨w, wl⟩ | ⟨w, rfl⟩ | ⟨rfl, x, rfl⟩
  · obtain ⟨n1, n2, n3⟩ := k1 w
    rcases h2' with ⟨w', wl'⟩ | ⟨w', wl'⟩ | ⟨w', rfl⟩ | ⟨w', x', rfl⟩
    · have a40 : c ≠ 40 := fun e => by subst e; revert w; decide
      have a46 : c ≠ 46 := fun e => by subst e; revert w; decide
      have h := span_cut (f := wb) _ _ X Y (by rw [h1]; simp [w, wl]) (by rw [h1']; simp [w, wl']) (fun d hd => (sep_wb d (tail_head hX h1 a40 a46 d hd)).1) (fun d hd => (sep_wb d (tail_head hY h1' a40 a46 d hd)).1) h
      exact ⟨ba_ext h.1, h.2⟩
    · rw [n1] at w'; cases w'
    · rw [n2] at w'; cases w'
    · exact absurd w' n3
  · obtain ⟨n1, n2⟩ := k2 w
    rcases h2' with ⟨w', wl'⟩ | ⟨w', wl'⟩ | ⟨w', rfl⟩ | ⟨w', x', rfl⟩
    · have := (k1 w').1
      rw [w] at this; cases this
    · have a40 : c ≠ 40 := fun e => by subst e; revert w; decide
      have a46 : c ≠ 46 := fun e => by subst e; revert w; decide
      have h := span_cut (f := ob) _ _ X Y (by rw [h1]; simp [w, wl]) (by rw [h1']; simp [w, wl']) (fun d hd => (sep_wb d (tail_head hX h1 a40 a46 d hd)).2.1) (fun d hd => (sep_wb d (tail_head hY h1' a40 a46 d hd)).2.1) h
      exact ⟨ba_ext h.1, h.2⟩
    · rw [n1] at w'; cases w'
    · exact absurd w' n2
  · have n1 := k3 w
    rcases h2' with ⟨w', wl'⟩ | ⟨w', wl'⟩ | ⟨w', rfl⟩ | ⟨w', x', rfl⟩
    · have := (k1 w').2.1
      rw [w] at this; cases this
    · have := (k2 w').1
      rw [w] at this; cases this
    · rw [h1, h1'] at h
      exact ⟨ba_ext (by rw [h1, h1']), (List.cons.inj h).2⟩
    · exact absurd w' n1
  · rcases h2' with ⟨w', wl'⟩ | ⟨w', wl'⟩ | ⟨w', rfl⟩ | ⟨w', x', rfl⟩
    · exact absurd rfl (k1 w').2.2
    · exact absurd rfl (k2 w').2
    · exact absurd rfl (k3 w')
    · have hh : ∀ {s : ByteArray} {X : List UInt8} {l : List UInt8}, Tail s X → s.data.toList = 39 :: l → X.head? ≠ some 39 := fun hX h1 e => (sep_wb 39 (tail_head hX h1 (by decide) (by decide) 39 e)).2.2 rfl
      rw [h1, h1'] at h
      have h : (dbl1 x ++ [39]) ++ X = (dbl1 x' ++ [39]) ++ Y := (List.cons.inj h).2
      rw [List.append_assoc, List.append_assoc] at h
      obtain ⟨e1, e2⟩ := dbl_cut x x' X Y (hh hX h1) (hh hY h1') h
      exact ⟨ba_ext (by rw [h1, h1', e1]), e2⟩
theorem nextB_list {s : ByteArray} : nextB s = true ↔ s.data.toList = [40] ∨ s.data.toList = [46] := by
  unfold nextB
  rw [ByteArray.toList_eq]
  simp only [Bool.or_eq_true, beq_iff_eq]
theorem prevB_list {s : ByteArray} : prevB s = true ↔ s.data.toList = [44] ∨ s.data.toList = [59] ∨ s.data.toList = [46] ∨ s.data.toList = [41] := by
  unfold prevB
  rw [ByteArray.toList_eq]
  simp only [Bool.or_eq_true, beq_iff_eq, or_assoc]
theorem jn_tail (s : ByteArray) (r : List ByteArray) : Tail s (jn s r) := by
  match r with
  | [] => exact .inl rfl
  | u :: r =>
    cases hn : nextB s
    · cases hp : prevB u
      · refine .inr (.inl ⟨32, u.data.toList ++ jn u r, ?_, by decide⟩)
        show spcL s u ++ u.data.toList ++ jn u r = _
        unfold spcL; rw [hn, hp]; rfl
      · have he : jn s (u :: r) = u.data.toList ++ jn u r := by
          show spcL s u ++ u.data.toList ++ jn u r = _
          unfold spcL; rw [hn, hp]; rfl
        rw [he]
        rcases prevB_list.1 hp with h | h | h | h
        · exact .inr (.inl ⟨44, jn u r, by rw [h]; rfl, by decide⟩)
        · exact .inr (.inl ⟨59, jn u r, by rw [h]; rfl, by decide⟩)
        · exact .inr (.inl ⟨46, jn u r, by rw [h]; rfl, by decide⟩)
        · exact .inr (.inl ⟨41, jn u r, by rw [h]; rfl, by decide⟩)
    · exact .inr (.inr (nextB_list.1 hn))
theorem good_ne {s : ByteArray} (h : GoodW s) : ∃ c l, s.data.toList = c :: l ∧ c ≠ 32 := by
  obtain ⟨c, l, h1, h2⟩ := good_cases h
  refine ⟨c, l, h1, fun e => ?_⟩
  subst e
  rcases h2 with ⟨w, -⟩ | ⟨w, -⟩ | ⟨w, -⟩ | ⟨w, -⟩
  · revert w; decide
  · revert w; decide
  · revert w; decide
  · revert w; decide
theorem jn_inj : ∀ (r r' : List ByteArray) (s : ByteArray), (∀ u ∈ r, GoodW u) → (∀ u ∈ r', GoodW u) → jn s r = jn s r' → r = r'
  | [], [], _, _, _, _ => rfl
  | [], v :: r', s, _, h2, h => by
    exfalso
    obtain ⟨c, l, hc, -⟩ := good_ne (h2 v (List.mem_cons_self ..))
    have h : [] = spcL s v ++ v.data.toList ++ jn v r' := h
    rw [hc] at h
    simp at h
  | u :: r, [], s, h1, _, h => by
    exfalso
    obtain ⟨c, l, hc, -⟩ := good_ne (h1 u (List.mem_cons_self ..))
    have h : spcL s u ++ u.data.toList ++ jn u r = [] := h
    rw [hc] at h
    simp at h
  | u :: r, v :: r', s, h1, h2, h => by
    have gu := h1 u (List.mem_cons_self ..)
    have gv := h2 v (List.mem_cons_self ..)
    have h : spcL s u ++ u.data.toList ++ jn u r = spcL s v ++ v.data.toList ++ jn v r' := h
    have hx : u.data.toList ++ jn u r = v.data.toList ++ jn v r' := by
      obtain ⟨c, l, hc, hc3⟩ := good_ne gu
      obtain ⟨c', l', hc', hc3'⟩ := good_ne gv
      unfold spcL at h
      cases hn : nextB s
      · rw [hn] at h
        cases hp : prevB u
        · rw [hp] at h
          cases hq : prevB v
          · rw [hq] at h
            exact (List.cons.inj h).2
          · rw [hq] at h
            have h : (32 : UInt8) :: (u.data.toList ++ jn u r) = v.data.toList ++ jn v r' := h
            rw [hc'] at h
            exact absurd (List.cons.inj h).1.symm hc3'
        · rw [hp] at h
          cases hq : prevB v
          · rw [hq] at h
            have h : u.data.toList ++ jn u r = (32 : UInt8) :: (v.data.toList ++ jn v r') := h
            rw [hc] at h
            exact absurd (List.cons.inj h).1 hc3
          · rw [hq] at h
            exact h
      · rw [hn] at h
        exact h
    obtain ⟨e1, e2⟩ := good_cut gu gv (jn_tail u r) (jn_tail v r') hx
    subst e1
    rw [jn_inj r r' u (fun x hx => h1 x (List.mem_cons_of_mem _ hx)) (fun x hx => h2 x (List.mem_cons_of_mem _ hx)) e2]
/-- The joined text tells good words apart. -/
theorem joinS_inj {L K : List ByteArray} (hL : ∀ u ∈ L, GoodW u) (hK : ∀ u ∈ K, GoodW u) (h : joinS L = joinS K) : L = K := by
  have h : joinF L = joinF K := by rw [← joinS_list, ← joinS_list, h]
  match L, K, hL, hK, h with
  | [], [], _, _, _ => rfl
  | [], v :: K, _, hK, h =>
    obtain ⟨c, l, hc, -⟩ := good_ne (hK v (List.mem_cons_self ..))
    have h : [] = v.data.toList ++ jn v K := h
    rw [hc] at h; cases h
  | u :: L, [], hL, _, h =>
    obtain ⟨c, l, hc, -⟩ := good_ne (hL u (List.mem_cons_self ..))
    have h : u.data.toList ++ jn u L = [] := h
    rw [hc] at h; cases h
  | u :: L, v :: K, hL, hK, h =>
    obtain ⟨e1, e2⟩ := good_cut (hL u (List.mem_cons_self ..)) (hK v (List.mem_cons_self ..)) (jn_tail u L) (jn_tail v K) h
    subst e1
    rw [jn_inj L K u (fun x hx => hL x (List.mem_cons_of_mem _ hx)) (fun x hx => hK x (List.mem_cons_of_mem _ hx)) e2]
theorem dec_digits (u : Nat) : (Lib.decDigits u).all wb = true := by
  induction u using Nat.strongRecOn with
  | _ u ih =>
    have hd : ∀ d, d < 10 → wb (UInt8.ofNat (48 + d)) = true := fun d hd => by
      unfold wb
      rw [digit_nat d hd, decide_eq_true (show 48 ≤ 48 + d ∧ 48 + d ≤ 57 by omega)]; rfl
    rw [Lib.decDigits]
    split
    · rename_i h
      rw [List.all_cons, hd u h]; rfl
    · rw [List.all_append, ih (u / 10) (by omega)]
      rw [List.all_cons, hd (u % 10) (by omega)]; rfl
theorem good_word {s : ByteArray} {c : UInt8} {l : List UInt8} (h : s.data.toList = c :: l) (ha : (c :: l).all wb = true) : GoodW s := by
  refine .inl ?_
  unfold goodWB
  rw [h]
  simp only [List.all_cons, Bool.and_eq_true] at ha
  show ((wb c && l.all wb) || (ob c && l.all ob) || (db c && l.isEmpty)) = true
  rw [ha.1, ha.2]; rfl
theorem name_good {s : ByteArray} (h : nameOK s = true) : GoodW s := by
  unfold nameOK at h
  simp only [Bool.and_eq_true, decide_eq_true_eq] at h
  obtain ⟨⟨⟨h1, -⟩, -⟩, h4⟩ := h
  have hz : s.data.toList.length = s.size := by rw [Array.length_toList]; rfl
  cases hl : s.data.toList with
  | nil => rw [hl] at hz; simp at hz; omega
  | cons c l =>
    refine good_word hl ?_
    rw [hl] at h4
    rw [List.all_eq_true] at h4 ⊢
    intro x hx
    have h5 := h4 x hx
    have := byte_all (fun c => !restB c || wb c) (by decide +kernel) x
    rw [h5] at this
    simpa using this
theorem qual_good {s : ByteArray} (h : qualB s = true) (h0 : eqT s ⟨#[]⟩ = false) : GoodW s := by
  unfold qualB srcB at h
  rw [h0] at h
  simp only [Bool.false_or, Bool.or_eq_true] at h
  rcases h with (((h | h) | h) | h) | h
  · exact name_good h
  all_goals
    rw [ba_of_eqT h]
    exact .inl (by decide +kernel)
theorem src_good {s : ByteArray} (h : srcB s = true) : GoodW s := by
  unfold srcB at h
  simp only [Bool.or_eq_true] at h
  rcases h with (h | h) | h
  · exact name_good h
  all_goals
    rw [ba_of_eqT h]
    exact .inl (by decide +kernel)
theorem fmt_good {k n : Int} {s : ByteArray} (h : validB k n s = true) (hn : 0 ≤ n) : GoodW (fmtB k n s) := by
  rcases validB_cases h with ⟨rfl, rfl, rfl⟩ | ⟨rfl, rfl⟩ | ⟨rfl, hn, rfl⟩ | ⟨rfl, rfl, ht⟩
  · rw [fmtB_null]
    exact .inl (by decide +kernel)
  · rw [fmtB_num]
    have hi : Lib.itoa n = Lib.decDigits n.toNat := by unfold Lib.itoa; rw [if_neg (by omega)]
    obtain ⟨c, l, hc, -, -⟩ := dec_head n.toNat
    have hd : (⟨(Lib.itoa n).toArray⟩ : ByteArray).data.toList = c :: l := by simp [hi, hc]
    refine good_word hd ?_
    rw [← hc]
    exact dec_digits _
  · rw [fmtB_truth n hn]
    split <;> exact .inl (by decide +kernel)
  · rw [fmtB_text s ht]
    exact .inr ⟨s, rfl⟩
theorem op_good : ∀ j : Fin 14, j.val ≠ 0 → goodWB (opS j.val) = true := by decide +kernel
/-- All of these are good. -/
def GoodL (L : List ByteArray) : Prop := ∀ u ∈ L, GoodW u
theorem GoodL.app {a b : List ByteArray} (ha : GoodL a) (hb : GoodL b) : GoodL (a ++ b) := fun s hs => (List.mem_append.1 hs).elim (ha s) (hb s)
theorem GoodL.one {s : ByteArray} (h : GoodW s) : GoodL [s] := fun t ht => by obtain rfl := List.mem_singleton.1 ht; exact h
theorem GoodL.lit (L : List ByteArray) (h : L.all goodWB = true) : GoodL L := fun s hs => .inl (List.all_eq_true.1 h s hs)
theorem GoodL.nil : GoodL [] := fun s hs => by cases hs
theorem arg_good {d : Nat} {e : Ex} {i : Nat} (h : GoodL (wT d (eAt e.args i))) : GoodL (argT (wT d) e i) := by
  unfold argT
  split
  · exact ((GoodL.lit [⟨#[40]⟩] (by decide +kernel)).app h).app (.lit [⟨#[41]⟩] (by decide +kernel))
  · exact h
/-- The words of a valid tree are good. -/
theorem words_good : ∀ (d : Nat) (e : Ex), vE d e = true → GoodL (wT d e)
  | 0, _, hv => by cases hv
  | d + 1, e, hv => by
    have hV : FineV (vE d) e := vOf_iff.1 hv
    have hF := hV.fine
    have hn := hF.argn
    have hlo := hF.lo
    have hhi := hF.hi
    have hA : ∀ i, i < e.args.length → GoodL (argT (wT d) e i) := fun i hi => arg_good (words_good d _ (hF.args _ (eAt_mem hi)))
    rw [wT_succ]
    have hk : e.k = 1 ∨ e.k = 2 ∨ e.k = 3 ∨ e.k = 4 ∨ e.k = 5 ∨ e.k = 6 ∨ e.k = 7 ∨ 8 ≤ e.k := by omega
    rcases hk with hk | hk | hk | hk | hk | hk | hk | hk
    · rw [wOf_lit hk]
      exact .one (fmt_good (hV.lit hk).1 (hV.lit hk).2.1)
    · rw [wOf_col hk]
      obtain ⟨-, h2, h3⟩ := hV.col hk
      unfold colT
      refine GoodL.app ?_ (.one (name_good h3))
      cases h0 : eqT e.tb ⟨#[]⟩
      · exact GoodL.app (a := [e.tb]) (.one (qual_good h2 h0)) (.lit [⟨#[46]⟩] (by decide +kernel))
      · exact .nil
    · rw [wOf_not hk]
      exact (GoodL.lit _ (by decide +kernel)).app (hA 0 (by rw [hn, hk]; decide))
    · rw [wOf_neg hk]
      exact (GoodL.lit _ (by decide +kernel)).app (hA 0 (by rw [hn, hk]; decide))
    · rw [wOf_bin hk]
      have hop := hF.op5 hk
      exact ((hA 0 (by rw [hn, hk]; decide)).app (.one (.inl (op_good ⟨e.op.toNat, by omega⟩ (by show e.op.toNat ≠ 0; omega))))).app (hA 1 (by rw [hn, hk]; decide))
    · rw [wOf_null hk]
      refine (hA 0 (by rw [hn, hk]; decide)).app ?_
      unfold nullT
      cases e.no <;> exact .lit _ (by decide +kernel)
    · rw [wOf_btw hk]
      exact ((((hA 0 (by rw [hn, hk]; decide)).app (.lit _ (by decide +kernel))).app (hA 1 (by rw [hn, hk]; decide))).app (.lit _ (by decide +kernel))).app (hA 2 (by rw [hn, hk]; decide))
    · rw [wOf_sub hk]
      have hs1 : e.sub.length = 1 := hF.subn.trans (by unfold subN; rw [if_pos ⟨hk, hhi⟩])
      have hq : quB (vE d) e.k (qAt e.sub 0) = true := hF.sub (qAt e.sub 0) (qAt_mem (by omega))
      have hQ := quB_fine hq
      have hwh : GoodL (whT (wT d) (qAt e.sub 0).wh) := by
        unfold whT
        intro s hs
        obtain ⟨a, ha, hx⟩ := List.mem_flatMap.1 hs
        exact ((GoodL.lit [⟨#[87, 72, 69, 82, 69]⟩] (by decide +kernel)).app (words_good d a (hQ.allW a ha))) s hx
      have hfr : srcB (qAt e.sub 0).fr = true := by
        unfold quB at hq
        simp only [Bool.and_eq_true] at hq
        exact hq.1.1.2
      have hfrom : GoodL (fromT (wT d) (qAt e.sub 0)) := by
        unfold fromT
        exact (GoodL.app (a := [⟨#[70, 82, 79, 77]⟩]) (.lit _ (by decide +kernel)) (.one (src_good hfr))).app hwh
      have hhead : GoodL (headT (wT d) e.k (qAt e.sub 0)) := by
        unfold headT
        split
        · exact .lit _ (by decide +kernel)
        · split
          · exact .lit _ (by decide +kernel)
          · have hi1 : 0 < (qAt e.sub 0).items.length := by rw [hQ.items]; unfold itemN; rw [if_pos (by omega)]; decide
            have hag : GoodW (aggS e.k) := by
              unfold aggS
              repeat' split
              all_goals exact .inl (by decide +kernel)
            exact (GoodL.one hag).app (((GoodL.lit _ (by decide +kernel)).app (words_good d _ (hQ.allI _ (eAt_mem hi1)))).app (.lit _ (by decide +kernel)))
      unfold subT
      refine (((GoodL.app ?_ (.lit _ (by decide +kernel))).app hhead).app hfrom).app (.lit _ (by decide +kernel))
      split
      · exact .lit _ (by decide +kernel)
      · exact .nil
/-- Valid trees are printed alike if and only if they are the same. -/
theorem text_same {d : Nat} {a b : Ex} (ha : vE d a = true) (hb : vE d b = true) : joinS (wT d a) = joinS (wT d b) ↔ sameB d a b = true :=
  ⟨fun h => (words_same ha hb).1 (joinS_inj (words_good d a ha) (words_good d b hb) h), fun h => by rw [(words_same ha hb).2 h]⟩
end Go.Proofs.YtlpaphgmdcpmaaaGreatDoor
