/-
  Several texts in one.
-/
import Derived.Test.YtlpaphgmdcpmaaaGreatDoorPk03
import Derived.Test.YtlpaphgmdcpmaaaGreatDoorPk02
import Derived.Test.YtlpaphgmdcpmaaaGreatDoorPk01
/-
  THE TREES OF EXPRESSIONS, plain: what the functions of package syntax compute on them. No program.
-/
namespace Go.Proofs.YtlpaphgmdcpmaaaGreatDoor
set_option maxRecDepth 100000
open Go

/-- A query, with the places of its lists. -/
structure QuF (E : Type) where
  st : Bool
  pi : Option Addr
  ci : Nat
  items : List E
  fr : ByteArray
  pw : Option Addr
  cw : Nat
  wh : List E
/-- An expression, with the places of its lists. -/
inductive Ex where
  | mk (k op : Int) (no : Bool) (vk vi : Int) (vt tb nm : ByteArray) (pa : Option Addr) (ca : Nat) (args : List Ex) (ps : Option Addr) (cs : Nat) (sub : List (QuF Ex))
abbrev Qu := QuF Ex
def Ex.k : Ex → Int | .mk k _ _ _ _ _ _ _ _ _ _ _ _ _ => k
def Ex.op : Ex → Int | .mk _ x _ _ _ _ _ _ _ _ _ _ _ _ => x
def Ex.no : Ex → Bool | .mk _ _ x _ _ _ _ _ _ _ _ _ _ _ => x
def Ex.vk : Ex → Int | .mk _ _ _ x _ _ _ _ _ _ _ _ _ _ => x
def Ex.vi : Ex → Int | .mk _ _ _ _ x _ _ _ _ _ _ _ _ _ => x
def Ex.vt : Ex → ByteArray | .mk _ _ _ _ _ x _ _ _ _ _ _ _ _ => x
def Ex.tb : Ex → ByteArray | .mk _ _ _ _ _ _ x _ _ _ _ _ _ _ => x
def Ex.nm : Ex → ByteArray | .mk _ _ _ _ _ _ _ x _ _ _ _ _ _ => x
def Ex.pa : Ex → Option Addr | .mk _ _ _ _ _ _ _ _ x _ _ _ _ _ => x
def Ex.ca : Ex → Nat | .mk _ _ _ _ _ _ _ _ _ x _ _ _ _ => x
def Ex.args : Ex → List Ex | .mk _ _ _ _ _ _ _ _ _ _ x _ _ _ => x
def Ex.ps : Ex → Option Addr | .mk _ _ _ _ _ _ _ _ _ _ _ x _ _ => x
def Ex.cs : Ex → Nat | .mk _ _ _ _ _ _ _ _ _ _ _ _ x _ => x
def Ex.sub : Ex → List Qu | .mk _ _ _ _ _ _ _ _ _ _ _ _ _ x => x
def ex0 : Ex := .mk 0 0 false 0 0 ⟨#[]⟩ ⟨#[]⟩ ⟨#[]⟩ none 0 [] none 0 []
def qu0 : Qu := ⟨false, none, 0, [], ⟨#[]⟩, none, 0, []⟩
/-- The expression, the query at a place of a list. -/
def eAt (l : List Ex) (i : Nat) : Ex := l.getD i ex0
def qAt (l : List Qu) (i : Nat) : Qu := l.getD i qu0
theorem eAt_mem {l : List Ex} {i : Nat} (h : i < l.length) : eAt l i ∈ l := by
  unfold eAt; rw [List.getD, List.getElem?_eq_getElem h]; exact List.getElem_mem h
theorem eAt_get {l : List Ex} {i : Nat} (h : i < l.length) : eAt l i = l[i] := by
  unfold eAt; rw [List.getD, List.getElem?_eq_getElem h]; rfl
theorem mem_eAt {l : List Ex} {e : Ex} (h : e ∈ l) : ∃ i, i < l.length ∧ eAt l i = e := by
  obtain ⟨i, hi, rfl⟩ := List.getElem_of_mem h
  exact ⟨i, hi, eAt_get hi⟩
theorem qAt_mem {l : List Qu} {i : Nat} (h : i < l.length) : qAt l i ∈ l := by
  unfold qAt; rw [List.getD, List.getElem?_eq_getElem h]; exact List.getElem_mem h
theorem eAt_left {a b : List Ex} {i : Nat} (h : i < a.length) : eAt (a ++ b) i = eAt a i := by
  unfold eAt; rw [List.getD, List.getD, List.getElem?_append_left h]
theorem eAt_new {a : List Ex} {e : Ex} : eAt (a ++ [e]) a.length = e := by
  unfold eAt; rw [List.getD, List.getElem?_append_right (Nat.le_refl _)]; simp
theorem eAt_right {a b : List Ex} {i : Nat} (h : a.length ≤ i) : eAt (a ++ b) i = eAt b (i - a.length) := by
  unfold eAt; rw [List.getD, List.getD, List.getElem?_append_right h]

/-- The greatest of some numbers, and 0. -/
def mxN : Nat → (Nat → Int) → Int
  | 0, _ => 0
  | n + 1, f => max (mxN n f) (f n)
theorem mxN_nonneg : ∀ (n : Nat) (f : Nat → Int), 0 ≤ mxN n f
  | 0, _ => by simp [mxN]
  | n + 1, f => by have := mxN_nonneg n f; simp only [mxN]; omega
theorem mxN_ge : ∀ (n : Nat) (f : Nat → Int) (i : Nat), i < n → f i ≤ mxN n f
  | 0, _, i, h => by omega
  | n + 1, f, i, h => by
    simp only [mxN]
    by_cases hi : i = n
    · subst hi; omega
    · have := mxN_ge n f i (by omega); omega
theorem mxN_le : ∀ (n : Nat) (f : Nat → Int) (B : Int), 0 ≤ B → (∀ i, i < n → f i ≤ B) → mxN n f ≤ B
  | 0, _, B, h, _ => by simpa [mxN] using h
  | n + 1, f, B, h, hf => by
    have h1 := mxN_le n f B h fun i hi => hf i (by omega)
    have h2 := hf n (by omega)
    simp only [mxN]; omega
theorem mxN_congr : ∀ (n : Nat) (f g : Nat → Int), (∀ i, i < n → f i = g i) → mxN n f = mxN n g
  | 0, _, _, _ => rfl
  | n + 1, f, g, h => by
    simp only [mxN]
    rw [mxN_congr n f g fun i hi => h i (by omega), h n (by omega)]
/-- The greatest of some numbers of expressions. -/
def most (L : Ex → Int) (l : List Ex) : Int := mxN l.length fun i => L (eAt l i)
theorem most_nonneg (L : Ex → Int) (l : List Ex) : 0 ≤ most L l := mxN_nonneg _ _
/-- How tightly an expression binds. -/
def prec (k op : Int) : Int :=
  if k = 3 then 3 else if k = 4 then 7 else if k = 6 ∨ k = 7 then 4 else if k = 5 then
    (if op = 1 then 1 else if op = 2 then 2 else if 3 ≤ op ∧ op ≤ 8 then 4 else if op = 9 ∨ op = 10 then 5 else if 11 ≤ op ∧ op ≤ 13 then 6 else 8) else 8
/-- The least precedence of an argument without parentheses. -/
def least (k op : Int) (i : Nat) : Int :=
  if k = 3 then 3 else if k = 4 then 7 else if k = 6 ∨ k = 7 then 5 else if k = 5 then
    (if prec 5 op = 8 then 1 else if prec 5 op = 4 then 5 else prec 5 op + i) else 1
/-- Is the argument of an expression in parentheses? -/
def inPar (e : Ex) (i : Nat) : Bool := decide (prec (eAt e.args i).k (eAt e.args i).op < least e.k e.op i)
def argLev (L : Ex → Int) (e : Ex) (i : Nat) : Int := L (eAt e.args i) + if inPar e i then 1 else 0
def argsLev (L : Ex → Int) (e : Ex) : Int := mxN e.args.length (argLev L e)
def subLev (L : Ex → Int) (e : Ex) (i : Nat) : Int := max (1 + most L (qAt e.sub i).wh) (if e.k = 8 then 0 else 2 + most L (qAt e.sub i).items)
/-- The levels of an expression, by those of its parts. -/
def levOf (L : Ex → Int) (e : Ex) : Int := max (argsLev L e + if e.k = 3 ∨ e.k = 4 then 1 else 0) (mxN e.sub.length (subLev L e))
def lev : Nat → Ex → Int
  | 0 => fun _ => 0
  | d + 1 => levOf (lev d)

/-- Can a query read from this name? -/
def srcB (s : ByteArray) : Bool := nameOK s || eqT s ⟨#[73, 78, 83, 69, 82, 84, 69, 68]⟩ || eqT s ⟨#[68, 69, 76, 69, 84, 69, 68]⟩
def qualB (s : ByteArray) : Bool := eqT s ⟨#[]⟩ || srcB s || eqT s ⟨#[78, 69, 87]⟩ || eqT s ⟨#[79, 76, 68]⟩
/-- Are the fields empty that only literals and columns use? -/
def noVal (e : Ex) : Bool := decide (e.vk = 0) && decide (e.vi = 0) && eqT e.vt ⟨#[]⟩
def plainB (e : Ex) : Bool := noVal e && eqT e.tb ⟨#[]⟩ && eqT e.nm ⟨#[]⟩
/-- How many arguments a kind has. -/
def argN (k : Int) : Nat := if k = 3 ∨ k = 4 ∨ k = 6 then 1 else if k = 5 then 2 else if k = 7 then 3 else 0
def subN (k : Int) : Nat := if 8 ≤ k ∧ k ≤ 12 then 1 else 0
def itemN (k : Int) : Nat := if 10 ≤ k ∧ k ≤ 12 then 1 else 0
def quB (V : Ex → Bool) (k : Int) (q : Qu) : Bool := (q.st == decide (k = 8)) && decide (q.items.length = itemN k) && decide (q.wh.length ≤ 1) && srcB q.fr && q.items.all V && q.wh.all V
/-- Is an expression well-formed, where this is known of its parts? -/
def vOf (V : Ex → Bool) (e : Ex) : Bool :=
  decide (1 ≤ e.k ∧ e.k ≤ 12) && decide (e.args.length = argN e.k) && decide (e.sub.length = subN e.k)
  && (if e.k = 5 then decide (1 ≤ e.op ∧ e.op ≤ 13) else decide (e.op = 0)) && (!e.no || decide (e.k = 6))
  && (if e.k = 1 then validB e.vk e.vi e.vt && decide (0 ≤ e.vi) && eqT e.tb ⟨#[]⟩ && eqT e.nm ⟨#[]⟩
      else if e.k = 2 then noVal e && qualB e.tb && nameOK e.nm
      else plainB e && e.args.all V && e.sub.all (quB V e.k))
def vE : Nat → Ex → Bool
  | 0 => fun _ => false
  | d + 1 => vOf (vE d)

/-- What a well-formed expression is like. -/
structure Fine (V : Ex → Bool) (e : Ex) : Prop where
  lo : 1 ≤ e.k
  hi : e.k ≤ 12
  argn : e.args.length = argN e.k
  subn : e.sub.length = subN e.k
  op5 : e.k = 5 → 1 ≤ e.op ∧ e.op ≤ 13
  op0 : e.k ≠ 5 → e.op = 0
  no6 : e.k ≠ 6 → e.no = false
  args : ∀ a ∈ e.args, V a = true
  sub : ∀ q ∈ e.sub, quB V e.k q = true
theorem vOf_fine {V : Ex → Bool} {e : Ex} (h : vOf V e = true) : Fine V e := by
  unfold vOf at h
  simp only [Bool.and_eq_true, decide_eq_true_eq] at h
  obtain ⟨⟨⟨⟨⟨h1, h2⟩, h3⟩, h4⟩, h5⟩, h6⟩ := h
  refine ⟨h1.1, h1.2, h2, h3, fun hk => ?_, fun hk => ?_, fun hk => ?_, fun a ha => ?_, fun q hq => ?_⟩
  · rw [if_pos hk] at h4; exact of_decide_eq_true h4
  · rw [if_neg hk] at h4; exact of_decide_eq_true h4
  · cases hn : e.no
    · rfl
    · rw [hn] at h5; simp at h5; exact absurd h5 hk
  · by_cases hk1 : e.k = 1
    · rw [hk1] at h2; have h2 : e.args.length = 0 := h2; have := List.length_pos_of_mem ha; omega
    · by_cases hk2 : e.k = 2
      · rw [hk2] at h2; have h2 : e.args.length = 0 := h2; have := List.length_pos_of_mem ha; omega
      · rw [if_neg hk1, if_neg hk2] at h6
        simp only [Bool.and_eq_true, List.all_eq_true] at h6
        exact h6.1.2 a ha
  · by_cases hk1 : e.k = 1
    · rw [hk1] at h3; have h3 : e.sub.length = 0 := h3; have := List.length_pos_of_mem hq; omega
    · by_cases hk2 : e.k = 2
      · rw [hk2] at h3; have h3 : e.sub.length = 0 := h3; have := List.length_pos_of_mem hq; omega
      · rw [if_neg hk1, if_neg hk2] at h6
        simp only [Bool.and_eq_true, List.all_eq_true] at h6
        exact h6.2 q hq
structure FineQ (V : Ex → Bool) (k : Int) (q : Qu) : Prop where
  st : q.st = decide (k = 8)
  items : q.items.length = itemN k
  wh : q.wh.length ≤ 1
  allI : ∀ a ∈ q.items, V a = true
  allW : ∀ a ∈ q.wh, V a = true
theorem quB_fine {V : Ex → Bool} {k : Int} {q : Qu} (h : quB V k q = true) : FineQ V k q := by
  unfold quB at h
  simp only [Bool.and_eq_true, decide_eq_true_eq, List.all_eq_true, beq_iff_eq] at h
  obtain ⟨⟨⟨⟨⟨h1, h2⟩, h3⟩, h4⟩, h5⟩, h6⟩ := h
  exact ⟨h1, h2, h3, h5, h6⟩
theorem Fine.noArgs {V : Ex → Bool} {e : Ex} (h : Fine V e) (hk : argN e.k = 0) : e.args = [] := List.eq_nil_of_length_eq_zero (h.argn.trans hk)
theorem Fine.noSub {V : Ex → Bool} {e : Ex} (h : Fine V e) (hk : subN e.k = 0) : e.sub = [] := List.eq_nil_of_length_eq_zero (h.subn.trans hk)
theorem lev_nonneg (d : Nat) (e : Ex) : 0 ≤ lev d e := by
  cases d with
  | zero => simp [lev]
  | succ d => have := mxN_nonneg e.sub.length (subLev (lev d) e); show 0 ≤ levOf _ _; unfold levOf; omega
theorem levOf_le {L : Ex → Int} {B : Int} (hB : 0 ≤ B) (h : ∀ e, L e ≤ B) (e : Ex) : levOf L e ≤ B + 2 := by
  have hm : ∀ l : List Ex, most L l ≤ B := fun l => mxN_le _ _ _ hB fun i _ => h _
  have h1 : argsLev L e ≤ B + 1 := mxN_le _ _ _ (by omega) fun i _ => by
    have := h (eAt e.args i)
    unfold argLev; split <;> omega
  have h2 : mxN e.sub.length (subLev L e) ≤ B + 2 := mxN_le _ _ _ (by omega) fun i _ => by
    have h3 := hm (qAt e.sub i).wh
    have h4 := hm (qAt e.sub i).items
    unfold subLev; split <;> omega
  unfold levOf
  split <;> omega
theorem lev_le : ∀ (d : Nat) (e : Ex), lev d e ≤ 2 * d
  | 0, e => by simp [lev]
  | d + 1, e => by
    have := levOf_le (L := lev d) (B := 2 * d) (by omega) (lev_le d) e
    show levOf (lev d) e ≤ _
    omega
theorem argsLev_nonneg (L : Ex → Int) (e : Ex) : 0 ≤ argsLev L e := mxN_nonneg _ _
/-- The levels, as package syntax adds them up, by the kind. -/
theorem lev_leaf {V : Ex → Bool} {L : Ex → Int} {e : Ex} (h : Fine V e) (hk : e.k = 1 ∨ e.k = 2) : levOf L e = 0 := by
  have ha : e.args = [] := h.noArgs (by rcases hk with h | h <;> rw [h] <;> rfl)
  have hs : e.sub = [] := h.noSub (by rcases hk with h | h <;> rw [h] <;> rfl)
  have : ¬ (e.k = 3 ∨ e.k = 4) := by omega
  unfold levOf argsLev
  rw [ha, hs, if_neg this]; rfl
theorem lev_one {V : Ex → Bool} {L : Ex → Int} {e : Ex} (h : Fine V e) (hk : e.k = 3 ∨ e.k = 4) : levOf L e = 1 + argsLev L e := by
  have hs : e.sub = [] := h.noSub (by rcases hk with h | h <;> rw [h] <;> rfl)
  have := argsLev_nonneg L e
  unfold levOf
  rw [hs, if_pos hk]; simp only [List.length_nil, mxN]; omega
theorem lev_args {V : Ex → Bool} {L : Ex → Int} {e : Ex} (h : Fine V e) (hk : e.k = 5 ∨ e.k = 6 ∨ e.k = 7) : levOf L e = argsLev L e := by
  have hs : e.sub = [] := h.noSub (by rcases hk with h | h | h <;> rw [h] <;> rfl)
  have := argsLev_nonneg L e
  unfold levOf
  rw [hs, if_neg (by omega)]; simp only [List.length_nil, mxN]; omega
def condLev (L : Ex → Int) (l : List Qu) : Int := mxN l.length fun i => most L (qAt l i).wh
def itemLev (L : Ex → Int) (l : List Qu) : Int := mxN l.length fun i => most L (qAt l i).items
theorem lev_sub {V : Ex → Bool} {L : Ex → Int} {e : Ex} (h : Fine V e) (hk : 8 ≤ e.k) : ∃ q, e.sub = [q] ∧ FineQ V e.k q ∧ condLev L e.sub = most L q.wh ∧ itemLev L e.sub = most L q.items
    ∧ levOf L e = max (1 + most L q.wh) (if e.k = 8 then 0 else 2 + most L q.items) := by
  have h12 := h.hi
  have hs : e.sub.length = 1 := h.subn.trans (by unfold subN; rw [if_pos ⟨hk, h12⟩])
  have ha : e.args = [] := h.noArgs (by unfold argN; rw [if_neg (by omega), if_neg (by omega), if_neg (by omega)])
  obtain ⟨q, hq⟩ := List.length_eq_one_iff.1 hs
  have h1 := most_nonneg L q.wh
  have h2 := most_nonneg L q.items
  have e0 : qAt [q] 0 = q := rfl
  refine ⟨q, hq, quB_fine (h.sub q (by rw [hq]; exact List.mem_cons_self)), ?_, ?_, ?_⟩
  · unfold condLev; rw [hq]; simp only [List.length_singleton, mxN, e0]; omega
  · unfold itemLev; rw [hq]; simp only [List.length_singleton, mxN, e0]; omega
  · unfold levOf argsLev subLev
    rw [ha, hq, if_neg (by omega)]
    simp only [List.length_singleton, List.length_nil, mxN, e0]
    split <;> omega
theorem lev_exists {V : Ex → Bool} {L : Ex → Int} {e : Ex} (h : Fine V e) (hk : e.k = 8) : levOf L e = 1 + condLev L e.sub := by
  obtain ⟨q, h1, h2, h3, h4, h5⟩ := lev_sub (L := L) h (by omega)
  have := most_nonneg L q.wh
  rw [h5, h3, if_pos hk]; omega
theorem lev_count {V : Ex → Bool} {L : Ex → Int} {e : Ex} (h : Fine V e) (hk : e.k = 9) : levOf L e = max 2 (1 + condLev L e.sub) := by
  obtain ⟨q, h1, h2, h3, h4, h5⟩ := lev_sub (L := L) h (by omega)
  have hi : q.items = [] := List.eq_nil_of_length_eq_zero (h2.items.trans (by rw [hk]; rfl))
  rw [h5, h3, if_neg (by omega), hi]; simp only [most, List.length_nil, mxN]; omega
theorem lev_sum {V : Ex → Bool} {L : Ex → Int} {e : Ex} (h : Fine V e) (hk : 10 ≤ e.k) : levOf L e = max (2 + itemLev L e.sub) (1 + condLev L e.sub) := by
  obtain ⟨q, h1, h2, h3, h4, h5⟩ := lev_sub (L := L) h (by omega)
  rw [h5, h3, h4, if_neg (by omega)]; omega
theorem lev_arg (L : Ex → Int) (e : Ex) {i : Nat} (hi : i < e.args.length) : L (eAt e.args i) + (if e.k = 3 then 1 else 0) ≤ levOf L e := by
  have h1 := mxN_ge e.args.length (argLev L e) i hi
  have h2 : L (eAt e.args i) ≤ argLev L e i := by unfold argLev; split <;> omega
  have h3 : argsLev L e + (if e.k = 3 ∨ e.k = 4 then 1 else 0) ≤ levOf L e := by unfold levOf; omega
  unfold argsLev at h3
  by_cases hk : e.k = 3
  · rw [if_pos hk]; rw [if_pos (.inl hk)] at h3; omega
  · rw [if_neg hk]; split at h3 <;> omega
theorem lev_wh (L : Ex → Int) (e : Ex) {i j : Nat} (hi : i < e.sub.length) (hj : j < (qAt e.sub i).wh.length) : L (eAt (qAt e.sub i).wh j) < levOf L e := by
  have h1 := mxN_ge e.sub.length (subLev L e) i hi
  have h2 := mxN_ge (qAt e.sub i).wh.length (fun j => L (eAt (qAt e.sub i).wh j)) j hj
  have h3 : 1 + most L (qAt e.sub i).wh ≤ subLev L e i := by unfold subLev; omega
  have h4 : mxN e.sub.length (subLev L e) ≤ levOf L e := by unfold levOf; omega
  unfold most at h3
  omega
theorem lev_item {V : Ex → Bool} (L : Ex → Int) (e : Ex) (h : Fine V e) {i j : Nat} (hi : i < e.sub.length) (hj : j < (qAt e.sub i).items.length) : L (eAt (qAt e.sub i).items j) < levOf L e := by
  have h1 := mxN_ge e.sub.length (subLev L e) i hi
  have h2 := mxN_ge (qAt e.sub i).items.length (fun j => L (eAt (qAt e.sub i).items j)) j hj
  have hq : qAt e.sub i ∈ e.sub := by unfold qAt; rw [List.getD, List.getElem?_eq_getElem hi]; exact List.getElem_mem hi
  have hk : e.k ≠ 8 := by
    intro hk
    have := (quB_fine (h.sub _ hq)).items
    rw [hk] at this
    have : (qAt e.sub i).items.length = 0 := this
    omega
  have h3 : 2 + most L (qAt e.sub i).items ≤ subLev L e i := by unfold subLev; rw [if_neg hk]; omega
  have h4 : mxN e.sub.length (subLev L e) ≤ levOf L e := by unfold levOf; omega
  unfold most at h3
  omega
end Go.Proofs.YtlpaphgmdcpmaaaGreatDoor
/-
  Boxes of three cells that a call has made, one, two or three behind one another, and that they stay.
-/
namespace Go.Proofs.YtlpaphgmdcpmaaaGreatDoor
set_option maxRecDepth 100000
open Go.RowKit

/-- A box of three cells that may be written. -/
structure Cell3 (u : World) (X : Nat) (x y z : Value) : Prop where
  lt : X < u.heap.size
  c0 : u.cell? ⟨X, 0, none⟩ = some x
  c1 : u.cell? ⟨X, 1, none⟩ = some y
  c2 : u.cell? ⟨X, 2, none⟩ = some z
  fz : ∀ o, u.frozen? ⟨X, o, none⟩ = false
theorem Cell3.low {u v : World} {X : Nat} {x y z : Value} (h : Cell3 u X x y z) (hb : Below u.heap.size u v) : Cell3 v X x y z :=
  ⟨Nat.lt_of_lt_of_le h.lt hb.size, by rw [hb.cell (by exact h.lt)]; exact h.c0, by rw [hb.cell (by exact h.lt)]; exact h.c1, by rw [hb.cell (by exact h.lt)]; exact h.c2, fun o => by rw [hb.frozen (by exact h.lt)]; exact h.fz o⟩
theorem cell3_new (w : World) (x y z : Value) (t : TypeId) : Cell3 (w.alloc (.cells #[x, y, z] t)) w.heap.size x y z := by
  refine ⟨by simp, ?_, ?_, ?_, fun o => ?_⟩
  all_goals go_simp
theorem Cell3.at {u : World} {X Y : Nat} {x y z : Value} (h : Cell3 u X x y z) (e : X = Y) : Cell3 u Y x y z := e ▸ h
theorem below_alloc (u : World) (o : Obj) : Below u.heap.size u (u.alloc o) := (Below.refl _ _).alloc (Nat.le_refl _) _
theorem size_alloc (u : World) (o : Obj) : (u.alloc o).heap.size = u.heap.size + 1 := by simp

theorem box_one (w : World) (x y z : Value) (t : TypeId) {w' : World} (hb : Below (w.alloc (.cells #[x, y, z] t)).heap.size (w.alloc (.cells #[x, y, z] t)) w') :
    Cell3 w' w.heap.size x y z ∧ Below w.heap.size w w' :=
  ⟨(cell3_new _ _ _ _ _).low hb, Below.of_alloc hb⟩
theorem box_two (w : World) (x y z x' y' z' : Value) (t t' : TypeId) {w' : World} (hb : Below ((w.alloc (.cells #[x, y, z] t)).alloc (.cells #[x', y', z'] t')).heap.size ((w.alloc (.cells #[x, y, z] t)).alloc (.cells #[x', y', z'] t')) w') :
    Cell3 w' w.heap.size x y z ∧ Cell3 w' (w.heap.size + 1) x' y' z' ∧ Below w.heap.size w w' :=
  ⟨((cell3_new _ _ _ _ _).low (below_alloc _ _)).low hb, ((cell3_new _ _ _ _ _).low hb).at (size_alloc _ _), Below.of_alloc (Below.of_alloc hb)⟩
theorem box_three (w : World) (x y z x' y' z' x2 y2 z2 : Value) (t t' t2 : TypeId) {w' : World} (hb : Below (((w.alloc (.cells #[x, y, z] t)).alloc (.cells #[x', y', z'] t')).alloc (.cells #[x2, y2, z2] t2)).heap.size (((w.alloc (.cells #[x, y, z] t)).alloc (.cells #[x', y', z'] t')).alloc (.cells #[x2, y2, z2] t2)) w') :
    Cell3 w' w.heap.size x y z ∧ Cell3 w' (w.heap.size + 1) x' y' z' ∧ Cell3 w' (w.heap.size + 2) x2 y2 z2 ∧ Below w.heap.size w w' :=
  ⟨(((cell3_new _ _ _ _ _).low (below_alloc _ _)).low (below_alloc _ _)).low hb, (((cell3_new _ _ _ _ _).low (below_alloc _ _)).low hb).at (size_alloc _ _), ((cell3_new _ _ _ _ _).low hb).at (by rw [size_alloc, size_alloc]), Below.of_alloc (Below.of_alloc (Below.of_alloc hb))⟩

/-- Three stores into a new box turn nothing old. -/
theorem Below.three {w u : World} (h : Below w.heap.size w u) {X : Nat} (hX : w.heap.size ≤ X) (x y z : Value) :
    Below w.heap.size w (((u.setCell ⟨X, 0, none⟩ x).setCell ⟨X, 1, none⟩ y).setCell ⟨X, 2, none⟩ z) :=
  ((h.setCell (by exact hX) _).setCell (by exact hX) _).setCell (by exact hX) _
theorem Below.three0 {w u : World} (h : Below w.heap.size w u) (x y z : Value) :
    Below w.heap.size w (((u.setCell ⟨w.heap.size, 0, none⟩ x).setCell ⟨w.heap.size, 1, none⟩ y).setCell ⟨w.heap.size, 2, none⟩ z) := Below.three h (Nat.le_refl _) x y z
theorem Below.three1 {w u : World} (h : Below w.heap.size w u) (x y z : Value) :
    Below w.heap.size w (((u.setCell ⟨w.heap.size + 1, 0, none⟩ x).setCell ⟨w.heap.size + 1, 1, none⟩ y).setCell ⟨w.heap.size + 1, 2, none⟩ z) := Below.three h (Nat.le_succ _) x y z
theorem Below.three2 {w u : World} (h : Below w.heap.size w u) (x y z : Value) :
    Below w.heap.size w (((u.setCell ⟨w.heap.size + 2, 0, none⟩ x).setCell ⟨w.heap.size + 2, 1, none⟩ y).setCell ⟨w.heap.size + 2, 2, none⟩ z) := Below.three h (Nat.le_add_right _ 2) x y z

/-- What a cell holds, by a name that the walk does not open: for a box that a region writes. -/
def rd (u : World) (b o : Nat) : Value := (u.cell? ⟨b, o, none⟩).getD (.bool false)
theorem rd_some {u : World} {b o : Nat} {v : Value} (h : u.cell? ⟨b, o, none⟩ = some v) : u.cell? ⟨b, o, none⟩ = some (rd u b o) := by unfold rd; rw [h]; rfl
/-- A box of three cells that may be written, whatever it holds. -/
abbrev May3 (u : World) (X : Nat) : Prop := u.cell? ⟨X, 0, none⟩ = some (rd u X 0) ∧ u.cell? ⟨X, 1, none⟩ = some (rd u X 1) ∧ u.cell? ⟨X, 2, none⟩ = some (rd u X 2) ∧ ∀ o, u.frozen? ⟨X, o, none⟩ = false
theorem Cell3.may {u : World} {X : Nat} {x y z : Value} (h : Cell3 u X x y z) : May3 u X := ⟨rd_some h.c0, rd_some h.c1, rd_some h.c2, h.fz⟩
theorem may_low {u v : World} {X : Nat} (h : May3 u X) (hX : X < u.heap.size) (hb : Below u.heap.size u v) : May3 v X :=
  ⟨rd_some (by rw [hb.cell (by exact hX)]; exact h.1), rd_some (by rw [hb.cell (by exact hX)]; exact h.2.1), rd_some (by rw [hb.cell (by exact hX)]; exact h.2.2.1), fun o => by rw [hb.frozen (by exact hX)]; exact h.2.2.2 o⟩
theorem cell3_set {u : World} {X : Nat} {a b c : Value} (h : Cell3 u X a b c) (x y z : Value) : Cell3 (((u.setCell ⟨X, 0, none⟩ x).setCell ⟨X, 1, none⟩ y).setCell ⟨X, 2, none⟩ z) X x y z := by
  obtain ⟨hl, c0, c1, c2, fz⟩ := h
  refine ⟨by simpa [World.setCell] using hl, ?_, ?_, ?_, fun o => ?_⟩
  · go_simp
  · go_simp
  · go_simp
  · rw [World.frozen?_setCell, World.frozen?_setCell, World.frozen?_setCell]; exact fz o
theorem cell3_far {u : World} {X Y : Nat} (hn : X ≠ Y) (x y z : Value) (o : Nat) : (((u.setCell ⟨Y, 0, none⟩ x).setCell ⟨Y, 1, none⟩ y).setCell ⟨Y, 2, none⟩ z).cell? ⟨X, o, none⟩ = u.cell? ⟨X, o, none⟩ := by
  rw [World.cell?_of_block (w := (u.setCell ⟨Y, 0, none⟩ x).setCell ⟨Y, 1, none⟩ y) (Below.heap_setCell _ _ _ _ hn), World.cell?_of_block (w := u.setCell ⟨Y, 0, none⟩ x) (Below.heap_setCell _ _ _ _ hn), World.cell?_of_block (w := u) (Below.heap_setCell _ _ _ _ hn)]
theorem set3_read {u : World} {X : Nat} {x y z a b c : Value} (h0 : (((u.setCell ⟨X, 0, none⟩ x).setCell ⟨X, 1, none⟩ y).setCell ⟨X, 2, none⟩ z).cell? ⟨X, 0, none⟩ = some a)
    (h1 : (((u.setCell ⟨X, 0, none⟩ x).setCell ⟨X, 1, none⟩ y).setCell ⟨X, 2, none⟩ z).cell? ⟨X, 1, none⟩ = some b) (h2 : (((u.setCell ⟨X, 0, none⟩ x).setCell ⟨X, 1, none⟩ y).setCell ⟨X, 2, none⟩ z).cell? ⟨X, 2, none⟩ = some c) :
    a = x ∧ b = y ∧ c = z := by
  unfold World.cell? World.setCell at h0 h1 h2
  simp only [Array.getElem?_modify] at h0 h1 h2
  cases hx : u.heap[X]? with
  | none => simp [hx] at h0
  | some o =>
    cases o with
    | cells cs t f =>
      simp [hx, Array.getElem?_setIfInBounds] at h0 h1 h2
      exact ⟨h0.2.symm, h1.2.symm, h2.2.symm⟩
    | _ => simp [hx] at h0
theorem size_set3 (u : World) (Y : Nat) (x y z : Value) : (((u.setCell ⟨Y, 0, none⟩ x).setCell ⟨Y, 1, none⟩ y).setCell ⟨Y, 2, none⟩ z).heap.size = u.heap.size := by simp [World.setCell]
end Go.Proofs.YtlpaphgmdcpmaaaGreatDoor
/-
  Columns in memory; Find and KeyColumn, of the program and of the reference.
-/
namespace Go.Proofs.YtlpaphgmdcpmaaaGreatDoor
set_option maxRecDepth 100000
open Go.RowKit
variable {ls : List Nat}

/-- A box of two cells that may be written. -/
structure Cell2 (u : World) (X : Nat) (x y : Value) : Prop where
  lt : X < u.heap.size
  c0 : u.cell? ⟨X, 0, none⟩ = some x
  c1 : u.cell? ⟨X, 1, none⟩ = some y
  fz : ∀ o, u.frozen? ⟨X, o, none⟩ = false
theorem Cell2.low {u v : World} {X : Nat} {x y : Value} (h : Cell2 u X x y) (hb : Below u.heap.size u v) : Cell2 v X x y :=
  ⟨Nat.lt_of_lt_of_le h.lt hb.size, by rw [hb.cell (by exact h.lt)]; exact h.c0, by rw [hb.cell (by exact h.lt)]; exact h.c1, fun o => by rw [hb.frozen (by exact h.lt)]; exact h.fz o⟩
theorem cell2_new (w : World) (x y : Value) (t : TypeId) : Cell2 (w.alloc (.cells #[x, y] t)) w.heap.size x y := by
  refine ⟨by simp, ?_, ?_, fun o => ?_⟩
  all_goals go_simp
/-- A box of four cells that may be written. -/
structure Cell4 (u : World) (X : Nat) (a b c d : Value) : Prop where
  lt : X < u.heap.size
  c0 : u.cell? ⟨X, 0, none⟩ = some a
  c1 : u.cell? ⟨X, 1, none⟩ = some b
  c2 : u.cell? ⟨X, 2, none⟩ = some c
  c3 : u.cell? ⟨X, 3, none⟩ = some d
  fz : ∀ o, u.frozen? ⟨X, o, none⟩ = false
theorem Cell4.low {u v : World} {X : Nat} {a b c d : Value} (h : Cell4 u X a b c d) (hb : Below u.heap.size u v) : Cell4 v X a b c d :=
  ⟨Nat.lt_of_lt_of_le h.lt hb.size, by rw [hb.cell (by exact h.lt)]; exact h.c0, by rw [hb.cell (by exact h.lt)]; exact h.c1, by rw [hb.cell (by exact h.lt)]; exact h.c2, by rw [hb.cell (by exact h.lt)]; exact h.c3, fun o => by rw [hb.frozen (by exact h.lt)]; exact h.fz o⟩
theorem cell4_new (w : World) (a b c d : Value) (t : TypeId) : Cell4 (w.alloc (.cells #[a, b, c, d] t)) w.heap.size a b c d := by
  refine ⟨by simp, ?_, ?_, ?_, ?_, fun o => ?_⟩
  all_goals go_simp
theorem Cell2.at {u : World} {X Y : Nat} {x y : Value} (h : Cell2 u X x y) (e : X = Y) : Cell2 u Y x y := e ▸ h
theorem Cell4.at {u : World} {X Y : Nat} {a b c d : Value} (h : Cell4 u X a b c d) (e : X = Y) : Cell4 u Y a b c d := e ▸ h

/-- The cells of a column. -/
def colV (c : Col) : Value := .agg #[.string c.nm, .int .i64 c.ty, .bool c.nn, .bool c.key]
def schV (nm : ByteArray) (p : Option Addr) (n cap : Nat) : Value := .agg #[.string nm, .slice p n cap]
/-- A slice of columns. -/
def ColsAt (w : World) (p : Option Addr) (n : Nat) (f : Nat → Col) : Prop :=
  ∀ i, i < n → ∃ (c o : Nat), p = some ⟨c, o, none⟩ ∧ c < w.heap.size ∧ (f i).nm.size ≤ 9223372036854775807
    ∧ w.cell? ⟨c, o + i * 4, none⟩ = some (.string (f i).nm) ∧ w.cell? ⟨c, o + i * 4 + 1, none⟩ = some (.int .i64 (f i).ty) ∧ w.cell? ⟨c, o + i * 4 + 2, none⟩ = some (.bool (f i).nn) ∧ w.cell? ⟨c, o + i * 4 + 3, none⟩ = some (.bool (f i).key)
theorem ColsAt.keep {u v : World} {p : Option Addr} {n : Nat} {f : Nat → Col} (h : ColsAt u p n f) (hz : u.heap.size ≤ v.heap.size) (hk : ∀ a, p = some a → v.heap[a.block]? = u.heap[a.block]?) : ColsAt v p n f := by
  intro i hi
  obtain ⟨c, o, hp, hc, hs, h0, h1, h2, h3⟩ := h i hi
  have hb : v.heap[c]? = u.heap[c]? := hk _ hp
  exact ⟨c, o, hp, by omega, hs, by rw [World.cell?_of_block (w := u) hb]; exact h0, by rw [World.cell?_of_block (w := u) hb]; exact h1, by rw [World.cell?_of_block (w := u) hb]; exact h2, by rw [World.cell?_of_block (w := u) hb]; exact h3⟩
theorem ColsAt.low {u v : World} {p : Option Addr} {n : Nat} {f : Nat → Col} (h : ColsAt u p n f) (hb : Below u.heap.size u v) : ColsAt v p n f := by
  intro i hi
  obtain ⟨c, o, hp, hc, hs, h0, h1, h2, h3⟩ := h i hi
  have hk := hb.block c hc
  exact ⟨c, o, hp, Nat.lt_of_lt_of_le hc hb.size, hs, by rw [World.cell?_of_block (w := u) hk]; exact h0, by rw [World.cell?_of_block (w := u) hk]; exact h1, by rw [World.cell?_of_block (w := u) hk]; exact h2, by rw [World.cell?_of_block (w := u) hk]; exact h3⟩
theorem below_next {w u v : World} (h : Below w.heap.size w u) (k : Below u.heap.size u v) : Below w.heap.size w v := h.trans (k.mono h.size)
theorem below_new {w u : World} (h : Below w.heap.size w u) (o : Obj) : Below w.heap.size w (u.alloc o) := h.alloc h.size o
theorem four_one {w w' : World} {a b c d : Value} {t : TypeId} (hb : Below (w.alloc (.cells #[a, b, c, d] t)).heap.size (w.alloc (.cells #[a, b, c, d] t)) w') : Cell4 w' w.heap.size a b c d ∧ Below w.heap.size w w' :=
  ⟨(cell4_new _ _ _ _ _ _).low hb, Below.of_alloc hb⟩
theorem two_one {w w' : World} {a b : Value} {t : TypeId} (hb : Below (w.alloc (.cells #[a, b] t)).heap.size (w.alloc (.cells #[a, b] t)) w') : Cell2 w' w.heap.size a b ∧ Below w.heap.size w w' :=
  ⟨(cell2_new _ _ _ _).low hb, Below.of_alloc hb⟩
theorem cols_at {u : World} {X Y n : Nat} {f : Nat → Col} (e : X = Y) (h : ColsAt u (some ⟨X, 0, none⟩) n f) : ColsAt u (some ⟨Y, 0, none⟩) n f := e ▸ h
theorem ColsAt.set {u : World} {p : Option Addr} {n : Nat} {f : Nat → Col} (h : ColsAt u p n f) {a : Addr} (hp : ∀ q, p = some q → q.block ≠ a.block) (v : Value) : ColsAt (u.setCell a v) p n f :=
  h.keep (by simp [World.setCell]) fun q hq => Below.heap_setCell _ _ _ _ (hp q hq)
theorem cell2_set {u : World} {X : Nat} {a b : Value} (h : Cell2 u X a b) (x y : Value) : Cell2 ((u.setCell ⟨X, 0, none⟩ x).setCell ⟨X, 1, none⟩ y) X x y := by
  obtain ⟨hl, c0, c1, fz⟩ := h
  refine ⟨by simpa [World.setCell] using hl, ?_, ?_, fun o => ?_⟩
  · go_simp
  · go_simp
  · rw [World.frozen?_setCell, World.frozen?_setCell]; exact fz o
end Go.Proofs.YtlpaphgmdcpmaaaGreatDoor
/-
  TREES OF EXPRESSIONS IN MEMORY.
-/
namespace Go.Proofs.YtlpaphgmdcpmaaaGreatDoor
set_option maxRecDepth 100000
open Go.RowKit
variable {ls : List Nat}

/-- The value of an expression, of a query. -/
def exV (e : Ex) : Value := .agg #[.int .i64 e.k, .int .i64 e.op, .bool e.no, .int .i64 e.vk, .int .i64 e.vi, .string e.vt, .string e.tb, .string e.nm, .slice e.pa e.args.length e.ca, .slice e.ps e.sub.length e.cs]
def quV (q : Qu) : Value := .agg #[.bool q.st, .slice q.pi q.items.length q.ci, .string q.fr, .slice q.pw q.wh.length q.cw]
/-- The cells of an expression, of a query. -/
structure ExC (w : World) (c o : Nat) (e : Ex) : Prop where
  c0 : w.cell? ⟨c, o, none⟩ = some (.int .i64 e.k)
  c1 : w.cell? ⟨c, o + 1, none⟩ = some (.int .i64 e.op)
  c2 : w.cell? ⟨c, o + 2, none⟩ = some (.bool e.no)
  c3 : w.cell? ⟨c, o + 3, none⟩ = some (.int .i64 e.vk)
  c4 : w.cell? ⟨c, o + 4, none⟩ = some (.int .i64 e.vi)
  c5 : w.cell? ⟨c, o + 5, none⟩ = some (.string e.vt)
  c6 : w.cell? ⟨c, o + 6, none⟩ = some (.string e.tb)
  c7 : w.cell? ⟨c, o + 7, none⟩ = some (.string e.nm)
  c8 : w.cell? ⟨c, o + 8, none⟩ = some (.slice e.pa e.args.length e.ca)
  c9 : w.cell? ⟨c, o + 9, none⟩ = some (.slice e.ps e.sub.length e.cs)
structure QuC (w : World) (c o : Nat) (q : Qu) : Prop where
  c0 : w.cell? ⟨c, o, none⟩ = some (.bool q.st)
  c1 : w.cell? ⟨c, o + 1, none⟩ = some (.slice q.pi q.items.length q.ci)
  c2 : w.cell? ⟨c, o + 2, none⟩ = some (.string q.fr)
  c3 : w.cell? ⟨c, o + 3, none⟩ = some (.slice q.pw q.wh.length q.cw)
theorem ExC.keep {u v : World} {c o : Nat} {e : Ex} (h : ExC u c o e) (hk : v.heap[c]? = u.heap[c]?) : ExC v c o e := by
  have hc : ∀ o, v.cell? ⟨c, o, none⟩ = u.cell? ⟨c, o, none⟩ := fun o => World.cell?_of_block (w := u) hk
  exact ⟨(hc _).trans h.c0, (hc _).trans h.c1, (hc _).trans h.c2, (hc _).trans h.c3, (hc _).trans h.c4, (hc _).trans h.c5, (hc _).trans h.c6, (hc _).trans h.c7, (hc _).trans h.c8, (hc _).trans h.c9⟩
theorem QuC.keep {u v : World} {c o : Nat} {q : Qu} (h : QuC u c o q) (hk : v.heap[c]? = u.heap[c]?) : QuC v c o q := by
  have hc : ∀ o, v.cell? ⟨c, o, none⟩ = u.cell? ⟨c, o, none⟩ := fun o => World.cell?_of_block (w := u) hk
  exact ⟨(hc _).trans h.c0, (hc _).trans h.c1, (hc _).trans h.c2, (hc _).trans h.c3⟩
/-- A list of expressions, a list of queries in memory; of each block that they lie in, N; of each of them, P. -/
def LAt (N : Nat → Prop) (w : World) (P : Ex → Prop) (p : Option Addr) (l : List Ex) : Prop :=
  ∀ i, i < l.length → ∃ c o : Nat, p = some ⟨c, o, none⟩ ∧ c < w.heap.size ∧ N c ∧ ExC w c (o + i * 10) (eAt l i) ∧ P (eAt l i)
/-- What a query has besides its cells. -/
structure QuIn (N : Nat → Prop) (w : World) (P : Ex → Prop) (q : Qu) : Prop where
  size : q.fr.size ≤ 9223372036854775807
  leni : q.items.length ≤ 9223372036854775807
  lenw : q.wh.length ≤ 9223372036854775807
  items : LAt N w P q.pi q.items
  wh : LAt N w P q.pw q.wh
def QAt (N : Nat → Prop) (w : World) (P : Ex → Prop) (p : Option Addr) (l : List Qu) : Prop :=
  ∀ i, i < l.length → ∃ c o : Nat, p = some ⟨c, o, none⟩ ∧ c < w.heap.size ∧ N c ∧ QuC w c (o + i * 4) (qAt l i) ∧ QuIn N w P (qAt l i)
/-- A number of 64 bits. -/
abbrev I64 (z : Int) : Prop := -9223372036854775808 ≤ z ∧ z ≤ 9223372036854775807
theorem i64_zero : I64 0 := by decide
/-- What an expression has besides its cells, its parts known by P. -/
structure ExIn (N : Nat → Prop) (w : World) (P : Ex → Prop) (e : Ex) : Prop where
  vt : e.vt.size ≤ 9223372036854775807
  tb : e.tb.size ≤ 9223372036854775807
  nm : e.nm.size ≤ 9223372036854775807
  lena : e.args.length ≤ 9223372036854775807
  lens : e.sub.length ≤ 9223372036854775807
  args : LAt N w P e.pa e.args
  sub : QAt N w P e.ps e.sub
  vi : I64 e.vi := by exact i64_zero
/-- A tree of at most d storeys in memory. -/
def ExAt (N : Nat → Prop) (w : World) : Nat → Ex → Prop
  | 0 => fun _ => False
  | d + 1 => ExIn N w (ExAt N w d)
/-- What stays when blocks with N stay. -/
theorem LAt.keep {N M : Nat → Prop} {u v : World} {P Q : Ex → Prop} {p : Option Addr} {l : List Ex} (h : LAt N u P p l) (hz : u.heap.size ≤ v.heap.size) (hk : ∀ c, c < u.heap.size → N c → v.heap[c]? = u.heap[c]? ∧ M c) (hP : ∀ e, P e → Q e) : LAt M v Q p l := by
  intro i hi
  obtain ⟨c, o, hp, hc, hn, hx, hq⟩ := h i hi
  exact ⟨c, o, hp, Nat.lt_of_lt_of_le hc hz, (hk c hc hn).2, hx.keep (hk c hc hn).1, hP _ hq⟩
theorem QuIn.keep {N M : Nat → Prop} {u v : World} {P Q : Ex → Prop} {q : Qu} (h : QuIn N u P q) (hz : u.heap.size ≤ v.heap.size) (hk : ∀ c, c < u.heap.size → N c → v.heap[c]? = u.heap[c]? ∧ M c) (hP : ∀ e, P e → Q e) : QuIn M v Q q :=
  ⟨h.size, h.leni, h.lenw, h.items.keep hz hk hP, h.wh.keep hz hk hP⟩
theorem QAt.keep {N M : Nat → Prop} {u v : World} {P Q : Ex → Prop} {p : Option Addr} {l : List Qu} (h : QAt N u P p l) (hz : u.heap.size ≤ v.heap.size) (hk : ∀ c, c < u.heap.size → N c → v.heap[c]? = u.heap[c]? ∧ M c) (hP : ∀ e, P e → Q e) : QAt M v Q p l := by
  intro i hi
  obtain ⟨c, o, hp, hc, hn, hx, hq⟩ := h i hi
  exact ⟨c, o, hp, Nat.lt_of_lt_of_le hc hz, (hk c hc hn).2, hx.keep (hk c hc hn).1, hq.keep hz hk hP⟩
theorem ExIn.keep {N M : Nat → Prop} {u v : World} {P Q : Ex → Prop} {e : Ex} (h : ExIn N u P e) (hz : u.heap.size ≤ v.heap.size) (hk : ∀ c, c < u.heap.size → N c → v.heap[c]? = u.heap[c]? ∧ M c) (hP : ∀ e, P e → Q e) : ExIn M v Q e :=
  ⟨h.vt, h.tb, h.nm, h.lena, h.lens, h.args.keep hz hk hP, h.sub.keep hz hk hP, h.vi⟩
theorem ExAt.keep {N M : Nat → Prop} {u v : World} (hz : u.heap.size ≤ v.heap.size) (hk : ∀ c, c < u.heap.size → N c → v.heap[c]? = u.heap[c]? ∧ M c) : ∀ (d : Nat) (e : Ex), ExAt N u d e → ExAt M v d e
  | 0, _, h => h.elim
  | d + 1, _, h => ExIn.keep h hz hk (ExAt.keep hz hk d)
theorem ExAt.low {N : Nat → Prop} {u v : World} {d : Nat} {e : Ex} (h : ExAt N u d e) (hb : Below u.heap.size u v) : ExAt N v d e := ExAt.keep hb.size (fun c hc hn => ⟨hb.block c hc, hn⟩) d e h
theorem LAt.low {N : Nat → Prop} {u v : World} {d : Nat} {p : Option Addr} {l : List Ex} (h : LAt N u (ExAt N u d) p l) (hb : Below u.heap.size u v) : LAt N v (ExAt N v d) p l :=
  LAt.keep h hb.size (fun c hc hn => ⟨hb.block c hc, hn⟩) fun _ hx => hx.low hb
theorem QAt.low {N : Nat → Prop} {u v : World} {d : Nat} {p : Option Addr} {l : List Qu} (h : QAt N u (ExAt N u d) p l) (hb : Below u.heap.size u v) : QAt N v (ExAt N v d) p l :=
  QAt.keep h hb.size (fun c hc hn => ⟨hb.block c hc, hn⟩) fun _ hx => hx.low hb
theorem QuIn.low {N : Nat → Prop} {u v : World} {d : Nat} {q : Qu} (h : QuIn N u (ExAt N u d) q) (hb : Below u.heap.size u v) : QuIn N v (ExAt N v d) q :=
  QuIn.keep h hb.size (fun c hc hn => ⟨hb.block c hc, hn⟩) fun _ hx => hx.low hb
theorem ExAt.weak {N M : Nat → Prop} {w : World} {d : Nat} {e : Ex} (h : ExAt N w d e) (hM : ∀ c, c < w.heap.size → N c → M c) : ExAt M w d e := ExAt.keep (Nat.le_refl _) (fun c hc hn => ⟨rfl, hM c hc hn⟩) d e h
theorem LAt.weak {N M : Nat → Prop} {w : World} {d : Nat} {p : Option Addr} {l : List Ex} (h : LAt N w (ExAt N w d) p l) (hM : ∀ c, c < w.heap.size → N c → M c) : LAt M w (ExAt M w d) p l :=
  LAt.keep h (Nat.le_refl _) (fun c hc hn => ⟨rfl, hM c hc hn⟩) fun _ hx => hx.weak hM
theorem QAt.weak {N M : Nat → Prop} {w : World} {d : Nat} {p : Option Addr} {l : List Qu} (h : QAt N w (ExAt N w d) p l) (hM : ∀ c, c < w.heap.size → N c → M c) : QAt M w (ExAt M w d) p l :=
  QAt.keep h (Nat.le_refl _) (fun c hc hn => ⟨rfl, hM c hc hn⟩) fun _ hx => hx.weak hM
/-- A tree is also one of more storeys. -/
theorem ExAt.more {N : Nat → Prop} {w : World} : ∀ (d : Nat) (e : Ex), ExAt N w d e → ExAt N w (d + 1) e
  | 0, _, h => h.elim
  | d + 1, _, h => ExIn.keep (M := N) h (Nat.le_refl _) (fun _ _ hn => ⟨rfl, hn⟩) (ExAt.more d)
theorem ExAt.upto {N : Nat → Prop} {w : World} {d D : Nat} {e : Ex} (h : ExAt N w d e) (hd : d ≤ D) : ExAt N w D e := by
  induction hd with
  | refl => exact h
  | step _ ih => exact ih.more
theorem LAt.more {N : Nat → Prop} {w : World} {d D : Nat} {p : Option Addr} {l : List Ex} (h : LAt N w (ExAt N w d) p l) (hd : d ≤ D) : LAt N w (ExAt N w D) p l :=
  LAt.keep h (Nat.le_refl _) (fun _ _ hn => ⟨rfl, hn⟩) fun _ hx => hx.upto hd
theorem QAt.more {N : Nat → Prop} {w : World} {d D : Nat} {p : Option Addr} {l : List Qu} (h : QAt N w (ExAt N w d) p l) (hd : d ≤ D) : QAt N w (ExAt N w D) p l :=
  QAt.keep h (Nat.le_refl _) (fun _ _ hn => ⟨rfl, hn⟩) fun _ hx => hx.upto hd
/-- Behind steps of the tape. -/
theorem ExAt.step {N : Nat → Prop} {u v : World} {b d : Nat} {e : Ex} (h : ExAt N u d e) (hs : StepT b u v) (hN : ∀ c, N c → c ≠ b) : ExAt N v d e := ExAt.keep hs.size (fun c hc hn => ⟨hs.block c hc (hN c hn), hn⟩) d e h
theorem LAt.step {N : Nat → Prop} {u v : World} {b d : Nat} {p : Option Addr} {l : List Ex} (h : LAt N u (ExAt N u d) p l) (hs : StepT b u v) (hN : ∀ c, N c → c ≠ b) : LAt N v (ExAt N v d) p l :=
  LAt.keep h hs.size (fun c hc hn => ⟨hs.block c hc (hN c hn), hn⟩) fun _ hx => hx.step hs hN
theorem QAt.step {N : Nat → Prop} {u v : World} {b d : Nat} {p : Option Addr} {l : List Qu} (h : QAt N u (ExAt N u d) p l) (hs : StepT b u v) (hN : ∀ c, N c → c ≠ b) : QAt N v (ExAt N v d) p l :=
  QAt.keep h hs.size (fun c hc hn => ⟨hs.block c hc (hN c hn), hn⟩) fun _ hx => hx.step hs hN
theorem LAt.nil (N : Nat → Prop) (w : World) (P : Ex → Prop) (p : Option Addr) : LAt N w P p [] := fun i hi => by simp at hi
theorem QAt.nil (N : Nat → Prop) (w : World) (P : Ex → Prop) (p : Option Addr) : QAt N w P p [] := fun i hi => by simp at hi
/-- A box that holds an expression, a query. -/
structure ExB (u : World) (X : Nat) (e : Ex) : Prop where
  lt : X < u.heap.size
  c0 : u.cell? ⟨X, 0, none⟩ = some (.int .i64 e.k)
  c1 : u.cell? ⟨X, 1, none⟩ = some (.int .i64 e.op)
  c2 : u.cell? ⟨X, 2, none⟩ = some (.bool e.no)
  c3 : u.cell? ⟨X, 3, none⟩ = some (.int .i64 e.vk)
  c4 : u.cell? ⟨X, 4, none⟩ = some (.int .i64 e.vi)
  c5 : u.cell? ⟨X, 5, none⟩ = some (.string e.vt)
  c6 : u.cell? ⟨X, 6, none⟩ = some (.string e.tb)
  c7 : u.cell? ⟨X, 7, none⟩ = some (.string e.nm)
  c8 : u.cell? ⟨X, 8, none⟩ = some (.slice e.pa e.args.length e.ca)
  c9 : u.cell? ⟨X, 9, none⟩ = some (.slice e.ps e.sub.length e.cs)
  fz : ∀ o, u.frozen? ⟨X, o, none⟩ = false
theorem ExB.keep {u v : World} {X : Nat} {e : Ex} (h : ExB u X e) (hz : u.heap.size ≤ v.heap.size) (hk : v.heap[X]? = u.heap[X]?) : ExB v X e := by
  have hc : ∀ o, v.cell? ⟨X, o, none⟩ = u.cell? ⟨X, o, none⟩ := fun o => World.cell?_of_block (w := u) hk
  exact ⟨Nat.lt_of_lt_of_le h.lt hz, (hc _).trans h.c0, (hc _).trans h.c1, (hc _).trans h.c2, (hc _).trans h.c3, (hc _).trans h.c4, (hc _).trans h.c5, (hc _).trans h.c6, (hc _).trans h.c7, (hc _).trans h.c8, (hc _).trans h.c9, fun o => (World.frozen?_of_block (w := u) hk).trans (h.fz o)⟩
theorem ExB.low {u v : World} {X : Nat} {e : Ex} (h : ExB u X e) (hb : Below u.heap.size u v) : ExB v X e := h.keep hb.size (hb.block X h.lt)
theorem ExB.step {u v : World} {X b : Nat} {e : Ex} (h : ExB u X e) (hs : StepT b u v) (hn : X ≠ b) : ExB v X e := h.keep hs.size (hs.block X h.lt hn)
theorem ExB.new (w : World) (e : Ex) (t : TypeId) : ExB (w.alloc (.cells #[.int .i64 e.k, .int .i64 e.op, .bool e.no, .int .i64 e.vk, .int .i64 e.vi, .string e.vt, .string e.tb, .string e.nm, .slice e.pa e.args.length e.ca, .slice e.ps e.sub.length e.cs] t)) w.heap.size e := by
  refine ⟨by simp, ?_, ?_, ?_, ?_, ?_, ?_, ?_, ?_, ?_, ?_, fun o => ?_⟩
  all_goals go_simp
theorem ExB.at {u : World} {X Y : Nat} {e : Ex} (h : ExB u X e) (hx : X = Y) : ExB u Y e := hx ▸ h
structure QuBx (u : World) (X : Nat) (q : Qu) : Prop where
  lt : X < u.heap.size
  c0 : u.cell? ⟨X, 0, none⟩ = some (.bool q.st)
  c1 : u.cell? ⟨X, 1, none⟩ = some (.slice q.pi q.items.length q.ci)
  c2 : u.cell? ⟨X, 2, none⟩ = some (.string q.fr)
  c3 : u.cell? ⟨X, 3, none⟩ = some (.slice q.pw q.wh.length q.cw)
  fz : ∀ o, u.frozen? ⟨X, o, none⟩ = false
theorem QuBx.keep {u v : World} {X : Nat} {e : Qu} (h : QuBx u X e) (hz : u.heap.size ≤ v.heap.size) (hk : v.heap[X]? = u.heap[X]?) : QuBx v X e := by
  have hc : ∀ o, v.cell? ⟨X, o, none⟩ = u.cell? ⟨X, o, none⟩ := fun o => World.cell?_of_block (w := u) hk
  exact ⟨Nat.lt_of_lt_of_le h.lt hz, (hc _).trans h.c0, (hc _).trans h.c1, (hc _).trans h.c2, (hc _).trans h.c3, fun o => (World.frozen?_of_block (w := u) hk).trans (h.fz o)⟩
theorem QuBx.low {u v : World} {X : Nat} {e : Qu} (h : QuBx u X e) (hb : Below u.heap.size u v) : QuBx v X e := h.keep hb.size (hb.block X h.lt)
theorem QuBx.step {u v : World} {X b : Nat} {e : Qu} (h : QuBx u X e) (hs : StepT b u v) (hn : X ≠ b) : QuBx v X e := h.keep hs.size (hs.block X h.lt hn)
theorem QuBx.new (w : World) (q : Qu) (t : TypeId) : QuBx (w.alloc (.cells #[.bool q.st, .slice q.pi q.items.length q.ci, .string q.fr, .slice q.pw q.wh.length q.cw] t)) w.heap.size q := by
  refine ⟨by simp, ?_, ?_, ?_, ?_, fun o => ?_⟩
  all_goals go_simp
theorem QuBx.at {u : World} {X Y : Nat} {e : Qu} (h : QuBx u X e) (hx : X = Y) : QuBx u Y e := hx ▸ h
end Go.Proofs.YtlpaphgmdcpmaaaGreatDoor
