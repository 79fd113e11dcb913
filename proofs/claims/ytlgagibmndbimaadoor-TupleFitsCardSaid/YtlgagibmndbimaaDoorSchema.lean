/-
  Columns and schemas, as plain lists; what Valid, Find, KeyColumn, Fits compute. No program.
-/
import Derived.Test.YtlgagibmndbimaaDoorNameOK
import Derived.Test.YtlgagibmndbimaaDoorValFacts
namespace Go.Proofs.YtlgagibmndbimaaDoor
open Go

structure Col where
  nm : ByteArray
  ty : Int
  nn : Bool
  key : Bool

instance : Inhabited Col := ⟨⟨⟨#[]⟩, 0, false, false⟩⟩

def eqT (a b : ByteArray) : Bool := a.toList == b.toList
theorem eqT_iff {a b : ByteArray} : eqT a b = true ↔ a = b := by
  unfold eqT
  rw [beq_iff_eq, ByteArray.toList_eq, ByteArray.toList_eq]
  exact ⟨fun h => ByteArray.ext (Array.toList_inj.1 h), fun h => by rw [h]⟩
theorem eqT_self (a : ByteArray) : eqT a a = true := eqT_iff.2 rfl

/-- The first place below n at which P holds, or -1. -/
def findI (P : Nat → Bool) (n : Nat) : Int := match (List.range n).find? P with | some i => (i : Int) | none => -1
theorem findI_hit {P : Nat → Bool} {n i : Nat} (hi : i < n) (h : P i = true) (hn : ∀ j, j < i → P j = false) : findI P n = i := by
  unfold findI
  have : (List.range n).find? P = some i := List.find?_range_eq_some.2 ⟨h, List.mem_range.2 hi, fun j hj => by rw [hn j hj]; rfl⟩
  rw [this]
theorem findI_none {P : Nat → Bool} {n : Nat} (hn : ∀ j, j < n → P j = false) : findI P n = -1 := by
  unfold findI
  have : (List.range n).find? P = none := List.find?_range_eq_none.2 fun j hj => by rw [hn j hj]; rfl
  rw [this]
theorem findI_eq {P : Nat → Bool} {n i : Nat} (hi : i < n) (h : P i = true) : findI P n = i ↔ ∀ j, j < i → P j = false := by
  constructor
  · intro he j hj
    rw [Bool.eq_false_iff]
    intro hp
    obtain ⟨m, hm, hP⟩ : ∃ m, P m = true ∧ (∀ q, q < m → P q = false) ∧ m ≤ j := by
      have : ∀ k, P k = true → ∃ m, P m = true ∧ (∀ q, q < m → P q = false) ∧ m ≤ k := by
        intro k
        induction k using Nat.strongRecOn with
        | ind k ih =>
          intro hk
          by_cases hq : ∃ q, q < k ∧ P q = true
          · obtain ⟨q, hqk, hPq⟩ := hq
            obtain ⟨m, h1, h2, h3⟩ := ih q hqk hPq
            exact ⟨m, h1, h2, by omega⟩
          · exact ⟨k, hk, fun q hqk => by
              rw [Bool.eq_false_iff]; exact fun h => hq ⟨q, hqk, h⟩, Nat.le_refl _⟩
      exact this j hp
    have := findI_hit (n := n) (by omega) hm hP.1
    omega
  · exact findI_hit hi h

def findName (f : Nat → Col) (n : Nat) (s : ByteArray) : Int := findI (fun i => eqT (f i).nm s) n
def findKey (f : Nat → Col) (n : Nat) : Int := findI (fun i => (f i).key) n
theorem findI_range (P : Nat → Bool) (n : Nat) : -1 ≤ findI P n ∧ findI P n < n ∨ findI P n = -1 := by
  unfold findI
  split
  · rename_i i h
    have := (List.find?_range_eq_some.1 h).2.1
    have := List.mem_range.1 this
    exact .inl ⟨by omega, by omega⟩
  · exact .inr rfl

def tyOK (t : Int) : Bool := decide (1 ≤ t ∧ t ≤ 3)
def colOK (c : Col) : Bool := nameOK c.nm && tyOK c.ty && (c.nn || !c.key)
/-- Column i is right, and the first one with its name, and, if it is a key, the first key. -/
def Good (f : Nat → Col) (i : Nat) : Prop := colOK (f i) = true ∧ (∀ j, j < i → eqT (f j).nm (f i).nm = false) ∧ ((f i).key = true → ∀ j, j < i → (f j).key = false)
instance (f : Nat → Col) (i : Nat) : Decidable (Good f i) := by unfold Good; infer_instance
/-- Is a schema valid? -/
def schemaOK (nm : ByteArray) (n : Nat) (f : Nat → Col) : Bool := nameOK nm && decide (1 ≤ n ∧ n ≤ 6) && decide (∀ i, i < n → Good f i)

theorem schemaOK_name {nm : ByteArray} {n : Nat} {f : Nat → Col} (h : nameOK nm = false) : schemaOK nm n f = false := by unfold schemaOK; rw [h]; rfl
theorem schemaOK_len {nm : ByteArray} {n : Nat} {f : Nat → Col} (h : n < 1 ∨ 6 < n) : schemaOK nm n f = false := by
  unfold schemaOK; rw [decide_eq_false (by omega), Bool.and_false]; rfl
theorem schemaOK_bad {nm : ByteArray} {n : Nat} {f : Nat → Col} {i : Nat} (hi : i < n) (h : ¬ Good f i) : schemaOK nm n f = false := by
  unfold schemaOK; rw [decide_eq_false (p := ∀ i, i < n → Good f i) (fun hc => h (hc i hi)), Bool.and_false]
theorem schemaOK_yes {nm : ByteArray} {n : Nat} {f : Nat → Col} (hn : nameOK nm = true) (h1 : 1 ≤ n) (h2 : n ≤ 6) (h : ∀ i, i < n → Good f i) : schemaOK nm n f = true := by
  unfold schemaOK; rw [hn, decide_eq_true ⟨h1, h2⟩, decide_eq_true h]; rfl

theorem good_find {f : Nat → Col} {n i : Nat} (hi : i < n) : findName f n (f i).nm = i ↔ ∀ j, j < i → eqT (f j).nm (f i).nm = false := findI_eq (P := fun j => eqT (f j).nm (f i).nm) hi (eqT_self _)
theorem good_key {f : Nat → Col} {n i : Nat} (hi : i < n) (hk : (f i).key = true) : findKey f n = i ↔ ∀ j, j < i → (f j).key = false := findI_eq (P := fun j => (f j).key) hi hk
theorem bad_col {f : Nat → Col} {i : Nat} (h : colOK (f i) = false) : ¬ Good f i := fun hg => by have := hg.1; rw [h] at this; cases this
theorem bad_find {f : Nat → Col} {n i : Nat} (hi : i < n) (h : (findName f n (f i).nm == (i : Int)) = false) : ¬ Good f i := fun hg => by
  rw [beq_eq_false_iff_ne] at h; exact h ((good_find hi).2 hg.2.1)
theorem bad_key {f : Nat → Col} {n i : Nat} (hi : i < n) (hk : (f i).key = true) (h : (findKey f n == (i : Int)) = false) : ¬ Good f i := fun hg => by
  rw [beq_eq_false_iff_ne] at h; exact h ((good_key hi hk).2 (hg.2.2 hk))
theorem is_good {f : Nat → Col} {n i : Nat} (hi : i < n) (hc : colOK (f i) = true) (hf : (findName f n (f i).nm == (i : Int)) = true) (hk : (f i).key = true → (findKey f n == (i : Int)) = true) : Good f i :=
  ⟨hc, (good_find hi).1 (beq_iff_eq.1 hf), fun h => (good_key hi h).1 (beq_iff_eq.1 (hk h))⟩
theorem all_succ {Q : Nat → Prop} {k : Nat} (h : ∀ i, i < k → Q i) (hk : Q k) : ∀ i, i < k + 1 → Q i := fun i hi => by
  rcases Nat.lt_succ_iff_lt_or_eq.1 hi with h1 | rfl
  · exact h i h1
  · exact hk

/-- How many keys there are among the first n columns. -/
def keysN (f : Nat → Col) : Nat → Nat
  | 0 => 0
  | n + 1 => keysN f n + if (f n).key then 1 else 0
theorem keysN_le (f : Nat → Col) (n : Nat) : keysN f n ≤ n := by
  induction n with
  | zero => exact Nat.le_refl _
  | succ n ih => unfold keysN; split <;> omega
theorem keysN_zero (f : Nat → Col) (n : Nat) : keysN f n = 0 ↔ ∀ i, i < n → (f i).key = false := by
  induction n with
  | zero => exact ⟨fun _ i hi => by omega, fun _ => rfl⟩
  | succ n ih =>
    unfold keysN
    constructor
    · intro h
      cases hk : (f n).key
      · exact all_succ (ih.1 (by omega)) hk
      · rw [hk, if_pos rfl] at h; omega
    · intro h
      rw [ih.2 (fun i hi => h i (by omega)), h n (by omega)]; rfl
theorem keysN_one (f : Nat → Col) (n : Nat) : keysN f n ≤ 1 ↔ ∀ i, i < n → (f i).key = true → ∀ j, j < i → (f j).key = false := by
  induction n with
  | zero => exact ⟨fun _ i hi => by omega, fun _ => by unfold keysN; omega⟩
  | succ n ih =>
    unfold keysN
    cases hk : (f n).key
    · rw [if_neg (by decide), Nat.add_zero, ih]
      exact ⟨fun h => all_succ h (fun hc => by rw [hk] at hc; cases hc), fun h i hi => h i (by omega)⟩
    · rw [if_pos rfl]
      constructor
      · intro h
        have h0 := (keysN_zero f n).1 (by omega)
        exact all_succ (ih.1 (by omega)) (fun _ => h0)
      · intro h
        have := (keysN_zero f n).2 (h n (by omega) hk)
        omega
/-- A column, as the reference looks at it: all but the number of keys. -/
def FairC (f : Nat → Col) (i : Nat) : Prop := colOK (f i) = true ∧ (∀ j, j < i → eqT (f j).nm (f i).nm = false)
theorem fair_end {nm : ByteArray} {n : Nat} {f : Nat → Col} (hn : nameOK nm = true) (h1 : 1 ≤ n) (h2 : n ≤ 6) (h : ∀ i, i < n → FairC f i) : decide ((keysN f n : Int) ≤ 1) = schemaOK nm n f := by
  rw [Bool.eq_iff_iff, decide_eq_true_iff]
  constructor
  · intro hk
    have := (keysN_one f n).1 (by omega)
    exact schemaOK_yes hn h1 h2 fun i hi => ⟨(h i hi).1, (h i hi).2, this i hi⟩
  · intro hs
    unfold schemaOK at hs
    simp only [Bool.and_eq_true, decide_eq_true_eq] at hs
    have := (keysN_one f n).2 fun i hi => (hs.2 i hi).2.2
    omega
theorem bad_fair {f : Nat → Col} {n i : Nat} (hi : i < n) (h : (findName f n (f i).nm == (i : Int)) = false) : ¬ Good f i := bad_find hi h
theorem is_fair {f : Nat → Col} {n i : Nat} (hi : i < n) (hc : colOK (f i) = true) (hf : (findName f n (f i).nm == (i : Int)) = true) : FairC f i :=
  ⟨hc, (good_find hi).1 (beq_iff_eq.1 hf)⟩
theorem colOK_name {c : Col} (h : nameOK c.nm = false) : colOK c = false := by unfold colOK; rw [h]; rfl
theorem colOK_type {c : Col} (h : c.ty < 1 ∨ 3 < c.ty) : colOK c = false := by
  unfold colOK tyOK; rw [decide_eq_false (by omega), Bool.and_false]; rfl
theorem colOK_null {c : Col} (h : c.nn = false) (h2 : c.key = true) : colOK c = false := by unfold colOK; rw [h, h2, Bool.and_comm]; rfl
theorem colOK_yes {c : Col} (h : nameOK c.nm = true) (h1 : 1 ≤ c.ty) (h3 : c.ty ≤ 3) (h2 : c.nn = true ∨ c.key = false) : colOK c = true := by
  unfold colOK tyOK
  rw [h, decide_eq_true ⟨h1, h3⟩]
  rcases h2 with h2 | h2
  · rw [h2]; rfl
  · rw [h2]; simp

/-- What Fits answers. -/
def fitsE (ty : Int) (nn : Bool) (k n : Int) (s : ByteArray) : Int := if validB k n s then (if k = 0 then (if nn then 8 else 0) else if k = ty then 0 else 5) else 17
end Go.Proofs.YtlgagibmndbimaaDoor
