/-
  Several texts in one.
-/
import Derived.Test.YtgaihglploedaabDoorPk04
import Derived.Lib.ParseIntB
import Derived.Lib.CountLaws
import Derived.Lib.Replace
import Derived.Test.YtgaihglploedaabDoorPk03
import Derived.Test.YtgaihglploedaabDoorProg
import Derived.WalkKit
import Derived.WalkSpells
import Derived.WalkLawsBesides
import Derived.Deep.QuietTactic
import Derived.BigQuiet
import Derived.Lib.Hide
import Derived.Test.YtgaihglploedaabDoorPk01
/-
  THE TOKENS OF A TEXT, plain: what the functions of package token compute, on bytes. No program.
-/
namespace Go.Proofs.YtgaihglploedaabDoor
set_option maxRecDepth 100000
open Go

/-- A token: its kind, its text, its place. -/
structure Tok where
  k : Int
  t : ByteArray
  a : Nat
  deriving DecidableEq
def spcI (c : Int) : Bool := decide (c = 32 ∨ c = 9 ∨ c = 10)
def spcB (c : UInt8) : Bool := spcI (c.toNat : Int)
def runI (c : Int) : Bool := decide ((97 ≤ c ∧ c ≤ 122) ∨ (65 ≤ c ∧ c ≤ 90) ∨ (48 ≤ c ∧ c ≤ 57) ∨ c = 95)
def runB (c : UInt8) : Bool := runI (c.toNat : Int)
/-- Is a run a number? -/
def okNum : Lib.NumEnd Int → Bool
  | .ok _ => true
  | _ => false
def numB (s : ByteArray) : Bool := !(s.data.toList.head? == some 48 && decide (1 < s.size)) && okNum (Lib.parseIntB 64 s.data.toList)
def kindB (s : ByteArray) : Int := if keyB s then 1 else if nameOK s then 2 else if numB s then 3 else 0
/-- What stands behind an apostrophe: the text up to the closing one, and how many bytes that are with it. -/
def quotL : List UInt8 → Option (List UInt8 × Nat)
  | [] => none
  | [c] => if c = 39 then some ([], 1) else none
  | c :: d :: r => if c = 39 then (if d = 39 then (quotL r).map (fun x => (39 :: x.1, x.2 + 2)) else some ([], 1)) else (quotL (d :: r)).map (fun x => (c :: x.1, x.2 + 1))
theorem quotL_plain {c : UInt8} (h : c ≠ 39) (l : List UInt8) : quotL (c :: l) = (quotL l).map (fun x => (c :: x.1, x.2 + 1)) := by
  cases l with
  | nil => simp [quotL, h]
  | cons d r => simp [quotL, h]
theorem quotL_two (r : List UInt8) : quotL (39 :: 39 :: r) = (quotL r).map (fun x => (39 :: x.1, x.2 + 2)) := by simp [quotL]
theorem quotL_end {l : List UInt8} (h : l.head? ≠ some 39) : quotL (39 :: l) = some ([], 1) := by
  cases l with
  | nil => simp [quotL]
  | cons d r =>
    have : d ≠ 39 := fun e => h (by rw [e]; rfl)
    simp [quotL, this]
/-- Induction along the walk over a text. -/
theorem quot_ind {P : List UInt8 → Prop} (h0 : P []) (h1 : ∀ c l, c ≠ 39 → P l → P (c :: l)) (h2 : ∀ r, P r → P (39 :: 39 :: r)) (h3 : ∀ l, l.head? ≠ some 39 → P (39 :: l)) : ∀ (n : Nat) (l : List UInt8), l.length ≤ n → P l
  | 0, [], _ => h0
  | 0, _ :: _, h => by simp at h
  | n + 1, [], _ => h0
  | n + 1, c :: l, h => by
    by_cases hc : c = 39
    · subst hc
      by_cases hd : l.head? = some 39
      · cases l with
        | nil => cases hd
        | cons d r =>
          obtain rfl : d = 39 := Option.some.inj hd
          exact h2 r (quot_ind h0 h1 h2 h3 n r (by simp at h; omega))
      · exact h3 l hd
    · exact h1 c l hc (quot_ind h0 h1 h2 h3 n l (by simp at h; omega))
theorem quotL_len (l : List UInt8) : ∀ o n, quotL l = some (o, n) → 1 ≤ n ∧ n ≤ l.length := by
  refine quot_ind (P := fun l => ∀ o n, quotL l = some (o, n) → 1 ≤ n ∧ n ≤ l.length) ?_ ?_ ?_ ?_ l.length l (Nat.le_refl _)
  · intro o n h; cases h
  · intro c l hc ih o n h
    rw [quotL_plain hc, Option.map_eq_some_iff] at h
    obtain ⟨⟨o', n'⟩, h1, h2⟩ := h
    have := ih _ _ h1
    simp only [Prod.mk.injEq] at h2
    simp only [List.length_cons]; omega
  · intro r ih o n h
    rw [quotL_two, Option.map_eq_some_iff] at h
    obtain ⟨⟨o', n'⟩, h1, h2⟩ := h
    have := ih _ _ h1
    simp only [Prod.mk.injEq] at h2
    simp only [List.length_cons]; omega
  · intro l hl o n h
    rw [quotL_end hl] at h
    simp only [Option.some.injEq, Prod.mk.injEq] at h
    simp only [List.length_cons]; omega
def symL (l : List UInt8) : Option (List UInt8) := symS.find? fun x => x.isPrefixOf l
theorem symL_len {l x : List UInt8} (h : symL l = some x) : 1 ≤ x.length ∧ x.length ≤ l.length := by
  have h1 := List.mem_of_find?_eq_some h
  have h2 := List.find?_some h
  have h3 := (List.isPrefixOf_iff_prefix.1 h2).length_le
  have h4 : ∀ y ∈ symS, 1 ≤ y.length := by decide
  exact ⟨h4 x h1, h3⟩
/-- The token with which a text begins: its kind, its text, how many bytes it takes. -/
def stepT : List UInt8 → Option (Int × ByteArray × Nat)
  | [] => none
  | c :: r =>
    if runB c then
      (if kindB ⟨((c :: r).takeWhile runB).toArray⟩ = 0 then none else some (kindB ⟨((c :: r).takeWhile runB).toArray⟩, ⟨((c :: r).takeWhile runB).toArray⟩, ((c :: r).takeWhile runB).length))
    else if c = 39 then
      (match quotL r with
      | none => none
      | some (o, n) => if textOK o then some (4, ⟨o.toArray⟩, n + 1) else none)
    else (symL (c :: r)).map fun x => (5, ⟨x.toArray⟩, x.length)
theorem stepT_len {l : List UInt8} {k : Int} {t : ByteArray} {n : Nat} (h : stepT l = some (k, t, n)) : 1 ≤ n ∧ n ≤ l.length := by
  cases l with
  | nil => cases h
  | cons c r =>
    rw [stepT] at h
    split at h
    · rename_i hc
      split at h
      · cases h
      · simp only [Option.some.injEq, Prod.mk.injEq] at h
        obtain ⟨-, -, rfl⟩ := h
        refine ⟨?_, (List.takeWhile_prefix _).length_le⟩
        rw [List.takeWhile_cons_of_pos hc, List.length_cons]; omega
    · split at h
      · cases hq : quotL r with
        | none => rw [hq] at h; cases h
        | some x =>
          obtain ⟨o, m⟩ := x
          have := quotL_len r o m hq
          rw [hq] at h
          dsimp only at h
          split at h
          · simp only [Option.some.injEq, Prod.mk.injEq] at h
            simp only [List.length_cons]; omega
          · cases h
      · rw [Option.map_eq_some_iff] at h
        obtain ⟨x, h1, h2⟩ := h
        have := symL_len h1
        simp only [Prod.mk.injEq] at h2
        omega
/-- The tokens of a text whose first byte has a place, behind some bytes that are passed over; or the place of an error. -/
def scan : List UInt8 → Nat → Nat → Except Nat (List Tok)
  | [], _, _ => .ok []
  | _ :: r, a, k + 1 => scan r (a + 1) k
  | c :: r, a, 0 =>
    if spcB c then scan r (a + 1) 0 else
    match stepT (c :: r) with
    | none => .error a
    | some (k, t, n) => (scan r (a + 1) (n - 1)).map fun T => ⟨k, t, a⟩ :: T
theorem scan_skip : ∀ (k : Nat) (l : List UInt8) (a : Nat), k ≤ l.length → scan l a k = scan (l.drop k) (a + k) 0
  | 0, l, a, _ => rfl
  | k + 1, [], a, h => by simp at h
  | k + 1, c :: r, a, h => by
    rw [scan, scan_skip k r (a + 1) (by simpa using h), List.drop_succ_cons, show a + 1 + k = a + (k + 1) by omega]
theorem scan_space {l : List UInt8} {k : Nat} (h : k < l.length) (hs : spcB l[k] = true) : scan (l.drop k) k 0 = scan (l.drop (k + 1)) (k + 1) 0 := by
  rw [List.drop_eq_getElem_cons h, scan, if_pos hs]
theorem scan_bad {l : List UInt8} {k : Nat} (h : k < l.length) (hs : spcB l[k] = false) (ht : stepT (l.drop k) = none) : scan (l.drop k) k 0 = .error k := by
  rw [List.drop_eq_getElem_cons h] at ht ⊢
  rw [scan, if_neg (by simp [hs]), ht]
theorem scan_tok {l : List UInt8} {k n : Nat} {K : Int} {t : ByteArray} (h : k < l.length) (hs : spcB l[k] = false) (ht : stepT (l.drop k) = some (K, t, n)) :
    scan (l.drop k) k 0 = (scan (l.drop (k + n)) (k + n) 0).map fun T => ⟨K, t, k⟩ :: T := by
  have hl := stepT_len ht
  rw [List.length_drop] at hl
  rw [List.drop_eq_getElem_cons h] at ht ⊢
  rw [scan, if_neg (by simp [hs]), ht]
  dsimp only
  rw [scan_skip (n - 1) _ _ (by rw [List.length_drop]; omega), List.drop_drop, show k + 1 + (n - 1) = k + n by omega]
theorem scan_end {l : List UInt8} {k : Nat} (h : ¬ k < l.length) : scan (l.drop k) k 0 = .ok [] := by
  rw [List.drop_of_length_le (by omega)]; rfl
theorem map_push (r : Except Nat (List Tok)) (T : List Tok) (x : Tok) : (r.map fun U => x :: U).map (fun U => T ++ U) = r.map fun U => (T ++ [x]) ++ U := by
  cases r with
  | error e => rfl
  | ok U => show Except.ok _ = Except.ok _; simp
/-- The places of tokens ascend from a place on and lie below an end. -/
def Places (lo hi : Nat) : List Tok → Prop
  | [] => True
  | x :: T => lo ≤ x.a ∧ x.a < hi ∧ Places (x.a + 1) hi T
theorem Places.mono {lo lo' hi : Nat} (h : lo' ≤ lo) : ∀ {T : List Tok}, Places lo hi T → Places lo' hi T
  | [], _ => trivial
  | x :: T, ⟨h1, h2, h3⟩ => ⟨by omega, h2, h3⟩
theorem scan_places : ∀ (l : List UInt8) (a k : Nat) (T : List Tok), scan l a k = .ok T → Places a (a + l.length) T
  | [], a, k, T, h => by
    simp only [scan] at h
    injection h with h
    subst h; trivial
  | c :: r, a, k + 1, T, h => by
    rw [scan] at h
    have := scan_places r (a + 1) k T h
    rw [show a + 1 + r.length = a + (c :: r).length by rw [List.length_cons]; omega] at this
    exact this.mono (by omega)
  | c :: r, a, 0, T, h => by
    rw [scan] at h
    split at h
    · have := scan_places r (a + 1) 0 T h
      rw [show a + 1 + r.length = a + (c :: r).length by rw [List.length_cons]; omega] at this
      exact this.mono (by omega)
    · cases hs : stepT (c :: r) with
      | none => rw [hs] at h; cases h
      | some x =>
        obtain ⟨K, t, n⟩ := x
        rw [hs] at h
        dsimp only at h
        cases hr : scan r (a + 1) (n - 1) with
        | error e => rw [hr] at h; cases h
        | ok U =>
          rw [hr] at h
          injection h with h
          subst h
          have := scan_places r (a + 1) (n - 1) U hr
          rw [show a + 1 + r.length = a + (c :: r).length by rw [List.length_cons]; omega] at this
          exact ⟨Nat.le_refl _, by show a < _; rw [List.length_cons]; omega, this⟩
theorem scan_err : ∀ (l : List UInt8) (a k e : Nat), scan l a k = .error e → a ≤ e ∧ e < a + l.length
  | [], a, k, e, h => by simp only [scan] at h; cases h
  | c :: r, a, k + 1, e, h => by
    rw [scan] at h
    have := scan_err r (a + 1) k e h
    rw [List.length_cons]; omega
  | c :: r, a, 0, e, h => by
    rw [scan] at h
    rw [List.length_cons]
    split at h
    · have := scan_err r (a + 1) 0 e h
      omega
    · cases hs : stepT (c :: r) with
      | none => rw [hs] at h; injection h with h; omega
      | some x =>
        obtain ⟨K, t, n⟩ := x
        rw [hs] at h
        dsimp only at h
        cases hr : scan r (a + 1) (n - 1) with
        | error e' =>
          rw [hr] at h
          injection h with h
          have := scan_err r (a + 1) (n - 1) e' hr
          omega
        | ok U => rw [hr] at h; cases h
/-- What Tokens returns: the tokens, a place, an error. -/
def toksR (s : ByteArray) : List Tok × Int × Int :=
  if 4096 < s.size then ([], 4096, 10) else match scan s.data.toList 0 0 with
    | .error e => ([], e, 1)
    | .ok T => (T, 0, 0)
theorem places_at : ∀ (T : List Tok) (lo hi : Nat), Places lo hi T → ∀ i, (hi' : i < T.length) → lo ≤ T[i].a ∧ T[i].a < hi ∧ ∀ j, (hj : j < i) → T[j].a < T[i].a
  | [], _, _, _, i, hi' => by simp at hi'
  | x :: T, lo, hi, ⟨h1, h2, h3⟩, 0, _ => ⟨h1, h2, fun j hj => by omega⟩
  | x :: T, lo, hi, ⟨h1, h2, h3⟩, i + 1, hi' => by
    have h := places_at T (x.a + 1) hi h3 i (by simpa using hi')
    refine ⟨by simp only [List.getElem_cons_succ]; omega, by simpa using h.2.1, fun j hj => ?_⟩
    cases j with
    | zero => simp only [List.getElem_cons_zero, List.getElem_cons_succ]; omega
    | succ j => simpa using h.2.2 j (by omega)
theorem toksR_places {s : ByteArray} {T : List Tok} {at_ e : Int} (h : toksR s = (T, at_, e)) :
    0 ≤ at_ ∧ at_ ≤ s.size ∧ (e = 0 → at_ = 0) ∧ (e ≠ 0 → T = []) ∧ T.length ≤ 4096 ∧ ∀ i, (hi' : i < T.length) → T[i].a < s.size ∧ ∀ j, (hj : j < i) → T[j].a < T[i].a := by
  unfold toksR at h
  split at h
  · simp only [Prod.mk.injEq] at h
    obtain ⟨rfl, rfl, rfl⟩ := h
    exact ⟨by omega, by omega, by omega, fun _ => rfl, by simp, fun i hi => by simp at hi⟩
  · cases hs : scan s.data.toList 0 0 with
    | error x =>
      rw [hs] at h
      simp only [Prod.mk.injEq] at h
      obtain ⟨rfl, rfl, rfl⟩ := h
      have := scan_err _ _ _ _ hs
      simp only [Array.length_toList] at this
      have hz : s.data.size = s.size := rfl
      exact ⟨by omega, by omega, by omega, fun _ => rfl, by simp, fun i hi => by simp at hi⟩
    | ok U =>
      rw [hs] at h
      simp only [Prod.mk.injEq] at h
      obtain ⟨rfl, rfl, rfl⟩ := h
      have hp := places_at _ _ _ (scan_places _ _ _ _ hs)
      have hz : s.data.size = s.size := rfl
      refine ⟨by omega, by omega, fun _ => rfl, fun h => absurd rfl h, ?_, fun i hi => ?_⟩
      · have key : ∀ i, (hi : i < U.length) → i ≤ U[i].a := by
          intro i
          induction i with
          | zero => intro _; omega
          | succ i ih =>
            intro hi
            have h1 := ih (by omega)
            have h2 := (hp (i + 1) hi).2.2 i (by omega)
            omega
        cases hU : U.length with
        | zero => omega
        | succ m =>
          have h1 := key m (by omega)
          have h2 := (hp m (by omega)).2.1
          simp only [Array.length_toList] at h2
          omega
      · have := hp i hi
        simp only [Array.length_toList] at this
        exact ⟨by omega, this.2.2⟩
theorem index_cons_ne {c : UInt8} (h : c ≠ 39) (l : List UInt8) : Lib.index (c :: l) [39, 39] = if Lib.index l [39, 39] == -1 then -1 else Lib.index l [39, 39] + 1 := by
  rw [Lib.index, if_neg]
  simp [List.isPrefixOf]
  intro e; exact absurd e.symm h
theorem index_two (r : List UInt8) : Lib.index (39 :: 39 :: r) [39, 39] = (0 : Nat) := by
  rw [Lib.index, if_pos (by simp [List.isPrefixOf])]; rfl
theorem rep_eq (s : List UInt8) : Lib.replaceAll s [39, 39] [39] = Lib.replaceK [39, 39] [39] (Lib.count s [39, 39]) s := by
  unfold Lib.replaceAll Lib.replace
  rw [if_neg (by decide)]
  unfold Lib.replaceNum
  rw [if_pos (Or.inl (by decide))]
theorem rep_nil : Lib.replaceAll [] [39, 39] [39] = [] := by decide
theorem rep_two (r : List UInt8) : Lib.replaceAll (39 :: 39 :: r) [39, 39] [39] = 39 :: Lib.replaceAll r [39, 39] [39] := by
  rw [rep_eq, rep_eq, Lib.count_hit (by decide) (index_two r), Nat.add_comm 1, Lib.replaceK_hit _ _ _ _ 0 (index_two r)]
  rfl
theorem rep_cons {c : UInt8} (h : c ≠ 39) (l : List UInt8) : Lib.replaceAll (c :: l) [39, 39] [39] = c :: Lib.replaceAll l [39, 39] [39] := by
  rw [rep_eq, rep_eq]
  have hi := index_cons_ne h l
  by_cases hm : Lib.index l [39, 39] = -1
  · rw [hm] at hi
    rw [Lib.count_miss hm, Lib.count_miss (by simpa using hi)]
    rfl
  · obtain ⟨i, he⟩ : ∃ i : Nat, Lib.index l [39, 39] = i := ⟨(Lib.index l [39, 39]).toNat, by have := Lib.index_ge l [39, 39]; omega⟩
    have hb : (Lib.index l [39, 39] == -1) = false := beq_eq_false_iff_ne.2 hm
    rw [hb, he] at hi
    have hi' : Lib.index (c :: l) [39, 39] = ((i + 1 : Nat) : Int) := by rw [hi]; rfl
    rw [Lib.count_hit (by decide) hi', Lib.count_hit (by decide) he, Nat.add_comm 1, Nat.add_comm 1, Lib.replaceK_hit _ _ _ _ _ hi', Lib.replaceK_hit _ _ _ _ _ he, show i + 1 + ([39, 39] : List UInt8).length = (i + ([39, 39] : List UInt8).length) + 1 by omega, List.drop_succ_cons, List.take_succ_cons]
    rfl
theorem quotL_rep (l : List UInt8) : ∀ o n, quotL l = some (o, n) → Lib.replaceAll (l.take (n - 1)) [39, 39] [39] = o := by
  refine quot_ind (P := fun l => ∀ o n, quotL l = some (o, n) → Lib.replaceAll (l.take (n - 1)) [39, 39] [39] = o) ?_ ?_ ?_ ?_ l.length l (Nat.le_refl _)
  · intro o n h; cases h
  · intro c l hc ih o n h
    rw [quotL_plain hc, Option.map_eq_some_iff] at h
    obtain ⟨⟨o', n'⟩, h1, h2⟩ := h
    have := quotL_len l _ _ h1
    simp only [Prod.mk.injEq] at h2
    obtain ⟨rfl, rfl⟩ := h2
    rw [show n' + 1 - 1 = (n' - 1) + 1 by omega, List.take_succ_cons, rep_cons hc, ih _ _ h1]
  · intro r ih o n h
    rw [quotL_two, Option.map_eq_some_iff] at h
    obtain ⟨⟨o', n'⟩, h1, h2⟩ := h
    have := quotL_len r _ _ h1
    simp only [Prod.mk.injEq] at h2
    obtain ⟨rfl, rfl⟩ := h2
    rw [show n' + 2 - 1 = (n' - 1) + 2 by omega]
    show Lib.replaceAll (39 :: 39 :: r.take (n' - 1)) _ _ = _
    rw [rep_two, ih _ _ h1]
  · intro l hl o n h
    rw [quotL_end hl] at h
    simp only [Option.some.injEq, Prod.mk.injEq] at h
    obtain ⟨rfl, rfl⟩ := h
    exact rep_nil
end Go.Proofs.YtgaihglploedaabDoor
/-
  Boxes of three cells that a call has made, one, two or three behind one another, and that they stay.
-/
namespace Go.Proofs.YtgaihglploedaabDoor
set_option maxRecDepth 100000
open Go.RowKit

/-- A box of three cells that may be written. -/
structure Cell3 (u : World) (X : Nat) (x y z : Value) : Prop where
  lt : X < u.heap.size
  c0 : u.cell? ⟨X, 0, none⟩ = some x
  c1 : u.cell? ⟨X, 1, none⟩ = some y
  c2 : u.cell? ⟨X, 2, none⟩ = some z
  fz : ∀ o, u.frozen? ⟨X, o, none⟩ = false
theorem Cell3.low {u v : World} {X : Nat} {x y z : Value} (h : Cell3 u X x y z) (hb : Below u.heap.size u v) : Cell3 v X x y z :=
  ⟨Nat.lt_of_lt_of_le h.lt hb.size, by rw [hb.cell (by exact h.lt)]; exact h.c0, by rw [hb.cell (by exact h.lt)]; exact h.c1, by rw [hb.cell (by exact h.lt)]; exact h.c2, fun o => by rw [hb.frozen (by exact h.lt)]; exact h.fz o⟩
theorem cell3_new (w : World) (x y z : Value) (t : TypeId) : Cell3 (w.alloc (.cells #[x, y, z] t)) w.heap.size x y z := by
  refine ⟨by simp, ?_, ?_, ?_, fun o => ?_⟩
  all_goals go_simp
theorem Cell3.at {u : World} {X Y : Nat} {x y z : Value} (h : Cell3 u X x y z) (e : X = Y) : Cell3 u Y x y z := e ▸ h
theorem below_alloc (u : World) (o : Obj) : Below u.heap.size u (u.alloc o) := (Below.refl _ _).alloc (Nat.le_refl _) _
theorem size_alloc (u : World) (o : Obj) : (u.alloc o).heap.size = u.heap.size + 1 := by simp

theorem box_one (w : World) (x y z : Value) (t : TypeId) {w' : World} (hb : Below (w.alloc (.cells #[x, y, z] t)).heap.size (w.alloc (.cells #[x, y, z] t)) w') :
    Cell3 w' w.heap.size x y z ∧ Below w.heap.size w w' :=
  ⟨(cell3_new _ _ _ _ _).low hb, Below.of_alloc hb⟩
theorem box_two (w : World) (x y z x' y' z' : Value) (t t' : TypeId) {w' : World} (hb : Below ((w.alloc (.cells #[x, y, z] t)).alloc (.cells #[x', y', z'] t')).heap.size ((w.alloc (.cells #[x, y, z] t)).alloc (.cells #[x', y', z'] t')) w') :
    Cell3 w' w.heap.size x y z ∧ Cell3 w' (w.heap.size + 1) x' y' z' ∧ Below w.heap.size w w' :=
  ⟨((cell3_new _ _ _ _ _).low (below_alloc _ _)).low hb, ((cell3_new _ _ _ _ _).low hb).at (size_alloc _ _), Below.of_alloc (Below.of_alloc hb)⟩
theorem box_three (w : World) (x y z x' y' z' x2 y2 z2 : Value) (t t' t2 : TypeId) {w' : World} (hb : Below (((w.alloc (.cells #[x, y, z] t)).alloc (.cells #[x', y', z'] t')).alloc (.cells #[x2, y2, z2] t2)).heap.size (((w.alloc (.cells #[x, y, z] t)).alloc (.cells #[x', y', z'] t')).alloc (.cells #[x2, y2, z2] t2)) w') :
    Cell3 w' w.heap.size x y z ∧ Cell3 w' (w.heap.size + 1) x' y' z' ∧ Cell3 w' (w.heap.size + 2) x2 y2 z2 ∧ Below w.heap.size w w' :=
  ⟨(((cell3_new _ _ _ _ _).low (below_alloc _ _)).low (below_alloc _ _)).low hb, (((cell3_new _ _ _ _ _).low (below_alloc _ _)).low hb).at (size_alloc _ _), ((cell3_new _ _ _ _ _).low hb).at (by rw [size_alloc, size_alloc]), Below.of_alloc (Below.of_alloc (Below.of_alloc hb))⟩

/-- Three stores into a new box turn nothing old. -/
theorem Below.three {w u : World} (h : Below w.heap.size w u) {X : Nat} (hX : w.heap.size ≤ X) (x y z : Value) :
    Below w.heap.size w (((u.setCell ⟨X, 0, none⟩ x).setCell ⟨X, 1, none⟩ y).setCell ⟨X, 2, none⟩ z) :=
  ((h.setCell (by exact hX) _).setCell (by exact hX) _).setCell (by exact hX) _
theorem Below.three0 {w u : World} (h : Below w.heap.size w u) (x y z : Value) :
    Below w.heap.size w (((u.setCell ⟨w.heap.size, 0, none⟩ x).setCell ⟨w.heap.size, 1, none⟩ y).setCell ⟨w.heap.size, 2, none⟩ z) := Below.three h (Nat.le_refl _) x y z
theorem Below.three1 {w u : World} (h : Below w.heap.size w u) (x y z : Value) :
    Below w.heap.size w (((u.setCell ⟨w.heap.size + 1, 0, none⟩ x).setCell ⟨w.heap.size + 1, 1, none⟩ y).setCell ⟨w.heap.size + 1, 2, none⟩ z) := Below.three h (Nat.le_succ _) x y z
theorem Below.three2 {w u : World} (h : Below w.heap.size w u) (x y z : Value) :
    Below w.heap.size w (((u.setCell ⟨w.heap.size + 2, 0, none⟩ x).setCell ⟨w.heap.size + 2, 1, none⟩ y).setCell ⟨w.heap.size + 2, 2, none⟩ z) := Below.three h (Nat.le_add_right _ 2) x y z

/-- What a cell holds, by a name that the walk does not open: for a box that a region writes. -/
def rd (u : World) (b o : Nat) : Value := (u.cell? ⟨b, o, none⟩).getD (.bool false)
theorem rd_some {u : World} {b o : Nat} {v : Value} (h : u.cell? ⟨b, o, none⟩ = some v) : u.cell? ⟨b, o, none⟩ = some (rd u b o) := by unfold rd; rw [h]; rfl
/-- A box of three cells that may be written, whatever it holds. -/
abbrev May3 (u : World) (X : Nat) : Prop := u.cell? ⟨X, 0, none⟩ = some (rd u X 0) ∧ u.cell? ⟨X, 1, none⟩ = some (rd u X 1) ∧ u.cell? ⟨X, 2, none⟩ = some (rd u X 2) ∧ ∀ o, u.frozen? ⟨X, o, none⟩ = false
theorem Cell3.may {u : World} {X : Nat} {x y z : Value} (h : Cell3 u X x y z) : May3 u X := ⟨rd_some h.c0, rd_some h.c1, rd_some h.c2, h.fz⟩
theorem may_low {u v : World} {X : Nat} (h : May3 u X) (hX : X < u.heap.size) (hb : Below u.heap.size u v) : May3 v X :=
  ⟨rd_some (by rw [hb.cell (by exact hX)]; exact h.1), rd_some (by rw [hb.cell (by exact hX)]; exact h.2.1), rd_some (by rw [hb.cell (by exact hX)]; exact h.2.2.1), fun o => by rw [hb.frozen (by exact hX)]; exact h.2.2.2 o⟩
theorem cell3_set {u : World} {X : Nat} {a b c : Value} (h : Cell3 u X a b c) (x y z : Value) : Cell3 (((u.setCell ⟨X, 0, none⟩ x).setCell ⟨X, 1, none⟩ y).setCell ⟨X, 2, none⟩ z) X x y z := by
  obtain ⟨hl, c0, c1, c2, fz⟩ := h
  refine ⟨by simpa [World.setCell] using hl, ?_, ?_, ?_, fun o => ?_⟩
  · go_simp
  · go_simp
  · go_simp
  · rw [World.frozen?_setCell, World.frozen?_setCell, World.frozen?_setCell]; exact fz o
theorem cell3_far {u : World} {X Y : Nat} (hn : X ≠ Y) (x y z : Value) (o : Nat) : (((u.setCell ⟨Y, 0, none⟩ x).setCell ⟨Y, 1, none⟩ y).setCell ⟨Y, 2, none⟩ z).cell? ⟨X, o, none⟩ = u.cell? ⟨X, o, none⟩ := by
  rw [World.cell?_of_block (w := (u.setCell ⟨Y, 0, none⟩ x).setCell ⟨Y, 1, none⟩ y) (Below.heap_setCell _ _ _ _ hn), World.cell?_of_block (w := u.setCell ⟨Y, 0, none⟩ x) (Below.heap_setCell _ _ _ _ hn), World.cell?_of_block (w := u) (Below.heap_setCell _ _ _ _ hn)]
theorem set3_read {u : World} {X : Nat} {x y z a b c : Value} (h0 : (((u.setCell ⟨X, 0, none⟩ x).setCell ⟨X, 1, none⟩ y).setCell ⟨X, 2, none⟩ z).cell? ⟨X, 0, none⟩ = some a)
    (h1 : (((u.setCell ⟨X, 0, none⟩ x).setCell ⟨X, 1, none⟩ y).setCell ⟨X, 2, none⟩ z).cell? ⟨X, 1, none⟩ = some b) (h2 : (((u.setCell ⟨X, 0, none⟩ x).setCell ⟨X, 1, none⟩ y).setCell ⟨X, 2, none⟩ z).cell? ⟨X, 2, none⟩ = some c) :
    a = x ∧ b = y ∧ c = z := by
  unfold World.cell? World.setCell at h0 h1 h2
  simp only [Array.getElem?_modify] at h0 h1 h2
  cases hx : u.heap[X]? with
  | none => simp [hx] at h0
  | some o =>
    cases o with
    | cells cs t f =>
      simp [hx, Array.getElem?_setIfInBounds] at h0 h1 h2
      exact ⟨h0.2.symm, h1.2.symm, h2.2.symm⟩
    | _ => simp [hx] at h0
theorem size_set3 (u : World) (Y : Nat) (x y z : Value) : (((u.setCell ⟨Y, 0, none⟩ x).setCell ⟨Y, 1, none⟩ y).setCell ⟨Y, 2, none⟩ z).heap.size = u.heap.size := by simp [World.setCell]
end Go.Proofs.YtgaihglploedaabDoor
/-
  Valid, of the program and of the reference.
-/
namespace Go.Proofs.YtgaihglploedaabDoor
set_option maxRecDepth 100000
open Go.RowKit

theorem ret_bool {a b : Bool} (h : a = b) : Ending.returned (.bool a) = .returned (.bool b) := by rw [h]

set_option maxHeartbeats 400000 in
theorem vtext_any (s : ByteArray) (w : World) (hs : s.size ≤ 9223372036854775807) :
    Calls Tryd.prog 27 #[.string s] w fun e w' => e = .returned (.bool (textOK s.data.toList)) ∧ w' = w := by
  by_cases hl : 64 < s.size
  · have hf := Lib.hid (textOK_long (l := s.data.toList) (by simpa using hl))
    go_enter Tryd.func27, Tryd.ntmps27
    go_wp2
    all_goals
      go_ret
      exact ⟨ret_bool hf.out.symm, rfl⟩
  · go_enter Tryd.func27, Tryd.ntmps27
    go_wp2
    go_loop [3, 9] (fun _ i => ∃ k : Nat, k ≤ s.size ∧ i = .int .i64 k ∧ (s.data.toList.take k).all byteOK = true) (fun _ i => s.size - (intOf i).toNat)
    case atStart => exact ⟨0, Nat.zero_le _, rfl, by simp⟩
    case round =>
      obtain ⟨k, hk, rfl, ha⟩ := hrel
      have HA := Lib.hid ha
      clear ha
      by_cases hlt : k < s.size
      · go_wp2
        all_goals first
          | (go_ret; exact ⟨ret_bool (textOK_at hlt (by omega)).symm, rfl⟩)
          | exact ⟨⟨k + 1, by omega, by go_num, allOK_succ hlt HA.out (by omega) (by omega)⟩, by simp [intOf]; omega⟩
      · go_wp2
        all_goals
          go_ret
          exact ⟨ret_bool (textOK_end hk hlt (by omega) HA.out).symm, rfl⟩

set_option maxHeartbeats 400000 in
theorem valid_any (k n : Int) (s : ByteArray) (w : World) (hs : s.size ≤ 9223372036854775807) :
    Calls Tryd.prog 19 #[.agg #[.int .i64 k, .int .i64 n, .string s]] w fun e w' => e = .returned (.bool (validB k n s)) ∧ Below w.heap.size w w' := by
  go_enter Tryd.func19, Tryd.ntmps19
  go_wp2_with (go_at_call 27; refine (vtext_any _ _ hs).mono ?_; rintro e w' ⟨rfl, rfl⟩)
  all_goals
    go_ret
    refine ⟨ret_bool ?_, (Below.refl _ _).alloc (Nat.le_refl _) _⟩
    simp_all [validB]

theorem validB_text (s : ByteArray) : validB 3 0 s = textOK s.data.toList := by simp [validB]

set_option maxHeartbeats 400000 in
theorem rvalid_short (s : ByteArray) (w : World) (hs : s.size ≤ 64) :
    Calls Tryd.prog 22 #[.agg #[.int .i64 3, .int .i64 0, .string s]] w fun e w' => e = .returned (.bool (textOK s.data.toList)) ∧ Below w.heap.size w w' := by
  go_enter Tryd.func22, Tryd.ntmps22
  go_wp2
  go_loop [3] (fun i => ∃ j : Nat, j ≤ s.size ∧ i = .int .i64 j ∧ (s.data.toList.take j).all byteOK = true) (fun i => s.size - (intOf i).toNat)
  case atStart => exact ⟨0, Nat.zero_le _, rfl, by simp⟩
  case round =>
    obtain ⟨j, hk, rfl, ha⟩ := hrel
    have HA := Lib.hid ha
    clear ha
    by_cases hlt : j < s.size
    · go_wp2
      all_goals first
        | (go_ret; exact ⟨ret_bool (textOK_at hlt (by omega)).symm, (Below.refl _ _).alloc (Nat.le_refl _) _⟩)
        | exact ⟨⟨j + 1, by omega, by go_num, allOK_succ hlt HA.out (by omega) (by omega)⟩, by simp [intOf]; omega⟩
    · go_wp2
      all_goals
        go_ret
        exact ⟨ret_bool (textOK_end hk hlt hs HA.out).symm, (Below.refl _ _).alloc (Nat.le_refl _) _⟩

set_option maxHeartbeats 400000 in
theorem rvalid_other (k n : Int) (s : ByteArray) (w : World) (hs : s.size ≤ 9223372036854775807) (h : (k == 3) = false ∨ ¬ n = 0 ∨ (64 : Int) < s.size) :
    Calls Tryd.prog 22 #[.agg #[.int .i64 k, .int .i64 n, .string s]] w fun e w' => e = .returned (.bool (validB k n s)) ∧ Below w.heap.size w w' := by
  have hl : (64 : Int) < s.size → textOK s.data.toList = false := fun h => textOK_long (by simp; omega)
  have HL := Lib.hid hl
  clear hl
  rcases h with h | h | h
  all_goals
    go_enter Tryd.func22, Tryd.ntmps22
    go_wp2
  all_goals
    go_ret
    refine ⟨ret_bool ?_, (Below.refl _ _).alloc (Nat.le_refl _) _⟩
    first | (simp_all [validB]; done) | (simp_all [validB, HL.out (by assumption)]; done)

theorem rvalid_any (k n : Int) (s : ByteArray) (w : World) (hs : s.size ≤ 9223372036854775807) :
    Calls Tryd.prog 22 #[.agg #[.int .i64 k, .int .i64 n, .string s]] w fun e w' => e = .returned (.bool (validB k n s)) ∧ Below w.heap.size w w' := by
  by_cases h : k = 3 ∧ n = 0 ∧ s.size ≤ 64
  · obtain ⟨rfl, rfl, h⟩ := h
    rw [validB_text]; exact rvalid_short s w h
  · refine rvalid_other k n s w hs ?_
    by_cases h3 : k = 3
    · by_cases h0 : n = 0
      · exact Or.inr (Or.inr (by omega))
      · exact Or.inr (Or.inl h0)
    · exact Or.inl (beq_eq_false_iff_ne.2 h3)
end Go.Proofs.YtgaihglploedaabDoor
/-
  The values of the tape are valid, and short.
-/
namespace Go.Proofs.YtgaihglploedaabDoor
set_option maxRecDepth 100000
open Go.RowKit

end Go.Proofs.YtgaihglploedaabDoor
