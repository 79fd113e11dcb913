/-
  Several texts in one.
-/
import Derived.Test.YtlnbpobipmejfaaGreatDoorProg
import Derived.Test.YtlnbpobipmejfaaGreatDoorPk03
import Derived.WalkKit
import Derived.WalkSpells
import Derived.WalkLawsBesides
import Derived.Deep.QuietTactic
import Derived.BigQuiet
import Derived.Lib.Hide
import Derived.Test.YtlnbpobipmejfaaGreatDoorPk01
import Derived.Test.YtlnbpobipmejfaaGreatDoorPk05
/-
  Valid, of the program and of the reference.
-/
namespace Go.Proofs.YtlnbpobipmejfaaGreatDoor
set_option maxRecDepth 100000
open Go.RowKit

theorem ret_bool {a b : Bool} (h : a = b) : Ending.returned (.bool a) = .returned (.bool b) := by rw [h]

set_option maxHeartbeats 400000 in
theorem vtext_any (s : ByteArray) (w : World) (hs : s.size ≤ 9223372036854775807) :
    Calls Tryz.prog 119 #[.string s] w fun e w' => e = .returned (.bool (textOK s.data.toList)) ∧ w' = w := by
  by_cases hl : 64 < s.size
  · have hf := Lib.hid (textOK_long (l := s.data.toList) (by simpa using hl))
    go_enter Tryz.func119, Tryz.ntmps119
    go_wp2
    all_goals
      go_ret
      exact ⟨ret_bool hf.out.symm, rfl⟩
  · go_enter Tryz.func119, Tryz.ntmps119
    go_wp2
    go_loop [3, 9] (fun _ i => ∃ k : Nat, k ≤ s.size ∧ i = .int .i64 k ∧ (s.data.toList.take k).all byteOK = true) (fun _ i => s.size - (intOf i).toNat)
    case atStart => exact ⟨0, Nat.zero_le _, rfl, by simp⟩
    case round =>
      obtain ⟨k, hk, rfl, ha⟩ := hrel
      have HA := Lib.hid ha
      clear ha
      by_cases hlt : k < s.size
      · go_wp2
        all_goals first
          | (go_ret; exact ⟨ret_bool (textOK_at hlt (by omega)).symm, rfl⟩)
          | exact ⟨⟨k + 1, by omega, by go_num, allOK_succ hlt HA.out (by omega) (by omega)⟩, by simp [intOf]; omega⟩
      · go_wp2
        all_goals
          go_ret
          exact ⟨ret_bool (textOK_end hk hlt (by omega) HA.out).symm, rfl⟩

set_option maxHeartbeats 400000 in
theorem valid_any (k n : Int) (s : ByteArray) (w : World) (hs : s.size ≤ 9223372036854775807) :
    Calls Tryz.prog 111 #[.agg #[.int .i64 k, .int .i64 n, .string s]] w fun e w' => e = .returned (.bool (validB k n s)) ∧ Below w.heap.size w w' := by
  go_enter Tryz.func111, Tryz.ntmps111
  go_wp2_with (go_at_call 119; refine (vtext_any _ _ hs).mono ?_; rintro e w' ⟨rfl, rfl⟩)
  all_goals
    go_ret
    refine ⟨ret_bool ?_, (Below.refl _ _).alloc (Nat.le_refl _) _⟩
    simp_all [validB]

theorem validB_text (s : ByteArray) : validB 3 0 s = textOK s.data.toList := by simp [validB]

set_option maxHeartbeats 400000 in
theorem rvalid_short (s : ByteArray) (w : World) (hs : s.size ≤ 64) :
    Calls Tryz.prog 87 #[.agg #[.int .i64 3, .int .i64 0, .string s]] w fun e w' => e = .returned (.bool (textOK s.data.toList)) ∧ Below w.heap.size w w' := by
  go_enter Tryz.func87, Tryz.ntmps87
  go_wp2
  go_loop [3] (fun i => ∃ j : Nat, j ≤ s.size ∧ i = .int .i64 j ∧ (s.data.toList.take j).all byteOK = true) (fun i => s.size - (intOf i).toNat)
  case atStart => exact ⟨0, Nat.zero_le _, rfl, by simp⟩
  case round =>
    obtain ⟨j, hk, rfl, ha⟩ := hrel
    have HA := Lib.hid ha
    clear ha
    by_cases hlt : j < s.size
    · go_wp2
      all_goals first
        | (go_ret; exact ⟨ret_bool (textOK_at hlt (by omega)).symm, (Below.refl _ _).alloc (Nat.le_refl _) _⟩)
        | exact ⟨⟨j + 1, by omega, by go_num, allOK_succ hlt HA.out (by omega) (by omega)⟩, by simp [intOf]; omega⟩
    · go_wp2
      all_goals
        go_ret
        exact ⟨ret_bool (textOK_end hk hlt hs HA.out).symm, (Below.refl _ _).alloc (Nat.le_refl _) _⟩

set_option maxHeartbeats 400000 in
theorem rvalid_other (k n : Int) (s : ByteArray) (w : World) (hs : s.size ≤ 9223372036854775807) (h : (k == 3) = false ∨ ¬ n = 0 ∨ (64 : Int) < s.size) :
    Calls Tryz.prog 87 #[.agg #[.int .i64 k, .int .i64 n, .string s]] w fun e w' => e = .returned (.bool (validB k n s)) ∧ Below w.heap.size w w' := by
  have hl : (64 : Int) < s.size → textOK s.data.toList = false := fun h => textOK_long (by simp; omega)
  have HL := Lib.hid hl
  clear hl
  rcases h with h | h | h
  all_goals
    go_enter Tryz.func87, Tryz.ntmps87
    go_wp2
  all_goals
    go_ret
    refine ⟨ret_bool ?_, (Below.refl _ _).alloc (Nat.le_refl _) _⟩
    first | (simp_all [validB]; done) | (simp_all [validB, HL.out (by assumption)]; done)

theorem rvalid_any (k n : Int) (s : ByteArray) (w : World) (hs : s.size ≤ 9223372036854775807) :
    Calls Tryz.prog 87 #[.agg #[.int .i64 k, .int .i64 n, .string s]] w fun e w' => e = .returned (.bool (validB k n s)) ∧ Below w.heap.size w w' := by
  by_cases h : k = 3 ∧ n = 0 ∧ s.size ≤ 64
  · obtain ⟨rfl, rfl, h⟩ := h
    rw [validB_text]; exact rvalid_short s w h
  · refine rvalid_other k n s w hs ?_
    by_cases h3 : k = 3
    · by_cases h0 : n = 0
      · exact Or.inr (Or.inr (by omega))
      · exact Or.inr (Or.inl h0)
    · exact Or.inl (beq_eq_false_iff_ne.2 h3)
end Go.Proofs.YtlnbpobipmejfaaGreatDoor
/-
  The values of the tape are valid, and short.
-/
namespace Go.Proofs.YtlnbpobipmejfaaGreatDoor
set_option maxRecDepth 100000
open Go.RowKit

theorem IsVal.valid {k n : Int} {s : ByteArray} (h : IsVal k n s) : validB k n s = true := by
  rcases h with ⟨rfl, rfl, rfl⟩ | ⟨rfl, -, rfl⟩ | ⟨rfl, h0, h1, rfl⟩ | ⟨rfl, rfl, hs⟩
  · simp [validB]
  · simp [validB]
  · have : n = 0 ∨ n = 1 := by omega
    simp [validB]; exact this
  · rw [validB_text]
    rcases hs with rfl | rfl | rfl | rfl | rfl | rfl <;> decide
theorem IsVal.size {k n : Int} {s : ByteArray} (h : IsVal k n s) : s.size ≤ 64 := by
  rcases h with ⟨-, -, rfl⟩ | ⟨-, -, rfl⟩ | ⟨-, -, -, rfl⟩ | ⟨-, -, hs⟩
  · decide
  · decide
  · decide
  · rcases hs with rfl | rfl | rfl | rfl | rfl | rfl <;> decide
theorem IsVal.range {k n : Int} {s : ByteArray} (h : IsVal k n s) : -9223372036854775808 ≤ n ∧ n ≤ 9223372036854775807 := by
  rcases h with ⟨-, rfl, -⟩ | ⟨-, hn, -⟩ | ⟨-, h0, h1, -⟩ | ⟨-, rfl, -⟩
  · decide
  · unfold IsNum at hn; omega
  · omega
  · decide
end Go.Proofs.YtlnbpobipmejfaaGreatDoor
/-
  Columns and schemas, as plain lists; what Valid, Find, KeyColumn, Fits compute. No program.
-/
namespace Go.Proofs.YtlnbpobipmejfaaGreatDoor
set_option maxRecDepth 100000
open Go

structure Col where
  nm : ByteArray
  ty : Int
  nn : Bool
  key : Bool

instance : Inhabited Col := ⟨⟨⟨#[]⟩, 0, false, false⟩⟩

def eqT (a b : ByteArray) : Bool := a.toList == b.toList
theorem eqT_iff {a b : ByteArray} : eqT a b = true ↔ a = b := by
  unfold eqT
  rw [beq_iff_eq, ByteArray.toList_eq, ByteArray.toList_eq]
  exact ⟨fun h => ByteArray.ext (Array.toList_inj.1 h), fun h => by rw [h]⟩
theorem eqT_self (a : ByteArray) : eqT a a = true := eqT_iff.2 rfl

/-- The first place below n at which P holds, or -1. -/
def findI (P : Nat → Bool) (n : Nat) : Int := match (List.range n).find? P with | some i => (i : Int) | none => -1
theorem findI_hit {P : Nat → Bool} {n i : Nat} (hi : i < n) (h : P i = true) (hn : ∀ j, j < i → P j = false) : findI P n = i := by
  unfold findI
  have : (List.range n).find? P = some i := List.find?_range_eq_some.2 ⟨h, List.mem_range.2 hi, fun j hj => by rw [hn j hj]; rfl⟩
  rw [this]
theorem findI_none {P : Nat → Bool} {n : Nat} (hn : ∀ j, j < n → P j = false) : findI P n = -1 := by
  unfold findI
  have : (List.range n).find? P = none := List.find?_range_eq_none.2 fun j hj => by rw [hn j hj]; rfl
  rw [this]
theorem findI_eq {P : Nat → Bool} {n i : Nat} (hi : i < n) (h : P i = true) : findI P n = i ↔ ∀ j, j < i → P j = false := by
  constructor
  · intro he j hj
    rw [Bool.eq_false_iff]
    intro hp
    obtain ⟨m, hm, hP⟩ : ∃ m, P m = true ∧ (∀ q, q < m → P q = false) ∧ m ≤ j := by
      have : ∀ k, P k = true → ∃ m, P m = true ∧ (∀ q, q < m → P q = false) ∧ m ≤ k := by
        intro k
        induction k using Nat.strongRecOn with
        | ind k ih =>
          intro hk
          by_cases hq : ∃ q, q < k ∧ P q = true
          · obtain ⟨q, hqk, hPq⟩ := hq
            obtain ⟨m, h1, h2, h3⟩ := ih q hqk hPq
            exact ⟨m, h1, h2, by omega⟩
          · exact ⟨k, hk, fun q hqk => by
              rw [Bool.eq_false_iff]; exact fun h => hq ⟨q, hqk, h⟩, Nat.le_refl _⟩
      exact this j hp
    have := findI_hit (n := n) (by omega) hm hP.1
    omega
  · exact findI_hit hi h

def findName (f : Nat → Col) (n : Nat) (s : ByteArray) : Int := findI (fun i => eqT (f i).nm s) n
def findKey (f : Nat → Col) (n : Nat) : Int := findI (fun i => (f i).key) n
theorem findI_range (P : Nat → Bool) (n : Nat) : -1 ≤ findI P n ∧ findI P n < n ∨ findI P n = -1 := by
  unfold findI
  split
  · rename_i i h
    have := (List.find?_range_eq_some.1 h).2.1
    have := List.mem_range.1 this
    exact .inl ⟨by omega, by omega⟩
  · exact .inr rfl

def tyOK (t : Int) : Bool := decide (1 ≤ t ∧ t ≤ 3)
def colOK (c : Col) : Bool := nameOK c.nm && tyOK c.ty && (c.nn || !c.key)
/-- Column i is right, and the first one with its name, and, if it is a key, the first key. -/
def Good (f : Nat → Col) (i : Nat) : Prop := colOK (f i) = true ∧ (∀ j, j < i → eqT (f j).nm (f i).nm = false) ∧ ((f i).key = true → ∀ j, j < i → (f j).key = false)
instance (f : Nat → Col) (i : Nat) : Decidable (Good f i) := by unfold Good; infer_instance
/-- Is a schema valid? -/
def schemaOK (nm : ByteArray) (n : Nat) (f : Nat → Col) : Bool := nameOK nm && decide (1 ≤ n ∧ n ≤ 6) && decide (∀ i, i < n → Good f i)

theorem schemaOK_name {nm : ByteArray} {n : Nat} {f : Nat → Col} (h : nameOK nm = false) : schemaOK nm n f = false := by unfold schemaOK; rw [h]; rfl
theorem schemaOK_len {nm : ByteArray} {n : Nat} {f : Nat → Col} (h : n < 1 ∨ 6 < n) : schemaOK nm n f = false := by
  unfold schemaOK; rw [decide_eq_false (by omega), Bool.and_false]; rfl
theorem schemaOK_bad {nm : ByteArray} {n : Nat} {f : Nat → Col} {i : Nat} (hi : i < n) (h : ¬ Good f i) : schemaOK nm n f = false := by
  unfold schemaOK; rw [decide_eq_false (p := ∀ i, i < n → Good f i) (fun hc => h (hc i hi)), Bool.and_false]
theorem schemaOK_yes {nm : ByteArray} {n : Nat} {f : Nat → Col} (hn : nameOK nm = true) (h1 : 1 ≤ n) (h2 : n ≤ 6) (h : ∀ i, i < n → Good f i) : schemaOK nm n f = true := by
  unfold schemaOK; rw [hn, decide_eq_true ⟨h1, h2⟩, decide_eq_true h]; rfl

theorem good_find {f : Nat → Col} {n i : Nat} (hi : i < n) : findName f n (f i).nm = i ↔ ∀ j, j < i → eqT (f j).nm (f i).nm = false := findI_eq (P := fun j => eqT (f j).nm (f i).nm) hi (eqT_self _)
theorem good_key {f : Nat → Col} {n i : Nat} (hi : i < n) (hk : (f i).key = true) : findKey f n = i ↔ ∀ j, j < i → (f j).key = false := findI_eq (P := fun j => (f j).key) hi hk
theorem bad_col {f : Nat → Col} {i : Nat} (h : colOK (f i) = false) : ¬ Good f i := fun hg => by have := hg.1; rw [h] at this; cases this
theorem bad_find {f : Nat → Col} {n i : Nat} (hi : i < n) (h : (findName f n (f i).nm == (i : Int)) = false) : ¬ Good f i := fun hg => by
  rw [beq_eq_false_iff_ne] at h; exact h ((good_find hi).2 hg.2.1)
theorem bad_key {f : Nat → Col} {n i : Nat} (hi : i < n) (hk : (f i).key = true) (h : (findKey f n == (i : Int)) = false) : ¬ Good f i := fun hg => by
  rw [beq_eq_false_iff_ne] at h; exact h ((good_key hi hk).2 (hg.2.2 hk))
theorem is_good {f : Nat → Col} {n i : Nat} (hi : i < n) (hc : colOK (f i) = true) (hf : (findName f n (f i).nm == (i : Int)) = true) (hk : (f i).key = true → (findKey f n == (i : Int)) = true) : Good f i :=
  ⟨hc, (good_find hi).1 (beq_iff_eq.1 hf), fun h => (good_key hi h).1 (beq_iff_eq.1 (hk h))⟩
theorem all_succ {Q : Nat → Prop} {k : Nat} (h : ∀ i, i < k → Q i) (hk : Q k) : ∀ i, i < k + 1 → Q i := fun i hi => by
  rcases Nat.lt_succ_iff_lt_or_eq.1 hi with h1 | rfl
  · exact h i h1
  · exact hk

/-- How many keys there are among the first n columns. -/
def keysN (f : Nat → Col) : Nat → Nat
  | 0 => 0
  | n + 1 => keysN f n + if (f n).key then 1 else 0
theorem keysN_le (f : Nat → Col) (n : Nat) : keysN f n ≤ n := by
  induction n with
  | zero => exact Nat.le_refl _
  | succ n ih => unfold keysN; split <;> omega
theorem keysN_zero (f : Nat → Col) (n : Nat) : keysN f n = 0 ↔ ∀ i, i < n → (f i).key = false := by
  induction n with
  | zero => exact ⟨fun _ i hi => by omega, fun _ => rfl⟩
  | succ n ih =>
    unfold keysN
    constructor
    · intro h
      cases hk : (f n).key
      · exact all_succ (ih.1 (by omega)) hk
      · rw [hk, if_pos rfl] at h; omega
    · intro h
      rw [ih.2 (fun i hi => h i (by omega)), h n (by omega)]; rfl
theorem keysN_one (f : Nat → Col) (n : Nat) : keysN f n ≤ 1 ↔ ∀ i, i < n → (f i).key = true → ∀ j, j < i → (f j).key = false := by
  induction n with
  | zero => exact ⟨fun _ i hi => by omega, fun _ => by unfold keysN; omega⟩
  | succ n ih =>
    unfold keysN
    cases hk : (f n).key
    · rw [if_neg (by decide), Nat.add_zero, ih]
      exact ⟨fun h => all_succ h (fun hc => by rw [hk] at hc; cases hc), fun h i hi => h i (by omega)⟩
    · rw [if_pos rfl]
      constructor
      · intro h
        have h0 := (keysN_zero f n).1 (by omega)
        exact all_succ (ih.1 (by omega)) (fun _ => h0)
      · intro h
        have := (keysN_zero f n).2 (h n (by omega) hk)
        omega
/-- A column, as the reference looks at it: all but the number of keys. -/
def FairC (f : Nat → Col) (i : Nat) : Prop := colOK (f i) = true ∧ (∀ j, j < i → eqT (f j).nm (f i).nm = false)
theorem fair_end {nm : ByteArray} {n : Nat} {f : Nat → Col} (hn : nameOK nm = true) (h1 : 1 ≤ n) (h2 : n ≤ 6) (h : ∀ i, i < n → FairC f i) : decide ((keysN f n : Int) ≤ 1) = schemaOK nm n f := by
  rw [Bool.eq_iff_iff, decide_eq_true_iff]
  constructor
  · intro hk
    have := (keysN_one f n).1 (by omega)
    exact schemaOK_yes hn h1 h2 fun i hi => ⟨(h i hi).1, (h i hi).2, this i hi⟩
  · intro hs
    unfold schemaOK at hs
    simp only [Bool.and_eq_true, decide_eq_true_eq] at hs
    have := (keysN_one f n).2 fun i hi => (hs.2 i hi).2.2
    omega
theorem bad_fair {f : Nat → Col} {n i : Nat} (hi : i < n) (h : (findName f n (f i).nm == (i : Int)) = false) : ¬ Good f i := bad_find hi h
theorem is_fair {f : Nat → Col} {n i : Nat} (hi : i < n) (hc : colOK (f i) = true) (hf : (findName f n (f i).nm == (i : Int)) = true) : FairC f i :=
  ⟨hc, (good_find hi).1 (beq_iff_eq.1 hf)⟩
theorem colOK_name {c : Col} (h : nameOK c.nm = false) : colOK c = false := by unfold colOK; rw [h]; rfl
theorem colOK_type {c : Col} (h : c.ty < 1 ∨ 3 < c.ty) : colOK c = false := by
  unfold colOK tyOK; rw [decide_eq_false (by omega), Bool.and_false]; rfl
theorem colOK_null {c : Col} (h : c.nn = false) (h2 : c.key = true) : colOK c = false := by unfold colOK; rw [h, h2, Bool.and_comm]; rfl
theorem colOK_yes {c : Col} (h : nameOK c.nm = true) (h1 : 1 ≤ c.ty) (h3 : c.ty ≤ 3) (h2 : c.nn = true ∨ c.key = false) : colOK c = true := by
  unfold colOK tyOK
  rw [h, decide_eq_true ⟨h1, h3⟩]
  rcases h2 with h2 | h2
  · rw [h2]; rfl
  · rw [h2]; simp

/-- What Fits answers. -/
def fitsE (ty : Int) (nn : Bool) (k n : Int) (s : ByteArray) : Int := if validB k n s then (if k = 0 then (if nn then 8 else 0) else if k = ty then 0 else 5) else 17
end Go.Proofs.YtlnbpobipmejfaaGreatDoor
/-
  Boxes of three cells that a call has made, one, two or three behind one another, and that they stay.
-/
namespace Go.Proofs.YtlnbpobipmejfaaGreatDoor
set_option maxRecDepth 100000
open Go.RowKit

/-- A box of three cells that may be written. -/
structure Cell3 (u : World) (X : Nat) (x y z : Value) : Prop where
  lt : X < u.heap.size
  c0 : u.cell? ⟨X, 0, none⟩ = some x
  c1 : u.cell? ⟨X, 1, none⟩ = some y
  c2 : u.cell? ⟨X, 2, none⟩ = some z
  fz : ∀ o, u.frozen? ⟨X, o, none⟩ = false
theorem Cell3.low {u v : World} {X : Nat} {x y z : Value} (h : Cell3 u X x y z) (hb : Below u.heap.size u v) : Cell3 v X x y z :=
  ⟨Nat.lt_of_lt_of_le h.lt hb.size, by rw [hb.cell (by exact h.lt)]; exact h.c0, by rw [hb.cell (by exact h.lt)]; exact h.c1, by rw [hb.cell (by exact h.lt)]; exact h.c2, fun o => by rw [hb.frozen (by exact h.lt)]; exact h.fz o⟩
theorem cell3_new (w : World) (x y z : Value) (t : TypeId) : Cell3 (w.alloc (.cells #[x, y, z] t)) w.heap.size x y z := by
  refine ⟨by simp, ?_, ?_, ?_, fun o => ?_⟩
  all_goals go_simp
theorem Cell3.at {u : World} {X Y : Nat} {x y z : Value} (h : Cell3 u X x y z) (e : X = Y) : Cell3 u Y x y z := e ▸ h
theorem below_alloc (u : World) (o : Obj) : Below u.heap.size u (u.alloc o) := (Below.refl _ _).alloc (Nat.le_refl _) _
theorem size_alloc (u : World) (o : Obj) : (u.alloc o).heap.size = u.heap.size + 1 := by simp

theorem box_one (w : World) (x y z : Value) (t : TypeId) {w' : World} (hb : Below (w.alloc (.cells #[x, y, z] t)).heap.size (w.alloc (.cells #[x, y, z] t)) w') :
    Cell3 w' w.heap.size x y z ∧ Below w.heap.size w w' :=
  ⟨(cell3_new _ _ _ _ _).low hb, Below.of_alloc hb⟩
theorem box_two (w : World) (x y z x' y' z' : Value) (t t' : TypeId) {w' : World} (hb : Below ((w.alloc (.cells #[x, y, z] t)).alloc (.cells #[x', y', z'] t')).heap.size ((w.alloc (.cells #[x, y, z] t)).alloc (.cells #[x', y', z'] t')) w') :
    Cell3 w' w.heap.size x y z ∧ Cell3 w' (w.heap.size + 1) x' y' z' ∧ Below w.heap.size w w' :=
  ⟨((cell3_new _ _ _ _ _).low (below_alloc _ _)).low hb, ((cell3_new _ _ _ _ _).low hb).at (size_alloc _ _), Below.of_alloc (Below.of_alloc hb)⟩
theorem box_three (w : World) (x y z x' y' z' x2 y2 z2 : Value) (t t' t2 : TypeId) {w' : World} (hb : Below (((w.alloc (.cells #[x, y, z] t)).alloc (.cells #[x', y', z'] t')).alloc (.cells #[x2, y2, z2] t2)).heap.size (((w.alloc (.cells #[x, y, z] t)).alloc (.cells #[x', y', z'] t')).alloc (.cells #[x2, y2, z2] t2)) w') :
    Cell3 w' w.heap.size x y z ∧ Cell3 w' (w.heap.size + 1) x' y' z' ∧ Cell3 w' (w.heap.size + 2) x2 y2 z2 ∧ Below w.heap.size w w' :=
  ⟨(((cell3_new _ _ _ _ _).low (below_alloc _ _)).low (below_alloc _ _)).low hb, (((cell3_new _ _ _ _ _).low (below_alloc _ _)).low hb).at (size_alloc _ _), ((cell3_new _ _ _ _ _).low hb).at (by rw [size_alloc, size_alloc]), Below.of_alloc (Below.of_alloc (Below.of_alloc hb))⟩

/-- Three stores into a new box turn nothing old. -/
theorem Below.three {w u : World} (h : Below w.heap.size w u) {X : Nat} (hX : w.heap.size ≤ X) (x y z : Value) :
    Below w.heap.size w (((u.setCell ⟨X, 0, none⟩ x).setCell ⟨X, 1, none⟩ y).setCell ⟨X, 2, none⟩ z) :=
  ((h.setCell (by exact hX) _).setCell (by exact hX) _).setCell (by exact hX) _
theorem Below.three0 {w u : World} (h : Below w.heap.size w u) (x y z : Value) :
    Below w.heap.size w (((u.setCell ⟨w.heap.size, 0, none⟩ x).setCell ⟨w.heap.size, 1, none⟩ y).setCell ⟨w.heap.size, 2, none⟩ z) := Below.three h (Nat.le_refl _) x y z
theorem Below.three1 {w u : World} (h : Below w.heap.size w u) (x y z : Value) :
    Below w.heap.size w (((u.setCell ⟨w.heap.size + 1, 0, none⟩ x).setCell ⟨w.heap.size + 1, 1, none⟩ y).setCell ⟨w.heap.size + 1, 2, none⟩ z) := Below.three h (Nat.le_succ _) x y z
theorem Below.three2 {w u : World} (h : Below w.heap.size w u) (x y z : Value) :
    Below w.heap.size w (((u.setCell ⟨w.heap.size + 2, 0, none⟩ x).setCell ⟨w.heap.size + 2, 1, none⟩ y).setCell ⟨w.heap.size + 2, 2, none⟩ z) := Below.three h (Nat.le_add_right _ 2) x y z

/-- What a cell holds, by a name that the walk does not open: for a box that a region writes. -/
def rd (u : World) (b o : Nat) : Value := (u.cell? ⟨b, o, none⟩).getD (.bool false)
theorem rd_some {u : World} {b o : Nat} {v : Value} (h : u.cell? ⟨b, o, none⟩ = some v) : u.cell? ⟨b, o, none⟩ = some (rd u b o) := by unfold rd; rw [h]; rfl
/-- A box of three cells that may be written, whatever it holds. -/
abbrev May3 (u : World) (X : Nat) : Prop := u.cell? ⟨X, 0, none⟩ = some (rd u X 0) ∧ u.cell? ⟨X, 1, none⟩ = some (rd u X 1) ∧ u.cell? ⟨X, 2, none⟩ = some (rd u X 2) ∧ ∀ o, u.frozen? ⟨X, o, none⟩ = false
theorem Cell3.may {u : World} {X : Nat} {x y z : Value} (h : Cell3 u X x y z) : May3 u X := ⟨rd_some h.c0, rd_some h.c1, rd_some h.c2, h.fz⟩
theorem may_low {u v : World} {X : Nat} (h : May3 u X) (hX : X < u.heap.size) (hb : Below u.heap.size u v) : May3 v X :=
  ⟨rd_some (by rw [hb.cell (by exact hX)]; exact h.1), rd_some (by rw [hb.cell (by exact hX)]; exact h.2.1), rd_some (by rw [hb.cell (by exact hX)]; exact h.2.2.1), fun o => by rw [hb.frozen (by exact hX)]; exact h.2.2.2 o⟩
theorem cell3_set {u : World} {X : Nat} {a b c : Value} (h : Cell3 u X a b c) (x y z : Value) : Cell3 (((u.setCell ⟨X, 0, none⟩ x).setCell ⟨X, 1, none⟩ y).setCell ⟨X, 2, none⟩ z) X x y z := by
  obtain ⟨hl, c0, c1, c2, fz⟩ := h
  refine ⟨by simpa [World.setCell] using hl, ?_, ?_, ?_, fun o => ?_⟩
  · go_simp
  · go_simp
  · go_simp
  · rw [World.frozen?_setCell, World.frozen?_setCell, World.frozen?_setCell]; exact fz o
theorem cell3_far {u : World} {X Y : Nat} (hn : X ≠ Y) (x y z : Value) (o : Nat) : (((u.setCell ⟨Y, 0, none⟩ x).setCell ⟨Y, 1, none⟩ y).setCell ⟨Y, 2, none⟩ z).cell? ⟨X, o, none⟩ = u.cell? ⟨X, o, none⟩ := by
  rw [World.cell?_of_block (w := (u.setCell ⟨Y, 0, none⟩ x).setCell ⟨Y, 1, none⟩ y) (Below.heap_setCell _ _ _ _ hn), World.cell?_of_block (w := u.setCell ⟨Y, 0, none⟩ x) (Below.heap_setCell _ _ _ _ hn), World.cell?_of_block (w := u) (Below.heap_setCell _ _ _ _ hn)]
theorem set3_read {u : World} {X : Nat} {x y z a b c : Value} (h0 : (((u.setCell ⟨X, 0, none⟩ x).setCell ⟨X, 1, none⟩ y).setCell ⟨X, 2, none⟩ z).cell? ⟨X, 0, none⟩ = some a)
    (h1 : (((u.setCell ⟨X, 0, none⟩ x).setCell ⟨X, 1, none⟩ y).setCell ⟨X, 2, none⟩ z).cell? ⟨X, 1, none⟩ = some b) (h2 : (((u.setCell ⟨X, 0, none⟩ x).setCell ⟨X, 1, none⟩ y).setCell ⟨X, 2, none⟩ z).cell? ⟨X, 2, none⟩ = some c) :
    a = x ∧ b = y ∧ c = z := by
  unfold World.cell? World.setCell at h0 h1 h2
  simp only [Array.getElem?_modify] at h0 h1 h2
  cases hx : u.heap[X]? with
  | none => simp [hx] at h0
  | some o =>
    cases o with
    | cells cs t f =>
      simp [hx, Array.getElem?_setIfInBounds] at h0 h1 h2
      exact ⟨h0.2.symm, h1.2.symm, h2.2.symm⟩
    | _ => simp [hx] at h0
theorem size_set3 (u : World) (Y : Nat) (x y z : Value) : (((u.setCell ⟨Y, 0, none⟩ x).setCell ⟨Y, 1, none⟩ y).setCell ⟨Y, 2, none⟩ z).heap.size = u.heap.size := by simp [World.setCell]
end Go.Proofs.YtlnbpobipmejfaaGreatDoor
