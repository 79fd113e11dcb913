/-
  Several texts in one.
-/
import Derived.Test.YtgaihglploedaabDoorPk04
import Derived.Test.YtgaihglploedaabDoorPk05
import Derived.Test.YtgaihglploedaabDoorPk03
/-
  Columns and schemas, as plain lists; what Valid, Find, KeyColumn, Fits compute. No program.
-/
namespace Go.Proofs.YtgaihglploedaabDoor
set_option maxRecDepth 100000
open Go

structure Col where
  nm : ByteArray
  ty : Int
  nn : Bool
  key : Bool

instance : Inhabited Col := ⟨⟨⟨#[]⟩, 0, false, false⟩⟩

def eqT (a b : ByteArray) : Bool := a.toList == b.toList
theorem eqT_iff {a b : ByteArray} : eqT a b = true ↔ a = b := by
  unfold eqT
  rw [beq_iff_eq, ByteArray.toList_eq, ByteArray.toList_eq]
  exact ⟨fun h => ByteArray.ext (Array.toList_inj.1 h), fun h => by rw [h]⟩
theorem eqT_self (a : ByteArray) : eqT a a = true := eqT_iff.2 rfl

/-- The first place below n at which P holds, or -1. -/
def findI (P : Nat → Bool) (n : Nat) : Int := match (List.range n).find? P with | some i => (i : Int) | none => -1
theorem findI_hit {P : Nat → Bool} {n i : Nat} (hi : i < n) (h : P i = true) (hn : ∀ j, j < i → P j = false) : findI P n = i := by
  unfold findI
  have : (List.range n).find? P = some i := List.find?_range_eq_some.2 ⟨h, List.mem_range.2 hi, fun j hj => by rw [hn j hj]; rfl⟩
  rw [this]
theorem findI_none {P : Nat → Bool} {n : Nat} (hn : ∀ j, j < n → P j = false) : findI P n = -1 := by
  unfold findI
  have : (List.range n).find? P = none := List.find?_range_eq_none.2 fun j hj => by rw [hn j hj]; rfl
  rw [this]
theorem findI_eq {P : Nat → Bool} {n i : Nat} (hi : i < n) (h : P i = true) : findI P n = i ↔ ∀ j, j < i → P j = false := by
  constructor
  · intro he j hj
    rw [Bool.eq_false_iff]
    intro hp
    obtain ⟨m, hm, hP⟩ : ∃ m, P m = true ∧ (∀ q, q < m → P q = false) ∧ m ≤ j := by
      have : ∀ k, P k = true → ∃ m, P m = true ∧ (∀ q, q < m → P q = false) ∧ m ≤ k := by
        intro k
        induction k using Nat.strongRecOn with
        | ind k ih =>
          intro hk
          by_cases hq : ∃ q, q < k ∧ P q = true
          · obtain ⟨q, hqk, hPq⟩ := hq
            obtain ⟨m, h1, h2, h3⟩ := ih q hqk hPq
            exact ⟨m, h1, h2, by omega⟩
          · exact ⟨k, hk, fun q hqk => by
              rw [Bool.eq_false_iff]; exact fun h => hq ⟨q, hqk, h⟩, Nat.le_refl _⟩
      exact this j hp
    have := findI_hit (n := n) (by omega) hm hP.1
    omega
  · exact findI_hit hi h

def findName (f : Nat → Col) (n : Nat) (s : ByteArray) : Int := findI (fun i => eqT (f i).nm s) n
def findKey (f : Nat → Col) (n : Nat) : Int := findI (fun i => (f i).key) n
theorem findI_range (P : Nat → Bool) (n : Nat) : -1 ≤ findI P n ∧ findI P n < n ∨ findI P n = -1 := by
  unfold findI
  split
  · rename_i i h
    have := (List.find?_range_eq_some.1 h).2.1
    have := List.mem_range.1 this
    exact .inl ⟨by omega, by omega⟩
  · exact .inr rfl

def tyOK (t : Int) : Bool := decide (1 ≤ t ∧ t ≤ 3)
def colOK (c : Col) : Bool := nameOK c.nm && tyOK c.ty && (c.nn || !c.key)
/-- Column i is right, and the first one with its name, and, if it is a key, the first key. -/
def Good (f : Nat → Col) (i : Nat) : Prop := colOK (f i) = true ∧ (∀ j, j < i → eqT (f j).nm (f i).nm = false) ∧ ((f i).key = true → ∀ j, j < i → (f j).key = false)
instance (f : Nat → Col) (i : Nat) : Decidable (Good f i) := by unfold Good; infer_instance
/-- Is a schema valid? -/
def schemaOK (nm : ByteArray) (n : Nat) (f : Nat → Col) : Bool := nameOK nm && decide (1 ≤ n ∧ n ≤ 6) && decide (∀ i, i < n → Good f i)

theorem schemaOK_name {nm : ByteArray} {n : Nat} {f : Nat → Col} (h : nameOK nm = false) : schemaOK nm n f = false := by unfold schemaOK; rw [h]; rfl
theorem schemaOK_len {nm : ByteArray} {n : Nat} {f : Nat → Col} (h : n < 1 ∨ 6 < n) : schemaOK nm n f = false := by
  unfold schemaOK; rw [decide_eq_false (by omega), Bool.and_false]; rfl
theorem schemaOK_bad {nm : ByteArray} {n : Nat} {f : Nat → Col} {i : Nat} (hi : i < n) (h : ¬ Good f i) : schemaOK nm n f = false := by
  unfold schemaOK; rw [decide_eq_false (p := ∀ i, i < n → Good f i) (fun hc => h (hc i hi)), Bool.and_false]
theorem schemaOK_yes {nm : ByteArray} {n : Nat} {f : Nat → Col} (hn : nameOK nm = true) (h1 : 1 ≤ n) (h2 : n ≤ 6) (h : ∀ i, i < n → Good f i) : schemaOK nm n f = true := by
  unfold schemaOK; rw [hn, decide_eq_true ⟨h1, h2⟩, decide_eq_true h]; rfl

theorem good_find {f : Nat → Col} {n i : Nat} (hi : i < n) : findName f n (f i).nm = i ↔ ∀ j, j < i → eqT (f j).nm (f i).nm = false := findI_eq (P := fun j => eqT (f j).nm (f i).nm) hi (eqT_self _)
theorem good_key {f : Nat → Col} {n i : Nat} (hi : i < n) (hk : (f i).key = true) : findKey f n = i ↔ ∀ j, j < i → (f j).key = false := findI_eq (P := fun j => (f j).key) hi hk
theorem bad_col {f : Nat → Col} {i : Nat} (h : colOK (f i) = false) : ¬ Good f i := fun hg => by have := hg.1; rw [h] at this; cases this
theorem bad_find {f : Nat → Col} {n i : Nat} (hi : i < n) (h : (findName f n (f i).nm == (i : Int)) = false) : ¬ Good f i := fun hg => by
  rw [beq_eq_false_iff_ne] at h; exact h ((good_find hi).2 hg.2.1)
theorem bad_key {f : Nat → Col} {n i : Nat} (hi : i < n) (hk : (f i).key = true) (h : (findKey f n == (i : Int)) = false) : ¬ Good f i := fun hg => by
  rw [beq_eq_false_iff_ne] at h; exact h ((good_key hi hk).2 (hg.2.2 hk))
theorem is_good {f : Nat → Col} {n i : Nat} (hi : i < n) (hc : colOK (f i) = true) (hf : (findName f n (f i).nm == (i : Int)) = true) (hk : (f i).key = true → (findKey f n == (i : Int)) = true) : Good f i :=
  ⟨hc, (good_find hi).1 (beq_iff_eq.1 hf), fun h => (good_key hi h).1 (beq_iff_eq.1 (hk h))⟩
theorem all_succ {Q : Nat → Prop} {k : Nat} (h : ∀ i, i < k → Q i) (hk : Q k) : ∀ i, i < k + 1 → Q i := fun i hi => by
  rcases Nat.lt_succ_iff_lt_or_eq.1 hi with h1 | rfl
  · exact h i h1
  · exact hk

/-- How many keys there are among the first n columns. -/
def keysN (f : Nat → Col) : Nat → Nat
  | 0 => 0
  | n + 1 => keysN f n + if (f n).key then 1 else 0
theorem keysN_le (f : Nat → Col) (n : Nat) : keysN f n ≤ n := by
  induction n with
  | zero => exact Nat.le_refl _
  | succ n ih => unfold keysN; split <;> omega
theorem keysN_zero (f : Nat → Col) (n : Nat) : keysN f n = 0 ↔ ∀ i, i < n → (f i).key = false := by
  induction n with
  | zero => exact ⟨fun _ i hi => by omega, fun _ => rfl⟩
  | succ n ih =>
    unfold keysN
    constructor
    · intro h
      cases hk : (f n).key
      · exact all_succ (ih.1 (by omega)) hk
      · rw [hk, if_pos rfl] at h; omega
    · intro h
      rw [ih.2 (fun i hi => h i (by omega)), h n (by omega)]; rfl
theorem keysN_one (f : Nat → Col) (n : Nat) : keysN f n ≤ 1 ↔ ∀ i, i < n → (f i).key = true → ∀ j, j < i → (f j).key = false := by
  induction n with
  | zero => exact ⟨fun _ i hi => by omega, fun _ => by unfold keysN; omega⟩
  | succ n ih =>
    unfold keysN
    cases hk : (f n).key
    · rw [if_neg (by decide), Nat.add_zero, ih]
      exact ⟨fun h => all_succ h (fun hc => by rw [hk] at hc; cases hc), fun h i hi => h i (by omega)⟩
    · rw [if_pos rfl]
      constructor
      · intro h
        have h0 := (keysN_zero f n).1 (by omega)
        exact all_succ (ih.1 (by omega)) (fun _ => h0)
      · intro h
        have := (keysN_zero f n).2 (h n (by omega) hk)
        omega
/-- A column, as the reference looks at it: all but the number of keys. -/
def FairC (f : Nat → Col) (i : Nat) : Prop := colOK (f i) = true ∧ (∀ j, j < i → eqT (f j).nm (f i).nm = false)
theorem fair_end {nm : ByteArray} {n : Nat} {f : Nat → Col} (hn : nameOK nm = true) (h1 : 1 ≤ n) (h2 : n ≤ 6) (h : ∀ i, i < n → FairC f i) : decide ((keysN f n : Int) ≤ 1) = schemaOK nm n f := by
  rw [Bool.eq_iff_iff, decide_eq_true_iff]
  constructor
  · intro hk
    have := (keysN_one f n).1 (by omega)
    exact schemaOK_yes hn h1 h2 fun i hi => ⟨(h i hi).1, (h i hi).2, this i hi⟩
  · intro hs
    unfold schemaOK at hs
    simp only [Bool.and_eq_true, decide_eq_true_eq] at hs
    have := (keysN_one f n).2 fun i hi => (hs.2 i hi).2.2
    omega
theorem bad_fair {f : Nat → Col} {n i : Nat} (hi : i < n) (h : (findName f n (f i).nm == (i : Int)) = false) : ¬ Good f i := bad_find hi h
theorem is_fair {f : Nat → Col} {n i : Nat} (hi : i < n) (hc : colOK (f i) = true) (hf : (findName f n (f i).nm == (i : Int)) = true) : FairC f i :=
  ⟨hc, (good_find hi).1 (beq_iff_eq.1 hf)⟩
theorem colOK_name {c : Col} (h : nameOK c.nm = false) : colOK c = false := by unfold colOK; rw [h]; rfl
theorem colOK_type {c : Col} (h : c.ty < 1 ∨ 3 < c.ty) : colOK c = false := by
  unfold colOK tyOK; rw [decide_eq_false (by omega), Bool.and_false]; rfl
theorem colOK_null {c : Col} (h : c.nn = false) (h2 : c.key = true) : colOK c = false := by unfold colOK; rw [h, h2, Bool.and_comm]; rfl
theorem colOK_yes {c : Col} (h : nameOK c.nm = true) (h1 : 1 ≤ c.ty) (h3 : c.ty ≤ 3) (h2 : c.nn = true ∨ c.key = false) : colOK c = true := by
  unfold colOK tyOK
  rw [h, decide_eq_true ⟨h1, h3⟩]
  rcases h2 with h2 | h2
  · rw [h2]; rfl
  · rw [h2]; simp

/-- What Fits answers. -/
def fitsE (ty : Int) (nn : Bool) (k n : Int) (s : ByteArray) : Int := if validB k n s then (if k = 0 then (if nn then 8 else 0) else if k = ty then 0 else 5) else 17
end Go.Proofs.YtgaihglploedaabDoor
/-
  Columns in memory; Find and KeyColumn, of the program and of the reference.
-/
namespace Go.Proofs.YtgaihglploedaabDoor
set_option maxRecDepth 100000
open Go.RowKit
variable {ls : List Nat}

/-- A box of two cells that may be written. -/
structure Cell2 (u : World) (X : Nat) (x y : Value) : Prop where
  lt : X < u.heap.size
  c0 : u.cell? ⟨X, 0, none⟩ = some x
  c1 : u.cell? ⟨X, 1, none⟩ = some y
  fz : ∀ o, u.frozen? ⟨X, o, none⟩ = false
theorem Cell2.low {u v : World} {X : Nat} {x y : Value} (h : Cell2 u X x y) (hb : Below u.heap.size u v) : Cell2 v X x y :=
  ⟨Nat.lt_of_lt_of_le h.lt hb.size, by rw [hb.cell (by exact h.lt)]; exact h.c0, by rw [hb.cell (by exact h.lt)]; exact h.c1, fun o => by rw [hb.frozen (by exact h.lt)]; exact h.fz o⟩
theorem cell2_new (w : World) (x y : Value) (t : TypeId) : Cell2 (w.alloc (.cells #[x, y] t)) w.heap.size x y := by
  refine ⟨by simp, ?_, ?_, fun o => ?_⟩
  all_goals go_simp
/-- A box of four cells that may be written. -/
structure Cell4 (u : World) (X : Nat) (a b c d : Value) : Prop where
  lt : X < u.heap.size
  c0 : u.cell? ⟨X, 0, none⟩ = some a
  c1 : u.cell? ⟨X, 1, none⟩ = some b
  c2 : u.cell? ⟨X, 2, none⟩ = some c
  c3 : u.cell? ⟨X, 3, none⟩ = some d
  fz : ∀ o, u.frozen? ⟨X, o, none⟩ = false
theorem Cell4.low {u v : World} {X : Nat} {a b c d : Value} (h : Cell4 u X a b c d) (hb : Below u.heap.size u v) : Cell4 v X a b c d :=
  ⟨Nat.lt_of_lt_of_le h.lt hb.size, by rw [hb.cell (by exact h.lt)]; exact h.c0, by rw [hb.cell (by exact h.lt)]; exact h.c1, by rw [hb.cell (by exact h.lt)]; exact h.c2, by rw [hb.cell (by exact h.lt)]; exact h.c3, fun o => by rw [hb.frozen (by exact h.lt)]; exact h.fz o⟩
theorem cell4_new (w : World) (a b c d : Value) (t : TypeId) : Cell4 (w.alloc (.cells #[a, b, c, d] t)) w.heap.size a b c d := by
  refine ⟨by simp, ?_, ?_, ?_, ?_, fun o => ?_⟩
  all_goals go_simp
theorem Cell2.at {u : World} {X Y : Nat} {x y : Value} (h : Cell2 u X x y) (e : X = Y) : Cell2 u Y x y := e ▸ h
theorem Cell4.at {u : World} {X Y : Nat} {a b c d : Value} (h : Cell4 u X a b c d) (e : X = Y) : Cell4 u Y a b c d := e ▸ h

/-- The cells of a column. -/
def colV (c : Col) : Value := .agg #[.string c.nm, .int .i64 c.ty, .bool c.nn, .bool c.key]
def schV (nm : ByteArray) (p : Option Addr) (n cap : Nat) : Value := .agg #[.string nm, .slice p n cap]
/-- A slice of columns. -/
def ColsAt (w : World) (p : Option Addr) (n : Nat) (f : Nat → Col) : Prop :=
  ∀ i, i < n → ∃ (c o : Nat), p = some ⟨c, o, none⟩ ∧ c < w.heap.size ∧ (f i).nm.size ≤ 9223372036854775807
    ∧ w.cell? ⟨c, o + i * 4, none⟩ = some (.string (f i).nm) ∧ w.cell? ⟨c, o + i * 4 + 1, none⟩ = some (.int .i64 (f i).ty) ∧ w.cell? ⟨c, o + i * 4 + 2, none⟩ = some (.bool (f i).nn) ∧ w.cell? ⟨c, o + i * 4 + 3, none⟩ = some (.bool (f i).key)
theorem ColsAt.keep {u v : World} {p : Option Addr} {n : Nat} {f : Nat → Col} (h : ColsAt u p n f) (hz : u.heap.size ≤ v.heap.size) (hk : ∀ a, p = some a → v.heap[a.block]? = u.heap[a.block]?) : ColsAt v p n f := by
  intro i hi
  obtain ⟨c, o, hp, hc, hs, h0, h1, h2, h3⟩ := h i hi
  have hb : v.heap[c]? = u.heap[c]? := hk _ hp
  exact ⟨c, o, hp, by omega, hs, by rw [World.cell?_of_block (w := u) hb]; exact h0, by rw [World.cell?_of_block (w := u) hb]; exact h1, by rw [World.cell?_of_block (w := u) hb]; exact h2, by rw [World.cell?_of_block (w := u) hb]; exact h3⟩
theorem ColsAt.low {u v : World} {p : Option Addr} {n : Nat} {f : Nat → Col} (h : ColsAt u p n f) (hb : Below u.heap.size u v) : ColsAt v p n f := by
  intro i hi
  obtain ⟨c, o, hp, hc, hs, h0, h1, h2, h3⟩ := h i hi
  have hk := hb.block c hc
  exact ⟨c, o, hp, Nat.lt_of_lt_of_le hc hb.size, hs, by rw [World.cell?_of_block (w := u) hk]; exact h0, by rw [World.cell?_of_block (w := u) hk]; exact h1, by rw [World.cell?_of_block (w := u) hk]; exact h2, by rw [World.cell?_of_block (w := u) hk]; exact h3⟩
theorem below_next {w u v : World} (h : Below w.heap.size w u) (k : Below u.heap.size u v) : Below w.heap.size w v := h.trans (k.mono h.size)
theorem below_new {w u : World} (h : Below w.heap.size w u) (o : Obj) : Below w.heap.size w (u.alloc o) := h.alloc h.size o
theorem four_one {w w' : World} {a b c d : Value} {t : TypeId} (hb : Below (w.alloc (.cells #[a, b, c, d] t)).heap.size (w.alloc (.cells #[a, b, c, d] t)) w') : Cell4 w' w.heap.size a b c d ∧ Below w.heap.size w w' :=
  ⟨(cell4_new _ _ _ _ _ _).low hb, Below.of_alloc hb⟩
theorem two_one {w w' : World} {a b : Value} {t : TypeId} (hb : Below (w.alloc (.cells #[a, b] t)).heap.size (w.alloc (.cells #[a, b] t)) w') : Cell2 w' w.heap.size a b ∧ Below w.heap.size w w' :=
  ⟨(cell2_new _ _ _ _).low hb, Below.of_alloc hb⟩
theorem cols_at {u : World} {X Y n : Nat} {f : Nat → Col} (e : X = Y) (h : ColsAt u (some ⟨X, 0, none⟩) n f) : ColsAt u (some ⟨Y, 0, none⟩) n f := e ▸ h
theorem ColsAt.set {u : World} {p : Option Addr} {n : Nat} {f : Nat → Col} (h : ColsAt u p n f) {a : Addr} (hp : ∀ q, p = some q → q.block ≠ a.block) (v : Value) : ColsAt (u.setCell a v) p n f :=
  h.keep (by simp [World.setCell]) fun q hq => Below.heap_setCell _ _ _ _ (hp q hq)
theorem cell2_set {u : World} {X : Nat} {a b : Value} (h : Cell2 u X a b) (x y : Value) : Cell2 ((u.setCell ⟨X, 0, none⟩ x).setCell ⟨X, 1, none⟩ y) X x y := by
  obtain ⟨hl, c0, c1, fz⟩ := h
  refine ⟨by simpa [World.setCell] using hl, ?_, ?_, fun o => ?_⟩
  · go_simp
  · go_simp
  · rw [World.frozen?_setCell, World.frozen?_setCell]; exact fz o
end Go.Proofs.YtgaihglploedaabDoor
/-
  Package token: classes of bytes, runs, numbers.
-/
namespace Go.Proofs.YtgaihglploedaabDoor
set_option maxRecDepth 100000
open Go.RowKit
variable {ls : List Nat}

theorem isspace_any (c : Int) (w : World) : Calls Tryd.prog 14 #[.int .u8 c] w fun e w' => e = .returned (.bool (spcI c)) ∧ w = w' := by
  go_enter Tryd.func14, Tryd.ntmps14
  go_wp2
  all_goals
    go_ret
    exact ⟨ret_b (by unfold spcI; first | exact (decide_eq_true (by omega)).symm | exact (decide_eq_false (by omega)).symm | (rw [Bool.eq_iff_iff]; simp; omega)), rfl⟩
theorem inrun_any (c : Int) (w : World) : Calls Tryd.prog 15 #[.int .u8 c] w fun e w' => e = .returned (.bool (runI c)) ∧ w = w' := by
  go_enter Tryd.func15, Tryd.ntmps15
  go_wp2
  all_goals
    go_ret
    exact ⟨ret_b (by unfold runI; first | exact (decide_eq_true (by omega)).symm | exact (decide_eq_false (by omega)).symm | (rw [Bool.eq_iff_iff]; simp; omega)), rfl⟩
theorem head_num {s : ByteArray} (h0 : 0 < s.size) : s.data.toList.head? = some s[0] := by
  have : 0 < s.data.toList.length := by simpa using h0
  rw [List.head?_eq_getElem?, List.getElem?_eq_getElem this]
  rfl
theorem numB_zero {s : ByteArray} (h0 : 0 < s.size) (h : (s[0].toNat : Int) = 48) (h1 : 1 < s.size) : numB s = false := by
  have : s[0] = 48 := by rw [← UInt8.toNat_inj]; show s[0].toNat = 48; omega
  unfold numB
  rw [head_num h0, this, decide_eq_true h1]; rfl
theorem numB_else {s : ByteArray} (h0 : 0 < s.size) (h : ¬ ((s[0].toNat : Int) = 48 ∧ 1 < s.size)) : numB s = okNum (Lib.parseIntB 64 s.data.toList) := by
  unfold numB
  have : (s.data.toList.head? == some 48 && decide (1 < s.size)) = false := by
    rw [Bool.and_eq_false_iff, head_num h0]
    by_cases h1 : 1 < s.size
    · refine Or.inl (beq_eq_false_iff_ne.2 fun e => h ⟨?_, h1⟩)
      rw [Option.some.inj e]; rfl
    · exact Or.inr (decide_eq_false h1)
  rw [this]; rfl
set_option maxHeartbeats 1000000 in
theorem isnumber_any (s : ByteArray) (w : World) (hE : Env ls w) (hS : 10 ∈ ls) (hR : 11 ∈ ls) (h0 : 0 < s.size) (hs : s.size ≤ 4096) :
    Calls Tryd.prog 32 #[.string s] w fun e w' => e = .returned (.bool (numB s)) ∧ Below w.heap.size w w' := by
  by_cases hz : (s[0].toNat : Int) = 48 ∧ 1 < s.size
  · have HN := Lib.hid (numB_zero h0 hz.1 hz.2)
    have e0 : ((s[0].toNat : Int) == 48) = true := beq_iff_eq.2 hz.1
    have e1 : decide ((1 : Int) < s.size) = true := decide_eq_true (by omega)
    clear hz
    go_enter Tryd.func32, Tryd.ntmps32
    go_wp2
    all_goals
      go_ret
      exact ⟨ret_b HN.out.symm, Below.refl _ _⟩
  · have HN := Lib.hid (numB_else h0 hz)
    obtain ⟨tp, p, hvS⟩ := hE.errS hS
    obtain ⟨tq, q, hvR⟩ := hE.errR hR
    cases hp : Lib.parseIntB 64 s.data.toList with
    | ok v =>
      have HP := Lib.hid hp
      have HB : Hid (numB s = true) := Lib.hid (by rw [HN.out, hp]; rfl)
      clear hp HN
      go_enter Tryd.func32, Tryd.ntmps32
      go_wp2_with (go_at_call 46; refine (Tryd.strconv_ParseInt_10_at64_ok s (by omega) v HP.out _).mono ?_; rintro e w2 ⟨rfl, hw2⟩; (have HB2 : Hid (Below w.heap.size w w2) := Lib.hid (by rcases hw2 with rfl | ⟨t, rfl⟩; exact Below.refl _ _; exact Lib.bytesWorld_below _ _ _)); clear hw2)
      all_goals
        go_ret
        exact ⟨ret_b HB.out.symm, HB2.out⟩
    | «syntax» =>
      have HP := Lib.hid hp
      have HB : Hid (numB s = false) := Lib.hid (by rw [HN.out, hp]; rfl)
      have HV := Lib.hid hvS
      clear hp HN
      go_enter Tryd.func32, Tryd.ntmps32
      go_wp2_with (go_at_call 46; refine (Tryd.strconv_ParseInt_10_at64_syntax_var s (by omega) HP.out _ _ _ HV.out).mono ?_; rintro e w2 ⟨N, rfl, -, -, hb2⟩; (have HB2 := Lib.hid hb2); clear hb2)
      all_goals
        go_ret
        exact ⟨ret_b HB.out.symm, HB2.out⟩
    | range =>
      have HP := Lib.hid hp
      have HB : Hid (numB s = false) := Lib.hid (by rw [HN.out, hp]; rfl)
      have HV := Lib.hid hvR
      clear hp HN
      go_enter Tryd.func32, Tryd.ntmps32
      go_wp2_with (go_at_call 46; refine (Tryd.strconv_ParseInt_10_at64_range_var s (by omega) HP.out _ _ _ HV.out).mono ?_; rintro e w2 ⟨N, rfl, -, -, hb2⟩; (have HB2 := Lib.hid hb2); clear hb2)
      all_goals
        go_ret
        exact ⟨ret_b HB.out.symm, HB2.out⟩
set_option maxHeartbeats 1000000 in
theorem runkind_any (s : ByteArray) (w : World) (hE : Env ls w) (hm : 3 ∈ ls) (hS : 10 ∈ ls) (hR : 11 ∈ ls) (h0 : 0 < s.size) (hs : s.size ≤ 4096) :
    Calls Tryd.prog 23 #[.string s] w fun e w' => e = .returned (.int .i64 (kindB s)) ∧ Below w.heap.size w w' := by
  have hsz : s.size ≤ 9223372036854775807 := by omega
  cases hk : keyB s
  · cases hn : nameOK s
    · cases hu : numB s
      · have HR : Hid (kindB s = 0) := Lib.hid (by unfold kindB; rw [hk, hn, hu]; rfl)
        have HK := Lib.hid hk
        have HN := Lib.hid hn
        have HU := Lib.hid hu
        have HE := Lib.hid hE
        clear hk hn hu hE
        go_enter Tryd.func23, Tryd.ntmps23
        go_wp2_with fail
        refine (keyword_any s _ HE.out hm).mono ?_
        rintro e w1 ⟨rfl, rfl⟩
        rw [HK.out]
        go_wp2_with fail
        refine (validName_any s _ hsz).mono ?_
        rintro e w2 ⟨rfl, hb2⟩
        rw [HN.out]
        have HB2 := Lib.hid hb2
        clear hb2
        go_wp2_with fail
        refine (isnumber_any s _ (HE.out.low HB2.out) hS hR h0 hs).mono ?_
        rintro e w3 ⟨rfl, hb3⟩
        rw [HU.out]
        have HB3 := Lib.hid (Below.next HB2.out hb3)
        clear hb3
        go_wp2
        go_ret
        exact ⟨ret_int HR.out.symm, HB3.out⟩
      · have HR : Hid (kindB s = 3) := Lib.hid (by unfold kindB; rw [hk, hn, hu]; rfl)
        have HK := Lib.hid hk
        have HN := Lib.hid hn
        have HU := Lib.hid hu
        have HE := Lib.hid hE
        clear hk hn hu hE
        go_enter Tryd.func23, Tryd.ntmps23
        go_wp2_with fail
        refine (keyword_any s _ HE.out hm).mono ?_
        rintro e w1 ⟨rfl, rfl⟩
        rw [HK.out]
        go_wp2_with fail
        refine (validName_any s _ hsz).mono ?_
        rintro e w2 ⟨rfl, hb2⟩
        rw [HN.out]
        have HB2 := Lib.hid hb2
        clear hb2
        go_wp2_with fail
        refine (isnumber_any s _ (HE.out.low HB2.out) hS hR h0 hs).mono ?_
        rintro e w3 ⟨rfl, hb3⟩
        rw [HU.out]
        have HB3 := Lib.hid (Below.next HB2.out hb3)
        clear hb3
        go_wp2
        go_ret
        exact ⟨ret_int HR.out.symm, HB3.out⟩
    · have HR : Hid (kindB s = 2) := Lib.hid (by unfold kindB; rw [hk, hn]; rfl)
      have HK := Lib.hid hk
      have HN := Lib.hid hn
      clear hk hn
      go_enter Tryd.func23, Tryd.ntmps23
      go_wp2_with fail
      refine (keyword_any s _ hE hm).mono ?_
      rintro e w1 ⟨rfl, rfl⟩
      rw [HK.out]
      go_wp2_with fail
      refine (validName_any s _ hsz).mono ?_
      rintro e w2 ⟨rfl, hb2⟩
      rw [HN.out]
      have HB2 := Lib.hid hb2
      clear hb2
      go_wp2
      go_ret
      exact ⟨ret_int HR.out.symm, HB2.out⟩
  · have HR : Hid (kindB s = 1) := Lib.hid (by unfold kindB; rw [hk]; rfl)
    have HK := Lib.hid hk
    clear hk
    go_enter Tryd.func23, Tryd.ntmps23
    go_wp2_with fail
    refine (keyword_any s _ hE hm).mono ?_
    rintro e w1 ⟨rfl, rfl⟩
    rw [HK.out]
    go_wp2
    go_ret
    exact ⟨ret_int HR.out.symm, Below.refl _ _⟩
/-- What run, quoted and symbol return. -/
def tokR : Option (Int × ByteArray × Nat) → Value
  | none => .tuple #[.agg #[.int .i64 0, .string ⟨#[]⟩, .int .i64 0], .int .i64 0]
  | some (k, t, n) => .tuple #[.agg #[.int .i64 k, .string t, .int .i64 0], .int .i64 n]
theorem ret_val {a b : Value} (h : a = b) : Ending.returned a = .returned b := by rw [h]
theorem take_run {l : List UInt8} {k : Nat} (ha : (l.take k).all runB = true) (he : ∀ h : k < l.length, runB l[k] = false) : l.takeWhile runB = l.take k := by
  induction l generalizing k with
  | nil => simp
  | cons c r ih =>
    cases k with
    | zero => rw [List.takeWhile_cons_of_neg (by have := he (by simp); simpa using this)]; rfl
    | succ k =>
      simp only [List.take_succ_cons, List.all_cons, Bool.and_eq_true] at ha
      rw [List.takeWhile_cons_of_pos ha.1, List.take_succ_cons, ih ha.2 (fun h => by have := he (by simpa using h); simpa using this)]
theorem extract_take (s : ByteArray) (k : Nat) : (s.extract 0 k).data.toList = s.data.toList.take k := by
  simp [ByteArray.data_extract]
theorem stepT_sym {l : List UInt8} {c : UInt8} (h : l.head? = some c) (hr : runB c = false) (hc : c ≠ 39) : stepT l = (symL l).map fun x => (5, ⟨x.toArray⟩, x.length) := by
  cases l with
  | nil => cases h
  | cons d r =>
    obtain rfl : d = c := Option.some.inj h
    rw [stepT, if_neg (by simp [hr]), if_neg hc]
theorem stepT_run {l : List UInt8} {c : UInt8} (h : l.head? = some c) (hr : runB c = true) : stepT l = if kindB ⟨(l.takeWhile runB).toArray⟩ = 0 then none else some (kindB ⟨(l.takeWhile runB).toArray⟩, ⟨(l.takeWhile runB).toArray⟩, (l.takeWhile runB).length) := by
  cases l with
  | nil => cases h
  | cons d r =>
    obtain rfl : d = c := Option.some.inj h
    rw [stepT, if_pos hr]
theorem stepT_quot {l : List UInt8} (h : l.head? = some 39) : stepT l = match quotL (l.drop 1) with | none => none | some (o, n) => if textOK o then some (4, ⟨o.toArray⟩, n + 1) else none := by
  cases l with
  | nil => cases h
  | cons d r =>
    obtain rfl : d = 39 := Option.some.inj h
    rw [stepT, if_neg (by decide), if_pos rfl]
    rfl
theorem run_step {s : ByteArray} {k : Nat} (h0 : 0 < s.size) (hr : runB s[0] = true) (hk : k ≤ s.size) (ha : (s.data.toList.take k).all runB = true) (he : ∀ h : k < s.size, runB s[k] = false) :
    stepT s.data.toList = if kindB (s.extract 0 k) = 0 then none else some (kindB (s.extract 0 k), s.extract 0 k, k) := by
  have ht : s.data.toList.takeWhile runB = s.data.toList.take k := take_run ha (fun h => he (by simpa using h))
  have hx : (⟨(s.data.toList.takeWhile runB).toArray⟩ : ByteArray) = s.extract 0 k := by
    refine ByteArray.ext (Array.toList_inj.1 ?_)
    rw [extract_take, ht]
  have hl : (s.data.toList.takeWhile runB).length = k := by rw [ht, List.length_take]; simp; omega
  rw [stepT_run (head_num h0) hr, hx, hl]
theorem extract_size0 (s : ByteArray) {k : Nat} (hk : k ≤ s.size) : (s.extract 0 k).size = k := by
  rw [ByteArray.size_extract]; omega
set_option maxHeartbeats 2000000 in
theorem run_any (s : ByteArray) (w : World) (hE : Env ls w) (hm : 3 ∈ ls) (hS : 10 ∈ ls) (hR : 11 ∈ ls) (h0 : 0 < s.size) (hs : s.size ≤ 4096) (hr : runB s[0] = true) :
    Calls Tryd.prog 16 #[.string s] w fun e w' => e = .returned (tokR (stepT s.data.toList)) ∧ Below w.heap.size w w' := by
  have hx0 := cell3_new w (.int .i64 0) (.string ⟨#[]⟩) (.int .i64 0) 23
  have hb0 := below_new (Below.refl w.heap.size w) (.cells #[.int .i64 0, .string ⟨#[]⟩, .int .i64 0] 23)
  have HX0 := Lib.hid hx0
  have HB0 := Lib.hid hb0
  have HE0 := Lib.hid (hE.low hb0)
  have HR := Lib.hid hr
  clear hx0 hb0 hE hr
  go_enter Tryd.func16, Tryd.ntmps16
  go_wp2
  generalize World.alloc _ _ = W0 at HX0 HB0 HE0 ⊢
  go_loop [4] (fun i => ∃ k : Nat, 1 ≤ k ∧ k ≤ s.size ∧ i = .int .i64 k ∧ (s.data.toList.take k).all runB = true) (fun i => s.size - (intOf i).toNat)
  case atStart => exact ⟨1, Nat.le_refl _, h0, rfl, by rw [all_take_succ _ 0 (by simpa using h0)]; show (true && runB s[0]) = true; rw [HR.out]; rfl⟩
  case round =>
    obtain ⟨k, h1, hk, rfl, ha⟩ := hrel
    have HA := Lib.hid ha
    clear ha
    by_cases hgo : ∃ h : k < s.size, runI (s[k].toNat : Int) = true
    · obtain ⟨hlt, hrk⟩ := hgo
      have HK := Lib.hid hrk
      have hlt' : decide ((k : Int) < s.size) = true := decide_eq_true (by omega)
      clear hrk
      go_wp2_with (go_at_call 15; refine (inrun_any _ _).mono ?_; rintro e w' ⟨rfl, rfl⟩; rw [HK.out])
      go_round
      case rel => exact ⟨k + 1, by omega, by omega, by go_num, by rw [all_take_succ _ _ (by simpa using hlt), HA.out]; show (true && runB s[k]) = true; unfold runB; rw [HK.out]; rfl⟩
      case measure => simp [intOf]; omega
    · have HST := Lib.hid (run_step h0 HR.out hk HA.out (fun h => by
        rw [Bool.eq_false_iff]; exact fun hc => hgo ⟨h, hc⟩))
      have hsz := extract_size0 s hk
      have hex : (k < s.size ∧ ∀ h : k < s.size, runI (s[k].toNat : Int) = false) ∨ ¬ k < s.size := by
        by_cases h : k < s.size
        · exact Or.inl ⟨h, fun h' => by rw [Bool.eq_false_iff]; exact fun hc => hgo ⟨h', hc⟩⟩
        · exact Or.inr h
      clear hgo
      rcases hex with ⟨hlt, hrk⟩ | hlt
      · have hlt' : decide ((k : Int) < s.size) = true := decide_eq_true (by omega)
        have HK := Lib.hid (hrk hlt)
        clear hrk
        go_wp2_with (first | (go_at_call 15; refine (inrun_any _ _).mono ?_; rintro e w' ⟨rfl, rfl⟩; rw [HK.out]) | fail)
        refine (runkind_any (s.extract 0 k) _ HE0.out hm hS hR (by omega) (by omega)).mono ?_
        rintro e w2 ⟨rfl, hb2⟩
        have HX2 := Lib.hid (HX0.out.low hb2)
        have HB2 := Lib.hid (below_next HB0.out hb2)
        have hXw : w.heap.size ≤ w.heap.size := Nat.le_refl _
        clear hb2 HX0 HB0 HE0 HA HR
        obtain ⟨xl, x0, x1, x2, xf⟩ := HX2.out
        by_cases hk0 : kindB (s.extract 0 k) = 0
        · have HV := Lib.hid (show stepT s.data.toList = none by rw [HST.out, if_pos hk0])
          have e0 : (kindB (s.extract 0 k) == 0) = true := beq_iff_eq.2 hk0
          have HP := Lib.hid (cell3_set HX2.out (.int .i64 0) (.string ⟨#[]⟩) (.int .i64 0))
          clear hk0
          go_wp2
          obtain ⟨-, s0, s1, s2, -⟩ := HP.out
          exact bodyPost_ret (v := tokR none) (by simp [results, Tryd.results16, go_sem, s0, s1, s2, tokR]) rfl ⟨ret_val (by rw [HV.out]), ((HB2.out.setCell (by exact hXw) _).setCell (by exact hXw) _).setCell (by exact hXw) _⟩
        · have HV := Lib.hid (show stepT s.data.toList = some (kindB (s.extract 0 k), s.extract 0 k, k) by rw [HST.out, if_neg hk0])
          have e0 : (kindB (s.extract 0 k) == 0) = false := beq_eq_false_iff_ne.2 hk0
          have HP := Lib.hid (cell3_set HX2.out (.int .i64 (kindB (s.extract 0 k))) (.string (s.extract 0 k)) (.int .i64 0))
          clear hk0
          go_wp2
          obtain ⟨-, s0, s1, s2, -⟩ := HP.out
          exact bodyPost_ret (v := tokR (some (kindB (s.extract 0 k), s.extract 0 k, k))) (by simp [results, Tryd.results16, go_sem, s0, s1, s2, tokR]) rfl ⟨ret_val (by rw [HV.out]), ((HB2.out.setCell (by exact hXw) _).setCell (by exact hXw) _).setCell (by exact hXw) _⟩
      · have hlt' : decide ((k : Int) < s.size) = false := decide_eq_false (by omega)
        go_wp2_with fail
        refine (runkind_any (s.extract 0 k) _ HE0.out hm hS hR (by omega) (by omega)).mono ?_
        rintro e w2 ⟨rfl, hb2⟩
        have HX2 := Lib.hid (HX0.out.low hb2)
        have HB2 := Lib.hid (below_next HB0.out hb2)
        have hXw : w.heap.size ≤ w.heap.size := Nat.le_refl _
        clear hb2 HX0 HB0 HE0 HA HR
        obtain ⟨xl, x0, x1, x2, xf⟩ := HX2.out
        by_cases hk0 : kindB (s.extract 0 k) = 0
        · have HV := Lib.hid (show stepT s.data.toList = none by rw [HST.out, if_pos hk0])
          have e0 : (kindB (s.extract 0 k) == 0) = true := beq_iff_eq.2 hk0
          have HP := Lib.hid (cell3_set HX2.out (.int .i64 0) (.string ⟨#[]⟩) (.int .i64 0))
          clear hk0
          go_wp2
          obtain ⟨-, s0, s1, s2, -⟩ := HP.out
          exact bodyPost_ret (v := tokR none) (by simp [results, Tryd.results16, go_sem, s0, s1, s2, tokR]) rfl ⟨ret_val (by rw [HV.out]), ((HB2.out.setCell (by exact hXw) _).setCell (by exact hXw) _).setCell (by exact hXw) _⟩
        · have HV := Lib.hid (show stepT s.data.toList = some (kindB (s.extract 0 k), s.extract 0 k, k) by rw [HST.out, if_neg hk0])
          have e0 : (kindB (s.extract 0 k) == 0) = false := beq_eq_false_iff_ne.2 hk0
          have HP := Lib.hid (cell3_set HX2.out (.int .i64 (kindB (s.extract 0 k))) (.string (s.extract 0 k)) (.int .i64 0))
          clear hk0
          go_wp2
          obtain ⟨-, s0, s1, s2, -⟩ := HP.out
          exact bodyPost_ret (v := tokR (some (kindB (s.extract 0 k), s.extract 0 k, k))) (by simp [results, Tryd.results16, go_sem, s0, s1, s2, tokR]) rfl ⟨ret_val (by rw [HV.out]), ((HB2.out.setCell (by exact hXw) _).setCell (by exact hXw) _).setCell (by exact hXw) _⟩
end Go.Proofs.YtgaihglploedaabDoor
/-
  Words, Number, Truth of the program.
-/
namespace Go.Proofs.YtgaihglploedaabDoor
set_option maxRecDepth 100000
open Go.RowKit

/-- What Words gives. -/
def wordsN (s : ByteArray) : Int := if textOK s.data.toList then 3 else 0
def wordsS (s : ByteArray) : ByteArray := if textOK s.data.toList then s else ⟨#[]⟩

set_option maxHeartbeats 400000 in
theorem words_any (s : ByteArray) (w : World) (hs : s.size ≤ 9223372036854775807) :
    Calls Tryd.prog 25 #[.string s] w fun e w' => e = .returned (.tuple #[.agg #[.int .i64 (wordsN s), .int .i64 0, .string (wordsS s)], .bool (textOK s.data.toList)]) ∧ Below w.heap.size w w' := by
  have hv : validB 3 0 s = textOK s.data.toList := validB_text s
  have HV := Lib.hid hv
  clear hv
  cases ht : textOK s.data.toList
  · have HT := Lib.hid ht
    clear ht
    go_enter Tryd.func25, Tryd.ntmps25
    go_wp2_with fail
    refine (valid_any _ _ _ _ hs).mono ?_
    rintro e w' ⟨rfl, hb⟩
    rw [HV.out, HT.out]
    obtain ⟨⟨c0, c1, c2⟩, ⟨f0, f1, f2⟩, ⟨d0, d1, d2⟩, hz, hb'⟩ := boxes2 hb
    clear hb
    go_wp2
    refine bodyPost_ret (v := .tuple #[.agg #[.int .i64 0, .int .i64 0, .string ⟨#[]⟩], .bool false]) (by simp [results, Tryd.results25, go_sem, c0, c1, c2]) rfl ⟨?_, ?_⟩
    · simp [wordsN, wordsS, HT.out]
    · exact ((hb'.setCell (by exact Nat.le_refl _) _).setCell (by exact Nat.le_refl _) _).setCell (by exact Nat.le_refl _) _
  · have HT := Lib.hid ht
    clear ht
    go_enter Tryd.func25, Tryd.ntmps25
    go_wp2_with fail
    refine (valid_any _ _ _ _ hs).mono ?_
    rintro e w' ⟨rfl, hb⟩
    rw [HV.out, HT.out]
    obtain ⟨⟨c0, c1, c2⟩, ⟨f0, f1, f2⟩, ⟨d0, d1, d2⟩, hz, hb'⟩ := boxes2 hb
    clear hb
    go_wp2
    refine bodyPost_ret (v := .tuple #[.agg #[.int .i64 3, .int .i64 0, .string s], .bool true]) (by simp [results, Tryd.results25, go_sem, c0, c1, c2]) rfl ⟨?_, ?_⟩
    · simp [wordsN, wordsS, HT.out]
    · exact ((hb'.setCell (by exact Nat.le_refl _) _).setCell (by exact Nat.le_refl _) _).setCell (by exact Nat.le_refl _) _
end Go.Proofs.YtgaihglploedaabDoor
