/-
  Columns in memory; Find and KeyColumn, of the program and of the reference.
-/
import Derived.Test.YtlgagibmndbimaaDoorSchema
import Derived.Test.YtlgagibmndbimaaDoorBoxes
namespace Go.Proofs.YtlgagibmndbimaaDoor
open Go.RowKit
variable {ls : List Nat}

/-- A box of two cells that may be written. -/
structure Cell2 (u : World) (X : Nat) (x y : Value) : Prop where
  lt : X < u.heap.size
  c0 : u.cell? ⟨X, 0, none⟩ = some x
  c1 : u.cell? ⟨X, 1, none⟩ = some y
  fz : ∀ o, u.frozen? ⟨X, o, none⟩ = false
theorem Cell2.low {u v : World} {X : Nat} {x y : Value} (h : Cell2 u X x y) (hb : Below u.heap.size u v) : Cell2 v X x y :=
  ⟨Nat.lt_of_lt_of_le h.lt hb.size, by rw [hb.cell (by exact h.lt)]; exact h.c0, by rw [hb.cell (by exact h.lt)]; exact h.c1, fun o => by rw [hb.frozen (by exact h.lt)]; exact h.fz o⟩
theorem cell2_new (w : World) (x y : Value) (t : TypeId) : Cell2 (w.alloc (.cells #[x, y] t)) w.heap.size x y := by
  refine ⟨by simp, ?_, ?_, fun o => ?_⟩
  all_goals go_simp
/-- A box of four cells that may be written. -/
structure Cell4 (u : World) (X : Nat) (a b c d : Value) : Prop where
  lt : X < u.heap.size
  c0 : u.cell? ⟨X, 0, none⟩ = some a
  c1 : u.cell? ⟨X, 1, none⟩ = some b
  c2 : u.cell? ⟨X, 2, none⟩ = some c
  c3 : u.cell? ⟨X, 3, none⟩ = some d
  fz : ∀ o, u.frozen? ⟨X, o, none⟩ = false
theorem Cell4.low {u v : World} {X : Nat} {a b c d : Value} (h : Cell4 u X a b c d) (hb : Below u.heap.size u v) : Cell4 v X a b c d :=
  ⟨Nat.lt_of_lt_of_le h.lt hb.size, by rw [hb.cell (by exact h.lt)]; exact h.c0, by rw [hb.cell (by exact h.lt)]; exact h.c1, by rw [hb.cell (by exact h.lt)]; exact h.c2, by rw [hb.cell (by exact h.lt)]; exact h.c3, fun o => by rw [hb.frozen (by exact h.lt)]; exact h.fz o⟩
theorem cell4_new (w : World) (a b c d : Value) (t : TypeId) : Cell4 (w.alloc (.cells #[a, b, c, d] t)) w.heap.size a b c d := by
  refine ⟨by simp, ?_, ?_, ?_, ?_, fun o => ?_⟩
  all_goals go_simp
theorem Cell2.at {u : World} {X Y : Nat} {x y : Value} (h : Cell2 u X x y) (e : X = Y) : Cell2 u Y x y := e ▸ h
theorem Cell4.at {u : World} {X Y : Nat} {a b c d : Value} (h : Cell4 u X a b c d) (e : X = Y) : Cell4 u Y a b c d := e ▸ h

/-- The cells of a column. -/
def colV (c : Col) : Value := .agg #[.string c.nm, .int .i64 c.ty, .bool c.nn, .bool c.key]
def schV (nm : ByteArray) (p : Option Addr) (n cap : Nat) : Value := .agg #[.string nm, .slice p n cap]
/-- A slice of columns. -/
def ColsAt (w : World) (p : Option Addr) (n : Nat) (f : Nat → Col) : Prop :=
  ∀ i, i < n → ∃ (c o : Nat), p = some ⟨c, o, none⟩ ∧ c < w.heap.size ∧ (f i).nm.size ≤ 9223372036854775807
    ∧ w.cell? ⟨c, o + i * 4, none⟩ = some (.string (f i).nm) ∧ w.cell? ⟨c, o + i * 4 + 1, none⟩ = some (.int .i64 (f i).ty) ∧ w.cell? ⟨c, o + i * 4 + 2, none⟩ = some (.bool (f i).nn) ∧ w.cell? ⟨c, o + i * 4 + 3, none⟩ = some (.bool (f i).key)
theorem ColsAt.keep {u v : World} {p : Option Addr} {n : Nat} {f : Nat → Col} (h : ColsAt u p n f) (hz : u.heap.size ≤ v.heap.size) (hk : ∀ a, p = some a → v.heap[a.block]? = u.heap[a.block]?) : ColsAt v p n f := by
  intro i hi
  obtain ⟨c, o, hp, hc, hs, h0, h1, h2, h3⟩ := h i hi
  have hb : v.heap[c]? = u.heap[c]? := hk _ hp
  exact ⟨c, o, hp, by omega, hs, by rw [World.cell?_of_block (w := u) hb]; exact h0, by rw [World.cell?_of_block (w := u) hb]; exact h1, by rw [World.cell?_of_block (w := u) hb]; exact h2, by rw [World.cell?_of_block (w := u) hb]; exact h3⟩
theorem ColsAt.low {u v : World} {p : Option Addr} {n : Nat} {f : Nat → Col} (h : ColsAt u p n f) (hb : Below u.heap.size u v) : ColsAt v p n f := by
  intro i hi
  obtain ⟨c, o, hp, hc, hs, h0, h1, h2, h3⟩ := h i hi
  have hk := hb.block c hc
  exact ⟨c, o, hp, Nat.lt_of_lt_of_le hc hb.size, hs, by rw [World.cell?_of_block (w := u) hk]; exact h0, by rw [World.cell?_of_block (w := u) hk]; exact h1, by rw [World.cell?_of_block (w := u) hk]; exact h2, by rw [World.cell?_of_block (w := u) hk]; exact h3⟩
theorem below_next {w u v : World} (h : Below w.heap.size w u) (k : Below u.heap.size u v) : Below w.heap.size w v := h.trans (k.mono h.size)
theorem below_new {w u : World} (h : Below w.heap.size w u) (o : Obj) : Below w.heap.size w (u.alloc o) := h.alloc h.size o
theorem four_one {w w' : World} {a b c d : Value} {t : TypeId} (hb : Below (w.alloc (.cells #[a, b, c, d] t)).heap.size (w.alloc (.cells #[a, b, c, d] t)) w') : Cell4 w' w.heap.size a b c d ∧ Below w.heap.size w w' :=
  ⟨(cell4_new _ _ _ _ _ _).low hb, Below.of_alloc hb⟩
theorem two_one {w w' : World} {a b : Value} {t : TypeId} (hb : Below (w.alloc (.cells #[a, b] t)).heap.size (w.alloc (.cells #[a, b] t)) w') : Cell2 w' w.heap.size a b ∧ Below w.heap.size w w' :=
  ⟨(cell2_new _ _ _ _).low hb, Below.of_alloc hb⟩
theorem cols_at {u : World} {X Y n : Nat} {f : Nat → Col} (e : X = Y) (h : ColsAt u (some ⟨X, 0, none⟩) n f) : ColsAt u (some ⟨Y, 0, none⟩) n f := e ▸ h
theorem ColsAt.set {u : World} {p : Option Addr} {n : Nat} {f : Nat → Col} (h : ColsAt u p n f) {a : Addr} (hp : ∀ q, p = some q → q.block ≠ a.block) (v : Value) : ColsAt (u.setCell a v) p n f :=
  h.keep (by simp [World.setCell]) fun q hq => Below.heap_setCell _ _ _ _ (hp q hq)
theorem cell2_set {u : World} {X : Nat} {a b : Value} (h : Cell2 u X a b) (x y : Value) : Cell2 ((u.setCell ⟨X, 0, none⟩ x).setCell ⟨X, 1, none⟩ y) X x y := by
  obtain ⟨hl, c0, c1, fz⟩ := h
  refine ⟨by simpa [World.setCell] using hl, ?_, ?_, fun o => ?_⟩
  · go_simp
  · go_simp
  · rw [World.frozen?_setCell, World.frozen?_setCell]; exact fz o
end Go.Proofs.YtlgagibmndbimaaDoor
