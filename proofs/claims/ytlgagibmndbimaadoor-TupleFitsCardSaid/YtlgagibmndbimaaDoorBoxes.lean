/-
  Boxes of three cells that a call has made, one, two or three behind one another, and that they stay.
-/
import Derived.Test.YtlgagibmndbimaaDoorEnv
namespace Go.Proofs.YtlgagibmndbimaaDoor
open Go.RowKit

/-- A box of three cells that may be written. -/
structure Cell3 (u : World) (X : Nat) (x y z : Value) : Prop where
  lt : X < u.heap.size
  c0 : u.cell? ⟨X, 0, none⟩ = some x
  c1 : u.cell? ⟨X, 1, none⟩ = some y
  c2 : u.cell? ⟨X, 2, none⟩ = some z
  fz : ∀ o, u.frozen? ⟨X, o, none⟩ = false
theorem Cell3.low {u v : World} {X : Nat} {x y z : Value} (h : Cell3 u X x y z) (hb : Below u.heap.size u v) : Cell3 v X x y z :=
  ⟨Nat.lt_of_lt_of_le h.lt hb.size, by rw [hb.cell (by exact h.lt)]; exact h.c0, by rw [hb.cell (by exact h.lt)]; exact h.c1, by rw [hb.cell (by exact h.lt)]; exact h.c2, fun o => by rw [hb.frozen (by exact h.lt)]; exact h.fz o⟩
theorem cell3_new (w : World) (x y z : Value) (t : TypeId) : Cell3 (w.alloc (.cells #[x, y, z] t)) w.heap.size x y z := by
  refine ⟨by simp, ?_, ?_, ?_, fun o => ?_⟩
  all_goals go_simp
theorem Cell3.at {u : World} {X Y : Nat} {x y z : Value} (h : Cell3 u X x y z) (e : X = Y) : Cell3 u Y x y z := e ▸ h
theorem below_alloc (u : World) (o : Obj) : Below u.heap.size u (u.alloc o) := (Below.refl _ _).alloc (Nat.le_refl _) _
theorem size_alloc (u : World) (o : Obj) : (u.alloc o).heap.size = u.heap.size + 1 := by simp

theorem box_one (w : World) (x y z : Value) (t : TypeId) {w' : World} (hb : Below (w.alloc (.cells #[x, y, z] t)).heap.size (w.alloc (.cells #[x, y, z] t)) w') :
    Cell3 w' w.heap.size x y z ∧ Below w.heap.size w w' :=
  ⟨(cell3_new _ _ _ _ _).low hb, Below.of_alloc hb⟩
theorem box_two (w : World) (x y z x' y' z' : Value) (t t' : TypeId) {w' : World} (hb : Below ((w.alloc (.cells #[x, y, z] t)).alloc (.cells #[x', y', z'] t')).heap.size ((w.alloc (.cells #[x, y, z] t)).alloc (.cells #[x', y', z'] t')) w') :
    Cell3 w' w.heap.size x y z ∧ Cell3 w' (w.heap.size + 1) x' y' z' ∧ Below w.heap.size w w' :=
  ⟨((cell3_new _ _ _ _ _).low (below_alloc _ _)).low hb, ((cell3_new _ _ _ _ _).low hb).at (size_alloc _ _), Below.of_alloc (Below.of_alloc hb)⟩
theorem box_three (w : World) (x y z x' y' z' x2 y2 z2 : Value) (t t' t2 : TypeId) {w' : World} (hb : Below (((w.alloc (.cells #[x, y, z] t)).alloc (.cells #[x', y', z'] t')).alloc (.cells #[x2, y2, z2] t2)).heap.size (((w.alloc (.cells #[x, y, z] t)).alloc (.cells #[x', y', z'] t')).alloc (.cells #[x2, y2, z2] t2)) w') :
    Cell3 w' w.heap.size x y z ∧ Cell3 w' (w.heap.size + 1) x' y' z' ∧ Cell3 w' (w.heap.size + 2) x2 y2 z2 ∧ Below w.heap.size w w' :=
  ⟨(((cell3_new _ _ _ _ _).low (below_alloc _ _)).low (below_alloc _ _)).low hb, (((cell3_new _ _ _ _ _).low (below_alloc _ _)).low hb).at (size_alloc _ _), ((cell3_new _ _ _ _ _).low hb).at (by rw [size_alloc, size_alloc]), Below.of_alloc (Below.of_alloc (Below.of_alloc hb))⟩

/-- Three stores into a new box turn nothing old. -/
theorem Below.three {w u : World} (h : Below w.heap.size w u) {X : Nat} (hX : w.heap.size ≤ X) (x y z : Value) :
    Below w.heap.size w (((u.setCell ⟨X, 0, none⟩ x).setCell ⟨X, 1, none⟩ y).setCell ⟨X, 2, none⟩ z) :=
  ((h.setCell (by exact hX) _).setCell (by exact hX) _).setCell (by exact hX) _
theorem Below.three0 {w u : World} (h : Below w.heap.size w u) (x y z : Value) :
    Below w.heap.size w (((u.setCell ⟨w.heap.size, 0, none⟩ x).setCell ⟨w.heap.size, 1, none⟩ y).setCell ⟨w.heap.size, 2, none⟩ z) := Below.three h (Nat.le_refl _) x y z
theorem Below.three1 {w u : World} (h : Below w.heap.size w u) (x y z : Value) :
    Below w.heap.size w (((u.setCell ⟨w.heap.size + 1, 0, none⟩ x).setCell ⟨w.heap.size + 1, 1, none⟩ y).setCell ⟨w.heap.size + 1, 2, none⟩ z) := Below.three h (Nat.le_succ _) x y z
theorem Below.three2 {w u : World} (h : Below w.heap.size w u) (x y z : Value) :
    Below w.heap.size w (((u.setCell ⟨w.heap.size + 2, 0, none⟩ x).setCell ⟨w.heap.size + 2, 1, none⟩ y).setCell ⟨w.heap.size + 2, 2, none⟩ z) := Below.three h (Nat.le_add_right _ 2) x y z

/-- What a cell holds, by a name that the walk does not open: for a box that a region writes. -/
def rd (u : World) (b o : Nat) : Value := (u.cell? ⟨b, o, none⟩).getD (.bool false)
theorem rd_some {u : World} {b o : Nat} {v : Value} (h : u.cell? ⟨b, o, none⟩ = some v) : u.cell? ⟨b, o, none⟩ = some (rd u b o) := by unfold rd; rw [h]; rfl
/-- A box of three cells that may be written, whatever it holds. -/
abbrev May3 (u : World) (X : Nat) : Prop := u.cell? ⟨X, 0, none⟩ = some (rd u X 0) ∧ u.cell? ⟨X, 1, none⟩ = some (rd u X 1) ∧ u.cell? ⟨X, 2, none⟩ = some (rd u X 2) ∧ ∀ o, u.frozen? ⟨X, o, none⟩ = false
theorem Cell3.may {u : World} {X : Nat} {x y z : Value} (h : Cell3 u X x y z) : May3 u X := ⟨rd_some h.c0, rd_some h.c1, rd_some h.c2, h.fz⟩
theorem may_low {u v : World} {X : Nat} (h : May3 u X) (hX : X < u.heap.size) (hb : Below u.heap.size u v) : May3 v X :=
  ⟨rd_some (by rw [hb.cell (by exact hX)]; exact h.1), rd_some (by rw [hb.cell (by exact hX)]; exact h.2.1), rd_some (by rw [hb.cell (by exact hX)]; exact h.2.2.1), fun o => by rw [hb.frozen (by exact hX)]; exact h.2.2.2 o⟩
theorem cell3_set {u : World} {X : Nat} {a b c : Value} (h : Cell3 u X a b c) (x y z : Value) : Cell3 (((u.setCell ⟨X, 0, none⟩ x).setCell ⟨X, 1, none⟩ y).setCell ⟨X, 2, none⟩ z) X x y z := by
  obtain ⟨hl, c0, c1, c2, fz⟩ := h
  refine ⟨by simpa [World.setCell] using hl, ?_, ?_, ?_, fun o => ?_⟩
  · go_simp
  · go_simp
  · go_simp
  · rw [World.frozen?_setCell, World.frozen?_setCell, World.frozen?_setCell]; exact fz o
theorem cell3_far {u : World} {X Y : Nat} (hn : X ≠ Y) (x y z : Value) (o : Nat) : (((u.setCell ⟨Y, 0, none⟩ x).setCell ⟨Y, 1, none⟩ y).setCell ⟨Y, 2, none⟩ z).cell? ⟨X, o, none⟩ = u.cell? ⟨X, o, none⟩ := by
  rw [World.cell?_of_block (w := (u.setCell ⟨Y, 0, none⟩ x).setCell ⟨Y, 1, none⟩ y) (Below.heap_setCell _ _ _ _ hn), World.cell?_of_block (w := u.setCell ⟨Y, 0, none⟩ x) (Below.heap_setCell _ _ _ _ hn), World.cell?_of_block (w := u) (Below.heap_setCell _ _ _ _ hn)]
theorem set3_read {u : World} {X : Nat} {x y z a b c : Value} (h0 : (((u.setCell ⟨X, 0, none⟩ x).setCell ⟨X, 1, none⟩ y).setCell ⟨X, 2, none⟩ z).cell? ⟨X, 0, none⟩ = some a)
    (h1 : (((u.setCell ⟨X, 0, none⟩ x).setCell ⟨X, 1, none⟩ y).setCell ⟨X, 2, none⟩ z).cell? ⟨X, 1, none⟩ = some b) (h2 : (((u.setCell ⟨X, 0, none⟩ x).setCell ⟨X, 1, none⟩ y).setCell ⟨X, 2, none⟩ z).cell? ⟨X, 2, none⟩ = some c) :
    a = x ∧ b = y ∧ c = z := by
  unfold World.cell? World.setCell at h0 h1 h2
  simp only [Array.getElem?_modify] at h0 h1 h2
  cases hx : u.heap[X]? with
  | none => simp [hx] at h0
  | some o =>
    cases o with
    | cells cs t f =>
      simp [hx, Array.getElem?_setIfInBounds] at h0 h1 h2
      exact ⟨h0.2.symm, h1.2.symm, h2.2.symm⟩
    | _ => simp [hx] at h0
theorem size_set3 (u : World) (Y : Nat) (x y z : Value) : (((u.setCell ⟨Y, 0, none⟩ x).setCell ⟨Y, 1, none⟩ y).setCell ⟨Y, 2, none⟩ z).heap.size = u.heap.size := by simp [World.setCell]
end Go.Proofs.YtlgagibmndbimaaDoor
