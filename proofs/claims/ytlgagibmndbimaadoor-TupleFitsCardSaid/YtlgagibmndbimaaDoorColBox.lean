/-
  Boxes of columns; columns behind a call that turns one block.
-/
import Derived.Test.YtlgagibmndbimaaDoorLists
import Derived.Test.YtlgagibmndbimaaDoorCols
namespace Go.Proofs.YtlgagibmndbimaaDoor
open Go.RowKit
variable {ls : List Nat}

/-- A box with a column. -/
def ColBox (u : World) (X : Nat) (c : Col) : Prop :=
  X < u.heap.size ∧ u.cell? ⟨X, 0, none⟩ = some (.string c.nm) ∧ u.cell? ⟨X, 1, none⟩ = some (.int .i64 c.ty) ∧ u.cell? ⟨X, 2, none⟩ = some (.bool c.nn) ∧ u.cell? ⟨X, 3, none⟩ = some (.bool c.key)
theorem ColBox.low {u v : World} {X : Nat} {c : Col} (h : ColBox u X c) (hb : Below u.heap.size u v) : ColBox v X c :=
  ⟨Nat.lt_of_lt_of_le h.1 hb.size, by rw [hb.cell (by exact h.1)]; exact h.2.1, by rw [hb.cell (by exact h.1)]; exact h.2.2.1, by rw [hb.cell (by exact h.1)]; exact h.2.2.2.1, by rw [hb.cell (by exact h.1)]; exact h.2.2.2.2⟩
theorem ColBox.new (u : World) (c : Col) (t : TypeId) : ColBox (u.alloc (.cells #[.string c.nm, .int .i64 c.ty, .bool c.nn, .bool c.key] t)) u.heap.size c := by
  refine ⟨by simp, ?_, ?_, ?_, ?_⟩
  all_goals go_simp
theorem ColBox.step {u v : World} {X b : Nat} {c : Col} (h : ColBox u X c) (hs : StepT b u v) (hn : X ≠ b) : ColBox v X c :=
  ⟨Nat.lt_of_lt_of_le h.1 hs.size, by rw [hs.cell (by exact h.1) (by exact hn)]; exact h.2.1, by rw [hs.cell (by exact h.1) (by exact hn)]; exact h.2.2.1, by rw [hs.cell (by exact h.1) (by exact hn)]; exact h.2.2.2.1, by rw [hs.cell (by exact h.1) (by exact hn)]; exact h.2.2.2.2⟩
theorem BoxAt.step {u v : World} {X b : Nat} {x : Int × Int × ByteArray} (h : BoxAt u X x) (hs : StepT b u v) (hn : X ≠ b) : BoxAt v X x :=
  ⟨Nat.lt_of_lt_of_le h.1 hs.size, by rw [hs.cell (by exact h.1) (by exact hn)]; exact h.2.1, by rw [hs.cell (by exact h.1) (by exact hn)]; exact h.2.2.1, by rw [hs.cell (by exact h.1) (by exact hn)]; exact h.2.2.2⟩
theorem ColsAt.step {u v : World} {b n : Nat} {p : Option Addr} {f : Nat → Col} (h : ColsAt u p n f) (hs : StepT b u v) (hn : ∀ q, p = some q → q.block ≠ b) : ColsAt v p n f := by
  intro i hi
  obtain ⟨c, o, hp, hc, hsz, h0, h1, h2, h3⟩ := h i hi
  have hne := hn _ hp
  have hk := hs.block c hc hne
  exact ⟨c, o, hp, Nat.lt_of_lt_of_le hc hs.size, hsz, by rw [World.cell?_of_block (w := u) hk]; exact h0, by rw [World.cell?_of_block (w := u) hk]; exact h1, by rw [World.cell?_of_block (w := u) hk]; exact h2, by rw [World.cell?_of_block (w := u) hk]; exact h3⟩

theorem ColsAt.at0 {u : World} {L n i : Nat} {f : Nat → Col} (h : ColsAt u (some ⟨L, 0, none⟩) n f) (hi : i < n) : L < u.heap.size ∧ (f i).nm.size ≤ 9223372036854775807
    ∧ u.cell? ⟨L, i * 4, none⟩ = some (.string (f i).nm) ∧ u.cell? ⟨L, i * 4 + 1, none⟩ = some (.int .i64 (f i).ty) ∧ u.cell? ⟨L, i * 4 + 2, none⟩ = some (.bool (f i).nn) ∧ u.cell? ⟨L, i * 4 + 3, none⟩ = some (.bool (f i).key) := by
  obtain ⟨c, o, hp, hc, hs, h0, h1, h2, h3⟩ := h i hi
  cases hp
  rw [Nat.zero_add] at h0 h1 h2 h3
  exact ⟨hc, hs, h0, h1, h2, h3⟩
end Go.Proofs.YtlgagibmndbimaaDoor
