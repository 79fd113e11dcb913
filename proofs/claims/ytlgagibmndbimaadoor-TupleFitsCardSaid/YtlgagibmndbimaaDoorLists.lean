/-
  Slices and boxes of values that a call has made, and that they stay.
-/
import Derived.Test.YtlgagibmndbimaaDoorOdd
namespace Go.Proofs.YtlgagibmndbimaaDoor
open Go.RowKit
variable {ls : List Nat}

/-- A slice of n values that the call has made: its block, and what its cells hold. -/
def ListAt (u : World) (L n : Nat) (V : Nat → Int × Int × ByteArray) : Prop :=
  L < u.heap.size ∧ ∀ i, i < n → u.cell? ⟨L, i * 3, none⟩ = some (.int .i64 (V i).1) ∧ u.cell? ⟨L, i * 3 + 1, none⟩ = some (.int .i64 (V i).2.1) ∧ u.cell? ⟨L, i * 3 + 2, none⟩ = some (.string (V i).2.2)
theorem ListAt.low {u v : World} {L n : Nat} {V : Nat → Int × Int × ByteArray} (h : ListAt u L n V) (hb : Below u.heap.size u v) : ListAt v L n V :=
  ⟨Nat.lt_of_lt_of_le h.1 hb.size, fun i hi => ⟨by rw [hb.cell (by exact h.1)]; exact (h.2 i hi).1, by rw [hb.cell (by exact h.1)]; exact (h.2 i hi).2.1, by rw [hb.cell (by exact h.1)]; exact (h.2 i hi).2.2⟩⟩

/-- A box with one value. -/
def BoxAt (u : World) (X : Nat) (v : Int × Int × ByteArray) : Prop :=
  X < u.heap.size ∧ u.cell? ⟨X, 0, none⟩ = some (.int .i64 v.1) ∧ u.cell? ⟨X, 1, none⟩ = some (.int .i64 v.2.1) ∧ u.cell? ⟨X, 2, none⟩ = some (.string v.2.2)
theorem BoxAt.low {u v : World} {X : Nat} {x : Int × Int × ByteArray} (h : BoxAt u X x) (hb : Below u.heap.size u v) : BoxAt v X x :=
  ⟨Nat.lt_of_lt_of_le h.1 hb.size, by rw [hb.cell (by exact h.1)]; exact h.2.1, by rw [hb.cell (by exact h.1)]; exact h.2.2.1, by rw [hb.cell (by exact h.1)]; exact h.2.2.2⟩
theorem BoxAt.new (u : World) (v : Int × Int × ByteArray) (t : TypeId) : BoxAt (u.alloc (.cells #[.int .i64 v.1, .int .i64 v.2.1, .string v.2.2] t)) u.heap.size v := by
  refine ⟨by simp, ?_, ?_, ?_⟩
  all_goals go_simp
theorem low_alloc (u : World) (o : Obj) : Below u.heap.size u (u.alloc o) := (Below.refl _ _).alloc (Nat.le_refl _) _

theorem keepX {B A L m : Nat} {W u v : World} {V : Nat → Int × Int × ByteArray} {x y z : Value} (hb : Below u.heap.size u v)
    (h : u.cell? ⟨B, 0, none⟩ = some x ∧ u.cell? ⟨B, 1, none⟩ = some y ∧ u.cell? ⟨B, 2, none⟩ = some z ∧ B < u.heap.size ∧ Env ls u ∧ ListAt u L m V ∧ Below A W u ∧ A ≤ u.heap.size) :
    v.cell? ⟨B, 0, none⟩ = some x ∧ v.cell? ⟨B, 1, none⟩ = some y ∧ v.cell? ⟨B, 2, none⟩ = some z ∧ B < v.heap.size ∧ Env ls v ∧ ListAt v L m V ∧ Below A W v ∧ A ≤ v.heap.size := by
  obtain ⟨h0, h1, h2, hz, hE, hL, hB, hA⟩ := h
  have := hb.size
  exact ⟨by rw [hb.cell (by exact hz)]; exact h0, by rw [hb.cell (by exact hz)]; exact h1, by rw [hb.cell (by exact hz)]; exact h2, by omega, hE.low hb, hL.low hb, hB.trans (hb.mono hA), by omega⟩

theorem keepL {B B' A L m : Nat} {W u v : World} {V : Nat → Int × Int × ByteArray} {x y z x' y' z' : Value} (hb : Below u.heap.size u v)
    (h : u.cell? ⟨B, 0, none⟩ = some x ∧ u.cell? ⟨B, 1, none⟩ = some y ∧ u.cell? ⟨B, 2, none⟩ = some z ∧ u.cell? ⟨B', 0, none⟩ = some x' ∧ u.cell? ⟨B', 1, none⟩ = some y' ∧ u.cell? ⟨B', 2, none⟩ = some z' ∧ B < u.heap.size ∧ B' < u.heap.size ∧ Env ls u ∧ ListAt u L m V ∧ Below A W u ∧ A ≤ u.heap.size) :
    v.cell? ⟨B, 0, none⟩ = some x ∧ v.cell? ⟨B, 1, none⟩ = some y ∧ v.cell? ⟨B, 2, none⟩ = some z ∧ v.cell? ⟨B', 0, none⟩ = some x' ∧ v.cell? ⟨B', 1, none⟩ = some y' ∧ v.cell? ⟨B', 2, none⟩ = some z' ∧ B < v.heap.size ∧ B' < v.heap.size ∧ Env ls v ∧ ListAt v L m V ∧ Below A W v ∧ A ≤ v.heap.size := by
  obtain ⟨h0, h1, h2, h0', h1', h2', hz, hz', hE, hL, hB, hA⟩ := h
  have := hb.size
  exact ⟨by rw [hb.cell (by exact hz)]; exact h0, by rw [hb.cell (by exact hz)]; exact h1, by rw [hb.cell (by exact hz)]; exact h2, by rw [hb.cell (by exact hz')]; exact h0', by rw [hb.cell (by exact hz')]; exact h1', by rw [hb.cell (by exact hz')]; exact h2', by omega, by omega, hE.low hb, hL.low hb, hB.trans (hb.mono hA), by omega⟩

theorem keepS {R b : Nat} {W u v : World} {x y z : Value} (hs : StepT b u v) (ht : TapeAt v b) (h8 : 3 ≤ b) (hR : R < b) (hW : W.heap.size ≤ b)
    (h : u.cell? ⟨R, 0, none⟩ = some x ∧ u.cell? ⟨R, 1, none⟩ = some y ∧ u.cell? ⟨R, 2, none⟩ = some z ∧ TapeAt u b ∧ Env ls u ∧ Below W.heap.size W u ∧ R < u.heap.size) :
    v.cell? ⟨R, 0, none⟩ = some x ∧ v.cell? ⟨R, 1, none⟩ = some y ∧ v.cell? ⟨R, 2, none⟩ = some z ∧ TapeAt v b ∧ Env ls v ∧ Below W.heap.size W v ∧ R < v.heap.size := by
  obtain ⟨h0, h1, h2, _, hE, hB, hz⟩ := h
  have hn : R ≠ b := by omega
  exact ⟨by rw [hs.cell (by exact hz) (by exact hn)]; exact h0, by rw [hs.cell (by exact hz) (by exact hn)]; exact h1, by rw [hs.cell (by exact hz) (by exact hn)]; exact h2, ht, hE.step hs h8, hB.trans (hs.below hW hB.size), Nat.lt_of_lt_of_le hz hs.size⟩
theorem keepA {R b : Nat} {W u : World} {x y z : Value} {o : Obj} (h8 : 3 ≤ b) (hR : R < b) (hW : W.heap.size ≤ b)
    (h : u.cell? ⟨R, 0, none⟩ = some x ∧ u.cell? ⟨R, 1, none⟩ = some y ∧ u.cell? ⟨R, 2, none⟩ = some z ∧ TapeAt u b ∧ Env ls u ∧ Below W.heap.size W u ∧ R < u.heap.size) :
    (u.alloc o).cell? ⟨R, 0, none⟩ = some x ∧ (u.alloc o).cell? ⟨R, 1, none⟩ = some y ∧ (u.alloc o).cell? ⟨R, 2, none⟩ = some z ∧ TapeAt (u.alloc o) b ∧ Env ls (u.alloc o) ∧ Below W.heap.size W (u.alloc o) ∧ R < (u.alloc o).heap.size :=
  keepS ((StepT.refl b u).alloc o) (h.2.2.2.1.alloc o) h8 hR hW h

theorem keepS6 {R R' b : Nat} {W u v : World} {x y z x' y' z' : Value} (hs : StepT b u v) (ht : TapeAt v b) (h8 : 3 ≤ b) (hR : R < b) (hR' : R' < b) (hW : W.heap.size ≤ b)
    (h : u.cell? ⟨R, 0, none⟩ = some x ∧ u.cell? ⟨R, 1, none⟩ = some y ∧ u.cell? ⟨R, 2, none⟩ = some z ∧ u.cell? ⟨R', 0, none⟩ = some x' ∧ u.cell? ⟨R', 1, none⟩ = some y' ∧ u.cell? ⟨R', 2, none⟩ = some z' ∧ TapeAt u b ∧ Env ls u ∧ Below W.heap.size W u ∧ R < u.heap.size ∧ R' < u.heap.size) :
    v.cell? ⟨R, 0, none⟩ = some x ∧ v.cell? ⟨R, 1, none⟩ = some y ∧ v.cell? ⟨R, 2, none⟩ = some z ∧ v.cell? ⟨R', 0, none⟩ = some x' ∧ v.cell? ⟨R', 1, none⟩ = some y' ∧ v.cell? ⟨R', 2, none⟩ = some z' ∧ TapeAt v b ∧ Env ls v ∧ Below W.heap.size W v ∧ R < v.heap.size ∧ R' < v.heap.size := by
  obtain ⟨h0, h1, h2, h0', h1', h2', _, hE, hB, hz, hz'⟩ := h
  have hn : R ≠ b := by omega
  have hn' : R' ≠ b := by omega
  exact ⟨by rw [hs.cell (by exact hz) (by exact hn)]; exact h0, by rw [hs.cell (by exact hz) (by exact hn)]; exact h1, by rw [hs.cell (by exact hz) (by exact hn)]; exact h2,
    by rw [hs.cell (by exact hz') (by exact hn')]; exact h0', by rw [hs.cell (by exact hz') (by exact hn')]; exact h1', by rw [hs.cell (by exact hz') (by exact hn')]; exact h2', ht, hE.step hs h8, hB.trans (hs.below hW hB.size), Nat.lt_of_lt_of_le hz hs.size, Nat.lt_of_lt_of_le hz' hs.size⟩
theorem keepA6 {R R' b : Nat} {W u : World} {x y z x' y' z' : Value} {o : Obj} (h8 : 3 ≤ b) (hR : R < b) (hR' : R' < b) (hW : W.heap.size ≤ b)
    (h : u.cell? ⟨R, 0, none⟩ = some x ∧ u.cell? ⟨R, 1, none⟩ = some y ∧ u.cell? ⟨R, 2, none⟩ = some z ∧ u.cell? ⟨R', 0, none⟩ = some x' ∧ u.cell? ⟨R', 1, none⟩ = some y' ∧ u.cell? ⟨R', 2, none⟩ = some z' ∧ TapeAt u b ∧ Env ls u ∧ Below W.heap.size W u ∧ R < u.heap.size ∧ R' < u.heap.size) :
    (u.alloc o).cell? ⟨R, 0, none⟩ = some x ∧ (u.alloc o).cell? ⟨R, 1, none⟩ = some y ∧ (u.alloc o).cell? ⟨R, 2, none⟩ = some z ∧ (u.alloc o).cell? ⟨R', 0, none⟩ = some x' ∧ (u.alloc o).cell? ⟨R', 1, none⟩ = some y' ∧ (u.alloc o).cell? ⟨R', 2, none⟩ = some z' ∧ TapeAt (u.alloc o) b ∧ Env ls (u.alloc o) ∧ Below W.heap.size W (u.alloc o) ∧ R < (u.alloc o).heap.size ∧ R' < (u.alloc o).heap.size :=
  keepS6 ((StepT.refl b u).alloc o) (h.2.2.2.2.2.2.1.alloc o) h8 hR hR' hW h

theorem keepZ6 {R R' b : Nat} {W u v : World} {x y z x' y' z' : Value} (hb : Below u.heap.size u v) (h8 : 3 ≤ b) (hR : R < b) (hR' : R' < b) (hW : W.heap.size ≤ b)
    (h : u.cell? ⟨R, 0, none⟩ = some x ∧ u.cell? ⟨R, 1, none⟩ = some y ∧ u.cell? ⟨R, 2, none⟩ = some z ∧ u.cell? ⟨R', 0, none⟩ = some x' ∧ u.cell? ⟨R', 1, none⟩ = some y' ∧ u.cell? ⟨R', 2, none⟩ = some z' ∧ TapeAt u b ∧ Env ls u ∧ Below W.heap.size W u ∧ R < u.heap.size ∧ R' < u.heap.size) :
    v.cell? ⟨R, 0, none⟩ = some x ∧ v.cell? ⟨R, 1, none⟩ = some y ∧ v.cell? ⟨R, 2, none⟩ = some z ∧ v.cell? ⟨R', 0, none⟩ = some x' ∧ v.cell? ⟨R', 1, none⟩ = some y' ∧ v.cell? ⟨R', 2, none⟩ = some z' ∧ TapeAt v b ∧ Env ls v ∧ Below W.heap.size W v ∧ R < v.heap.size ∧ R' < v.heap.size :=
  keepS6 (StepT.of_below hb) (h.2.2.2.2.2.2.1.below hb) h8 hR hR' hW h

theorem IntsAt.low {u v : World} {p : Option Addr} {n : Nat} (h : IntsAt u p n) (hb : Below u.heap.size u v) : IntsAt v p n := fun i hi => by
  obtain ⟨c, o, z, hp, hc, hz, hz1⟩ := h i hi
  exact ⟨c, o, z, hp, Nat.lt_of_lt_of_le hc hb.size, by rw [hb.cell (by exact hc)]; exact hz, hz1⟩

/-- A value whose number is an int64 and whose text is a text of Go. -/
def Fair (v : Int × Int × ByteArray) : Prop := -9223372036854775808 ≤ v.2.1 ∧ v.2.1 ≤ 9223372036854775807 ∧ v.2.2.size ≤ 9223372036854775807

theorem fair_mk {k n : Int} {s : ByteArray} (h1 : -9223372036854775808 ≤ n) (h2 : n ≤ 9223372036854775807) (h3 : s.size ≤ 9223372036854775807) : Fair (k, n, s) := ⟨h1, h2, h3⟩

end Go.Proofs.YtlgagibmndbimaaDoor
