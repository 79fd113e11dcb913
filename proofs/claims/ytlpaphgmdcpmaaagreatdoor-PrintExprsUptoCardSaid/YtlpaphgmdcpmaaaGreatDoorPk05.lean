/-
  Several texts in one.
-/
import Derived.Test.YtlpaphgmdcpmaaaGreatDoorPk01
import Derived.RegionTactic
import Derived.Deep.RegionWith
import Derived.Laws.BytesArg
import Derived.OpenShut
import Derived.Test.YtlpaphgmdcpmaaaGreatDoorPk02
import Derived.StillTailTactics
/-
  Odd values: any kind, any number, a short text.
-/
namespace Go.Proofs.YtlpaphgmdcpmaaaGreatDoor
set_option maxRecDepth 100000
open Go.RowKit

/-- What Odd gives. -/
def IsOdd (k n : Int) (s : ByteArray) : Prop := -9223372036854775808 ≤ k ∧ k ≤ 9223372036854775807 ∧ -9223372036854775808 ≤ n ∧ n ≤ 9223372036854775807 ∧ s.size ≤ 100
def OddPost (b : Nat) (w : World) (e : Ending) (w' : World) : Prop := ∃ (k n : Int) (s : ByteArray), e = .returned (.agg #[.int .i64 k, .int .i64 n, .string s]) ∧ IsOdd k n s ∧ TapeAt w' b ∧ StepT b w w'

theorem IsVal.odd {k n : Int} {s : ByteArray} (h : IsVal k n s) : IsOdd k n s := by
  have hw : ∀ t, IsWord t → t.size ≤ 100 := by
    intro t ht
    rcases ht with rfl | rfl | rfl | rfl | rfl | rfl <;> decide
  unfold IsOdd
  rcases h with ⟨rfl, rfl, rfl⟩ | ⟨rfl, hn, rfl⟩ | ⟨rfl, h0, h1, rfl⟩ | ⟨rfl, rfl, hs⟩
  · decide
  · unfold IsNum at hn
    refine ⟨by decide, by decide, by omega, by omega, by decide⟩
  · refine ⟨by decide, by decide, by omega, by omega, by decide⟩
  · exact ⟨by decide, by decide, by decide, by decide, hw _ hs⟩

theorem IsVal.short {k n : Int} {s : ByteArray} (h : IsVal k n s) : s.size ≤ 64 := by
  have hw : ∀ t, IsWord t → t.size ≤ 64 := by
    intro t ht
    rcases ht with rfl | rfl | rfl | rfl | rfl | rfl <;> decide
  rcases h with ⟨-, -, rfl⟩ | ⟨-, -, rfl⟩ | ⟨-, -, -, rfl⟩ | ⟨-, -, hs⟩
  · decide
  · decide
  · decide
  · exact hw _ hs

/-- The call's two boxes: R for the result, V for the value that is made. -/
structure OddAt (w u : World) (b R V : Nat) (k n : Int) (s : ByteArray) : Prop where
  tape : TapeAt u b
  step : StepT b w u
  bR : b < R
  wR : w.heap.size ≤ R
  RV : R < V
  vz : V < u.heap.size
  r0 : ∃ x, u.cell? ⟨R, 0, none⟩ = some (.int .i64 x)
  r1 : ∃ x, u.cell? ⟨R, 1, none⟩ = some (.int .i64 x)
  r2 : ∃ x, u.cell? ⟨R, 2, none⟩ = some (.string x)
  v0 : u.cell? ⟨V, 0, none⟩ = some (.int .i64 k)
  v1 : u.cell? ⟨V, 1, none⟩ = some (.int .i64 n)
  v2 : u.cell? ⟨V, 2, none⟩ = some (.string s)
  fz : ∀ o, u.frozen? ⟨R, o, none⟩ = false ∧ u.frozen? ⟨V, o, none⟩ = false

theorem OddAt.next {w u u' : World} {b R V : Nat} {k n : Int} {s : ByteArray} (h : OddAt w u b R V k n s) (hs : StepT b u u') (ht : TapeAt u' b) : OddAt w u' b R V k n s := by
  have hb := h.bR
  have hV := h.RV
  have hz := h.vz
  have hc : ∀ B o, b < B → B ≤ V → u'.cell? ⟨B, o, none⟩ = u.cell? ⟨B, o, none⟩ := fun B o h1 h2 => hs.cell (by show B < _; omega) (by show B ≠ b; omega)
  have hf : ∀ B o, b < B → B ≤ V → u'.frozen? ⟨B, o, none⟩ = u.frozen? ⟨B, o, none⟩ := fun B o h1 h2 => hs.frozen (by show B < _; omega) (by show B ≠ b; omega)
  refine ⟨ht, h.step.trans hs, hb, h.wR, hV, Nat.lt_of_lt_of_le hz hs.size, ?_, ?_, ?_, ?_, ?_, ?_, fun o => ⟨?_, ?_⟩⟩
  · rw [hc _ _ hb (by omega)]; exact h.r0
  · rw [hc _ _ hb (by omega)]; exact h.r1
  · rw [hc _ _ hb (by omega)]; exact h.r2
  · rw [hc _ _ (by omega) (Nat.le_refl _)]; exact h.v0
  · rw [hc _ _ (by omega) (Nat.le_refl _)]; exact h.v1
  · rw [hc _ _ (by omega) (Nat.le_refl _)]; exact h.v2
  · rw [hf _ _ hb (by omega)]; exact (h.fz o).1
  · rw [hf _ _ (by omega) (Nat.le_refl _)]; exact (h.fz o).2

theorem OddAt.made {w w1 : World} {b : Nat} {k n : Int} {s : ByteArray} (hlt : b < w.heap.size) (ht : TapeAt w1 b)
    (hs : StepT b (w.alloc (.cells #[.int .i64 0, .int .i64 0, .string ⟨#[]⟩] 23)) w1) :
    OddAt w (w1.alloc (.cells #[.int .i64 k, .int .i64 n, .string s] 23)) b w.heap.size w1.heap.size k n s := by
  obtain ⟨a0, a1, a2, g0, g1, g2, hza⟩ := new3 hs hlt
  have hc : ∀ o, (w1.alloc (.cells #[.int .i64 k, .int .i64 n, .string s] 23)).cell? ⟨w.heap.size, o, none⟩ = w1.cell? ⟨w.heap.size, o, none⟩ := fun o =>
    World.cell?_of_block (w := w1) (Below.heap_alloc _ _ _ hza)
  have hf : ∀ o, (w1.alloc (.cells #[.int .i64 k, .int .i64 n, .string s] 23)).frozen? ⟨w.heap.size, o, none⟩ = w1.frozen? ⟨w.heap.size, o, none⟩ := fun o =>
    World.frozen?_of_block (w := w1) (Below.heap_alloc _ _ _ hza)
  have hg : ∀ o, w1.frozen? ⟨w.heap.size, o, none⟩ = false := fun o => by
    rw [hs.frozen (by simp) (by show w.heap.size ≠ b; omega)]
    go_simp
  refine ⟨ht.alloc _, hs.of_alloc.alloc _, hlt, Nat.le_refl _, hza, by simp, ⟨0, by rw [hc]; exact a0⟩, ⟨0, by rw [hc]; exact a1⟩, ⟨⟨#[]⟩, by rw [hc]; exact a2⟩, ?_, ?_, ?_, fun o => ⟨by rw [hf]; exact hg o, ?_⟩⟩
  all_goals go_simp

theorem OddAt.done {w u : World} {b R V : Nat} {k n : Int} {s : ByteArray} (h : OddAt w u b R V k n s) (x y z : Value) :
    TapeAt (((u.setCell ⟨R, 0, none⟩ x).setCell ⟨R, 1, none⟩ y).setCell ⟨R, 2, none⟩ z) b ∧ StepT b w (((u.setCell ⟨R, 0, none⟩ x).setCell ⟨R, 1, none⟩ y).setCell ⟨R, 2, none⟩ z) :=
  ⟨((h.tape.setCell (by exact h.bR) _).setCell (by exact h.bR) _).setCell (by exact h.bR) _, ((h.step.set2 h.wR _ _ _).set2 h.wR _ _ _).set2 h.wR _ _ _⟩

theorem OddAt.set {w u : World} {b R V : Nat} {k n : Int} {s : ByteArray} (h : OddAt w u b R V k n s) (o : Nat) (x : Value) {k' n' : Int} {s' : ByteArray}
    (h0 : (u.setCell ⟨V, o, none⟩ x).cell? ⟨V, 0, none⟩ = some (.int .i64 k')) (h1 : (u.setCell ⟨V, o, none⟩ x).cell? ⟨V, 1, none⟩ = some (.int .i64 n')) (h2 : (u.setCell ⟨V, o, none⟩ x).cell? ⟨V, 2, none⟩ = some (.string s')) :
    OddAt w (u.setCell ⟨V, o, none⟩ x) b R V k' n' s' := by
  have hRV := h.RV
  have hc : ∀ o', (u.setCell ⟨V, o, none⟩ x).cell? ⟨R, o', none⟩ = u.cell? ⟨R, o', none⟩ := fun o' => World.cell?_of_block (w := u) (Below.heap_setCell _ _ _ _ (show R ≠ V by omega))
  refine ⟨h.tape.setCell (by have := h.bR; show b < V; omega) _, h.step.set2 (by have := h.wR; omega) _ _ _, h.bR, h.wR, hRV, by simpa [World.setCell] using h.vz, by rw [hc]; exact h.r0, by rw [hc]; exact h.r1, by rw [hc]; exact h.r2, h0, h1, h2, fun o' => ⟨?_, ?_⟩⟩
  · rw [World.frozen?_of_block (w := u) (Below.heap_setCell _ _ _ _ (show R ≠ V by omega))]; exact (h.fz o').1
  · rw [World.frozen?_setCell]; exact (h.fz o').2

/-- One byte made a text. -/
def oneB (z : Int) : ByteArray := strOfNums [z]
theorem one_size (z : Int) : (oneB z).size = 1 := rfl
theorem one_byte (z : Int) (W : World) : Sem.run Tryz.prog (convert 92 9 (.slice (some ⟨W.heap.size, 0, none⟩) 1 1)) (W.alloc (.cells #[.int .u8 z] 5)) = .ok (.string (oneB z)) (W.alloc (.cells #[.int .u8 z] 5)) := by
  refine run_convert_bytes_arg _ 92 5 Tryz.underlying92 Tryz.underlying5 W.heap.size 0 1 1 [z] rfl (fun i hi => ?_) 9 Tryz.underlying9
  obtain rfl : i = 0 := by omega
  show (W.alloc _).cell? ⟨W.heap.size, 0, none⟩ = _
  go_simp

end Go.Proofs.YtlpaphgmdcpmaaaGreatDoor
/-
  Slices and boxes of values that a call has made, and that they stay.
-/
namespace Go.Proofs.YtlpaphgmdcpmaaaGreatDoor
set_option maxRecDepth 100000
open Go.RowKit
variable {ls : List Nat}

/-- A slice of n values that the call has made: its block, and what its cells hold. -/
def ListAt (u : World) (L n : Nat) (V : Nat → Int × Int × ByteArray) : Prop :=
  L < u.heap.size ∧ ∀ i, i < n → u.cell? ⟨L, i * 3, none⟩ = some (.int .i64 (V i).1) ∧ u.cell? ⟨L, i * 3 + 1, none⟩ = some (.int .i64 (V i).2.1) ∧ u.cell? ⟨L, i * 3 + 2, none⟩ = some (.string (V i).2.2)
theorem ListAt.low {u v : World} {L n : Nat} {V : Nat → Int × Int × ByteArray} (h : ListAt u L n V) (hb : Below u.heap.size u v) : ListAt v L n V :=
  ⟨Nat.lt_of_lt_of_le h.1 hb.size, fun i hi => ⟨by rw [hb.cell (by exact h.1)]; exact (h.2 i hi).1, by rw [hb.cell (by exact h.1)]; exact (h.2 i hi).2.1, by rw [hb.cell (by exact h.1)]; exact (h.2 i hi).2.2⟩⟩

/-- A box with one value. -/
def BoxAt (u : World) (X : Nat) (v : Int × Int × ByteArray) : Prop :=
  X < u.heap.size ∧ u.cell? ⟨X, 0, none⟩ = some (.int .i64 v.1) ∧ u.cell? ⟨X, 1, none⟩ = some (.int .i64 v.2.1) ∧ u.cell? ⟨X, 2, none⟩ = some (.string v.2.2)
theorem BoxAt.low {u v : World} {X : Nat} {x : Int × Int × ByteArray} (h : BoxAt u X x) (hb : Below u.heap.size u v) : BoxAt v X x :=
  ⟨Nat.lt_of_lt_of_le h.1 hb.size, by rw [hb.cell (by exact h.1)]; exact h.2.1, by rw [hb.cell (by exact h.1)]; exact h.2.2.1, by rw [hb.cell (by exact h.1)]; exact h.2.2.2⟩
theorem BoxAt.new (u : World) (v : Int × Int × ByteArray) (t : TypeId) : BoxAt (u.alloc (.cells #[.int .i64 v.1, .int .i64 v.2.1, .string v.2.2] t)) u.heap.size v := by
  refine ⟨by simp, ?_, ?_, ?_⟩
  all_goals go_simp
theorem low_alloc (u : World) (o : Obj) : Below u.heap.size u (u.alloc o) := (Below.refl _ _).alloc (Nat.le_refl _) _

theorem keepX {B A L m : Nat} {W u v : World} {V : Nat → Int × Int × ByteArray} {x y z : Value} (hb : Below u.heap.size u v)
    (h : u.cell? ⟨B, 0, none⟩ = some x ∧ u.cell? ⟨B, 1, none⟩ = some y ∧ u.cell? ⟨B, 2, none⟩ = some z ∧ B < u.heap.size ∧ Env ls u ∧ ListAt u L m V ∧ Below A W u ∧ A ≤ u.heap.size) :
    v.cell? ⟨B, 0, none⟩ = some x ∧ v.cell? ⟨B, 1, none⟩ = some y ∧ v.cell? ⟨B, 2, none⟩ = some z ∧ B < v.heap.size ∧ Env ls v ∧ ListAt v L m V ∧ Below A W v ∧ A ≤ v.heap.size := by
  obtain ⟨h0, h1, h2, hz, hE, hL, hB, hA⟩ := h
  have := hb.size
  exact ⟨by rw [hb.cell (by exact hz)]; exact h0, by rw [hb.cell (by exact hz)]; exact h1, by rw [hb.cell (by exact hz)]; exact h2, by omega, hE.low hb, hL.low hb, hB.trans (hb.mono hA), by omega⟩

theorem keepL {B B' A L m : Nat} {W u v : World} {V : Nat → Int × Int × ByteArray} {x y z x' y' z' : Value} (hb : Below u.heap.size u v)
    (h : u.cell? ⟨B, 0, none⟩ = some x ∧ u.cell? ⟨B, 1, none⟩ = some y ∧ u.cell? ⟨B, 2, none⟩ = some z ∧ u.cell? ⟨B', 0, none⟩ = some x' ∧ u.cell? ⟨B', 1, none⟩ = some y' ∧ u.cell? ⟨B', 2, none⟩ = some z' ∧ B < u.heap.size ∧ B' < u.heap.size ∧ Env ls u ∧ ListAt u L m V ∧ Below A W u ∧ A ≤ u.heap.size) :
    v.cell? ⟨B, 0, none⟩ = some x ∧ v.cell? ⟨B, 1, none⟩ = some y ∧ v.cell? ⟨B, 2, none⟩ = some z ∧ v.cell? ⟨B', 0, none⟩ = some x' ∧ v.cell? ⟨B', 1, none⟩ = some y' ∧ v.cell? ⟨B', 2, none⟩ = some z' ∧ B < v.heap.size ∧ B' < v.heap.size ∧ Env ls v ∧ ListAt v L m V ∧ Below A W v ∧ A ≤ v.heap.size := by
  obtain ⟨h0, h1, h2, h0', h1', h2', hz, hz', hE, hL, hB, hA⟩ := h
  have := hb.size
  exact ⟨by rw [hb.cell (by exact hz)]; exact h0, by rw [hb.cell (by exact hz)]; exact h1, by rw [hb.cell (by exact hz)]; exact h2, by rw [hb.cell (by exact hz')]; exact h0', by rw [hb.cell (by exact hz')]; exact h1', by rw [hb.cell (by exact hz')]; exact h2', by omega, by omega, hE.low hb, hL.low hb, hB.trans (hb.mono hA), by omega⟩

theorem keepS {R b : Nat} {W u v : World} {x y z : Value} (hs : StepT b u v) (ht : TapeAt v b) (h8 : 13 ≤ b) (hR : R < b) (hW : W.heap.size ≤ b)
    (h : u.cell? ⟨R, 0, none⟩ = some x ∧ u.cell? ⟨R, 1, none⟩ = some y ∧ u.cell? ⟨R, 2, none⟩ = some z ∧ TapeAt u b ∧ Env ls u ∧ Below W.heap.size W u ∧ R < u.heap.size) :
    v.cell? ⟨R, 0, none⟩ = some x ∧ v.cell? ⟨R, 1, none⟩ = some y ∧ v.cell? ⟨R, 2, none⟩ = some z ∧ TapeAt v b ∧ Env ls v ∧ Below W.heap.size W v ∧ R < v.heap.size := by
  obtain ⟨h0, h1, h2, _, hE, hB, hz⟩ := h
  have hn : R ≠ b := by omega
  exact ⟨by rw [hs.cell (by exact hz) (by exact hn)]; exact h0, by rw [hs.cell (by exact hz) (by exact hn)]; exact h1, by rw [hs.cell (by exact hz) (by exact hn)]; exact h2, ht, hE.step hs h8, hB.trans (hs.below hW hB.size), Nat.lt_of_lt_of_le hz hs.size⟩
theorem keepA {R b : Nat} {W u : World} {x y z : Value} {o : Obj} (h8 : 13 ≤ b) (hR : R < b) (hW : W.heap.size ≤ b)
    (h : u.cell? ⟨R, 0, none⟩ = some x ∧ u.cell? ⟨R, 1, none⟩ = some y ∧ u.cell? ⟨R, 2, none⟩ = some z ∧ TapeAt u b ∧ Env ls u ∧ Below W.heap.size W u ∧ R < u.heap.size) :
    (u.alloc o).cell? ⟨R, 0, none⟩ = some x ∧ (u.alloc o).cell? ⟨R, 1, none⟩ = some y ∧ (u.alloc o).cell? ⟨R, 2, none⟩ = some z ∧ TapeAt (u.alloc o) b ∧ Env ls (u.alloc o) ∧ Below W.heap.size W (u.alloc o) ∧ R < (u.alloc o).heap.size :=
  keepS ((StepT.refl b u).alloc o) (h.2.2.2.1.alloc o) h8 hR hW h

theorem keepS6 {R R' b : Nat} {W u v : World} {x y z x' y' z' : Value} (hs : StepT b u v) (ht : TapeAt v b) (h8 : 13 ≤ b) (hR : R < b) (hR' : R' < b) (hW : W.heap.size ≤ b)
    (h : u.cell? ⟨R, 0, none⟩ = some x ∧ u.cell? ⟨R, 1, none⟩ = some y ∧ u.cell? ⟨R, 2, none⟩ = some z ∧ u.cell? ⟨R', 0, none⟩ = some x' ∧ u.cell? ⟨R', 1, none⟩ = some y' ∧ u.cell? ⟨R', 2, none⟩ = some z' ∧ TapeAt u b ∧ Env ls u ∧ Below W.heap.size W u ∧ R < u.heap.size ∧ R' < u.heap.size) :
    v.cell? ⟨R, 0, none⟩ = some x ∧ v.cell? ⟨R, 1, none⟩ = some y ∧ v.cell? ⟨R, 2, none⟩ = some z ∧ v.cell? ⟨R', 0, none⟩ = some x' ∧ v.cell? ⟨R', 1, none⟩ = some y' ∧ v.cell? ⟨R', 2, none⟩ = some z' ∧ TapeAt v b ∧ Env ls v ∧ Below W.heap.size W v ∧ R < v.heap.size ∧ R' < v.heap.size := by
  obtain ⟨h0, h1, h2, h0', h1', h2', _, hE, hB, hz, hz'⟩ := h
  have hn : R ≠ b := by omega
  have hn' : R' ≠ b := by omega
  exact ⟨by rw [hs.cell (by exact hz) (by exact hn)]; exact h0, by rw [hs.cell (by exact hz) (by exact hn)]; exact h1, by rw [hs.cell (by exact hz) (by exact hn)]; exact h2,
    by rw [hs.cell (by exact hz') (by exact hn')]; exact h0', by rw [hs.cell (by exact hz') (by exact hn')]; exact h1', by rw [hs.cell (by exact hz') (by exact hn')]; exact h2', ht, hE.step hs h8, hB.trans (hs.below hW hB.size), Nat.lt_of_lt_of_le hz hs.size, Nat.lt_of_lt_of_le hz' hs.size⟩
theorem keepA6 {R R' b : Nat} {W u : World} {x y z x' y' z' : Value} {o : Obj} (h8 : 13 ≤ b) (hR : R < b) (hR' : R' < b) (hW : W.heap.size ≤ b)
    (h : u.cell? ⟨R, 0, none⟩ = some x ∧ u.cell? ⟨R, 1, none⟩ = some y ∧ u.cell? ⟨R, 2, none⟩ = some z ∧ u.cell? ⟨R', 0, none⟩ = some x' ∧ u.cell? ⟨R', 1, none⟩ = some y' ∧ u.cell? ⟨R', 2, none⟩ = some z' ∧ TapeAt u b ∧ Env ls u ∧ Below W.heap.size W u ∧ R < u.heap.size ∧ R' < u.heap.size) :
    (u.alloc o).cell? ⟨R, 0, none⟩ = some x ∧ (u.alloc o).cell? ⟨R, 1, none⟩ = some y ∧ (u.alloc o).cell? ⟨R, 2, none⟩ = some z ∧ (u.alloc o).cell? ⟨R', 0, none⟩ = some x' ∧ (u.alloc o).cell? ⟨R', 1, none⟩ = some y' ∧ (u.alloc o).cell? ⟨R', 2, none⟩ = some z' ∧ TapeAt (u.alloc o) b ∧ Env ls (u.alloc o) ∧ Below W.heap.size W (u.alloc o) ∧ R < (u.alloc o).heap.size ∧ R' < (u.alloc o).heap.size :=
  keepS6 ((StepT.refl b u).alloc o) (h.2.2.2.2.2.2.1.alloc o) h8 hR hR' hW h

theorem keepZ6 {R R' b : Nat} {W u v : World} {x y z x' y' z' : Value} (hb : Below u.heap.size u v) (h8 : 13 ≤ b) (hR : R < b) (hR' : R' < b) (hW : W.heap.size ≤ b)
    (h : u.cell? ⟨R, 0, none⟩ = some x ∧ u.cell? ⟨R, 1, none⟩ = some y ∧ u.cell? ⟨R, 2, none⟩ = some z ∧ u.cell? ⟨R', 0, none⟩ = some x' ∧ u.cell? ⟨R', 1, none⟩ = some y' ∧ u.cell? ⟨R', 2, none⟩ = some z' ∧ TapeAt u b ∧ Env ls u ∧ Below W.heap.size W u ∧ R < u.heap.size ∧ R' < u.heap.size) :
    v.cell? ⟨R, 0, none⟩ = some x ∧ v.cell? ⟨R, 1, none⟩ = some y ∧ v.cell? ⟨R, 2, none⟩ = some z ∧ v.cell? ⟨R', 0, none⟩ = some x' ∧ v.cell? ⟨R', 1, none⟩ = some y' ∧ v.cell? ⟨R', 2, none⟩ = some z' ∧ TapeAt v b ∧ Env ls v ∧ Below W.heap.size W v ∧ R < v.heap.size ∧ R' < v.heap.size :=
  keepS6 (StepT.of_below hb) (h.2.2.2.2.2.2.1.below hb) h8 hR hR' hW h

theorem IntsAt.low {u v : World} {p : Option Addr} {n : Nat} (h : IntsAt u p n) (hb : Below u.heap.size u v) : IntsAt v p n := fun i hi => by
  obtain ⟨c, o, z, hp, hc, hz, hz1⟩ := h i hi
  exact ⟨c, o, z, hp, Nat.lt_of_lt_of_le hc hb.size, by rw [hb.cell (by exact hc)]; exact hz, hz1⟩

/-- A value whose number is an int64 and whose text is a text of Go. -/
def Fair (v : Int × Int × ByteArray) : Prop := -9223372036854775808 ≤ v.2.1 ∧ v.2.1 ≤ 9223372036854775807 ∧ v.2.2.size ≤ 9223372036854775807

theorem fair_mk {k n : Int} {s : ByteArray} (h1 : -9223372036854775808 ≤ n) (h2 : n ≤ 9223372036854775807) (h3 : s.size ≤ 9223372036854775807) : Fair (k, n, s) := ⟨h1, h2, h3⟩

end Go.Proofs.YtlpaphgmdcpmaaaGreatDoor
/-
  Compare, of the program and of the reference.
-/
namespace Go.Proofs.YtlpaphgmdcpmaaaGreatDoor
set_option maxRecDepth 100000
open Go.RowKit

def orI (x y z : Int) : Int := if x = 0 then (if y = 0 then z else y) else x
/-- The order of values: by kind, then number, then text. -/
def cmpV (k n : Int) (s : ByteArray) (k' n' : Int) (s' : ByteArray) : Int :=
  orI (Lib.compareInt k k') (Lib.compareInt n n') (Lib.compareBytes s.data.toList s'.data.toList)

theorem ret_i {a b : Int} (h : a = b) : Ending.returned (.int .i64 a) = .returned (.int .i64 b) := by rw [h]

theorem two_boxes (w : World) (x y z x' y' z' : Value) (t : TypeId) :
    ∃ W, W = (w.alloc (.cells #[x, y, z] t)).alloc (.cells #[x', y', z'] t) ∧ Below w.heap.size w W ∧ W.heap.size = w.heap.size + 2 ∧ W.cell? ⟨w.heap.size, 0, none⟩ = some x ∧ W.cell? ⟨w.heap.size, 1, none⟩ = some y ∧ W.cell? ⟨w.heap.size, 2, none⟩ = some z
      ∧ W.cell? ⟨w.heap.size + 1, 0, none⟩ = some x' ∧ W.cell? ⟨w.heap.size + 1, 1, none⟩ = some y' ∧ W.cell? ⟨w.heap.size + 1, 2, none⟩ = some z' := by
  refine ⟨_, rfl, ((Below.refl _ _).alloc (Nat.le_refl _) _).alloc (by simp) _, by simp, ?_, ?_, ?_, ?_, ?_, ?_⟩
  all_goals go_simp

end Go.Proofs.YtlpaphgmdcpmaaaGreatDoor
/-
  Equality of values.
-/
namespace Go.Proofs.YtlpaphgmdcpmaaaGreatDoor
set_option maxRecDepth 100000
open Go.RowKit

/-- Are two values the same? -/
def sameV (k n : Int) (s : ByteArray) (k' n' : Int) (s' : ByteArray) : Bool := decide (k = k' ∧ n = n' ∧ s = s')
theorem sameV_iff {k n : Int} {s : ByteArray} {k' n' : Int} {s' : ByteArray} : sameV k n s k' n' s' = true ↔ k = k' ∧ n = n' ∧ s = s' := by unfold sameV; simp

theorem eql_val (k n : Int) (s : ByteArray) (k' n' : Int) (s' : ByteArray) (w : World) :
    (binOp .eql 23 (.agg #[.int .i64 k, .int .i64 n, .string s]) (.agg #[.int .i64 k', .int .i64 n', .string s'])).run Tryz.prog w = .ok (.bool (sameV k n s k' n' s')) w := by
  go_simp
  unfold sameV
  by_cases h1 : k = k'
  · by_cases h2 : n = n'
    · by_cases h3 : s = s'
      · simp [h1, h2, h3]
      · have h4 : ¬ s.toList = s'.toList := fun h => h3 (WideShapes.bytes_inj (by rw [ByteArray.toList_eq, ByteArray.toList_eq] at h; exact h))
        simp [h1, h2, h3, h4]
    · simp [h1, h2]
  · simp [h1]

end Go.Proofs.YtlpaphgmdcpmaaaGreatDoor
