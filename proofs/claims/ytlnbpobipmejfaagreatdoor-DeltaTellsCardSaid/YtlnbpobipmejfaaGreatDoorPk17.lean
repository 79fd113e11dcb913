/-
  Several texts in one.
-/
import Derived.Test.YtlnbpobipmejfaaGreatDoorPk10
import Derived.Test.YtlnbpobipmejfaaGreatDoorPk16
import Derived.Deep.RegionHeld3
/-
  AnySchema gives a valid schema.
-/
namespace Go.Proofs.YtlnbpobipmejfaaGreatDoor
set_option maxRecDepth 100000
open Go.RowKit
variable {ls : List Nat}

theorem rem8 {n : Nat} {key : Int} (hk : 0 ≤ key) : ((n : Int) * 3 + key).tmod 8 = (((3 * n + key.toNat) % 8 : Nat) : Int) := by
  rw [Int.tmod_eq_emod_of_nonneg (by omega)]
  omega
/-- What a round of AnySchema leaves as it is. -/
structure RestY (b X R base : Nat) (W : World) (nm : ByteArray) (pv : Option Addr) (cv : Nat) (l : List Col) (u : World) : Prop where
  box : Cell2 u X (.string nm) (.slice pv l.length cv)
  own : u.ownsRow base 63 4 (.slice pv l.length cv) l.length (ccells l)
  res : Cell2 u R (.string ⟨#[]⟩) (.slice none 0 0)
  step : StepT b W u
  named : ∀ j, j < l.length → (cAt l j).nm ≠ ⟨#[]⟩
  none : l = [] → pv = Option.none
theorem RestY.drew {b X R base : Nat} {W u : World} {nm : ByteArray} {pv : Option Addr} {cv : Nat} {l : List Col} (h : RestY b X R base W nm pv cv l u) : RestY b X R base W nm pv cv l u.drew :=
  ⟨⟨h.box.lt, h.box.c0, h.box.c1, h.box.fz⟩, h.own, ⟨h.res.lt, h.res.c0, h.res.c1, h.res.fz⟩, h.step.drewN 1, h.named, h.none⟩
/-- Another thing in the newest block: all blocks but it are as they were. -/
theorem swap_block (u : World) (o o' : Obj) {k : Nat} (hk : k ≠ u.heap.size) : (u.alloc o').heap[k]? = (u.alloc o).heap[k]? := by
  show (u.heap.push o')[k]? = (u.heap.push o)[k]?
  rw [Array.getElem?_push, Array.getElem?_push, if_neg hk, if_neg hk]
theorem Cell2.swap {u : World} {X : Nat} {x y : Value} {o o' : Obj} (h : Cell2 (u.alloc o) X x y) (hX : X ≠ u.heap.size) : Cell2 (u.alloc o') X x y := by
  have hb := swap_block u o o' hX
  exact ⟨by have := h.lt; rw [size_alloc] at this ⊢; exact this, by rw [World.cell?_of_block (w := u.alloc o) hb]; exact h.c0, by rw [World.cell?_of_block (w := u.alloc o) hb]; exact h.c1, fun i => by rw [World.frozen?_of_block (w := u.alloc o) hb]; exact h.fz i⟩
abbrev zeroC : Obj := .cells #[.string ⟨#[]⟩, .int .i64 0, .bool false, .bool false] 63
theorem zero_at0 (u : World) : (u.alloc zeroC).cell? ⟨u.heap.size, 0, none⟩ = some (.string ⟨#[]⟩) := by go_simp
theorem zero_at1 (u : World) : (u.alloc zeroC).cell? ⟨u.heap.size, 1, none⟩ = some (.int .i64 0) := by go_simp
/-- A column is to be made at Y. -/
structure ZeroY (W : World) (b X : Nat) (pv : Option Addr) (Y : Nat) (u : World) : Prop where
  cell : Cell4 u Y (.string ⟨#[]⟩) (.int .i64 0) (.bool false) (.bool false)
  bY : b < Y
  XY : X ≠ Y
  WY : W.heap.size < Y
  gY : ∀ a, pv = some a → a.block ≠ Y
theorem ZeroY.step {W u v : World} {b X Y : Nat} {pv : Option Addr} (h : ZeroY W b X pv Y u) (hs : StepT b u v) : ZeroY W b X pv Y v := ⟨h.cell.step hs (by have := h.bY; omega), h.bY, h.XY, h.WY, h.gY⟩
theorem cell4_set {u : World} {Y : Nat} {a b c d : Value} (h : Cell4 u Y a b c d) (x y z r : Value) : Cell4 ((((u.setCell ⟨Y, 0, none⟩ x).setCell ⟨Y, 1, none⟩ y).setCell ⟨Y, 2, none⟩ z).setCell ⟨Y, 3, none⟩ r) Y x y z r := by
  obtain ⟨hl, c0, c1, c2, c3, fz⟩ := h
  refine ⟨by simpa [World.setCell] using hl, ?_, ?_, ?_, ?_, fun o => ?_⟩
  · go_simp
  · go_simp
  · go_simp
  · go_simp
  · rw [World.frozen?_setCell, World.frozen?_setCell, World.frozen?_setCell, World.frozen?_setCell]; exact fz o
/-- A new column lies apart from the rest. -/
theorem fill_apart {b X R base Y : Nat} {W u : World} {nm z : ByteArray} {pv : Option Addr} {cv : Nat} {l : List Col} {ty : Int} {nn key : Bool} (ht : TapeAt u b) (h : RestY b X R base W nm pv cv l u) (hc : Cell4 u Y (.string z) (.int .i64 ty) (.bool nn) (.bool key)) (hz : ∀ j, j < l.length → (cAt l j).nm ≠ z) :
    X ≠ Y ∧ R ≠ Y ∧ b ≠ Y ∧ ∀ k, (Value.slice pv l.length cv).ownBlock = some k → k ≠ Y := by
  refine ⟨?_, ?_, ?_, fun k hk => ?_⟩
  · rintro rfl
    have := h.box.c1
    rw [hc.c1] at this; cases this
  · rintro rfl
    have := h.res.c1
    rw [hc.c1] at this; cases this
  · rintro rfl
    obtain ⟨p, len, cap, k, -, -, h0, -⟩ := ht
    rw [hc.c0] at h0; cases h0
  · rintro rfl
    by_cases hl : l = []
    · rw [h.none hl] at hk; cases hk
    · have hpos : 0 < l.length := List.length_pos_iff.2 hl
      rcases h.own.2 with ⟨h1, h2⟩ | ⟨g, cap, cur, h1, h2, h3, h4⟩
      · omega
      · rw [h1] at hk
        obtain rfl := Option.some.inj hk
        have hcc : cur.toList[0]? = some (.string (cAt l 0).nm) := by
          have h5 := (ccells_at l 0 hpos).1
          rw [← h4.2.2.2] at h5
          rw [List.getElem?_take, if_pos (by omega)] at h5
          simpa using h5
        have : u.cell? ⟨g, 0, none⟩ = some (.string (cAt l 0).nm) := by
          simp only [World.cell?, h3]
          simpa using hcc
        rw [hc.c0] at this
        exact hz 0 hpos (by injection this with e; injection e with e; exact e.symm)
theorem one_col (u : World) (c : Col) (hc : c.nm.size ≤ 9223372036854775807) : ColsAt (u.alloc (.cells #[.string c.nm, .int .i64 c.ty, .bool c.nn, .bool c.key] 63)) (some ⟨u.heap.size, 0, none⟩) 1 (cAt [c]) := by
  intro i hi
  obtain rfl : i = 0 := by omega
  obtain ⟨h0, h1, h2, h3, h4⟩ := ColBox.new u c 63
  exact ⟨u.heap.size, 0, rfl, h0, hc, h1, h2, h3, h4⟩

theorem cell2_set1 {u : World} {X : Nat} {a b : Value} (h : Cell2 u X a b) (y : Value) : Cell2 (u.setCell ⟨X, 1, none⟩ y) X a y := by
  obtain ⟨hl, c0, c1, fz⟩ := h
  refine ⟨by simpa [World.setCell] using hl, ?_, ?_, fun o => ?_⟩
  · go_simp
  · go_simp
  · rw [World.frozen?_setCell]; exact fz o
theorem set_own {u : World} {base n size Y : Nat} {e : TypeId} {v : Value} {xs : List Value} (h : u.ownsRow base e size v n xs) (hY : ∀ k, v.ownBlock = some k → k ≠ Y) (o : Nat) (y : Value) : (u.setCell ⟨Y, o, none⟩ y).ownsRow base e size v n xs :=
  owns_keep h fun k hk => Below.heap_setCell _ _ _ _ (hY k hk)
/-- What the loop of AnySchema keeps. -/
structure LoopY (b X : Nat) (W : World) (nm : ByteArray) (pv : Option Addr) (cv : Nat) (l : List Col) (u : World) : Prop where
  box : Cell2 u X (.string nm) (.slice pv l.length cv)
  own : u.ownsRow (X + 1) 63 4 (.slice pv l.length cv) l.length (ccells l)
  res : Cell2 u W.heap.size (.string ⟨#[]⟩) (.slice none 0 0)
  tape : TapeAt u b
  step : StepT b W u
theorem LoopY.alloc {b X : Nat} {W u : World} {nm : ByteArray} {pv : Option Addr} {cv : Nat} {l : List Col} (h : LoopY b X W nm pv cv l u) (o : Obj) : LoopY b X W nm pv cv l (u.alloc o) :=
  ⟨h.box.low (below_alloc _ _), h.own.alloc o, h.res.low (below_alloc _ _), h.tape.alloc o, h.step.alloc o⟩
theorem LoopY.set {b X Y : Nat} {W u : World} {nm : ByteArray} {pv : Option Addr} {cv : Nat} {l : List Col} (h : LoopY b X W nm pv cv l u) (hb : b < Y) (hX : X ≠ Y) (hW : W.heap.size < Y) (hg : ∀ k, (Value.slice pv l.length cv).ownBlock = some k → k ≠ Y) (o : Nat) (y : Value) : LoopY b X W nm pv cv l (u.setCell ⟨Y, o, none⟩ y) :=
  ⟨h.box.far hX _, owns_keep h.own fun k hk => Below.heap_setCell _ _ _ _ (hg k hk), h.res.far (by omega) _, h.tape.setCell (by exact hb) _, h.step.set2 (by omega) _ _ _⟩
/-- The loop goes on with one column more. -/
theorem LoopY.next {b X : Nat} {W u v : World} {nm : ByteArray} {pv : Option Addr} {cv : Nat} {l : List Col} {c : Col} {v8 : Value} (h : LoopY b X W nm pv cv l u) (hbX : b < X) (hWX : W.heap.size < X) (hs : Sized (l ++ [c]))
    (ho : v.ownsRow (X + 1) 63 4 v8 (l.length + [c].length) (ccells (l ++ [c]))) (hg : u.grownBy v (Value.slice pv l.length cv).ownBlock) :
    Cell2 v X (.string nm) (.slice pv l.length cv) ∧ ∃ p8 c8, v8 = .slice p8 (l.length + [c].length) c8 ∧ LoopY b X W nm p8 c8 (l ++ [c]) (v.setCell ⟨X, 1, none⟩ v8) := by
  have hk : ∀ k, (Value.slice pv l.length cv).ownBlock = some k → X + 1 ≤ k := fun k hk => (h.own.lt k hk).1
  have hb := h.box.grown hg (fun k hk' => by have := hk k hk'; omega)
  obtain ⟨p8, c8, rfl, -, -, -⟩ := cols_of_owns ho hs
  refine ⟨hb, p8, c8, rfl, ?_⟩
  have hr := h.res.grown hg (fun k hk' => by have := hk k hk'; omega)
  have ht := h.tape.grown hg (fun k hk' => by have := hk k hk'; omega)
  have hst := step_grown_from h.step hg (fun k hk' => by have := hk k hk'; omega)
  have hl : (l ++ [c]).length = l.length + [c].length := List.length_append
  refine ⟨?_, ?_, hr.far (by omega) _, ht.setCell (by exact hbX) _, hst.set2 (by omega) _ _ _⟩
  · rw [hl]; exact cell2_set1 hb _
  · rw [hl]; exact owns_keep ho fun k hk' => Below.heap_setCell _ _ _ _ (by have := (ho.lt k hk').1; show k ≠ X; omega)

end Go.Proofs.YtlnbpobipmejfaaGreatDoor
