/-
  Several texts in one.
-/
import Derived.Test.YtlnbpobipmejfaaGreatDoorPk34
import Derived.Test.YtlnbpobipmejfaaGreatDoorPk22
/-
  Between of the reference of package delta.
-/
namespace Go.Proofs.YtlnbpobipmejfaaGreatDoor
set_option maxRecDepth 100000
open Go.RowKit
variable {ls : List Nat}

structure RbW (w : World) (T S : Tab) (pa pb : Option Addr) (X i j : Nat) (vi vd vu : Value) (GI GD : List GRow) (P : List GPair) (v : World) : Prop where
  a : Cell4 v w.heap.size (.string T.nm) (.slice T.pc T.n T.cc) (.int .i64 T.nx) (.slice pa T.R.length T.cr)
  b : Cell4 v (w.heap.size + 1) (.string S.nm) (.slice S.pc S.n S.cc) (.int .i64 S.nx) (.slice pb S.R.length S.cr)
  r : Cell4 v (w.heap.size + 2) (.string ⟨#[]⟩) (.slice none 0 0) (.slice none 0 0) (.slice none 0 0)
  d : DltW T.nx X T.nm vi vd vu GI GD P v
  gi : tabR GI = (S.R.take j).filter (fun r => (getR r.1 T.R).isNone)
  gd : tabR GD = (T.R.take i).filter (fun r => (getR r.1 S.R).isNone)
  gu : P.map unG = (S.R.take j).filterMap (updP T.R)
  nw : ∀ k, k < j → (getR (tAt S.R k).1 T.R).isSome = true ∨ T.nx ≤ (tAt S.R k).1
  bel : Below w.heap.size w v
  hX : w.heap.size + 2 < X
section
variable {w u v w8 : World} {T S : Tab} {pa pb : Option Addr} {X i j : Nat} {vi vd vu v8 : Value} {GI GD : List GRow} {P : List GPair}
theorem RbW.low (h : RbW w T S pa pb X i j vi vd vu GI GD P u) (hb : Below u.heap.size u v) : RbW w T S pa pb X i j vi vd vu GI GD P v :=
  ⟨h.a.low hb, h.b.low hb, h.r.low hb, h.d.low hb, h.gi, h.gd, h.gu, h.nw, below_next h.bel hb, h.hX⟩
theorem RbW.lo (h : RbW w T S pa pb X i j vi vd vu GI GD P u) : X < u.heap.size := h.d.box.lt
theorem c4pushX {Z o : Nat} {a b c d y : Value} {row : Option Nat} (h : Cell4 u Z a b c d) (hg : u.grownBy w8 row) (hr : ∀ k, row = some k → X + 1 ≤ k) (hZ : Z < X) : Cell4 (w8.setCell ⟨X, o, none⟩ y) Z a b c d :=
  (h.grown hg (fun k hk => by have := hr k hk; omega)).far (by omega) y
theorem belpushX {o : Nat} {y : Value} {row : Option Nat} (h : Below w.heap.size w u) (hg : u.grownBy w8 row) (hr : ∀ k, row = some k → X + 1 ≤ k) (hX : w.heap.size + 2 < X) : Below w.heap.size w (w8.setCell ⟨X, o, none⟩ y) :=
  (grown_below h h.size hg (fun k hk => by have := hr k hk; omega)).setCell (by show w.heap.size ≤ X; omega) y
theorem nw_step {A B : List TRow} {nx : Int} {j : Nat} (h : ∀ k, k < j → (getR (tAt B k).1 A).isSome = true ∨ nx ≤ (tAt B k).1) (h1 : (getR (tAt B j).1 A).isSome = true ∨ nx ≤ (tAt B j).1) : ∀ k, k < j + 1 → (getR (tAt B k).1 A).isSome = true ∨ nx ≤ (tAt B k).1 := fun k hk => by
  rcases Nat.lt_or_ge k j with hk3 | hk3
  · exact h k hk3
  · obtain rfl : k = j := by omega
    exact h1
theorem RbW.pushD0 {g : GRow} (h : RbW w T S pa pb X i j vi vd vu GI GD P u) (hz : InRow u (X + 1) (g.2.1, g.2.2)) (hi : i < T.R.length) (hg1 : (g.1, g.2.2) = tAt T.R i) (hlt : g.1 < T.nx) (hn : getR (tAt T.R i).1 S.R = none)
    (ho : w8.ownsRow (X + 1) 58 2 v8 (GD ++ [g]).length (tcells (GD ++ [g]))) (hg : u.grownBy w8 vd.ownBlock) :
    Cell4 w8 X (.string T.nm) vi vd vu ∧ RbW w T S pa pb X (i + 1) j vi v8 vu GI (GD ++ [g]) P (w8.setCell ⟨X, 2, none⟩ v8) := by
  have hk : ∀ k, vd.ownBlock = some k → X + 1 ≤ k := fun k hk => owns_block h.d.del.own k hk
  have hX := h.hX
  obtain ⟨hc, hd⟩ := h.d.pushD0 hz hlt ho hg
  exact ⟨hc, c4pushX h.a hg hk (by omega), c4pushX h.b hg hk (by omega), c4pushX h.r hg hk (by omega), hd, h.gi, by rw [tabR_snoc, h.gd, hg1, delR_out hi hn], h.gu, h.nw, belpushX h.bel hg hk hX, hX⟩
theorem RbW.pushI0 {g : GRow} (h : RbW w T S pa pb X i j vi vd vu GI GD P u) (hz : InRow u (X + 1) (g.2.1, g.2.2)) (hj : j < S.R.length) (hg1 : (g.1, g.2.2) = tAt S.R j) (hlt : T.nx ≤ g.1) (hn : getR (tAt S.R j).1 T.R = none)
    (ho : w8.ownsRow (X + 1) 58 2 v8 (GI ++ [g]).length (tcells (GI ++ [g]))) (hg : u.grownBy w8 vi.ownBlock) :
    Cell4 w8 X (.string T.nm) vi vd vu ∧ RbW w T S pa pb X i (j + 1) v8 vd vu (GI ++ [g]) GD P (w8.setCell ⟨X, 1, none⟩ v8) := by
  have hk : ∀ k, vi.ownBlock = some k → X + 1 ≤ k := fun k hk => owns_block h.d.ins.own k hk
  have hX := h.hX
  obtain ⟨hc, hd⟩ := h.d.pushI0 hz hlt ho hg
  exact ⟨hc, c4pushX h.a hg hk (by omega), c4pushX h.b hg hk (by omega), c4pushX h.r hg hk (by omega), hd, by rw [tabR_snoc, h.gi, hg1, delR_out hj hn], h.gd, by rw [h.gu, updR_out hj hn], nw_step h.nw (.inr (by rw [← hg1]; exact hlt)), belpushX h.bel hg hk hX, hX⟩
theorem RbW.pushU0 {g : GPair} (h : RbW w T S pa pb X i j vi vd vu GI GD P u) (hz : InRow u (X + 1) g.2.1 ∧ InRow u (X + 1) g.2.2) (hj : j < S.R.length) {l : List Val} (hn2 : getR (tAt S.R j).1 T.R = some l)
    (hg1 : unG g = ((tAt S.R j).1, l, (tAt S.R j).2)) (hne : l ≠ (tAt S.R j).2)
    (ho : w8.ownsRow (X + 1) 75 3 v8 (P ++ [g]).length (pcells (P ++ [g]))) (hg : u.grownBy w8 vu.ownBlock) :
    Cell4 w8 X (.string T.nm) vi vd vu ∧ RbW w T S pa pb X i (j + 1) vi vd v8 GI GD (P ++ [g]) (w8.setCell ⟨X, 3, none⟩ v8) := by
  have hk : ∀ k, vu.ownBlock = some k → X + 1 ≤ k := fun k hk => owns_block h.d.upd k hk
  have hX := h.hX
  obtain ⟨hc, hd⟩ := h.d.pushU0 hz ho hg
  exact ⟨hc, c4pushX h.a hg hk (by omega), c4pushX h.b hg hk (by omega), c4pushX h.r hg hk (by omega), hd, by rw [h.gi, delR_in hj hn2], h.gd, by rw [List.map_append, h.gu, updR_in hj hn2 hne, ← hg1]; rfl, nw_step h.nw (.inl (by rw [hn2]; rfl)), belpushX h.bel hg hk hX, hX⟩
theorem RbW.skip (h : RbW w T S pa pb X i j vi vd vu GI GD P u) (hj : j < S.R.length) (hn2 : getR (tAt S.R j).1 T.R = some (tAt S.R j).2) : RbW w T S pa pb X i (j + 1) vi vd vu GI GD P u :=
  ⟨h.a, h.b, h.r, h.d, by rw [h.gi, delR_in hj hn2], h.gd, by rw [h.gu, updR_same hj hn2], nw_step h.nw (.inl (by rw [hn2]; rfl)), h.bel, h.hX⟩
theorem RbW.skipD (h : RbW w T S pa pb X i j vi vd vu GI GD P u) (hi : i < T.R.length) {l : List Val} (hn2 : getR (tAt T.R i).1 S.R = some l) : RbW w T S pa pb X (i + 1) j vi vd vu GI GD P u :=
  ⟨h.a, h.b, h.r, h.d, h.gi, by rw [h.gd, delR_in hi hn2], h.gu, h.nw, h.bel, h.hX⟩
theorem getO_of {id : Int} {R : List TRow} {l : List Val} (h : getR id R = some l) : getO id R = (l, true) := by unfold getO; rw [h]
theorem getO_nil {id : Int} {R : List TRow} (h : getR id R = none) : getO id R = ([], false) := by unfold getO; rw [h]
end
theorem rtvalidp_any (T : Tab) (p : Option Addr) (hp : T.pr = p) (w : World) (hT : TabAt w T) :
    Calls Tryz.prog 27 #[.agg #[.string T.nm, .slice T.pc T.n T.cc, .int .i64 T.nx, .slice p T.R.length T.cr]] w fun e w' => e = .returned (.bool T.valid) ∧ Below w.heap.size w w' := by
  subst hp
  exact rtvalid_any T w hT
theorem rgetip_any (T : Tab) (p : Option Addr) (hp : T.pr = p) (id : Int) (w : World) (hT : TabAt w T) :
    Calls Tryz.prog 29 #[.agg #[.string T.nm, .slice T.pc T.n T.cc, .int .i64 T.nx, .slice p T.R.length T.cr], .int .i64 id] w (GetIPost id T.R w) := by
  subst hp
  exact rgeti_any T id w hT
end Go.Proofs.YtlnbpobipmejfaaGreatDoor
