/-
  Several texts in one.
-/
import Derived.Test.YtlnbpobipmejfaaGreatDoorPk08
import Derived.Test.YtlnbpobipmejfaaGreatDoorPk10
import Derived.Test.YtlnbpobipmejfaaGreatDoorPk17
import Derived.Test.YtlnbpobipmejfaaGreatDoorPk02
import Derived.Deep.RegionHeld3
import Derived.Deep.CutRange
import Derived.Test.YtlnbpobipmejfaaGreatDoorPk15
import Derived.Test.YtlnbpobipmejfaaGreatDoorPk16
import Derived.Test.YtlnbpobipmejfaaGreatDoorPk14
/-
  THE STATEMENT TupleFits, as a walk.
-/
namespace Go.Proofs.YtlnbpobipmejfaaGreatDoor
set_option maxRecDepth 100000
open Go.RowKit
variable {ls : List Nat}

/-- What the program's Fits does. -/
def FitsDoes : Prop := ∀ (nm : ByteArray) (p : Option Addr) (n cap : Nat) (f : Nat → Col) (q : Option Addr) (l : List Val) (cq : Nat) (w : World), n ≤ 9223372036854775807 → ColsAt w p n f → RowAt w q l → ValsSized l →
    Calls Tryz.prog 82 #[.agg #[.string nm, .slice p n cap], .slice q l.length cq] w fun e w' => e = .returned (.int .i64 (fitsRow f n l)) ∧ Below w.heap.size w w'
theorem rfits_agg (nm : ByteArray) (p : Option Addr) (n cap : Nat) (f : Nat → Col) (q : Option Addr) (l : List Val) (cq : Nat) (w : World) (hn : n ≤ 9223372036854775807) (hC : ColsAt w p n f) (hR : RowAt w q l) (hS : ValsSized l) :
    Calls Tryz.prog 50 #[.agg #[.string nm, .slice p n cap], .slice q l.length cq] w fun e w' => e = .returned (.int .i64 (fitsRow f n l)) ∧ Below w.heap.size w w' := by
  have := rrowfits_any nm p n cap f q l cq w hn hC hR hS
  unfold schV at this
  exact this
theorem schemaOK_ty {nm : ByteArray} {n : Nat} {f : Nat → Col} (h : schemaOK nm n f = true) (i : Nat) (hi : i < n) : 1 ≤ (f i).ty ∧ (f i).ty ≤ 3 := by
  have hg : Good f i := Classical.byContradiction fun hc => by rw [schemaOK_bad hi hc] at h; cases h
  have h1 := hg.1
  unfold colOK tyOK at h1
  simp at h1
  omega
theorem cell_apart {u : World} {g a c : Nat} {x : Value} (h : a ≠ c) : (u.setCell ⟨g, a, none⟩ x).cell? ⟨g, c, none⟩ = u.cell? ⟨g, c, none⟩ := World.cell?_setCell_other _ _ _ _ (by intro e; exact h (Addr.mk.inj e).2.1)
theorem vAt_set {l : List Val} {r i : Nat} {x : Val} (hr : r < l.length) : vAt (l.set r x) i = if i = r then x else vAt l i := by
  unfold vAt
  rw [List.getD, List.getElem?_set]
  by_cases h : r = i
  · subst h; rw [if_pos rfl, if_pos rfl, if_pos hr]; rfl
  · rw [if_neg h, if_neg (fun e => h e.symm)]; rfl
theorem RowAt.put {u : World} {g r : Nat} {l : List Val} (h : RowAt u (some ⟨g, 0, none⟩) l) (hr : r < l.length) (x : Val) :
    RowAt (((u.setCell ⟨g, r * 3, none⟩ (.int .i64 x.1)).setCell ⟨g, r * 3 + 1, none⟩ (.int .i64 x.2.1)).setCell ⟨g, r * 3 + 2, none⟩ (.string x.2.2)) (some ⟨g, 0, none⟩) (l.set r x) := by
  intro i hi
  rw [List.length_set] at hi
  obtain ⟨c, o, hp, hc, h0, h1, h2⟩ := h i hi
  obtain ⟨rfl, rfl⟩ : g = c ∧ 0 = o := by injection hp with hp; injection hp with e1 e2; exact ⟨e1, e2⟩
  rw [Nat.zero_add] at h0 h1 h2
  refine ⟨g, 0, rfl, by rw [set_size, set_size, set_size]; exact hc, ?_⟩
  rw [Nat.zero_add, vAt_set hr]
  by_cases hir : i = r
  · subst hir
    rw [if_pos rfl]
    refine ⟨by rw [cell_apart (by omega), cell_apart (by omega)]; exact World.cell?_setCell_same _ _ _ h0, by rw [cell_apart (by omega)]; exact World.cell?_setCell_same _ _ _ (by rw [cell_apart (by omega)]; exact h1), World.cell?_setCell_same _ _ _ (by rw [cell_apart (by omega), cell_apart (by omega)]; exact h2)⟩
  · rw [if_neg hir]
    exact ⟨by rw [cell_apart (by omega), cell_apart (by omega), cell_apart (by omega)]; exact h0, by rw [cell_apart (by omega), cell_apart (by omega), cell_apart (by omega)]; exact h1, by rw [cell_apart (by omega), cell_apart (by omega), cell_apart (by omega)]; exact h2⟩
theorem RowAt.tail {u : World} {g : Nat} {l : List Val} (h : RowAt u (some ⟨g, 0, none⟩) l) : RowAt u (some ⟨g, 3, none⟩) (l.drop 1) := by
  intro i hi
  rw [List.length_drop] at hi
  obtain ⟨c, o, hp, hc, h0, h1, h2⟩ := h (i + 1) (by omega)
  obtain ⟨rfl, rfl⟩ : g = c ∧ 0 = o := by injection hp with hp; injection hp with e1 e2; exact ⟨e1, e2⟩
  have hv : vAt (l.drop 1) i = vAt l (i + 1) := by unfold vAt; rw [List.getD, List.getElem?_drop, Nat.add_comm 1 i]; rfl
  rw [hv]
  have e0 : 0 + (i + 1) * 3 = 3 + i * 3 := by omega
  rw [e0] at h0 h1 h2
  exact ⟨g, 3, rfl, hc, h0, h1, h2⟩
theorem own3_block {u : World} {base g n c : Nat} {e : TypeId} {xs : List Value} (h : u.ownsRow base e 3 (.slice (some ⟨g, 0, none⟩) n c) n xs) (o : Nat) : u.frozen? ⟨g, o, none⟩ = false := by
  rcases h.2 with ⟨h1, -⟩ | ⟨g', cap, cur, h1, -, hh, -⟩
  · cases h1
  · injection h1 with h1 h2 h3
    injection h1 with h1
    injection h1 with h1
    subst h1
    exact Joins.unfrozen_of_block hh o
theorem FitsAll.sized {f : Nat → Col} {l : List Val} (h : FitsAll f l) : ValsSized l := fun i hi => Nat.le_trans (h i hi).2 (by decide)
theorem ValsSized.set {l : List Val} (h : ValsSized l) {r : Nat} (hr : r < l.length) {x : Val} (hx : x.2.2.size ≤ 9223372036854775807) : ValsSized (l.set r x) := fun i hi => by
  rw [List.length_set] at hi
  rw [vAt_set hr]
  split
  · exact hx
  · exact h i hi
theorem ValsSized.tail {l : List Val} (h : ValsSized l) : ValsSized (l.drop 1) := fun i hi => by
  rw [List.length_drop] at hi
  have hv : vAt (l.drop 1) i = vAt l (i + 1) := by unfold vAt; rw [List.getD, List.getElem?_drop, Nat.add_comm 1 i]; rfl
  rw [hv]
  exact h (i + 1) (by omega)

/-- The boxes of the two schemas, and the columns of the tape's. -/
structure TF (ls : List Nat) (w u : World) (b X Y : Nat) (m0 : ByteArray) (a0 : Option Addr) (n0 c0 : Nat) (nS : ByteArray) (gS oS cS : Nat) (lS : List Col) : Prop where
  x : Cell2 u X (.string m0) (.slice a0 n0 c0)
  y : Cell2 u Y (.string nS) (.slice (some ⟨gS, oS, none⟩) lS.length cS)
  cols : ColsAt u (some ⟨gS, oS, none⟩) lS.length (cAt lS)
  tape : TapeAt u b
  env : Env ls u
  low' : Below w.heap.size w u
section
variable {w u v : World} {b X Y n0 c0 gS oS cS : Nat} {m0 nS : ByteArray} {a0 : Option Addr} {lS : List Col}
theorem TF.next (h : TF ls w u b X Y m0 a0 n0 c0 nS gS oS cS lS) (hs : StepT b u v) (ht : TapeAt v b) (h8 : 2 ≤ b) (hw : w.heap.size ≤ b) (hX : X ≠ b) (hY : Y ≠ b) (hg : gS ≠ b) : TF ls w v b X Y m0 a0 n0 c0 nS gS oS cS lS :=
  ⟨h.x.step hs hX, h.y.step hs hY, h.cols.step hs (fun q hq => by cases hq; exact hg), ht, h.env.step hs h8, h.low'.trans (hs.below hw h.low'.size)⟩
theorem TF.low (h : TF ls w u b X Y m0 a0 n0 c0 nS gS oS cS lS) (hb : Below u.heap.size u v) : TF ls w v b X Y m0 a0 n0 c0 nS gS oS cS lS :=
  ⟨h.x.low hb, h.y.low hb, h.cols.low hb, h.tape.below hb, h.env.low hb, below_next h.low' hb⟩
end
theorem own3_shape {u : World} {base n : Nat} {v : Value} {l : List Val} (h : u.ownsRow base 55 3 v n (vcells l)) (hn : 0 < n) : ∃ g c, v = .slice (some ⟨g, 0, none⟩) n c ∧ base ≤ g := by
  rcases h.2 with ⟨-, h0⟩ | ⟨g, c, cur, he, hg, -⟩
  · omega
  · exact ⟨g, c, he, hg⟩

theorem TF.put {w u : World} {b X Y n0 c0 gS oS cS V o : Nat} {m0 nS : ByteArray} {a0 : Option Addr} {lS : List Col} (h : TF ls w u b X Y m0 a0 n0 c0 nS gS oS cS lS) (hX : X ≠ V) (hY : Y ≠ V) (hg : gS ≠ V) (hb : b < V) (hw : w.heap.size ≤ V) (h8 : 2 ≤ b) (y : Value) : TF ls w (u.setCell ⟨V, o, none⟩ y) b X Y m0 a0 n0 c0 nS gS oS cS lS :=
  ⟨h.x.far hX _, h.y.far hY _, h.cols.set (fun q hq => by cases hq; exact hg) _, h.tape.setCell (show b < V from hb) _, h.env.keep (by rw [set_size]; exact Nat.le_refl _) (fun k hk => Below.heap_setCell _ _ _ _ (by show k ≠ V; omega)), h.low'.setCell (by exact hw) _⟩
theorem FitsDoes.n (hF : FitsDoes) (nm : ByteArray) (p : Option Addr) (n cap : Nat) (f : Nat → Col) (q : Option Addr) (l : List Val) (k cq : Nat) (w : World) (hk : l.length = k) (hn : n ≤ 9223372036854775807) (hS : ValsSized l) (hC : ColsAt w p n f) (hR : RowAt w q l) :
    Calls Tryz.prog 82 #[.agg #[.string nm, .slice p n cap], .slice q k cq] w fun e w' => e = .returned (.int .i64 (fitsRow f n l)) ∧ Below w.heap.size w w' := by
  subst hk
  exact hF nm p n cap f q l cq w hn hC hR hS
theorem rfits_n (nm : ByteArray) (p : Option Addr) (n cap : Nat) (f : Nat → Col) (q : Option Addr) (l : List Val) (k cq : Nat) (w : World) (hk : l.length = k) (hn : n ≤ 9223372036854775807) (hS : ValsSized l) (hC : ColsAt w p n f) (hR : RowAt w q l) :
    Calls Tryz.prog 50 #[.agg #[.string nm, .slice p n cap], .slice q k cq] w fun e w' => e = .returned (.int .i64 (fitsRow f n l)) ∧ Below w.heap.size w w' := by
  subst hk
  exact rfits_agg nm p n cap f q l cq w hn hC hR hS
/-- What the last region leaves as it is. -/
structure R8 (w u : World) (gS oS g7 : Nat) (pt : Option Addr) (lS : List Col) (lm : List Val) (a0 : Option Addr) (n0 : Nat) (f0 : Nat → Col) (q0 : Option Addr) (l0 : List Val) : Prop where
  cols : ColsAt u (some ⟨gS, oS, none⟩) lS.length (cAt lS)
  row : RowAt u (some ⟨g7, 0, none⟩) lm
  tail : RowAt u pt (lm.drop 1)
  c0 : ColsAt u a0 n0 f0
  r0 : RowAt u q0 l0
  low' : Below w.heap.size w u
theorem keep8 {w u v : World} {X Y n0 c0 gS oS cS g7 : Nat} {pt : Option Addr} {m0 nS : ByteArray} {a0 q0 : Option Addr} {lS : List Col} {lm l0 : List Val} {f0 : Nat → Col} (hb : Below u.heap.size u v)
    (h : u.cell? ⟨X, 0, none⟩ = some (.string m0) ∧ u.cell? ⟨X, 1, none⟩ = some (.slice a0 n0 c0) ∧ u.cell? ⟨Y, 0, none⟩ = some (.string nS) ∧ u.cell? ⟨Y, 1, none⟩ = some (.slice (some ⟨gS, oS, none⟩) lS.length cS) ∧ X < u.heap.size ∧ Y < u.heap.size ∧ R8 w u gS oS g7 pt lS lm a0 n0 f0 q0 l0) :
    v.cell? ⟨X, 0, none⟩ = some (.string m0) ∧ v.cell? ⟨X, 1, none⟩ = some (.slice a0 n0 c0) ∧ v.cell? ⟨Y, 0, none⟩ = some (.string nS) ∧ v.cell? ⟨Y, 1, none⟩ = some (.slice (some ⟨gS, oS, none⟩) lS.length cS) ∧ X < v.heap.size ∧ Y < v.heap.size ∧ R8 w v gS oS g7 pt lS lm a0 n0 f0 q0 l0 := by
  obtain ⟨h0, h1, h2, h3, hx, hy, hc, hr, ht, k0, k1, hl⟩ := h
  exact ⟨by rw [hb.cell (by exact hx)]; exact h0, by rw [hb.cell (by exact hx)]; exact h1, by rw [hb.cell (by exact hy)]; exact h2, by rw [hb.cell (by exact hy)]; exact h3, Nat.lt_of_lt_of_le hx hb.size, Nat.lt_of_lt_of_le hy hb.size, hc.low hb, hr.low hb, ht.low hb, k0.low hb, k1.low hb, below_next hl hb⟩

end Go.Proofs.YtlnbpobipmejfaaGreatDoor
/-
  What spoiling a table turns in memory.
-/
namespace Go.Proofs.YtlnbpobipmejfaaGreatDoor
set_option maxRecDepth 100000
open Go.RowKit
variable {ls : List Nat}

end Go.Proofs.YtlnbpobipmejfaaGreatDoor
/-
  Spoiled of the world, for tables: what it keeps; appends at a step of a region that draws its order.
-/
namespace Go.Proofs.YtlnbpobipmejfaaGreatDoor
set_option maxRecDepth 100000
open Go.RowKit
variable {ls : List Nat}

end Go.Proofs.YtlnbpobipmejfaaGreatDoor
