/-
  What spoiled gives: some schema, in memory of its own.
-/
import Derived.Test.YtgcbgojbjabhkaaDoorAnySchema
import Derived.Deep.RegionHeld3
import Derived.Deep.AppendLies
import Derived.Deep.RegionLaw
import Derived.Laws.BytesArg
import Derived.Laws.Concat
namespace Go.Proofs.YtgcbgojbjabhkaaDoor
open Go.RowKit
variable {ls : List Nat}

def upd (f : Nat → Col) (j : Nat) (c : Col) : Nat → Col := fun i => if i = j then c else f i
theorem cell_other {u : World} {g a b : Nat} {y : Value} (h : a ≠ b) : (u.setCell ⟨g, a, none⟩ y).cell? ⟨g, b, none⟩ = u.cell? ⟨g, b, none⟩ := World.cell?_setCell_other _ _ _ _ (by intro e; exact h (Addr.mk.inj e).2.1)
theorem ColsAt.in0 {u : World} {g n : Nat} {f : Nat → Col} (hg : g < u.heap.size) (h : ∀ i, i < n → (f i).nm.size ≤ 9223372036854775807 ∧ u.cell? ⟨g, i * 4, none⟩ = some (.string (f i).nm) ∧ u.cell? ⟨g, i * 4 + 1, none⟩ = some (.int .i64 (f i).ty) ∧ u.cell? ⟨g, i * 4 + 2, none⟩ = some (.bool (f i).nn) ∧ u.cell? ⟨g, i * 4 + 3, none⟩ = some (.bool (f i).key)) : ColsAt u (some ⟨g, 0, none⟩) n f := fun i hi => by
  obtain ⟨h0, h1, h2, h3, h4⟩ := h i hi
  exact ⟨g, 0, rfl, hg, h0, by rw [Nat.zero_add]; exact h1, by rw [Nat.zero_add]; exact h2, by rw [Nat.zero_add]; exact h3, by rw [Nat.zero_add]; exact h4⟩
theorem ColsAt.putNm {u : World} {g n j : Nat} {f : Nat → Col} (h : ColsAt u (some ⟨g, 0, none⟩) n f) (hj : j < n) (x : ByteArray) (hx : x.size ≤ 9223372036854775807) :
    ColsAt (u.setCell ⟨g, j * 4, none⟩ (.string x)) (some ⟨g, 0, none⟩) n (upd f j ⟨x, (f j).ty, (f j).nn, (f j).key⟩) := by
  refine ColsAt.in0 (by rw [set_size]; exact (h.at0 hj).1) fun i hi => ?_
  obtain ⟨-, h0, h1, h2, h3, h4⟩ := h.at0 hi
  unfold upd
  by_cases hij : i = j
  · subst hij
    rw [if_pos rfl]
    exact ⟨hx, World.cell?_setCell_same _ _ _ h1, by rw [cell_other (by omega)]; exact h2, by rw [cell_other (by omega)]; exact h3, by rw [cell_other (by omega)]; exact h4⟩
  · rw [if_neg hij]
    exact ⟨h0, by rw [cell_other (by omega)]; exact h1, by rw [cell_other (by omega)]; exact h2, by rw [cell_other (by omega)]; exact h3, by rw [cell_other (by omega)]; exact h4⟩
theorem ColsAt.putTy {u : World} {g n j : Nat} {f : Nat → Col} (h : ColsAt u (some ⟨g, 0, none⟩) n f) (hj : j < n) (x : Int) :
    ColsAt (u.setCell ⟨g, j * 4 + 1, none⟩ (.int .i64 x)) (some ⟨g, 0, none⟩) n (upd f j ⟨(f j).nm, x, (f j).nn, (f j).key⟩) := by
  refine ColsAt.in0 (by rw [set_size]; exact (h.at0 hj).1) fun i hi => ?_
  obtain ⟨-, h0, h1, h2, h3, h4⟩ := h.at0 hi
  unfold upd
  by_cases hij : i = j
  · subst hij
    rw [if_pos rfl]
    exact ⟨h0, by rw [cell_other (by omega)]; exact h1, World.cell?_setCell_same _ _ _ h2, by rw [cell_other (by omega)]; exact h3, by rw [cell_other (by omega)]; exact h4⟩
  · rw [if_neg hij]
    exact ⟨h0, by rw [cell_other (by omega)]; exact h1, by rw [cell_other (by omega)]; exact h2, by rw [cell_other (by omega)]; exact h3, by rw [cell_other (by omega)]; exact h4⟩
theorem ColsAt.putNn {u : World} {g n j : Nat} {f : Nat → Col} (h : ColsAt u (some ⟨g, 0, none⟩) n f) (hj : j < n) (x : Bool) :
    ColsAt (u.setCell ⟨g, j * 4 + 2, none⟩ (.bool x)) (some ⟨g, 0, none⟩) n (upd f j ⟨(f j).nm, (f j).ty, x, (f j).key⟩) := by
  refine ColsAt.in0 (by rw [set_size]; exact (h.at0 hj).1) fun i hi => ?_
  obtain ⟨-, h0, h1, h2, h3, h4⟩ := h.at0 hi
  unfold upd
  by_cases hij : i = j
  · subst hij
    rw [if_pos rfl]
    exact ⟨h0, by rw [cell_other (by omega)]; exact h1, by rw [cell_other (by omega)]; exact h2, World.cell?_setCell_same _ _ _ h3, by rw [cell_other (by omega)]; exact h4⟩
  · rw [if_neg hij]
    exact ⟨h0, by rw [cell_other (by omega)]; exact h1, by rw [cell_other (by omega)]; exact h2, by rw [cell_other (by omega)]; exact h3, by rw [cell_other (by omega)]; exact h4⟩
theorem ColsAt.putKey {u : World} {g n j : Nat} {f : Nat → Col} (h : ColsAt u (some ⟨g, 0, none⟩) n f) (hj : j < n) (x : Bool) :
    ColsAt (u.setCell ⟨g, j * 4 + 3, none⟩ (.bool x)) (some ⟨g, 0, none⟩) n (upd f j ⟨(f j).nm, (f j).ty, (f j).nn, x⟩) := by
  refine ColsAt.in0 (by rw [set_size]; exact (h.at0 hj).1) fun i hi => ?_
  obtain ⟨-, h0, h1, h2, h3, h4⟩ := h.at0 hi
  unfold upd
  by_cases hij : i = j
  · subst hij
    rw [if_pos rfl]
    exact ⟨h0, by rw [cell_other (by omega)]; exact h1, by rw [cell_other (by omega)]; exact h2, by rw [cell_other (by omega)]; exact h3, World.cell?_setCell_same _ _ _ h4⟩
  · rw [if_neg hij]
    exact ⟨h0, by rw [cell_other (by omega)]; exact h1, by rw [cell_other (by omega)]; exact h2, by rw [cell_other (by omega)]; exact h3, by rw [cell_other (by omega)]; exact h4⟩

/-- The columns, in a row of the call's own. -/
def SpoilPost (b : Nat) (w : World) (e : Ending) (w' : World) : Prop := ∃ (nm : ByteArray) (p : Option Addr) (n cap : Nat) (f : Nat → Col), e = .returned (schV nm p n cap) ∧ nm.size ≤ 9223372036854775807 ∧ n ≤ 100 ∧ ColsAt w' p n f ∧ (∀ q, p = some q → q.block ≠ b) ∧ TapeAt w' b ∧ StepT b w w'

/-- What spoiled has made when its switch begins. -/
structure SpoilAt (W : World) (b X R g n c : Nat) (nm : ByteArray) (l : List Col) (u : World) : Prop where
  box : Cell2 u X (.string nm) (.slice (some ⟨g, 0, none⟩) n c)
  res : Cell2 u R (.string ⟨#[]⟩) (.slice none 0 0)
  own : u.ownsRow (R + 1) 42 4 (.slice (some ⟨g, 0, none⟩) n c) n (ccells l)
  tape : TapeAt u b
  step : StepT b W u
theorem SpoilAt.next {W u v : World} {b X R g n c : Nat} {nm : ByteArray} {l : List Col} (h : SpoilAt W b X R g n c nm l u) (hs : StepT b u v) (ht : TapeAt v b) (hX : X ≠ b) (hR : R ≠ b) (hb : b < R + 1) : SpoilAt W b X R g n c nm l v :=
  ⟨h.box.step hs hX, h.res.step hs hR, owns_step h.own hb hs, ht, h.step.trans hs⟩
theorem SpoilAt.drew {W u : World} {b X R g n c : Nat} {nm : ByteArray} {l : List Col} (h : SpoilAt W b X R g n c nm l u) : SpoilAt W b X R g n c nm l u.drew :=
  ⟨⟨h.box.lt, h.box.c0, h.box.c1, h.box.fz⟩, ⟨h.res.lt, h.res.c0, h.res.c1, h.res.fz⟩, h.own, h.tape, h.step.drewN 1⟩
theorem keepP {W u v : World} {b X R g n c : Nat} {nm : ByteArray} {l : List Col} (hs : StepT b u v) (ht : TapeAt v b) (hX : X ≠ b) (hR : R ≠ b) (hb : b < R + 1)
    (h : u.cell? ⟨X, 1, none⟩ = some (.slice (some ⟨g, 0, none⟩) n c) ∧ TapeAt u b ∧ SpoilAt W b X R g n c nm l u) : v.cell? ⟨X, 1, none⟩ = some (.slice (some ⟨g, 0, none⟩) n c) ∧ TapeAt v b ∧ SpoilAt W b X R g n c nm l v := by
  have h' := h.2.2.next hs ht hX hR hb
  exact ⟨h'.box.c1, ht, h'⟩

theorem SpoilAt.cols {W u : World} {b X R g n c : Nat} {nm : ByteArray} {l : List Col} (h : SpoilAt W b X R g n c nm l u) (hs : Sized l) : n = l.length ∧ ColsAt u (some ⟨g, 0, none⟩) n (cAt l) ∧ R + 1 ≤ g ∧ ∀ o, u.frozen? ⟨g, o, none⟩ = false := by
  obtain ⟨p, c', he, hn, hc, hq⟩ := cols_of_owns h.own hs
  injection he with h1 h2 h3
  subst h1
  obtain ⟨q1, q2, q3⟩ := hq _ rfl
  exact ⟨hn, hc, q1, q3⟩
theorem spoil_made {W u v : World} {b X R n : Nat} {nm : ByteArray} {old v4 : Value} {l : List Col} {row : Option Nat} (hx : Cell2 u X (.string nm) old) (hr : Cell2 u R (.string ⟨#[]⟩) (.slice none 0 0)) (ht : TapeAt u b) (hs : StepT b W u)
    (ho : v.ownsRow (R + 1) 42 4 v4 n (ccells l)) (hg : u.grownBy v row) (hrow : ∀ k, row = some k → R + 1 ≤ k) (hXR : X < R) (hbX : b < X) (hW : W.heap.size ≤ X) (hn : 1 ≤ n) (hz : Sized l) :
    Cell2 v X (.string nm) old ∧ ∃ g c, v4 = .slice (some ⟨g, 0, none⟩) n c ∧ SpoilAt W b X R g n c nm l (v.setCell ⟨X, 1, none⟩ v4) := by
  have hx' := hx.grown hg (fun k hk => by have := hrow k hk; omega)
  have hr' := hr.grown hg (fun k hk => by have := hrow k hk; omega)
  have ht' := ht.grown hg (fun k hk => by have := hrow k hk; omega)
  have hs' := step_grown hs hg (fun k hk => by have := hrow k hk; omega)
  refine ⟨hx', ?_⟩
  obtain ⟨p, c, rfl, -, -, hq⟩ := cols_of_owns ho hz
  cases p with
  | none =>
    rcases ho.2 with ⟨-, h2⟩ | ⟨g, cap, cur, h1, -⟩
    · omega
    · cases h1
  | some a =>
    obtain ⟨g, o, sp⟩ := a
    rcases ho.2 with ⟨h1, -⟩ | ⟨g', cap, cur, h1, -⟩
    · cases h1
    · injection h1 with h1 _ _
      cases h1
      exact ⟨_, c, rfl, cell2_set1 hx' _, hr'.far (by omega) _, owns_apart ho fun k hk => Below.heap_setCell _ _ _ _ (by have := (ho.lt k hk).1; show k ≠ X; omega), ht'.setCell (by exact hbX) _, hs'.set2 hW _ _ _⟩
/-- What spoiled returns. -/
structure EndAt (W : World) (b X R n c : Nat) (nm : ByteArray) (p : Option Addr) (f : Nat → Col) (u : World) : Prop where
  box : Cell2 u X (.string nm) (.slice p n c)
  res : Cell2 u R (.string ⟨#[]⟩) (.slice none 0 0)
  cols : ColsAt u p n f
  own : ∀ q, p = some q → R + 1 ≤ q.block
  tape : TapeAt u b
  step : StepT b W u
theorem EndAt.done {W u : World} {b X R n c : Nat} {nm : ByteArray} {p : Option Addr} {f : Nat → Col} (h : EndAt W b X R n c nm p f u) (hb : b < R) (hW : W.heap.size ≤ R) :
    ((u.setCell ⟨R, 0, none⟩ (.string nm)).setCell ⟨R, 1, none⟩ (.slice p n c)).cell? ⟨R, 0, none⟩ = some (.string nm) ∧ ((u.setCell ⟨R, 0, none⟩ (.string nm)).setCell ⟨R, 1, none⟩ (.slice p n c)).cell? ⟨R, 1, none⟩ = some (.slice p n c) ∧ ColsAt ((u.setCell ⟨R, 0, none⟩ (.string nm)).setCell ⟨R, 1, none⟩ (.slice p n c)) p n f ∧ (∀ q, p = some q → q.block ≠ b) ∧ TapeAt ((u.setCell ⟨R, 0, none⟩ (.string nm)).setCell ⟨R, 1, none⟩ (.slice p n c)) b ∧ StepT b W ((u.setCell ⟨R, 0, none⟩ (.string nm)).setCell ⟨R, 1, none⟩ (.slice p n c)) := by
  obtain ⟨-, s0, s1, -⟩ := cell2_set h.res (.string nm) (.slice p n c)
  have hq : ∀ q, p = some q → q.block ≠ R := fun q hq => by have := h.own q hq; omega
  exact ⟨s0, s1, (h.cols.set (fun q hqe => hq q hqe) _).set (fun q hqe => hq q hqe) _, fun q hqe => by have := h.own q hqe; omega, (h.tape.setCell (by exact hb) _).setCell (by exact hb) _, (h.step.set2 hW _ _ _).set2 hW _ _ _⟩
theorem cell2_set0 {u : World} {X : Nat} {a b : Value} (h : Cell2 u X a b) (y : Value) : Cell2 (u.setCell ⟨X, 0, none⟩ y) X y b := by
  obtain ⟨hl, c0, c1, fz⟩ := h
  refine ⟨by simpa [World.setCell] using hl, ?_, ?_, fun o => ?_⟩
  · go_simp
  · go_simp
  · rw [World.frozen?_setCell]; exact fz o
/-- A store into the row of columns leaves the rest. -/
theorem SpoilAt.endSet {W u : World} {b X R g n c o : Nat} {nm : ByteArray} {l : List Col} {y : Value} {f : Nat → Col} (h : SpoilAt W b X R g n c nm l u) (hg : R + 1 ≤ g) (hX : X < R) (hb : b < R) (hW : W.heap.size ≤ R) (hc : ColsAt (u.setCell ⟨g, o, none⟩ y) (some ⟨g, 0, none⟩) n f) : EndAt W b X R n c nm (some ⟨g, 0, none⟩) f (u.setCell ⟨g, o, none⟩ y) :=
  ⟨h.box.far (by omega) _, h.res.far (by omega) _, hc, fun q hq => by cases hq; exact hg, h.tape.setCell (show b < g by omega) _, h.step.set2 (by omega) _ _ _⟩
theorem EndAt.set {W u : World} {b X R g n c o : Nat} {nm : ByteArray} {y : Value} {f f' : Nat → Col} (h : EndAt W b X R n c nm (some ⟨g, 0, none⟩) f u) (hg : R + 1 ≤ g) (hX : X < R) (hb : b < R) (hW : W.heap.size ≤ R) (hc : ColsAt (u.setCell ⟨g, o, none⟩ y) (some ⟨g, 0, none⟩) n f') : EndAt W b X R n c nm (some ⟨g, 0, none⟩) f' (u.setCell ⟨g, o, none⟩ y) :=
  ⟨h.box.far (by omega) _, h.res.far (by omega) _, hc, fun q hq => by cases hq; exact hg, h.tape.setCell (show b < g by omega) _, h.step.set2 (by omega) _ _ _⟩

theorem SpoilAt.toEnd {W u : World} {b X R g n c : Nat} {nm : ByteArray} {l : List Col} (h : SpoilAt W b X R g n c nm l u) (hs : Sized l) : EndAt W b X R n c nm (some ⟨g, 0, none⟩) (cAt l) u := by
  obtain ⟨-, h1, h2, -⟩ := h.cols hs
  exact ⟨h.box, h.res, h1, fun q hq => by cases hq; exact h2, h.tape, h.step⟩
theorem SpoilAt.alloc {W u : World} {b X R g n c : Nat} {nm : ByteArray} {l : List Col} (h : SpoilAt W b X R g n c nm l u) (o : Obj) : SpoilAt W b X R g n c nm l (u.alloc o) :=
  ⟨h.box.low (below_alloc _ _), h.res.low (below_alloc _ _), h.own.alloc o, h.tape.alloc o, h.step.alloc o⟩
theorem SpoilAt.made {W u v : World} {b X R g n c g9 c9 : Nat} {nm : ByteArray} {l l9 : List Col} {n9 : Nat} (h : SpoilAt W b X R g n c nm l u) (ho : v.ownsRow (R + 1) 42 4 (.slice (some ⟨g9, 0, none⟩) n9 c9) n9 (ccells l9)) (hg : u.grownBy v (Value.slice (some ⟨g, 0, none⟩) n c).ownBlock) (hXR : X < R) (hbX : b < X) (hW : W.heap.size ≤ X) (hn : 1 ≤ n9) (hz : Sized l9) :
    Cell2 v X (.string nm) (.slice (some ⟨g, 0, none⟩) n c) ∧ SpoilAt W b X R g9 n9 c9 nm l9 (v.setCell ⟨X, 1, none⟩ (.slice (some ⟨g9, 0, none⟩) n9 c9)) := by
  obtain ⟨hx, g', c', hv, hP⟩ := spoil_made h.box h.res h.tape h.step ho hg (fun k hk => (h.own.lt k hk).1) hXR hbX hW hn hz
  injection hv with h1 _ h3
  have h1 := congrArg Addr.block (Option.some.inj h1)
  simp only at h1
  subst h1 h3
  exact ⟨hx, hP⟩
theorem two_bytes (z : Int) (W : World) : Sem.run Tryd.prog (convert 25 9 (.slice (some ⟨W.heap.size, 0, none⟩) 2 2)) (W.alloc (.cells #[.int .u8 112, .int .u8 z] 5)) = .ok (.string (strOfNums [112, z])) (W.alloc (.cells #[.int .u8 112, .int .u8 z] 5)) := by
  refine run_convert_bytes_arg _ 25 5 Tryd.underlying25 Tryd.underlying5 W.heap.size 0 2 2 [112, z] rfl (fun i hi => ?_) 9 Tryd.underlying9
  obtain rfl | rfl : i = 0 ∨ i = 1 := by omega
  · show (W.alloc _).cell? ⟨W.heap.size, 0, none⟩ = _
    go_simp
  · show (W.alloc _).cell? ⟨W.heap.size, 1, none⟩ = _
    go_simp

set_option maxRecDepth 100000 in
set_option maxHeartbeats 4000000 in
theorem spoiled_any (b : Nat) (w : World) (ht : TapeAt w b) (nm0 : ByteArray) (a0 : Addr) (n0 cap0 : Nat) (f0 : Nat → Col) (hn0 : 1 ≤ n0) (hn1 : n0 ≤ 5) (hnm0 : nm0.size ≤ 100) (hC : ColsAt w (some a0) n0 f0) :
    Calls Tryd.prog 15 #[.pointer (some ⟨b, 0, none⟩), .agg #[.string nm0, .slice (some a0) n0 cap0]] w (SpoilPost b w) := by
  have hlt := ht.lt
  obtain ⟨lx, hlx, hlf⟩ := cols_list n0 f0
  subst hlx
  have HSX : Hid (Sized lx) := Lib.hid fun i hi => by
    obtain ⟨c, o, -, -, hs, -⟩ := hC i (by omega)
    rw [hlf i (by omega)]; exact hs
  have HC0 : Hid (ColsAt w (some a0) lx.length (cAt lx)) := Lib.hid (hC.congr fun i hi => hlf i hi)
  have hw3 : Below w.heap.size w (((w.alloc (.cells #[.string nm0, .slice (some a0) lx.length cap0] 34)).alloc (.cells #[.string ⟨#[]⟩, .slice none 0 0] 34)).alloc (.cells #[] 42)) := below_new (below_new (below_new (Below.refl _ _) _) _) _
  have HC3 := Lib.hid (HC0.out.low hw3)
  have HT3 := Lib.hid (ht.below hw3)
  have HS3 := Lib.hid (StepT.of_below (b := b) hw3)
  have HX3 := Lib.hid (((cell2_new w (.string nm0) (.slice (some a0) lx.length cap0) 34).low (below_alloc _ (.cells #[.string ⟨#[]⟩, .slice none 0 0] 34))).low (below_alloc _ (.cells #[] 42)))
  have hR0 := (cell2_new (w.alloc (.cells #[.string nm0, .slice (some a0) lx.length cap0] 34)) (.string ⟨#[]⟩) (.slice none 0 0) 34).low (below_alloc _ (.cells #[] 42))
  rw [size_alloc] at hR0
  have HR3 := Lib.hid hR0
  have hO0 := cowns_empty ((w.alloc (.cells #[.string nm0, .slice (some a0) lx.length cap0] 34)).alloc (.cells #[.string ⟨#[]⟩, .slice none 0 0] 34))
  rw [size_alloc, size_alloc] at hO0
  have HO3 := Lib.hid hO0
  clear hR0 hO0 hw3 hC HC0 ht hlf
  have hz3 : w.heap.size + 1 + 1 ≤ (((w.alloc (.cells #[.string nm0, .slice (some a0) lx.length cap0] 34)).alloc (.cells #[.string ⟨#[]⟩, .slice none 0 0] 34)).alloc (.cells #[] 42)).heap.size := by rw [size_alloc, size_alloc, size_alloc]; omega
  have HZ3 := Lib.hid hz3
  clear hz3
  go_enter Tryd.func15, Tryd.ntmps15
  go_wp2_with (at_builtin; refine wpList_append_cols rfl (.tmp 7) (.tmp 9) rfl (w.heap.size + 1 + 1) _ 0 [] rfl HO3.out a0 lx cap0 lx.length rfl rfl HC3.out (by omega) HZ3.out ?_; intro v4 W4 hown4 hgr4; rw [Nat.zero_add, List.nil_append] at hown4; obtain ⟨hx4, g, c4, hv4, hP4⟩ := spoil_made (b := b) (W := w) HX3.out HR3.out HT3.out HS3.out hown4 hgr4 (fun k hk => (HO3.out.lt k hk).1) (Nat.lt_succ_self _) hlt (Nat.le_refl _) hn0 HSX.out; subst hv4; (have HP4 := Lib.hid hP4); clear hP4 hown4 hgr4 HC3 HT3 HS3 HX3 HR3 HO3 HZ3; obtain ⟨x4z, x40, x41, x4f⟩ := hx4)
  generalize W4.setCell _ _ = W5 at HP4 ⊢
  obtain ⟨-, x0, x1, -⟩ := HP4.out.box
  clear x4z x40 x41 x4f
  have hXb : w.heap.size ≠ b := by omega
  have hRb : w.heap.size + 1 ≠ b := by omega
  have hbR : b < w.heap.size + 1 + 1 := by omega
  go_region_held3 (fun u => u.cell? ⟨w.heap.size, 1, none⟩ = some (.slice (some ⟨g, 0, none⟩) lx.length c4) ∧ TapeAt u b ∧ SpoilAt w b w.heap.size (w.heap.size + 1) g lx.length c4 nm0 lx u)
    (first
      | exact ⟨x1, HP4.out.tape, HP4.out.drew⟩
      | with_reducible exact keepP hsq htq hXb hRb hbR (by assumption))
    (first
      | (go_at_call 22; refine (next_any b _ _ (by omega) (by omega) ?_).mono ?_; (go_split_ands; assumption); rintro e wq ⟨r, rfl, hr0, hr1, htq, hsq⟩; obtain ⟨r, rfl⟩ := Int.eq_ofNat_of_zero_le hr0))
  rename_i hHeld
  have HP := Lib.hid hHeld.2.2
  clear hHeld hsq htq x0 x1 HP4 
  have hrl : r < lx.length := by omega
  go_wp2_with fail
  refine (next_any b _ _ (by omega) (by omega) HP.out.tape).mono ?_
  rintro e w6 ⟨k, rfl, hk0, hk1, ht6, hs6⟩
  have HP6 := Lib.hid (HP.out.next hs6 ht6 hXb hRb hbR)
  clear HP ht6 hs6
  obtain ⟨-, x0, x1, xf⟩ := HP6.out.box
  obtain ⟨-, r0, r1, rf⟩ := HP6.out.res
  obtain ⟨-, hcols, hg, gf⟩ := HP6.out.cols HSX.out
  have HCO := Lib.hid hcols
  obtain ⟨gz, gs, g0, g1, g2, g3⟩ := hcols.at0 hrl
  clear hcols
  have hXR : w.heap.size < w.heap.size + 1 := Nat.lt_succ_self _
  have hbR' : b < w.heap.size + 1 := by omega
  have hXg : w.heap.size ≠ g := by omega
  have hRg : w.heap.size + 1 ≠ g := by omega
  have hk : k = 0 ∨ k = 1 ∨ k = 2 ∨ k = 3 ∨ k = 4 ∨ k = 5 := by omega
  clear hk0 hk1
  rcases hk with rfl | rfl | rfl | rfl | rfl | rfl
  · have hcat : ¬ (nm0.size + (⟨#[45]⟩ : ByteArray).size > 9223372036854775807) := by have : (⟨#[45]⟩ : ByteArray).size = 1 := rfl; omega
    have hE : EndAt w b w.heap.size (w.heap.size + 1) lx.length c4 (nm0 ++ ⟨#[45]⟩) (some ⟨g, 0, none⟩) (cAt lx) (w6.setCell ⟨w.heap.size, 0, none⟩ (.string (nm0 ++ ⟨#[45]⟩))) :=
      ⟨cell2_set0 HP6.out.box _, HP6.out.res.far (by omega) _, HCO.out.set (fun q hq => by cases hq; exact Ne.symm hXg) _, fun q hq => by cases hq; exact hg, HP6.out.tape.setCell (by exact hlt) _, HP6.out.step.set2 (Nat.le_refl _) _ _ _⟩
    have HE := Lib.hid hE
    clear hE g0 g1 g2 g3 gf
    go_wp2
    obtain ⟨s0, s1, hcf, hqf, htf, hsf⟩ := HE.out.done hbR' (Nat.le_succ _)
    have hsz : (nm0 ++ ⟨#[45]⟩ : ByteArray).size ≤ 9223372036854775807 := by rw [ByteArray.size_append]; have : (⟨#[45]⟩ : ByteArray).size = 1 := rfl; omega
    exact bodyPost_ret (v := schV (nm0 ++ ⟨#[45]⟩) (some ⟨g, 0, none⟩) lx.length c4) (by simp [results, Tryd.results15, go_sem, s0, s1, schV]) rfl ⟨_, _, _, _, _, rfl, hsz, by omega, hcf, hqf, htf, hsf⟩
  · have hE := HP6.out.endSet hg hXR hbR' (Nat.le_succ _) (HCO.out.putNm hrl ⟨#[83, 69, 76, 69, 67, 84]⟩ (by decide))
    have HE := Lib.hid hE
    clear hE g1 g2 g3
    go_wp2
    obtain ⟨s0, s1, hcf, hqf, htf, hsf⟩ := HE.out.done hbR' (Nat.le_succ _)
    exact bodyPost_ret (v := schV nm0 (some ⟨g, 0, none⟩) lx.length c4) (by simp [results, Tryd.results15, go_sem, s0, s1, schV]) rfl ⟨_, _, _, _, _, rfl, by omega, by omega, hcf, hqf, htf, hsf⟩
  · go_wp2_with fail
    refine (next_any b _ _ (by omega) (by omega) HP6.out.tape).mono ?_
    rintro e w7 ⟨q, rfl, hq0, hq1, ht7, hs7⟩
    have HP7 := Lib.hid (HP6.out.next hs7 ht7 hXb hRb hbR)
    clear HP6 ht7 hs7 x0 x1 xf r0 r1 rf gf g0 g1 g2 g3 HCO gs gz
    obtain ⟨-, x0, x1, xf⟩ := HP7.out.box
    obtain ⟨-, r0, r1, rf⟩ := HP7.out.res
    obtain ⟨-, hcols, -, gf⟩ := HP7.out.cols HSX.out
    have HCO := Lib.hid hcols
    obtain ⟨gz, gs, g0, g1, g2, g3⟩ := hcols.at0 hrl
    have hwq : IntKind.i64.wrap (4 * q) = 4 * q := i64w (by omega) (by omega)
    clear hcols g0 g2 g3
    have hE := HP7.out.endSet hg hXR hbR' (Nat.le_succ _) (HCO.out.putTy hrl (4 * q))
    have HE := Lib.hid hE
    clear hE
    go_wp2
    obtain ⟨s0, s1, hcf, hqf, htf, hsf⟩ := HE.out.done hbR' (Nat.le_succ _)
    exact bodyPost_ret (v := schV nm0 (some ⟨g, 0, none⟩) lx.length c4) (by simp [results, Tryd.results15, go_sem, s0, s1, schV]) rfl ⟨_, _, _, _, _, rfl, by omega, by omega, hcf, hqf, htf, hsf⟩
  · have hE := (HP6.out.endSet hg hXR hbR' (Nat.le_succ _) (HCO.out.putKey hrl true)).set (o := r * 4 + 2) (y := .bool (!(cAt lx r).key)) hg hXR hbR' (Nat.le_succ _) ((HCO.out.putKey hrl true).putNn hrl _)
    have HE := Lib.hid hE
    clear hE g0 g1
    go_wp2
    obtain ⟨s0, s1, hcf, hqf, htf, hsf⟩ := HE.out.done hbR' (Nat.le_succ _)
    exact bodyPost_ret (v := schV nm0 (some ⟨g, 0, none⟩) lx.length c4) (by simp [results, Tryd.results15, go_sem, s0, s1, schV]) rfl ⟨_, _, _, _, _, rfl, by omega, by omega, hcf, hqf, htf, hsf⟩
  · obtain ⟨i0, hi, hz0, hz1, hz2⟩ := info_parts info_col
    have HP7 : Hid (SpoilAt w b w.heap.size (w.heap.size + 1) g lx.length c4 nm0 lx (w6.alloc (.cells #[.string (cAt lx r).nm, .int .i64 (cAt lx r).ty, .bool (cAt lx r).nn, .bool (cAt lx r).key] 42)).drew) := Lib.hid (HP6.out.alloc _).drew
    have HNE : Hid (∀ j u, (ccells [cAt lx r])[j]? = some u → (w6.alloc (.cells #[.string (cAt lx r).nm, .int .i64 (cAt lx r).ty, .bool (cAt lx r).nn, .bool (cAt lx r).key] 42)).drew.cell? ((⟨w6.heap.size, 0, none⟩ : Addr).add j) = some u) := Lib.hid (news_of_cols (l := [cAt lx r]) (one_col w6 (cAt lx r) gs))
    have HZ : Hid (w.heap.size + 1 + 1 ≤ (w6.alloc (.cells #[.string (cAt lx r).nm, .int .i64 (cAt lx r).ty, .bool (cAt lx r).nn, .bool (cAt lx r).key] 42)).drew.heap.size) := Lib.hid (Nat.le_trans HP7.out.res.lt (Nat.le_refl _))
    have xz6 := HP6.out.box.lt
    have rz6 := HP6.out.res.lt
    clear HP6 HCO
    go_wp2_with fail
    go_region_law ((refine step_append_lies _ (by rfl) (.tmp 72) (.tmp 76) 32 (by rfl) (w.heap.size + 1 + 1) 42 i0 _ 4 32 Tryd.underlying32 hi hz0 hz1 hz2 rfl (by decide) _ lx.length (ccells lx) (by rfl) HP7.out.own ⟨w6.heap.size, 0, none⟩ 1 1 (ccells [cAt lx r]) (by rfl) rfl HNE.out (ccells_one _) (by omega) (by unfold maxLen; omega) (by omega) HZ.out _ rfl ?_); intro g9 cap9 w9 hown9 hgr9 hat9 hlt9; rw [← ccells_append] at hown9; obtain ⟨hx9, hP9⟩ := HP7.out.made hown9 hgr9 hXR hlt (Nat.le_refl _) (Nat.le_add_left _ _) (Sized.add HSX.out gs); (have HP9 := Lib.hid hP9); clear hP9 hown9 hgr9 hat9 hlt9; obtain ⟨x9z, x90, x91, x9f⟩ := hx9)
    all_goals
      clear x9z x90 x91 x9f x0 x1 xf r0 r1 rf gf gz g0 g1 g2 g3 HP7 HNE HZ xz6 rz6
      have HE := Lib.hid (HP9.out.toEnd (Sized.add HSX.out gs))
      generalize w9.setCell _ _ = W9 at HP9 HE ⊢
      obtain ⟨-, x0, x1, -⟩ := HP9.out.box
      obtain ⟨-, r0, r1, rf⟩ := HP9.out.res
      go_wp2
      obtain ⟨s0, s1, hcf, hqf, htf, hsf⟩ := HE.out.done hbR' (Nat.le_succ _)
      exact bodyPost_ret (v := schV nm0 (some ⟨g9, 0, none⟩) (lx.length + 1) cap9) (by simp [results, Tryd.results15, go_sem, s0, s1, schV]) rfl ⟨_, _, _, _, _, rfl, by omega, by omega, hcf, hqf, htf, hsf⟩
  · have hcv := two_bytes
    clear x0 x1 xf r0 r1 rf gf gz gs g0 g1 g2 g3 HCO hg hXg hRg
    go_wp2_with fail
    go_loopw [6] (fun x v => ∃ (i : Nat) (l : List Col) (g c : Nat), x = .int .i64 i ∧ i ≤ 3 ∧ l.length = lx.length + i ∧ Sized l ∧ SpoilAt w b w.heap.size (w.heap.size + 1) g l.length c nm0 l v) (fun x _ => 3 - (intOf x).toNat)
    case atStart => exact ⟨0, lx, g, c4, rfl, by omega, rfl, HSX.out, HP6.out⟩
    clear HP6
    case round =>
      obtain ⟨i, l, g9, c9, rfl, hi3, hll, hsz, hP⟩ := hrel
      have HSZ := Lib.hid hsz
      have HP := Lib.hid hP
      have HLL := Lib.hid hll
      have hl8 : l.length ≤ 8 := by omega
      have hl1 : 1 ≤ l.length := by omega
      clear hsz hP hll
      obtain ⟨xz, x0, x1, xf⟩ := HP.out.box
      obtain ⟨rz, r0, r1, rf⟩ := HP.out.res
      by_cases hlt3 : i < 3
      · have hw1 : IntKind.i64.wrap (97 + (i : Int)) = 97 + (i : Int) := i64w (by omega) (by omega)
        have hw2 : IntKind.u8.wrap (97 + (i : Int)) = 97 + (i : Int) := by rw [IntKind.wrap_u8]; omega
        have hd : decide ((i : Int) < 3) = true := decide_eq_true (by omega)
        have hcn : (strOfNums [112, 97 + (i : Int)]).size ≤ 9223372036854775807 := by rw [strOfNums_size]; exact (by decide : (2 : Nat) ≤ 9223372036854775807)
        have HP7 : Hid (SpoilAt w b w.heap.size (w.heap.size + 1) g9 l.length c9 nm0 l ((wr.alloc (.cells #[.int .u8 112, .int .u8 (97 + (i : Int))] 5)).alloc (.cells #[.string (strOfNums [112, 97 + (i : Int)]), .int .i64 1, .bool false, .bool false] 42))) := Lib.hid ((HP.out.alloc _).alloc _)
        have HSRC : Hid (ColsAt ((wr.alloc (.cells #[.int .u8 112, .int .u8 (97 + (i : Int))] 5)).alloc (.cells #[.string (strOfNums [112, 97 + (i : Int)]), .int .i64 1, .bool false, .bool false] 42)) (some ⟨wr.heap.size + 1, 0, none⟩) 1 (cAt [⟨strOfNums [112, 97 + (i : Int)], 1, false, false⟩])) := Lib.hid (by have h0 := one_col (wr.alloc (.cells #[.int .u8 112, .int .u8 (97 + (i : Int))] 5)) ⟨strOfNums [112, 97 + (i : Int)], 1, false, false⟩ hcn; rw [size_alloc] at h0; exact h0)
        have HZ : Hid (w.heap.size + 1 + 1 ≤ ((wr.alloc (.cells #[.int .u8 112, .int .u8 (97 + (i : Int))] 5)).alloc (.cells #[.string (strOfNums [112, 97 + (i : Int)]), .int .i64 1, .bool false, .bool false] 42)).heap.size) := Lib.hid HP7.out.res.lt
        go_wp2_with (at_builtin; refine wpList_append_cols rfl (.tmp 27) (.tmp 34) rfl (w.heap.size + 1 + 1) _ l.length l rfl HP7.out.own ⟨wr.heap.size + 1, 0, none⟩ [⟨strOfNums [112, 97 + (i : Int)], 1, false, false⟩] 1 1 rfl rfl HSRC.out (by simp only [List.length_singleton]; omega) HZ.out ?_; intro v8 W8 hown8 hgr8; obtain ⟨hx8, g8, c8, hv8, hP8⟩ := spoil_made HP7.out.box HP7.out.res HP7.out.tape HP7.out.step hown8 hgr8 (fun k hk => (HP7.out.own.lt k hk).1) hXR hlt (Nat.le_refl _) (by omega) (Sized.add HSZ.out hcn); subst hv8; (have HP8 := Lib.hid hP8); clear hP8 hown8 hgr8; obtain ⟨x8z, x80, x81, x8f⟩ := hx8)
        go_roundw
        case rel => exact ⟨i + 1, l ++ [⟨strOfNums [112, 97 + (i : Int)], 1, false, false⟩], g8, c8, by go_num, by omega, by simp only [List.length_append, List.length_singleton]; have := HLL.out; omega, Sized.add HSZ.out hcn, by rw [List.length_append]; exact HP8.out⟩
        case measure => simp [intOf]; omega
      · have hd : decide ((i : Int) < 3) = false := decide_eq_false (by omega)
        have HE := Lib.hid (HP.out.toEnd HSZ.out)
        go_wp2
        obtain ⟨s0, s1, hcf, hqf, htf, hsf⟩ := HE.out.done hbR' (Nat.le_succ _)
        exact bodyPost_ret (v := schV nm0 (some ⟨g9, 0, none⟩) l.length c9) (by simp [results, Tryd.results15, go_sem, s0, s1, schV]) rfl ⟨_, _, _, _, _, rfl, by omega, by omega, hcf, hqf, htf, hsf⟩
end Go.Proofs.YtgcbgojbjabhkaaDoor
