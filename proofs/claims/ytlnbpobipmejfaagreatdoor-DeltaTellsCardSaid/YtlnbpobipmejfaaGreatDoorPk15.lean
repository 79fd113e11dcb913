/-
  Several texts in one.
-/
import Derived.Test.YtlnbpobipmejfaaGreatDoorPk13
import Derived.Test.YtlnbpobipmejfaaGreatDoorPk14
import Derived.Test.YtlnbpobipmejfaaGreatDoorPk10
import Derived.Test.YtlnbpobipmejfaaGreatDoorPk11
import Derived.Test.YtlnbpobipmejfaaGreatDoorPk08
import Derived.Deep.QuietTactic
/-
  TableOf: a valid table of the world.
-/
namespace Go.Proofs.YtlnbpobipmejfaaGreatDoor
set_option maxRecDepth 100000
open Go.RowKit
variable {ls : List Nat}

theorem step_low {b : Nat} {u v : World} (h : Below u.heap.size u v) : StepT b u v := ⟨h.os, h.tape, h.output, h.size, fun k hk _ => h.block k hk⟩
/-- What TableOf keeps. -/
structure TabW (ls : List Nat) (b : Nat) (w : World) (nm : ByteArray) (a : Addr) (n cap : Nat) (f : Nat → Col) (X : Nat) (nx : Int) (vr : Value) (G : List GRow) (u : World) : Prop where
  sbox : Cell2 u w.heap.size (.string nm) (.slice (some a) n cap)
  res : Cell4 u (w.heap.size + 1) (.string ⟨#[]⟩) (.slice none 0 0) (.int .i64 0) (.slice none 0 0)
  tab : Cell4 u X (.string nm) (.slice (some a) n cap) (.int .i64 nx) vr
  cols : ColsAt u (some a) n f
  own : TOwn u (X + 1) vr G
  tape : TapeAt u b
  env : Env ls u
  step : StepT b w u
  wX : w.heap.size + 1 < X
  bw : b < w.heap.size
  ab : a.block ≠ b
  aw : a.block < w.heap.size
  gb : 2 ≤ b
section
variable {b n cap X : Nat} {w u v : World} {nm : ByteArray} {a : Addr} {f : Nat → Col} {nx : Int} {vr : Value} {G : List GRow}
theorem TabW.next (h : TabW ls b w nm a n cap f X nx vr G u) (hs : StepT b u v) (ht : TapeAt v b) : TabW ls b w nm a n cap f X nx vr G v := by
  have h1 := h.bw
  have h2 := h.wX
  exact ⟨h.sbox.step hs (by omega), h.res.step hs (by omega), h.tab.step hs (by omega), h.cols.step hs (fun q hq => by cases hq; exact h.ab), h.own.step (by omega) hs, ht, h.env.step hs h.gb, h.step.trans hs, h.wX, h.bw, h.ab, h.aw, h.gb⟩
theorem TabW.low (h : TabW ls b w nm a n cap f X nx vr G u) (hb : Below u.heap.size u v) : TabW ls b w nm a n cap f X nx vr G v :=
  h.next (step_low hb) (h.tape.keep (fun k hk => hb.block k (by have := h.tape.lt; omega)) hb.size)
theorem TabW.alloc (h : TabW ls b w nm a n cap f X nx vr G u) (o : Obj) : TabW ls b w nm a n cap f X nx vr G (u.alloc o) := h.low (below_alloc u o)
theorem TabW.setNx (h : TabW ls b w nm a n cap f X nx vr G u) (nx' : Int) : TabW ls b w nm a n cap f X nx' vr G (u.setCell ⟨X, 2, none⟩ (.int .i64 nx')) := by
  have h1 := h.bw
  have h2 := h.wX
  have h3 := h.aw
  have hk : ∀ k, k ≠ X → (u.setCell ⟨X, 2, none⟩ (.int .i64 nx')).heap[k]? = u.heap[k]? := fun k hk => Below.heap_setCell _ _ _ _ hk
  exact ⟨h.sbox.far (by omega) _, h.res.far (by omega) _, h.tab.set2 _, h.cols.set (fun q hq => by cases hq; show a.block ≠ X; omega) _, h.own.set (Nat.lt_succ_self _) _, h.tape.setCell (by show b < X; omega) _, h.env.keep (by rw [set_size]; exact Nat.le_refl _) (fun k hk' => hk k (by have := h.gb; omega)), h.step.set2 (by omega) _ _ _, h.wX, h.bw, h.ab, h.aw, h.gb⟩
theorem TabW.push {w8 : World} {v8 : Value} {g : GRow} {o : Obj} (h : TabW ls b w nm a n cap f X nx vr G u) (hz : InRow u (X + 1) (g.2.1, g.2.2))
    (ho : w8.ownsRow (X + 1) 58 2 v8 (G ++ [g]).length (tcells (G ++ [g]))) (hg : (u.alloc o).grownBy w8 vr.ownBlock) :
    Cell4 w8 X (.string nm) (.slice (some a) n cap) (.int .i64 nx) vr ∧ TabW ls b w nm a n cap f X nx v8 (G ++ [g]) (w8.setCell ⟨X, 3, none⟩ v8) := by
  have h1 := h.bw
  have h2 := h.wX
  have h3 := h.aw
  have h7 := h.alloc o
  have hk : ∀ k, vr.ownBlock = some k → X + 1 ≤ k := fun k hk => (h.own.own.lt k hk).1
  have hXs : X < (u.alloc o).heap.size := h7.tab.lt
  have hb : ∀ k, k < (u.alloc o).heap.size → k ≤ X → w8.heap[k]? = (u.alloc o).heap[k]? := fun k h1 h2 => hg.block k h1 (fun e => by have := hk k e.symm; omega)
  have hs : ∀ k, k ≠ X → (w8.setCell ⟨X, 3, none⟩ v8).heap[k]? = w8.heap[k]? := fun k hk => Below.heap_setCell _ _ _ _ hk
  have ht8 := h7.tab.grown hg (fun k hk' => by have := hk k hk'; omega)
  refine ⟨ht8, ?_⟩
  exact ⟨(h7.sbox.grown hg (fun k hk' => by have := hk k hk'; omega)).far (by omega) _, (h7.res.grown hg (fun k hk' => by have := hk k hk'; omega)).far (by omega) _, ht8.set3 _, (h7.cols.keep hg.size (fun q hq => by cases hq; exact hb _ (by omega) (by omega))).set (fun q hq => by cases hq; show a.block ≠ X; omega) _, (h.own.push hz ho hg).set (Nat.lt_succ_self _) _, (h7.tape.grown hg (fun k hk' => by have := hk k hk'; omega)).setCell (by show b < X; omega) _,
    (h7.env.keep hg.size (fun k hk' => by have := h.gb; exact hb k (by omega) (by omega))).keep (by rw [set_size]; exact Nat.le_refl _) (fun k hk' => hs k (by have := h.gb; omega)), (step_grown_from h7.step hg (fun k hk' => by have := hk k hk'; omega)).set2 (by omega) _ _ _, h.wX, h.bw, h.ab, h.aw, h.gb⟩
/-- The table is stored into the result. -/
theorem TabW.done {x y z r : Value} (h : TabW ls b w nm a n cap f X nx vr G u) :
    ColsAt ((((u.setCell ⟨w.heap.size + 1, 0, none⟩ x).setCell ⟨w.heap.size + 1, 1, none⟩ y).setCell ⟨w.heap.size + 1, 2, none⟩ z).setCell ⟨w.heap.size + 1, 3, none⟩ r) (some a) n f ∧
    TOwn ((((u.setCell ⟨w.heap.size + 1, 0, none⟩ x).setCell ⟨w.heap.size + 1, 1, none⟩ y).setCell ⟨w.heap.size + 1, 2, none⟩ z).setCell ⟨w.heap.size + 1, 3, none⟩ r) (X + 1) vr G ∧
    TapeAt ((((u.setCell ⟨w.heap.size + 1, 0, none⟩ x).setCell ⟨w.heap.size + 1, 1, none⟩ y).setCell ⟨w.heap.size + 1, 2, none⟩ z).setCell ⟨w.heap.size + 1, 3, none⟩ r) b ∧
    StepT b w ((((u.setCell ⟨w.heap.size + 1, 0, none⟩ x).setCell ⟨w.heap.size + 1, 1, none⟩ y).setCell ⟨w.heap.size + 1, 2, none⟩ z).setCell ⟨w.heap.size + 1, 3, none⟩ r) := by
  have h1 := h.bw
  have h2 := h.wX
  have h3 := h.aw
  have hp : ∀ q, some a = some q → q.block ≠ w.heap.size + 1 := fun q hq => by cases hq; omega
  refine ⟨(((h.cols.set hp _).set hp _).set hp _).set hp _, (((h.own.set (by omega) _).set (by omega) _).set (by omega) _).set (by omega) _, (((h.tape.setCell (by show b < w.heap.size + 1; omega) _).setCell (by show b < w.heap.size + 1; omega) _).setCell (by show b < w.heap.size + 1; omega) _).setCell (by show b < w.heap.size + 1; omega) _,
    (((h.step.set2 (by omega) _ _ _).set2 (by omega) _ _ _).set2 (by omega) _ _ _).set2 (by omega) _ _ _⟩
theorem keepE (hs : StepT b u v) (ht : TapeAt v b) (h : TapeAt u b ∧ ∃ nx', TabW ls b w nm a n cap f X nx' vr G u) : TapeAt v b ∧ ∃ nx', TabW ls b w nm a n cap f X nx' vr G v := by
  obtain ⟨-, nx', h⟩ := h
  exact ⟨ht, nx', h.next hs ht⟩
theorem keepEs {y : Int} (h : TapeAt u b ∧ ∃ nx', TabW ls b w nm a n cap f X nx' vr G u) : TapeAt (u.setCell ⟨X, 2, none⟩ (.int .i64 y)) b ∧ ∃ nx', TabW ls b w nm a n cap f X nx' vr G (u.setCell ⟨X, 2, none⟩ (.int .i64 y)) := by
  obtain ⟨-, nx', h⟩ := h
  exact ⟨(h.setNx y).tape, y, h.setNx y⟩
end
/-- Ahead of the table. -/
structure TabP (ls : List Nat) (b : Nat) (w : World) (nm : ByteArray) (a : Addr) (n cap : Nat) (f : Nat → Col) (u : World) : Prop where
  sbox : Cell2 u w.heap.size (.string nm) (.slice (some a) n cap)
  res : Cell4 u (w.heap.size + 1) (.string ⟨#[]⟩) (.slice none 0 0) (.int .i64 0) (.slice none 0 0)
  cols : ColsAt u (some a) n f
  tape : TapeAt u b
  env : Env ls u
  step : StepT b w u
  bw : b < w.heap.size
  ab : a.block ≠ b
  aw : a.block < w.heap.size
  gb : 2 ≤ b
theorem TabP.next {b n cap : Nat} {w u v : World} {nm : ByteArray} {a : Addr} {f : Nat → Col} (h : TabP ls b w nm a n cap f u) (hs : StepT b u v) (ht : TapeAt v b) : TabP ls b w nm a n cap f v := by
  have h1 := h.bw
  exact ⟨h.sbox.step hs (by omega), h.res.step hs (by omega), h.cols.step hs (fun q hq => by cases hq; exact h.ab), ht, h.env.step hs h.gb, h.step.trans hs, h.bw, h.ab, h.aw, h.gb⟩
abbrev tabObj (nm : ByteArray) (a : Addr) (n cap : Nat) (nx : Int) : Obj := .cells #[.string nm, .slice (some a) n cap, .int .i64 nx, .slice none 0 0] 34
abbrev zeroTabObj : Obj := .cells #[.string ⟨#[]⟩, .slice none 0 0, .int .i64 0, .slice none 0 0] 34
theorem zero_step {b : Nat} {u v : World} (hb : b < u.heap.size) (hs : StepT b (u.alloc zeroTabObj) v) : Cell4 v u.heap.size (.string ⟨#[]⟩) (.slice none 0 0) (.int .i64 0) (.slice none 0 0) := (cell4_new u _ _ _ _ _).step hs (by omega)
theorem zero_stepd {b : Nat} {u v : World} (hb : b < u.heap.size) (hs : StepT b (u.alloc zeroTabObj).drew v) : Cell4 v u.heap.size (.string ⟨#[]⟩) (.slice none 0 0) (.int .i64 0) (.slice none 0 0) := zero_step hb ((((StepT.refl b _).drewN 1).trans hs))
theorem zero_steph {b : Nat} {u v : World} (hb : b < u.heap.size) (hs : StepT b (u.drew.alloc zeroTabObj) v) : Cell4 v u.heap.size (.string ⟨#[]⟩) (.slice none 0 0) (.int .i64 0) (.slice none 0 0) := zero_step (u := u.drew) hb hs
/-- The table is made behind. -/
theorem TabP.made {b n cap : Nat} {w u : World} {nm : ByteArray} {a : Addr} {f : Nat → Col} (h : TabP ls b w nm a n cap f u) (nx : Int) : TabW ls b w nm a n cap f u.heap.size nx (.slice none 0 0) [] (u.alloc (tabObj nm a n cap nx)) := by
  have h2 := h.next ((StepT.refl b u).alloc (tabObj nm a n cap nx)) (h.tape.alloc _)
  exact ⟨h2.sbox, h2.res, cell4_new u _ _ _ _ _, h2.cols, TOwn.nil _ _, h2.tape, h2.env, h2.step, h.res.lt, h.bw, h.ab, h.aw, h.gb⟩
/-- The table was made ahead, and is filled. -/
theorem TabP.filled {b n cap Y : Nat} {w u : World} {nm : ByteArray} {a : Addr} {f : Nat → Col} {x y z r : Value} (h : TabP ls b w nm a n cap f u) (hY : w.heap.size + 1 < Y) (hc : Cell4 u Y x y z r) (nx : Int) :
    TabW ls b w nm a n cap f Y nx (.slice none 0 0) [] ((((u.setCell ⟨Y, 0, none⟩ (.string nm)).setCell ⟨Y, 1, none⟩ (.slice (some a) n cap)).setCell ⟨Y, 2, none⟩ (.int .i64 nx)).setCell ⟨Y, 3, none⟩ (.slice none 0 0)) := by
  have h1 := h.bw
  have h3 := h.aw
  have hcc := cell4_put u hc (.string nm) (.slice (some a) n cap) (.int .i64 nx) (.slice none 0 0)
  have hk : ∀ k, k ≠ Y → ((((u.setCell ⟨Y, 0, none⟩ (.string nm)).setCell ⟨Y, 1, none⟩ (.slice (some a) n cap)).setCell ⟨Y, 2, none⟩ (.int .i64 nx)).setCell ⟨Y, 3, none⟩ (.slice none 0 0)).heap[k]? = u.heap[k]? := fun k hk => by
    rw [Below.heap_setCell _ _ _ _ hk, Below.heap_setCell _ _ _ _ hk, Below.heap_setCell _ _ _ _ hk, Below.heap_setCell _ _ _ _ hk]
  exact ⟨(((h.sbox.far (by omega) _).far (by omega) _).far (by omega) _).far (by omega) _, (((h.res.far (by omega) _).far (by omega) _).far (by omega) _).far (by omega) _, hcc,
    h.cols.keep (by rw [set_size, set_size, set_size, set_size]; exact Nat.le_refl _) (fun q hq => by cases hq; exact hk _ (by omega)), TOwn.nil _ _,
    (((h.tape.setCell (by show b < Y; omega) _).setCell (by show b < Y; omega) _).setCell (by show b < Y; omega) _).setCell (by show b < Y; omega) _,
    h.env.keep (by rw [set_size, set_size, set_size, set_size]; exact Nat.le_refl _) (fun k hk' => hk k (by have := h.gb; omega)),
    (((h.step.set2 (by omega) _ _ _).set2 (by omega) _ _ _).set2 (by omega) _ _ _).set2 (by omega) _ _ _, hY, h.bw, h.ab, h.aw, h.gb⟩
theorem TabP.held {b n cap : Nat} {w u : World} {nm : ByteArray} {a : Addr} {f : Nat → Col} (h : TabP ls b w nm a n cap f u) : u.cell? ⟨w.heap.size, 0, none⟩ = some (.string nm) ∧ u.cell? ⟨w.heap.size, 1, none⟩ = some (.slice (some a) n cap) ∧ TapeAt u b ∧ TabP ls b w nm a n cap f u := ⟨h.sbox.c0, h.sbox.c1, h.tape, h⟩
section
variable {b n cap Y : Nat} {w u v : World} {nm : ByteArray} {a : Addr} {f : Nat → Col} {o : Obj} {x y z r : Value}
theorem keepP (hs : StepT b u v) (ht : TapeAt v b) (h : u.cell? ⟨w.heap.size, 0, none⟩ = some (.string nm) ∧ u.cell? ⟨w.heap.size, 1, none⟩ = some (.slice (some a) n cap) ∧ TapeAt u b ∧ TabP ls b w nm a n cap f u) : v.cell? ⟨w.heap.size, 0, none⟩ = some (.string nm) ∧ v.cell? ⟨w.heap.size, 1, none⟩ = some (.slice (some a) n cap) ∧ TapeAt v b ∧ TabP ls b w nm a n cap f v := (h.2.2.2.next hs ht).held
theorem keepPa (h : u.cell? ⟨w.heap.size, 0, none⟩ = some (.string nm) ∧ u.cell? ⟨w.heap.size, 1, none⟩ = some (.slice (some a) n cap) ∧ TapeAt u b ∧ TabP ls b w nm a n cap f u) : (u.alloc o).cell? ⟨w.heap.size, 0, none⟩ = some (.string nm) ∧ (u.alloc o).cell? ⟨w.heap.size, 1, none⟩ = some (.slice (some a) n cap) ∧ TapeAt (u.alloc o) b ∧ TabP ls b w nm a n cap f (u.alloc o) := keepP ((StepT.refl b u).alloc o) (h.2.2.1.alloc o) h
theorem keepPd (h : u.drew.cell? ⟨w.heap.size, 0, none⟩ = some (.string nm) ∧ u.drew.cell? ⟨w.heap.size, 1, none⟩ = some (.slice (some a) n cap) ∧ TapeAt u.drew b ∧ TabP ls b w nm a n cap f u.drew) : (u.alloc o).drew.cell? ⟨w.heap.size, 0, none⟩ = some (.string nm) ∧ (u.alloc o).drew.cell? ⟨w.heap.size, 1, none⟩ = some (.slice (some a) n cap) ∧ TapeAt (u.alloc o).drew b ∧ TabP ls b w nm a n cap f (u.alloc o).drew := keepPa (u := u.drew) (o := o) h
theorem TabP.but (h : TabP ls b w nm a n cap f u) (hz : u.heap.size ≤ v.heap.size) (hbl : ∀ k, k ≠ Y → v.heap[k]? = u.heap[k]?) (hos : v.os = u.os) (htp : v.tape = u.tape) (hou : v.output = u.output) (hY : w.heap.size + 1 < Y) : TabP ls b w nm a n cap f v := by
  have h1 := h.bw
  have h2 := h.aw
  have h3 := h.gb
  have hc : ∀ k, k < Y → ∀ o, v.cell? ⟨k, o, none⟩ = u.cell? ⟨k, o, none⟩ := fun k hk o => World.cell?_of_block (w := u) (hbl k (by omega))
  have hf : ∀ k, k < Y → ∀ o, v.frozen? ⟨k, o, none⟩ = u.frozen? ⟨k, o, none⟩ := fun k hk o => World.frozen?_of_block (w := u) (hbl k (by omega))
  refine ⟨⟨Nat.lt_of_lt_of_le h.sbox.lt hz, ?_, ?_, fun o => ?_⟩, ⟨Nat.lt_of_lt_of_le h.res.lt hz, ?_, ?_, ?_, ?_, fun o => ?_⟩, h.cols.keep hz (fun q hq => by cases hq; exact hbl _ (by omega)), h.tape.keep (fun k hk => hbl k (by omega)) hz, h.env.keep hz (fun k hk => hbl k (by omega)),
    ⟨hos.trans h.step.os, htp.trans h.step.tape, hou.trans h.step.output, Nat.le_trans h.step.size hz, fun k hk hkb => (hbl k (by omega)).trans (h.step.block k hk hkb)⟩, h.bw, h.ab, h.aw, h.gb⟩
  · rw [hc _ (by omega)]; exact h.sbox.c0
  · rw [hc _ (by omega)]; exact h.sbox.c1
  · rw [hf _ (by omega)]; exact h.sbox.fz o
  · rw [hc _ (by omega)]; exact h.res.c0
  · rw [hc _ (by omega)]; exact h.res.c1
  · rw [hc _ (by omega)]; exact h.res.c2
  · rw [hc _ (by omega)]; exact h.res.c3
  · rw [hf _ (by omega)]; exact h.res.fz o
theorem swapT_block (u : World) (o o' : Obj) {k : Nat} (hk : k ≠ u.heap.size) : (u.alloc o').heap[k]? = (u.alloc o).heap[k]? := by
  show (u.heap.push o')[k]? = (u.heap.push o)[k]?
  rw [Array.getElem?_push, Array.getElem?_push, if_neg hk, if_neg hk]
theorem keepPs (hz : w.heap.size + 1 < u.heap.size) (h : (u.alloc zeroTabObj).cell? ⟨w.heap.size, 0, none⟩ = some (.string nm) ∧ (u.alloc zeroTabObj).cell? ⟨w.heap.size, 1, none⟩ = some (.slice (some a) n cap) ∧ TapeAt (u.alloc zeroTabObj) b ∧ TabP ls b w nm a n cap f (u.alloc zeroTabObj)) : (u.alloc o).cell? ⟨w.heap.size, 0, none⟩ = some (.string nm) ∧ (u.alloc o).cell? ⟨w.heap.size, 1, none⟩ = some (.slice (some a) n cap) ∧ TapeAt (u.alloc o) b ∧ TabP ls b w nm a n cap f (u.alloc o) :=
  (h.2.2.2.but (Y := u.heap.size) (by rw [size_alloc, size_alloc]; exact Nat.le_refl _) (fun k hk => swapT_block u zeroTabObj o hk) rfl rfl rfl hz).held
theorem keepPz (hY : w.heap.size + 1 < Y) (h : u.cell? ⟨w.heap.size, 0, none⟩ = some (.string nm) ∧ u.cell? ⟨w.heap.size, 1, none⟩ = some (.slice (some a) n cap) ∧ TapeAt u b ∧ TabP ls b w nm a n cap f u) : ((((u.setCell ⟨Y, 0, none⟩ x).setCell ⟨Y, 1, none⟩ y).setCell ⟨Y, 2, none⟩ z).setCell ⟨Y, 3, none⟩ r).cell? ⟨w.heap.size, 0, none⟩ = some (.string nm) ∧ ((((u.setCell ⟨Y, 0, none⟩ x).setCell ⟨Y, 1, none⟩ y).setCell ⟨Y, 2, none⟩ z).setCell ⟨Y, 3, none⟩ r).cell? ⟨w.heap.size, 1, none⟩ = some (.slice (some a) n cap) ∧ TapeAt ((((u.setCell ⟨Y, 0, none⟩ x).setCell ⟨Y, 1, none⟩ y).setCell ⟨Y, 2, none⟩ z).setCell ⟨Y, 3, none⟩ r) b ∧ TabP ls b w nm a n cap f ((((u.setCell ⟨Y, 0, none⟩ x).setCell ⟨Y, 1, none⟩ y).setCell ⟨Y, 2, none⟩ z).setCell ⟨Y, 3, none⟩ r) := by
  have hk : ∀ k, k ≠ Y → ((((u.setCell ⟨Y, 0, none⟩ x).setCell ⟨Y, 1, none⟩ y).setCell ⟨Y, 2, none⟩ z).setCell ⟨Y, 3, none⟩ r).heap[k]? = u.heap[k]? := fun k hk => by
    rw [Below.heap_setCell _ _ _ _ hk, Below.heap_setCell _ _ _ _ hk, Below.heap_setCell _ _ _ _ hk, Below.heap_setCell _ _ _ _ hk]
  have hs := ((((StepT.refl Y u).setCell 0 none x).setCell 1 none y).setCell 2 none z).setCell 3 none r
  generalize (((u.setCell ⟨Y, 0, none⟩ x).setCell ⟨Y, 1, none⟩ y).setCell ⟨Y, 2, none⟩ z).setCell ⟨Y, 3, none⟩ r = v at hs hk ⊢
  exact (h.2.2.2.but (Y := Y) hs.size hk hs.os hs.tape hs.output hY).held
theorem sizeA {k : Nat} (hz : u.heap.size = k + 1 + 1) (hs : StepT b u.drew v) : k + 1 < v.heap.size := by have h := hs.size; have h2 : u.drew.heap.size = u.heap.size := rfl; omega
theorem sizeB {k : Nat} (hz : u.heap.size = k + 1 + 1) (hs : StepT b (u.alloc o) v) : k + 1 < v.heap.size := by have h := hs.size; rw [size_alloc] at h; omega
theorem sizeC {k : Nat} (hz : u.heap.size = k + 1 + 1) (hs : StepT b (u.alloc o).drew v) : k + 1 < v.heap.size := by have h := hs.size; have h2 : (u.alloc o).drew.heap.size = (u.alloc o).heap.size := rfl; rw [h2, size_alloc] at h; omega
end
theorem fitsRow_zero {f : Nat → Col} {n : Nat} {l : List Val} (h : fitsRow f n l = 0) : l.length = n := by
  by_cases hl : l.length = n
  · exact hl
  · rw [fitsRow_len hl] at h; cases h
theorem step_nx {nx ra rb : Int} (h1 : 0 ≤ nx) (h2 : nx ≤ 1000) (ha0 : 0 ≤ ra) (ha1 : ra < 2) (hb0 : 0 ≤ rb) (hb1 : rb < 2) : ∃ nx' : Int, IntKind.i64.wrap (nx + IntKind.i64.wrap (1 + IntKind.i64.wrap (ra * rb))) = nx' ∧ nx + 1 ≤ nx' ∧ nx' ≤ nx + 2 := by
  have hp : ra * rb = 0 ∨ ra * rb = 1 := by
    obtain rfl | rfl : ra = 0 ∨ ra = 1 := by omega
    · exact .inl (Int.zero_mul _)
    · rw [Int.one_mul]; omega
  rcases hp with h | h
  · rw [h, i64w (z := (0 : Int)) (by omega) (by omega), i64w (z := (1 : Int) + 0) (by omega) (by omega), i64w (by omega) (by omega)]
    exact ⟨_, rfl, by omega, by omega⟩
  · rw [h, i64w (z := (1 : Int)) (by omega) (by omega), i64w (z := (1 : Int) + 1) (by omega) (by omega), i64w (by omega) (by omega)]
    exact ⟨_, rfl, by omega, by omega⟩
theorem len_one (G : List GRow) (g : GRow) : (G ++ [g]).length = G.length + 1 := by rw [List.length_append]; rfl
def TableOfPost (b : Nat) (nm : ByteArray) (a : Addr) (n cap : Nat) (f : Nat → Col) (m : Nat) (w : World) (e : Ending) (w' : World) : Prop :=
  ∃ T : Tab, e = .returned T.v ∧ T.nm = nm ∧ T.pc = some a ∧ T.n = n ∧ T.cc = cap ∧ T.f = f ∧ T.R.length ≤ m ∧ T.valid = true ∧ (∀ v, StepT b w' v → TabAt v T) ∧ TapeAt w' b ∧ StepT b w w'
def TableOfCPost (b : Nat) (nm : ByteArray) (a : Addr) (n cap : Nat) (f : Nat → Col) (m : Nat) (w : World) (e : Ending) (w' : World) : Prop :=
  ∃ T : Tab, e = .returned T.v ∧ T.nm = nm ∧ T.pc = some a ∧ T.n = n ∧ T.cc = cap ∧ T.f = f ∧ T.R.length ≤ m ∧ T.valid = true ∧ (∀ v, StepT b w' v → TabAt v T) ∧ TapeAt w' b ∧ StepT b w w' ∧ T.R.length ≤ T.cr
set_option maxHeartbeats 4000000 in
theorem tableofc_any (b : Nat) (w : World) (h8b : 2 ≤ b) (ht : TapeAt w b) (hE : Env ls w) (hlw : 0 ∈ ls) (nm : ByteArray) (a : Addr) (n cap m : Nat) (f : Nat → Col) (hm : m ≤ 20) (hnm : nm.size ≤ 9223372036854775807) (hC : ColsAt w (some a) n f) (hab : a.block ≠ b) (haw : a.block < w.heap.size) (hok : schemaOK nm n f = true) :
    Calls Tryz.prog 6 #[.pointer (some ⟨b, 0, none⟩), schV nm (some a) n cap, .int .i64 m] w (TableOfCPost b nm a n cap f m w) := by
  unfold schV
  have hlt := ht.lt
  obtain ⟨hn1, hn6⟩ := schemaOK_range hok
  have hgood := schemaOK_good hok
  have HGOOD := Lib.hid hgood
  have HOK := Lib.hid hok
  have h1 := (StepT.refl b w).alloc (.cells #[.string nm, .slice (some a) n cap] 28)
  have hP : TabP ls b w nm a n cap f ((w.alloc (.cells #[.string nm, .slice (some a) n cap] 28)).alloc zeroTabObj) :=
    ⟨(cell2_new w (.string nm) (.slice (some a) n cap) 28).low (below_alloc _ _), (cell4_new _ _ _ _ _ _).at (size_alloc _ _), (hC.low (below_alloc _ _)).low (below_alloc _ _), (ht.alloc _).alloc _, (hE.alloc _).alloc _, h1.alloc _, hlt, hab, haw, h8b⟩
  have HP := Lib.hid hP
  have HSZ := Lib.hid (show ((w.alloc (.cells #[.string nm, .slice (some a) n cap] 28)).alloc zeroTabObj).heap.size = w.heap.size + 1 + 1 by rw [size_alloc, size_alloc])
  clear hP h1
  clear hgood hok ht hE hC
  go_enter Tryz.func6, Tryz.ntmps6
  go_wp2_with fail
  generalize (w.alloc _).alloc _ = u2 at HP HSZ ⊢
  obtain ⟨xz, x0, x1, xf⟩ := HP.out.sbox
  have hbu : b < u2.heap.size := HP.out.tape.lt
  have hbd : b < u2.drew.heap.size := hbu
  have hYu : w.heap.size + 1 < u2.heap.size := by have := HSZ.out; omega
  go_region_held3 (fun u => u.cell? ⟨w.heap.size, 0, none⟩ = some (.string nm) ∧ u.cell? ⟨w.heap.size, 1, none⟩ = some (.slice (some a) n cap) ∧ TapeAt u b ∧ TabP ls b w nm a n cap f u)
    (first
      | exact ⟨x0, x1, HP.out.tape, (HP.out.next ((StepT.refl b u2).drewN 1) HP.out.tape)⟩
      | with_reducible exact keepP hsq htq (by assumption)
      | with_reducible exact keepPa (by assumption)
      | with_reducible exact keepPd (by assumption)
      | with_reducible exact keepPs hzq (by assumption)
      | with_reducible exact keepPz hYu (by assumption))
    ((go_at_call 24; refine (next_any b _ _ (by omega) (by omega) ?_).mono ?_; (go_split_ands; assumption); rintro e wq ⟨r, rfl, hr0, hr1, htq, hsq⟩; (first | (have hzq := sizeA HSZ.out hsq) | (with_reducible have hzq := sizeB HSZ.out hsq) | (have hzq := sizeC HSZ.out hsq)); (first | (have hc3 := zero_step (u := u2) hbu hsq; obtain ⟨cz, c0, c1, c2, c3, cf⟩ := id hc3) | (have hc3 := zero_steph (u := u2) hbu hsq; obtain ⟨cz, c0, c1, c2, c3, cf⟩ := id hc3) | (have hc3 := zero_stepd (u := u2) hbu hsq; obtain ⟨cz, c0, c1, c2, c3, cf⟩ := id hc3) | skip)))
  all_goals
    rename_i hHeld
    clear hHeld
    have hw1 : IntKind.i64.wrap (1 + r) = 1 + r := i64w (by omega) (by omega)
    rw [hw1]
    clear hw1
    first
      | (have hTW := TabP.made (HP.out.next (((StepT.refl b u2).drewN 1).trans hsq) htq) (1 + r)
         clear hsq htq hzq x0 x1 xf xz hYu HSZ HP hbu hbd
         generalize wq.alloc _ = W at hTW ⊢
         generalize wq.heap.size = X at hTW ⊢)
      | (have hTW := TabP.filled (HP.out.next ((((StepT.refl b u2).drewN 1).alloc _).trans hsq) htq) hYu hc3 (1 + r)
         clear hsq htq hzq x0 x1 xf xz hYu HSZ HP hbu hbd hc3 cz c0 c1 c2 c3 cf
         generalize (((wq.setCell _ _).setCell _ _).setCell _ _).setCell _ _ = W at hTW ⊢
         generalize u2.heap.size = X at hTW ⊢)
    obtain ⟨xz, x0, x1, xf⟩ := hTW.sbox
    have HTW := Lib.hid hTW
    clear hTW
    go_wp2_with fail
    go_loopw [8, 24] (fun kv i v => ∃ d : Nat, d ≤ n ∧ i = .int .i64 d ∧ kv = .int .i64 (findKey f d) ∧ TabW ls b w nm a n cap f X (1 + r) (.slice none 0 0) [] v) (fun _ i _ => n - (intOf i).toNat)
    case atStart => exact ⟨0, Nat.zero_le _, rfl, rfl, HTW.out⟩
    clear HTW x0 x1 xf xz
    case round =>
      obtain ⟨d, hd, rfl, rfl, hw⟩ := hrel
      have HW := Lib.hid hw
      obtain ⟨xz, x0, x1, xf⟩ := hw.sbox
      by_cases hdn : d < n
      · have hdn' : decide ((d : Int) < n) = true := decide_eq_true (by omega)
        obtain ⟨c, o, hca, hc, hsz, c0, c1, c2, c3⟩ := hw.cols d hdn
        obtain rfl := Option.some.inj hca
        have hkA := findKey_add (HGOOD.out d hdn)
        have HW1 := Lib.hid (HW.out.alloc (.cells #[.string (f d).nm, .int .i64 (f d).ty, .bool (f d).nn, .bool (f d).key] 63))
        clear hw hca
        cases hk : (f d).key
        · rw [hk] at c3 hkA HW1
          have HKA := Lib.hid hkA
          clear hk hkA
          go_wp2
          go_roundw
          case rel => exact ⟨d + 1, by omega, by go_num, by rw [HKA.out]; rfl, HW1.out⟩
          case measure => simp [intOf]; omega
        · rw [hk] at c3 hkA HW1
          have HKA := Lib.hid hkA
          clear hk hkA
          go_wp2
          go_roundw
          case rel => exact ⟨d + 1, by omega, by go_num, by rw [HKA.out]; rfl, HW1.out⟩
          case measure => simp [intOf]; omega
      · obtain rfl : n = d := by omega
        have hdn' : decide ((n : Int) < n) = false := decide_eq_false (by omega)
        have hwm : IntKind.i64.wrap ((m : Int) + 1) = (m : Int) + 1 := i64w (by omega) (by omega)
        clear hw
        go_wp2_with fail
        refine (next_any b _ _ (by omega) (by omega) HW.out.tape).mono ?_
        rintro e w3 ⟨q, rfl, hq0, hq1, ht3, hs3⟩
        have HW3 := Lib.hid (HW.out.next hs3 ht3)
        have HR0 := Lib.hid (show 1 ≤ 1 + r ∧ 1 + r ≤ 3 by omega)
        obtain ⟨q', rfl⟩ : ∃ q' : Nat, q = q' := ⟨q.toNat, by omega⟩
        have hqm : q' ≤ m := by omega
        clear HW ht3 hs3 hq0 hq1 x0 x1 xf xz hwm
        generalize 1 + r = nx0 at HW3 HR0 ⊢
        obtain ⟨kk, hkk⟩ : ∃ kk, findKey f n = kk := ⟨_, rfl⟩
        rw [hkk]
        have HKK := Lib.hid hkk
        clear hkk
        go_wp2_with fail
        have HTY := Lib.hid (fun i (hi : i < n) => (HGOOD.out i hi).ty)
        go_loopw [11] (fun i v => ∃ (j c : Nat) (nx : Int) (vr : Value) (G : List GRow), i = .int .i64 c ∧ j + c ≤ m ∧ GoodT f n j nx (tabR G) ∧ TabW ls b w nm a n cap f X nx vr G v) (fun i _ => (intOf i).toNat)
        case atStart => exact ⟨0, q', nx0, _, [], rfl, by omega, GoodT.nil HR0.out.1 HR0.out.2, HW3.out⟩
        clear HW3 HR0
        case round =>
          obtain ⟨j, c, nx, vr, G, rfl, hjc, hg, hw⟩ := hrel
          have HG := Lib.hid hg
          have HW := Lib.hid hw
          obtain ⟨xz, x0, x1, xf⟩ := hw.sbox
          clear hg
          by_cases hc0 : 0 < c
          · have hc0' : decide ((0 : Int) < c) = true := decide_eq_true (by omega)
            have hawr : a.block < wr.heap.size := Nat.lt_of_lt_of_le haw hw.step.size
            have hXr : X < wr.heap.size := hw.tab.lt
            clear hw
            go_wp2_with fail
            refine (row_any b _ h8b HW.out.tape HW.out.env hlw nm a n cap f (by omega) HW.out.cols hab hawr HTY.out).mono ?_
            rintro e w4 ⟨v, l, rfl, hown, hlen, hfa, ht4, hs4⟩
            have HW4 := Lib.hid (HW.out.next hs4 ht4)
            have hfit : fitsRow f n l = 0 := fitsRow_ok hlen (fun i hi => (hfa i (by omega)).1)
            have hsz4 : ValsSized l := fun i hi => by have := (hfa i hi).2; omega
            have hin : InRow w4 (X + 1) (v, l) := ⟨owns_base hown (by omega), by show l.length * 32 ≤ _; omega⟩
            have HFIT := Lib.hid hfit
            have HSZ4 := Lib.hid hsz4
            have HIN := Lib.hid hin
            obtain ⟨hv, -, -⟩ := owned_shape hown
            clear HW hown hfa ht4 hs4 hfit hsz4 hin x0 x1 xf xz hawr hXr
            obtain ⟨pv, cv, hv2⟩ : ∃ pv cv, v = .slice pv l.length cv := ⟨_, _, hv⟩
            clear hv
            rw [hlen] at hv2
            obtain ⟨pr, cr, hvr⟩ := HW4.out.own.ex
            subst hv2 hvr
            obtain ⟨xz, x0, x1, x2, x3, xf⟩ := HW4.out.tab
            go_wp2_with fail
            have HLEN := Lib.hid (tabR_length G)
            have hG20 : G.length ≤ 20 := by have := HG.out.len; rw [tabR_length] at this; omega
            go_loopw [13, 47] (fun fv i v => ∃ d : Nat, d ≤ G.length ∧ i = .int .i64 d ∧ fv = .bool (freshB kk (tabR G) l d) ∧ TabW ls b w nm a n cap f X nx (.slice pr G.length cr) G v ∧ InRow v (X + 1) (.slice pv n cv, l)) (fun _ i _ => G.length - (intOf i).toNat)
            case atStart => exact ⟨0, Nat.zero_le _, rfl, by rw [freshB_zero], HW4.out, HIN.out⟩
            clear HW4 HIN x0 x1 x2 x3 xf xz
            case round =>
              obtain ⟨d, hd, rfl, rfl, hw, hin⟩ := hrel
              have HW := Lib.hid hw
              have HIN := Lib.hid hin
              clear hw hin
              by_cases hdg : d < G.length
              · have hdg' : decide ((d : Int) < G.length) = true := decide_eq_true (by omega)
                have hdt : d < (tabR G).length := by rw [HLEN.out]; exact hdg
                obtain ⟨c1, o1, q1, cp1, hp1, hcl1, e0, e1, hr1, -, -⟩ := HW.out.own.rows d hdt
                have hp1 : pr = some ⟨c1, o1, none⟩ := hp1
                subst hp1
                have hl1 := fitsRow_zero (HG.out.ok d hdt).2.2.2
                have hbn := below_alloc wr (.cells #[.int .i64 (tAt (tabR G) d).1, .slice q1 n cp1] 58)
                have HW1 := Lib.hid (HW.out.low hbn)
                have HIN1 := Lib.hid (HIN.out.low hbn)
                have HR1 := Lib.hid (hr1.low hbn)
                have HR2 := Lib.hid ((owned_shape HIN1.out.1).2.1)
                obtain ⟨r0, r1⟩ := row2_new wr (.int .i64 (tAt (tabR G) d).1) (.slice q1 n cp1) 58
                clear HIN hr1 hbn
                go_wp2_with fail
                clear HW e0 e1 hcl1
                generalize wr.alloc _ = W1 at HW1 HIN1 HR1 HR2 r0 r1 ⊢
                generalize wr.heap.size = X1 at r0 r1 ⊢
                cases hfr : freshB kk (tabR G) l d
                · have HF := Lib.hid (freshB_not hfr)
                  clear hfr
                  go_quiet (fail)
                  go_wp2
                  go_roundw
                  case rel => exact ⟨d + 1, by omega, by go_num, by rw [HF.out], HW1.out.low (drewN_low (Below.refl _ _) _), HIN1.out.low (drewN_low (Below.refl _ _) _)⟩
                  case measure => simp [intOf]; omega
                · by_cases hneg : kk < 0
                  · have g1 : decide (kk < 0) = true := decide_eq_true hneg
                    have HF := Lib.hid (freshB_neg (R := tabR G) (r := l) (d := d + 1) hneg)
                    clear hfr
                    go_quiet (fail)
                    go_wp2
                    go_roundw
                    case rel => exact ⟨d + 1, by omega, by go_num, by rw [HF.out], HW1.out.low (drewN_low (Below.refl _ _) _), HIN1.out.low (drewN_low (Below.refl _ _) _)⟩
                    case measure => simp [intOf]; omega
                  · obtain ⟨K, rfl⟩ : ∃ K : Nat, kk = K := ⟨kk.toNat, by omega⟩
                    have hKn : K < n := by
                      have h := findI_range (fun i => (f i).key) n
                      have h2 : findI (fun i => (f i).key) n = (K : Int) := HKK.out
                      rw [h2] at h
                      omega
                    have g1 : decide ((K : Int) < 0) = false := decide_eq_false hneg
                    have hk1 : (K : Int) < ((tAt (tabR G) d).2.length : Int) := by omega
                    have hk2 : (K : Int) < (l.length : Int) := by omega
                    have hKI : (K : Int) < (n : Int) := by omega
                    have hK1 : K < (tAt (tabR G) d).2.length := by omega
                    have hK2 : K < l.length := by omega
                    obtain ⟨c2, o2, hq1, hc2, v0, v1, v2⟩ := HR1.out K hK1
                    obtain ⟨c3, o3, hq2, hc3, u0, u1, u2⟩ := HR2.out K hK2
                    have hq2 : pv = some ⟨c3, o3, none⟩ := hq2
                    subst hq1 hq2
                    have hq := neq_val (vAt (tAt (tabR G) d).2 K).1 (vAt (tAt (tabR G) d).2 K).2.1 (vAt (tAt (tabR G) d).2 K).2.2 (vAt l K).1 (vAt l K).2.1 (vAt l K).2.2
                    cases hsame : sameV (vAt (tAt (tabR G) d).2 K).1 (vAt (tAt (tabR G) d).2 K).2.1 (vAt (tAt (tabR G) d).2 K).2.2 (vAt l K).1 (vAt l K).2.1 (vAt l K).2.2
                    · have HF := Lib.hid (freshB_miss hfr hK1 hK2 (fun e => by rw [e, sameV_iff.2 ⟨rfl, rfl, rfl⟩] at hsame; cases hsame))
                      rw [hsame] at hq
                      clear hfr
                      go_quiet (fail)
                      go_wp2
                      go_roundw
                      case rel => exact ⟨d + 1, by omega, by go_num, by rw [HF.out], HW1.out.low (drewN_low (Below.refl _ _) _), HIN1.out.low (drewN_low (Below.refl _ _) _)⟩
                      case measure => simp [intOf]; omega
                    · have HF := Lib.hid (freshB_hit (R := tabR G) (r := l) hK1 hK2 (by obtain ⟨h1, h2, h3⟩ := sameV_iff.1 hsame; exact Prod.ext h1 (Prod.ext h2 h3)))
                      rw [hsame] at hq
                      clear hfr
                      go_quiet (fail)
                      go_wp2
                      go_roundw
                      case rel => exact ⟨d + 1, by omega, by go_num, by rw [HF.out], HW1.out.low (drewN_low (Below.refl _ _) _), HIN1.out.low (drewN_low (Below.refl _ _) _)⟩
                      case measure => simp [intOf]; omega
              · obtain rfl : d = G.length := by omega
                have hdg' : decide ((G.length : Int) < G.length) = false := decide_eq_false (by omega)
                obtain ⟨xz, x0, x1, x2, x3, xf⟩ := HW.out.tab
                cases hfr : freshB kk (tabR G) l G.length
                · clear hfr HIN HFIT HSZ4
                  go_wp2_with fail
                  go_region_with (go_at_call 24; refine (next_any b _ _ (by omega) (by omega) (by first | exact hNq.tape | exact HW.out.tape)).mono ?_; (first | (have hOld := hNq; rintro e wq ⟨rb, rfl, hb0, hb1, htq, hsq⟩; have hNq := TabW.next hOld hsq htq) | (rintro e wq ⟨ra, rfl, ha0, ha1, htq, hsq⟩; have hNq := HW.out.next (((StepT.refl b _).drewN 1).trans hsq) htq)); obtain ⟨yz, y0, y1, y2, y3, yf⟩ := id hNq.tab; clear htq hsq)
                  all_goals
                    obtain ⟨nx', hnx, hn1', hn2'⟩ := step_nx (nx := nx) (by have := HG.out.lo; omega) (by have := HG.out.hi; omega) ha0 ha1 hb0 hb1
                    rw [hnx]
                    have HW5 := Lib.hid (hNq.setNx nx')
                    have HG5 := Lib.hid (HG.out.keep (nx' := nx') (by omega) hn2')
                    clear hNq hOld yz y0 y1 y2 y3 yf hnx
                    generalize World.setCell _ _ _ = W5 at HW5 ⊢
                    go_wp2
                    go_roundw
                    case rel => exact ⟨j + 1, c - 1, nx', _, G, by rw [show ((c - 1 : Nat) : Int) = (c : Int) - 1 from by omega], by omega, HG5.out, HW5.out⟩
                    case measure => simp [intOf]; omega
                · have hfr2 : freshB kk (tabR G) l (tabR G).length = true := by rw [HLEN.out]; exact hfr
                  have hadd : ∀ nx' : Int, nx + 1 ≤ nx' → nx' ≤ nx + 2 → GoodT f n (j + 1) nx' (tabR (G ++ [(nx, .slice pv n cv, l)])) := fun nx' h1 h2 => by
                    rw [tabR_append]
                    exact HG.out.add HFIT.out HSZ4.out (by rw [HKK.out]; exact freshB_all hfr2) h1 h2
                  have HG8 := Lib.hid hadd
                  clear hfr2 hadd
                  clear hfr
                  have HC := Lib.hid (cell2_new wr (.int .i64 nx) (.slice pv n cv) 58)
                  have HO2 := Lib.hid (HW.out.own.own.alloc (.cells #[.int .i64 nx, .slice pv n cv] 58))
                  go_wp2_with (at_builtin; refine wpList_append_trow rfl (.tmp 71) (.tmp 76) rfl (X + 1) (.slice pr G.length cr) G (by rfl) HO2.out wr.heap.size nx (.slice pv n cv) l (by rfl) HC.out.c0 HC.out.c1 rfl (by omega) (by rw [size_alloc]; omega) ?_; intro v8 w8 hown8 hgr8; obtain ⟨hc8, hw8⟩ := HW.out.push (g := (nx, .slice pv n cv, l)) HIN.out hown8 hgr8; (have HC8 := Lib.hid hc8); (have HW8 := Lib.hid hw8); clear hc8 hw8 hown8 hgr8 xz x0 x1 x2 x3 xf; obtain ⟨p8, c8, hv8⟩ := HW8.out.own.ex; rw [len_one] at hv8; subst hv8; obtain ⟨xz, x0, x1, x2, x3, xf⟩ := HC8.out)
                  clear xz x0 x1 x2 x3 xf HC8 HC HO2 HIN HW
                  generalize World.setCell _ _ _ = W8 at HW8 ⊢
                  obtain ⟨xz, x0, x1, x2, x3, xf⟩ := HW8.out.tab
                  go_region_with (go_at_call 24; refine (next_any b _ _ (by omega) (by omega) (by first | exact hNq.tape | exact HW8.out.tape)).mono ?_; (first | (have hOld := hNq; rintro e wq ⟨rb, rfl, hb0, hb1, htq, hsq⟩; have hNq := TabW.next hOld hsq htq) | (rintro e wq ⟨ra, rfl, ha0, ha1, htq, hsq⟩; have hNq := HW8.out.next (((StepT.refl b _).drewN 1).trans hsq) htq)); obtain ⟨yz, y0, y1, y2, y3, yf⟩ := id hNq.tab; clear htq hsq)
                  all_goals
                    obtain ⟨nx', hnx, hn1', hn2'⟩ := step_nx (nx := nx) (by have := HG.out.lo; omega) (by have := HG.out.hi; omega) ha0 ha1 hb0 hb1
                    rw [hnx]
                    have HW5 := Lib.hid (hNq.setNx nx')
                    have HG5 := Lib.hid (HG8.out nx' hn1' hn2')
                    clear hNq hOld yz y0 y1 y2 y3 yf hnx
                    generalize World.setCell _ _ _ = W5 at HW5 ⊢
                    go_wp2
                    go_roundw
                    case rel => exact ⟨j + 1, c - 1, nx', _, G ++ [(nx, .slice pv n cv, l)], by rw [show ((c - 1 : Nat) : Int) = (c : Int) - 1 from by omega], by omega, HG5.out, HW5.out⟩
                    case measure => simp [intOf]; omega
          · obtain rfl : c = 0 := by omega
            have hc0' : decide ((0 : Int) < (0 : Nat)) = false := rfl
            obtain ⟨pr, cr, hvr⟩ := HW.out.own.ex
            subst hvr
            clear hw xz x0 x1 xf
            obtain ⟨xz, x0, x1, x2, x3, xf⟩ := HW.out.tab
            obtain ⟨rz, r0, r1, r2, r3, rf⟩ := HW.out.res
            go_wp2
            obtain ⟨sz, s0, s1, s2, s3, sf⟩ := cell4_put _ HW.out.res (.string nm) (.slice (some a) n cap) (.int .i64 nx) (.slice pr G.length cr)
            have hfin := HW.out.done (x := .string nm) (y := .slice (some a) n cap) (z := .int .i64 nx) (r := .slice pr G.length cr)
            obtain ⟨T, hT⟩ : ∃ T : Tab, T = ⟨nm, some a, n, cap, f, nx, pr, cr, tabR G⟩ := ⟨_, rfl⟩
            have hTv : T.v = .agg #[.string nm, .slice (some a) n cap, .int .i64 nx, .slice pr G.length cr] := by
              rw [hT]; unfold Tab.v; dsimp only; rw [tabR_length]
            have hTl : T.R.length ≤ m := by rw [hT]; have := HG.out.len; show (tabR G).length ≤ m; omega
            have hTcap : T.R.length ≤ T.cr := by rw [hT]; show (tabR G).length ≤ cr; rw [tabR_length]; exact (owns_cap HW.out.own.own).2
            have hTval : T.valid = true := by rw [hT]; exact HG.out.valid (by omega) HOK.out
            have hTat : ∀ v, StepT b _ v → TabAt v T := fun v hs => by
              rw [hT]
              have hr : TRowsAt v pr (tabR G) := (hfin.2.1.step (by have := HW.out.wX; omega) hs).rows
              exact ⟨hnm, by show n ≤ 9223372036854775807; omega, hfin.1.step hs (fun q hq => by cases hq; exact hab), hr, by show (tabR G).length ≤ 1000; have := HG.out.len; omega, HG.out.sized, by show nx ≤ 9223372036854775807; have := HG.out.hi; omega⟩
            refine bodyPost_ret (v := .agg #[.string nm, .slice (some a) n cap, .int .i64 nx, .slice pr G.length cr]) (by simp [results, Tryz.results6, go_sem, s0, s1, s2, s3]) rfl ⟨T, by rw [hTv], ?_, ?_, ?_, ?_, ?_, hTl, hTval, hTat, hfin.2.2.1, hfin.2.2.2, hTcap⟩
            all_goals rw [hT]
theorem tableof_any (b : Nat) (w : World) (h8b : 2 ≤ b) (ht : TapeAt w b) (hE : Env ls w) (hlw : 0 ∈ ls) (nm : ByteArray) (a : Addr) (n cap m : Nat) (f : Nat → Col) (hm : m ≤ 20) (hnm : nm.size ≤ 9223372036854775807) (hC : ColsAt w (some a) n f) (hab : a.block ≠ b) (haw : a.block < w.heap.size) (hok : schemaOK nm n f = true) :
    Calls Tryz.prog 6 #[.pointer (some ⟨b, 0, none⟩), schV nm (some a) n cap, .int .i64 m] w (TableOfPost b nm a n cap f m w) :=
  (tableofc_any b w h8b ht hE hlw nm a n cap m f hm hnm hC hab haw hok).mono fun _ _ ⟨T, h1, h2, h3, h4, h5, h6, h7, h8, h9, h10, h11, _⟩ => ⟨T, h1, h2, h3, h4, h5, h6, h7, h8, h9, h10, h11⟩
end Go.Proofs.YtlnbpobipmejfaaGreatDoor
