/-
  Several texts in one.
-/
import Derived.Test.YtgaihglploedaaaDoorPk14
import Derived.Deep.RegionHeld3
/-
  AnySchema gives a valid schema.
-/
namespace Go.Proofs.YtgaihglploedaaaDoor
set_option maxRecDepth 100000
open Go.RowKit
variable {ls : List Nat}

/-- Column i of a schema whose key is column key. -/
def Shape (key : Int) (i : Nat) (c : Col) : Prop := c.nm = nameS ((3 * i + key.toNat) % 8) ∧ 1 ≤ c.ty ∧ c.ty ≤ 3 ∧ c.key = decide (key = i) ∧ (c.key = true → c.nn = true)

theorem names_ok : ∀ i : Fin 8, nameOK (nameS i) = true := by decide +kernel
theorem names_apart : ∀ i j : Fin 8, i ≠ j → eqT (nameS i) (nameS j) = false := by decide +kernel
theorem name_some (n : Nat) : nameS (n % 8) ≠ ⟨#[]⟩ := by
  have : ∀ i : Fin 8, nameS i ≠ ⟨#[]⟩ := by decide +kernel
  exact this ⟨_, Nat.mod_lt _ (by decide)⟩
theorem shape_good {key : Int} {n : Nat} (hn : n ≤ 8) {l : List Col} (hl : l.length = n) (h : ∀ i, i < n → Shape key i (cAt l i)) : ∀ i, i < n → Good (cAt l) i := by
  intro i hi
  obtain ⟨h0, h1, h2, h3, h4⟩ := h i hi
  refine ⟨colOK_yes ?_ h1 h2 ?_, fun j hj => ?_, fun hki j hj => ?_⟩
  · rw [h0]; exact names_ok ⟨_, Nat.mod_lt _ (by decide)⟩
  · cases hc : (cAt l i).key
    · exact .inr rfl
    · exact .inl (h4 hc)
  · obtain ⟨g0, -⟩ := h j (by omega)
    rw [h0, g0]
    exact names_apart ⟨_, Nat.mod_lt _ (by decide)⟩ ⟨_, Nat.mod_lt _ (by decide)⟩ (by intro e; have := Fin.mk.inj e; omega)
  · obtain ⟨-, -, -, g3, -⟩ := h j (by omega)
    rw [g3]
    rw [h3] at hki
    have := of_decide_eq_true hki
    exact decide_eq_false (by omega)
theorem shape_valid {key : Int} {nm : ByteArray} (hnm : nameOK nm = true) {n : Nat} (h1 : 1 ≤ n) (h6 : n ≤ 6) {l : List Col} (hl : l.length = n) (h : ∀ i, i < n → Shape key i (cAt l i)) : schemaOK nm n (cAt l) = true :=
  schemaOK_yes hnm h1 h6 (shape_good (by omega) hl h)

def AnyPost (b : Nat) (w : World) (e : Ending) (w' : World) : Prop := ∃ (i : Nat) (p : Option Addr) (l : List Col) (cap : Nat), e = .returned (schV (nameS i) p l.length cap) ∧ i < 8 ∧ 1 ≤ l.length ∧ l.length ≤ 5 ∧ ColsAt w' p l.length (cAt l) ∧ schemaOK (nameS i) l.length (cAt l) = true ∧ (∀ q, p = some q → w.heap.size ≤ q.block) ∧ TapeAt w' b ∧ StepT b w w'

theorem rem8 {n : Nat} {key : Int} (hk : 0 ≤ key) : ((n : Int) * 3 + key).tmod 8 = (((3 * n + key.toNat) % 8 : Nat) : Int) := by
  rw [Int.tmod_eq_emod_of_nonneg (by omega)]
  omega
/-- What a round of AnySchema leaves as it is. -/
structure RestY (b X R base : Nat) (W : World) (nm : ByteArray) (pv : Option Addr) (cv : Nat) (l : List Col) (u : World) : Prop where
  box : Cell2 u X (.string nm) (.slice pv l.length cv)
  own : u.ownsRow base 75 4 (.slice pv l.length cv) l.length (ccells l)
  res : Cell2 u R (.string ⟨#[]⟩) (.slice none 0 0)
  step : StepT b W u
  named : ∀ j, j < l.length → (cAt l j).nm ≠ ⟨#[]⟩
  none : l = [] → pv = Option.none
theorem RestY.drew {b X R base : Nat} {W u : World} {nm : ByteArray} {pv : Option Addr} {cv : Nat} {l : List Col} (h : RestY b X R base W nm pv cv l u) : RestY b X R base W nm pv cv l u.drew :=
  ⟨⟨h.box.lt, h.box.c0, h.box.c1, h.box.fz⟩, h.own, ⟨h.res.lt, h.res.c0, h.res.c1, h.res.fz⟩, h.step.drewN 1, h.named, h.none⟩
theorem keepY {b X R base q : Nat} {W u v : World} {nm : ByteArray} {pv : Option Addr} {cv : Nat} {l : List Col} (hs : StepT b u v) (ht : TapeAt v b) (h8 : 3 ≤ b) (hX : X ≠ b) (hR : R ≠ b) (hbb : b < base) (hm : 0 ∈ ls)
    (h : u.cell? ⟨X, 1, none⟩ = some (.slice pv l.length cv) ∧ u.cell? ⟨0, q, none⟩ = some (.string (nameS q)) ∧ q < 8 ∧ TapeAt u b ∧ Env ls u ∧ RestY b X R base W nm pv cv l u) :
    v.cell? ⟨X, 1, none⟩ = some (.slice pv l.length cv) ∧ v.cell? ⟨0, q, none⟩ = some (.string (nameS q)) ∧ q < 8 ∧ TapeAt v b ∧ Env ls v ∧ RestY b X R base W nm pv cv l v := by
  obtain ⟨-, -, hq, -, hE, hx, ho, hr, hS, hN, hO⟩ := h
  have hx' := hx.step hs hX
  have hE' := hE.step hs h8
  exact ⟨hx'.c1, hE'.names hm q hq, hq, ht, hE', hx', owns_step ho hbb hs, hr.step hs hR, hS.trans hs, hN, hO⟩
theorem keepYa {b X R base q : Nat} {W u : World} {nm : ByteArray} {pv : Option Addr} {cv : Nat} {l : List Col} {o : Obj} (h8 : 3 ≤ b) (hX : X ≠ b) (hR : R ≠ b) (hbb : b < base) (hm : 0 ∈ ls)
    (h : u.cell? ⟨X, 1, none⟩ = some (.slice pv l.length cv) ∧ u.cell? ⟨0, q, none⟩ = some (.string (nameS q)) ∧ q < 8 ∧ TapeAt u b ∧ Env ls u ∧ RestY b X R base W nm pv cv l u) :
    (u.alloc o).cell? ⟨X, 1, none⟩ = some (.slice pv l.length cv) ∧ (u.alloc o).cell? ⟨0, q, none⟩ = some (.string (nameS q)) ∧ q < 8 ∧ TapeAt (u.alloc o) b ∧ Env ls (u.alloc o) ∧ RestY b X R base W nm pv cv l (u.alloc o) :=
  keepY ((StepT.refl b u).alloc o) (h.2.2.2.1.alloc o) h8 hX hR hbb hm h

/-- Another thing in the newest block: all blocks but it are as they were. -/
theorem swap_block (u : World) (o o' : Obj) {k : Nat} (hk : k ≠ u.heap.size) : (u.alloc o').heap[k]? = (u.alloc o).heap[k]? := by
  show (u.heap.push o')[k]? = (u.heap.push o)[k]?
  rw [Array.getElem?_push, Array.getElem?_push, if_neg hk, if_neg hk]
theorem Cell2.swap {u : World} {X : Nat} {x y : Value} {o o' : Obj} (h : Cell2 (u.alloc o) X x y) (hX : X ≠ u.heap.size) : Cell2 (u.alloc o') X x y := by
  have hb := swap_block u o o' hX
  exact ⟨by have := h.lt; rw [size_alloc] at this ⊢; exact this, by rw [World.cell?_of_block (w := u.alloc o) hb]; exact h.c0, by rw [World.cell?_of_block (w := u.alloc o) hb]; exact h.c1, fun i => by rw [World.frozen?_of_block (w := u.alloc o) hb]; exact h.fz i⟩
abbrev zeroC : Obj := .cells #[.string ⟨#[]⟩, .int .i64 0, .bool false, .bool false] 75
theorem zero_at0 (u : World) : (u.alloc zeroC).cell? ⟨u.heap.size, 0, none⟩ = some (.string ⟨#[]⟩) := by go_simp
theorem zero_at1 (u : World) : (u.alloc zeroC).cell? ⟨u.heap.size, 1, none⟩ = some (.int .i64 0) := by go_simp
/-- The newest block, where a column is to be made, is none of the others. -/
theorem zero_apart {b X base q : Nat} {W u : World} {nm : ByteArray} {pv : Option Addr} {cv : Nat} {l : List Col}
    (h : (u.alloc zeroC).cell? ⟨X, 1, none⟩ = some (.slice pv l.length cv) ∧ (u.alloc zeroC).cell? ⟨0, q, none⟩ = some (.string (nameS q)) ∧ q < 8 ∧ TapeAt (u.alloc zeroC) b ∧ Env ls (u.alloc zeroC) ∧ RestY b X W.heap.size base W nm pv cv l (u.alloc zeroC)) :
    b < u.heap.size ∧ X ≠ u.heap.size ∧ W.heap.size < u.heap.size ∧ ∀ a, pv = some a → a.block ≠ u.heap.size := by
  obtain ⟨-, -, hq, ht, hE, hx, ho, hr, hS, hN, hO⟩ := h
  have z0 := zero_at0 u
  have z1 := zero_at1 u
  have hX : X ≠ u.heap.size := by
    rintro rfl
    have := hx.c1
    rw [z1] at this; cases this
  have hR : W.heap.size ≠ u.heap.size := by
    intro e
    have := hr.c1
    rw [e, z1] at this; cases this
  have hRl : W.heap.size < u.heap.size := by have := hr.lt; rw [size_alloc] at this; omega
  have hb : b ≠ u.heap.size := by
    rintro rfl
    obtain ⟨p, len, cap, k, -, -, h0, -⟩ := ht
    rw [z0] at h0; cases h0
  have hbl : b < u.heap.size := by have := ht.lt; rw [size_alloc] at this; omega
  refine ⟨hbl, hX, hRl, fun a ha => ?_⟩
  by_cases hl : l = []
  · rw [hO hl] at ha; cases ha
  · have hpos : 0 < l.length := List.length_pos_iff.2 hl
    rcases ho.2 with ⟨h1, h2⟩ | ⟨g, cap, cur, h1, h2, h3, h4⟩
    · omega
    · subst ha
      injection h1 with h1 _ _
      obtain rfl := Option.some.inj h1
      rintro he
      simp only at he
      subst he
      have hc : cur.toList[0]? = some (.string (cAt l 0).nm) := by
        have h5 := (ccells_at l 0 hpos).1
        rw [← h4.2.2.2] at h5
        rw [List.getElem?_take, if_pos (by omega)] at h5
        simpa using h5
      have : (u.alloc zeroC).cell? ⟨u.heap.size, 0, none⟩ = some (.string (cAt l 0).nm) := by
        simp only [World.cell?, h3]
        simpa using hc
      rw [z0] at this
      exact hN 0 hpos (by injection this with e; injection e with e; exact e.symm)
/-- All but the newest block stays. -/
theorem keepBut {b X base q Y : Nat} {W u v : World} {nm : ByteArray} {pv : Option Addr} {cv : Nat} {l : List Col} (h8 : 3 ≤ b) (hm : 0 ∈ ls) (hz : u.heap.size ≤ v.heap.size) (hbl : ∀ k, k ≠ Y → v.heap[k]? = u.heap[k]?) (hos : v.os = u.os) (htp : v.tape = u.tape) (hou : v.output = u.output)
    (hb : b < Y) (hX : X ≠ Y) (hR : W.heap.size < Y) (hg : ∀ a, pv = some a → a.block ≠ Y)
    (h : u.cell? ⟨X, 1, none⟩ = some (.slice pv l.length cv) ∧ u.cell? ⟨0, q, none⟩ = some (.string (nameS q)) ∧ q < 8 ∧ TapeAt u b ∧ Env ls u ∧ RestY b X W.heap.size base W nm pv cv l u) :
    v.cell? ⟨X, 1, none⟩ = some (.slice pv l.length cv) ∧ v.cell? ⟨0, q, none⟩ = some (.string (nameS q)) ∧ q < 8 ∧ TapeAt v b ∧ Env ls v ∧ RestY b X W.heap.size base W nm pv cv l v := by
  obtain ⟨-, -, hq, ht, hE, hx, ho, hr, hS, hN, hO⟩ := h
  have hc2 : ∀ {Z : Nat} {x y : Value}, Cell2 u Z x y → Z ≠ Y → Cell2 v Z x y := fun {Z x y} hc hZ => by
    have hk := hbl Z hZ
    exact ⟨Nat.lt_of_lt_of_le hc.lt hz, by rw [World.cell?_of_block (w := u) hk]; exact hc.c0, by rw [World.cell?_of_block (w := u) hk]; exact hc.c1, fun i => by rw [World.frozen?_of_block (w := u) hk]; exact hc.fz i⟩
  have hx' := hc2 hx hX
  have hE' : Env ls v := hE.keep hz (fun k hk => hbl k (by omega))
  have ho' : v.ownsRow base 75 4 (.slice pv l.length cv) l.length (ccells l) := by
    refine ⟨ho.1, ?_⟩
    rcases ho.2 with h1 | ⟨g, cap, cur, h1, h2, h3, h4⟩
    · exact .inl h1
    · refine .inr ⟨g, cap, cur, h1, h2, ?_, h4⟩
      rw [hbl g (by injection h1 with h1 _ _; exact hg _ h1)]
      exact h3
  exact ⟨hx'.c1, hE'.names hm q hq, hq, ht.keep (fun k hk => hbl k (by omega)) hz, hE', hx', ho', hc2 hr (by omega),
    ⟨hos.trans hS.os, htp.trans hS.tape, hou.trans hS.output, Nat.le_trans hS.size hz, fun k hk hkb => (hbl k (by omega)).trans (hS.block k hk hkb)⟩, hN, hO⟩
theorem keepYs {b X base q : Nat} {W u : World} {nm : ByteArray} {pv : Option Addr} {cv : Nat} {l : List Col} {o : Obj} (h8 : 3 ≤ b) (hm : 0 ∈ ls)
    (h : (u.alloc zeroC).cell? ⟨X, 1, none⟩ = some (.slice pv l.length cv) ∧ (u.alloc zeroC).cell? ⟨0, q, none⟩ = some (.string (nameS q)) ∧ q < 8 ∧ TapeAt (u.alloc zeroC) b ∧ Env ls (u.alloc zeroC) ∧ RestY b X W.heap.size base W nm pv cv l (u.alloc zeroC)) :
    (u.alloc o).cell? ⟨X, 1, none⟩ = some (.slice pv l.length cv) ∧ (u.alloc o).cell? ⟨0, q, none⟩ = some (.string (nameS q)) ∧ q < 8 ∧ TapeAt (u.alloc o) b ∧ Env ls (u.alloc o) ∧ RestY b X W.heap.size base W nm pv cv l (u.alloc o) := by
  obtain ⟨h1, h2, h3, h4⟩ := zero_apart h
  exact keepBut (u := u.alloc zeroC) (v := u.alloc o) h8 hm (by rw [size_alloc, size_alloc]; exact Nat.le_refl _) (fun k hk => swap_block u zeroC o hk) rfl rfl rfl h1 h2 h3 h4 h
/-- A column is to be made at Y. -/
structure ZeroY (W : World) (b X : Nat) (pv : Option Addr) (Y : Nat) (u : World) : Prop where
  cell : Cell4 u Y (.string ⟨#[]⟩) (.int .i64 0) (.bool false) (.bool false)
  bY : b < Y
  XY : X ≠ Y
  WY : W.heap.size < Y
  gY : ∀ a, pv = some a → a.block ≠ Y
theorem zero_new {b X base q : Nat} {W u v : World} {nm : ByteArray} {pv : Option Addr} {cv : Nat} {l : List Col}
    (h : (u.alloc zeroC).cell? ⟨X, 1, none⟩ = some (.slice pv l.length cv) ∧ (u.alloc zeroC).cell? ⟨0, q, none⟩ = some (.string (nameS q)) ∧ q < 8 ∧ TapeAt (u.alloc zeroC) b ∧ Env ls (u.alloc zeroC) ∧ RestY b X W.heap.size base W nm pv cv l (u.alloc zeroC)) (hs : StepT b (u.alloc zeroC) v) : ZeroY W b X pv u.heap.size v := by
  obtain ⟨h1, h2, h3, h4⟩ := zero_apart h
  exact ⟨(cell4_new u _ _ _ _ 75).step hs (by omega), h1, h2, h3, h4⟩
theorem ZeroY.step {W u v : World} {b X Y : Nat} {pv : Option Addr} (h : ZeroY W b X pv Y u) (hs : StepT b u v) : ZeroY W b X pv Y v := ⟨h.cell.step hs (by have := h.bY; omega), h.bY, h.XY, h.WY, h.gY⟩
theorem keepYz {b X base q Y : Nat} {W u : World} {nm : ByteArray} {pv : Option Addr} {cv : Nat} {l : List Col} {x y z r : Value} (h8 : 3 ≤ b) (hm : 0 ∈ ls) (hZ : ZeroY W b X pv Y u)
    (h : u.cell? ⟨X, 1, none⟩ = some (.slice pv l.length cv) ∧ u.cell? ⟨0, q, none⟩ = some (.string (nameS q)) ∧ q < 8 ∧ TapeAt u b ∧ Env ls u ∧ RestY b X W.heap.size base W nm pv cv l u) :
    ((((u.setCell ⟨Y, 0, none⟩ x).setCell ⟨Y, 1, none⟩ y).setCell ⟨Y, 2, none⟩ z).setCell ⟨Y, 3, none⟩ r).cell? ⟨X, 1, none⟩ = some (.slice pv l.length cv) ∧ ((((u.setCell ⟨Y, 0, none⟩ x).setCell ⟨Y, 1, none⟩ y).setCell ⟨Y, 2, none⟩ z).setCell ⟨Y, 3, none⟩ r).cell? ⟨0, q, none⟩ = some (.string (nameS q)) ∧ q < 8 ∧ TapeAt ((((u.setCell ⟨Y, 0, none⟩ x).setCell ⟨Y, 1, none⟩ y).setCell ⟨Y, 2, none⟩ z).setCell ⟨Y, 3, none⟩ r) b ∧ Env ls ((((u.setCell ⟨Y, 0, none⟩ x).setCell ⟨Y, 1, none⟩ y).setCell ⟨Y, 2, none⟩ z).setCell ⟨Y, 3, none⟩ r) ∧ RestY b X W.heap.size base W nm pv cv l ((((u.setCell ⟨Y, 0, none⟩ x).setCell ⟨Y, 1, none⟩ y).setCell ⟨Y, 2, none⟩ z).setCell ⟨Y, 3, none⟩ r) := by
  have hk : ∀ k, k ≠ Y → ((((u.setCell ⟨Y, 0, none⟩ x).setCell ⟨Y, 1, none⟩ y).setCell ⟨Y, 2, none⟩ z).setCell ⟨Y, 3, none⟩ r).heap[k]? = u.heap[k]? := fun k hk => by
    rw [Below.heap_setCell _ _ _ _ hk, Below.heap_setCell _ _ _ _ hk, Below.heap_setCell _ _ _ _ hk, Below.heap_setCell _ _ _ _ hk]
  have hs := ((((StepT.refl Y u).setCell 0 none x).setCell 1 none y).setCell 2 none z).setCell 3 none r
  generalize (((u.setCell ⟨Y, 0, none⟩ x).setCell ⟨Y, 1, none⟩ y).setCell ⟨Y, 2, none⟩ z).setCell ⟨Y, 3, none⟩ r = v at hs hk ⊢
  exact keepBut h8 hm hs.size hk hs.os hs.tape hs.output hZ.bY hZ.XY hZ.WY hZ.gY h

theorem zero_newd {b X base q : Nat} {W u v : World} {nm : ByteArray} {pv : Option Addr} {cv : Nat} {l : List Col}
    (h : (u.alloc zeroC).drew.cell? ⟨X, 1, none⟩ = some (.slice pv l.length cv) ∧ (u.alloc zeroC).drew.cell? ⟨0, q, none⟩ = some (.string (nameS q)) ∧ q < 8 ∧ TapeAt (u.alloc zeroC).drew b ∧ Env ls (u.alloc zeroC).drew ∧ RestY b X W.heap.size base W nm pv cv l (u.alloc zeroC).drew) (hs : StepT b (u.alloc zeroC).drew v) : ZeroY W b X pv u.heap.size v := zero_new (u := u.drew) h hs
theorem keepYd {b X R base q : Nat} {W u : World} {nm : ByteArray} {pv : Option Addr} {cv : Nat} {l : List Col} {o : Obj} (h8 : 3 ≤ b) (hX : X ≠ b) (hR : R ≠ b) (hbb : b < base) (hm : 0 ∈ ls)
    (h : u.drew.cell? ⟨X, 1, none⟩ = some (.slice pv l.length cv) ∧ u.drew.cell? ⟨0, q, none⟩ = some (.string (nameS q)) ∧ q < 8 ∧ TapeAt u.drew b ∧ Env ls u.drew ∧ RestY b X R base W nm pv cv l u.drew) :
    (u.alloc o).drew.cell? ⟨X, 1, none⟩ = some (.slice pv l.length cv) ∧ (u.alloc o).drew.cell? ⟨0, q, none⟩ = some (.string (nameS q)) ∧ q < 8 ∧ TapeAt (u.alloc o).drew b ∧ Env ls (u.alloc o).drew ∧ RestY b X R base W nm pv cv l (u.alloc o).drew := keepYa (u := u.drew) (o := o) h8 hX hR hbb hm h

theorem cell4_set {u : World} {Y : Nat} {a b c d : Value} (h : Cell4 u Y a b c d) (x y z r : Value) : Cell4 ((((u.setCell ⟨Y, 0, none⟩ x).setCell ⟨Y, 1, none⟩ y).setCell ⟨Y, 2, none⟩ z).setCell ⟨Y, 3, none⟩ r) Y x y z r := by
  obtain ⟨hl, c0, c1, c2, c3, fz⟩ := h
  refine ⟨by simpa [World.setCell] using hl, ?_, ?_, ?_, ?_, fun o => ?_⟩
  · go_simp
  · go_simp
  · go_simp
  · go_simp
  · rw [World.frozen?_setCell, World.frozen?_setCell, World.frozen?_setCell, World.frozen?_setCell]; exact fz o
/-- A new column lies apart from the rest. -/
theorem fill_apart {b X R base Y : Nat} {W u : World} {nm z : ByteArray} {pv : Option Addr} {cv : Nat} {l : List Col} {ty : Int} {nn key : Bool} (ht : TapeAt u b) (h : RestY b X R base W nm pv cv l u) (hc : Cell4 u Y (.string z) (.int .i64 ty) (.bool nn) (.bool key)) (hz : ∀ j, j < l.length → (cAt l j).nm ≠ z) :
    X ≠ Y ∧ R ≠ Y ∧ b ≠ Y ∧ ∀ k, (Value.slice pv l.length cv).ownBlock = some k → k ≠ Y := by
  refine ⟨?_, ?_, ?_, fun k hk => ?_⟩
  · rintro rfl
    have := h.box.c1
    rw [hc.c1] at this; cases this
  · rintro rfl
    have := h.res.c1
    rw [hc.c1] at this; cases this
  · rintro rfl
    obtain ⟨p, len, cap, k, -, -, h0, -⟩ := ht
    rw [hc.c0] at h0; cases h0
  · rintro rfl
    by_cases hl : l = []
    · rw [h.none hl] at hk; cases hk
    · have hpos : 0 < l.length := List.length_pos_iff.2 hl
      rcases h.own.2 with ⟨h1, h2⟩ | ⟨g, cap, cur, h1, h2, h3, h4⟩
      · omega
      · rw [h1] at hk
        obtain rfl := Option.some.inj hk
        have hcc : cur.toList[0]? = some (.string (cAt l 0).nm) := by
          have h5 := (ccells_at l 0 hpos).1
          rw [← h4.2.2.2] at h5
          rw [List.getElem?_take, if_pos (by omega)] at h5
          simpa using h5
        have : u.cell? ⟨g, 0, none⟩ = some (.string (cAt l 0).nm) := by
          simp only [World.cell?, h3]
          simpa using hcc
        rw [hc.c0] at this
        exact hz 0 hpos (by injection this with e; injection e with e; exact e.symm)
theorem nameS_ne {i j : Nat} (h : i % 8 ≠ j % 8) : nameS (i % 8) ≠ nameS (j % 8) := by
  have := names_apart ⟨i % 8, Nat.mod_lt _ (by decide)⟩ ⟨j % 8, Nat.mod_lt _ (by decide)⟩ (by intro e; exact h (Fin.mk.inj e))
  intro e
  rw [e, eqT_self] at this
  cases this
theorem one_col (u : World) (c : Col) (hc : c.nm.size ≤ 9223372036854775807) : ColsAt (u.alloc (.cells #[.string c.nm, .int .i64 c.ty, .bool c.nn, .bool c.key] 75)) (some ⟨u.heap.size, 0, none⟩) 1 (cAt [c]) := by
  intro i hi
  obtain rfl : i = 0 := by omega
  obtain ⟨h0, h1, h2, h3, h4⟩ := ColBox.new u c 75
  exact ⟨u.heap.size, 0, rfl, h0, hc, h1, h2, h3, h4⟩

theorem cell2_set1 {u : World} {X : Nat} {a b : Value} (h : Cell2 u X a b) (y : Value) : Cell2 (u.setCell ⟨X, 1, none⟩ y) X a y := by
  obtain ⟨hl, c0, c1, fz⟩ := h
  refine ⟨by simpa [World.setCell] using hl, ?_, ?_, fun o => ?_⟩
  · go_simp
  · go_simp
  · rw [World.frozen?_setCell]; exact fz o
theorem name_small (i : Nat) : (nameS i).size ≤ 9223372036854775807 := by
  have h8 : ∀ i : Fin 8, (nameS i).size ≤ 9223372036854775807 := by decide +kernel
  by_cases hi : i < 8
  · exact h8 ⟨i, hi⟩
  · have : nameS i = ⟨#[]⟩ := by unfold nameS nameL; rw [List.getD, List.getElem?_eq_none (by simpa using hi)]; rfl
    rw [this]; decide
theorem set_own {u : World} {base n size Y : Nat} {e : TypeId} {v : Value} {xs : List Value} (h : u.ownsRow base e size v n xs) (hY : ∀ k, v.ownBlock = some k → k ≠ Y) (o : Nat) (y : Value) : (u.setCell ⟨Y, o, none⟩ y).ownsRow base e size v n xs :=
  owns_keep h fun k hk => Below.heap_setCell _ _ _ _ (hY k hk)
/-- What the loop of AnySchema keeps. -/
structure LoopY (b X : Nat) (W : World) (nm : ByteArray) (pv : Option Addr) (cv : Nat) (l : List Col) (u : World) : Prop where
  box : Cell2 u X (.string nm) (.slice pv l.length cv)
  own : u.ownsRow (X + 1) 75 4 (.slice pv l.length cv) l.length (ccells l)
  res : Cell2 u W.heap.size (.string ⟨#[]⟩) (.slice none 0 0)
  tape : TapeAt u b
  step : StepT b W u
theorem LoopY.alloc {b X : Nat} {W u : World} {nm : ByteArray} {pv : Option Addr} {cv : Nat} {l : List Col} (h : LoopY b X W nm pv cv l u) (o : Obj) : LoopY b X W nm pv cv l (u.alloc o) :=
  ⟨h.box.low (below_alloc _ _), h.own.alloc o, h.res.low (below_alloc _ _), h.tape.alloc o, h.step.alloc o⟩
theorem LoopY.set {b X Y : Nat} {W u : World} {nm : ByteArray} {pv : Option Addr} {cv : Nat} {l : List Col} (h : LoopY b X W nm pv cv l u) (hb : b < Y) (hX : X ≠ Y) (hW : W.heap.size < Y) (hg : ∀ k, (Value.slice pv l.length cv).ownBlock = some k → k ≠ Y) (o : Nat) (y : Value) : LoopY b X W nm pv cv l (u.setCell ⟨Y, o, none⟩ y) :=
  ⟨h.box.far hX _, owns_keep h.own fun k hk => Below.heap_setCell _ _ _ _ (hg k hk), h.res.far (by omega) _, h.tape.setCell (by exact hb) _, h.step.set2 (by omega) _ _ _⟩
/-- The loop goes on with one column more. -/
theorem LoopY.next {b X : Nat} {W u v : World} {nm : ByteArray} {pv : Option Addr} {cv : Nat} {l : List Col} {c : Col} {v8 : Value} (h : LoopY b X W nm pv cv l u) (hbX : b < X) (hWX : W.heap.size < X) (hs : Sized (l ++ [c]))
    (ho : v.ownsRow (X + 1) 75 4 v8 (l.length + [c].length) (ccells (l ++ [c]))) (hg : u.grownBy v (Value.slice pv l.length cv).ownBlock) :
    Cell2 v X (.string nm) (.slice pv l.length cv) ∧ ∃ p8 c8, v8 = .slice p8 (l.length + [c].length) c8 ∧ LoopY b X W nm p8 c8 (l ++ [c]) (v.setCell ⟨X, 1, none⟩ v8) := by
  have hk : ∀ k, (Value.slice pv l.length cv).ownBlock = some k → X + 1 ≤ k := fun k hk => (h.own.lt k hk).1
  have hb := h.box.grown hg (fun k hk' => by have := hk k hk'; omega)
  obtain ⟨p8, c8, rfl, -, -, -⟩ := cols_of_owns ho hs
  refine ⟨hb, p8, c8, rfl, ?_⟩
  have hr := h.res.grown hg (fun k hk' => by have := hk k hk'; omega)
  have ht := h.tape.grown hg (fun k hk' => by have := hk k hk'; omega)
  have hst := step_grown_from h.step hg (fun k hk' => by have := hk k hk'; omega)
  have hl : (l ++ [c]).length = l.length + [c].length := List.length_append
  refine ⟨?_, ?_, hr.far (by omega) _, ht.setCell (by exact hbX) _, hst.set2 (by omega) _ _ _⟩
  · rw [hl]; exact cell2_set1 hb _
  · rw [hl]; exact owns_keep ho fun k hk' => Below.heap_setCell _ _ _ _ (by have := (ho.lt k hk').1; show k ≠ X; omega)

set_option maxRecDepth 100000 in
set_option maxHeartbeats 4000000 in
theorem anyschema_any (b : Nat) (w : World) (h8b : 3 ≤ b) (ht : TapeAt w b) (hE : Env ls w) (hm : 0 ∈ ls) :
    Calls Tryd.prog 13 #[.pointer (some ⟨b, 0, none⟩)] w (AnyPost b w) := by
  have hlt := ht.lt
  have HE := Lib.hid hE
  clear hE
  have HR := Lib.hid (cell2_new w (.string ⟨#[]⟩) (.slice none 0 0) 24)
  go_enter Tryd.func13, Tryd.ntmps13
  go_wp2_with fail
  refine (name_any b _ h8b (ht.alloc _) (HE.out.alloc _) hm).mono ?_
  rintro e w1 ⟨i, rfl, hi, ht1, hs1⟩
  have hRb : w.heap.size ≠ b := by omega
  have HR1 := Lib.hid (HR.out.step hs1 hRb)
  have HS1 := Lib.hid (((StepT.refl b w).alloc (.cells #[.string ⟨#[]⟩, .slice none 0 0] 24)).trans hs1)
  have hwX : w.heap.size < w1.heap.size := HR1.out.lt
  have HT1 := Lib.hid ht1
  have hXb : w1.heap.size ≠ b := by omega
  have HX1 := Lib.hid (cell2_new w1 (.string (nameS i)) (.slice none 0 0) 24)
  clear ht HR hs1 ht1
  go_wp2_with fail
  refine (next_any b _ _ (by omega) (by omega) (HT1.out.alloc _)).mono ?_
  rintro e w2 ⟨key, rfl, hk0, hk1, ht2, hs2⟩
  have HX2 := Lib.hid (HX1.out.step hs2 hXb)
  have HR2 := Lib.hid ((HR1.out.low (below_alloc _ _)).step hs2 hRb)
  have HS2 := Lib.hid ((HS1.out.alloc _).trans hs2)
  clear HX1 HR1 HS1 HT1 hs2
  go_wp2_with fail
  refine (next_any b _ _ (by omega) (by omega) ht2).mono ?_
  rintro e w3 ⟨r, rfl, hr0, hr1, ht3, hs3⟩
  have HX3 := Lib.hid (HX2.out.step hs3 hXb)
  have HR3 := Lib.hid (HR2.out.step hs3 hRb)
  have HS3 := Lib.hid (HS2.out.trans hs3)
  clear HX2 HR2 HS2 ht2 hs3
  obtain ⟨r, rfl⟩ := Int.eq_ofNat_of_zero_le hr0
  have hX0 : w1.heap.size < w3.heap.size := HX3.out.lt
  have HO3 := Lib.hid (World.ownsRow_nil w3 (w1.heap.size + 1) 75 4)
  have HT3 := Lib.hid ht3
  generalize hX : w1.heap.size = X at *
  clear ht3
  go_wp2
  go_loopw [5] (fun x v => ∃ (c : Nat) (l : List Col) (pv : Option Addr) (cv : Nat), x = .int .i64 c ∧ c + l.length = r + 1 ∧ (∀ j, j < l.length → Shape key j (cAt l j)) ∧ Cell2 v X (.string (nameS i)) (.slice pv l.length cv) ∧ v.ownsRow (X + 1) 75 4 (.slice pv l.length cv) l.length (ccells l) ∧ Cell2 v w.heap.size (.string ⟨#[]⟩) (.slice none 0 0) ∧ (l = [] → pv = none) ∧ TapeAt v b ∧ StepT b w v) (fun x _ => (intOf x).toNat)
  case atStart => exact ⟨r + 1, [], none, 0, by go_num, by simp, fun j hj => by simp at hj, HX3.out, HO3.out, HR3.out, fun _ => rfl, HT3.out, HS3.out⟩
  clear HX3 HO3 HR3 HS3 HT3
  case round =>
    obtain ⟨c, l, pv, cv, rfl, hc, hsh, hx, ho, hr, hno, ht, hs⟩ := hrel
    have HNO := Lib.hid hno
    have HNM : Hid (∀ j, j < l.length → (cAt l j).nm ≠ ⟨#[]⟩) := Lib.hid fun j hj => by rw [(hsh j hj).1]; exact name_some _
    have HSH := Lib.hid hsh
    have HX := Lib.hid hx
    have HO := Lib.hid ho
    have HR := Lib.hid hr
    have HT := Lib.hid ht
    have HS := Lib.hid hs
    clear hsh ho hr ht hs hno
    obtain ⟨xz, x0, x1, xf⟩ := hx
    by_cases hcz : 0 < c
    · obtain ⟨d, rfl⟩ : ∃ d, c = d + 1 := ⟨c - 1, by omega⟩
      have hcz' : decide ((0 : Int) < ((d + 1 : Nat) : Int)) = true := decide_eq_true (by omega)
      have hlen : l.length ≤ 4 := by omega
      have hq8 : (3 * l.length + key.toNat) % 8 < 8 := Nat.mod_lt _ (by decide)
      have hw1 : IntKind.i64.wrap ((l.length : Int) * 3) = (l.length : Int) * 3 := i64w (by omega) (by omega)
      have hw2 : IntKind.i64.wrap ((l.length : Int) * 3 + key) = (l.length : Int) * 3 + key := i64w (by omega) (by omega)
      have hw3 := rem8 (n := l.length) hk0
      have HE' : Hid (Env ls wr) := Lib.hid (HE.out.step HS.out h8b)
      have hnm := HE'.out.names hm _ hq8
      have hqI : (0 : Int) ≤ (((3 * l.length + key.toNat) % 8 : Nat) : Int) := Int.natCast_nonneg _
      have hqJ : (((3 * l.length + key.toNat) % 8 : Nat) : Int) < 8 := by omega
      have HQ := Lib.hid (rfl : (3 * l.length + key.toNat) % 8 = (3 * l.length + key.toNat) % 8)
      generalize hqe : (3 * l.length + key.toNat) % 8 = q at hq8 hw3 hnm hqI hqJ
      clear HQ
      have hbX : b < X + 1 := by omega
      have hXb : X ≠ b := by omega
      go_wp2_with fail
      go_region_held3 (fun u => u.cell? ⟨X, 1, none⟩ = some (.slice pv l.length cv) ∧ u.cell? ⟨0, q, none⟩ = some (.string (nameS q)) ∧ q < 8 ∧ TapeAt u b ∧ Env ls u ∧ RestY b X w.heap.size (X + 1) w (nameS i) pv cv l u)
        (first
          | exact ⟨x1, hnm, hq8, HT.out, HE'.out.drew, (RestY.mk HX.out HO.out HR.out HS.out HNM.out HNO.out).drew⟩
          | with_reducible exact keepY hsq htq h8b hXb hRb hbX hm (by assumption)
          | with_reducible exact keepYa h8b hXb hRb hbX hm (by assumption)
          | with_reducible exact keepYd h8b hXb hRb hbX hm (by assumption)
          | with_reducible exact keepYs h8b hm (by assumption)
          | with_reducible exact keepYz h8b hm hZq (by assumption))
        (first
          | (go_at_call 17; refine (next_any b _ _ (by omega) (by omega) ?_).mono ?_; (go_split_ands; assumption); rintro e wq ⟨ty, rfl, hty0, hty1, htq, hsq⟩; first | (with_reducible have hZq := zero_new (by assumption) hsq; obtain ⟨yz, y0, y1, y2, y3, yf⟩ := hZq.cell) | (with_reducible have hZq := zero_newd (by assumption) hsq; obtain ⟨yz, y0, y1, y2, y3, yf⟩ := hZq.cell) | (with_reducible have hZq := ZeroY.step hZq hsq; obtain ⟨yz, y0, y1, y2, y3, yf⟩ := hZq.cell) | skip)
          | (go_at_call 54; refine (tbool_any b _ _ (by omega) (by omega) ?_).mono ?_; (go_split_ands; assumption); rintro e wq ⟨nn, rfl, htq, hsq⟩; first | (with_reducible have hZq := zero_new (by assumption) hsq; obtain ⟨yz, y0, y1, y2, y3, yf⟩ := hZq.cell) | (with_reducible have hZq := zero_newd (by assumption) hsq; obtain ⟨yz, y0, y1, y2, y3, yf⟩ := hZq.cell) | (with_reducible have hZq := ZeroY.step hZq hsq; obtain ⟨yz, y0, y1, y2, y3, yf⟩ := hZq.cell) | skip))
      all_goals
        rename_i hHeld
        obtain ⟨-, -, -, hT2, hE2, hR2⟩ := hHeld
        have hnn : ∀ j, j < l.length → (cAt l j).nm ≠ nameS q := fun j hj => by
          rw [(HSH.out j hj).1, ← hqe]
          exact nameS_ne (by omega)
        have hwty : IntKind.i64.wrap (1 + ty) = 1 + ty := i64w (by omega) (by omega)
        have hty1' : 1 ≤ IntKind.i64.wrap (1 + ty) := by rw [i64w (by omega) (by omega)]; omega
        have hty3' : IntKind.i64.wrap (1 + ty) ≤ 3 := by rw [i64w (by omega) (by omega)]; omega
        have HSZ : Hid (Sized l) := Lib.hid fun j hj => by rw [(HSH.out j hj).1]; exact name_small _
        have hbX' : b < X := by omega
        first
          | (have hC := cell4_set hZq.cell (.string (nameS q)) (.int .i64 (IntKind.i64.wrap (1 + ty))) (.bool nn) (.bool false)
             have hbY := hZq.bY
             have hwY := hZq.WY
             clear hZq yz y0 y1 y2 y3 yf
             generalize (((World.setCell wq _ _).setCell _ _).setCell _ _).setCell _ _ = W5 at hT2 hE2 hR2 hC ⊢)
          | (have hC := cell4_new wq (.string (nameS q)) (.int .i64 (IntKind.i64.wrap (1 + ty))) (.bool nn) (.bool false) 75
             have hbY : b < wq.heap.size := by
               obtain ⟨-, -, db0, -⟩ := fill_apart hT2 hR2 hC hnn
               have := hT2.lt
               rw [size_alloc] at this; omega
             have hwY : w.heap.size < wq.heap.size := by
               obtain ⟨-, dR0, -, -⟩ := fill_apart hT2 hR2 hC hnn
               have := hR2.res.lt
               rw [size_alloc] at this; omega
             generalize wq.alloc _ = W5 at hT2 hE2 hR2 hC ⊢)
        rw [hwty] at hC hty1' hty3'
        obtain ⟨Y, hYe, hC⟩ : ∃ Y, Y = _ ∧ Cell4 W5 Y (.string (nameS q)) (.int .i64 (1 + ty)) (.bool nn) (.bool false) := ⟨_, rfl, hC⟩
        rw [← hYe] at hbY hwY ⊢
        clear hYe hsq htq hE2
        obtain ⟨dX, -, -, dg⟩ := fill_apart hT2 hR2 hC hnn
        have HL5 := Lib.hid (LoopY.mk hR2.box hR2.own hR2.res hT2 hR2.step)
        obtain ⟨bz, b0, b1, bf⟩ := hR2.box
        obtain ⟨yz, y0, y1, y2, y3, yf⟩ := hC
        clear hR2 hT2 hnm x0 x1 xf xz HX HO HR HT HS HE'
        cases hkl : (key == (l.length : Int))
        · have HKL := Lib.hid (beq_eq_false_iff_ne.1 hkl)
          have HL7 : Hid (LoopY b X w (nameS i) pv cv l (W5.alloc (.cells #[.string (nameS q), .int .i64 (1 + ty), .bool nn, .bool false] 75))) := Lib.hid (HL5.out.alloc _)
          have HSRC : Hid (ColsAt (W5.alloc (.cells #[.string (nameS q), .int .i64 (1 + ty), .bool nn, .bool false] 75)) (some ⟨W5.heap.size, 0, none⟩) 1 (cAt [⟨nameS q, 1 + ty, nn, false⟩])) := Lib.hid (one_col W5 ⟨nameS q, 1 + ty, nn, false⟩ (name_small _))
          have hXz7 : X + 1 ≤ (W5.alloc (.cells #[.string (nameS q), .int .i64 (1 + ty), .bool nn, .bool false] 75)).heap.size := HL7.out.box.lt
          have HXZ := Lib.hid hXz7
          clear hXz7
          go_wp2_with (at_builtin; refine wpList_append_cols rfl (.tmp 42) (.tmp 44) rfl (X + 1) _ l.length l rfl HL7.out.own ⟨W5.heap.size, 0, none⟩ [⟨nameS q, 1 + ty, nn, false⟩] 1 1 rfl rfl HSRC.out (by simp only [List.length_singleton]; omega) HXZ.out ?_; intro v8 W8 hown8 hgr8; obtain ⟨hb8, p8, c8, hv8, hL8⟩ := HL7.out.next hbX' hwX (Sized.add HSZ.out (name_small _)) hown8 hgr8; subst hv8; (have HL8 := Lib.hid hL8); clear hL8 hown8 hgr8; obtain ⟨b8z, b80, b81, b8f⟩ := hb8)
          go_roundw
          case rel =>
            exact ⟨d, l ++ [⟨nameS q, 1 + ty, nn, false⟩], p8, c8, by go_num, by simp only [List.length_append, List.length_singleton]; omega, all_add (P := fun j c => Shape key j c) HSH.out ⟨by show nameS q = _; rw [← hqe], hty1', hty3', (decide_eq_false HKL.out).symm, fun h => by cases h⟩, HL8.out.box, HL8.out.own, HL8.out.res, fun h => absurd h (by simp), HL8.out.tape, HL8.out.step⟩
          case measure => simp [intOf]
        · have HKL := Lib.hid (beq_iff_eq.1 hkl)
          have HL7 : Hid (LoopY b X w (nameS i) pv cv l (((W5.setCell ⟨Y, 3, none⟩ (.bool true)).setCell ⟨Y, 2, none⟩ (.bool true)).alloc (.cells #[.string (nameS q), .int .i64 (1 + ty), .bool true, .bool true] 75))) := Lib.hid (((HL5.out.set hbY dX hwY dg 3 (.bool true)).set hbY dX hwY dg 2 (.bool true)).alloc _)
          have HSRC : Hid (ColsAt (((W5.setCell ⟨Y, 3, none⟩ (.bool true)).setCell ⟨Y, 2, none⟩ (.bool true)).alloc (.cells #[.string (nameS q), .int .i64 (1 + ty), .bool true, .bool true] 75)) (some ⟨W5.heap.size, 0, none⟩) 1 (cAt [⟨nameS q, 1 + ty, true, true⟩])) := Lib.hid (by have h0 := one_col ((W5.setCell ⟨Y, 3, none⟩ (.bool true)).setCell ⟨Y, 2, none⟩ (.bool true)) ⟨nameS q, 1 + ty, true, true⟩ (name_small _); rw [set_size, set_size] at h0; exact h0)
          have hXz7 : X + 1 ≤ (((W5.setCell ⟨Y, 3, none⟩ (.bool true)).setCell ⟨Y, 2, none⟩ (.bool true)).alloc (.cells #[.string (nameS q), .int .i64 (1 + ty), .bool true, .bool true] 75)).heap.size := HL7.out.box.lt
          have HXZ := Lib.hid hXz7
          clear hXz7
          go_wp2_with (at_builtin; refine wpList_append_cols rfl (.tmp 42) (.tmp 44) rfl (X + 1) _ l.length l rfl HL7.out.own ⟨W5.heap.size, 0, none⟩ [⟨nameS q, 1 + ty, true, true⟩] 1 1 rfl rfl HSRC.out (by simp only [List.length_singleton]; omega) HXZ.out ?_; intro v8 W8 hown8 hgr8; obtain ⟨hb8, p8, c8, hv8, hL8⟩ := HL7.out.next hbX' hwX (Sized.add HSZ.out (name_small _)) hown8 hgr8; subst hv8; (have HL8 := Lib.hid hL8); clear hL8 hown8 hgr8; obtain ⟨b8z, b80, b81, b8f⟩ := hb8)
          go_roundw
          case rel =>
            exact ⟨d, l ++ [⟨nameS q, 1 + ty, true, true⟩], p8, c8, by go_num, by simp only [List.length_append, List.length_singleton]; omega, all_add (P := fun j c => Shape key j c) HSH.out ⟨by show nameS q = _; rw [← hqe], hty1', hty3', (decide_eq_true HKL.out).symm, fun _ => rfl⟩, HL8.out.box, HL8.out.own, HL8.out.res, fun h => absurd h (by simp), HL8.out.tape, HL8.out.step⟩
          case measure => simp [intOf]
    · obtain rfl : c = 0 := by omega
      clear x0 xf hcz
      obtain ⟨rz, r0, r1, rf⟩ := HR.out
      have HSZ : Hid (Sized l) := Lib.hid fun j hj => by rw [(HSH.out j hj).1]; exact name_small _
      have x0 := HX.out.c0
      go_wp2
      obtain ⟨sz, s0, s1, sf⟩ := cell2_set HR.out (.string (nameS i)) (.slice pv l.length cv)
      obtain ⟨p', c', he, -, hcols, hq⟩ := cols_of_owns HO.out HSZ.out
      injection he with he1 he2 he3
      subst he1 he3
      have hRq : ∀ q, pv = some q → q.block ≠ w.heap.size := fun q hqe => by have := (hq q hqe).1; omega
      exact bodyPost_ret (v := schV (nameS i) pv l.length cv) (by simp [results, Tryd.results13, go_sem, s0, s1, schV]) rfl
        ⟨i, pv, l, cv, rfl, hi, by omega, by omega, (hcols.set (fun q hqe => hRq q hqe) _).set (fun q hqe => hRq q hqe) _, shape_valid (names_ok ⟨i, hi⟩) (by omega) (by omega) rfl HSH.out, fun q hqe => by have := (hq q hqe).1; omega,
          (HT.out.setCell (by exact hlt) _).setCell (by exact hlt) _, (HS.out.set2 (Nat.le_refl _) _ _ _).set2 (Nat.le_refl _) _ _ _⟩
end Go.Proofs.YtgaihglploedaaaDoor
