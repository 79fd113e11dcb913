/-
  Several texts in one.
-/
import Derived.Test.YtlnbpobipmejfaaGreatDoorPk22
import Derived.Test.YtlnbpobipmejfaaGreatDoorPk16
import Derived.Test.YtlnbpobipmejfaaGreatDoorPk14
import Derived.Deep.RegionHeld3
import Derived.Test.YtlnbpobipmejfaaGreatDoorPk18
/-
  Package clone: copies of schemas, of lists of rows and of tables.
-/
namespace Go.Proofs.YtlnbpobipmejfaaGreatDoor
set_option maxRecDepth 100000
open Go.RowKit
variable {ls : List Nat}

theorem own_ex {u : World} {base : Nat} {vr : Value} {e : TypeId} {s n : Nat} {xs : List Value} (h : u.ownsRow base e s vr n xs) : ∃ p c, vr = .slice p n c := by
  rcases h.2 with ⟨rfl, rfl⟩ | ⟨g, cap, cur, rfl, -⟩
  · exact ⟨none, 0, rfl⟩
  · exact ⟨_, cap, rfl⟩
theorem cell2_st1 {u : World} {X : Nat} {a b : Value} (h : Cell2 u X a b) (y : Value) : Cell2 (u.setCell ⟨X, 1, none⟩ y) X a y := by
  obtain ⟨hl, c0, c1, fz⟩ := h
  refine ⟨by simpa [World.setCell] using hl, ?_, ?_, fun o => ?_⟩
  · go_simp
  · go_simp
  · rw [World.frozen?_setCell]; exact fz o
theorem cell2_far {u : World} {X Y o : Nat} {a b : Value} (h : Cell2 u X a b) (hn : X ≠ Y) (y : Value) : Cell2 (u.setCell ⟨Y, o, none⟩ y) X a b := by
  have hb : (u.setCell ⟨Y, o, none⟩ y).heap[X]? = u.heap[X]? := Below.heap_setCell _ _ _ _ (by exact hn)
  exact ⟨by simpa [World.setCell] using h.lt, by rw [World.cell?_of_block (w := u) hb]; exact h.c0, by rw [World.cell?_of_block (w := u) hb]; exact h.c1, fun o => by rw [World.frozen?_of_block (w := u) hb]; exact h.fz o⟩
/-- Columns of the call's own. -/
def COwn (u : World) (lo : Nat) (p : Option Addr) (n c : Nat) (f : Nat → Col) : Prop := ∃ l : List Col, u.ownsRow lo 63 4 (.slice p n c) n (ccells l) ∧ Sized l ∧ ∀ i, i < n → cAt l i = f i
theorem COwn.keep {u v : World} {lo : Nat} {p : Option Addr} {n c : Nat} {f : Nat → Col} (h : COwn u lo p n c f) (hk : ∀ k, lo ≤ k → k < u.heap.size → v.heap[k]? = u.heap[k]?) : COwn v lo p n c f := by
  obtain ⟨l, h1, h2, h3⟩ := h
  exact ⟨l, owns_keep h1 fun k hk' => hk k (owns_block h1 k hk') (owns_lt h1 k hk'), h2, h3⟩
theorem COwn.low {u v : World} {lo : Nat} {p : Option Addr} {n c : Nat} {f : Nat → Col} (h : COwn u lo p n c f) (hb : Below u.heap.size u v) : COwn v lo p n c f := h.keep fun k _ h2 => hb.block k h2
theorem COwn.base {u : World} {lo lo' : Nat} {p : Option Addr} {n c : Nat} {f : Nat → Col} (h : COwn u lo p n c f) (hl : lo' ≤ lo) : COwn u lo' p n c f := by
  obtain ⟨l, h1, h2, h3⟩ := h
  exact ⟨l, owns_base h1 hl, h2, h3⟩
theorem COwn.set {u : World} {lo b o : Nat} {p : Option Addr} {n c : Nat} {f : Nat → Col} (h : COwn u lo p n c f) (hb : b < lo) (y : Value) : COwn (u.setCell ⟨b, o, none⟩ y) lo p n c f := h.keep fun k h1 _ => Below.heap_setCell _ _ _ _ (by show k ≠ b; omega)
theorem COwn.cols {u : World} {lo : Nat} {p : Option Addr} {n c : Nat} {f : Nat → Col} (h : COwn u lo p n c f) : ColsAt u p n f := by
  obtain ⟨l, h1, h2, h3⟩ := h
  obtain ⟨p', c', he, hn, hc, -⟩ := cols_of_owns h1 h2
  injection he with e1 e2 e3
  subst e1
  exact hc.congr fun i hi => (h3 i hi).symm
theorem COwn.zero (u : World) (lo : Nat) (f : Nat → Col) : COwn u lo none 0 0 f := ⟨[], ⟨rfl, Or.inl ⟨rfl, rfl⟩⟩, fun i hi => absurd hi (Nat.not_lt_zero i), fun i hi => absurd hi (Nat.not_lt_zero i)⟩
/-- A table of the call's own, whose rows can be appended to. -/
structure TabOwn (lo : Nat) (u : World) (S : Tab) : Prop where
  own : ∃ G, TOwn u lo (.slice S.pr S.R.length S.cr) G ∧ tabR G = S.R
  col : COwn u lo S.pc S.n S.cc S.f
  name : S.nm.size ≤ 9223372036854775807
  n : S.n ≤ 9223372036854775807
  len : S.R.length ≤ 1000
  sized : ∀ r ∈ S.R, ValsSized r.2
  nxr : S.nx ≤ 9223372036854775807
theorem TabOwn.at {lo : Nat} {u : World} {S : Tab} (h : TabOwn lo u S) : TabAt u S := by
  obtain ⟨G, h1, h2⟩ := h.own
  have hr := h1.rows
  rw [h2] at hr
  exact ⟨h.name, h.n, h.col.cols, hr, h.len, h.sized, h.nxr⟩
theorem TabOwn.low {lo : Nat} {u v : World} {S : Tab} (h : TabOwn lo u S) (hb : Below u.heap.size u v) : TabOwn lo v S := by
  obtain ⟨G, h1, h2⟩ := h.own
  exact ⟨⟨G, h1.low hb, h2⟩, h.col.low hb, h.name, h.n, h.len, h.sized, h.nxr⟩
theorem TabOwn.keep {lo : Nat} {u v : World} {S : Tab} (h : TabOwn lo u S) (hk : ∀ k, lo ≤ k → k < u.heap.size → v.heap[k]? = u.heap[k]?) : TabOwn lo v S := by
  obtain ⟨G, h1, h2⟩ := h.own
  exact ⟨⟨G, h1.keep hk, h2⟩, h.col.keep hk, h.name, h.n, h.len, h.sized, h.nxr⟩
theorem TabOwn.set {lo b o : Nat} {u : World} {S : Tab} (h : TabOwn lo u S) (hb : b < lo) (y : Value) : TabOwn lo (u.setCell ⟨b, o, none⟩ y) S := h.keep fun k h1 _ => Below.heap_setCell _ _ _ _ (by show k ≠ b; omega)
theorem TabOwn.mono {lo lo' : Nat} {u : World} {S : Tab} (h : TabOwn lo u S) (hl : lo' ≤ lo) : TabOwn lo' u S := by
  obtain ⟨G, h1, h2⟩ := h.own
  exact ⟨⟨G, h1.base hl, h2⟩, h.col.base hl, h.name, h.n, h.len, h.sized, h.nxr⟩
theorem TabOwn.free {lo : Nat} {u : World} {S : Tab} (h : TabOwn lo u S) : TabFree lo u S := fun _ _ hk => (h.keep hk).at
end Go.Proofs.YtlnbpobipmejfaaGreatDoor
/-
  Package keys: changed.
-/
namespace Go.Proofs.YtlnbpobipmejfaaGreatDoor
set_option maxRecDepth 100000
open Go.RowKit
variable {ls : List Nat}

end Go.Proofs.YtlnbpobipmejfaaGreatDoor
/-
  A change that is built row by row: its box, its three lists.
-/
namespace Go.Proofs.YtlnbpobipmejfaaGreatDoor
set_option maxRecDepth 100000
open Go.RowKit
variable {ls : List Nat}
theorem pair_news {w : World} {N : Nat} {x y z : Value} (h0 : w.cell? ⟨N, 0, none⟩ = some x) (h1 : w.cell? ⟨N, 1, none⟩ = some y) (h2 : w.cell? ⟨N, 2, none⟩ = some z) : ∀ j u, ([x, y, z] : List Value)[j]? = some u → w.cell? ((⟨N, 0, none⟩ : Addr).add j) = some u := by
  intro j u hj
  have hlt := (List.getElem?_eq_some_iff.1 hj).1
  have hadd : (⟨N, 0, none⟩ : Addr).add j = ⟨N, j, none⟩ := by unfold Addr.add; split <;> simp_all
  rw [hadd]
  match j, hlt with
  | 0, _ => rw [h0]; exact hj
  | 1, _ => rw [h1]; exact hj
  | 2, _ => rw [h2]; exact hj

/-- Values in a block of their own. -/
def NewAt (lo : Nat) (v : World) (x : Value) (l : List Val) : Prop := ∃ (g c : Nat) (cur : Array Value), x = .slice (some ⟨g, 0, none⟩) l.length c ∧ lo ≤ g ∧ v.heap[g]? = some (.cells cur 55 (0, 0)) ∧ RowAt v (some ⟨g, 0, none⟩) l ∧ l.length ≤ c
theorem NewAt.of {lo : Nat} {v : World} {x : Value} {l : List Val} (h : v.ownsRow lo 55 3 x l.length (vcells l)) (hl : 0 < l.length) : NewAt lo v x l := by
  obtain ⟨hv, hr, hn⟩ := owned_shape h
  rcases h.2 with ⟨-, h0⟩ | ⟨g, cap', cur, rfl, hg, hh, hcap, hm, hcur, htake⟩
  · omega
  · exact ⟨g, cap', cur, rfl, hg, hh, hr, hcap⟩
theorem NewAt.keep {lo : Nat} {u v : World} {x : Value} {l : List Val} (h : NewAt lo u x l) (hz : u.heap.size ≤ v.heap.size) (hk : ∀ k, lo ≤ k → k < u.heap.size → v.heap[k]? = u.heap[k]?) : NewAt lo v x l := by
  obtain ⟨g, c, cur, hx, hg, hh, hr, hc⟩ := h
  have hb := hk g hg (Array.getElem?_eq_some_iff.1 hh).1
  exact ⟨g, c, cur, hx, hg, hb.trans hh, hr.keep hz fun a ha => by cases ha; exact hb, hc⟩
theorem NewAt.keepG {lo base n m : Nat} {e : TypeId} {u v : World} {x y : Value} {l : List Val} {ys : List Value} (h : NewAt lo u x l) (hy : u.ownsRow base e m y n ys) (he : e ≠ 55) (hg : u.grownBy v y.ownBlock) : NewAt lo v x l := by
  obtain ⟨g, c, cur, hx, hg', hh, hr, hc⟩ := h
  have hlt := (Array.getElem?_eq_some_iff.1 hh).1
  have hb : v.heap[g]? = u.heap[g]? := hg.block g hlt fun e0 => by
    rcases hy.2 with ⟨rfl, -⟩ | ⟨g2, cap', cur', rfl, -, hh2, -⟩
    · cases e0
    · have e1 : g = g2 := Option.some.inj e0
      subst e1
      rw [hh] at hh2
      injection hh2 with hh2
      injection hh2 with h3 h4
      exact he h4.symm
  exact ⟨g, c, cur, hx, hg', hb.trans hh, hr.keep hg.size fun a ha => by cases ha; exact hb, hc⟩
theorem NewAt.mono {lo lo' : Nat} {u : World} {x : Value} {l : List Val} (h : NewAt lo u x l) (hl : lo' ≤ lo) : NewAt lo' u x l := by
  obtain ⟨g, c, cur, hx, hg, h2⟩ := h
  exact ⟨g, c, cur, hx, Nat.le_trans hl hg, h2⟩
/-- A value is set. -/
theorem NewAt.put {lo g c r : Nat} {u : World} {l : List Val} (h : NewAt lo u (.slice (some ⟨g, 0, none⟩) l.length c) l) (hr : r < l.length) (x : Val) :
    NewAt lo (((u.setCell ⟨g, r * 3, none⟩ (.int .i64 x.1)).setCell ⟨g, r * 3 + 1, none⟩ (.int .i64 x.2.1)).setCell ⟨g, r * 3 + 2, none⟩ (.string x.2.2)) (.slice (some ⟨g, 0, none⟩) l.length c) (l.set r x) := by
  obtain ⟨g', c', cur, hx, hg, hh, hrow, hc⟩ := h
  injection hx with h1 h2 h3
  injection h1 with h1
  injection h1 with h1
  subst h1 h3
  refine ⟨g, c, _, by rw [List.length_set], hg, heap_setCell_same _ _ _ _ _ _ (heap_setCell_same _ _ _ _ _ _ (heap_setCell_same _ _ _ _ _ _ hh)), hrow.put hr x, by rw [List.length_set]; exact hc⟩
abbrev GPair := Int × (Value × List Val) × (Value × List Val)
def pcells (P : List GPair) : List Value := P.flatMap fun p => [.int .i64 p.1, p.2.1.1, p.2.2.1]
theorem pcells_length (P : List GPair) : (pcells P).length = P.length * 3 := by
  induction P with
  | nil => rfl
  | cons g G ih => show (_ :: _ :: _ :: pcells G).length = _; rw [List.length_cons, List.length_cons, List.length_cons, ih, List.length_cons]; omega
theorem pcells_append (G H : List GPair) : pcells (G ++ H) = pcells G ++ pcells H := List.flatMap_append
theorem pcells_at (P : List GPair) (i : Nat) (h : i < P.length) : (pcells P)[i * 3]? = some (.int .i64 P[i].1) ∧ (pcells P)[i * 3 + 1]? = some P[i].2.1.1 ∧ (pcells P)[i * 3 + 2]? = some P[i].2.2.1 := by
  induction P generalizing i with
  | nil => simp at h
  | cons g G ih =>
    have e : pcells (g :: G) = .int .i64 g.1 :: g.2.1.1 :: g.2.2.1 :: pcells G := rfl
    rw [e]
    cases i with
    | zero => exact ⟨rfl, rfl, rfl⟩
    | succ i =>
      rw [List.length_cons] at h
      have := ih i (by omega)
      rw [show (i + 1) * 3 = i * 3 + 1 + 1 + 1 by omega]
      exact this
def icells (D : List Int) : List Value := D.map fun z => .int .i64 z
theorem info_pair : (Tryz.prog.info? 75).map (fun i => (i.zero, i.size, i.bytes)) = some (some (.agg #[.int .i64 0, .slice none 0 0, .slice none 0 0]), 3, 56) := by kernel_rfl
theorem info_int7 : (Tryz.prog.info? 3).map (fun i => (i.zero, i.size, i.bytes)) = some (some (.int .i64 0), 1, 8) := by kernel_rfl
theorem info_row7 : (Tryz.prog.info? 56).map (fun i => (i.zero, i.size, i.bytes)) = some (some (.slice none 0 0), 1, 24) := by kernel_rfl
/-- The change that is built. -/
structure ChoC (b X : Nat) (vi vd vu : Value) (G : List (Value × List Val)) (D : List Int) (P : List GPair) (v : World) : Prop where
  box : Cell3 v X vi vd vu
  ins : v.ownsRow (X + 1) 56 1 vi G.length (G.map (·.1))
  num : v.ownsRow (X + 1) 3 1 vd D.length (icells D)
  upd : v.ownsRow (X + 1) 75 3 vu P.length (pcells P)
  inn : ∀ g ∈ G, NewAt (X + 1) v g.1 g.2 ∧ ValsSized g.2 ∧ g.2.length ≤ 10
  unn : ∀ p ∈ P, (NewAt (X + 1) v p.2.1.1 p.2.1.2 ∧ p.2.1.2.length ≤ 10) ∧ NewAt (X + 1) v p.2.2.1 p.2.2.2 ∧ ValsSized p.2.2.2 ∧ p.2.2.2.length ≤ 10
  hb : b < X
section
variable {b X : Nat} {u v w8 : World} {vi vd vu v8 : Value} {G : List (Value × List Val)} {D : List Int} {P : List GPair}
theorem ChoC.keep (h : ChoC b X vi vd vu G D P u) (hz : u.heap.size ≤ v.heap.size) (hk : ∀ k, X ≤ k → k < u.heap.size → v.heap[k]? = u.heap[k]?) : ChoC b X vi vd vu G D P v := by
  have hX : v.heap[X]? = u.heap[X]? := hk X (Nat.le_refl _) h.box.lt
  have ho : ∀ {e : TypeId} {s n : Nat} {x : Value} {xs : List Value}, u.ownsRow (X + 1) e s x n xs → v.ownsRow (X + 1) e s x n xs := fun ho =>
    owns_keep ho fun k hk' => hk k (by have := owns_block ho k hk'; omega) (owns_lt ho k hk')
  have hn : ∀ {x : Value} {l : List Val}, NewAt (X + 1) u x l → NewAt (X + 1) v x l := fun hn => hn.keep hz fun k h1 h2 => hk k (by omega) h2
  exact ⟨⟨Nat.lt_of_lt_of_le h.box.lt hz, by rw [World.cell?_of_block (w := u) hX]; exact h.box.c0, by rw [World.cell?_of_block (w := u) hX]; exact h.box.c1, by rw [World.cell?_of_block (w := u) hX]; exact h.box.c2, fun o => by rw [World.frozen?_of_block (w := u) hX]; exact h.box.fz o⟩,
    ho h.ins, ho h.num, ho h.upd, fun g hg => ⟨hn (h.inn g hg).1, (h.inn g hg).2⟩, fun p hp => ⟨⟨hn (h.unn p hp).1.1, (h.unn p hp).1.2⟩, hn (h.unn p hp).2.1, (h.unn p hp).2.2⟩, h.hb⟩
theorem ChoC.to (h : ChoC b X vi vd vu G D P u) (hb : Below u.heap.size u v) : ChoC b X vi vd vu G D P v := h.keep hb.size fun k _ h2 => hb.block k h2
theorem ChoC.next (h : ChoC b X vi vd vu G D P u) (hs : StepT b u v) : ChoC b X vi vd vu G D P v := h.keep hs.size fun k h1 h2 => hs.block k h2 (by have := h.hb; omega)
theorem chG {x y z : Value} {row : Option Nat} (h : Cell3 u X x y z) (hg : u.grownBy v row) (hr : ∀ k, row = some k → X < k) : Cell3 v X x y z := by
  have hb := hg.block X h.lt (fun e => by have := hr X e.symm; omega)
  exact ⟨Nat.lt_of_lt_of_le h.lt hg.size, by rw [World.cell?_of_block (w := u) hb]; exact h.c0, by rw [World.cell?_of_block (w := u) hb]; exact h.c1, by rw [World.cell?_of_block (w := u) hb]; exact h.c2, fun o => by rw [World.frozen?_of_block (w := u) hb]; exact h.fz o⟩
theorem chS0 {a b c : Value} (h : Cell3 u X a b c) (y : Value) : Cell3 (u.setCell ⟨X, 0, none⟩ y) X y b c := by
  obtain ⟨hl, c0, c1, c2, fz⟩ := h
  refine ⟨by simpa [World.setCell] using hl, ?_, ?_, ?_, fun o => ?_⟩
  · go_simp
  · go_simp
  · go_simp
  · rw [World.frozen?_setCell]; exact fz o
theorem chS1 {a b c : Value} (h : Cell3 u X a b c) (y : Value) : Cell3 (u.setCell ⟨X, 1, none⟩ y) X a y c := by
  obtain ⟨hl, c0, c1, c2, fz⟩ := h
  refine ⟨by simpa [World.setCell] using hl, ?_, ?_, ?_, fun o => ?_⟩
  · go_simp
  · go_simp
  · go_simp
  · rw [World.frozen?_setCell]; exact fz o
theorem chS2 {a b c : Value} (h : Cell3 u X a b c) (y : Value) : Cell3 (u.setCell ⟨X, 2, none⟩ y) X a b y := by
  obtain ⟨hl, c0, c1, c2, fz⟩ := h
  refine ⟨by simpa [World.setCell] using hl, ?_, ?_, ?_, fun o => ?_⟩
  · go_simp
  · go_simp
  · go_simp
  · rw [World.frozen?_setCell]; exact fz o
theorem chE {base base' n : Nat} {e e' : TypeId} {size size' n' : Nat} {x y : Value} {xs ys : List Value} (h : u.ownsRow base e size x n xs) (k : u.ownsRow base' e' size' y n' ys) (he : e ≠ e') (hg : u.grownBy v y.ownBlock) : v.ownsRow base e size x n xs :=
  owns_keep h fun j hj => hg.block j (owns_lt h j hj) (fun e0 => owns_apart h k he j hj e0.symm)
theorem chX {n size o : Nat} {e : TypeId} {x y : Value} {xs : List Value} (h : u.ownsRow (X + 1) e size x n xs) : (u.setCell ⟨X, o, none⟩ y).ownsRow (X + 1) e size x n xs := ownsRow_setCell_below h (a := ⟨X, o, none⟩) (Nat.lt_succ_self X) y
theorem chNew {o : Nat} {x y : Value} {l : List Val} (h : NewAt (X + 1) u x l) : NewAt (X + 1) (u.setCell ⟨X, o, none⟩ y) x l :=
  h.keep (by rw [set_size]; exact Nat.le_refl _) fun k h1 _ => Below.heap_setCell _ _ _ _ (by show k ≠ X; omega)
theorem ChoC.pushI {o : Obj} {g : Value × List Val} (h : ChoC b X vi vd vu G D P u) (hz : NewAt (X + 1) u g.1 g.2 ∧ ValsSized g.2 ∧ g.2.length ≤ 10) (ho : w8.ownsRow (X + 1) 56 1 v8 (G ++ [g]).length ((G ++ [g]).map (·.1))) (hg : (u.alloc o).grownBy w8 vi.ownBlock) :
    Cell3 w8 X vi vd vu ∧ ChoC b X v8 vd vu (G ++ [g]) D P (w8.setCell ⟨X, 0, none⟩ v8) := by
  have h7 := h.to (below_alloc u o)
  have hk : ∀ k, vi.ownBlock = some k → X + 1 ≤ k := fun k hk => owns_block h.ins k hk
  have hc := chG h7.box hg (fun k hk' => by have := hk k hk'; omega)
  have hn : ∀ {x : Value} {l : List Val}, NewAt (X + 1) (u.alloc o) x l → NewAt (X + 1) (w8.setCell ⟨X, 0, none⟩ v8) x l := fun hn => chNew (hn.keepG h7.ins (by decide) hg)
  refine ⟨hc, chS0 hc v8, chX ho, chX (chE h7.num h7.ins (by decide) hg), chX (chE h7.upd h7.ins (by decide) hg), fun q hq => ?_, fun p hp => ⟨⟨hn (h7.unn p hp).1.1, (h7.unn p hp).1.2⟩, hn (h7.unn p hp).2.1, (h7.unn p hp).2.2⟩, h.hb⟩
  rcases List.mem_append.1 hq with hq | hq
  · exact ⟨hn (h7.inn q hq).1, (h7.inn q hq).2⟩
  · obtain rfl := List.mem_singleton.1 hq
    exact ⟨hn (hz.1.keep (below_alloc u o).size fun k _ h2 => (below_alloc u o).block k h2), hz.2⟩
theorem ChoC.pushD {o : Obj} {z : Int} (h : ChoC b X vi vd vu G D P u) (ho : w8.ownsRow (X + 1) 3 1 v8 (D ++ [z]).length (icells (D ++ [z]))) (hg : (u.alloc o).grownBy w8 vd.ownBlock) :
    Cell3 w8 X vi vd vu ∧ ChoC b X vi v8 vu G (D ++ [z]) P (w8.setCell ⟨X, 1, none⟩ v8) := by
  have h7 := h.to (below_alloc u o)
  have hk : ∀ k, vd.ownBlock = some k → X + 1 ≤ k := fun k hk => owns_block h.num k hk
  have hc := chG h7.box hg (fun k hk' => by have := hk k hk'; omega)
  have hn : ∀ {x : Value} {l : List Val}, NewAt (X + 1) (u.alloc o) x l → NewAt (X + 1) (w8.setCell ⟨X, 1, none⟩ v8) x l := fun hn => chNew (hn.keepG h7.num (by decide) hg)
  exact ⟨hc, chS1 hc v8, chX (chE h7.ins h7.num (by decide) hg), chX ho, chX (chE h7.upd h7.num (by decide) hg), fun q hq => ⟨hn (h7.inn q hq).1, (h7.inn q hq).2⟩, fun p hp => ⟨⟨hn (h7.unn p hp).1.1, (h7.unn p hp).1.2⟩, hn (h7.unn p hp).2.1, (h7.unn p hp).2.2⟩, h.hb⟩
theorem ChoC.pushU {o : Obj} {p : GPair} (h : ChoC b X vi vd vu G D P u) (hz : (NewAt (X + 1) u p.2.1.1 p.2.1.2 ∧ p.2.1.2.length ≤ 10) ∧ NewAt (X + 1) u p.2.2.1 p.2.2.2 ∧ ValsSized p.2.2.2 ∧ p.2.2.2.length ≤ 10) (ho : w8.ownsRow (X + 1) 75 3 v8 (P ++ [p]).length (pcells (P ++ [p]))) (hg : (u.alloc o).grownBy w8 vu.ownBlock) :
    Cell3 w8 X vi vd vu ∧ ChoC b X vi vd v8 G D (P ++ [p]) (w8.setCell ⟨X, 2, none⟩ v8) := by
  have h7 := h.to (below_alloc u o)
  have hk : ∀ k, vu.ownBlock = some k → X + 1 ≤ k := fun k hk => owns_block h.upd k hk
  have hc := chG h7.box hg (fun k hk' => by have := hk k hk'; omega)
  have hn : ∀ {x : Value} {l : List Val}, NewAt (X + 1) (u.alloc o) x l → NewAt (X + 1) (w8.setCell ⟨X, 2, none⟩ v8) x l := fun hn => chNew (hn.keepG h7.upd (by decide) hg)
  have ha : ∀ {x : Value} {l : List Val}, NewAt (X + 1) u x l → NewAt (X + 1) (u.alloc o) x l := fun hn => hn.keep (below_alloc u o).size fun k _ h2 => (below_alloc u o).block k h2
  refine ⟨hc, chS2 hc v8, chX (chE h7.ins h7.upd (by decide) hg), chX (chE h7.num h7.upd (by decide) hg), chX ho, fun q hq => ⟨hn (h7.inn q hq).1, (h7.inn q hq).2⟩, fun q hq => ?_, h.hb⟩
  rcases List.mem_append.1 hq with hq | hq
  · exact ⟨⟨hn (h7.unn q hq).1.1, (h7.unn q hq).1.2⟩, hn (h7.unn q hq).2.1, (h7.unn q hq).2.2⟩
  · obtain rfl := List.mem_singleton.1 hq
    exact ⟨⟨hn (ha hz.1.1), hz.1.2⟩, hn (ha hz.2.1), hz.2.2⟩
theorem own_cell {base n : Nat} {e : TypeId} {p : Option Addr} {s m cap : Nat} {xs : List Value} (h : u.ownsRow base e s (.slice p m cap) n xs) {i : Nat} {x : Value} (hi : xs[i]? = some x) : ∃ c, p = some ⟨c, 0, none⟩ ∧ c < u.heap.size ∧ u.cell? ⟨c, 0 + i, none⟩ = some x := by
  rcases h.2 with ⟨hv, h0⟩ | ⟨g, cap', cur, hv, hg, hh, hcap, hm, hcur, htake⟩
  · have hl := h.1
    rw [h0, Nat.zero_mul] at hl
    have : xs = [] := List.eq_nil_of_length_eq_zero hl
    subst this
    simp at hi
  · injection hv with hv1 hv2 hv3
    subst hv1
    refine ⟨g, rfl, (Array.getElem?_eq_some_iff.1 hh).1, ?_⟩
    rw [Nat.zero_add]
    simp only [World.cell?, hh]
    rw [if_neg (by simp)]
    have : cur.toList[i]? = some x := by
      rw [← htake, List.getElem?_take] at hi
      split at hi
      · exact hi
      · cases hi
    simpa using this
theorem own_len {base n : Nat} {e : TypeId} {p : Option Addr} {s m cap : Nat} {xs : List Value} (h : u.ownsRow base e s (.slice p m cap) n xs) : m = n ∧ n ≤ cap := by
  rcases h.2 with ⟨hv, h0⟩ | ⟨g, cap', cur, hv, hg, hh, hcap, -⟩
  · injection hv with h1 h2 h3
    omega
  · injection hv with h1 h2 h3
    omega
theorem NewAt.row {lo : Nat} {x : Value} {l : List Val} (h : NewAt lo u x l) : ∃ (q : Option Addr) (c : Nat), x = .slice q l.length c ∧ RowAt u q l ∧ (q = none → l = [] ∧ c = 0) := by
  obtain ⟨g, c, cur, hx, -, -, hr, -⟩ := h
  exact ⟨some ⟨g, 0, none⟩, c, hx, hr, fun e => by cases e⟩
/-- The change, as Apply wants it. -/
theorem ChoC.chg {pi pd pu : Option Addr} {ci cd cu mi md mu : Nat} (h : ChoC b X (.slice pi mi ci) (.slice pd md cd) (.slice pu mu cu) G D P u) (hG : G.length ≤ 1000) (hD : D.length ≤ 1000) (hP : P.length ≤ 1000) :
    ChgAt u ⟨pi, ci, G.map (·.2), pd, cd, D, pu, cu, P.map fun p => (p.1, p.2.1.2, p.2.2.2)⟩ := by
  have h1 := own_len h.ins
  have h2 := own_len h.num
  have h3 := own_len h.upd
  refine ⟨fun i hi => ?_, fun i hi => ?_, fun i hi => ?_, by dsimp only; rw [List.length_map]; omega, by dsimp only; omega, by dsimp only; rw [List.length_map]; omega, fun l hl => ?_, fun p hp => ?_, by dsimp only; omega, by dsimp only; rw [List.length_map]; omega⟩
  · dsimp only at hi ⊢
    have hi' : i < G.length := by rw [List.length_map] at hi; exact hi
    obtain ⟨hn, -, hl⟩ := h.inn _ (List.getElem_mem hi')
    obtain ⟨q, c2, hx, hr, hq⟩ := hn.row
    obtain ⟨c, hp, hc, hcell⟩ := own_cell h.ins (i := i) (x := G[i].1) (by simp [hi'])
    have e : rAt (G.map (·.2)) i = G[i].2 := by rw [rAt_get hi, List.getElem_map]
    rw [e]
    exact ⟨c, 0, q, c2, hp, hc, by rw [← hx]; exact hcell, hr, by omega, hq⟩
  · dsimp only at hi ⊢
    obtain ⟨c, hp, hc, hcell⟩ := own_cell h.num (i := i) (x := .int .i64 (iAt D i)) (by unfold icells; rw [List.getElem?_map, List.getElem?_eq_getElem hi, iAt_get hi]; rfl)
    exact ⟨c, 0, hp, hc, hcell⟩
  · dsimp only at hi ⊢
    have hi' : i < P.length := by rw [List.length_map] at hi; exact hi
    obtain ⟨⟨hn1, hl1⟩, hn2, -, hl2⟩ := h.unn _ (List.getElem_mem hi')
    obtain ⟨q, c2, hx, hr, hq⟩ := hn1.row
    obtain ⟨q', c2', hx', hr', hq'⟩ := hn2.row
    obtain ⟨e0, e1, e2⟩ := pcells_at P i hi'
    obtain ⟨c, hp, hc, k0⟩ := own_cell h.upd e0
    obtain ⟨c', hp', -, k1⟩ := own_cell h.upd e1
    rw [hp] at hp'
    cases hp'
    obtain ⟨c', hp', -, k2⟩ := own_cell h.upd e2
    rw [hp] at hp'
    cases hp'
    have e : pAt (P.map fun p => (p.1, p.2.1.2, p.2.2.2)) i = (P[i].1, P[i].2.1.2, P[i].2.2.2) := by rw [pAt_get hi, List.getElem_map]
    rw [e]
    exact ⟨c, 0, q, c2, q', c2', hp, hc, k0, by rw [← hx]; exact k1, by rw [← hx']; exact k2, hr, hr', by dsimp only; omega, by dsimp only; omega, hq, hq'⟩
  · obtain ⟨g, hg, rfl⟩ := List.mem_map.1 hl
    exact (h.inn g hg).2.1
  · obtain ⟨g, hg, rfl⟩ := List.mem_map.1 hp
    exact (h.unn g hg).2.2.1
end
end Go.Proofs.YtlnbpobipmejfaaGreatDoor
