/-
  Several texts in one.
-/
import Derived.Test.YtlnbpobipmejfaaGreatDoorPk34
import Derived.Deep.LoopGhost
/-
  merge of package delta: both tables' rows gone through at once.
-/
namespace Go.Proofs.YtlnbpobipmejfaaGreatDoor
set_option maxRecDepth 100000
open Go.RowKit
variable {ls : List Nat}

/-- What merge gives. -/
def MergePost (T S : Tab) (w : World) (e : Ending) (w' : World) : Prop := ∃ E : Dlt, e = .returned (.tuple #[.agg #[.string E.nm, .slice E.pi E.I.length E.ci, .slice E.pd E.D.length E.cd, .slice E.pu E.U.length E.cu], .bool (newB T.nx T.R S.R)]) ∧ DltFree w.heap.size w' E ∧ Below w.heap.size w w' ∧
  ((newB T.nx T.R S.R = true ∧ E.nm = T.nm ∧ E.I = insR T.R S.R ∧ E.D = delR T.R S.R ∧ E.U = updR T.R S.R) ∨ (newB T.nx T.R S.R = false ∧ E.nm = ⟨#[]⟩ ∧ E.I = [] ∧ E.D = [] ∧ E.U = []))
/-- The lists of a difference that is built from the rows before i and j. -/
structure MrW (w : World) (T S : Tab) (pa pb : Option Addr) (i j : Nat) (q : Option Addr) (cq : Nat) (vi vd vu : Value) (GI GD : List GRow) (P : List GPair) (v : World) : Prop where
  a : Cell4 v w.heap.size (.string T.nm) (.slice T.pc T.n T.cc) (.int .i64 T.nx) (.slice pa T.R.length T.cr)
  b : Cell4 v (w.heap.size + 1) (.string S.nm) (.slice S.pc S.n S.cc) (.int .i64 S.nx) (.slice pb S.R.length S.cr)
  r : Cell4 v (w.heap.size + 2) (.string ⟨#[]⟩) (.slice none 0 0) (.slice none 0 0) (.slice none 0 0)
  d : DltW T.nx (w.heap.size + 3) T.nm vi vd vu GI GD P v
  mg : Mg T.R S.R i j
  gi : tabR GI = (S.R.take j).filter (fun r => (getR r.1 T.R).isNone)
  gd : tabR GD = (T.R.take i).filter (fun r => (getR r.1 S.R).isNone)
  gu : P.map unG = (S.R.take j).filterMap (updP T.R)
  nw : ∀ k, k < j → (getR (tAt S.R k).1 T.R).isSome = true ∨ T.nx ≤ (tAt S.R k).1
  bel : Below w.heap.size w v
  rest : TRowsAt w q (T.R.drop i)
  cap : T.R.length - i ≤ cq
section
variable {w u v w8 : World} {T S : Tab} {pa pb : Option Addr} {i j : Nat} {q q' : Option Addr} {cq cq' : Nat} {vi vd vu v8 : Value} {GI GD : List GRow} {P : List GPair}
theorem MrW.low (h : MrW w T S pa pb i j q cq vi vd vu GI GD P u) (hb : Below u.heap.size u v) : MrW w T S pa pb i j q cq vi vd vu GI GD P v :=
  ⟨h.a.low hb, h.b.low hb, h.r.low hb, h.d.low hb, h.mg, h.gi, h.gd, h.gu, h.nw, below_next h.bel hb, h.rest, h.cap⟩
theorem MrW.lo (h : MrW w T S pa pb i j q cq vi vd vu GI GD P u) : w.heap.size + 3 < u.heap.size := h.d.box.lt
/-- What lies below the difference's box stays. -/
theorem c4push {X o : Nat} {a b c d y : Value} {row : Option Nat} {ob : Obj} (h : Cell4 u X a b c d) (hg : (u.alloc ob).grownBy w8 row) (hr : ∀ k, row = some k → w.heap.size + 4 ≤ k) (hX : X < w.heap.size + 3) : Cell4 (w8.setCell ⟨w.heap.size + 3, o, none⟩ y) X a b c d :=
  ((h.low (below_alloc u ob)).grown hg (fun k hk => by have := hr k hk; omega)).far (by omega) y
theorem belpush {o : Nat} {y : Value} {row : Option Nat} {ob : Obj} (h : Below w.heap.size w u) (hg : (u.alloc ob).grownBy w8 row) (hr : ∀ k, row = some k → w.heap.size + 4 ≤ k) : Below w.heap.size w (w8.setCell ⟨w.heap.size + 3, o, none⟩ y) :=
  (grown_below (below_new h ob) (below_new h ob).size hg (fun k hk => by have := hr k hk; omega)).setCell (by show w.heap.size ≤ w.heap.size + 3; omega) y
theorem MrW.pushD {ob : Obj} {g : GRow} (h : MrW w T S pa pb i j q cq vi vd vu GI GD P u) (hz : InRow u (w.heap.size + 3 + 1) (g.2.1, g.2.2)) (hi : i < T.R.length) (hg1 : (g.1, g.2.2) = tAt T.R i) (hlt : g.1 < T.nx) (m : Mg T.R S.R (i + 1) j) (hn : getR (tAt T.R i).1 S.R = none)
    (rest : TRowsAt w q' (T.R.drop (i + 1))) (cap : T.R.length - (i + 1) ≤ cq') (ho : w8.ownsRow (w.heap.size + 3 + 1) 58 2 v8 (GD ++ [g]).length (tcells (GD ++ [g]))) (hg : (u.alloc ob).grownBy w8 vd.ownBlock) :
    Cell4 w8 (w.heap.size + 3) (.string T.nm) vi vd vu ∧ MrW w T S pa pb (i + 1) j q' cq' vi v8 vu GI (GD ++ [g]) P (w8.setCell ⟨w.heap.size + 3, 2, none⟩ v8) := by
  have hk : ∀ k, vd.ownBlock = some k → w.heap.size + 4 ≤ k := fun k hk => owns_block h.d.del.own k hk
  obtain ⟨hc, hd⟩ := h.d.pushD hz hlt ho hg
  exact ⟨hc, c4push h.a hg hk (by omega), c4push h.b hg hk (by omega), c4push h.r hg hk (by omega), hd, m, h.gi, by rw [tabR_snoc, h.gd, hg1, delR_out hi hn], h.gu, h.nw, belpush h.bel hg hk, rest, cap⟩
theorem MrW.pushI {ob : Obj} {g : GRow} (h : MrW w T S pa pb i j q cq vi vd vu GI GD P u) (hz : InRow u (w.heap.size + 3 + 1) (g.2.1, g.2.2)) (hj : j < S.R.length) (hg1 : (g.1, g.2.2) = tAt S.R j) (hlt : T.nx ≤ g.1) (m : Mg T.R S.R i (j + 1)) (hn : getR (tAt S.R j).1 T.R = none)
    (ho : w8.ownsRow (w.heap.size + 3 + 1) 58 2 v8 (GI ++ [g]).length (tcells (GI ++ [g]))) (hg : (u.alloc ob).grownBy w8 vi.ownBlock) :
    Cell4 w8 (w.heap.size + 3) (.string T.nm) vi vd vu ∧ MrW w T S pa pb i (j + 1) q cq v8 vd vu (GI ++ [g]) GD P (w8.setCell ⟨w.heap.size + 3, 1, none⟩ v8) := by
  have hk : ∀ k, vi.ownBlock = some k → w.heap.size + 4 ≤ k := fun k hk => owns_block h.d.ins.own k hk
  obtain ⟨hc, hd⟩ := h.d.pushI hz hlt ho hg
  refine ⟨hc, c4push h.a hg hk (by omega), c4push h.b hg hk (by omega), c4push h.r hg hk (by omega), hd, m, by rw [tabR_snoc, h.gi, hg1, delR_out hj hn], h.gd, by rw [h.gu, updR_out hj hn], fun k hk2 => ?_, belpush h.bel hg hk, h.rest, h.cap⟩
  rcases Nat.lt_or_ge k j with hk3 | hk3
  · exact h.nw k hk3
  · obtain rfl : k = j := by omega
    exact .inr (by rw [← hg1]; exact hlt)
theorem c4push0 {X o : Nat} {a b c d y : Value} {row : Option Nat} (h : Cell4 u X a b c d) (hg : u.grownBy w8 row) (hr : ∀ k, row = some k → w.heap.size + 4 ≤ k) (hX : X < w.heap.size + 3) : Cell4 (w8.setCell ⟨w.heap.size + 3, o, none⟩ y) X a b c d :=
  (h.grown hg (fun k hk => by have := hr k hk; omega)).far (by omega) y
theorem belpush0 {o : Nat} {y : Value} {row : Option Nat} (h : Below w.heap.size w u) (hg : u.grownBy w8 row) (hr : ∀ k, row = some k → w.heap.size + 4 ≤ k) : Below w.heap.size w (w8.setCell ⟨w.heap.size + 3, o, none⟩ y) :=
  (grown_below h h.size hg (fun k hk => by have := hr k hk; omega)).setCell (by show w.heap.size ≤ w.heap.size + 3; omega) y
theorem MrW.pushU0 {g : GPair} (h : MrW w T S pa pb i j q cq vi vd vu GI GD P u) (hz : InRow u (w.heap.size + 3 + 1) g.2.1 ∧ InRow u (w.heap.size + 3 + 1) g.2.2) (hi : i < T.R.length) (hj : j < S.R.length) (m : Mg T.R S.R (i + 1) (j + 1)) (hn : getR (tAt T.R i).1 S.R = some (tAt S.R j).2) (hn2 : getR (tAt S.R j).1 T.R = some (tAt T.R i).2)
    (hg1 : unG g = ((tAt S.R j).1, (tAt T.R i).2, (tAt S.R j).2)) (hne : (tAt T.R i).2 ≠ (tAt S.R j).2) (rest : TRowsAt w q' (T.R.drop (i + 1))) (cap : T.R.length - (i + 1) ≤ cq')
    (ho : w8.ownsRow (w.heap.size + 3 + 1) 75 3 v8 (P ++ [g]).length (pcells (P ++ [g]))) (hg : u.grownBy w8 vu.ownBlock) :
    Cell4 w8 (w.heap.size + 3) (.string T.nm) vi vd vu ∧ MrW w T S pa pb (i + 1) (j + 1) q' cq' vi vd v8 GI GD (P ++ [g]) (w8.setCell ⟨w.heap.size + 3, 3, none⟩ v8) := by
  have hk : ∀ k, vu.ownBlock = some k → w.heap.size + 4 ≤ k := fun k hk => owns_block h.d.upd k hk
  obtain ⟨hc, hd⟩ := h.d.pushU0 hz ho hg
  refine ⟨hc, c4push0 h.a hg hk (by omega), c4push0 h.b hg hk (by omega), c4push0 h.r hg hk (by omega), hd, m, by rw [h.gi, delR_in hj hn2], by rw [h.gd, delR_in hi hn], by rw [List.map_append, h.gu, updR_in hj hn2 hne, ← hg1]; rfl, fun k hk2 => ?_, belpush0 h.bel hg hk, rest, cap⟩
  rcases Nat.lt_or_ge k j with hk3 | hk3
  · exact h.nw k hk3
  · obtain rfl : k = j := by omega
    exact .inl (by rw [hn2]; rfl)
theorem MrW.same (h : MrW w T S pa pb i j q cq vi vd vu GI GD P u) (hi : i < T.R.length) (hj : j < S.R.length) (m : Mg T.R S.R (i + 1) (j + 1)) (hn : getR (tAt T.R i).1 S.R = some (tAt S.R j).2) (hn2 : getR (tAt S.R j).1 T.R = some (tAt T.R i).2)
    (he : (tAt T.R i).2 = (tAt S.R j).2) (rest : TRowsAt w q' (T.R.drop (i + 1))) (cap : T.R.length - (i + 1) ≤ cq') : MrW w T S pa pb (i + 1) (j + 1) q' cq' vi vd vu GI GD P u := by
  refine ⟨h.a, h.b, h.r, h.d, m, by rw [h.gi, delR_in hj hn2], by rw [h.gd, delR_in hi hn], by rw [h.gu, updR_same hj (by rw [hn2, he])], fun k hk2 => ?_, h.bel, rest, cap⟩
  rcases Nat.lt_or_ge k j with hk3 | hk3
  · exact h.nw k hk3
  · obtain rfl : k = j := by omega
    exact .inl (by rw [hn2]; rfl)
/-- The box of the later row is none of the list's blocks. -/
theorem MrW.rowD {ob : Obj} {X : Nat} {bid : Int} {y y8 : Value} (h : MrW w T S pa pb i j q cq vi vd vu GI GD P u) (hx : Cell2 u X (.int .i64 bid) y) (hX : w.heap.size + 3 < X) (hb : getR bid S.R ≠ none) (hg : (u.alloc ob).grownBy w8 vd.ownBlock) : Cell2 (w8.setCell ⟨w.heap.size + 3, 2, none⟩ y8) X (.int .i64 bid) y := by
  have h7 := h.d.low (below_alloc u ob)
  have hx7 := hx.low (below_alloc u ob)
  have hne : vd.ownBlock ≠ some X := fun e => by
    have p1 : 0 < GD.length := Nat.pos_of_ne_zero fun e0 => by rw [h7.nd (List.eq_nil_of_length_eq_zero e0)] at e; cases e
    obtain ⟨g, c, hv, -⟩ := h7.del.slot p1
    obtain rfl : g = X := by rw [hv] at e; exact Option.some.inj e
    obtain ⟨e1, -⟩ := tcells_at GD 0 p1
    have ho := h7.del.own
    rw [hv] at ho
    obtain ⟨c', hp', -, hcell⟩ := own_cell ho e1
    cases hp'
    rw [Nat.zero_mul, Nat.zero_add, hx7.c0] at hcell
    injection hcell with hcell
    injection hcell with _ hcell
    have hm : ((grAt GD 0).1, (grAt GD 0).2.2) ∈ tabR GD := List.mem_map.2 ⟨_, grAt_mem p1, rfl⟩
    rw [h.gd] at hm
    have := (List.mem_filter.1 hm).2
    rw [← hcell] at this
    exact hb (by simpa using this)
  have hbk := hg.block X hx7.lt (fun e => hne e.symm)
  have hc : Cell2 w8 X (.int .i64 bid) y := ⟨Nat.lt_of_lt_of_le hx7.lt hg.size, by rw [World.cell?_of_block (w := u.alloc ob) hbk]; exact hx7.c0, by rw [World.cell?_of_block (w := u.alloc ob) hbk]; exact hx7.c1, fun o => by rw [World.frozen?_of_block (w := u.alloc ob) hbk]; exact hx7.fz o⟩
  exact hc.far (by omega) y8
theorem mrow_at {R : List TRow} (hi : i < R.length) (h : TRowsAt w q (R.drop i)) : ∃ (c o : Nat) (qa : Option Addr) (ca : Nat), q = some ⟨c, o, none⟩ ∧ c < w.heap.size ∧ w.cell? ⟨c, o, none⟩ = some (.int .i64 (tAt R i).1) ∧ w.cell? ⟨c, o + 1, none⟩ = some (.slice qa (tAt R i).2.length ca) ∧ RowAt w qa (tAt R i).2 ∧ (tAt R i).2.length * 32 ≤ 140737488355328 ∧ (qa = none → (tAt R i).2 = [] ∧ ca = 0) := by
  obtain ⟨c, o, qa, ca, hp, hc, h0, h1, h2, h3, h4⟩ := h 0 (by rw [List.length_drop]; omega)
  have e : tAt (R.drop i) 0 = tAt R i := by unfold tAt; rw [List.getD, List.getElem?_drop]; rfl
  rw [e] at h0 h1 h2 h3 h4
  exact ⟨c, o, qa, ca, hp, hc, h0, h1, h2, h3, h4⟩
theorem trows_cons {c o : Nat} {x : TRow} {R : List TRow} (h : TRowsAt w (some ⟨c, o, none⟩) (x :: R)) : TRowsAt w (some ⟨c, o + 2, none⟩) R := by
  intro k hk
  obtain ⟨c', o', q, cp, hp, hc, h0, h1, h2, h3, h4⟩ := h (k + 1) (by rw [List.length_cons]; omega)
  cases hp
  have e : tAt (x :: R) (k + 1) = tAt R k := rfl
  rw [e] at h0 h1 h2 h3 h4
  exact ⟨c, o + 2, q, cp, rfl, hc, by rw [show o + 2 + k * 2 = o + (k + 1) * 2 by omega]; exact h0, by rw [show o + 2 + k * 2 + 1 = o + (k + 1) * 2 + 1 by omega]; exact h1, h2, h3, h4⟩
theorem trows_next {c o : Nat} {R : List TRow} (hi : i < R.length) (h : TRowsAt w (some ⟨c, o, none⟩) (R.drop i)) : TRowsAt w (some ⟨c, o + 2, none⟩) (R.drop (i + 1)) := by
  rw [drop_trow hi] at h
  exact trows_cons h
theorem trows_end {R : List TRow} (hi : R.length ≤ i) (q : Option Addr) : TRowsAt w q (R.drop i) := fun k hk => by rw [List.length_drop] at hk; omega
theorem trows_none {R : List TRow} (h : R.length = 0) (q : Option Addr) : TRowsAt w q R := fun k hk => by omega
end
end Go.Proofs.YtlnbpobipmejfaaGreatDoor
