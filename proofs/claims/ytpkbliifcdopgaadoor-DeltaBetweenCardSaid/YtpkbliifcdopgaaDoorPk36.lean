/-
  Several texts in one.
-/
import Derived.Test.YtpkbliifcdopgaaDoorPk35
import Derived.Test.YtpkbliifcdopgaaDoorPk23
import Derived.Test.YtpkbliifcdopgaaDoorPk16
import Derived.Test.YtpkbliifcdopgaaDoorPk14
import Derived.Test.YtpkbliifcdopgaaDoorPk22
import Derived.Deep.RegionLaw
/-
  A difference in memory; a difference that is built row by row: its box, its three lists.
-/
namespace Go.Proofs.YtpkbliifcdopgaaDoor
set_option maxRecDepth 100000
open Go.RowKit
variable {ls : List Nat}

/-- A difference, as it lies in memory. -/
structure Dlt where
  nm : ByteArray
  pi : Option Addr
  ci : Nat
  I : List TRow
  pd : Option Addr
  cd : Nat
  D : List TRow
  pu : Option Addr
  cu : Nat
  U : List PRow
def Dlt.v (E : Dlt) : Value := .agg #[.string E.nm, .slice E.pi E.I.length E.ci, .slice E.pd E.D.length E.cd, .slice E.pu E.U.length E.cu]
structure DltAt (w : World) (E : Dlt) : Prop where
  name : E.nm.size ≤ 9223372036854775807
  ins : TRowsAt w E.pi E.I
  del : TRowsAt w E.pd E.D
  upd : PairsAt w E.pu E.U
  il : E.I.length ≤ 1000
  dl : E.D.length ≤ 9223372036854775807
  ul : E.U.length ≤ 9223372036854775807
  isz : ∀ r ∈ E.I, ValsSized r.2
  dsz : ∀ r ∈ E.D, ValsSized r.2
  osz : ∀ p ∈ E.U, ValsSized p.2.1
  usz : ∀ p ∈ E.U, ValsSized p.2.2
  icap : E.I.length ≤ E.ci
  dcap : E.D.length ≤ E.cd
  ucap : E.U.length ≤ E.cu
theorem DltAt.low {u v : World} {E : Dlt} (h : DltAt u E) (hb : Below u.heap.size u v) : DltAt v E := ⟨h.name, h.ins.low hb, h.del.low hb, h.upd.low hb, h.il, h.dl, h.ul, h.isz, h.dsz, h.osz, h.usz, h.icap, h.dcap, h.ucap⟩
def zeroDlt : Dlt := ⟨⟨#[]⟩, none, 0, [], none, 0, [], none, 0, []⟩
theorem zeroDlt_at (w : World) : DltAt w zeroDlt :=
  ⟨by decide, fun i hi => (by simp [zeroDlt] at hi), fun i hi => (by simp [zeroDlt] at hi), fun i hi => (by simp [zeroDlt] at hi), Nat.zero_le _, Nat.zero_le _, Nat.zero_le _, fun r hr => (by simp [zeroDlt] at hr), fun r hr => (by simp [zeroDlt] at hr), fun r hr => (by simp [zeroDlt] at hr), fun r hr => (by simp [zeroDlt] at hr), Nat.le_refl _, Nat.le_refl _, Nat.le_refl _⟩
/-- The difference lies at or above the block lo: what is written below does not touch it. -/
def DltFree (lo : Nat) (u : World) (E : Dlt) : Prop := ∀ v, u.heap.size ≤ v.heap.size → (∀ k, lo ≤ k → k < u.heap.size → v.heap[k]? = u.heap[k]?) → DltAt v E
theorem DltFree.at {lo : Nat} {u : World} {E : Dlt} (h : DltFree lo u E) : DltAt u E := h u (Nat.le_refl _) fun _ _ _ => rfl
theorem DltFree.to {lo lo' : Nat} {u v : World} {E : Dlt} (h : DltFree lo u E) (hl : lo' ≤ lo) (hz : u.heap.size ≤ v.heap.size) (hk : ∀ k, lo ≤ k → k < u.heap.size → v.heap[k]? = u.heap[k]?) : DltFree lo' v E := fun x hx hkx =>
  h x (Nat.le_trans hz hx) fun k h1 h2 => (hkx k (Nat.le_trans hl h1) (Nat.lt_of_lt_of_le h2 hz)).trans (hk k h1 h2)
theorem DltFree.low {lo : Nat} {u v : World} {E : Dlt} (h : DltFree lo u E) (hb : Below u.heap.size u v) : DltFree lo v E := h.to (Nat.le_refl _) hb.size fun k _ h2 => hb.block k h2
theorem four_sets {u : World} {X k : Nat} {a b c d : Value} (hk : k ≠ X) : ((((u.setCell ⟨X, 0, none⟩ a).setCell ⟨X, 1, none⟩ b).setCell ⟨X, 2, none⟩ c).setCell ⟨X, 3, none⟩ d).heap[k]? = u.heap[k]? := by
  rw [Below.heap_setCell _ _ _ _ hk, Below.heap_setCell _ _ _ _ hk, Below.heap_setCell _ _ _ _ hk, Below.heap_setCell _ _ _ _ hk]
/-- What Between gives. -/
def BetweenPost (T S : Tab) (w : World) (e : Ending) (w' : World) : Prop := ∃ E : Dlt, e = .returned (.tuple #[.agg #[.string E.nm, .slice E.pi E.I.length E.ci, .slice E.pd E.D.length E.cd, .slice E.pu E.U.length E.cu], .bool (btwO T S)]) ∧ DltFree w.heap.size w' E ∧ Below w.heap.size w w' ∧
  ((btwO T S = true ∧ E.nm = T.nm ∧ E.I = insR T.R S.R ∧ E.D = delR T.R S.R ∧ E.U = updR T.R S.R) ∨ (btwO T S = false ∧ E.nm = ⟨#[]⟩ ∧ E.I = [] ∧ E.D = [] ∧ E.U = []))
/-- The difference that is built in the box X: numbers of the rows that left are less than N, of those that came they are not. -/
structure DltW (N : Int) (X : Nat) (nm : ByteArray) (vi vd vu : Value) (GI GD : List GRow) (P : List GPair) (v : World) : Prop where
  box : Cell4 v X (.string nm) vi vd vu
  ins : TOwn v (X + 1) vi GI
  del : TOwn v (X + 1) vd GD
  upd : v.ownsRow (X + 1) 69 3 vu P.length (pcells P)
  unn : ∀ p ∈ P, InRow v (X + 1) p.2.1 ∧ InRow v (X + 1) p.2.2
  lo : ∀ g ∈ GD, g.1 < N
  hi : ∀ g ∈ GI, N ≤ g.1
  ni : GI = [] → vi = .slice none 0 0
  nd : GD = [] → vd = .slice none 0 0
section
variable {N : Int} {X : Nat} {nm : ByteArray} {u v w8 : World} {vi vd vu v8 : Value} {GI GD : List GRow} {P : List GPair}
theorem InRow.keep2 {base : Nat} {x : Value × List Val} (h : InRow u base x) (hk : ∀ k, base ≤ k → k < u.heap.size → v.heap[k]? = u.heap[k]?) : InRow v base x :=
  ⟨owns_keep h.1 fun k hk' => hk k (owns_block h.1 k hk') (owns_lt h.1 k hk'), h.2⟩
theorem DltW.keep (h : DltW N X nm vi vd vu GI GD P u) (hz : u.heap.size ≤ v.heap.size) (hk : ∀ k, X ≤ k → k < u.heap.size → v.heap[k]? = u.heap[k]?) : DltW N X nm vi vd vu GI GD P v := by
  have hX : v.heap[X]? = u.heap[X]? := hk X (Nat.le_refl _) h.box.lt
  have hk1 : ∀ k, X + 1 ≤ k → k < u.heap.size → v.heap[k]? = u.heap[k]? := fun k h1 h2 => hk k (by omega) h2
  exact ⟨⟨Nat.lt_of_lt_of_le h.box.lt hz, by rw [World.cell?_of_block (w := u) hX]; exact h.box.c0, by rw [World.cell?_of_block (w := u) hX]; exact h.box.c1, by rw [World.cell?_of_block (w := u) hX]; exact h.box.c2, by rw [World.cell?_of_block (w := u) hX]; exact h.box.c3, fun o => by rw [World.frozen?_of_block (w := u) hX]; exact h.box.fz o⟩,
    h.ins.keep hk1, h.del.keep hk1, owns_keep h.upd fun k hk' => hk1 k (owns_block h.upd k hk') (owns_lt h.upd k hk'), fun p hp => ⟨(h.unn p hp).1.keep2 hk1, (h.unn p hp).2.keep2 hk1⟩, h.lo, h.hi, h.ni, h.nd⟩
theorem DltW.low (h : DltW N X nm vi vd vu GI GD P u) (hb : Below u.heap.size u v) : DltW N X nm vi vd vu GI GD P v := h.keep hb.size fun k _ h2 => hb.block k h2
theorem dltw_new (w : World) (N : Int) (nm : ByteArray) : DltW N w.heap.size nm (.slice none 0 0) (.slice none 0 0) (.slice none 0 0) [] [] [] (w.alloc (.cells #[.string nm, .slice none 0 0, .slice none 0 0, .slice none 0 0] 48)) :=
  ⟨cell4_new w _ _ _ _ _, TOwn.nil _ _, TOwn.nil _ _, ⟨rfl, Or.inl ⟨rfl, rfl⟩⟩, fun p hp => (by cases hp), fun p hp => (by cases hp), fun p hp => (by cases hp), fun _ => rfl, fun _ => rfl⟩
theorem own_keepG {base n size : Nat} {e : TypeId} {x : Value} {xs : List Value} {row : Option Nat} (h : u.ownsRow base e size x n xs) (hg : u.grownBy v row) (ha : ∀ k, x.ownBlock = some k → row ≠ some k) : v.ownsRow base e size x n xs :=
  owns_keep h fun k hk => hg.block k (owns_lt h k hk) (fun e0 => ha k hk e0.symm)
theorem InRow.keepT {base base' n' size' : Nat} {e' : TypeId} {x : Value × List Val} {y : Value} {ys : List Value} (h : InRow u base x) (ho : u.ownsRow base' e' size' y n' ys) (he : 71 ≠ e') (hg : u.grownBy v y.ownBlock) : InRow v base x :=
  ⟨own_keepG h.1 hg fun k hk e0 => owns_apart h.1 ho he k hk e0, h.2⟩
/-- The two lists of rows lie in different blocks: their first numbers differ. -/
theorem rows_not {b b' : Nat} {v1 v2 : Value} {G1 G2 : List GRow} (h : u.ownsRow b 60 2 v1 G1.length (tcells G1)) (h' : u.ownsRow b' 60 2 v2 G2.length (tcells G2)) (h1 : ∀ g ∈ G1, g.1 < N) (h2 : ∀ g ∈ G2, N ≤ g.1) (n1 : G1 = [] → v1 = .slice none 0 0) (n2 : G2 = [] → v2 = .slice none 0 0) (k : Nat) (hk : v1.ownBlock = some k) : v2.ownBlock ≠ some k := by
  intro hk'
  have p1 : 0 < G1.length := Nat.pos_of_ne_zero fun e => by rw [n1 (List.eq_nil_of_length_eq_zero e)] at hk; cases hk
  have p2 : 0 < G2.length := Nat.pos_of_ne_zero fun e => by rw [n2 (List.eq_nil_of_length_eq_zero e)] at hk'; cases hk'
  rcases h.2 with ⟨rfl, -⟩ | ⟨g, cap, cur, rfl, hg, hh, hcap, hm, hcur, htake⟩
  · cases hk
  rcases h'.2 with ⟨rfl, -⟩ | ⟨g', cap', cur', rfl, hg', hh', hcap', hm', hcur', htake'⟩
  · cases hk'
  obtain rfl : g = k := Option.some.inj hk
  obtain rfl : g' = g := Option.some.inj hk'
  rw [hh] at hh'
  injection hh' with hh'
  injection hh' with hc
  subst hc
  have e1 := (tcells_at G1 0 p1).1
  have e2 := (tcells_at G2 0 p2).1
  have c1 : cur.toList[0]? = (tcells G1)[0]? := by rw [← htake, List.getElem?_take, if_pos (by omega)]
  have c2 : cur.toList[0]? = (tcells G2)[0]? := by rw [← htake', List.getElem?_take, if_pos (by omega)]
  rw [Nat.zero_mul] at e1 e2
  rw [c1, e1] at c2
  rw [e2] at c2
  injection c2 with c2
  injection c2 with _ c2
  have := h1 _ (grAt_mem p1)
  have := h2 _ (grAt_mem p2)
  omega
theorem c4grown {a b c d : Value} {row : Option Nat} (h : Cell4 u X a b c d) (hg : u.grownBy v row) (hr : ∀ k, row = some k → X < k) : Cell4 v X a b c d := h.grown hg hr
theorem ne_nil_app {G : List GRow} {g : GRow} : G ++ [g] = [] → vd = .slice none 0 0 := fun h => by simp at h
/-- A row that left is added. -/
theorem DltW.pushD0 {g : GRow} (h : DltW N X nm vi vd vu GI GD P u) (hz : InRow u (X + 1) (g.2.1, g.2.2)) (hN : g.1 < N) (ho : w8.ownsRow (X + 1) 60 2 v8 (GD ++ [g]).length (tcells (GD ++ [g]))) (hg : u.grownBy w8 vd.ownBlock) :
    Cell4 w8 X (.string nm) vi vd vu ∧ DltW N X nm vi v8 vu GI (GD ++ [g]) P (w8.setCell ⟨X, 2, none⟩ v8) := by
  have h7 := h
  have hk : ∀ k, vd.ownBlock = some k → X + 1 ≤ k := fun k hk => owns_block h.del.own k hk
  have hc := c4grown h7.box hg (fun k hk' => by have := hk k hk'; omega)
  have hr : ∀ {x : Value × List Val}, InRow u (X + 1) x → InRow w8 (X + 1) x := fun hx => hx.keepT h7.del.own (by decide) hg
  have hI : TOwn w8 (X + 1) vi GI := ⟨own_keepG h7.ins.own hg fun k hk' e => rows_not h7.del.own h7.ins.own h7.lo h7.hi h7.nd h7.ni k e hk', fun q hq => hr (h7.ins.inn q hq)⟩
  have hU : w8.ownsRow (X + 1) 69 3 vu P.length (pcells P) := own_keepG h7.upd hg fun k hk' e => owns_apart h7.upd h7.del.own (by decide) k hk' e
  have hD : TOwn w8 (X + 1) v8 (GD ++ [g]) := ⟨ho, fun q hq => by
    rcases List.mem_append.1 hq with hq | hq
    · exact hr (h7.del.inn q hq)
    · obtain rfl := List.mem_singleton.1 hq
      exact hr hz⟩
  exact ⟨hc, hc.set2 v8, hI.set (Nat.lt_succ_self X) _, hD.set (Nat.lt_succ_self X) _, chX hU, fun p hp => ⟨((hr (h7.unn p hp).1).keep2 fun k h1 _ => Below.heap_setCell _ _ _ _ (by show k ≠ X; omega)), ((hr (h7.unn p hp).2).keep2 fun k h1 _ => Below.heap_setCell _ _ _ _ (by show k ≠ X; omega))⟩, fun q hq => by
    rcases List.mem_append.1 hq with hq | hq
    · exact h.lo q hq
    · obtain rfl := List.mem_singleton.1 hq
      exact hN, h.hi, h.ni, fun e => by simp at e⟩
theorem DltW.pushD {o : Obj} {g : GRow} (h : DltW N X nm vi vd vu GI GD P u) (hz : InRow u (X + 1) (g.2.1, g.2.2)) (hN : g.1 < N) (ho : w8.ownsRow (X + 1) 60 2 v8 (GD ++ [g]).length (tcells (GD ++ [g]))) (hg : (u.alloc o).grownBy w8 vd.ownBlock) :
    Cell4 w8 X (.string nm) vi vd vu ∧ DltW N X nm vi v8 vu GI (GD ++ [g]) P (w8.setCell ⟨X, 2, none⟩ v8) :=
  (h.low (below_alloc u o)).pushD0 (hz.low (below_alloc u o)) hN ho hg
/-- A row that came is added. -/
theorem DltW.pushI0 {g : GRow} (h : DltW N X nm vi vd vu GI GD P u) (hz : InRow u (X + 1) (g.2.1, g.2.2)) (hN : N ≤ g.1) (ho : w8.ownsRow (X + 1) 60 2 v8 (GI ++ [g]).length (tcells (GI ++ [g]))) (hg : u.grownBy w8 vi.ownBlock) :
    Cell4 w8 X (.string nm) vi vd vu ∧ DltW N X nm v8 vd vu (GI ++ [g]) GD P (w8.setCell ⟨X, 1, none⟩ v8) := by
  have h7 := h
  have hk : ∀ k, vi.ownBlock = some k → X + 1 ≤ k := fun k hk => owns_block h.ins.own k hk
  have hc := c4grown h7.box hg (fun k hk' => by have := hk k hk'; omega)
  have hr : ∀ {x : Value × List Val}, InRow u (X + 1) x → InRow w8 (X + 1) x := fun hx => hx.keepT h7.ins.own (by decide) hg
  have hD : TOwn w8 (X + 1) vd GD := ⟨own_keepG h7.del.own hg fun k hk' e => rows_not h7.del.own h7.ins.own h7.lo h7.hi h7.nd h7.ni k hk' e, fun q hq => hr (h7.del.inn q hq)⟩
  have hU : w8.ownsRow (X + 1) 69 3 vu P.length (pcells P) := own_keepG h7.upd hg fun k hk' e => owns_apart h7.upd h7.ins.own (by decide) k hk' e
  have hI : TOwn w8 (X + 1) v8 (GI ++ [g]) := ⟨ho, fun q hq => by
    rcases List.mem_append.1 hq with hq | hq
    · exact hr (h7.ins.inn q hq)
    · obtain rfl := List.mem_singleton.1 hq
      exact hr hz⟩
  exact ⟨hc, hc.set1 v8, hI.set (Nat.lt_succ_self X) _, hD.set (Nat.lt_succ_self X) _, chX hU, fun p hp => ⟨((hr (h7.unn p hp).1).keep2 fun k h1 _ => Below.heap_setCell _ _ _ _ (by show k ≠ X; omega)), ((hr (h7.unn p hp).2).keep2 fun k h1 _ => Below.heap_setCell _ _ _ _ (by show k ≠ X; omega))⟩, h.lo, fun q hq => by
    rcases List.mem_append.1 hq with hq | hq
    · exact h.hi q hq
    · obtain rfl := List.mem_singleton.1 hq
      exact hN, fun e => by simp at e, h.nd⟩
theorem DltW.pushI {o : Obj} {g : GRow} (h : DltW N X nm vi vd vu GI GD P u) (hz : InRow u (X + 1) (g.2.1, g.2.2)) (hN : N ≤ g.1) (ho : w8.ownsRow (X + 1) 60 2 v8 (GI ++ [g]).length (tcells (GI ++ [g]))) (hg : (u.alloc o).grownBy w8 vi.ownBlock) :
    Cell4 w8 X (.string nm) vi vd vu ∧ DltW N X nm v8 vd vu (GI ++ [g]) GD P (w8.setCell ⟨X, 1, none⟩ v8) :=
  (h.low (below_alloc u o)).pushI0 (hz.low (below_alloc u o)) hN ho hg
/-- An update is added. -/
theorem DltW.pushU0 {p : GPair} (h : DltW N X nm vi vd vu GI GD P u) (hz : InRow u (X + 1) p.2.1 ∧ InRow u (X + 1) p.2.2) (ho : w8.ownsRow (X + 1) 69 3 v8 (P ++ [p]).length (pcells (P ++ [p]))) (hg : u.grownBy w8 vu.ownBlock) :
    Cell4 w8 X (.string nm) vi vd vu ∧ DltW N X nm vi vd v8 GI GD (P ++ [p]) (w8.setCell ⟨X, 3, none⟩ v8) := by
  have h7 := h
  have hk : ∀ k, vu.ownBlock = some k → X + 1 ≤ k := fun k hk => owns_block h.upd k hk
  have hc := c4grown h7.box hg (fun k hk' => by have := hk k hk'; omega)
  have hr : ∀ {x : Value × List Val}, InRow u (X + 1) x → InRow w8 (X + 1) x := fun hx => hx.keepT h7.upd (by decide) hg
  have hI : TOwn w8 (X + 1) vi GI := ⟨own_keepG h7.ins.own hg fun k hk' e => owns_apart h7.ins.own h7.upd (by decide) k hk' e, fun q hq => hr (h7.ins.inn q hq)⟩
  have hD : TOwn w8 (X + 1) vd GD := ⟨own_keepG h7.del.own hg fun k hk' e => owns_apart h7.del.own h7.upd (by decide) k hk' e, fun q hq => hr (h7.del.inn q hq)⟩
  exact ⟨hc, hc.set3 v8, hI.set (Nat.lt_succ_self X) _, hD.set (Nat.lt_succ_self X) _, chX ho, fun q hq => by
    have hq' : InRow w8 (X + 1) q.2.1 ∧ InRow w8 (X + 1) q.2.2 := by
      rcases List.mem_append.1 hq with hq | hq
      · exact ⟨hr (h7.unn q hq).1, hr (h7.unn q hq).2⟩
      · obtain rfl := List.mem_singleton.1 hq
        exact ⟨hr hz.1, hr hz.2⟩
    exact ⟨hq'.1.keep2 fun k h1 _ => Below.heap_setCell _ _ _ _ (by show k ≠ X; omega), hq'.2.keep2 fun k h1 _ => Below.heap_setCell _ _ _ _ (by show k ≠ X; omega)⟩, h.lo, h.hi, h.ni, h.nd⟩
theorem DltW.pushU {o : Obj} {p : GPair} (h : DltW N X nm vi vd vu GI GD P u) (hz : InRow u (X + 1) p.2.1 ∧ InRow u (X + 1) p.2.2) (ho : w8.ownsRow (X + 1) 69 3 v8 (P ++ [p]).length (pcells (P ++ [p]))) (hg : (u.alloc o).grownBy w8 vu.ownBlock) :
    Cell4 w8 X (.string nm) vi vd vu ∧ DltW N X nm vi vd v8 GI GD (P ++ [p]) (w8.setCell ⟨X, 3, none⟩ v8) :=
  (h.low (below_alloc u o)).pushU0 ⟨hz.1.low (below_alloc u o), hz.2.low (below_alloc u o)⟩ ho hg
abbrev unG (p : GPair) : PRow := (p.1, p.2.1.2, p.2.2.2)
/-- The difference that was built. -/
theorem DltW.at {pi pd pu : Option Addr} {mi md mu ci cd cu : Nat} (h : DltW N X nm (.slice pi mi ci) (.slice pd md cd) (.slice pu mu cu) GI GD P u) (hn : nm.size ≤ 9223372036854775807) (hI : GI.length ≤ 1000) (hD : GD.length ≤ 1000) (hU : P.length ≤ 1000) (si : ∀ r ∈ tabR GI, ValsSized r.2) (sd : ∀ r ∈ tabR GD, ValsSized r.2) (so : ∀ p ∈ P.map unG, ValsSized p.2.1) (su : ∀ p ∈ P.map unG, ValsSized p.2.2) :
    DltAt u ⟨nm, pi, ci, tabR GI, pd, cd, tabR GD, pu, cu, P.map unG⟩ ∧ mi = (tabR GI).length ∧ md = (tabR GD).length ∧ mu = (P.map unG).length := by
  have h1 := owns_cap h.ins.own
  have h2 := owns_cap h.del.own
  have h3 := owns_cap h.upd
  refine ⟨⟨hn, h.ins.rows, h.del.rows, fun i hi => ?_, by dsimp only; rw [tabR_length]; exact hI, by dsimp only; rw [tabR_length]; omega, by dsimp only; rw [List.length_map]; omega, si, sd, so, su, by dsimp only; rw [tabR_length]; omega, by dsimp only; rw [tabR_length]; omega, by dsimp only; rw [List.length_map]; omega⟩, by rw [tabR_length]; omega, by rw [tabR_length]; omega, by rw [List.length_map]; omega⟩
  dsimp only at hi ⊢
  have hi' : i < P.length := by rw [List.length_map] at hi; exact hi
  obtain ⟨hn1, hn2⟩ := h.unn _ (List.getElem_mem hi')
  obtain ⟨hv, hr, hq⟩ := owned_shape hn1.1
  obtain ⟨hv', hr', hq'⟩ := owned_shape hn2.1
  obtain ⟨e0, e1, e2⟩ := pcells_at P i hi'
  obtain ⟨c, hp, hc, k0⟩ := own_cell h.upd e0
  obtain ⟨c', hp', -, k1⟩ := own_cell h.upd e1
  rw [hp] at hp'
  cases hp'
  obtain ⟨c', hp', -, k2⟩ := own_cell h.upd e2
  rw [hp] at hp'
  cases hp'
  have e : pAt (P.map unG) i = unG P[i] := by rw [pAt_get hi, List.getElem_map]
  rw [e]
  exact ⟨c, 0, _, _, _, _, hp, hc, k0, by rw [← hv]; exact k1, by rw [← hv']; exact k2, hr, hr', hn1.2, hn2.2, hq, hq'⟩
end
end Go.Proofs.YtpkbliifcdopgaaDoor
/-
  Package delta and its reference: copies of rows, equality of rows and of schemas.
-/
namespace Go.Proofs.YtpkbliifcdopgaaDoor
set_option maxRecDepth 100000
open Go.RowKit
variable {ls : List Nat}

/-- What a copy of a row gives. -/
def CopyRowPost (id : Int) (t : List Val) (w : World) (e : Ending) (w' : World) : Prop := ∃ v : Value, e = .returned (.agg #[.int .i64 id, v]) ∧ InRow w' w.heap.size (v, t) ∧ Below w.heap.size w w'
theorem cell2_row (w : World) (id : Int) (y : Value) : Cell2 (w.alloc (.cells #[.int .i64 id, y] 60)) w.heap.size (.int .i64 id) y := cell2_new w _ _ _
theorem cell2_put (u : World) {X : Nat} {a b : Value} (h : Cell2 u X a b) (x y : Value) : Cell2 ((u.setCell ⟨X, 0, none⟩ x).setCell ⟨X, 1, none⟩ y) X x y := by
  obtain ⟨hl, c0, c1, fz⟩ := h
  refine ⟨by simpa [World.setCell] using hl, ?_, ?_, fun o => ?_⟩
  · go_simp
  · go_simp
  · rw [World.frozen?_setCell, World.frozen?_setCell]; exact fz o
set_option maxHeartbeats 1000000 in
theorem dcopy_any (t : List Val) (q : Option Addr) (cp : Nat) (w : World) (hr : RowAt w q t) (hz : t.length * 32 ≤ 140737488355328) (hn : q = none → t = [] ∧ cp = 0) :
    Calls Tryd.prog 83 #[.slice q t.length cp] w (CopyPost t w) := by
  have hown0 : w.ownsRow w.heap.size 71 3 (.slice none 0 0) 0 (vcells []) := ⟨rfl, Or.inl ⟨rfl, rfl⟩⟩
  have HO := Lib.hid hown0
  have HR := Lib.hid hr
  clear hown0 hr
  go_enter Tryd.func83, Tryd.ntmps83
  go_wp2_with (at_builtin; refine wpList_append_vals rfl _ (.tmp 3) rfl w.heap.size _ 0 [] rfl HO.out q t cp rfl HR.out hn (by omega) (Nat.le_refl _) ?_; intro v2 w2 hown2 hgr2)
  go_ret
  rw [Nat.zero_add, List.nil_append] at hown2
  exact ⟨_, rfl, ⟨hown2, hz⟩, grown_below (Below.refl _ _) (Nat.le_refl _) hgr2 (fun k hk => by cases hk)⟩
set_option maxHeartbeats 2000000 in
theorem dcopyrow_any (id : Int) (t : List Val) (q : Option Addr) (cp : Nat) (w : World) (hr : RowAt w q t) (hz : t.length * 32 ≤ 140737488355328) (hn : q = none → t = [] ∧ cp = 0) :
    Calls Tryd.prog 81 #[.agg #[.int .i64 id, .slice q t.length cp]] w (CopyRowPost id t w) := by
  have HX := Lib.hid ((cell2_row w id (.slice q t.length cp)).low (below_alloc _ (.cells #[.int .i64 0, .slice none 0 0] 60)))
  have hy := cell2_row (w.alloc (.cells #[.int .i64 id, .slice q t.length cp] 60)) 0 (.slice none 0 0)
  rw [size_alloc] at hy
  have HY := Lib.hid hy
  have hb0 := below_new (below_new (Below.refl w.heap.size w) (.cells #[.int .i64 id, .slice q t.length cp] 60)) (.cells #[.int .i64 0, .slice none 0 0] 60)
  have HB := Lib.hid hb0
  have HR := Lib.hid (hr.low hb0)
  have HN := Lib.hid hn
  clear hy hb0 hr hn
  go_enter Tryd.func81, Tryd.ntmps81
  go_upto_region 1 with (fail)
  generalize World.alloc _ _ = W1 at HX HY HB HR ⊢
  obtain ⟨xl, x0, x1, -⟩ := HX.out
  have HRD := Lib.hid (HR.out.low (Below.refl W1.heap.size W1).drew)
  have HXD := Lib.hid (HX.out.low (Below.refl W1.heap.size W1).drew)
  have HYD := Lib.hid (HY.out.low (Below.refl W1.heap.size W1).drew)
  have HBD := Lib.hid (below_next HB.out (Below.refl W1.heap.size W1).drew)
  go_region_law (first
    | (go_simp; go_at_call 83; refine (dcopy_any t q cp _ HRD.out hz HN.out).mono ?_; rintro e w3 ⟨v3, rfl, hin, hb3⟩; obtain ⟨p3, c3, e3⟩ := InRow.ex hin; subst e3; (have HIN := Lib.hid hin); (have HB3 := Lib.hid hb3); obtain ⟨zl, z0, z1, -⟩ := HXD.out.low hb3; obtain ⟨yl, y0, y1, yf⟩ := HYD.out.low hb3; clear hin hb3))
  all_goals
    go_wp2
    have hz0 : w.heap.size + 1 < W1.heap.size := HY.out.lt
    have HS := cell2_put w3 (HYD.out.low HB3.out) (.int .i64 id) (.slice p3 t.length c3)
    obtain ⟨-, s0, s1, -⟩ := HS
    exact bodyPost_ret (v := .agg #[.int .i64 id, .slice p3 t.length c3]) (by simp [results, Tryd.results81, go_sem, s0, s1]) rfl
      ⟨_, rfl, (HIN.out.base (show w.heap.size + 2 ≤ W1.drew.heap.size from by show w.heap.size + 2 ≤ W1.heap.size; omega)).keep2 (fun k h1 _ => by rw [Below.heap_setCell _ _ _ _ (show k ≠ w.heap.size + 1 by omega), Below.heap_setCell _ _ _ _ (show k ≠ w.heap.size + 1 by omega)]) |>.base (by omega),
        ((below_next HBD.out HB3.out).setCell (by show w.heap.size ≤ w.heap.size + 1; omega) _).setCell (by show w.heap.size ≤ w.heap.size + 1; omega) _⟩
theorem dsamerow_any (p q : Option Addr) (a b : List Val) (ca cb : Nat) (w : World) (hla : a.length ≤ 9223372036854775807) (ha : RowAt w p a) (hb : RowAt w q b) :
    Calls Tryd.prog 82 #[.slice p a.length ca, .slice q b.length cb] w fun e w' => e = .returned (.bool (decide (a = b))) ∧ Below w.heap.size w w' := by
  have HA := Lib.hid ha
  have HB := Lib.hid hb
  clear ha hb
  go_enter Tryd.func82, Tryd.ntmps82
  go_wp2_with fail
  refine (eqvals_any p q a b ca cb _ hla HA.out HB.out).mono ?_
  rintro e w2 ⟨rfl, hb2⟩
  have HC := Lib.hid hb2
  clear hb2
  go_wp2
  go_ret
  exact ⟨rfl, HC.out⟩
set_option maxHeartbeats 2000000 in
theorem rcopyrow_any (id : Int) (t : List Val) (q : Option Addr) (cp : Nat) (w : World) (hr : RowAt w q t) (hz : t.length * 32 ≤ 140737488355328) (hn : q = none → t = [] ∧ cp = 0) :
    Calls Tryd.prog 46 #[.agg #[.int .i64 id, .slice q t.length cp]] w (CopyRowPost id t w) := by
  have HX := Lib.hid ((cell2_row w id (.slice q t.length cp)).low (below_alloc _ (.cells #[.int .i64 0, .slice none 0 0] 60)))
  have hy := cell2_row (w.alloc (.cells #[.int .i64 id, .slice q t.length cp] 60)) 0 (.slice none 0 0)
  rw [size_alloc] at hy
  have HY := Lib.hid hy
  have hb0 := below_new (below_new (Below.refl w.heap.size w) (.cells #[.int .i64 id, .slice q t.length cp] 60)) (.cells #[.int .i64 0, .slice none 0 0] 60)
  have HB := Lib.hid hb0
  have HR := Lib.hid (hr.low hb0)
  have HN := Lib.hid hn
  clear hy hb0 hr hn
  go_enter Tryd.func46, Tryd.ntmps46
  go_upto_region 1 with (fail)
  generalize World.alloc _ _ = W1 at HX HY HB HR ⊢
  obtain ⟨xl, x0, x1, -⟩ := HX.out
  have HRD := Lib.hid (HR.out.low (Below.refl W1.heap.size W1).drew)
  have HXD := Lib.hid (HX.out.low (Below.refl W1.heap.size W1).drew)
  have HYD := Lib.hid (HY.out.low (Below.refl W1.heap.size W1).drew)
  have HBD := Lib.hid (below_next HB.out (Below.refl W1.heap.size W1).drew)
  go_region_law (first
    | (go_simp; go_at_call 48; refine (rcopy_any t q cp _ HRD.out hz HN.out).mono ?_; rintro e w3 ⟨v3, rfl, hin, hb3⟩; obtain ⟨p3, c3, e3⟩ := InRow.ex hin; subst e3; (have HIN := Lib.hid hin); (have HB3 := Lib.hid hb3); obtain ⟨zl, z0, z1, -⟩ := HXD.out.low hb3; obtain ⟨yl, y0, y1, yf⟩ := HYD.out.low hb3; clear hin hb3))
  all_goals
    go_wp2
    have hz0 : w.heap.size + 1 < W1.heap.size := HY.out.lt
    have HS := cell2_put w3 (HYD.out.low HB3.out) (.int .i64 id) (.slice p3 t.length c3)
    obtain ⟨-, s0, s1, -⟩ := HS
    exact bodyPost_ret (v := .agg #[.int .i64 id, .slice p3 t.length c3]) (by simp [results, Tryd.results46, go_sem, s0, s1]) rfl
      ⟨_, rfl, (HIN.out.base (show w.heap.size + 2 ≤ W1.drew.heap.size from by show w.heap.size + 2 ≤ W1.heap.size; omega)).keep2 (fun k h1 _ => by rw [Below.heap_setCell _ _ _ _ (show k ≠ w.heap.size + 1 by omega), Below.heap_setCell _ _ _ _ (show k ≠ w.heap.size + 1 by omega)]) |>.base (by omega),
        ((below_next HBD.out HB3.out).setCell (by show w.heap.size ≤ w.heap.size + 1; omega) _).setCell (by show w.heap.size ≤ w.heap.size + 1; omega) _⟩
end Go.Proofs.YtpkbliifcdopgaaDoor
