/-
  Several texts in one.
-/
import Derived.Test.YtlnbpobipmejfaaGreatDoorPk34
import Derived.Deep.LoopGhost
/-
  merge of package delta: both tables' rows gone through at once.
-/
namespace Go.Proofs.YtlnbpobipmejfaaGreatDoor
set_option maxRecDepth 100000
open Go.RowKit
variable {ls : List Nat}

/-- What merge gives. -/
def MergePost (T S : Tab) (w : World) (e : Ending) (w' : World) : Prop := ∃ E : Dlt, e = .returned (.tuple #[.agg #[.string E.nm, .slice E.pi E.I.length E.ci, .slice E.pd E.D.length E.cd, .slice E.pu E.U.length E.cu], .bool (newB T.nx T.R S.R)]) ∧ DltFree w.heap.size w' E ∧ Below w.heap.size w w' ∧
  ((newB T.nx T.R S.R = true ∧ E.nm = T.nm ∧ E.I = insR T.R S.R ∧ E.D = delR T.R S.R ∧ E.U = updR T.R S.R) ∨ (newB T.nx T.R S.R = false ∧ E.nm = ⟨#[]⟩ ∧ E.I = [] ∧ E.D = [] ∧ E.U = []))
/-- The lists of a difference that is built from the rows before i and j. -/
structure MrW (w : World) (T S : Tab) (pa pb : Option Addr) (i j : Nat) (q : Option Addr) (cq : Nat) (vi vd vu : Value) (GI GD : List GRow) (P : List GPair) (v : World) : Prop where
  a : Cell4 v w.heap.size (.string T.nm) (.slice T.pc T.n T.cc) (.int .i64 T.nx) (.slice pa T.R.length T.cr)
  b : Cell4 v (w.heap.size + 1) (.string S.nm) (.slice S.pc S.n S.cc) (.int .i64 S.nx) (.slice pb S.R.length S.cr)
  r : Cell4 v (w.heap.size + 2) (.string ⟨#[]⟩) (.slice none 0 0) (.slice none 0 0) (.slice none 0 0)
  d : DltW T.nx (w.heap.size + 3) T.nm vi vd vu GI GD P v
  mg : Mg T.R S.R i j
  gi : tabR GI = (S.R.take j).filter (fun r => (getR r.1 T.R).isNone)
  gd : tabR GD = (T.R.take i).filter (fun r => (getR r.1 S.R).isNone)
  gu : P.map unG = (S.R.take j).filterMap (updP T.R)
  nw : ∀ k, k < j → (getR (tAt S.R k).1 T.R).isSome = true ∨ T.nx ≤ (tAt S.R k).1
  bel : Below w.heap.size w v
  rest : TRowsAt w q (T.R.drop i)
  cap : T.R.length - i ≤ cq
section
variable {w u v w8 : World} {T S : Tab} {pa pb : Option Addr} {i j : Nat} {q q' : Option Addr} {cq cq' : Nat} {vi vd vu v8 : Value} {GI GD : List GRow} {P : List GPair}
theorem MrW.low (h : MrW w T S pa pb i j q cq vi vd vu GI GD P u) (hb : Below u.heap.size u v) : MrW w T S pa pb i j q cq vi vd vu GI GD P v :=
  ⟨h.a.low hb, h.b.low hb, h.r.low hb, h.d.low hb, h.mg, h.gi, h.gd, h.gu, h.nw, below_next h.bel hb, h.rest, h.cap⟩
theorem MrW.lo (h : MrW w T S pa pb i j q cq vi vd vu GI GD P u) : w.heap.size + 3 < u.heap.size := h.d.box.lt
/-- What lies below the difference's box stays. -/
theorem c4push {X o : Nat} {a b c d y : Value} {row : Option Nat} {ob : Obj} (h : Cell4 u X a b c d) (hg : (u.alloc ob).grownBy w8 row) (hr : ∀ k, row = some k → w.heap.size + 4 ≤ k) (hX : X < w.heap.size + 3) : Cell4 (w8.setCell ⟨w.heap.size + 3, o, none⟩ y) X a b c d :=
  ((h.low (below_alloc u ob)).grown hg (fun k hk => by have := hr k hk; omega)).far (by omega) y
theorem belpush {o : Nat} {y : Value} {row : Option Nat} {ob : Obj} (h : Below w.heap.size w u) (hg : (u.alloc ob).grownBy w8 row) (hr : ∀ k, row = some k → w.heap.size + 4 ≤ k) : Below w.heap.size w (w8.setCell ⟨w.heap.size + 3, o, none⟩ y) :=
  (grown_below (below_new h ob) (below_new h ob).size hg (fun k hk => by have := hr k hk; omega)).setCell (by show w.heap.size ≤ w.heap.size + 3; omega) y
theorem MrW.pushD {ob : Obj} {g : GRow} (h : MrW w T S pa pb i j q cq vi vd vu GI GD P u) (hz : InRow u (w.heap.size + 3 + 1) (g.2.1, g.2.2)) (hi : i < T.R.length) (hg1 : (g.1, g.2.2) = tAt T.R i) (hlt : g.1 < T.nx) (m : Mg T.R S.R (i + 1) j) (hn : getR (tAt T.R i).1 S.R = none)
    (rest : TRowsAt w q' (T.R.drop (i + 1))) (cap : T.R.length - (i + 1) ≤ cq') (ho : w8.ownsRow (w.heap.size + 3 + 1) 58 2 v8 (GD ++ [g]).length (tcells (GD ++ [g]))) (hg : (u.alloc ob).grownBy w8 vd.ownBlock) :
    Cell4 w8 (w.heap.size + 3) (.string T.nm) vi vd vu ∧ MrW w T S pa pb (i + 1) j q' cq' vi v8 vu GI (GD ++ [g]) P (w8.setCell ⟨w.heap.size + 3, 2, none⟩ v8) := by
  have hk : ∀ k, vd.ownBlock = some k → w.heap.size + 4 ≤ k := fun k hk => owns_block h.d.del.own k hk
  obtain ⟨hc, hd⟩ := h.d.pushD hz hlt ho hg
  exact ⟨hc, c4push h.a hg hk (by omega), c4push h.b hg hk (by omega), c4push h.r hg hk (by omega), hd, m, h.gi, by rw [tabR_snoc, h.gd, hg1, delR_out hi hn], h.gu, h.nw, belpush h.bel hg hk, rest, cap⟩
theorem MrW.pushI {ob : Obj} {g : GRow} (h : MrW w T S pa pb i j q cq vi vd vu GI GD P u) (hz : InRow u (w.heap.size + 3 + 1) (g.2.1, g.2.2)) (hj : j < S.R.length) (hg1 : (g.1, g.2.2) = tAt S.R j) (hlt : T.nx ≤ g.1) (m : Mg T.R S.R i (j + 1)) (hn : getR (tAt S.R j).1 T.R = none)
    (ho : w8.ownsRow (w.heap.size + 3 + 1) 58 2 v8 (GI ++ [g]).length (tcells (GI ++ [g]))) (hg : (u.alloc ob).grownBy w8 vi.ownBlock) :
    Cell4 w8 (w.heap.size + 3) (.string T.nm) vi vd vu ∧ MrW w T S pa pb i (j + 1) q cq v8 vd vu (GI ++ [g]) GD P (w8.setCell ⟨w.heap.size + 3, 1, none⟩ v8) := by
  have hk : ∀ k, vi.ownBlock = some k → w.heap.size + 4 ≤ k := fun k hk => owns_block h.d.ins.own k hk
  obtain ⟨hc, hd⟩ := h.d.pushI hz hlt ho hg
  refine ⟨hc, c4push h.a hg hk (by omega), c4push h.b hg hk (by omega), c4push h.r hg hk (by omega), hd, m, by rw [tabR_snoc, h.gi, hg1, delR_out hj hn], h.gd, by rw [h.gu, updR_out hj hn], fun k hk2 => ?_, belpush h.bel hg hk, h.rest, h.cap⟩
  rcases Nat.lt_or_ge k j with hk3 | hk3
  · exact h.nw k hk3
  · obtain rfl : k = j := by omega
    exact .inr (by rw [← hg1]; exact hlt)
theorem c4push0 {X o : Nat} {a b c d y : Value} {row : Option Nat} (h : Cell4 u X a b c d) (hg : u.grownBy w8 row) (hr : ∀ k, row = some k → w.heap.size + 4 ≤ k) (hX : X < w.heap.size + 3) : Cell4 (w8.setCell ⟨w.heap.size + 3, o, none⟩ y) X a b c d :=
  (h.grown hg (fun k hk => by have := hr k hk; omega)).far (by omega) y
theorem belpush0 {o : Nat} {y : Value} {row : Option Nat} (h : Below w.heap.size w u) (hg : u.grownBy w8 row) (hr : ∀ k, row = some k → w.heap.size + 4 ≤ k) : Below w.heap.size w (w8.setCell ⟨w.heap.size + 3, o, none⟩ y) :=
  (grown_below h h.size hg (fun k hk => by have := hr k hk; omega)).setCell (by show w.heap.size ≤ w.heap.size + 3; omega) y
theorem MrW.pushU0 {g : GPair} (h : MrW w T S pa pb i j q cq vi vd vu GI GD P u) (hz : InRow u (w.heap.size + 3 + 1) g.2.1 ∧ InRow u (w.heap.size + 3 + 1) g.2.2) (hi : i < T.R.length) (hj : j < S.R.length) (m : Mg T.R S.R (i + 1) (j + 1)) (hn : getR (tAt T.R i).1 S.R = some (tAt S.R j).2) (hn2 : getR (tAt S.R j).1 T.R = some (tAt T.R i).2)
    (hg1 : unG g = ((tAt S.R j).1, (tAt T.R i).2, (tAt S.R j).2)) (hne : (tAt T.R i).2 ≠ (tAt S.R j).2) (rest : TRowsAt w q' (T.R.drop (i + 1))) (cap : T.R.length - (i + 1) ≤ cq')
    (ho : w8.ownsRow (w.heap.size + 3 + 1) 75 3 v8 (P ++ [g]).length (pcells (P ++ [g]))) (hg : u.grownBy w8 vu.ownBlock) :
    Cell4 w8 (w.heap.size + 3) (.string T.nm) vi vd vu ∧ MrW w T S pa pb (i + 1) (j + 1) q' cq' vi vd v8 GI GD (P ++ [g]) (w8.setCell ⟨w.heap.size + 3, 3, none⟩ v8) := by
  have hk : ∀ k, vu.ownBlock = some k → w.heap.size + 4 ≤ k := fun k hk => owns_block h.d.upd k hk
  obtain ⟨hc, hd⟩ := h.d.pushU0 hz ho hg
  refine ⟨hc, c4push0 h.a hg hk (by omega), c4push0 h.b hg hk (by omega), c4push0 h.r hg hk (by omega), hd, m, by rw [h.gi, delR_in hj hn2], by rw [h.gd, delR_in hi hn], by rw [List.map_append, h.gu, updR_in hj hn2 hne, ← hg1]; rfl, fun k hk2 => ?_, belpush0 h.bel hg hk, rest, cap⟩
  rcases Nat.lt_or_ge k j with hk3 | hk3
  · exact h.nw k hk3
  · obtain rfl : k = j := by omega
    exact .inl (by rw [hn2]; rfl)
theorem MrW.same (h : MrW w T S pa pb i j q cq vi vd vu GI GD P u) (hi : i < T.R.length) (hj : j < S.R.length) (m : Mg T.R S.R (i + 1) (j + 1)) (hn : getR (tAt T.R i).1 S.R = some (tAt S.R j).2) (hn2 : getR (tAt S.R j).1 T.R = some (tAt T.R i).2)
    (he : (tAt T.R i).2 = (tAt S.R j).2) (rest : TRowsAt w q' (T.R.drop (i + 1))) (cap : T.R.length - (i + 1) ≤ cq') : MrW w T S pa pb (i + 1) (j + 1) q' cq' vi vd vu GI GD P u := by
  refine ⟨h.a, h.b, h.r, h.d, m, by rw [h.gi, delR_in hj hn2], by rw [h.gd, delR_in hi hn], by rw [h.gu, updR_same hj (by rw [hn2, he])], fun k hk2 => ?_, h.bel, rest, cap⟩
  rcases Nat.lt_or_ge k j with hk3 | hk3
  · exact h.nw k hk3
  · obtain rfl : k = j := by omega
    exact .inl (by rw [hn2]; rfl)
/-- The box of the later row is none of the list's blocks. -/
theorem MrW.rowD {ob : Obj} {X : Nat} {bid : Int} {y y8 : Value} (h : MrW w T S pa pb i j q cq vi vd vu GI GD P u) (hx : Cell2 u X (.int .i64 bid) y) (hX : w.heap.size + 3 < X) (hb : getR bid S.R ≠ none) (hg : (u.alloc ob).grownBy w8 vd.ownBlock) : Cell2 (w8.setCell ⟨w.heap.size + 3, 2, none⟩ y8) X (.int .i64 bid) y := by
  have h7 := h.d.low (below_alloc u ob)
  have hx7 := hx.low (below_alloc u ob)
  have hne : vd.ownBlock ≠ some X := fun e => by
    have p1 : 0 < GD.length := Nat.pos_of_ne_zero fun e0 => by rw [h7.nd (List.eq_nil_of_length_eq_zero e0)] at e; cases e
    obtain ⟨g, c, hv, -⟩ := h7.del.slot p1
    obtain rfl : g = X := by rw [hv] at e; exact Option.some.inj e
    obtain ⟨e1, -⟩ := tcells_at GD 0 p1
    have ho := h7.del.own
    rw [hv] at ho
    obtain ⟨c', hp', -, hcell⟩ := own_cell ho e1
    cases hp'
    rw [Nat.zero_mul, Nat.zero_add, hx7.c0] at hcell
    injection hcell with hcell
    injection hcell with _ hcell
    have hm : ((grAt GD 0).1, (grAt GD 0).2.2) ∈ tabR GD := List.mem_map.2 ⟨_, grAt_mem p1, rfl⟩
    rw [h.gd] at hm
    have := (List.mem_filter.1 hm).2
    rw [← hcell] at this
    exact hb (by simpa using this)
  have hbk := hg.block X hx7.lt (fun e => hne e.symm)
  have hc : Cell2 w8 X (.int .i64 bid) y := ⟨Nat.lt_of_lt_of_le hx7.lt hg.size, by rw [World.cell?_of_block (w := u.alloc ob) hbk]; exact hx7.c0, by rw [World.cell?_of_block (w := u.alloc ob) hbk]; exact hx7.c1, fun o => by rw [World.frozen?_of_block (w := u.alloc ob) hbk]; exact hx7.fz o⟩
  exact hc.far (by omega) y8
theorem mrow_at {R : List TRow} (hi : i < R.length) (h : TRowsAt w q (R.drop i)) : ∃ (c o : Nat) (qa : Option Addr) (ca : Nat), q = some ⟨c, o, none⟩ ∧ c < w.heap.size ∧ w.cell? ⟨c, o, none⟩ = some (.int .i64 (tAt R i).1) ∧ w.cell? ⟨c, o + 1, none⟩ = some (.slice qa (tAt R i).2.length ca) ∧ RowAt w qa (tAt R i).2 ∧ (tAt R i).2.length * 32 ≤ 140737488355328 ∧ (qa = none → (tAt R i).2 = [] ∧ ca = 0) := by
  obtain ⟨c, o, qa, ca, hp, hc, h0, h1, h2, h3, h4⟩ := h 0 (by rw [List.length_drop]; omega)
  have e : tAt (R.drop i) 0 = tAt R i := by unfold tAt; rw [List.getD, List.getElem?_drop]; rfl
  rw [e] at h0 h1 h2 h3 h4
  exact ⟨c, o, qa, ca, hp, hc, h0, h1, h2, h3, h4⟩
theorem trows_cons {c o : Nat} {x : TRow} {R : List TRow} (h : TRowsAt w (some ⟨c, o, none⟩) (x :: R)) : TRowsAt w (some ⟨c, o + 2, none⟩) R := by
  intro k hk
  obtain ⟨c', o', q, cp, hp, hc, h0, h1, h2, h3, h4⟩ := h (k + 1) (by rw [List.length_cons]; omega)
  cases hp
  have e : tAt (x :: R) (k + 1) = tAt R k := rfl
  rw [e] at h0 h1 h2 h3 h4
  exact ⟨c, o + 2, q, cp, rfl, hc, by rw [show o + 2 + k * 2 = o + (k + 1) * 2 by omega]; exact h0, by rw [show o + 2 + k * 2 + 1 = o + (k + 1) * 2 + 1 by omega]; exact h1, h2, h3, h4⟩
theorem trows_next {c o : Nat} {R : List TRow} (hi : i < R.length) (h : TRowsAt w (some ⟨c, o, none⟩) (R.drop i)) : TRowsAt w (some ⟨c, o + 2, none⟩) (R.drop (i + 1)) := by
  rw [drop_trow hi] at h
  exact trows_cons h
theorem trows_end {R : List TRow} (hi : R.length ≤ i) (q : Option Addr) : TRowsAt w q (R.drop i) := fun k hk => by rw [List.length_drop] at hk; omega
theorem trows_none {R : List TRow} (h : R.length = 0) (q : Option Addr) : TRowsAt w q R := fun k hk => by omega
end
set_option maxHeartbeats 16000000 in
theorem merge_any (T S : Tab) (w : World) (hT : TabAt w T) (hS : TabAt w S) (hTv : T.valid = true) (hSv : S.valid = true) (hcap : T.R.length ≤ T.cr) :
    Calls Tryz.prog 45 #[.agg #[.string T.nm, .slice T.pc T.n T.cc, .int .i64 T.nx, .slice T.pr T.R.length T.cr], .agg #[.string S.nm, .slice S.pc S.n S.cc, .int .i64 S.nx, .slice S.pr S.R.length S.cr]] w (MergePost T S w) := by
  have HT := Lib.hid hT
  have HS := Lib.hid hS
  have htl := hT.len
  have hsl := hS.len
  obtain ⟨-, -, -, -, htr, -⟩ := validT_parts hTv
  obtain ⟨-, -, -, -, hsr, -⟩ := validT_parts hSv
  have HTU : Hid (UpR T.R) := Lib.hid (ids_up htr)
  have HSU : Hid (UpR S.R) := Lib.hid (ids_up hsr)
  have HTN : Hid (∀ k, k < T.R.length → (tAt T.R k).1 < T.nx) := Lib.hid fun k hk => (htr k hk).2.1
  obtain ⟨pa, hpa⟩ : ∃ x, T.pr = x := ⟨_, rfl⟩
  obtain ⟨pb, hpb⟩ : ∃ x, S.pr = x := ⟨_, rfl⟩
  have HPA : Hid (TRowsAt w pa T.R) := Lib.hid (by rw [← hpa]; exact hT.rows)
  have HPB : Hid (TRowsAt w pb S.R) := Lib.hid (by rw [← hpb]; exact hS.rows)
  rw [hpa, hpb]
  clear hT hS hTv hSv htr hsr hpa hpb
  have HA := Lib.hid (((cell4_new w (.string T.nm) (.slice T.pc T.n T.cc) (.int .i64 T.nx) (.slice pa T.R.length T.cr) 34).low (below_alloc _ (.cells #[.string S.nm, .slice S.pc S.n S.cc, .int .i64 S.nx, .slice pb S.R.length S.cr] 34))).low (below_alloc _ (.cells #[.string ⟨#[]⟩, .slice none 0 0, .slice none 0 0, .slice none 0 0] 25)))
  have hb1 := cell4_new (w.alloc (.cells #[.string T.nm, .slice T.pc T.n T.cc, .int .i64 T.nx, .slice pa T.R.length T.cr] 34)) (.string S.nm) (.slice S.pc S.n S.cc) (.int .i64 S.nx) (.slice pb S.R.length S.cr) 34
  rw [size_alloc] at hb1
  have HB := Lib.hid (hb1.low (below_alloc _ (.cells #[.string ⟨#[]⟩, .slice none 0 0, .slice none 0 0, .slice none 0 0] 25)))
  have hr1 := cell4_new ((w.alloc (.cells #[.string T.nm, .slice T.pc T.n T.cc, .int .i64 T.nx, .slice pa T.R.length T.cr] 34)).alloc (.cells #[.string S.nm, .slice S.pc S.n S.cc, .int .i64 S.nx, .slice pb S.R.length S.cr] 34)) (.string ⟨#[]⟩) (.slice none 0 0) (.slice none 0 0) (.slice none 0 0) 25
  rw [size_alloc, size_alloc] at hr1
  have HR := Lib.hid hr1
  have HBL := Lib.hid (below_new (below_new (below_new (Below.refl w.heap.size w) (.cells #[.string T.nm, .slice T.pc T.n T.cc, .int .i64 T.nx, .slice pa T.R.length T.cr] 34)) (.cells #[.string S.nm, .slice S.pc S.n S.cc, .int .i64 S.nx, .slice pb S.R.length S.cr] 34)) (.cells #[.string ⟨#[]⟩, .slice none 0 0, .slice none 0 0, .slice none 0 0] 25))
  have HZ : Hid ((((w.alloc (.cells #[.string T.nm, .slice T.pc T.n T.cc, .int .i64 T.nx, .slice pa T.R.length T.cr] 34)).alloc (.cells #[.string S.nm, .slice S.pc S.n S.cc, .int .i64 S.nx, .slice pb S.R.length S.cr] 34)).alloc (.cells #[.string ⟨#[]⟩, .slice none 0 0, .slice none 0 0, .slice none 0 0] 25)).heap.size = w.heap.size + 3) := Lib.hid (by rw [size_alloc, size_alloc, size_alloc])
  clear hb1 hr1
  go_enter Tryz.func45, Tryz.ntmps45
  go_wp2
  go_step3
  have e2 : w.heap.size + 1 + 1 = w.heap.size + 2 := rfl
  rw [e2]
  clear e2
  generalize World.alloc _ _ = W0 at HA HB HR HBL HZ ⊢
  obtain ⟨al, a0, a1, a2, a3, -⟩ := HA.out
  obtain ⟨bl, b0, b1, b2, b3, -⟩ := HB.out
  go_wp2
  go_step3
  go_wp2_with fail
  rw [HZ.out]
  have hdb := dltw_new W0 T.nx T.nm
  rw [HZ.out] at hdb
  have hbn := below_alloc W0 (.cells #[.string T.nm, .slice none 0 0, .slice none 0 0, .slice none 0 0] 25)
  have HW : Hid (MrW w T S pa pb 0 0 pa T.cr (.slice none 0 0) (.slice none 0 0) (.slice none 0 0) [] [] [] (W0.alloc (.cells #[.string T.nm, .slice none 0 0, .slice none 0 0, .slice none 0 0] 25))) :=
    Lib.hid ⟨HA.out.low hbn, HB.out.low hbn, HR.out.low hbn, hdb, Mg.zero, rfl, rfl, rfl, fun k hk => absurd hk (Nat.not_lt_zero _), below_next HBL.out hbn, HPA.out, by omega⟩
  clear hdb hbn HA HB HR HBL HZ al a0 a1 a2 a3 bl b0 b1 b2 b3
  generalize World.alloc _ _ = W1 at HW ⊢
  go_loopg [7, 22] S.R.length (fun g s7 s22 wx => ∃ (i j : Nat) (q : Option Addr) (cq : Nat) (vi vd vu : Value) (GI GD : List GRow) (P : List GPair), Hid (j + g = S.R.length) ∧ s7 = .slice q (T.R.length - i : Nat) cq ∧ s22 = .int .i64 j ∧ MrW w T S pa pb i j q cq vi vd vu GI GD P wx)
  case atStart => exact ⟨0, 0, pa, T.cr, _, _, _, [], [], [], Lib.hid (by omega), rfl, rfl, HW.out⟩
  clear HW
  case round =>
    obtain ⟨i, j, q, cq, vi, vd, vu, GI, GD, P, hjg, rfl, rfl, hw⟩ := hrel
    have HW := Lib.hid hw
    clear hw
    have HIL : Hid (GI.length ≤ S.R.length) := Lib.hid (by have h1 := congrArg List.length HW.out.gi; rw [tabR_length] at h1; have h2 := List.length_filter_le (fun r : TRow => (getR r.1 T.R).isNone) (S.R.take j); rw [List.length_take] at h2; omega)
    have HPL : Hid (P.length ≤ S.R.length) := Lib.hid (by have h1 := congrArg List.length HW.out.gu; rw [List.length_map] at h1; have h2 := List.length_filterMap_le (updP T.R) (S.R.take j); rw [List.length_take] at h2; omega)
    by_cases hj : j < S.R.length
    · obtain ⟨gO, rfl⟩ : ∃ g, gk = g + 1 := ⟨gk - 1, by have := hjg.out; omega⟩
      have hjd : decide ((j : Int) < S.R.length) = true := decide_eq_true (by omega)
      obtain ⟨c, o, qb, cb, hp, hc, h0, h1, hrb, hzb, hnb⟩ := HPB.out j hj
      obtain ⟨⟨bid, bl⟩, hb⟩ : ∃ x, tAt S.R j = x := ⟨_, rfl⟩
      rw [hb] at h0 h1 hrb hzb hnb
      dsimp only at h0 h1 hrb hzb hnb
      have HBJ := Lib.hid hb
      have HBG : Hid (getR bid S.R = some bl) := Lib.hid (by have h := getR_hit (id := bid) hj (by rw [hb]) (fun l hl he => by have h1 := HSU.out j hj l hl; rw [hb] at h1; dsimp only at h1; omega); rw [hb] at h; exact h)
      have HRB := Lib.hid hrb
      have HNB := Lib.hid hnb
      subst hp
      rw [← HW.out.bel.cell (by exact hc)] at h0 h1
      have hbn := below_alloc wr (.cells #[.int .i64 bid, .slice qb bl.length cb] 58)
      have HW1 := Lib.hid (HW.out.low hbn)
      have HX1 := Lib.hid (cell2_new wr (.int .i64 bid) (.slice qb bl.length cb) 58)
      have hXlo : w.heap.size + 3 < wr.heap.size := HW.out.lo
      clear HW hbn hb hrb hnb
      go_wp2_with fail
      clear h0 h1
      generalize World.alloc _ _ = W2 at HW1 HX1 ⊢
      generalize wr.heap.size = X at HX1 hXlo ⊢
      go_loopg [7] (T.R.length - i) (fun g2 s7 wy => ∃ (i : Nat) (q : Option Addr) (cq : Nat) (vd : Value) (GD : List GRow), Hid (T.R.length - i = g2) ∧ s7 = .slice q (T.R.length - i : Nat) cq ∧ MrW w T S pa (some ⟨c, o, none⟩) i j q cq vi vd vu GI GD P wy ∧ Cell2 wy X (.int .i64 bid) (.slice qb bl.length cb))
      case atStart => exact ⟨i, q, cq, vd, GD, Lib.hid rfl, rfl, HW1.out, HX1.out⟩
      clear HW1 HX1
      case round =>
        obtain ⟨i, q, cq, vd, GD, hig, rfl, hw, hx⟩ := hrel
        have HW := Lib.hid hw
        have HX := Lib.hid hx
        have HDL : Hid (GD.length ≤ T.R.length) := Lib.hid (by have h1 := congrArg List.length hw.gd; rw [tabR_length] at h1; have h2 := List.length_filter_le (fun r : TRow => (getR r.1 S.R).isNone) (T.R.take i); rw [List.length_take] at h2; omega)
        clear hw hx
        by_cases hi : i < T.R.length
        · have hlI : decide ((0 : Int) < ((T.R.length - i : Nat) : Int)) = true := decide_eq_true (by omega)
          have hln : decide (0 < T.R.length - i) = true := decide_eq_true (by omega)
          have hli : (0 : Int) < ((T.R.length - i : Nat) : Int) := by omega
          obtain ⟨ca, oa, qa, cpa, hpa, hca, k0, k1, hra, hza, hna⟩ := mrow_at hi HW.out.rest
          obtain ⟨⟨aid, al⟩, ha⟩ : ∃ x, tAt T.R i = x := ⟨_, rfl⟩
          rw [ha] at k0 k1 hra hza hna
          dsimp only at k0 k1 hra hza hna
          have HAI := Lib.hid ha
          have HRA := Lib.hid hra
          have HNA := Lib.hid hna
          clear ha hra hna
          subst hpa
          rw [← HW.out.bel.cell (by exact hca)] at k0 k1
          obtain ⟨xl, x0, x1, -⟩ := HX.out
          by_cases hle : aid ≤ bid
          · have hled : decide (aid ≤ bid) = true := decide_eq_true hle
            have hbn := (below_alloc wr (.cells #[.int .i64 aid, .slice qa al.length cpa] 58)).drew
            have HW1 := Lib.hid (HW.out.low hbn)
            have HX1 := Lib.hid (HX.out.low hbn)
            have HY1 := Lib.hid ((cell2_new wr (.int .i64 aid) (.slice qa al.length cpa) 58).low (Below.refl _ _).drew)
            have hYlo : w.heap.size + 3 < wr.heap.size := HW.out.lo
            have hq2e : ∃ q2, (if cq = 1 then some (⟨ca, oa, none⟩ : Addr) else some ⟨ca, oa + 2, none⟩) = q2 ∧ TRowsAt w q2 (T.R.drop (i + 1)) := by
              by_cases h1 : cq = 1
              · exact ⟨_, rfl, trows_end (by have := HW.out.cap; omega) _⟩
              · exact ⟨_, rfl, by rw [if_neg h1]; exact trows_next hi HW.out.rest⟩
            obtain ⟨q2, hq2, hr2⟩ := hq2e
            have HQ2 := Lib.hid hr2
            have HCAP : Hid (T.R.length - (i + 1) ≤ cq - 1) := Lib.hid (by have := HW.out.cap; omega)
            clear hbn hr2
            go_upto_region 6 with (fail)
            go_region
            go_upto_region 9 with (fail)
            rw [Nat.sub_sub]
            clear hq2 k0 k1 x0 x1 xl HW HX
            generalize World.drew _ = W3 at HW1 HX1 HY1 ⊢
            generalize wr.heap.size = Y at HY1 hYlo ⊢
            obtain ⟨xl, x0, x1, -⟩ := HX1.out
            obtain ⟨yl, y0, y1, -⟩ := HY1.out
            by_cases hlt : aid < bid
            · have hltd : decide (aid < bid) = true := decide_eq_true hlt
              obtain ⟨g2, rfl⟩ : ∃ g, gk = g + 1 := ⟨gk - 1, by have := hig.out; omega⟩
              obtain ⟨m2, hn2⟩ := HW1.out.mg.skip HSU.out hi hj (by rw [HAI.out, HBJ.out]; exact hlt)
              have HM2 := Lib.hid m2
              have HN2 := Lib.hid hn2
              have haN : aid < T.nx := by have := HTN.out i hi; rw [HAI.out] at this; exact this
              clear m2 hn2
              go_upto_region 10 with (fail)
              clear x0 x1 xl y0 y1 yl
              have HRV := Lib.hid ((HRA.out.low HW1.out.bel).low (Below.refl W3.heap.size W3).drew)
              have HWD := Lib.hid (HW1.out.low (Below.refl W3.heap.size W3).drew)
              have HXD := Lib.hid (HX1.out.low (Below.refl W3.heap.size W3).drew)
              have HYD := Lib.hid (HY1.out.low (Below.refl W3.heap.size W3).drew)
              obtain ⟨dl, d0, d1, d2, d3, -⟩ := HW1.out.d.box
              obtain ⟨yl, y0, y1, -⟩ := HY1.out
              have hgl : GD.length ≤ 1000 := by have := HDL.out; omega
              have HBS : Hid (w.heap.size + 3 + 1 ≤ W3.drew.heap.size) := Lib.hid HW1.out.lo
              clear d0 d1 d3
              go_region_law (first
                | (go_simp; go_at_call 67; refine (dcopyrow_any aid al qa cpa _ HRV.out hza HNA.out).mono ?_; rintro e w12 ⟨v12, rfl, hin, hb12⟩; obtain ⟨p12, c12, e12⟩ := InRow.ex hin; subst e12; (have HIN := Lib.hid (InRow.base hin HBS.out)); (have HO12 := Lib.hid (HWD.out.low hb12)); (have HX12 := Lib.hid (HXD.out.low hb12)); (have n2 := HO12.out.d.box.c2); (have nl := HO12.out.d.box.lt); clear hin hb12)
                | (refine step_append_trow (by rfl) (.tmp 49) (.tmp 52) (by rfl) (w.heap.size + 3 + 1) vd GD (by simp [Act.eval]) (HO12.out.d.del.low (below_alloc _ _)).own w12.heap.size aid (.slice p12 al.length c12) al (by simp [Act.eval]) (row2_new _ _ _ _).1 (row2_new _ _ _ _).2 rfl (by omega) (by rw [size_alloc]; exact Nat.le_succ_of_le HO12.out.lo) ?_; intro v13 w13 hown13 hg13; (have hx13 := HO12.out.rowD (y8 := v13) HX12.out hXlo (by rw [HBG.out]; exact fun e => by cases e) hg13); obtain ⟨⟨zl, z0, z1, z2, z3, zf⟩, hS13⟩ := HO12.out.pushD (g := (aid, .slice p12 al.length c12, al)) HIN.out hi HAI.out.symm haN HM2.out HN2.out HQ2.out HCAP.out hown13 hg13; obtain ⟨p13, c13, e13⟩ := hS13.d.del.ex; subst e13; rw [List.length_append, List.length_singleton] at hS13 hx13; (have HS13 := Lib.hid hS13); (have HX13 := Lib.hid hx13); clear hS13 hx13 hown13 hg13 z0 z1 z3))
              all_goals
                clear HW1 HX1 HY1 HWD HXD HYD HO12 HX12
                generalize World.setCell _ _ _ = W13 at HS13 HX13 ⊢
                go_wp2_with fail
                go_roundg g2
                case measure => omega
                case rel => exact ⟨i + 1, q2, cq - 1, _, GD ++ [(aid, .slice p12 al.length c12, al)], Lib.hid (by have := hig.out; omega), rfl, HS13.out, HX13.out⟩
            · have hltd : decide (aid < bid) = false := decide_eq_false hlt
              have hab : aid = bid := by omega
              obtain ⟨m2, hn2, hn3⟩ := HW1.out.mg.same HTU.out HSU.out hi hj (by rw [HAI.out, HBJ.out]; exact hab)
              have HM2 := Lib.hid m2
              have HN2 := Lib.hid hn2
              have HN3 := Lib.hid hn3
              have HAB := Lib.hid hab
              clear m2 hn2 hn3 hab
              go_wp2_with fail
              refine (dsamerow_any qa qb al bl cpa cb _ (by omega) (HRA.out.low HW1.out.bel) (HRB.out.low HW1.out.bel)).mono ?_
              rintro e W4 ⟨rfl, hb4⟩
              have HW4 := Lib.hid (HW1.out.low hb4)
              have HX4 := Lib.hid (HX1.out.low hb4)
              have HY4 := Lib.hid (HY1.out.low hb4)
              clear HW1 HX1 HY1 hb4 x0 x1 xl y0 y1 yl
              by_cases hl : al = bl
              · have hld : decide (al = bl) = true := decide_eq_true hl
                have HL := Lib.hid hl
                clear hl
                go_wp2_with fail
                go_roundg gO
                case measure => omega
                case rel => exact ⟨i + 1, j + 1, q2, cq - 1, vi, vd, vu, GI, GD, P, Lib.hid (by have := hjg.out; omega), rfl, by go_num, HW4.out.same hi hj HM2.out HN2.out HN3.out (by rw [HAI.out, HBJ.out]; exact HL.out) HQ2.out HCAP.out⟩
              · have hld : decide (al = bl) = false := decide_eq_false hl
                have HL := Lib.hid hl
                clear hl
                go_upto_region 12 with (fail)
                have hgl : P.length ≤ 1000 := by have := HPL.out; omega
                obtain ⟨i0, hi0, hz0, hz1, hz2⟩ := info_parts info_pair
                refine wp_region_late (use := [[], [0], [], [2], [], [4], [5], [], [7], [8], [3, 6, 9], [10, 6, 9], [1, 11, 6, 9], [], [12, 13]]) (sl := [[61], [62], [63], [64], [65], [66], [67], [68], [69], [70], [71, 67, 70], [72, 67, 70], [73, 67, 70], [74], [73, 67, 70]]) (live := [[], [], [], [], [], [], [], [], [], [], [], [], [], [12, 14], []]) (late := [12, 14]) (brk := [12, 14]) (B := w.heap.size) (J := fun u => (MrW w T S pa (some ⟨c, o, none⟩) i j (some ⟨ca, oa, none⟩) cq vi vd vu GI GD P u ∧ Cell2 u X (.int .i64 bid) (.slice qb bl.length cb)) ∧ Cell2 u Y (.int .i64 aid) (.slice qa al.length cpa)) (Φ := fun ix f u => match ix with | 0 => f 61 = .pointer (some ⟨w.heap.size + 3, 3, none⟩) | 1 => f 62 = vu | 2 => f 63 = .pointer (some ⟨X, 0, none⟩) | 3 => f 64 = .int .i64 bid | 4 => f 65 = .pointer (some ⟨Y, 1, none⟩) | 5 => f 66 = .slice qa al.length cpa | 6 => InRow u (w.heap.size + 3 + 1) (f 67, al) | 7 => f 68 = .pointer (some ⟨X, 1, none⟩) | 8 => f 69 = .slice qb bl.length cb | 9 => InRow u (w.heap.size + 3 + 1) (f 70, bl) | 10 => f 71 = .agg #[.int .i64 bid, f 67, f 70] | 11 => ∃ k, f 72 = .slice (some ⟨k, 0, none⟩) 1 1 ∧ Cell3 u k (.int .i64 bid) (f 67) (f 70) | 12 => (∃ u0, MrW w T S pa (some ⟨c, o, none⟩) i j (some ⟨ca, oa, none⟩) cq vi vd vu GI GD P u0 ∧ (InRow u0 (w.heap.size + 3 + 1) (f 67, al) ∧ InRow u0 (w.heap.size + 3 + 1) (f 70, bl)) ∧ u0.grownBy u vu.ownBlock) ∧ u.ownsRow (w.heap.size + 3 + 1) 75 3 (f 73) (P ++ [(bid, (f 67, al), (f 70, bl))]).length (pcells (P ++ [(bid, (f 67, al), (f 70, bl))])) | 13 => f 74 = .pointer (some ⟨w.heap.size + 3, 3, none⟩) | 14 => MrW w T S pa (some ⟨c, o, none⟩) (i + 1) (j + 1) q2 (cq - 1) vi vd (f 73) GI GD (P ++ [(bid, (f 67, al), (f 70, bl))]) u | _ => True) (by kernel_rfl) _ rfl (by kernel_rfl) (by kernel_rfl) (by have := HW4.out.lo; show w.heap.size ≤ W4.heap.size; omega) (⟨⟨HW4.out.low (Below.refl W4.heap.size W4).drew, HX4.out.low (Below.refl W4.heap.size W4).drew⟩, HY4.out.low (Below.refl W4.heap.size W4).drew⟩) (fun u v h hb => ⟨⟨h.1.1.low hb, h.1.2.low hb⟩, h.2.low hb⟩) ?_ ?_ ?_ ?_
                · intro jx f g u u2 hs hb h
                  match jx, hs, h with
                  | 0, hs, h =>
                    have e61 := hs 61 (by decide)
                    simp only [e61]
                    exact h
                  | 1, hs, h =>
                    have e62 := hs 62 (by decide)
                    simp only [e62]
                    exact h
                  | 2, hs, h =>
                    have e63 := hs 63 (by decide)
                    simp only [e63]
                    exact h
                  | 3, hs, h =>
                    have e64 := hs 64 (by decide)
                    simp only [e64]
                    exact h
                  | 4, hs, h =>
                    have e65 := hs 65 (by decide)
                    simp only [e65]
                    exact h
                  | 5, hs, h =>
                    have e66 := hs 66 (by decide)
                    simp only [e66]
                    exact h
                  | 6, hs, h =>
                    have e67 := hs 67 (by decide)
                    simp only [e67]
                    exact h.low hb
                  | 7, hs, h =>
                    have e68 := hs 68 (by decide)
                    simp only [e68]
                    exact h
                  | 8, hs, h =>
                    have e69 := hs 69 (by decide)
                    simp only [e69]
                    exact h
                  | 9, hs, h =>
                    have e70 := hs 70 (by decide)
                    simp only [e70]
                    exact h.low hb
                  | 10, hs, h =>
                    have e71 := hs 71 (by decide)
                    have e67 := hs 67 (by decide)
                    have e70 := hs 70 (by decide)
                    simp only [e71, e67, e70]
                    exact h
                  | 11, hs, h =>
                    have e72 := hs 72 (by decide)
                    have e67 := hs 67 (by decide)
                    have e70 := hs 70 (by decide)
                    simp only [e72, e67, e70]
                    exact (by obtain ⟨k, h1, h2⟩ := h; exact ⟨k, h1, h2.low hb⟩)
                  | 12, hs, h =>
                    have e73 := hs 73 (by decide)
                    have e67 := hs 67 (by decide)
                    have e70 := hs 70 (by decide)
                    simp only [e73, e67, e70]
                    exact ⟨(by obtain ⟨u0, h1, h2, h3⟩ := h.1; exact ⟨u0, h1, h2, ⟨hb.os.trans h3.os, hb.tape.trans h3.tape, hb.output.trans h3.output, Nat.le_trans h3.size hb.size, fun k hk hn => (hb.block k (Nat.lt_of_lt_of_le hk h3.size)).trans (h3.block k hk hn)⟩⟩), owns_below h.2 hb⟩
                  | 13, hs, h =>
                    have e74 := hs 74 (by decide)
                    simp only [e74]
                    exact h
                  | 14, hs, h =>
                    have e73 := hs 73 (by decide)
                    have e67 := hs 67 (by decide)
                    have e70 := hs 70 (by decide)
                    simp only [e73, e67, e70]
                    exact h.low hb
                  | _ + 15, _, h => exact h
                · intro ix o hix hne f u hold hbe hgr hJ huse
                  obtain ⟨kt, kc, kf⟩ := evF_all f
                  match ix, hix, hne with
                  | 0, hix, _ =>
                    simp only [List.getElem?_cons_zero, Option.some.injEq] at hix
                    subst hix
                    have h6 : f 6 = .pointer (some ⟨w.heap.size + 3, 0, none⟩) := (hold 6 (by kernel_rfl)).trans rfl
                    refine gives_K fun K hK => ?_
                    go_simp
                    exact gives_value (hK _ _ ⟨Below.refl _ _, by simp [upF]⟩)
                  | 1, hix, _ =>
                    simp only [List.getElem?_cons_zero, List.getElem?_cons_succ, Option.some.injEq] at hix
                    subst hix
                    have u0 := huse 0 (by decide)
                    simp only at u0
                    have hJw := hJ (by kernel_rfl)
                    obtain ⟨dl, d0, d1, d2, d3, -⟩ := hJw.1.1.d.box
                    refine gives_K fun K hK => ?_
                    go_simp
                    exact gives_value (hK _ _ ⟨Below.refl _ _, by simp [upF]⟩)
                  | 2, hix, _ =>
                    simp only [List.getElem?_cons_zero, List.getElem?_cons_succ, Option.some.injEq] at hix
                    subst hix
                    have h9 : f 9 = .pointer (some ⟨X, 0, none⟩) := (hold 9 (by kernel_rfl)).trans rfl
                    refine gives_K fun K hK => ?_
                    go_simp
                    exact gives_value (hK _ _ ⟨Below.refl _ _, by simp [upF]⟩)
                  | 3, hix, _ =>
                    simp only [List.getElem?_cons_zero, List.getElem?_cons_succ, Option.some.injEq] at hix
                    subst hix
                    have u2 := huse 2 (by decide)
                    simp only at u2
                    have hJw := hJ (by kernel_rfl)
                    obtain ⟨xl, x0, x1, -⟩ := hJw.1.2
                    refine gives_K fun K hK => ?_
                    go_simp
                    exact gives_value (hK _ _ ⟨Below.refl _ _, by simp [upF]⟩)
                  | 4, hix, _ =>
                    simp only [List.getElem?_cons_zero, List.getElem?_cons_succ, Option.some.injEq] at hix
                    subst hix
                    have h10 : f 10 = .pointer (some ⟨Y, 0, none⟩) := (hold 10 (by kernel_rfl)).trans rfl
                    refine gives_K fun K hK => ?_
                    go_simp
                    exact gives_value (hK _ _ ⟨Below.refl _ _, by simp [upF]⟩)
                  | 5, hix, _ =>
                    simp only [List.getElem?_cons_zero, List.getElem?_cons_succ, Option.some.injEq] at hix
                    subst hix
                    have u4 := huse 4 (by decide)
                    simp only at u4
                    have hJw := hJ (by kernel_rfl)
                    obtain ⟨yl, y0, y1, -⟩ := hJw.2
                    refine gives_K fun K hK => ?_
                    go_simp
                    exact gives_value (hK _ _ ⟨Below.refl _ _, by simp [upF]⟩)
                  | 6, hix, _ =>
                    simp only [List.getElem?_cons_zero, List.getElem?_cons_succ, Option.some.injEq] at hix
                    subst hix
                    have u5 := huse 5 (by decide)
                    simp only at u5
                    have hJw := hJ (by kernel_rfl)
                    have HJ := Lib.hid hJw
                    refine gives_K fun K hK => ?_
                    go_simp
                    refine gives_enter ((dcopy_any al qa cpa _ (HRA.out.low HJ.out.1.1.bel) hza HNA.out).mono ?_)
                    rintro e u2 ⟨v, rfl, hin, hb⟩
                    exact ⟨_, rfl, hK _ _ ⟨hb, by simpa [upF] using hin.base HJ.out.1.1.lo⟩⟩
                  | 7, hix, _ =>
                    simp only [List.getElem?_cons_zero, List.getElem?_cons_succ, Option.some.injEq] at hix
                    subst hix
                    have h9 : f 9 = .pointer (some ⟨X, 0, none⟩) := (hold 9 (by kernel_rfl)).trans rfl
                    refine gives_K fun K hK => ?_
                    go_simp
                    exact gives_value (hK _ _ ⟨Below.refl _ _, by simp [upF]⟩)
                  | 8, hix, _ =>
                    simp only [List.getElem?_cons_zero, List.getElem?_cons_succ, Option.some.injEq] at hix
                    subst hix
                    have u7 := huse 7 (by decide)
                    simp only at u7
                    have hJw := hJ (by kernel_rfl)
                    obtain ⟨xl, x0, x1, -⟩ := hJw.1.2
                    refine gives_K fun K hK => ?_
                    go_simp
                    exact gives_value (hK _ _ ⟨Below.refl _ _, by simp [upF]⟩)
                  | 9, hix, _ =>
                    simp only [List.getElem?_cons_zero, List.getElem?_cons_succ, Option.some.injEq] at hix
                    subst hix
                    have u8 := huse 8 (by decide)
                    simp only at u8
                    have hJw := hJ (by kernel_rfl)
                    have HJ := Lib.hid hJw
                    refine gives_K fun K hK => ?_
                    go_simp
                    refine gives_enter ((dcopy_any bl qb cb _ (HRB.out.low HJ.out.1.1.bel) hzb HNB.out).mono ?_)
                    rintro e u2 ⟨v, rfl, hin, hb⟩
                    exact ⟨_, rfl, hK _ _ ⟨hb, by simpa [upF] using hin.base HJ.out.1.1.lo⟩⟩
                  | 10, hix, _ =>
                    simp only [List.getElem?_cons_zero, List.getElem?_cons_succ, Option.some.injEq] at hix
                    subst hix
                    have u3 := huse 3 (by decide)
                    have u6 := huse 6 (by decide)
                    have u9 := huse 9 (by decide)
                    simp only at u3 u6 u9
                    obtain ⟨p6, c6, e6⟩ := InRow.ex u6
                    obtain ⟨p9, c9, e9⟩ := InRow.ex u9
                    refine gives_K fun K hK => ?_
                    go_simp
                    exact gives_value (hK _ _ ⟨Below.refl _ _, by simp [upF, e6, e9]⟩)
                  | 11, hix, _ =>
                    simp only [List.getElem?_cons_zero, List.getElem?_cons_succ, Option.some.injEq] at hix
                    subst hix
                    have u10 := huse 10 (by decide)
                    have u6 := huse 6 (by decide)
                    have u9 := huse 9 (by decide)
                    simp only at u10 u6 u9
                    obtain ⟨p6, c6, e6⟩ := InRow.ex u6
                    obtain ⟨p9, c9, e9⟩ := InRow.ex u9
                    rw [e6, e9] at u10
                    refine gives_K fun K hK => ?_
                    go_simp
                    exact gives_value (hK _ _ ⟨below_alloc _ _, u.heap.size, by simp [upF], by simpa [upF, e6, e9] using cell3_new u (.int .i64 bid) (.slice p6 al.length c6) (.slice p9 bl.length c9) 75⟩)
                  | 12, _, hne => exact absurd (by decide) hne
                  | 13, hix, _ =>
                    simp only [List.getElem?_cons_zero, List.getElem?_cons_succ, Option.some.injEq] at hix
                    subst hix
                    have h6 : f 6 = .pointer (some ⟨w.heap.size + 3, 0, none⟩) := (hold 6 (by kernel_rfl)).trans rfl
                    refine gives_K fun K hK => ?_
                    go_simp
                    exact gives_value (hK _ _ ⟨Below.refl _ _, by simp [upF]⟩)
                  | 14, _, hne => exact absurd (by decide) hne
                  | ix + 15, hix, _ => simp at hix
                · intro ix o hix hin f u hold hbe hgr hJ huse
                  obtain ⟨kt, kc, kf⟩ := evF_all f
                  match ix, hix, hin with
                  | 0, _, hin => exact absurd hin (by decide)
                  | 1, _, hin => exact absurd hin (by decide)
                  | 2, _, hin => exact absurd hin (by decide)
                  | 3, _, hin => exact absurd hin (by decide)
                  | 4, _, hin => exact absurd hin (by decide)
                  | 5, _, hin => exact absurd hin (by decide)
                  | 6, _, hin => exact absurd hin (by decide)
                  | 7, _, hin => exact absurd hin (by decide)
                  | 8, _, hin => exact absurd hin (by decide)
                  | 9, _, hin => exact absurd hin (by decide)
                  | 10, _, hin => exact absurd hin (by decide)
                  | 11, _, hin => exact absurd hin (by decide)
                  | 12, hix, _ =>
                    simp only [List.getElem?_cons_zero, List.getElem?_cons_succ, Option.some.injEq] at hix
                    subst hix
                    have u1 := huse 1 (by decide)
                    have u11 := huse 11 (by decide)
                    have u6 := huse 6 (by decide)
                    have u9 := huse 9 (by decide)
                    simp only at u1 u11 u6 u9
                    have hJw := hJ (by kernel_rfl)
                    obtain ⟨k, h72, hc3⟩ := u11
                    obtain ⟨p6, c6, e6⟩ := InRow.ex u6
                    obtain ⟨p9, c9, e9⟩ := InRow.ex u9
                    refine gives_append_any (.tmp 62) (.tmp 72) 23 75 rfl (w.heap.size + 3 + 1) i0 _ 3 56 Tryz.underlying23 hi0 hz0 hz1 hz2 rfl (by decide) vu P.length (pcells P) ((kt 62).trans u1) hJw.1.1.d.upd (some ⟨k, 0, none⟩) 1 1 [.int .i64 bid, f 67, f 70] ((kt 72).trans h72) rfl (fun ad he => by cases he; exact pair_news hc3.c0 hc3.c1 hc3.c2) (fun e => by cases e) (by intro x hx; simp only [List.mem_cons, List.not_mem_nil, or_false] at hx; rcases hx with rfl | rfl | rfl; rfl; (rw [e6]; rfl); (rw [e9]; rfl)) (by unfold maxLen; omega) (by omega) hJw.1.1.lo ?_
                    intro v2 u2 hown hg
                    refine ⟨hg.size, grown_below hbe (Nat.le_trans (Nat.le_of_lt (by have := HW4.out.lo; show w.heap.size < W4.heap.size; omega)) hgr) hg (fun k hk => by have := owns_block hJw.1.1.d.upd k hk; omega), ⟨⟨u, hJw.1.1, ⟨u6, u9⟩, hg⟩, by rw [List.length_append, List.length_singleton, pcells_append]; exact hown⟩, fun hbk => absurd (by decide) hbk, ?_⟩
                    intro jx hji hl hr hs h
                    match jx, hji, hl, hr, hs, h with
                    | 0, _, hl, _, _, _ => exact absurd hl (by decide)
                    | 1, _, hl, _, _, _ => exact absurd hl (by decide)
                    | 2, _, hl, _, _, _ => exact absurd hl (by decide)
                    | 3, _, hl, _, _, _ => exact absurd hl (by decide)
                    | 4, _, hl, _, _, _ => exact absurd hl (by decide)
                    | 5, _, hl, _, _, _ => exact absurd hl (by decide)
                    | 6, _, hl, _, _, _ => exact absurd hl (by decide)
                    | 7, _, hl, _, _, _ => exact absurd hl (by decide)
                    | 8, _, hl, _, _, _ => exact absurd hl (by decide)
                    | 9, _, hl, _, _, _ => exact absurd hl (by decide)
                    | 10, _, hl, _, _, _ => exact absurd hl (by decide)
                    | 11, _, hl, _, _, _ => exact absurd hl (by decide)
                    | 12, hji, _, _, _, _ => exact absurd rfl hji
                    | 13, _, _, hr, hs, h =>
                      have e74 := hs 74 (by decide)
                      simp only [e74]
                      exact h
                    | 14, _, hl, _, _, _ => exact absurd hl (by decide)
                    | jx + 15, _, hl, _, _, _ => exact absurd hl (by simp)
                  | 13, _, hin => exact absurd hin (by decide)
                  | 14, hix, _ =>
                    simp only [List.getElem?_cons_zero, List.getElem?_cons_succ, Option.some.injEq] at hix
                    subst hix
                    have u12 := huse 12 (by decide)
                    have u13 := huse 13 (by decide)
                    simp only at u12 u13
                    obtain ⟨⟨u0, hm, ⟨hi6, hi9⟩, hg⟩, hown⟩ := u12
                    obtain ⟨⟨zl, z0, z1, z2, z3, zf⟩, hS⟩ := hm.pushU0 (g := (bid, (f 67, al), (f 70, bl))) ⟨hi6, hi9⟩ hi hj HM2.out HN2.out HN3.out (by rw [HAI.out, HBJ.out]) (by rw [HAI.out, HBJ.out]; exact HL.out) HQ2.out HCAP.out hown hg
                    obtain ⟨p12, c12, e12⟩ := own_ex hown
                    rw [List.length_append, List.length_singleton] at e12
                    have HS : Hid (MrW w T S pa (some ⟨c, o, none⟩) (i + 1) (j + 1) q2 (cq - 1) vi vd (f 73) GI GD (P ++ [(bid, (f 67, al), (f 70, bl))]) (u.setCell ⟨w.heap.size + 3, 3, none⟩ (.slice p12 (P.length + 1) c12))) := Lib.hid (by rw [← e12]; exact hS)
                    clear hm hi6 hi9 hg hS hown
                    refine gives_K fun K hK => ?_
                    go_simp
                    refine gives_skip (hK _ _ ⟨by rw [set_size]; exact Nat.le_refl _, hbe.setCell (by show w.heap.size ≤ w.heap.size + 3; omega) _, HS.out, fun hbk => absurd (by decide) hbk, ?_⟩)
                    intro jx hji hl hr hs h
                    match jx, hji, hl, hr, hs, h with
                    | 0, _, hl, _, _, _ => exact absurd hl (by decide)
                    | 1, _, hl, _, _, _ => exact absurd hl (by decide)
                    | 2, _, hl, _, _, _ => exact absurd hl (by decide)
                    | 3, _, hl, _, _, _ => exact absurd hl (by decide)
                    | 4, _, hl, _, _, _ => exact absurd hl (by decide)
                    | 5, _, hl, _, _, _ => exact absurd hl (by decide)
                    | 6, _, hl, _, _, _ => exact absurd hl (by decide)
                    | 7, _, hl, _, _, _ => exact absurd hl (by decide)
                    | 8, _, hl, _, _, _ => exact absurd hl (by decide)
                    | 9, _, hl, _, _, _ => exact absurd hl (by decide)
                    | 10, _, hl, _, _, _ => exact absurd hl (by decide)
                    | 11, _, hl, _, _, _ => exact absurd hl (by decide)
                    | 12, _, hl, _, _, _ => exact absurd hl (by decide)
                    | 13, _, _, hr, hs, h =>
                      have e74 := hs 74 (by decide)
                      simp only [e74]
                      exact h
                    | 14, hji, _, _, _, _ => exact absurd rfl hji
                    | jx + 15, _, hl, _, _, _ => exact absurd hl (by simp)
                  | ix + 15, hix, _ => simp at hix
                · intro f2 u2 hbe hall
                  have u14 := hall 14 (by decide) (by kernel_rfl)
                  simp only at u14
                  clear hall
                  simp only [putAll, List.foldl_cons, List.foldl_nil, Act.put, List.setIfInBounds_toArray, List.set_cons_succ, List.set_cons_zero]
                  have HS14 := Lib.hid u14
                  clear u14 hbe HW4 HX4 HY4
                  go_wp2_with fail
                  go_roundg gO
                  case measure => omega
                  case rel => exact ⟨i + 1, j + 1, q2, cq - 1, vi, vd, _, GI, GD, _, Lib.hid (by have := hjg.out; omega), rfl, by go_num, HS14.out⟩
          · have hled : decide (aid ≤ bid) = false := decide_eq_false hle
            have hfr : ∀ h : i < T.R.length, bid < (tAt T.R i).1 := fun _ => by rw [HAI.out]; dsimp only; omega
            have HW1 := Lib.hid (HW.out.low (Below.refl wr.heap.size wr).drew)
            have HX1 := Lib.hid (HX.out.low (Below.refl wr.heap.size wr).drew)
            go_upto_region 6 with (fail)
            go_region
            obtain ⟨m3, hn3⟩ := HW1.out.mg.fresh HTU.out hj (by rw [HBJ.out]; exact hfr)
            have HM3 := Lib.hid m3
            have HN3 : Hid (getR (tAt S.R j).1 T.R = none) := Lib.hid hn3
            clear m3 hn3 HW HX hfr
            generalize World.drew _ = W3 at HW1 HX1 ⊢
            obtain ⟨xl, x0, x1, -⟩ := HX1.out
            obtain ⟨ol, o0, o1, o2, o3, -⟩ := HW1.out.a
            by_cases hnx : bid < T.nx
            · have hnd : decide (bid < T.nx) = true := decide_eq_true hnx
              have HNB2 : Hid (newB T.nx T.R S.R = false) := Lib.hid (newB_no hj HN3.out (by rw [HBJ.out]; exact hnx))
              obtain ⟨rl, r0, r1, r2, r3, rf⟩ := HW1.out.r
              have HYS := Lib.hid (cell4_put W3 HW1.out.r (.string ⟨#[]⟩) (.slice none 0 0) (.slice none 0 0) (.slice none 0 0))
              have HBE := Lib.hid HW1.out.bel
              clear o0 o1 o3
              go_wp2
              try rw [Exit.noGoto_ret]
              obtain ⟨-, s0, s1, s2, s3, -⟩ := HYS.out
              exact bodyPost_ret (v := .tuple #[.agg #[.string ⟨#[]⟩, .slice none 0 0, .slice none 0 0, .slice none 0 0], .bool false]) (by simp [results, Tryz.results45, go_sem, s0, s1, s2, s3]) rfl
                ⟨zeroDlt, by rw [HNB2.out]; rfl, (fun v _ _ => zeroDlt_at v), (((HBE.out.setCell (by show w.heap.size ≤ w.heap.size + 2; omega) _).setCell (by show w.heap.size ≤ w.heap.size + 2; omega) _).setCell (by show w.heap.size ≤ w.heap.size + 2; omega) _).setCell (by show w.heap.size ≤ w.heap.size + 2; omega) _, .inr ⟨HNB2.out, rfl, rfl, rfl, rfl⟩⟩
            · have hnd : decide (bid < T.nx) = false := decide_eq_false hnx
              have hbN : T.nx ≤ bid := by omega
              go_upto_region 15 with (fail)
              clear o0 o1 o2 o3 ol
              have HRV := Lib.hid ((HRB.out.low HW1.out.bel).low (Below.refl W3.heap.size W3).drew)
              have HWD := Lib.hid (HW1.out.low (Below.refl W3.heap.size W3).drew)
              obtain ⟨dl, d0, d1, d2, d3, -⟩ := HW1.out.d.box
              have hgl : GI.length ≤ 1000 := by have := HIL.out; omega
              have HBS : Hid (w.heap.size + 3 + 1 ≤ W3.drew.heap.size) := Lib.hid HW1.out.lo
              clear d0 d2 d3
              go_region_law (first
                | (go_simp; go_at_call 67; refine (dcopyrow_any bid bl qb cb _ HRV.out hzb HNB.out).mono ?_; rintro e w12 ⟨v12, rfl, hin, hb12⟩; obtain ⟨p12, c12, e12⟩ := InRow.ex hin; subst e12; (have HIN := Lib.hid (InRow.base hin HBS.out)); (have HO12 := Lib.hid (HWD.out.low hb12)); (have n1 := HO12.out.d.box.c1); (have nl := HO12.out.d.box.lt); clear hin hb12)
                | (refine step_append_trow (by rfl) (.tmp 82) (.tmp 85) (by rfl) (w.heap.size + 3 + 1) vi GI (by simp [Act.eval]) (HO12.out.d.ins.low (below_alloc _ _)).own w12.heap.size bid (.slice p12 bl.length c12) bl (by simp [Act.eval]) (row2_new _ _ _ _).1 (row2_new _ _ _ _).2 rfl (by omega) (by rw [size_alloc]; exact Nat.le_succ_of_le HO12.out.lo) ?_; intro v13 w13 hown13 hg13; obtain ⟨⟨zl, z0, z1, z2, z3, zf⟩, hS13⟩ := HO12.out.pushI (g := (bid, .slice p12 bl.length c12, bl)) HIN.out hj HBJ.out.symm hbN HM3.out HN3.out hown13 hg13; obtain ⟨p13, c13, e13⟩ := hS13.d.ins.ex; subst e13; rw [List.length_append, List.length_singleton] at hS13; (have HS13 := Lib.hid hS13); clear hS13 hown13 hg13 z0 z2 z3))
              all_goals
                clear HW1 HX1 HWD HO12
                generalize World.setCell _ _ _ = W13 at HS13 ⊢
                go_wp2_with fail
                go_roundg gO
                case measure => omega
                case rel => exact ⟨i, j + 1, _, cq, _, vd, vu, GI ++ [(bid, .slice p12 bl.length c12, bl)], GD, P, Lib.hid (by have := hjg.out; omega), rfl, by go_num, HS13.out⟩
        · have hlI : decide ((0 : Int) < ((T.R.length - i : Nat) : Int)) = false := decide_eq_false (by omega)
          have hln : decide (0 < T.R.length - i) = false := decide_eq_false (by omega)
          have hfr : ∀ h : i < T.R.length, bid < (tAt T.R i).1 := fun h => absurd h hi
          have HW1 := Lib.hid (HW.out.low (Below.refl wr.heap.size wr).drew)
          have HX1 := Lib.hid (HX.out.low (Below.refl wr.heap.size wr).drew)
          go_upto_region 6 with (fail)
          go_region
          obtain ⟨m3, hn3⟩ := HW1.out.mg.fresh HTU.out hj (by rw [HBJ.out]; exact hfr)
          have HM3 := Lib.hid m3
          have HN3 : Hid (getR (tAt S.R j).1 T.R = none) := Lib.hid hn3
          clear m3 hn3 HW HX hfr
          generalize World.drew _ = W3 at HW1 HX1 ⊢
          obtain ⟨xl, x0, x1, -⟩ := HX1.out
          obtain ⟨ol, o0, o1, o2, o3, -⟩ := HW1.out.a
          by_cases hnx : bid < T.nx
          · have hnd : decide (bid < T.nx) = true := decide_eq_true hnx
            have HNB2 : Hid (newB T.nx T.R S.R = false) := Lib.hid (newB_no hj HN3.out (by rw [HBJ.out]; exact hnx))
            obtain ⟨rl, r0, r1, r2, r3, rf⟩ := HW1.out.r
            have HYS := Lib.hid (cell4_put W3 HW1.out.r (.string ⟨#[]⟩) (.slice none 0 0) (.slice none 0 0) (.slice none 0 0))
            have HBE := Lib.hid HW1.out.bel
            clear o0 o1 o3
            go_wp2
            try rw [Exit.noGoto_ret]
            obtain ⟨-, s0, s1, s2, s3, -⟩ := HYS.out
            exact bodyPost_ret (v := .tuple #[.agg #[.string ⟨#[]⟩, .slice none 0 0, .slice none 0 0, .slice none 0 0], .bool false]) (by simp [results, Tryz.results45, go_sem, s0, s1, s2, s3]) rfl
              ⟨zeroDlt, by rw [HNB2.out]; rfl, (fun v _ _ => zeroDlt_at v), (((HBE.out.setCell (by show w.heap.size ≤ w.heap.size + 2; omega) _).setCell (by show w.heap.size ≤ w.heap.size + 2; omega) _).setCell (by show w.heap.size ≤ w.heap.size + 2; omega) _).setCell (by show w.heap.size ≤ w.heap.size + 2; omega) _, .inr ⟨HNB2.out, rfl, rfl, rfl, rfl⟩⟩
          · have hnd : decide (bid < T.nx) = false := decide_eq_false hnx
            have hbN : T.nx ≤ bid := by omega
            go_upto_region 15 with (fail)
            clear o0 o1 o2 o3 ol
            have HRV := Lib.hid ((HRB.out.low HW1.out.bel).low (Below.refl W3.heap.size W3).drew)
            have HWD := Lib.hid (HW1.out.low (Below.refl W3.heap.size W3).drew)
            obtain ⟨dl, d0, d1, d2, d3, -⟩ := HW1.out.d.box
            have hgl : GI.length ≤ 1000 := by have := HIL.out; omega
            have HBS : Hid (w.heap.size + 3 + 1 ≤ W3.drew.heap.size) := Lib.hid HW1.out.lo
            clear d0 d2 d3
            go_region_law (first
              | (go_simp; go_at_call 67; refine (dcopyrow_any bid bl qb cb _ HRV.out hzb HNB.out).mono ?_; rintro e w12 ⟨v12, rfl, hin, hb12⟩; obtain ⟨p12, c12, e12⟩ := InRow.ex hin; subst e12; (have HIN := Lib.hid (InRow.base hin HBS.out)); (have HO12 := Lib.hid (HWD.out.low hb12)); (have n1 := HO12.out.d.box.c1); (have nl := HO12.out.d.box.lt); clear hin hb12)
              | (refine step_append_trow (by rfl) (.tmp 82) (.tmp 85) (by rfl) (w.heap.size + 3 + 1) vi GI (by simp [Act.eval]) (HO12.out.d.ins.low (below_alloc _ _)).own w12.heap.size bid (.slice p12 bl.length c12) bl (by simp [Act.eval]) (row2_new _ _ _ _).1 (row2_new _ _ _ _).2 rfl (by omega) (by rw [size_alloc]; exact Nat.le_succ_of_le HO12.out.lo) ?_; intro v13 w13 hown13 hg13; obtain ⟨⟨zl, z0, z1, z2, z3, zf⟩, hS13⟩ := HO12.out.pushI (g := (bid, .slice p12 bl.length c12, bl)) HIN.out hj HBJ.out.symm hbN HM3.out HN3.out hown13 hg13; obtain ⟨p13, c13, e13⟩ := hS13.d.ins.ex; subst e13; rw [List.length_append, List.length_singleton] at hS13; (have HS13 := Lib.hid hS13); clear hS13 hown13 hg13 z0 z2 z3))
            all_goals
              clear HW1 HX1 HWD HO12
              generalize World.setCell _ _ _ = W13 at HS13 ⊢
              go_wp2_with fail
              go_roundg gO
              case measure => omega
              case rel => exact ⟨i, j + 1, _, cq, _, vd, vu, GI ++ [(bid, .slice p12 bl.length c12, bl)], GD, P, Lib.hid (by have := hjg.out; omega), rfl, by go_num, HS13.out⟩
    · have hjd : decide ((j : Int) < S.R.length) = false := decide_eq_false (by omega)
      obtain rfl : j = S.R.length := by have := HW.out.mg.hj; omega
      have HQI := Lib.hid HW.out.rest
      clear hjg
      go_wp2_with fail
      go_loopg [91] (T.R.length - i) (fun g s91 wx => ∃ (k : Nat) (q' : Option Addr) (vd : Value) (GD : List GRow), Hid (k + g = T.R.length - i) ∧ s91 = .int .i64 k ∧ MrW w T S pa pb (i + k) S.R.length q' cq vi vd vu GI GD P wx)
      case atStart => exact ⟨0, q, vd, GD, Lib.hid (Nat.zero_add _), rfl, HW.out⟩
      clear HW
      case round =>
        obtain ⟨k, q', vd, GD, hkg, rfl, hw⟩ := hrel
        have HW := Lib.hid hw
        have HDL : Hid (GD.length ≤ T.R.length) := Lib.hid (by have h1 := congrArg List.length hw.gd; rw [tabR_length] at h1; have h2 := List.length_filter_le (fun r : TRow => (getR r.1 S.R).isNone) (T.R.take (i + k)); rw [List.length_take] at h2; omega)
        clear hw
        by_cases hk : k < T.R.length - i
        · have hkd : decide ((k : Int) < ((T.R.length - i : Nat) : Int)) = true := decide_eq_true (by omega)
          have hkn : decide (k < T.R.length - i) = true := decide_eq_true hk
          obtain ⟨g2, rfl⟩ : ∃ g, gk = g + 1 := ⟨gk - 1, by have := hkg.out; omega⟩
          have hik : i + k < T.R.length := by omega
          obtain ⟨c, o, qa, cpa, hp, hc, h0, h1, hra, hza, hna⟩ := HQI.out k (by rw [List.length_drop]; exact hk)
          have e : tAt (T.R.drop i) k = tAt T.R (i + k) := by unfold tAt; rw [List.getD, List.getElem?_drop]; rfl
          rw [e] at h0 h1 hra hza hna
          clear e
          obtain ⟨⟨aid, al⟩, ha⟩ : ∃ x, tAt T.R (i + k) = x := ⟨_, rfl⟩
          rw [ha] at h0 h1 hra hza hna
          dsimp only at h0 h1 hra hza hna
          have HAI := Lib.hid ha
          have HRA := Lib.hid hra
          have HNA := Lib.hid hna
          have haN : aid < T.nx := by have := HTN.out (i + k) hik; rw [ha] at this; exact this
          obtain ⟨m2, hn2⟩ := HW.out.mg.last hik
          have HM2 := Lib.hid m2
          have HN2 := Lib.hid hn2
          obtain ⟨cz, oz, -, -, hpz, -⟩ := mrow_at hik HW.out.rest
          have HQ2 : Hid (TRowsAt w (some ⟨cz, oz + 2, none⟩) (T.R.drop (i + k + 1))) := Lib.hid (trows_next hik (by rw [← hpz]; exact HW.out.rest))
          have HCAP : Hid (T.R.length - (i + k + 1) ≤ cq) := Lib.hid (by have := HW.out.cap; omega)
          clear ha hra hna m2 hn2 hpz
          subst hp
          rw [← HW.out.bel.cell (by exact hc)] at h0 h1
          have hbn := below_alloc wr (.cells #[.int .i64 aid, .slice qa al.length cpa] 58)
          have HW1 := Lib.hid (HW.out.low hbn)
          have HY1 := Lib.hid (cell2_new wr (.int .i64 aid) (.slice qa al.length cpa) 58)
          clear hbn HW
          go_upto_region 20 with (fail)
          clear h0 h1
          generalize World.alloc _ _ = W3 at HW1 HY1 ⊢
          generalize wr.heap.size = Y at HY1 ⊢
          have HRV := Lib.hid ((HRA.out.low HW1.out.bel).low (Below.refl W3.heap.size W3).drew)
          have HWD := Lib.hid (HW1.out.low (Below.refl W3.heap.size W3).drew)
          obtain ⟨dl, d0, d1, d2, d3, -⟩ := HW1.out.d.box
          obtain ⟨yl, y0, y1, -⟩ := HY1.out
          have hgl : GD.length ≤ 1000 := by have := HDL.out; omega
          have HBS : Hid (w.heap.size + 3 + 1 ≤ W3.drew.heap.size) := Lib.hid HW1.out.lo
          clear d0 d1 d3
          go_region_law (first
            | (go_simp; go_at_call 67; refine (dcopyrow_any aid al qa cpa _ HRV.out hza HNA.out).mono ?_; rintro e w12 ⟨v12, rfl, hin, hb12⟩; obtain ⟨p12, c12, e12⟩ := InRow.ex hin; subst e12; (have HIN := Lib.hid (InRow.base hin HBS.out)); (have HO12 := Lib.hid (HWD.out.low hb12)); (have n2 := HO12.out.d.box.c2); (have nl := HO12.out.d.box.lt); clear hin hb12)
            | (refine step_append_trow (by rfl) (.tmp 96) (.tmp 99) (by rfl) (w.heap.size + 3 + 1) vd GD (by simp [Act.eval]) (HO12.out.d.del.low (below_alloc _ _)).own w12.heap.size aid (.slice p12 al.length c12) al (by simp [Act.eval]) (row2_new _ _ _ _).1 (row2_new _ _ _ _).2 rfl (by omega) (by rw [size_alloc]; exact Nat.le_succ_of_le HO12.out.lo) ?_; intro v13 w13 hown13 hg13; obtain ⟨⟨zl, z0, z1, z2, z3, zf⟩, hS13⟩ := HO12.out.pushD (g := (aid, .slice p12 al.length c12, al)) HIN.out hik HAI.out.symm haN HM2.out HN2.out HQ2.out HCAP.out hown13 hg13; obtain ⟨p13, c13, e13⟩ := hS13.d.del.ex; subst e13; rw [List.length_append, List.length_singleton] at hS13; (have HS13 := Lib.hid hS13); clear hS13 hown13 hg13 z0 z1 z3))
          all_goals
            clear HW1 HY1 HWD HO12
            generalize World.setCell _ _ _ = W13 at HS13 ⊢
            go_wp2_with fail
            go_roundg g2
            case measure => omega
            case rel => exact ⟨k + 1, _, _, GD ++ [(aid, .slice p12 al.length c12, al)], Lib.hid (by have := hkg.out; omega), by go_num, HS13.out⟩
        · have hkd : decide ((k : Int) < ((T.R.length - i : Nat) : Int)) = false := decide_eq_false (by omega)
          have hkn : decide (k < T.R.length - i) = false := decide_eq_false hk
          have hik : i + k = T.R.length := by have h1 := hkg.out; have h2 := HW.out.mg.hi; omega
          have HNB : Hid (newB T.nx T.R S.R = true) := Lib.hid (newB_yes HW.out.nw)
          have HGI : Hid (tabR GI = insR T.R S.R) := Lib.hid (by have h := HW.out.gi; rw [List.take_length] at h; exact h)
          have HGD : Hid (tabR GD = delR T.R S.R) := Lib.hid (by have h := HW.out.gd; rw [hik, List.take_length] at h; exact h)
          have HGU : Hid (P.map unG = updR T.R S.R) := Lib.hid (by have h := HW.out.gu; rw [List.take_length] at h; exact h)
          obtain ⟨pi, ci, ei⟩ := HW.out.d.ins.ex
          obtain ⟨pd, cd, ed⟩ := HW.out.d.del.ex
          obtain ⟨pu, cu, eu⟩ := own_ex HW.out.d.upd
          subst ei ed eu
          have hdk := HW.out.d.keep (v := (((wr.setCell ⟨w.heap.size + 2, 0, none⟩ (.string T.nm)).setCell ⟨w.heap.size + 2, 1, none⟩ (.slice pi GI.length ci)).setCell ⟨w.heap.size + 2, 2, none⟩ (.slice pd GD.length cd)).setCell ⟨w.heap.size + 2, 3, none⟩ (.slice pu P.length cu)) (by rw [set_size, set_size, set_size, set_size]; exact Nat.le_refl _) (fun k h1 _ => by rw [Below.heap_setCell _ _ _ _ (show k ≠ w.heap.size + 2 by omega), Below.heap_setCell _ _ _ _ (show k ≠ w.heap.size + 2 by omega), Below.heap_setCell _ _ _ _ (show k ≠ w.heap.size + 2 by omega), Below.heap_setCell _ _ _ _ (show k ≠ w.heap.size + 2 by omega)])
          have HE : Hid (DltFree w.heap.size ((((wr.setCell ⟨w.heap.size + 2, 0, none⟩ (.string T.nm)).setCell ⟨w.heap.size + 2, 1, none⟩ (.slice pi GI.length ci)).setCell ⟨w.heap.size + 2, 2, none⟩ (.slice pd GD.length cd)).setCell ⟨w.heap.size + 2, 3, none⟩ (.slice pu P.length cu)) ⟨T.nm, pi, ci, tabR GI, pd, cd, tabR GD, pu, cu, P.map unG⟩) := Lib.hid fun v hz hkv =>
            ((hdk.keep hz fun k h1 h2 => hkv k (by omega) h2).at HT.out.name (by have := HIL.out; omega) (by have := HDL.out; omega) (by have := HPL.out; omega) (by rw [HGI.out]; exact fun r hr => HS.out.sized r (insR_mem hr).1) (by rw [HGD.out]; exact fun r hr => HT.out.sized r (delR_mem hr).1) (by rw [HGU.out]; exact fun u hu => HT.out.sized _ (updR_mem hu).1) (by rw [HGU.out]; exact fun u hu => HS.out.sized _ (updR_mem hu).2.1)).1
          obtain ⟨dl, d0, d1, d2, d3, -⟩ := HW.out.d.box
          obtain ⟨rl, r0, r1, r2, r3, rf⟩ := HW.out.r
          have HYS := Lib.hid (cell4_put wr HW.out.r (.string T.nm) (.slice pi GI.length ci) (.slice pd GD.length cd) (.slice pu P.length cu))
          have HBE := Lib.hid HW.out.bel
          clear hdk HW hik
          go_wp2
          try rw [Exit.noGoto_ret]
          obtain ⟨-, s0, s1, s2, s3, -⟩ := HYS.out
          exact bodyPost_ret (v := .tuple #[.agg #[.string T.nm, .slice pi GI.length ci, .slice pd GD.length cd, .slice pu P.length cu], .bool true]) (by simp [results, Tryz.results45, go_sem, s0, s1, s2, s3]) rfl
            ⟨⟨T.nm, pi, ci, tabR GI, pd, cd, tabR GD, pu, cu, P.map unG⟩, by rw [HNB.out]; dsimp only; rw [tabR_length, tabR_length, List.length_map], HE.out, (((HBE.out.setCell (by show w.heap.size ≤ w.heap.size + 2; omega) _).setCell (by show w.heap.size ≤ w.heap.size + 2; omega) _).setCell (by show w.heap.size ≤ w.heap.size + 2; omega) _).setCell (by show w.heap.size ≤ w.heap.size + 2; omega) _, .inl ⟨HNB.out, rfl, HGI.out, HGD.out, HGU.out⟩⟩
end Go.Proofs.YtlnbpobipmejfaaGreatDoor
