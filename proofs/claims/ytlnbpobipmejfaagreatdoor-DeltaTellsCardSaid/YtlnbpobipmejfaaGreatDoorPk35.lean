/-
  Several texts in one.
-/
import Derived.Test.YtlnbpobipmejfaaGreatDoorPk34
import Derived.Test.YtlnbpobipmejfaaGreatDoorPk22
/-
  Between of the reference of package delta.
-/
namespace Go.Proofs.YtlnbpobipmejfaaGreatDoor
set_option maxRecDepth 100000
open Go.RowKit
variable {ls : List Nat}

structure RbW (w : World) (T S : Tab) (pa pb : Option Addr) (X i j : Nat) (vi vd vu : Value) (GI GD : List GRow) (P : List GPair) (v : World) : Prop where
  a : Cell4 v w.heap.size (.string T.nm) (.slice T.pc T.n T.cc) (.int .i64 T.nx) (.slice pa T.R.length T.cr)
  b : Cell4 v (w.heap.size + 1) (.string S.nm) (.slice S.pc S.n S.cc) (.int .i64 S.nx) (.slice pb S.R.length S.cr)
  r : Cell4 v (w.heap.size + 2) (.string ⟨#[]⟩) (.slice none 0 0) (.slice none 0 0) (.slice none 0 0)
  d : DltW T.nx X T.nm vi vd vu GI GD P v
  gi : tabR GI = (S.R.take j).filter (fun r => (getR r.1 T.R).isNone)
  gd : tabR GD = (T.R.take i).filter (fun r => (getR r.1 S.R).isNone)
  gu : P.map unG = (S.R.take j).filterMap (updP T.R)
  nw : ∀ k, k < j → (getR (tAt S.R k).1 T.R).isSome = true ∨ T.nx ≤ (tAt S.R k).1
  bel : Below w.heap.size w v
  hX : w.heap.size + 2 < X
section
variable {w u v w8 : World} {T S : Tab} {pa pb : Option Addr} {X i j : Nat} {vi vd vu v8 : Value} {GI GD : List GRow} {P : List GPair}
theorem RbW.low (h : RbW w T S pa pb X i j vi vd vu GI GD P u) (hb : Below u.heap.size u v) : RbW w T S pa pb X i j vi vd vu GI GD P v :=
  ⟨h.a.low hb, h.b.low hb, h.r.low hb, h.d.low hb, h.gi, h.gd, h.gu, h.nw, below_next h.bel hb, h.hX⟩
theorem RbW.lo (h : RbW w T S pa pb X i j vi vd vu GI GD P u) : X < u.heap.size := h.d.box.lt
theorem c4pushX {Z o : Nat} {a b c d y : Value} {row : Option Nat} (h : Cell4 u Z a b c d) (hg : u.grownBy w8 row) (hr : ∀ k, row = some k → X + 1 ≤ k) (hZ : Z < X) : Cell4 (w8.setCell ⟨X, o, none⟩ y) Z a b c d :=
  (h.grown hg (fun k hk => by have := hr k hk; omega)).far (by omega) y
theorem belpushX {o : Nat} {y : Value} {row : Option Nat} (h : Below w.heap.size w u) (hg : u.grownBy w8 row) (hr : ∀ k, row = some k → X + 1 ≤ k) (hX : w.heap.size + 2 < X) : Below w.heap.size w (w8.setCell ⟨X, o, none⟩ y) :=
  (grown_below h h.size hg (fun k hk => by have := hr k hk; omega)).setCell (by show w.heap.size ≤ X; omega) y
theorem nw_step {A B : List TRow} {nx : Int} {j : Nat} (h : ∀ k, k < j → (getR (tAt B k).1 A).isSome = true ∨ nx ≤ (tAt B k).1) (h1 : (getR (tAt B j).1 A).isSome = true ∨ nx ≤ (tAt B j).1) : ∀ k, k < j + 1 → (getR (tAt B k).1 A).isSome = true ∨ nx ≤ (tAt B k).1 := fun k hk => by
  rcases Nat.lt_or_ge k j with hk3 | hk3
  · exact h k hk3
  · obtain rfl : k = j := by omega
    exact h1
theorem RbW.pushD0 {g : GRow} (h : RbW w T S pa pb X i j vi vd vu GI GD P u) (hz : InRow u (X + 1) (g.2.1, g.2.2)) (hi : i < T.R.length) (hg1 : (g.1, g.2.2) = tAt T.R i) (hlt : g.1 < T.nx) (hn : getR (tAt T.R i).1 S.R = none)
    (ho : w8.ownsRow (X + 1) 58 2 v8 (GD ++ [g]).length (tcells (GD ++ [g]))) (hg : u.grownBy w8 vd.ownBlock) :
    Cell4 w8 X (.string T.nm) vi vd vu ∧ RbW w T S pa pb X (i + 1) j vi v8 vu GI (GD ++ [g]) P (w8.setCell ⟨X, 2, none⟩ v8) := by
  have hk : ∀ k, vd.ownBlock = some k → X + 1 ≤ k := fun k hk => owns_block h.d.del.own k hk
  have hX := h.hX
  obtain ⟨hc, hd⟩ := h.d.pushD0 hz hlt ho hg
  exact ⟨hc, c4pushX h.a hg hk (by omega), c4pushX h.b hg hk (by omega), c4pushX h.r hg hk (by omega), hd, h.gi, by rw [tabR_snoc, h.gd, hg1, delR_out hi hn], h.gu, h.nw, belpushX h.bel hg hk hX, hX⟩
theorem RbW.pushI0 {g : GRow} (h : RbW w T S pa pb X i j vi vd vu GI GD P u) (hz : InRow u (X + 1) (g.2.1, g.2.2)) (hj : j < S.R.length) (hg1 : (g.1, g.2.2) = tAt S.R j) (hlt : T.nx ≤ g.1) (hn : getR (tAt S.R j).1 T.R = none)
    (ho : w8.ownsRow (X + 1) 58 2 v8 (GI ++ [g]).length (tcells (GI ++ [g]))) (hg : u.grownBy w8 vi.ownBlock) :
    Cell4 w8 X (.string T.nm) vi vd vu ∧ RbW w T S pa pb X i (j + 1) v8 vd vu (GI ++ [g]) GD P (w8.setCell ⟨X, 1, none⟩ v8) := by
  have hk : ∀ k, vi.ownBlock = some k → X + 1 ≤ k := fun k hk => owns_block h.d.ins.own k hk
  have hX := h.hX
  obtain ⟨hc, hd⟩ := h.d.pushI0 hz hlt ho hg
  exact ⟨hc, c4pushX h.a hg hk (by omega), c4pushX h.b hg hk (by omega), c4pushX h.r hg hk (by omega), hd, by rw [tabR_snoc, h.gi, hg1, delR_out hj hn], h.gd, by rw [h.gu, updR_out hj hn], nw_step h.nw (.inr (by rw [← hg1]; exact hlt)), belpushX h.bel hg hk hX, hX⟩
theorem RbW.pushU0 {g : GPair} (h : RbW w T S pa pb X i j vi vd vu GI GD P u) (hz : InRow u (X + 1) g.2.1 ∧ InRow u (X + 1) g.2.2) (hj : j < S.R.length) {l : List Val} (hn2 : getR (tAt S.R j).1 T.R = some l)
    (hg1 : unG g = ((tAt S.R j).1, l, (tAt S.R j).2)) (hne : l ≠ (tAt S.R j).2)
    (ho : w8.ownsRow (X + 1) 75 3 v8 (P ++ [g]).length (pcells (P ++ [g]))) (hg : u.grownBy w8 vu.ownBlock) :
    Cell4 w8 X (.string T.nm) vi vd vu ∧ RbW w T S pa pb X i (j + 1) vi vd v8 GI GD (P ++ [g]) (w8.setCell ⟨X, 3, none⟩ v8) := by
  have hk : ∀ k, vu.ownBlock = some k → X + 1 ≤ k := fun k hk => owns_block h.d.upd k hk
  have hX := h.hX
  obtain ⟨hc, hd⟩ := h.d.pushU0 hz ho hg
  exact ⟨hc, c4pushX h.a hg hk (by omega), c4pushX h.b hg hk (by omega), c4pushX h.r hg hk (by omega), hd, by rw [h.gi, delR_in hj hn2], h.gd, by rw [List.map_append, h.gu, updR_in hj hn2 hne, ← hg1]; rfl, nw_step h.nw (.inl (by rw [hn2]; rfl)), belpushX h.bel hg hk hX, hX⟩
theorem RbW.skip (h : RbW w T S pa pb X i j vi vd vu GI GD P u) (hj : j < S.R.length) (hn2 : getR (tAt S.R j).1 T.R = some (tAt S.R j).2) : RbW w T S pa pb X i (j + 1) vi vd vu GI GD P u :=
  ⟨h.a, h.b, h.r, h.d, by rw [h.gi, delR_in hj hn2], h.gd, by rw [h.gu, updR_same hj hn2], nw_step h.nw (.inl (by rw [hn2]; rfl)), h.bel, h.hX⟩
theorem RbW.skipD (h : RbW w T S pa pb X i j vi vd vu GI GD P u) (hi : i < T.R.length) {l : List Val} (hn2 : getR (tAt T.R i).1 S.R = some l) : RbW w T S pa pb X (i + 1) j vi vd vu GI GD P u :=
  ⟨h.a, h.b, h.r, h.d, h.gi, by rw [h.gd, delR_in hi hn2], h.gu, h.nw, h.bel, h.hX⟩
theorem getO_of {id : Int} {R : List TRow} {l : List Val} (h : getR id R = some l) : getO id R = (l, true) := by unfold getO; rw [h]
theorem getO_nil {id : Int} {R : List TRow} (h : getR id R = none) : getO id R = ([], false) := by unfold getO; rw [h]
end
theorem rtvalidp_any (T : Tab) (p : Option Addr) (hp : T.pr = p) (w : World) (hT : TabAt w T) :
    Calls Tryz.prog 27 #[.agg #[.string T.nm, .slice T.pc T.n T.cc, .int .i64 T.nx, .slice p T.R.length T.cr]] w fun e w' => e = .returned (.bool T.valid) ∧ Below w.heap.size w w' := by
  subst hp
  exact rtvalid_any T w hT
theorem rgetip_any (T : Tab) (p : Option Addr) (hp : T.pr = p) (id : Int) (w : World) (hT : TabAt w T) :
    Calls Tryz.prog 29 #[.agg #[.string T.nm, .slice T.pc T.n T.cc, .int .i64 T.nx, .slice p T.R.length T.cr], .int .i64 id] w (GetIPost id T.R w) := by
  subst hp
  exact rgeti_any T id w hT
set_option maxHeartbeats 16000000 in
theorem rbetween_any (T S : Tab) (w : World) (hT : TabAt w T) (hS : TabAt w S) :
    Calls Tryz.prog 9 #[.agg #[.string T.nm, .slice T.pc T.n T.cc, .int .i64 T.nx, .slice T.pr T.R.length T.cr], .agg #[.string S.nm, .slice S.pc S.n S.cc, .int .i64 S.nx, .slice S.pr S.R.length S.cr]] w (BetweenPost T S w) := by
  obtain ⟨pa, hpa⟩ : ∃ x, T.pr = x := ⟨_, rfl⟩
  obtain ⟨pb, hpb⟩ : ∃ x, S.pr = x := ⟨_, rfl⟩
  have HPA : Hid (TRowsAt w pa T.R) := Lib.hid (by rw [← hpa]; exact hT.rows)
  have HPB : Hid (TRowsAt w pb S.R) := Lib.hid (by rw [← hpb]; exact hS.rows)
  have HPR : Hid (T.pr = pa ∧ S.pr = pb) := Lib.hid ⟨hpa, hpb⟩
  have HT0 := Lib.hid hT
  have HS0 := Lib.hid hS
  have htl := hT.len
  have hsl := hS.len
  rw [hpa, hpb]
  clear hpa hpb
  have HBL := Lib.hid (below_new (below_new (below_new (Below.refl w.heap.size w) (.cells #[.string T.nm, .slice T.pc T.n T.cc, .int .i64 T.nx, .slice pa T.R.length T.cr] 34)) (.cells #[.string S.nm, .slice S.pc S.n S.cc, .int .i64 S.nx, .slice pb S.R.length S.cr] 34)) (.cells #[.string ⟨#[]⟩, .slice none 0 0, .slice none 0 0, .slice none 0 0] 25))
  have HT := Lib.hid (hT.low HBL.out)
  have HS := Lib.hid (hS.low HBL.out)
  have HA := Lib.hid (((cell4_new w (.string T.nm) (.slice T.pc T.n T.cc) (.int .i64 T.nx) (.slice pa T.R.length T.cr) 34).low (below_alloc _ (.cells #[.string S.nm, .slice S.pc S.n S.cc, .int .i64 S.nx, .slice pb S.R.length S.cr] 34))).low (below_alloc _ (.cells #[.string ⟨#[]⟩, .slice none 0 0, .slice none 0 0, .slice none 0 0] 25)))
  have hb1 := cell4_new (w.alloc (.cells #[.string T.nm, .slice T.pc T.n T.cc, .int .i64 T.nx, .slice pa T.R.length T.cr] 34)) (.string S.nm) (.slice S.pc S.n S.cc) (.int .i64 S.nx) (.slice pb S.R.length S.cr) 34
  rw [size_alloc] at hb1
  have HB := Lib.hid (hb1.low (below_alloc _ (.cells #[.string ⟨#[]⟩, .slice none 0 0, .slice none 0 0, .slice none 0 0] 25)))
  have hr1 := cell4_new ((w.alloc (.cells #[.string T.nm, .slice T.pc T.n T.cc, .int .i64 T.nx, .slice pa T.R.length T.cr] 34)).alloc (.cells #[.string S.nm, .slice S.pc S.n S.cc, .int .i64 S.nx, .slice pb S.R.length S.cr] 34)) (.string ⟨#[]⟩) (.slice none 0 0) (.slice none 0 0) (.slice none 0 0) 25
  rw [size_alloc, size_alloc] at hr1
  have HR := Lib.hid hr1
  clear hb1 hr1 hT hS
  go_enter Tryz.func9, Tryz.ntmps9
  go_upto_region 1 with (fail)
  generalize World.alloc _ _ = W0 at HA HB HR HBL HT HS ⊢
  have hX2 : w.heap.size + 1 + 1 = w.heap.size + 2 := rfl
  try rw [hX2]
  clear hX2
  obtain ⟨al, a0, a1, a2, a3, -⟩ := HA.out
  go_wp2_with fail
  refine (rtvalidp_any T pa HPR.out.1 _ HT.out).mono ?_
  rintro e w1 ⟨rfl, hb1⟩
  have HA1 := Lib.hid (HA.out.low hb1)
  have HB1 := Lib.hid (HB.out.low hb1)
  have HR1 := Lib.hid (HR.out.low hb1)
  have HT1 := Lib.hid (HT.out.low hb1)
  have HS1 := Lib.hid (HS.out.low hb1)
  have HL1 := Lib.hid (below_next HBL.out hb1)
  clear HA HB HR HT HS HBL hb1 al a0 a1 a2 a3
  cases hv1 : T.valid
  · have HV := Lib.hid (btw_no1 (S := S) hv1)
    have HYS := Lib.hid (cell4_put w1 HR1.out (.string ⟨#[]⟩) (.slice none 0 0) (.slice none 0 0) (.slice none 0 0))
    obtain ⟨rl, r0, r1, r2, r3, rf⟩ := HR1.out
    go_wp2
    obtain ⟨-, s0, s1, s2, s3, -⟩ := HYS.out
    exact bodyPost_ret (v := .tuple #[.agg #[.string ⟨#[]⟩, .slice none 0 0, .slice none 0 0, .slice none 0 0], .bool false]) (by simp [results, Tryz.results9, go_sem, s0, s1, s2, s3]) rfl
      (zero_post HV.out ((((HL1.out.setCell (by show w.heap.size ≤ w.heap.size + 2; omega) _).setCell (by show w.heap.size ≤ w.heap.size + 2; omega) _).setCell (by show w.heap.size ≤ w.heap.size + 2; omega) _).setCell (by show w.heap.size ≤ w.heap.size + 2; omega) _))
  obtain ⟨bl, b0, b1, b2, b3, -⟩ := HB1.out
  go_wp2_with fail
  refine (rtvalidp_any S pb HPR.out.2 _ HS1.out).mono ?_
  rintro e w2 ⟨rfl, hb2⟩
  have HA2 := Lib.hid (HA1.out.low hb2)
  have HB2 := Lib.hid (HB1.out.low hb2)
  have HR2 := Lib.hid (HR1.out.low hb2)
  have HT2 := Lib.hid (HT1.out.low hb2)
  have HS2 := Lib.hid (HS1.out.low hb2)
  have HL2 := Lib.hid (below_next HL1.out hb2)
  clear HA1 HB1 HR1 HT1 HS1 HL1 hb2 bl b0 b1 b2 b3
  cases hv2 : S.valid
  · have HV := Lib.hid (btw_no2 (T := T) hv2)
    have HYS := Lib.hid (cell4_put w2 HR2.out (.string ⟨#[]⟩) (.slice none 0 0) (.slice none 0 0) (.slice none 0 0))
    obtain ⟨rl, r0, r1, r2, r3, rf⟩ := HR2.out
    go_wp2
    obtain ⟨-, s0, s1, s2, s3, -⟩ := HYS.out
    exact bodyPost_ret (v := .tuple #[.agg #[.string ⟨#[]⟩, .slice none 0 0, .slice none 0 0, .slice none 0 0], .bool false]) (by simp [results, Tryz.results9, go_sem, s0, s1, s2, s3]) rfl
      (zero_post HV.out ((((HL2.out.setCell (by show w.heap.size ≤ w.heap.size + 2; omega) _).setCell (by show w.heap.size ≤ w.heap.size + 2; omega) _).setCell (by show w.heap.size ≤ w.heap.size + 2; omega) _).setCell (by show w.heap.size ≤ w.heap.size + 2; omega) _))
  obtain ⟨al, a0, a1, a2, a3, -⟩ := HA2.out
  obtain ⟨bl, b0, b1, b2, b3, -⟩ := HB2.out
  go_wp2_with fail
  refine (rsameschema_any T.nm S.nm T.pc S.pc T.n S.n T.f S.f T.cc S.cc _ HT2.out.n HS2.out.n HT2.out.cols HS2.out.cols).mono ?_
  rintro e w3 ⟨rfl, hb3⟩
  have HA3 := Lib.hid (HA2.out.low hb3)
  have HB3 := Lib.hid (HB2.out.low hb3)
  have HR3 := Lib.hid (HR2.out.low hb3)
  have HT3 := Lib.hid (HT2.out.low hb3)
  have HS3 := Lib.hid (HS2.out.low hb3)
  have HL3 := Lib.hid (below_next HL2.out hb3)
  clear HA2 HB2 HR2 HT2 HS2 HL2 hb3 al a0 a1 a2 a3 bl b0 b1 b2 b3
  obtain ⟨sb, hsb⟩ : ∃ b, (eqT T.nm S.nm && sameCols T.n T.f S.n S.f) = b := ⟨_, rfl⟩
  rw [hsb]
  have HSB := Lib.hid hsb
  clear hsb
  cases sb
  · have HV := Lib.hid (btw_no3 HSB.out)
    have HYS := Lib.hid (cell4_put w3 HR3.out (.string ⟨#[]⟩) (.slice none 0 0) (.slice none 0 0) (.slice none 0 0))
    obtain ⟨rl, r0, r1, r2, r3, rf⟩ := HR3.out
    go_wp2
    obtain ⟨-, s0, s1, s2, s3, -⟩ := HYS.out
    exact bodyPost_ret (v := .tuple #[.agg #[.string ⟨#[]⟩, .slice none 0 0, .slice none 0 0, .slice none 0 0], .bool false]) (by simp [results, Tryz.results9, go_sem, s0, s1, s2, s3]) rfl
      (zero_post HV.out ((((HL3.out.setCell (by show w.heap.size ≤ w.heap.size + 2; omega) _).setCell (by show w.heap.size ≤ w.heap.size + 2; omega) _).setCell (by show w.heap.size ≤ w.heap.size + 2; omega) _).setCell (by show w.heap.size ≤ w.heap.size + 2; omega) _))
  obtain ⟨al, a0, a1, a2, a3, -⟩ := HA3.out
  obtain ⟨bl, b0, b1, b2, b3, -⟩ := HB3.out
  obtain ⟨rl, r0, r1, r2, r3, rf⟩ := HR3.out
  by_cases hnx : S.nx < T.nx
  · have hnd : decide (S.nx < T.nx) = true := decide_eq_true hnx
    have HV := Lib.hid (btw_no4 hnx)
    have HYS := Lib.hid (cell4_put w3 HR3.out (.string ⟨#[]⟩) (.slice none 0 0) (.slice none 0 0) (.slice none 0 0))
    go_wp2
    obtain ⟨-, s0, s1, s2, s3, -⟩ := HYS.out
    exact bodyPost_ret (v := .tuple #[.agg #[.string ⟨#[]⟩, .slice none 0 0, .slice none 0 0, .slice none 0 0], .bool false]) (by simp [results, Tryz.results9, go_sem, s0, s1, s2, s3]) rfl
      (zero_post HV.out ((((HL3.out.setCell (by show w.heap.size ≤ w.heap.size + 2; omega) _).setCell (by show w.heap.size ≤ w.heap.size + 2; omega) _).setCell (by show w.heap.size ≤ w.heap.size + 2; omega) _).setCell (by show w.heap.size ≤ w.heap.size + 2; omega) _))
  · have hnd : decide (S.nx < T.nx) = false := decide_eq_false hnx
    have HV := Lib.hid (btw_yes hv1 hv2 HSB.out hnx)
    obtain ⟨-, -, -, -, htr, -⟩ := validT_parts hv1
    have HTN : Hid (∀ k, k < T.R.length → (tAt T.R k).1 < T.nx) := Lib.hid fun k hk => (htr k hk).2.1
    clear hnx htr
    have hdb := dltw_new w3 T.nx T.nm
    have hbn := below_alloc w3 (.cells #[.string T.nm, .slice none 0 0, .slice none 0 0, .slice none 0 0] 25)
    have HW : Hid (RbW w T S pa pb w3.heap.size 0 0 (.slice none 0 0) (.slice none 0 0) (.slice none 0 0) [] [] [] (w3.alloc (.cells #[.string T.nm, .slice none 0 0, .slice none 0 0, .slice none 0 0] 25))) :=
      Lib.hid ⟨HA3.out.low hbn, HB3.out.low hbn, HR3.out.low hbn, hdb, rfl, rfl, rfl, fun k hk => absurd hk (Nat.not_lt_zero _), below_next HL3.out hbn, HR3.out.lt⟩
    clear hdb hbn
    go_wp2_with fail
    clear HA3 HB3 HR3 HT3 HS3 HL3 al a0 a1 a2 a3 bl b0 b1 b2 b3 rl r0 r1 r2 r3 rf
    generalize World.alloc _ _ = W4 at HW ⊢
    generalize w3.heap.size = X at HW ⊢
    go_loopw [46] (fun s v => ∃ (j : Nat) (vi vu : Value) (GI : List GRow) (P : List GPair), j ≤ S.R.length ∧ s = .int .i64 j ∧ RbW w T S pa pb X 0 j vi (.slice none 0 0) vu GI [] P v) (fun s _ => S.R.length - (intOf s).toNat)
    case atStart => exact ⟨0, _, _, [], [], Nat.zero_le _, rfl, HW.out⟩
    clear HW
    case round =>
      obtain ⟨j, vi, vu, GI, P, hjl, rfl, hw⟩ := hrel
      have HW := Lib.hid hw
      have HIL : Hid (GI.length ≤ S.R.length) := Lib.hid (by have h1 := congrArg List.length hw.gi; rw [tabR_length] at h1; have h2 := List.length_filter_le (fun r : TRow => (getR r.1 T.R).isNone) (S.R.take j); rw [List.length_take] at h2; omega)
      have HPL : Hid (P.length ≤ S.R.length) := Lib.hid (by have h1 := congrArg List.length hw.gu; rw [List.length_map] at h1; have h2 := List.length_filterMap_le (updP T.R) (S.R.take j); rw [List.length_take] at h2; omega)
      clear hw
      by_cases hj : j < S.R.length
      · have hjd : decide ((j : Int) < S.R.length) = true := decide_eq_true (by omega)
        obtain ⟨c, o, qb, cb, hp, hc, h0, h1, hrb, hzb, hnb⟩ := HPB.out j hj
        obtain ⟨⟨bid, bl⟩, hb⟩ : ∃ x, tAt S.R j = x := ⟨_, rfl⟩
        rw [hb] at h0 h1 hrb hzb hnb
        dsimp only at h0 h1 hrb hzb hnb
        have HBJ := Lib.hid hb
        have HRB := Lib.hid hrb
        have HNB := Lib.hid hnb
        subst hp
        rw [← HW.out.bel.cell (by exact hc)] at h0 h1
        have hbn := below_alloc wr (.cells #[.int .i64 bid, .slice qb bl.length cb] 58)
        have HW1 := Lib.hid (HW.out.low hbn)
        have HY1 := Lib.hid (cell2_new wr (.int .i64 bid) (.slice qb bl.length cb) 58)
        clear HW hbn hb hrb hnb
        go_upto_region 7 with (fail)
        clear h0 h1
        generalize World.alloc _ _ = W2 at HW1 HY1 ⊢
        generalize wr.heap.size = Y at HY1 ⊢
        obtain ⟨yl, y0, y1, -⟩ := HY1.out
        obtain ⟨al, a0, a1, a2, a3, -⟩ := HW1.out.a
        go_wp2_with fail
        refine (rgetip_any T pa HPR.out.1 bid _ (HT0.out.low HW1.out.bel)).mono ?_
        rintro e W3 ⟨v9, rfl, hin9, hb3⟩
        have HW3 := Lib.hid (HW1.out.low hb3)
        have HY3 := Lib.hid (HY1.out.low hb3)
        have HI3 := Lib.hid (hin9.base HW1.out.lo)
        clear HW1 HY1 hb3 hin9 yl y0 y1 al a0 a1 a2 a3
        cases hg : getR bid T.R with
        | none =>
          have HG : Hid (getR (tAt S.R j).1 T.R = none) := Lib.hid (by rw [HBJ.out]; exact hg)
          have hgo := getO_nil hg
          rw [hgo] at HI3 ⊢
          clear hg hgo
          obtain ⟨yl, y0, y1, -⟩ := HY3.out
          obtain ⟨al, a0, a1, a2, a3, -⟩ := HW3.out.a
          by_cases hnx : bid < T.nx
          · have hnd2 : decide (bid < T.nx) = true := decide_eq_true hnx
            have HNB2 : Hid (btwO T S = false) := Lib.hid (by rw [HV.out]; exact newB_no hj HG.out (by rw [HBJ.out]; exact hnx))
            obtain ⟨rl, r0, r1, r2, r3, rf⟩ := HW3.out.r
            have HYS := Lib.hid (cell4_put W3 HW3.out.r (.string ⟨#[]⟩) (.slice none 0 0) (.slice none 0 0) (.slice none 0 0))
            have HBE := Lib.hid HW3.out.bel
            go_wp2
            obtain ⟨-, s0, s1, s2, s3, -⟩ := HYS.out
            exact bodyPost_ret (v := .tuple #[.agg #[.string ⟨#[]⟩, .slice none 0 0, .slice none 0 0, .slice none 0 0], .bool false]) (by simp [results, Tryz.results9, go_sem, s0, s1, s2, s3]) rfl
              (zero_post HNB2.out ((((HBE.out.setCell (by show w.heap.size ≤ w.heap.size + 2; omega) _).setCell (by show w.heap.size ≤ w.heap.size + 2; omega) _).setCell (by show w.heap.size ≤ w.heap.size + 2; omega) _).setCell (by show w.heap.size ≤ w.heap.size + 2; omega) _))
          · have hnd2 : decide (bid < T.nx) = false := decide_eq_false hnx
            have hbN : T.nx ≤ bid := by omega
            go_upto_region 11 with (fail)
            clear y0 y1 yl al a0 a1 a2 a3
            have HRV := Lib.hid ((HRB.out.low HW3.out.bel).low (Below.refl W3.heap.size W3).drew)
            have HWD := Lib.hid (HW3.out.low (Below.refl W3.heap.size W3).drew)
            obtain ⟨dl, d0, d1, d2, d3, -⟩ := HW3.out.d.box
            obtain ⟨yl, y0, y1, -⟩ := HY3.out
            have hgl : GI.length ≤ 1000 := by have := HIL.out; omega
            have HBS : Hid (X + 1 ≤ W3.drew.heap.size) := Lib.hid HW3.out.lo
            clear d0 d2 d3
            go_region_law (first
              | (go_simp; go_at_call 30; refine (rcopyrow_any bid bl qb cb _ HRV.out hzb HNB.out).mono ?_; rintro e w12 ⟨v12, rfl, hin, hb12⟩; obtain ⟨p12, c12, e12⟩ := InRow.ex hin; subst e12; (have HIN := Lib.hid (InRow.base hin HBS.out)); (have HO12 := Lib.hid (HWD.out.low hb12)); (have n1 := HO12.out.d.box.c1); (have nl := HO12.out.d.box.lt); clear hin hb12)
              | (refine step_append_trow (by rfl) (.tmp 70) (.tmp 73) (by rfl) (X + 1) vi GI (by simp [Act.eval]) (HO12.out.d.ins.low (below_alloc _ _)).own w12.heap.size bid (.slice p12 bl.length c12) bl (by simp [Act.eval]) (row2_new _ _ _ _).1 (row2_new _ _ _ _).2 rfl (by omega) (by rw [size_alloc]; exact Nat.le_succ_of_le HO12.out.lo) ?_; intro v13 w13 hown13 hg13; obtain ⟨⟨zl, z0, z1, z2, z3, zf⟩, hS13⟩ := (HO12.out.low (below_alloc _ _)).pushI0 (g := (bid, .slice p12 bl.length c12, bl)) (HIN.out.low (below_alloc _ _)) hj HBJ.out.symm hbN HG.out hown13 hg13; obtain ⟨p13, c13, e13⟩ := hS13.d.ins.ex; subst e13; rw [List.length_append, List.length_singleton] at hS13; (have HS13 := Lib.hid hS13); clear hS13 hown13 hg13 z0 z2 z3))
            all_goals
              clear HW3 HY3 HI3 HWD HO12
              generalize World.setCell _ _ _ = W13 at HS13 ⊢
              go_wp2_with fail
              go_roundw
              case rel => exact ⟨j + 1, _, vu, GI ++ [(bid, .slice p12 bl.length c12, bl)], P, by omega, by go_num, HS13.out⟩
              case measure => simp [intOf]; omega
        | some l9 =>
          have HG : Hid (getR (tAt S.R j).1 T.R = some l9) := Lib.hid (by rw [HBJ.out]; exact hg)
          have hgo := getO_of hg
          rw [hgo] at HI3 ⊢
          have hl9 : l9.length ≤ 9223372036854775807 := by have := HI3.out.2; dsimp only at this; omega
          clear hg hgo
          obtain ⟨p9, c9, e9⟩ := InRow.ex HI3.out
          dsimp only at e9
          subst e9
          obtain ⟨yl, y0, y1, -⟩ := HY3.out
          go_wp2_with fail
          refine (rcomparerows_any p9 qb l9 bl c9 cb _ hl9 (by omega) (by obtain ⟨hv, hr, -⟩ := owned_shape HI3.out.1; exact hr) (HRB.out.low HW3.out.bel)).mono ?_
          rintro e W5 ⟨rfl, hb5⟩
          have HW5 := Lib.hid (HW3.out.low hb5)
          have HY5 := Lib.hid (HY3.out.low hb5)
          have HI5 := Lib.hid (HI3.out.low hb5)
          clear HW3 HY3 HI3 hb5 yl y0 y1
          by_cases hl : l9 = bl
          · have hcz : (cmpRow l9 bl != 0) = false := by rw [(cmpRow_zero _ _).2 hl]; rfl
            have HL := Lib.hid hl
            clear hl
            go_wp2_with fail
            go_roundw
            case rel => exact ⟨j + 1, vi, vu, GI, P, by omega, by go_num, HW5.out.skip hj (by rw [HG.out, HL.out, HBJ.out])⟩
            case measure => simp [intOf]; omega
          · have hcz : (cmpRow l9 bl != 0) = true := bne_iff_ne.2 fun h => hl ((cmpRow_zero _ _).1 h)
            have HL := Lib.hid hl
            clear hl
            go_upto_region 13 with (fail)
            have hgl : P.length ≤ 1000 := by have := HPL.out; omega
            obtain ⟨i0, hi0, hz0, hz1, hz2⟩ := info_parts info_pair
            refine wp_region_late (use := [[], [0], [], [2], [], [], [5], [6], [3, 4, 7], [8, 4, 7], [1, 9, 4, 7], [], [10, 11]]) (sl := [[81], [82], [83], [84], [85], [86], [87], [88], [89, 85, 88], [90, 85, 88], [91, 85, 88], [92], [91, 85, 88]]) (live := [[], [], [], [], [], [], [], [], [], [], [], [10, 12], []]) (late := [10, 12]) (brk := [10, 12]) (B := w.heap.size) (J := fun u => (RbW w T S pa (some ⟨c, o, none⟩) X 0 j vi (.slice none 0 0) vu GI [] P u ∧ Cell2 u Y (.int .i64 bid) (.slice qb bl.length cb)) ∧ InRow u (X + 1) (.slice p9 l9.length c9, l9)) (Φ := fun ix f u => match ix with | 0 => f 81 = .pointer (some ⟨X, 3, none⟩) | 1 => f 82 = vu | 2 => f 83 = .pointer (some ⟨Y, 0, none⟩) | 3 => f 84 = .int .i64 bid | 4 => f 85 = .slice p9 l9.length c9 | 5 => f 86 = .pointer (some ⟨Y, 1, none⟩) | 6 => f 87 = .slice qb bl.length cb | 7 => InRow u (X + 1) (f 88, bl) | 8 => f 89 = .agg #[.int .i64 bid, f 85, f 88] | 9 => ∃ k, f 90 = .slice (some ⟨k, 0, none⟩) 1 1 ∧ Cell3 u k (.int .i64 bid) (f 85) (f 88) | 10 => ((∃ u0, RbW w T S pa (some ⟨c, o, none⟩) X 0 j vi (.slice none 0 0) vu GI [] P u0 ∧ (InRow u0 (X + 1) (f 85, l9) ∧ InRow u0 (X + 1) (f 88, bl)) ∧ u0.grownBy u vu.ownBlock) ∧ u.ownsRow (X + 1) 75 3 (f 91) (P ++ [(bid, (f 85, l9), (f 88, bl))]).length (pcells (P ++ [(bid, (f 85, l9), (f 88, bl))]))) | 11 => f 92 = .pointer (some ⟨X, 3, none⟩) | 12 => RbW w T S pa (some ⟨c, o, none⟩) X 0 (j + 1) vi (.slice none 0 0) (f 91) GI [] (P ++ [(bid, (f 85, l9), (f 88, bl))]) u | _ => True) (by kernel_rfl) _ rfl (by kernel_rfl) (by kernel_rfl) (by have h1 := HW5.out.lo; have h2 := HW5.out.hX; show w.heap.size ≤ W5.heap.size; omega) (⟨⟨HW5.out.low (Below.refl W5.heap.size W5).drew, HY5.out.low (Below.refl W5.heap.size W5).drew⟩, HI5.out.low (Below.refl W5.heap.size W5).drew⟩) (fun u v h hb => ⟨⟨h.1.1.low hb, h.1.2.low hb⟩, h.2.low hb⟩) ?_ ?_ ?_ ?_
            · intro jx f g u u2 hs hb h
              match jx, hs, h with
              | 0, hs, h =>
                have e81 := hs 81 (by decide)
                simp only [e81]
                exact h
              | 1, hs, h =>
                have e82 := hs 82 (by decide)
                simp only [e82]
                exact h
              | 2, hs, h =>
                have e83 := hs 83 (by decide)
                simp only [e83]
                exact h
              | 3, hs, h =>
                have e84 := hs 84 (by decide)
                simp only [e84]
                exact h
              | 4, hs, h =>
                have e85 := hs 85 (by decide)
                simp only [e85]
                exact h
              | 5, hs, h =>
                have e86 := hs 86 (by decide)
                simp only [e86]
                exact h
              | 6, hs, h =>
                have e87 := hs 87 (by decide)
                simp only [e87]
                exact h
              | 7, hs, h =>
                have e88 := hs 88 (by decide)
                simp only [e88]
                exact h.low hb
              | 8, hs, h =>
                have e89 := hs 89 (by decide)
                have e85 := hs 85 (by decide)
                have e88 := hs 88 (by decide)
                simp only [e89, e85, e88]
                exact h
              | 9, hs, h =>
                have e90 := hs 90 (by decide)
                have e85 := hs 85 (by decide)
                have e88 := hs 88 (by decide)
                simp only [e90, e85, e88]
                exact (by obtain ⟨k, h1, h2⟩ := h; exact ⟨k, h1, h2.low hb⟩)
              | 10, hs, h =>
                have e91 := hs 91 (by decide)
                have e85 := hs 85 (by decide)
                have e88 := hs 88 (by decide)
                simp only [e91, e85, e88]
                exact ⟨(by obtain ⟨u0, h1, h2, h3⟩ := h.1; exact ⟨u0, h1, h2, ⟨hb.os.trans h3.os, hb.tape.trans h3.tape, hb.output.trans h3.output, Nat.le_trans h3.size hb.size, fun k hk hn => (hb.block k (Nat.lt_of_lt_of_le hk h3.size)).trans (h3.block k hk hn)⟩⟩), owns_below h.2 hb⟩
              | 11, hs, h =>
                have e92 := hs 92 (by decide)
                simp only [e92]
                exact h
              | 12, hs, h =>
                have e91 := hs 91 (by decide)
                have e85 := hs 85 (by decide)
                have e88 := hs 88 (by decide)
                simp only [e91, e85, e88]
                exact h.low hb
              | _ + 13, _, h => exact h
            · intro ix o hix hne f u hold hbe hgr hJ huse
              obtain ⟨kt, kc, kf⟩ := evF_all f
              match ix, hix, hne with
              | 0, hix, _ =>
                simp only [List.getElem?_cons_zero, Option.some.injEq] at hix
                subst hix
                have h6 : f 6 = .pointer (some ⟨X, 0, none⟩) := (hold 6 (by kernel_rfl)).trans rfl
                refine gives_K fun K hK => ?_
                go_simp
                exact gives_value (hK _ _ ⟨Below.refl _ _, by simp [upF]⟩)
              | 1, hix, _ =>
                simp only [List.getElem?_cons_zero, List.getElem?_cons_succ, Option.some.injEq] at hix
                subst hix
                have u0 := huse 0 (by decide)
                simp only at u0
                have hJw := hJ (by kernel_rfl)
                obtain ⟨dl, d0, d1, d2, d3, -⟩ := hJw.1.1.d.box
                refine gives_K fun K hK => ?_
                go_simp
                exact gives_value (hK _ _ ⟨Below.refl _ _, by simp [upF]⟩)
              | 2, hix, _ =>
                simp only [List.getElem?_cons_zero, List.getElem?_cons_succ, Option.some.injEq] at hix
                subst hix
                have h8 : f 8 = .pointer (some ⟨Y, 0, none⟩) := (hold 8 (by kernel_rfl)).trans rfl
                refine gives_K fun K hK => ?_
                go_simp
                exact gives_value (hK _ _ ⟨Below.refl _ _, by simp [upF]⟩)
              | 3, hix, _ =>
                simp only [List.getElem?_cons_zero, List.getElem?_cons_succ, Option.some.injEq] at hix
                subst hix
                have u2 := huse 2 (by decide)
                simp only at u2
                have hJw := hJ (by kernel_rfl)
                obtain ⟨xl, x0, x1, -⟩ := hJw.1.2
                refine gives_K fun K hK => ?_
                go_simp
                exact gives_value (hK _ _ ⟨Below.refl _ _, by simp [upF]⟩)
              | 4, hix, _ =>
                simp only [List.getElem?_cons_zero, List.getElem?_cons_succ, Option.some.injEq] at hix
                subst hix
                have h9 : f 9 = .slice p9 l9.length c9 := (hold 9 (by kernel_rfl)).trans rfl
                refine gives_K fun K hK => ?_
                go_simp
                exact gives_value (hK _ _ ⟨Below.refl _ _, by simp [upF]; rfl⟩)
              | 5, hix, _ =>
                simp only [List.getElem?_cons_zero, List.getElem?_cons_succ, Option.some.injEq] at hix
                subst hix
                have h8 : f 8 = .pointer (some ⟨Y, 0, none⟩) := (hold 8 (by kernel_rfl)).trans rfl
                refine gives_K fun K hK => ?_
                go_simp
                exact gives_value (hK _ _ ⟨Below.refl _ _, by simp [upF]⟩)
              | 6, hix, _ =>
                simp only [List.getElem?_cons_zero, List.getElem?_cons_succ, Option.some.injEq] at hix
                subst hix
                have u5 := huse 5 (by decide)
                simp only at u5
                have hJw := hJ (by kernel_rfl)
                obtain ⟨xl, x0, x1, -⟩ := hJw.1.2
                refine gives_K fun K hK => ?_
                go_simp
                exact gives_value (hK _ _ ⟨Below.refl _ _, by simp [upF]⟩)
              | 7, hix, _ =>
                simp only [List.getElem?_cons_zero, List.getElem?_cons_succ, Option.some.injEq] at hix
                subst hix
                have u6 := huse 6 (by decide)
                simp only at u6
                have hJw := hJ (by kernel_rfl)
                have HJ := Lib.hid hJw
                refine gives_K fun K hK => ?_
                go_simp
                refine gives_enter ((rcopy_any bl qb cb _ (HRB.out.low HJ.out.1.1.bel) hzb HNB.out).mono ?_)
                rintro e u2 ⟨v, rfl, hin, hb⟩
                exact ⟨_, rfl, hK _ _ ⟨hb, by simpa [upF] using hin.base HJ.out.1.1.lo⟩⟩
              | 8, hix, _ =>
                simp only [List.getElem?_cons_zero, List.getElem?_cons_succ, Option.some.injEq] at hix
                subst hix
                have u3 := huse 3 (by decide)
                have u4 := huse 4 (by decide)
                have u7 := huse 7 (by decide)
                simp only at u3 u4 u7
                obtain ⟨p8, c8, e8⟩ := InRow.ex u7
                refine gives_K fun K hK => ?_
                go_simp
                exact gives_value (hK _ _ ⟨Below.refl _ _, by simp [upF, e8, u4]⟩)
              | 9, hix, _ =>
                simp only [List.getElem?_cons_zero, List.getElem?_cons_succ, Option.some.injEq] at hix
                subst hix
                have u8 := huse 8 (by decide)
                have u4 := huse 4 (by decide)
                have u7 := huse 7 (by decide)
                simp only at u8 u4 u7
                obtain ⟨p8, c8, e8⟩ := InRow.ex u7
                rw [u4, e8] at u8
                refine gives_K fun K hK => ?_
                go_simp
                exact gives_value (hK _ _ ⟨below_alloc _ _, u.heap.size, by simp [upF], by simpa [upF, u4, e8] using cell3_new u (.int .i64 bid) (.slice p9 l9.length c9) (.slice p8 bl.length c8) 75⟩)
              | 10, _, hne => exact absurd (by decide) hne
              | 11, hix, _ =>
                simp only [List.getElem?_cons_zero, List.getElem?_cons_succ, Option.some.injEq] at hix
                subst hix
                have h6 : f 6 = .pointer (some ⟨X, 0, none⟩) := (hold 6 (by kernel_rfl)).trans rfl
                refine gives_K fun K hK => ?_
                go_simp
                exact gives_value (hK _ _ ⟨Below.refl _ _, by simp [upF]⟩)
              | 12, _, hne => exact absurd (by decide) hne
              | ix + 13, hix, _ => simp at hix
            · intro ix o hix hin f u hold hbe hgr hJ huse
              obtain ⟨kt, kc, kf⟩ := evF_all f
              match ix, hix, hin with
              | 0, _, hin => exact absurd hin (by decide)
              | 1, _, hin => exact absurd hin (by decide)
              | 2, _, hin => exact absurd hin (by decide)
              | 3, _, hin => exact absurd hin (by decide)
              | 4, _, hin => exact absurd hin (by decide)
              | 5, _, hin => exact absurd hin (by decide)
              | 6, _, hin => exact absurd hin (by decide)
              | 7, _, hin => exact absurd hin (by decide)
              | 8, _, hin => exact absurd hin (by decide)
              | 9, _, hin => exact absurd hin (by decide)
              | 10, hix, _ =>
                simp only [List.getElem?_cons_zero, List.getElem?_cons_succ, Option.some.injEq] at hix
                subst hix
                have u1 := huse 1 (by decide)
                have u9 := huse 9 (by decide)
                have u4 := huse 4 (by decide)
                have u7 := huse 7 (by decide)
                simp only at u1 u9 u4 u7
                have hJw := hJ (by kernel_rfl)
                obtain ⟨k, h90, hc3⟩ := u9
                obtain ⟨p8, c8, e8⟩ := InRow.ex u7
                refine gives_append_any (.tmp 82) (.tmp 90) 23 75 rfl (X + 1) i0 _ 3 56 Tryz.underlying23 hi0 hz0 hz1 hz2 rfl (by decide) vu P.length (pcells P) ((kt 82).trans u1) hJw.1.1.d.upd (some ⟨k, 0, none⟩) 1 1 [.int .i64 bid, f 85, f 88] ((kt 90).trans h90) rfl (fun ad he => by cases he; exact pair_news hc3.c0 hc3.c1 hc3.c2) (fun e => by cases e) (by intro x hx; simp only [List.mem_cons, List.not_mem_nil, or_false] at hx; rcases hx with rfl | rfl | rfl; rfl; (rw [u4]; rfl); (rw [e8]; rfl)) (by unfold maxLen; omega) (by omega) hJw.1.1.lo ?_
                intro v2 u2 hown hg
                refine ⟨hg.size, grown_below hbe (Nat.le_trans (by have h1 := HW5.out.lo; have h2 := HW5.out.hX; show w.heap.size ≤ W5.heap.size; omega) hgr) hg (fun k hk => by have h1 := owns_block hJw.1.1.d.upd k hk; have h2 := HW5.out.hX; omega), ⟨⟨u, hJw.1.1, ⟨by show InRow u (X + 1) (f 85, l9); rw [u4]; exact hJw.2, u7⟩, hg⟩, by rw [List.length_append, List.length_singleton, pcells_append]; exact hown⟩, fun hbk => absurd (by decide) hbk, ?_⟩
                intro jx hji hl hr hs h
                match jx, hji, hl, hr, hs, h with
                | 0, _, hl, _, _, _ => exact absurd hl (by decide)
                | 1, _, hl, _, _, _ => exact absurd hl (by decide)
                | 2, _, hl, _, _, _ => exact absurd hl (by decide)
                | 3, _, hl, _, _, _ => exact absurd hl (by decide)
                | 4, _, hl, _, _, _ => exact absurd hl (by decide)
                | 5, _, hl, _, _, _ => exact absurd hl (by decide)
                | 6, _, hl, _, _, _ => exact absurd hl (by decide)
                | 7, _, hl, _, _, _ => exact absurd hl (by decide)
                | 8, _, hl, _, _, _ => exact absurd hl (by decide)
                | 9, _, hl, _, _, _ => exact absurd hl (by decide)
                | 10, hji, _, _, _, _ => exact absurd rfl hji
                | 11, _, _, hr, hs, h =>
                  have e92 := hs 92 (by decide)
                  simp only [e92]
                  exact h
                | 12, _, hl, _, _, _ => exact absurd hl (by decide)
                | jx + 13, _, hl, _, _, _ => exact absurd hl (by simp)
              | 11, _, hin => exact absurd hin (by decide)
              | 12, hix, _ =>
                simp only [List.getElem?_cons_zero, List.getElem?_cons_succ, Option.some.injEq] at hix
                subst hix
                have u10 := huse 10 (by decide)
                have u11 := huse 11 (by decide)
                simp only at u10 u11
                obtain ⟨⟨u0, hm, ⟨hi6, hi9⟩, hg⟩, hown⟩ := u10
                obtain ⟨⟨zl, z0, z1, z2, z3, zf⟩, hS⟩ := hm.pushU0 (g := (bid, (f 85, l9), (f 88, bl))) ⟨hi6, hi9⟩ hj HG.out (by rw [HBJ.out]) (by rw [HBJ.out]; exact HL.out) hown hg
                obtain ⟨p12, c12, e12⟩ := own_ex hown
                rw [List.length_append, List.length_singleton] at e12
                have HS : Hid (RbW w T S pa (some ⟨c, o, none⟩) X 0 (j + 1) vi (.slice none 0 0) (f 91) GI [] (P ++ [(bid, (f 85, l9), (f 88, bl))]) (u.setCell ⟨X, 3, none⟩ (.slice p12 (P.length + 1) c12))) := Lib.hid (by rw [← e12]; exact hS)
                have hwX := HW5.out.hX
                clear hm hi6 hi9 hg hS hown
                refine gives_K fun K hK => ?_
                go_simp
                refine gives_skip (hK _ _ ⟨by rw [set_size]; exact Nat.le_refl _, hbe.setCell (by show w.heap.size ≤ X; omega) _, HS.out, fun hbk => absurd (by decide) hbk, ?_⟩)
                intro jx hji hl hr hs h
                match jx, hji, hl, hr, hs, h with
                | 0, _, hl, _, _, _ => exact absurd hl (by decide)
                | 1, _, hl, _, _, _ => exact absurd hl (by decide)
                | 2, _, hl, _, _, _ => exact absurd hl (by decide)
                | 3, _, hl, _, _, _ => exact absurd hl (by decide)
                | 4, _, hl, _, _, _ => exact absurd hl (by decide)
                | 5, _, hl, _, _, _ => exact absurd hl (by decide)
                | 6, _, hl, _, _, _ => exact absurd hl (by decide)
                | 7, _, hl, _, _, _ => exact absurd hl (by decide)
                | 8, _, hl, _, _, _ => exact absurd hl (by decide)
                | 9, _, hl, _, _, _ => exact absurd hl (by decide)
                | 10, _, hl, _, _, _ => exact absurd hl (by decide)
                | 11, _, _, hr, hs, h =>
                  have e92 := hs 92 (by decide)
                  simp only [e92]
                  exact h
                | 12, hji, _, _, _, _ => exact absurd rfl hji
                | jx + 13, _, hl, _, _, _ => exact absurd hl (by simp)
              | ix + 13, hix, _ => simp at hix
            · intro f2 u2 hbe hall
              have u12 := hall 12 (by decide) (by kernel_rfl)
              simp only at u12
              clear hall
              simp only [putAll, List.foldl_cons, List.foldl_nil, Act.put, List.setIfInBounds_toArray, List.set_cons_succ, List.set_cons_zero]
              have HS14 := Lib.hid u12
              clear u12 hbe HW5 HY5 HI5
              go_wp2_with fail
              go_roundw
              case rel => exact ⟨j + 1, vi, _, GI, _, by omega, by go_num, HS14.out⟩
              case measure => simp [intOf]; omega
      · have hjd : decide ((j : Int) < S.R.length) = false := decide_eq_false (by omega)
        obtain rfl : j = S.R.length := by omega
        obtain ⟨al, a0, a1, a2, a3, -⟩ := HW.out.a
        go_wp2_with fail
        clear al a0 a1 a2 a3
        go_loopw [97] (fun s v => ∃ (i : Nat) (vd : Value) (GD : List GRow), i ≤ T.R.length ∧ s = .int .i64 i ∧ RbW w T S pa pb X i S.R.length vi vd vu GI GD P v) (fun s _ => T.R.length - (intOf s).toNat)
        case atStart => exact ⟨0, _, [], Nat.zero_le _, rfl, HW.out⟩
        clear HW
        case round =>
          obtain ⟨i, vd, GD, hil, rfl, hw⟩ := hrel
          have HW := Lib.hid hw
          have HDL : Hid (GD.length ≤ T.R.length) := Lib.hid (by have h1 := congrArg List.length hw.gd; rw [tabR_length] at h1; have h2 := List.length_filter_le (fun r : TRow => (getR r.1 S.R).isNone) (T.R.take i); rw [List.length_take] at h2; omega)
          clear hw
          by_cases hi : i < T.R.length
          · have hid : decide ((i : Int) < T.R.length) = true := decide_eq_true (by omega)
            obtain ⟨c, o, qa, ca, hp, hc, h0, h1, hra, hza, hna⟩ := HPA.out i hi
            obtain ⟨⟨aid, al⟩, ha⟩ : ∃ x, tAt T.R i = x := ⟨_, rfl⟩
            rw [ha] at h0 h1 hra hza hna
            dsimp only at h0 h1 hra hza hna
            have HAI := Lib.hid ha
            have HRA := Lib.hid hra
            have HNA := Lib.hid hna
            have haN : aid < T.nx := by have := HTN.out i hi; rw [ha] at this; exact this
            subst hp
            rw [← HW.out.bel.cell (by exact hc)] at h0 h1
            have hbn := below_alloc wr (.cells #[.int .i64 aid, .slice qa al.length ca] 58)
            have HW1 := Lib.hid (HW.out.low hbn)
            have HY1 := Lib.hid (cell2_new wr (.int .i64 aid) (.slice qa al.length ca) 58)
            clear HW hbn ha hra hna
            go_upto_region 18 with (fail)
            clear h0 h1
            generalize World.alloc _ _ = W2 at HW1 HY1 ⊢
            generalize wr.heap.size = Y at HY1 ⊢
            obtain ⟨yl, y0, y1, -⟩ := HY1.out
            obtain ⟨bl, b0, b1, b2, b3, -⟩ := HW1.out.b
            go_wp2_with fail
            refine (rgetip_any S pb HPR.out.2 aid _ (HS0.out.low HW1.out.bel)).mono ?_
            rintro e W3 ⟨v9, rfl, hin9, hb3⟩
            have HW3 := Lib.hid (HW1.out.low hb3)
            have HY3 := Lib.hid (HY1.out.low hb3)
            clear HW1 HY1 hb3 hin9 yl y0 y1 bl b0 b1 b2 b3
            cases hg : getR aid S.R with
            | some l9 =>
              have HG : Hid (getR (tAt T.R i).1 S.R = some l9) := Lib.hid (by rw [HAI.out]; exact hg)
              have hgo := getO_of hg
              rw [hgo]
              clear hg hgo
              go_wp2_with fail
              go_roundw
              case rel => exact ⟨i + 1, vd, GD, by omega, by go_num, HW3.out.skipD hi HG.out⟩
              case measure => simp [intOf]; omega
            | none =>
              have HG : Hid (getR (tAt T.R i).1 S.R = none) := Lib.hid (by rw [HAI.out]; exact hg)
              have hgo := getO_nil hg
              rw [hgo]
              clear hg hgo
              go_upto_region 20 with (fail)
              have HRV := Lib.hid ((HRA.out.low HW3.out.bel).low (Below.refl W3.heap.size W3).drew)
              have HWD := Lib.hid (HW3.out.low (Below.refl W3.heap.size W3).drew)
              obtain ⟨dl, d0, d1, d2, d3, -⟩ := HW3.out.d.box
              obtain ⟨yl, y0, y1, -⟩ := HY3.out
              have hgl : GD.length ≤ 1000 := by have := HDL.out; omega
              have HBS : Hid (X + 1 ≤ W3.drew.heap.size) := Lib.hid HW3.out.lo
              clear d0 d1 d3
              go_region_law (first
                | (go_simp; go_at_call 30; refine (rcopyrow_any aid al qa ca _ HRV.out hza HNA.out).mono ?_; rintro e w12 ⟨v12, rfl, hin, hb12⟩; obtain ⟨p12, c12, e12⟩ := InRow.ex hin; subst e12; (have HIN := Lib.hid (InRow.base hin HBS.out)); (have HO12 := Lib.hid (HWD.out.low hb12)); (have n2 := HO12.out.d.box.c2); (have nl := HO12.out.d.box.lt); clear hin hb12)
                | (refine step_append_trow (by rfl) (.tmp 111) (.tmp 114) (by rfl) (X + 1) vd GD (by simp [Act.eval]) (HO12.out.d.del.low (below_alloc _ _)).own w12.heap.size aid (.slice p12 al.length c12) al (by simp [Act.eval]) (row2_new _ _ _ _).1 (row2_new _ _ _ _).2 rfl (by omega) (by rw [size_alloc]; exact Nat.le_succ_of_le HO12.out.lo) ?_; intro v13 w13 hown13 hg13; obtain ⟨⟨zl, z0, z1, z2, z3, zf⟩, hS13⟩ := (HO12.out.low (below_alloc _ _)).pushD0 (g := (aid, .slice p12 al.length c12, al)) (HIN.out.low (below_alloc _ _)) hi HAI.out.symm haN HG.out hown13 hg13; obtain ⟨p13, c13, e13⟩ := hS13.d.del.ex; subst e13; rw [List.length_append, List.length_singleton] at hS13; (have HS13 := Lib.hid hS13); clear hS13 hown13 hg13 z0 z1 z3))
              all_goals
                clear HW3 HY3 HWD HO12
                generalize World.setCell _ _ _ = W13 at HS13 ⊢
                go_wp2_with fail
                go_roundw
                case rel => exact ⟨i + 1, _, GD ++ [(aid, .slice p12 al.length c12, al)], by omega, by go_num, HS13.out⟩
                case measure => simp [intOf]; omega
          · have hid : decide ((i : Int) < T.R.length) = false := decide_eq_false (by omega)
            obtain rfl : i = T.R.length := by omega
            have HBT : Hid (btwO T S = true) := Lib.hid (by rw [HV.out]; exact newB_yes HW.out.nw)
            have HGI : Hid (tabR GI = insR T.R S.R) := Lib.hid (by have h := HW.out.gi; rw [List.take_length] at h; exact h)
            have HGD : Hid (tabR GD = delR T.R S.R) := Lib.hid (by have h := HW.out.gd; rw [List.take_length] at h; exact h)
            have HGU : Hid (P.map unG = updR T.R S.R) := Lib.hid (by have h := HW.out.gu; rw [List.take_length] at h; exact h)
            obtain ⟨pi, ci, ei⟩ := HW.out.d.ins.ex
            obtain ⟨pd, cd, ed⟩ := HW.out.d.del.ex
            obtain ⟨pu, cu, eu⟩ := own_ex HW.out.d.upd
            subst ei ed eu
            have hX := HW.out.hX
            have hdk := HW.out.d.keep (v := ((((wr.setCell ⟨w.heap.size + 2, 0, none⟩ (.string T.nm)).setCell ⟨w.heap.size + 2, 1, none⟩ (.slice pi GI.length ci)).setCell ⟨w.heap.size + 2, 2, none⟩ (.slice pd GD.length cd)).setCell ⟨w.heap.size + 2, 3, none⟩ (.slice pu P.length cu))) (by rw [set_size, set_size, set_size, set_size]; exact Nat.le_refl _) (fun k h1 _ => by rw [Below.heap_setCell _ _ _ _ (show k ≠ w.heap.size + 2 by omega), Below.heap_setCell _ _ _ _ (show k ≠ w.heap.size + 2 by omega), Below.heap_setCell _ _ _ _ (show k ≠ w.heap.size + 2 by omega), Below.heap_setCell _ _ _ _ (show k ≠ w.heap.size + 2 by omega)])
            have HE : Hid (DltFree w.heap.size (((((wr.setCell ⟨w.heap.size + 2, 0, none⟩ (.string T.nm)).setCell ⟨w.heap.size + 2, 1, none⟩ (.slice pi GI.length ci)).setCell ⟨w.heap.size + 2, 2, none⟩ (.slice pd GD.length cd)).setCell ⟨w.heap.size + 2, 3, none⟩ (.slice pu P.length cu))) ⟨T.nm, pi, ci, tabR GI, pd, cd, tabR GD, pu, cu, P.map unG⟩) := Lib.hid fun v hz hkv =>
              ((hdk.keep hz fun k h1 h2 => hkv k (by omega) h2).at HT0.out.name (by have := HIL.out; omega) (by have := HDL.out; omega) (by have := HPL.out; omega) (by rw [HGI.out]; exact fun r hr => HS0.out.sized r (insR_mem hr).1) (by rw [HGD.out]; exact fun r hr => HT0.out.sized r (delR_mem hr).1) (by rw [HGU.out]; exact fun u hu => HT0.out.sized _ (updR_mem hu).1) (by rw [HGU.out]; exact fun u hu => HS0.out.sized _ (updR_mem hu).2.1)).1
            obtain ⟨dl, d0, d1, d2, d3, -⟩ := HW.out.d.box
            obtain ⟨rl, r0, r1, r2, r3, rf⟩ := HW.out.r
            have HYS := Lib.hid (cell4_put wr HW.out.r (.string T.nm) (.slice pi GI.length ci) (.slice pd GD.length cd) (.slice pu P.length cu))
            have HBE := Lib.hid HW.out.bel
            clear hdk HW hX
            go_wp2
            try rw [Exit.noGoto_ret]
            obtain ⟨-, s0, s1, s2, s3, -⟩ := HYS.out
            exact bodyPost_ret (v := .tuple #[.agg #[.string T.nm, .slice pi GI.length ci, .slice pd GD.length cd, .slice pu P.length cu], .bool true]) (by simp [results, Tryz.results9, go_sem, s0, s1, s2, s3]) rfl
              ⟨⟨T.nm, pi, ci, tabR GI, pd, cd, tabR GD, pu, cu, P.map unG⟩, by rw [HBT.out]; dsimp only; rw [tabR_length, tabR_length, List.length_map], HE.out, (((HBE.out.setCell (by show w.heap.size ≤ w.heap.size + 2; omega) _).setCell (by show w.heap.size ≤ w.heap.size + 2; omega) _).setCell (by show w.heap.size ≤ w.heap.size + 2; omega) _).setCell (by show w.heap.size ≤ w.heap.size + 2; omega) _, .inl ⟨HBT.out, rfl, HGI.out, HGD.out, HGU.out⟩⟩
end Go.Proofs.YtlnbpobipmejfaaGreatDoor
