/-
  Several texts in one.
-/
import Derived.Test.YtlelgkgdppkedaaDoorPk34
import Derived.Test.YtlelgkgdppkedaaDoorPk35
import Derived.Test.YtlelgkgdppkedaaDoorPk22
import Derived.Test.YtlelgkgdppkedaaDoorPk32
/-
  Package delta and its reference: equality of schemas; Get with memory of its own.
-/
namespace Go.Proofs.YtlelgkgdppkedaaDoor
set_option maxRecDepth 100000
open Go.RowKit
variable {ls : List Nat}

set_option maxHeartbeats 1000000 in
theorem dsameschema_any (nm nm' : ByteArray) (p q : Option Addr) (n m : Nat) (f g : Nat → Col) (ca cb : Nat) (w : World) (hn : n ≤ 9223372036854775807) (ha : ColsAt w p n f) (hb : ColsAt w q m g) :
    Calls Tryd.prog 39 #[.agg #[.string nm, .slice p n ca], .agg #[.string nm', .slice q m cb]] w fun e w' => e = .returned (.bool (eqT nm nm' && sameCols n f m g)) ∧ Below w.heap.size w w' := by
  have hb0 : Below w.heap.size w ((w.alloc (.cells #[.string nm, .slice p n ca] 24)).alloc (.cells #[.string nm', .slice q m cb] 24)) := below_new (below_new (Below.refl _ _) _) _
  have HB0 := Lib.hid hb0
  have HA1 := Lib.hid (ha.low hb0)
  have HB1 := Lib.hid (hb.low hb0)
  clear hb0 ha hb
  go_enter Tryd.func39, Tryd.ntmps39
  cases hid : eqT nm nm'
  · have hid' : (nm.toList == nm'.toList) = false := hid
    go_wp2
    go_ret
    exact ⟨rfl, HB0.out⟩
  · have hid' : (nm.toList == nm'.toList) = true := hid
    go_wp2_with fail
    refine (equalcols_any p q n m f g ca cb _ hn HA1.out HB1.out).mono ?_
    rintro e w2 ⟨rfl, hb2⟩
    have HB2 := Lib.hid (below_next HB0.out hb2)
    clear hb2
    go_wp2
    go_ret
    exact ⟨rfl, HB2.out⟩
set_option maxHeartbeats 1000000 in
theorem rsameschema_any (nm nm' : ByteArray) (p q : Option Addr) (n m : Nat) (f g : Nat → Col) (ca cb : Nat) (w : World) (hn : n ≤ 9223372036854775807) (hm : m ≤ 9223372036854775807) (ha : ColsAt w p n f) (hb : ColsAt w q m g) :
    Calls Tryd.prog 31 #[.agg #[.string nm, .slice p n ca], .agg #[.string nm', .slice q m cb]] w fun e w' => e = .returned (.bool (eqT nm nm' && sameCols n f m g)) ∧ Below w.heap.size w w' := by
  have HX := Lib.hid ((cell2_new w (.string nm) (.slice p n ca) 24).low (below_alloc _ (.cells #[.string nm', .slice q m cb] 24)))
  have hy := cell2_new (w.alloc (.cells #[.string nm, .slice p n ca] 24)) (.string nm') (.slice q m cb) 24
  rw [size_alloc] at hy
  have HY := Lib.hid hy
  have hb0 : Below w.heap.size w ((w.alloc (.cells #[.string nm, .slice p n ca] 24)).alloc (.cells #[.string nm', .slice q m cb] 24)) := below_new (below_new (Below.refl _ _) _) _
  have HB0 := Lib.hid hb0
  have HP := Lib.hid (ha.low hb0)
  have HQ := Lib.hid (hb.low hb0)
  clear hb0 ha hb hy
  go_enter Tryd.func31, Tryd.ntmps31
  go_upto_region 1 with (fail)
  generalize World.alloc _ _ = W1 at HX HY HB0 HP HQ ⊢
  obtain ⟨xl, x0, x1, -⟩ := HX.out
  obtain ⟨yl, y0, y1, -⟩ := HY.out
  cases hid : eqT nm nm'
  · have hid' : (nm.toList == nm'.toList) = false := hid
    go_wp2
    go_ret
    exact ⟨ret_b (by rw [hid]; rfl), HB0.out⟩
  have hid' : (nm.toList == nm'.toList) = true := hid
  by_cases hl : n = m
  · subst hl
    have hlI : ((n : Int) != (n : Int)) = false := by simp
    go_wp2_with fail
    clear x0 x1 y0 y1 xl yl
    go_loopw [23] (fun i v => ∃ k : Nat, k ≤ n ∧ i = .int .i64 k ∧ (∀ j, j < k → f j = g j) ∧ Below W1.heap.size W1 v) (fun i _ => n - (intOf i).toNat)
    case atStart => exact ⟨0, Nat.zero_le _, rfl, fun j hj => by omega, Below.refl _ _⟩
    case round =>
      obtain ⟨k, hk, rfl, heq, hb⟩ := hrel
      have HEQ := Lib.hid heq
      have HB := Lib.hid hb
      clear heq hb
      by_cases hlt : k < n
      · have hlt' : decide ((k : Int) < n) = true := decide_eq_true (by omega)
        have hkI : (k : Int) < (n : Int) := by omega
        obtain ⟨c, o, hpe, hc, -, c0, c1, c2, c3⟩ := HP.out.low HB.out k hlt
        obtain ⟨c', o', hqe, hc', -, d0, d1, d2, d3⟩ := HQ.out.low HB.out k hlt
        subst hpe hqe
        obtain ⟨xl, x0, x1, -⟩ := HX.out.low HB.out
        obtain ⟨yl, y0, y1, -⟩ := HY.out.low HB.out
        have hq := neq_col (f k) (g k)
        cases hsame : sameC (f k) (g k)
        · have HD : Hid (¬ f k = g k) := Lib.hid (fun h => by
            rw [sameC_iff.2 h] at hsame
            cases hsame)
          rw [hsame] at hq
          go_wp2_with fail
          go_quiet (fail)
          go_wp2
          go_ret
          exact ⟨ret_b (by rw [hid, sameCols_no hlt HD.out]; rfl), below_drewN (below_next HB0.out HB.out) _⟩
        · have HS := Lib.hid (sameC_iff.1 hsame)
          rw [hsame] at hq
          go_wp2_with fail
          go_quiet (fail)
          go_wp2
          go_roundw
          case rel => exact ⟨k + 1, by omega, by go_num, all_succ HEQ.out HS.out, below_drewN HB.out _⟩
          case measure => simp [intOf]; omega
      · have hlt' : decide ((k : Int) < n) = false := decide_eq_false (by omega)
        obtain rfl : k = n := by omega
        go_wp2
        go_ret
        exact ⟨ret_b (by rw [hid, sameCols_yes HEQ.out]; rfl), below_next HB0.out HB.out⟩
  · have hlI : ((n : Int) != (m : Int)) = true := bne_iff_ne.2 (by omega)
    have HD := Lib.hid hl
    clear hl
    go_wp2
    go_ret
    exact ⟨ret_b (by rw [hid, sameCols_len HD.out]; rfl), HB0.out⟩
def GetIPost (id : Int) (R : List TRow) (w : World) (e : Ending) (w' : World) : Prop := ∃ v : Value, e = .returned (.tuple #[v, .bool (getO id R).2]) ∧ InRow w' w.heap.size (v, (getO id R).1) ∧ Below w.heap.size w w'
set_option maxHeartbeats 1000000 in
theorem rgeti_any (T : Tab) (id : Int) (w : World) (hT : TabAt w T) :
    Calls Tryd.prog 32 #[T.v, .int .i64 id] w (GetIPost id T.R w) := by
  obtain ⟨nm, pc, n, cc, f, nx, pr, cr, R⟩ := T
  obtain ⟨hnm, hn, hC, hR, hl, hz⟩ := hT
  unfold Tab.v GetIPost
  dsimp only at *
  have HR := Lib.hid hR
  clear hC hR hz
  go_enter Tryd.func32, Tryd.ntmps32
  go_wp2_with fail
  go_loopw [11] (fun i v => ∃ k : Nat, k ≤ R.length ∧ i = .int .i64 k ∧ (∀ j, j < k → (tAt R j).1 ≠ id) ∧ Below w.heap.size w v) (fun i _ => R.length - (intOf i).toNat)
  case atStart => exact ⟨0, Nat.zero_le _, rfl, fun j hj => by omega, below_new (Below.refl _ _) _⟩
  case round =>
    obtain ⟨k, hk, rfl, ha, hb⟩ := hrel
    have HA := Lib.hid ha
    have HB := Lib.hid hb
    clear ha hb
    by_cases hlt : k < R.length
    · have hlt' : decide ((k : Int) < R.length) = true := decide_eq_true (by omega)
      obtain ⟨c, o, q, cp, rfl, hc, h0, h1, hr, hs, hqn⟩ := HR.out.low HB.out k hlt
      have HQ := Lib.hid hr
      have HN := Lib.hid hqn
      clear hr hqn
      cases he : ((tAt R k).1 == id)
      · have HE := Lib.hid (beq_eq_false_iff_ne.1 he)
        go_wp2
        go_roundw
        case rel => exact ⟨k + 1, by omega, by go_num, all_succ HA.out HE.out, below_new HB.out _⟩
        case measure => simp [intOf]; omega
      · have HE := Lib.hid (beq_iff_eq.1 he)
        go_wp2_with fail
        refine (rcopy_any (tAt R k).2 q cp _ (HQ.out.low (below_alloc _ _)) hs HN.out).mono ?_
        rintro e w2 ⟨v2, rfl, hin, hb2⟩
        have HI2 := Lib.hid (hin.base (by rw [size_alloc]; exact Nat.le_succ_of_le HB.out.size))
        have HB2 := Lib.hid (below_next (below_new HB.out _) hb2)
        have HG := Lib.hid (getO_hit hlt HE.out HA.out)
        clear hin hb2 h0 h1 hc
        go_wp2
        go_ret2
        rw [HG.out]
        exact ⟨_, rfl, HI2.out, HB2.out⟩
    · have hlt' : decide ((k : Int) < R.length) = false := decide_eq_false (by omega)
      obtain rfl : k = R.length := by omega
      have HG := Lib.hid (getO_none HA.out)
      go_wp2
      go_ret2
      rw [HG.out]
      exact ⟨.slice none 0 0, rfl, ⟨⟨rfl, Or.inl ⟨rfl, rfl⟩⟩, by simp⟩, HB.out⟩
end Go.Proofs.YtlelgkgdppkedaaDoor
/-
  Between of package delta.
-/
namespace Go.Proofs.YtlelgkgdppkedaaDoor
set_option maxRecDepth 100000
open Go.RowKit
variable {ls : List Nat}

theorem btw_no1 {T S : Tab} (h : T.valid = false) : btwO T S = false := by unfold btwO btwB; rw [h]; rfl
theorem btw_no2 {T S : Tab} (h : S.valid = false) : btwO T S = false := by unfold btwO btwB; rw [h]; simp
theorem btw_no3 {T S : Tab} (h : (eqT T.nm S.nm && sameCols T.n T.f S.n S.f) = false) : btwO T S = false := by unfold btwO btwB; rw [h]; simp
theorem btw_no4 {T S : Tab} (h : S.nx < T.nx) : btwO T S = false := by unfold btwO btwB; rw [decide_eq_false (show ¬ T.nx ≤ S.nx by omega)]; simp
theorem btw_yes {T S : Tab} (h1 : T.valid = true) (h2 : S.valid = true) (h3 : (eqT T.nm S.nm && sameCols T.n T.f S.n S.f) = true) (h4 : ¬ S.nx < T.nx) : btwO T S = newB T.nx T.R S.R := by
  unfold btwO btwB; rw [h1, h2, h3, decide_eq_true (show T.nx ≤ S.nx by omega)]; simp
theorem zero_post {T S : Tab} {w w' : World} (h : btwO T S = false) (hb : Below w.heap.size w w') : BetweenPost T S w (.returned (.tuple #[.agg #[.string ⟨#[]⟩, .slice none 0 0, .slice none 0 0, .slice none 0 0], .bool false])) w' :=
  ⟨zeroDlt, by rw [h]; rfl, (fun v _ _ => zeroDlt_at v), hb, .inr ⟨h, rfl, rfl, rfl, rfl⟩⟩
set_option maxHeartbeats 4000000 in
theorem between_any (T S : Tab) (w : World) (hT : TabAt w T) (hS : TabAt w S) (hcap : T.R.length ≤ T.cr) :
    Calls Tryd.prog 17 #[.agg #[.string T.nm, .slice T.pc T.n T.cc, .int .i64 T.nx, .slice T.pr T.R.length T.cr], .agg #[.string S.nm, .slice S.pc S.n S.cc, .int .i64 S.nx, .slice S.pr S.R.length S.cr]] w (BetweenPost T S w) := by
  have HBL := Lib.hid (below_new (below_new (below_new (Below.refl w.heap.size w) (.cells #[.string T.nm, .slice T.pc T.n T.cc, .int .i64 T.nx, .slice T.pr T.R.length T.cr] 27)) (.cells #[.string S.nm, .slice S.pc S.n S.cc, .int .i64 S.nx, .slice S.pr S.R.length S.cr] 27)) (.cells #[.string ⟨#[]⟩, .slice none 0 0, .slice none 0 0, .slice none 0 0] 41))
  have HT := Lib.hid (hT.low HBL.out)
  have HS := Lib.hid (hS.low HBL.out)
  have HA := Lib.hid (((cell4_new w (.string T.nm) (.slice T.pc T.n T.cc) (.int .i64 T.nx) (.slice T.pr T.R.length T.cr) 27).low (below_alloc _ (.cells #[.string S.nm, .slice S.pc S.n S.cc, .int .i64 S.nx, .slice S.pr S.R.length S.cr] 27))).low (below_alloc _ (.cells #[.string ⟨#[]⟩, .slice none 0 0, .slice none 0 0, .slice none 0 0] 41)))
  have hb1 := cell4_new (w.alloc (.cells #[.string T.nm, .slice T.pc T.n T.cc, .int .i64 T.nx, .slice T.pr T.R.length T.cr] 27)) (.string S.nm) (.slice S.pc S.n S.cc) (.int .i64 S.nx) (.slice S.pr S.R.length S.cr) 27
  rw [size_alloc] at hb1
  have HB := Lib.hid (hb1.low (below_alloc _ (.cells #[.string ⟨#[]⟩, .slice none 0 0, .slice none 0 0, .slice none 0 0] 41)))
  have hr1 := cell4_new ((w.alloc (.cells #[.string T.nm, .slice T.pc T.n T.cc, .int .i64 T.nx, .slice T.pr T.R.length T.cr] 27)).alloc (.cells #[.string S.nm, .slice S.pc S.n S.cc, .int .i64 S.nx, .slice S.pr S.R.length S.cr] 27)) (.string ⟨#[]⟩) (.slice none 0 0) (.slice none 0 0) (.slice none 0 0) 41
  rw [size_alloc, size_alloc] at hr1
  have HR := Lib.hid hr1
  clear hb1 hr1 hT hS
  go_enter Tryd.func17, Tryd.ntmps17
  go_upto_region 1 with (fail)
  generalize World.alloc _ _ = W0 at HA HB HR HBL HT HS ⊢
  have hX2 : w.heap.size + 1 + 1 = w.heap.size + 2 := rfl
  try rw [hX2]
  clear hX2
  obtain ⟨al, a0, a1, a2, a3, -⟩ := HA.out
  go_wp2_with fail
  refine (tvalid_any T _ HT.out).mono ?_
  rintro e w1 ⟨rfl, hb1⟩
  have HA1 := Lib.hid (HA.out.low hb1)
  have HB1 := Lib.hid (HB.out.low hb1)
  have HR1 := Lib.hid (HR.out.low hb1)
  have HT1 := Lib.hid (HT.out.low hb1)
  have HS1 := Lib.hid (HS.out.low hb1)
  have HL1 := Lib.hid (below_next HBL.out hb1)
  clear HA HB HR HT HS HBL hb1 al a0 a1 a2 a3
  cases hv1 : T.valid
  · have HV := Lib.hid (btw_no1 (S := S) hv1)
    have HYS := Lib.hid (cell4_put w1 HR1.out (.string ⟨#[]⟩) (.slice none 0 0) (.slice none 0 0) (.slice none 0 0))
    obtain ⟨rl, r0, r1, r2, r3, rf⟩ := HR1.out
    go_wp2
    obtain ⟨-, s0, s1, s2, s3, -⟩ := HYS.out
    exact bodyPost_ret (v := .tuple #[.agg #[.string ⟨#[]⟩, .slice none 0 0, .slice none 0 0, .slice none 0 0], .bool false]) (by simp [results, Tryd.results17, go_sem, s0, s1, s2, s3]) rfl
      (zero_post HV.out ((((HL1.out.setCell (by show w.heap.size ≤ w.heap.size + 2; omega) _).setCell (by show w.heap.size ≤ w.heap.size + 2; omega) _).setCell (by show w.heap.size ≤ w.heap.size + 2; omega) _).setCell (by show w.heap.size ≤ w.heap.size + 2; omega) _))
  obtain ⟨bl, b0, b1, b2, b3, -⟩ := HB1.out
  go_wp2_with fail
  refine (tvalid_any S _ HS1.out).mono ?_
  rintro e w2 ⟨rfl, hb2⟩
  have HA2 := Lib.hid (HA1.out.low hb2)
  have HB2 := Lib.hid (HB1.out.low hb2)
  have HR2 := Lib.hid (HR1.out.low hb2)
  have HT2 := Lib.hid (HT1.out.low hb2)
  have HS2 := Lib.hid (HS1.out.low hb2)
  have HL2 := Lib.hid (below_next HL1.out hb2)
  clear HA1 HB1 HR1 HT1 HS1 HL1 hb2 bl b0 b1 b2 b3
  cases hv2 : S.valid
  · have HV := Lib.hid (btw_no2 (T := T) hv2)
    have HYS := Lib.hid (cell4_put w2 HR2.out (.string ⟨#[]⟩) (.slice none 0 0) (.slice none 0 0) (.slice none 0 0))
    obtain ⟨rl, r0, r1, r2, r3, rf⟩ := HR2.out
    go_wp2
    obtain ⟨-, s0, s1, s2, s3, -⟩ := HYS.out
    exact bodyPost_ret (v := .tuple #[.agg #[.string ⟨#[]⟩, .slice none 0 0, .slice none 0 0, .slice none 0 0], .bool false]) (by simp [results, Tryd.results17, go_sem, s0, s1, s2, s3]) rfl
      (zero_post HV.out ((((HL2.out.setCell (by show w.heap.size ≤ w.heap.size + 2; omega) _).setCell (by show w.heap.size ≤ w.heap.size + 2; omega) _).setCell (by show w.heap.size ≤ w.heap.size + 2; omega) _).setCell (by show w.heap.size ≤ w.heap.size + 2; omega) _))
  obtain ⟨al, a0, a1, a2, a3, -⟩ := HA2.out
  obtain ⟨bl, b0, b1, b2, b3, -⟩ := HB2.out
  go_wp2_with fail
  refine (dsameschema_any T.nm S.nm T.pc S.pc T.n S.n T.f S.f T.cc S.cc _ HT2.out.n HT2.out.cols HS2.out.cols).mono ?_
  rintro e w3 ⟨rfl, hb3⟩
  have HA3 := Lib.hid (HA2.out.low hb3)
  have HB3 := Lib.hid (HB2.out.low hb3)
  have HR3 := Lib.hid (HR2.out.low hb3)
  have HT3 := Lib.hid (HT2.out.low hb3)
  have HS3 := Lib.hid (HS2.out.low hb3)
  have HL3 := Lib.hid (below_next HL2.out hb3)
  clear HA2 HB2 HR2 HT2 HS2 HL2 hb3 al a0 a1 a2 a3 bl b0 b1 b2 b3
  obtain ⟨sb, hsb⟩ : ∃ b, (eqT T.nm S.nm && sameCols T.n T.f S.n S.f) = b := ⟨_, rfl⟩
  rw [hsb]
  have HSB := Lib.hid hsb
  clear hsb
  cases sb
  · have HV := Lib.hid (btw_no3 HSB.out)
    have HYS := Lib.hid (cell4_put w3 HR3.out (.string ⟨#[]⟩) (.slice none 0 0) (.slice none 0 0) (.slice none 0 0))
    obtain ⟨rl, r0, r1, r2, r3, rf⟩ := HR3.out
    go_wp2
    obtain ⟨-, s0, s1, s2, s3, -⟩ := HYS.out
    exact bodyPost_ret (v := .tuple #[.agg #[.string ⟨#[]⟩, .slice none 0 0, .slice none 0 0, .slice none 0 0], .bool false]) (by simp [results, Tryd.results17, go_sem, s0, s1, s2, s3]) rfl
      (zero_post HV.out ((((HL3.out.setCell (by show w.heap.size ≤ w.heap.size + 2; omega) _).setCell (by show w.heap.size ≤ w.heap.size + 2; omega) _).setCell (by show w.heap.size ≤ w.heap.size + 2; omega) _).setCell (by show w.heap.size ≤ w.heap.size + 2; omega) _))
  obtain ⟨al, a0, a1, a2, a3, -⟩ := HA3.out
  obtain ⟨bl, b0, b1, b2, b3, -⟩ := HB3.out
  obtain ⟨rl, r0, r1, r2, r3, rf⟩ := HR3.out
  by_cases hnx : S.nx < T.nx
  · have hnd : decide (S.nx < T.nx) = true := decide_eq_true hnx
    have HV := Lib.hid (btw_no4 hnx)
    have HYS := Lib.hid (cell4_put w3 HR3.out (.string ⟨#[]⟩) (.slice none 0 0) (.slice none 0 0) (.slice none 0 0))
    go_wp2
    obtain ⟨-, s0, s1, s2, s3, -⟩ := HYS.out
    exact bodyPost_ret (v := .tuple #[.agg #[.string ⟨#[]⟩, .slice none 0 0, .slice none 0 0, .slice none 0 0], .bool false]) (by simp [results, Tryd.results17, go_sem, s0, s1, s2, s3]) rfl
      (zero_post HV.out ((((HL3.out.setCell (by show w.heap.size ≤ w.heap.size + 2; omega) _).setCell (by show w.heap.size ≤ w.heap.size + 2; omega) _).setCell (by show w.heap.size ≤ w.heap.size + 2; omega) _).setCell (by show w.heap.size ≤ w.heap.size + 2; omega) _))
  · have hnd : decide (S.nx < T.nx) = false := decide_eq_false hnx
    have HV := Lib.hid (btw_yes hv1 hv2 HSB.out hnx)
    clear hnx
    go_wp2_with fail
    refine (merge_any T S _ HT3.out HS3.out hv1 hv2 hcap).mono ?_
    rintro e w4 ⟨E, rfl, hE, hb4, hcs⟩
    have HE := Lib.hid hE
    have HR4 := Lib.hid (HR3.out.low hb4)
    have HL4 := Lib.hid (below_next HL3.out hb4)
    have HYS := Lib.hid (cell4_put w4 HR4.out (.string E.nm) (.slice E.pi E.I.length E.ci) (.slice E.pd E.D.length E.cd) (.slice E.pu E.U.length E.cu))
    have HCS := Lib.hid hcs
    have hXs : w.heap.size + 2 < w3.heap.size := HR3.out.lt
    clear hE hb4 hcs HA3 HB3 HR3 HT3 HS3 HL3 al a0 a1 a2 a3 bl b0 b1 b2 b3 rl r0 r1 r2 r3 rf
    obtain ⟨rl, r0, r1, r2, r3, rf⟩ := HR4.out
    go_wp2
    obtain ⟨-, s0, s1, s2, s3, -⟩ := HYS.out
    refine bodyPost_ret (v := .tuple #[.agg #[.string E.nm, .slice E.pi E.I.length E.ci, .slice E.pd E.D.length E.cd, .slice E.pu E.U.length E.cu], .bool (newB T.nx T.R S.R)]) (by simp [results, Tryd.results17, go_sem, s0, s1, s2, s3]) rfl
      ⟨E, by rw [HV.out], HE.out.to (by omega) (by rw [set_size, set_size, set_size, set_size]; exact Nat.le_refl _) (fun k h1 _ => four_sets (by omega)), (((HL4.out.setCell (by show w.heap.size ≤ w.heap.size + 2; omega) _).setCell (by show w.heap.size ≤ w.heap.size + 2; omega) _).setCell (by show w.heap.size ≤ w.heap.size + 2; omega) _).setCell (by show w.heap.size ≤ w.heap.size + 2; omega) _, ?_⟩
    rw [HV.out]
    exact HCS.out
end Go.Proofs.YtlelgkgdppkedaaDoor
/-
  Plain: the rows of a table, with what the difference to a later state takes, changes and brings, are the rows of that state.
-/
namespace Go.Proofs.YtlelgkgdppkedaaDoor
set_option maxRecDepth 100000
open Go.RowKit
variable {ls : List Nat}

/-- The numbers of the rows go up. -/
def Asc (R : List TRow) : Prop := (R.map (·.1)).Pairwise (· < ·)
section
variable {A B L M R : List TRow} {nx : Int}
theorem Asc.tail {r : TRow} (h : Asc (r :: R)) : Asc R := (List.pairwise_cons.1 h).2
theorem Asc.head {r : TRow} (h : Asc (r :: R)) : ∀ x ∈ R, r.1 < x.1 := fun x hx => (List.pairwise_cons.1 h).1 x.1 (List.mem_map.2 ⟨x, hx, rfl⟩)
theorem asc_ext : ∀ {L M : List TRow}, Asc L → Asc M → (∀ r, r ∈ L ↔ r ∈ M) → L = M
  | [], [], _, _, _ => rfl
  | [], m :: M, _, _, h => by have := (h m).2 List.mem_cons_self; cases this
  | l :: L, [], _, _, h => by have := (h l).1 List.mem_cons_self; cases this
  | l :: L, m :: M, hL, hM, h => by
    have hlm : l = m := by
      rcases List.mem_cons.1 ((h l).1 List.mem_cons_self) with h1 | h1
      · exact h1
      · rcases List.mem_cons.1 ((h m).2 List.mem_cons_self) with h2 | h2
        · exact h2.symm
        · have a := hM.head l h1
          have b := hL.head m h2
          omega
    subst hlm
    rw [asc_ext (L := L) (M := M) hL.tail hM.tail fun r => ⟨fun hr => by
      rcases List.mem_cons.1 ((h r).1 (List.mem_cons_of_mem _ hr)) with h1 | h1
      · subst h1; have := hL.head r hr; omega
      · exact h1, fun hr => by
      rcases List.mem_cons.1 ((h r).2 (List.mem_cons_of_mem _ hr)) with h1 | h1
      · subst h1; have := hM.head r hr; omega
      · exact h1⟩]
theorem getR_cons {id : Int} {r : TRow} : getR id (r :: R) = if r.1 = id then some r.2 else getR id R := by
  unfold getR
  rw [List.find?_cons]
  by_cases h : r.1 = id
  · simp [h]
  · simp [h]
theorem getR_in : ∀ {R : List TRow}, Asc R → ∀ r ∈ R, getR r.1 R = some r.2
  | [], _, r, hr => by cases hr
  | x :: R, h, r, hr => by
    rw [getR_cons]
    rcases List.mem_cons.1 hr with rfl | hr
    · rw [if_pos rfl]
    · rw [if_neg (by have := h.head r hr; omega)]
      exact getR_in h.tail r hr
theorem newV_upd (hA : Asc A) (hB : Asc B) {a : TRow} (ha : a ∈ A) {l : List Val} (hl : getR a.1 B = some l) : newV (updR A B) a = l := by
  unfold newV
  cases hf : (updR A B).find? fun p => decide (p.1 = a.1) with
  | some p =>
    have hp := List.mem_of_find?_eq_some hf
    have hp1 : p.1 = a.1 := by
      have h9 := List.find?_some hf
      exact of_decide_eq_true h9
    obtain ⟨r, hr, hu⟩ := List.mem_filterMap.1 hp
    unfold updP at hu
    cases hg : getR r.1 A with
    | none => rw [hg] at hu; cases hu
    | some l0 =>
      rw [hg] at hu
      dsimp only at hu
      split at hu
      · cases hu
      · obtain rfl := Option.some.inj hu
        have h1 := getR_in hB r hr
        have hp2 : r.1 = a.1 := hp1
        rw [hp2, hl] at h1
        exact (Option.some.inj h1).symm
  | none =>
    have hno := List.find?_eq_none.1 hf
    have hb := getR_mem hl
    have hg := getR_in hA a ha
    by_cases he : a.2 = l
    · exact he
    · exfalso
      have hu : updP A (a.1, l) = some (a.1, a.2, l) := by unfold updP; dsimp only; rw [hg]; dsimp only; rw [if_neg he]
      have := hno _ (List.mem_filterMap.2 ⟨_, hb, hu⟩)
      simp at this
theorem diff_leads (hA : Asc A) (hB : Asc B) (hlt : ∀ a ∈ A, a.1 < nx) (hn : NewR nx A B) : keptR ((delR A B).map (·.1)) (updR A B) A ++ insR A B = B := by
  have hdel : ∀ a ∈ A, (a.1 ∈ (delR A B).map (·.1) ↔ getR a.1 B = none) := fun a ha => ⟨fun h => by
    obtain ⟨x, hx, he⟩ := List.mem_map.1 h
    have h2 := (List.mem_filter.1 hx).2
    rw [← he]
    exact Option.isNone_iff_eq_none.1 h2, fun h => List.mem_map.2 ⟨a, List.mem_filter.2 ⟨ha, by rw [h]; rfl⟩, rfl⟩⟩
  refine asc_ext ?_ hB fun r => ⟨fun hr => ?_, fun hr => ?_⟩
  · unfold Asc
    rw [List.map_append]
    refine List.pairwise_append.2 ⟨kept_up hA, ?_, fun x hx y hy => ?_⟩
    · exact hB.sublist (List.Sublist.map _ List.filter_sublist)
    · obtain ⟨k, hk, rfl⟩ := List.mem_map.1 hx
      obtain ⟨i, hi, rfl⟩ := List.mem_map.1 hy
      obtain ⟨a, ha, rfl⟩ := List.mem_map.1 hk
      have h1 := hlt a (List.mem_filter.1 ha).1
      obtain ⟨hib, hin⟩ := List.mem_filter.1 hi
      rcases hn i hib with h2 | h2
      · have h3 := getR_isSome h2
        rw [Option.isNone_iff_eq_none.1 hin] at h3
        cases h3
      · show a.1 < i.1
        omega
  · rcases List.mem_append.1 hr with hr | hr
    · obtain ⟨a, ha, rfl⟩ := List.mem_map.1 hr
      obtain ⟨ha, hd⟩ := List.mem_filter.1 ha
      cases hg : getR a.1 B with
      | none => have := (hdel a ha).2 hg; simp [this] at hd
      | some l =>
        rw [newV_upd hA hB ha hg]
        exact getR_mem hg
    · exact (List.mem_filter.1 hr).1
  · cases hg : getR r.1 A with
    | none => exact List.mem_append_right _ (List.mem_filter.2 ⟨hr, by rw [hg]; rfl⟩)
    | some l =>
      refine List.mem_append_left _ (List.mem_map.2 ⟨(r.1, l), List.mem_filter.2 ⟨getR_mem hg, ?_⟩, ?_⟩)
      · have hb := getR_in hB r hr
        have : ¬ (r.1, l).1 ∈ (delR A B).map (·.1) := fun h => by
          have := (hdel (r.1, l) (getR_mem hg)).1 h
          dsimp only at this
          rw [hb] at this
          cases this
        simpa using this
      · show (r.1, newV (updR A B) (r.1, l)) = r
        rw [newV_upd hA hB (getR_mem hg) (getR_in hB r hr)]
theorem diff_self (hA : Asc A) : insR A A = [] ∧ delR A A = [] ∧ updR A A = [] := by
  have h : A.filter (fun r => (getR r.1 A).isNone) = [] := List.filter_eq_nil_iff.2 fun r hr => by rw [getR_in hA r hr]; simp
  refine ⟨h, h, ?_⟩
  unfold updR
  refine List.filterMap_eq_nil_iff.2 fun r hr => ?_
  unfold updP
  rw [getR_in hA r hr]
  dsimp only
  rw [if_pos rfl]
end
end Go.Proofs.YtlelgkgdppkedaaDoor
/-
  Plain: what Apply of package delta computes; the difference to a later state can be applied.
-/
namespace Go.Proofs.YtlelgkgdppkedaaDoor
set_option maxRecDepth 100000
open Go.RowKit
variable {ls : List Nat}

/-- The next number behind rows that are added, or none where a number was given before. -/
def addN : Int → List TRow → Option Int
  | nx, [] => some nx
  | nx, r :: I => if r.1 < nx then none else addN (wrap64 (r.1 + 1)) I
/-- Are these rows in the table, with their values? -/
def holdB (A D : List TRow) : Bool := D.all fun r => (getO r.1 A).2 && decide ((getO r.1 A).1 = r.2)
section
variable {A B I : List TRow} {nx M : Int} {n : Nat} {f : Nat → Col}
theorem addN_fine (h1 : ∀ r ∈ I, nx ≤ r.1 ∧ r.1 < M) (hI : Asc I) (h0 : 1 ≤ nx) (hM : nx ≤ M) (h2 : M ≤ 2147483648) : ∃ m, addN nx I = some m ∧ nx ≤ m ∧ m ≤ M ∧ ∀ r ∈ I, r.1 < m := by
  induction I generalizing nx with
  | nil => exact ⟨nx, rfl, Int.le_refl _, hM, fun r hr => by cases hr⟩
  | cons r I ih =>
    obtain ⟨ha, hb⟩ := h1 r List.mem_cons_self
    have hw : wrap64 (r.1 + 1) = r.1 + 1 := by unfold wrap64; omega
    obtain ⟨m, e, g1, g2, g3⟩ := ih (nx := r.1 + 1) (fun x hx => ⟨by have := hI.head x hx; omega, (h1 x (List.mem_cons_of_mem _ hx)).2⟩) hI.tail (by omega) (by omega)
    refine ⟨m, ?_, by omega, g2, fun x hx => ?_⟩
    · show (if r.1 < nx then none else addN (wrap64 (r.1 + 1)) I) = _
      rw [if_neg (by omega), hw, e]
    · rcases List.mem_cons.1 hx with rfl | hx
      · omega
      · exact g3 x hx
theorem updR_ids : ((updR A B).map (·.1)).Sublist (B.map (·.1)) := by
  unfold updR
  induction B with
  | nil => exact List.Sublist.slnil
  | cons r B ih =>
    cases hu : updP A r with
    | none => rw [List.filterMap_cons_none hu]; exact List.Sublist.cons _ ih
    | some u =>
      rw [List.filterMap_cons_some hu, List.map_cons, List.map_cons]
      have he : u.1 = r.1 := by
        unfold updP at hu
        split at hu
        · split at hu
          · cases hu
          · obtain rfl := Option.some.inj hu; rfl
        · cases hu
      rw [he]
      exact List.Sublist.cons_cons _ ih
theorem lead_agree (hA : Asc A) (hB : Asc B) : Agree A ((delR A B).map (·.1)) (updR A B) :=
  ⟨hA.sublist (List.Sublist.map _ List.filter_sublist), fun d hd => by
      obtain ⟨x, hx, rfl⟩ := List.mem_map.1 hd
      exact List.mem_map.2 ⟨x, (List.mem_filter.1 hx).1, rfl⟩,
    hB.sublist updR_ids, fun u hu => (updR_mem hu).1, fun u hu hd => by
      obtain ⟨x, hx, he⟩ := List.mem_map.1 hd
      have h2 := (List.mem_filter.1 hx).2
      rw [he, getR_in hB _ (updR_mem hu).2.1] at h2
      cases h2⟩
theorem fits_of {R : List TRow} (h : ∀ i, i < R.length → RowOK f n nx R i) {r : TRow} (hr : r ∈ R) : fitsRow f n r.2 = 0 ∧ 1 ≤ r.1 ∧ r.1 < nx := by
  obtain ⟨i, hi, rfl⟩ := List.getElem_of_mem hr
  obtain ⟨h1, h2, -, h4⟩ := h i hi
  rw [tAt_get hi] at h1 h2 h4
  exact ⟨h4, h1, h2⟩
theorem lead_hold (hA : ∀ i, i < A.length → RowOK f n nx A i) : holdB A (delR A B) = true := by
  unfold holdB
  rw [List.all_eq_true]
  intro r hr
  obtain ⟨h1, h2⟩ := (getO_iff hA r.1 r.2).2 (List.mem_filter.1 hr).1
  rw [h1, h2]
  simp
/-- The difference to a later state can be applied, and leads to its rows. -/
theorem lead_all {nm : ByteArray} {nx ny : Int} (hT : validT nm n f nx A = true) (hS : validT nm n f ny B = true) (hn : NewR nx A B) (hxy : nx ≤ ny) :
    applyE nm n f nx A [] ((delR A B).map (·.1)) (updR A B) = 0 ∧ holdB A (delR A B) = true ∧ keptR ((delR A B).map (·.1)) (updR A B) A ++ insR A B = B ∧ ∃ m, addN nx (insR A B) = some m ∧ validT nm n f m B = true ∧ m ≤ ny := by
  obtain ⟨hso, hl, hx1, hx2, hr, hk⟩ := validT_parts hT
  obtain ⟨-, hl', hy1, hy2, hr', hk'⟩ := validT_parts hS
  have hA : Asc A := rows_up hr
  have hB : Asc B := rows_up hr'
  have hlead := diff_leads hA hB (fun a ha => (fits_of hr ha).2.2) hn
  have hag : (∀ i, i < ((delR A B).map (·.1)).length → DelOK A ((delR A B).map (·.1)) i) ∧ (∀ i, i < (updR A B).length → UpdOK n A ((delR A B).map (·.1)) (updR A B) i) :=
    (agree_iff hr).1 ⟨lead_agree hA hB, fun u hu => fits_len (fits_of hr' (updR_mem hu).2.1).1⟩
  have hvc : validC n A [] ((delR A B).map (·.1)) (updR A B) = true := validC_yes hag.1 hag.2 fun i hi => absurd hi (Nat.not_lt_zero i)
  have hv : (validT nm n f nx A && validC n A [] ((delR A B).map (·.1)) (updR A B)) = true := by rw [hT, hvc]; rfl
  have hins : ∀ r ∈ insR A B, nx ≤ r.1 ∧ r.1 < ny := fun r hrm => by
    obtain ⟨hb, hg⟩ := List.mem_filter.1 hrm
    refine ⟨?_, (fits_of hr' hb).2.2⟩
    rcases hn r hb with h2 | h2
    · have h3 := getR_isSome h2
      rw [Option.isNone_iff_eq_none.1 hg] at h3
      cases h3
    · exact h2
  obtain ⟨m, hm, h1, h2, h3⟩ := addN_fine hins (hB.sublist (List.Sublist.map _ List.filter_sublist)) hx1 hxy hy2
  refine ⟨?_, lead_hold hr, hlead, m, hm, ?_, h2⟩
  · rw [applyE_rest hv (fun j hj => (fits_of hr' (updR_mem (pAt_mem hj)).2.1).1) (fun j hj => absurd hj (Nat.not_lt_zero j))]
    have hkl : (keptR ((delR A B).map (·.1)) (updR A B) A).length ≤ A.length := keptR_length
    rw [if_neg (by simp only [List.length_nil]; omega), if_neg]
    have ha : afterR nx A [] ((delR A B).map (·.1)) (updR A B) = keptR ((delR A B).map (·.1)) (updR A B) A := List.append_nil _
    rw [ha, dupR_no]
    · decide
    · rw [← hlead] at hk'
      unfold keysR at hk' ⊢
      rw [List.filterMap_append] at hk'
      exact (List.nodup_append.1 hk').1
  · unfold validT
    rw [hso, dupR_no hk', decide_eq_true (show B.length ≤ 100 ∧ 1 ≤ m ∧ m ≤ 2147483648 from ⟨hl', by omega, by omega⟩), decide_eq_true]
    · rfl
    · intro i hi
      obtain ⟨g1, g2, g3, g4⟩ := hr' i hi
      refine ⟨g1, ?_, g3, g4⟩
      have hmem : tAt B i ∈ B := tAt_mem hi
      rcases hn _ hmem with ⟨a, ha, he⟩ | h4
      · have := (fits_of hr ha).2.2
        omega
      · refine h3 _ (List.mem_filter.2 ⟨hmem, ?_⟩)
        rw [getR_none]
        · rfl
        · intro j hj he
          have := (hr j hj).2.1
          omega
end
end Go.Proofs.YtlelgkgdppkedaaDoor
