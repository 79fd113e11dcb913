/-
  Several texts in one.
-/
import Derived.Test.YtpkbliifcdopgaaDoorPk36
import Derived.Test.YtpkbliifcdopgaaDoorPk37
import Derived.Test.YtpkbliifcdopgaaDoorPk22
/-
  Package delta and its reference: equality of schemas; Get with memory of its own.
-/
namespace Go.Proofs.YtpkbliifcdopgaaDoor
set_option maxRecDepth 100000
open Go.RowKit
variable {ls : List Nat}

set_option maxHeartbeats 1000000 in
theorem dsameschema_any (nm nm' : ByteArray) (p q : Option Addr) (n m : Nat) (f g : Nat → Col) (ca cb : Nat) (w : World) (hn : n ≤ 9223372036854775807) (ha : ColsAt w p n f) (hb : ColsAt w q m g) :
    Calls Tryd.prog 51 #[.agg #[.string nm, .slice p n ca], .agg #[.string nm', .slice q m cb]] w fun e w' => e = .returned (.bool (eqT nm nm' && sameCols n f m g)) ∧ Below w.heap.size w w' := by
  have hb0 : Below w.heap.size w ((w.alloc (.cells #[.string nm, .slice p n ca] 24)).alloc (.cells #[.string nm', .slice q m cb] 24)) := below_new (below_new (Below.refl _ _) _) _
  have HB0 := Lib.hid hb0
  have HA1 := Lib.hid (ha.low hb0)
  have HB1 := Lib.hid (hb.low hb0)
  clear hb0 ha hb
  go_enter Tryd.func51, Tryd.ntmps51
  cases hid : eqT nm nm'
  · have hid' : (nm.toList == nm'.toList) = false := hid
    go_wp2
    go_ret
    exact ⟨rfl, HB0.out⟩
  · have hid' : (nm.toList == nm'.toList) = true := hid
    go_wp2_with fail
    refine (equalcols_any p q n m f g ca cb _ hn HA1.out HB1.out).mono ?_
    rintro e w2 ⟨rfl, hb2⟩
    have HB2 := Lib.hid (below_next HB0.out hb2)
    clear hb2
    go_wp2
    go_ret
    exact ⟨rfl, HB2.out⟩
set_option maxHeartbeats 1000000 in
theorem rsameschema_any (nm nm' : ByteArray) (p q : Option Addr) (n m : Nat) (f g : Nat → Col) (ca cb : Nat) (w : World) (hn : n ≤ 9223372036854775807) (hm : m ≤ 9223372036854775807) (ha : ColsAt w p n f) (hb : ColsAt w q m g) :
    Calls Tryd.prog 44 #[.agg #[.string nm, .slice p n ca], .agg #[.string nm', .slice q m cb]] w fun e w' => e = .returned (.bool (eqT nm nm' && sameCols n f m g)) ∧ Below w.heap.size w w' := by
  have HX := Lib.hid ((cell2_new w (.string nm) (.slice p n ca) 24).low (below_alloc _ (.cells #[.string nm', .slice q m cb] 24)))
  have hy := cell2_new (w.alloc (.cells #[.string nm, .slice p n ca] 24)) (.string nm') (.slice q m cb) 24
  rw [size_alloc] at hy
  have HY := Lib.hid hy
  have hb0 : Below w.heap.size w ((w.alloc (.cells #[.string nm, .slice p n ca] 24)).alloc (.cells #[.string nm', .slice q m cb] 24)) := below_new (below_new (Below.refl _ _) _) _
  have HB0 := Lib.hid hb0
  have HP := Lib.hid (ha.low hb0)
  have HQ := Lib.hid (hb.low hb0)
  clear hb0 ha hb hy
  go_enter Tryd.func44, Tryd.ntmps44
  go_upto_region 1 with (fail)
  generalize World.alloc _ _ = W1 at HX HY HB0 HP HQ ⊢
  obtain ⟨xl, x0, x1, -⟩ := HX.out
  obtain ⟨yl, y0, y1, -⟩ := HY.out
  cases hid : eqT nm nm'
  · have hid' : (nm.toList == nm'.toList) = false := hid
    go_wp2
    go_ret
    exact ⟨ret_b (by rw [hid]; rfl), HB0.out⟩
  have hid' : (nm.toList == nm'.toList) = true := hid
  by_cases hl : n = m
  · subst hl
    have hlI : ((n : Int) != (n : Int)) = false := by simp
    go_wp2_with fail
    clear x0 x1 y0 y1 xl yl
    go_loopw [23] (fun i v => ∃ k : Nat, k ≤ n ∧ i = .int .i64 k ∧ (∀ j, j < k → f j = g j) ∧ Below W1.heap.size W1 v) (fun i _ => n - (intOf i).toNat)
    case atStart => exact ⟨0, Nat.zero_le _, rfl, fun j hj => by omega, Below.refl _ _⟩
    case round =>
      obtain ⟨k, hk, rfl, heq, hb⟩ := hrel
      have HEQ := Lib.hid heq
      have HB := Lib.hid hb
      clear heq hb
      by_cases hlt : k < n
      · have hlt' : decide ((k : Int) < n) = true := decide_eq_true (by omega)
        have hkI : (k : Int) < (n : Int) := by omega
        obtain ⟨c, o, hpe, hc, -, c0, c1, c2, c3⟩ := HP.out.low HB.out k hlt
        obtain ⟨c', o', hqe, hc', -, d0, d1, d2, d3⟩ := HQ.out.low HB.out k hlt
        subst hpe hqe
        obtain ⟨xl, x0, x1, -⟩ := HX.out.low HB.out
        obtain ⟨yl, y0, y1, -⟩ := HY.out.low HB.out
        have hq := neq_col (f k) (g k)
        cases hsame : sameC (f k) (g k)
        · have HD : Hid (¬ f k = g k) := Lib.hid (fun h => by
            rw [sameC_iff.2 h] at hsame
            cases hsame)
          rw [hsame] at hq
          go_wp2_with fail
          go_quiet (fail)
          go_wp2
          go_ret
          exact ⟨ret_b (by rw [hid, sameCols_no hlt HD.out]; rfl), below_drewN (below_next HB0.out HB.out) _⟩
        · have HS := Lib.hid (sameC_iff.1 hsame)
          rw [hsame] at hq
          go_wp2_with fail
          go_quiet (fail)
          go_wp2
          go_roundw
          case rel => exact ⟨k + 1, by omega, by go_num, all_succ HEQ.out HS.out, below_drewN HB.out _⟩
          case measure => simp [intOf]; omega
      · have hlt' : decide ((k : Int) < n) = false := decide_eq_false (by omega)
        obtain rfl : k = n := by omega
        go_wp2
        go_ret
        exact ⟨ret_b (by rw [hid, sameCols_yes HEQ.out]; rfl), below_next HB0.out HB.out⟩
  · have hlI : ((n : Int) != (m : Int)) = true := bne_iff_ne.2 (by omega)
    have HD := Lib.hid hl
    clear hl
    go_wp2
    go_ret
    exact ⟨ret_b (by rw [hid, sameCols_len HD.out]; rfl), HB0.out⟩
def GetIPost (id : Int) (R : List TRow) (w : World) (e : Ending) (w' : World) : Prop := ∃ v : Value, e = .returned (.tuple #[v, .bool (getO id R).2]) ∧ InRow w' w.heap.size (v, (getO id R).1) ∧ Below w.heap.size w w'
set_option maxHeartbeats 1000000 in
theorem rgeti_any (T : Tab) (id : Int) (w : World) (hT : TabAt w T) :
    Calls Tryd.prog 45 #[T.v, .int .i64 id] w (GetIPost id T.R w) := by
  obtain ⟨nm, pc, n, cc, f, nx, pr, cr, R⟩ := T
  obtain ⟨hnm, hn, hC, hR, hl, hz⟩ := hT
  unfold Tab.v GetIPost
  dsimp only at *
  have HR := Lib.hid hR
  clear hC hR hz
  go_enter Tryd.func45, Tryd.ntmps45
  go_wp2_with fail
  go_loopw [11] (fun i v => ∃ k : Nat, k ≤ R.length ∧ i = .int .i64 k ∧ (∀ j, j < k → (tAt R j).1 ≠ id) ∧ Below w.heap.size w v) (fun i _ => R.length - (intOf i).toNat)
  case atStart => exact ⟨0, Nat.zero_le _, rfl, fun j hj => by omega, below_new (Below.refl _ _) _⟩
  case round =>
    obtain ⟨k, hk, rfl, ha, hb⟩ := hrel
    have HA := Lib.hid ha
    have HB := Lib.hid hb
    clear ha hb
    by_cases hlt : k < R.length
    · have hlt' : decide ((k : Int) < R.length) = true := decide_eq_true (by omega)
      obtain ⟨c, o, q, cp, rfl, hc, h0, h1, hr, hs, hqn⟩ := HR.out.low HB.out k hlt
      have HQ := Lib.hid hr
      have HN := Lib.hid hqn
      clear hr hqn
      cases he : ((tAt R k).1 == id)
      · have HE := Lib.hid (beq_eq_false_iff_ne.1 he)
        go_wp2
        go_roundw
        case rel => exact ⟨k + 1, by omega, by go_num, all_succ HA.out HE.out, below_new HB.out _⟩
        case measure => simp [intOf]; omega
      · have HE := Lib.hid (beq_iff_eq.1 he)
        go_wp2_with fail
        refine (rcopy_any (tAt R k).2 q cp _ (HQ.out.low (below_alloc _ _)) hs HN.out).mono ?_
        rintro e w2 ⟨v2, rfl, hin, hb2⟩
        have HI2 := Lib.hid (hin.base (by rw [size_alloc]; exact Nat.le_succ_of_le HB.out.size))
        have HB2 := Lib.hid (below_next (below_new HB.out _) hb2)
        have HG := Lib.hid (getO_hit hlt HE.out HA.out)
        clear hin hb2 h0 h1 hc
        go_wp2
        go_ret2
        rw [HG.out]
        exact ⟨_, rfl, HI2.out, HB2.out⟩
    · have hlt' : decide ((k : Int) < R.length) = false := decide_eq_false (by omega)
      obtain rfl : k = R.length := by omega
      have HG := Lib.hid (getO_none HA.out)
      go_wp2
      go_ret2
      rw [HG.out]
      exact ⟨.slice none 0 0, rfl, ⟨⟨rfl, Or.inl ⟨rfl, rfl⟩⟩, by simp⟩, HB.out⟩
end Go.Proofs.YtpkbliifcdopgaaDoor
/-
  Between of package delta.
-/
namespace Go.Proofs.YtpkbliifcdopgaaDoor
set_option maxRecDepth 100000
open Go.RowKit
variable {ls : List Nat}

theorem btw_no1 {T S : Tab} (h : T.valid = false) : btwO T S = false := by unfold btwO btwB; rw [h]; rfl
theorem btw_no2 {T S : Tab} (h : S.valid = false) : btwO T S = false := by unfold btwO btwB; rw [h]; simp
theorem btw_no3 {T S : Tab} (h : (eqT T.nm S.nm && sameCols T.n T.f S.n S.f) = false) : btwO T S = false := by unfold btwO btwB; rw [h]; simp
theorem btw_no4 {T S : Tab} (h : S.nx < T.nx) : btwO T S = false := by unfold btwO btwB; rw [decide_eq_false (show ¬ T.nx ≤ S.nx by omega)]; simp
theorem btw_yes {T S : Tab} (h1 : T.valid = true) (h2 : S.valid = true) (h3 : (eqT T.nm S.nm && sameCols T.n T.f S.n S.f) = true) (h4 : ¬ S.nx < T.nx) : btwO T S = newB T.nx T.R S.R := by
  unfold btwO btwB; rw [h1, h2, h3, decide_eq_true (show T.nx ≤ S.nx by omega)]; simp
theorem zero_post {T S : Tab} {w w' : World} (h : btwO T S = false) (hb : Below w.heap.size w w') : BetweenPost T S w (.returned (.tuple #[.agg #[.string ⟨#[]⟩, .slice none 0 0, .slice none 0 0, .slice none 0 0], .bool false])) w' :=
  ⟨zeroDlt, by rw [h]; rfl, (fun v _ _ => zeroDlt_at v), hb, .inr ⟨h, rfl, rfl, rfl, rfl⟩⟩
set_option maxHeartbeats 4000000 in
theorem between_any (T S : Tab) (w : World) (hT : TabAt w T) (hS : TabAt w S) (hcap : T.R.length ≤ T.cr) :
    Calls Tryd.prog 22 #[.agg #[.string T.nm, .slice T.pc T.n T.cc, .int .i64 T.nx, .slice T.pr T.R.length T.cr], .agg #[.string S.nm, .slice S.pc S.n S.cc, .int .i64 S.nx, .slice S.pr S.R.length S.cr]] w (BetweenPost T S w) := by
  have HBL := Lib.hid (below_new (below_new (below_new (Below.refl w.heap.size w) (.cells #[.string T.nm, .slice T.pc T.n T.cc, .int .i64 T.nx, .slice T.pr T.R.length T.cr] 27)) (.cells #[.string S.nm, .slice S.pc S.n S.cc, .int .i64 S.nx, .slice S.pr S.R.length S.cr] 27)) (.cells #[.string ⟨#[]⟩, .slice none 0 0, .slice none 0 0, .slice none 0 0] 48))
  have HT := Lib.hid (hT.low HBL.out)
  have HS := Lib.hid (hS.low HBL.out)
  have HA := Lib.hid (((cell4_new w (.string T.nm) (.slice T.pc T.n T.cc) (.int .i64 T.nx) (.slice T.pr T.R.length T.cr) 27).low (below_alloc _ (.cells #[.string S.nm, .slice S.pc S.n S.cc, .int .i64 S.nx, .slice S.pr S.R.length S.cr] 27))).low (below_alloc _ (.cells #[.string ⟨#[]⟩, .slice none 0 0, .slice none 0 0, .slice none 0 0] 48)))
  have hb1 := cell4_new (w.alloc (.cells #[.string T.nm, .slice T.pc T.n T.cc, .int .i64 T.nx, .slice T.pr T.R.length T.cr] 27)) (.string S.nm) (.slice S.pc S.n S.cc) (.int .i64 S.nx) (.slice S.pr S.R.length S.cr) 27
  rw [size_alloc] at hb1
  have HB := Lib.hid (hb1.low (below_alloc _ (.cells #[.string ⟨#[]⟩, .slice none 0 0, .slice none 0 0, .slice none 0 0] 48)))
  have hr1 := cell4_new ((w.alloc (.cells #[.string T.nm, .slice T.pc T.n T.cc, .int .i64 T.nx, .slice T.pr T.R.length T.cr] 27)).alloc (.cells #[.string S.nm, .slice S.pc S.n S.cc, .int .i64 S.nx, .slice S.pr S.R.length S.cr] 27)) (.string ⟨#[]⟩) (.slice none 0 0) (.slice none 0 0) (.slice none 0 0) 48
  rw [size_alloc, size_alloc] at hr1
  have HR := Lib.hid hr1
  clear hb1 hr1 hT hS
  go_enter Tryd.func22, Tryd.ntmps22
  go_upto_region 1 with (fail)
  generalize World.alloc _ _ = W0 at HA HB HR HBL HT HS ⊢
  have hX2 : w.heap.size + 1 + 1 = w.heap.size + 2 := rfl
  try rw [hX2]
  clear hX2
  obtain ⟨al, a0, a1, a2, a3, -⟩ := HA.out
  go_wp2_with fail
  refine (tvalid_any T _ HT.out).mono ?_
  rintro e w1 ⟨rfl, hb1⟩
  have HA1 := Lib.hid (HA.out.low hb1)
  have HB1 := Lib.hid (HB.out.low hb1)
  have HR1 := Lib.hid (HR.out.low hb1)
  have HT1 := Lib.hid (HT.out.low hb1)
  have HS1 := Lib.hid (HS.out.low hb1)
  have HL1 := Lib.hid (below_next HBL.out hb1)
  clear HA HB HR HT HS HBL hb1 al a0 a1 a2 a3
  cases hv1 : T.valid
  · have HV := Lib.hid (btw_no1 (S := S) hv1)
    have HYS := Lib.hid (cell4_put w1 HR1.out (.string ⟨#[]⟩) (.slice none 0 0) (.slice none 0 0) (.slice none 0 0))
    obtain ⟨rl, r0, r1, r2, r3, rf⟩ := HR1.out
    go_wp2
    obtain ⟨-, s0, s1, s2, s3, -⟩ := HYS.out
    exact bodyPost_ret (v := .tuple #[.agg #[.string ⟨#[]⟩, .slice none 0 0, .slice none 0 0, .slice none 0 0], .bool false]) (by simp [results, Tryd.results22, go_sem, s0, s1, s2, s3]) rfl
      (zero_post HV.out ((((HL1.out.setCell (by show w.heap.size ≤ w.heap.size + 2; omega) _).setCell (by show w.heap.size ≤ w.heap.size + 2; omega) _).setCell (by show w.heap.size ≤ w.heap.size + 2; omega) _).setCell (by show w.heap.size ≤ w.heap.size + 2; omega) _))
  obtain ⟨bl, b0, b1, b2, b3, -⟩ := HB1.out
  go_wp2_with fail
  refine (tvalid_any S _ HS1.out).mono ?_
  rintro e w2 ⟨rfl, hb2⟩
  have HA2 := Lib.hid (HA1.out.low hb2)
  have HB2 := Lib.hid (HB1.out.low hb2)
  have HR2 := Lib.hid (HR1.out.low hb2)
  have HT2 := Lib.hid (HT1.out.low hb2)
  have HS2 := Lib.hid (HS1.out.low hb2)
  have HL2 := Lib.hid (below_next HL1.out hb2)
  clear HA1 HB1 HR1 HT1 HS1 HL1 hb2 bl b0 b1 b2 b3
  cases hv2 : S.valid
  · have HV := Lib.hid (btw_no2 (T := T) hv2)
    have HYS := Lib.hid (cell4_put w2 HR2.out (.string ⟨#[]⟩) (.slice none 0 0) (.slice none 0 0) (.slice none 0 0))
    obtain ⟨rl, r0, r1, r2, r3, rf⟩ := HR2.out
    go_wp2
    obtain ⟨-, s0, s1, s2, s3, -⟩ := HYS.out
    exact bodyPost_ret (v := .tuple #[.agg #[.string ⟨#[]⟩, .slice none 0 0, .slice none 0 0, .slice none 0 0], .bool false]) (by simp [results, Tryd.results22, go_sem, s0, s1, s2, s3]) rfl
      (zero_post HV.out ((((HL2.out.setCell (by show w.heap.size ≤ w.heap.size + 2; omega) _).setCell (by show w.heap.size ≤ w.heap.size + 2; omega) _).setCell (by show w.heap.size ≤ w.heap.size + 2; omega) _).setCell (by show w.heap.size ≤ w.heap.size + 2; omega) _))
  obtain ⟨al, a0, a1, a2, a3, -⟩ := HA2.out
  obtain ⟨bl, b0, b1, b2, b3, -⟩ := HB2.out
  go_wp2_with fail
  refine (dsameschema_any T.nm S.nm T.pc S.pc T.n S.n T.f S.f T.cc S.cc _ HT2.out.n HT2.out.cols HS2.out.cols).mono ?_
  rintro e w3 ⟨rfl, hb3⟩
  have HA3 := Lib.hid (HA2.out.low hb3)
  have HB3 := Lib.hid (HB2.out.low hb3)
  have HR3 := Lib.hid (HR2.out.low hb3)
  have HT3 := Lib.hid (HT2.out.low hb3)
  have HS3 := Lib.hid (HS2.out.low hb3)
  have HL3 := Lib.hid (below_next HL2.out hb3)
  clear HA2 HB2 HR2 HT2 HS2 HL2 hb3 al a0 a1 a2 a3 bl b0 b1 b2 b3
  obtain ⟨sb, hsb⟩ : ∃ b, (eqT T.nm S.nm && sameCols T.n T.f S.n S.f) = b := ⟨_, rfl⟩
  rw [hsb]
  have HSB := Lib.hid hsb
  clear hsb
  cases sb
  · have HV := Lib.hid (btw_no3 HSB.out)
    have HYS := Lib.hid (cell4_put w3 HR3.out (.string ⟨#[]⟩) (.slice none 0 0) (.slice none 0 0) (.slice none 0 0))
    obtain ⟨rl, r0, r1, r2, r3, rf⟩ := HR3.out
    go_wp2
    obtain ⟨-, s0, s1, s2, s3, -⟩ := HYS.out
    exact bodyPost_ret (v := .tuple #[.agg #[.string ⟨#[]⟩, .slice none 0 0, .slice none 0 0, .slice none 0 0], .bool false]) (by simp [results, Tryd.results22, go_sem, s0, s1, s2, s3]) rfl
      (zero_post HV.out ((((HL3.out.setCell (by show w.heap.size ≤ w.heap.size + 2; omega) _).setCell (by show w.heap.size ≤ w.heap.size + 2; omega) _).setCell (by show w.heap.size ≤ w.heap.size + 2; omega) _).setCell (by show w.heap.size ≤ w.heap.size + 2; omega) _))
  obtain ⟨al, a0, a1, a2, a3, -⟩ := HA3.out
  obtain ⟨bl, b0, b1, b2, b3, -⟩ := HB3.out
  obtain ⟨rl, r0, r1, r2, r3, rf⟩ := HR3.out
  by_cases hnx : S.nx < T.nx
  · have hnd : decide (S.nx < T.nx) = true := decide_eq_true hnx
    have HV := Lib.hid (btw_no4 hnx)
    have HYS := Lib.hid (cell4_put w3 HR3.out (.string ⟨#[]⟩) (.slice none 0 0) (.slice none 0 0) (.slice none 0 0))
    go_wp2
    obtain ⟨-, s0, s1, s2, s3, -⟩ := HYS.out
    exact bodyPost_ret (v := .tuple #[.agg #[.string ⟨#[]⟩, .slice none 0 0, .slice none 0 0, .slice none 0 0], .bool false]) (by simp [results, Tryd.results22, go_sem, s0, s1, s2, s3]) rfl
      (zero_post HV.out ((((HL3.out.setCell (by show w.heap.size ≤ w.heap.size + 2; omega) _).setCell (by show w.heap.size ≤ w.heap.size + 2; omega) _).setCell (by show w.heap.size ≤ w.heap.size + 2; omega) _).setCell (by show w.heap.size ≤ w.heap.size + 2; omega) _))
  · have hnd : decide (S.nx < T.nx) = false := decide_eq_false hnx
    have HV := Lib.hid (btw_yes hv1 hv2 HSB.out hnx)
    clear hnx
    go_wp2_with fail
    refine (merge_any T S _ HT3.out HS3.out hv1 hv2 hcap).mono ?_
    rintro e w4 ⟨E, rfl, hE, hb4, hcs⟩
    have HE := Lib.hid hE
    have HR4 := Lib.hid (HR3.out.low hb4)
    have HL4 := Lib.hid (below_next HL3.out hb4)
    have HYS := Lib.hid (cell4_put w4 HR4.out (.string E.nm) (.slice E.pi E.I.length E.ci) (.slice E.pd E.D.length E.cd) (.slice E.pu E.U.length E.cu))
    have HCS := Lib.hid hcs
    have hXs : w.heap.size + 2 < w3.heap.size := HR3.out.lt
    clear hE hb4 hcs HA3 HB3 HR3 HT3 HS3 HL3 al a0 a1 a2 a3 bl b0 b1 b2 b3 rl r0 r1 r2 r3 rf
    obtain ⟨rl, r0, r1, r2, r3, rf⟩ := HR4.out
    go_wp2
    obtain ⟨-, s0, s1, s2, s3, -⟩ := HYS.out
    refine bodyPost_ret (v := .tuple #[.agg #[.string E.nm, .slice E.pi E.I.length E.ci, .slice E.pd E.D.length E.cd, .slice E.pu E.U.length E.cu], .bool (newB T.nx T.R S.R)]) (by simp [results, Tryd.results22, go_sem, s0, s1, s2, s3]) rfl
      ⟨E, by rw [HV.out], HE.out.to (by omega) (by rw [set_size, set_size, set_size, set_size]; exact Nat.le_refl _) (fun k h1 _ => four_sets (by omega)), (((HL4.out.setCell (by show w.heap.size ≤ w.heap.size + 2; omega) _).setCell (by show w.heap.size ≤ w.heap.size + 2; omega) _).setCell (by show w.heap.size ≤ w.heap.size + 2; omega) _).setCell (by show w.heap.size ≤ w.heap.size + 2; omega) _, ?_⟩
    rw [HV.out]
    exact HCS.out
end Go.Proofs.YtpkbliifcdopgaaDoor
