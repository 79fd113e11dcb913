/-
  Several texts in one.
-/
import Derived.Test.YtlelgkgdppkedaaDoorPk33
import Derived.Test.YtlelgkgdppkedaaDoorPk41
/-
  SameDelta of the world: true of two differences with the same lists.
-/
namespace Go.Proofs.YtlelgkgdppkedaaDoor
set_option maxRecDepth 100000
open Go.RowKit
variable {ls : List Nat}

set_option maxHeartbeats 1000000 in
theorem samepair_yes (a : PRow) (p q r s : Option Addr) (ca cb cc cd : Nat) (w : World) (h1 : a.2.1.length ≤ 9223372036854775807) (h2 : a.2.2.length ≤ 9223372036854775807) (hp : RowAt w p a.2.1) (hq : RowAt w q a.2.2) (hr : RowAt w r a.2.1) (hs : RowAt w s a.2.2) :
    Calls Tryd.prog 58 #[.agg #[.int .i64 a.1, .slice p a.2.1.length ca, .slice q a.2.2.length cb], .agg #[.int .i64 a.1, .slice r a.2.1.length cc, .slice s a.2.2.length cd]] w fun e w' => e = .returned (.bool true) ∧ Below w.heap.size w w' := by
  have hb0 : Below w.heap.size w ((w.alloc (.cells #[.int .i64 a.1, .slice p a.2.1.length ca, .slice q a.2.2.length cb] 86)).alloc (.cells #[.int .i64 a.1, .slice r a.2.1.length cc, .slice s a.2.2.length cd] 86)) := below_new (below_new (Below.refl _ _) _) _
  have HX := Lib.hid ((cell3_new w (.int .i64 a.1) (.slice p a.2.1.length ca) (.slice q a.2.2.length cb) 86).low (below_alloc _ (.cells #[.int .i64 a.1, .slice r a.2.1.length cc, .slice s a.2.2.length cd] 86)))
  have hy := cell3_new (w.alloc (.cells #[.int .i64 a.1, .slice p a.2.1.length ca, .slice q a.2.2.length cb] 86)) (.int .i64 a.1) (.slice r a.2.1.length cc) (.slice s a.2.2.length cd) 86
  rw [size_alloc] at hy
  have HY := Lib.hid hy
  have HP := Lib.hid (hp.low hb0)
  have HQ := Lib.hid (hq.low hb0)
  have HR := Lib.hid (hr.low hb0)
  have HS := Lib.hid (hs.low hb0)
  have HB := Lib.hid hb0
  clear hp hq hr hs hb0 hy
  go_enter Tryd.func58, Tryd.ntmps58
  go_upto_region 1 with (fail)
  generalize World.alloc _ _ = W1 at HX HY HP HQ HR HS HB ⊢
  obtain ⟨xl, x0, x1, x2, -⟩ := HX.out
  obtain ⟨yl, y0, y1, y2, -⟩ := HY.out
  have hid : (a.1 == a.1) = true := by simp
  go_wp2_with fail
  refine (equal_any p r a.2.1 a.2.1 ca cc _ h1 HP.out HR.out).mono ?_
  rintro e w2 ⟨rfl, hb2⟩
  rw [decide_eq_true (rfl : a.2.1 = a.2.1)]
  have HX2 := Lib.hid (HX.out.low hb2)
  have HY2 := Lib.hid (HY.out.low hb2)
  have HQ2 := Lib.hid (HQ.out.low hb2)
  have HS2 := Lib.hid (HS.out.low hb2)
  have HB2 := Lib.hid (below_next HB.out hb2)
  clear HX HY HP HQ HR HS HB hb2 xl x0 x1 x2 yl y0 y1 y2
  obtain ⟨xl, x0, x1, x2, -⟩ := HX2.out
  obtain ⟨yl, y0, y1, y2, -⟩ := HY2.out
  go_wp2_with fail
  refine (equal_any q s a.2.2 a.2.2 cb cd _ h2 HQ2.out HS2.out).mono ?_
  rintro e w3 ⟨rfl, hb3⟩
  rw [decide_eq_true (rfl : a.2.2 = a.2.2)]
  have HB3 := Lib.hid (below_next HB2.out hb3)
  clear hb3
  go_wp2
  go_ret
  exact ⟨rfl, HB3.out⟩
set_option maxHeartbeats 1000000 in
theorem equalpairs_yes (A : List PRow) (p q : Option Addr) (ca cb : Nat) (w : World) (hA : A.length ≤ 9223372036854775807) (hp : PairsAt w p A) (hq : PairsAt w q A) :
    Calls Tryd.prog 57 #[.slice p A.length ca, .slice q A.length cb, .func (.func 58) #[] #[]] w fun e w' => e = .returned (.bool true) ∧ Below w.heap.size w w' := by
  have HP := Lib.hid hp
  have HQ := Lib.hid hq
  clear hp hq
  have hlI : ((A.length : Int) != (A.length : Int)) = false := by simp
  go_enter Tryd.func57, Tryd.ntmps57
  go_wp2_with fail
  go_loopw [17] (fun i v => ∃ k : Nat, k ≤ A.length ∧ i = .int .i64 k ∧ Below w.heap.size w v) (fun i _ => A.length - (intOf i).toNat)
  case atStart => exact ⟨0, Nat.zero_le _, rfl, Below.refl _ _⟩
  case round =>
    obtain ⟨k, hk, rfl, hb⟩ := hrel
    have HB := Lib.hid hb
    clear hb
    by_cases hlt : k < A.length
    · have hlt' : decide ((k : Int) < A.length) = true := decide_eq_true (by omega)
      have hkI : (k : Int) < (A.length : Int) := by omega
      obtain ⟨c, o, q1, c1, r1, d1, hpp, hc, h0, h1, h2, hr1, hr2, hz1, hz2, -⟩ := HP.out.low HB.out k hlt
      have hbn := below_alloc wr (.cells #[.int .i64 (pAt A k).1, .slice q1 (pAt A k).2.1.length c1, .slice r1 (pAt A k).2.2.length d1] 86)
      obtain ⟨c', o', q2, c2, r2, d2, hqq, hc', h0', h1', h2', hs1, hs2, -⟩ := (HQ.out.low HB.out).low hbn k hlt
      subst hpp hqq
      have HR1 := Lib.hid (hr1.low hbn)
      have HR2 := Lib.hid (hr2.low hbn)
      have HS1 := Lib.hid hs1
      have HS2 := Lib.hid hs2
      have HB1 := Lib.hid (below_next HB.out hbn)
      clear hr1 hr2 hs1 hs2 hbn
      go_wp2_with fail
      have hbm := below_alloc (wr.alloc (.cells #[.int .i64 (pAt A k).1, .slice q1 (pAt A k).2.1.length c1, .slice r1 (pAt A k).2.2.length d1] 86)) (.cells #[.int .i64 (pAt A k).1, .slice q2 (pAt A k).2.1.length c2, .slice r2 (pAt A k).2.2.length d2] 86)
      have HB2 := Lib.hid (below_next HB1.out hbm)
      have HR1b := Lib.hid (HR1.out.low hbm)
      have HR2b := Lib.hid (HR2.out.low hbm)
      have HS1b := Lib.hid (HS1.out.low hbm)
      have HS2b := Lib.hid (HS2.out.low hbm)
      clear hbm HB1 HR1 HR2 HS1 HS2
      refine (samepair_yes (pAt A k) q1 r1 q2 r2 c1 d1 c2 d2 _ (by omega) (by omega) HR1b.out HR2b.out HS1b.out HS2b.out).mono ?_
      rintro e v1 ⟨rfl, hb1⟩
      have HB3 := Lib.hid (below_next HB2.out hb1)
      clear HB HB2 hb1 h0 h0' h1 h1' h2 h2' hc hc' HR1b HR2b HS1b HS2b
      go_wp2
      go_roundw
      case rel => exact ⟨k + 1, by omega, by go_num, HB3.out⟩
      case measure => simp [intOf]; omega
    · have hlt' : decide ((k : Int) < A.length) = false := decide_eq_false (by omega)
      obtain rfl : k = A.length := by omega
      go_wp2
      go_ret
      exact ⟨rfl, HB.out⟩
set_option maxHeartbeats 2000000 in
theorem samedlt_yes (E F : Dlt) (w : World) (hE : DltAt w E) (hF : DltAt w F) (h1 : F.nm = E.nm) (h2 : F.I = E.I) (h3 : F.D = E.D) (h4 : F.U = E.U) (hD : E.D.length ≤ 1000) :
    Calls Tryd.prog 28 #[.agg #[.string E.nm, .slice E.pi E.I.length E.ci, .slice E.pd E.D.length E.cd, .slice E.pu E.U.length E.cu], .agg #[.string F.nm, .slice F.pi F.I.length F.ci, .slice F.pd F.D.length F.cd, .slice F.pu F.U.length F.cu]] w fun e w' => e = .returned (.bool true) ∧ Below w.heap.size w w' := by
  obtain ⟨nm, pi, ci, I, pd, cd, D, pu, cu, U⟩ := E
  obtain ⟨nm', pi', ci', I', pd', cd', D', pu', cu', U'⟩ := F
  dsimp only at h1 h2 h3 h4 hD ⊢
  subst h1 h2 h3 h4
  have hb0 : Below w.heap.size w ((w.alloc (.cells #[.string nm', .slice pi I'.length ci, .slice pd D'.length cd, .slice pu U'.length cu] 41)).alloc (.cells #[.string nm', .slice pi' I'.length ci', .slice pd' D'.length cd', .slice pu' U'.length cu'] 41)) := below_new (below_new (Below.refl _ _) _) _
  have HX := Lib.hid ((cell4_new w (.string nm') (.slice pi I'.length ci) (.slice pd D'.length cd) (.slice pu U'.length cu) 41).low (below_alloc _ (.cells #[.string nm', .slice pi' I'.length ci', .slice pd' D'.length cd', .slice pu' U'.length cu'] 41)))
  have hy := cell4_new (w.alloc (.cells #[.string nm', .slice pi I'.length ci, .slice pd D'.length cd, .slice pu U'.length cu] 41)) (.string nm') (.slice pi' I'.length ci') (.slice pd' D'.length cd') (.slice pu' U'.length cu') 41
  rw [size_alloc] at hy
  have HY := Lib.hid hy
  have HE := Lib.hid (hE.low hb0)
  have HF := Lib.hid (hF.low hb0)
  have HB := Lib.hid hb0
  have hil : I'.length ≤ 1000 := hE.il
  have hul : U'.length ≤ 9223372036854775807 := hE.ul
  clear hE hF hb0 hy
  go_enter Tryd.func28, Tryd.ntmps28
  go_upto_region 1 with (fail)
  generalize World.alloc _ _ = W1 at HX HY HE HF HB ⊢
  obtain ⟨xl, x0, x1, x2, x3, -⟩ := HX.out
  obtain ⟨yl, y0, y1, y2, y3, -⟩ := HY.out
  have hid : (nm'.toList == nm'.toList) = true := by simp
  go_wp2_with fail
  refine (equalrows_any I' I' pi pi' ci ci' _ hil HE.out.ins HF.out.ins).mono ?_
  rintro e w2 ⟨rfl, hb2⟩
  rw [decide_eq_true (rfl : I' = I')]
  have HX2 := Lib.hid (HX.out.low hb2)
  have HY2 := Lib.hid (HY.out.low hb2)
  have HE2 := Lib.hid (HE.out.low hb2)
  have HF2 := Lib.hid (HF.out.low hb2)
  have HB2 := Lib.hid (below_next HB.out hb2)
  clear HX HY HE HF HB hb2 xl x0 x1 x2 x3 yl y0 y1 y2 y3
  obtain ⟨xl, x0, x1, x2, x3, -⟩ := HX2.out
  obtain ⟨yl, y0, y1, y2, y3, -⟩ := HY2.out
  go_wp2_with fail
  refine (equalrows_any D' D' pd pd' cd cd' _ hD HE2.out.del HF2.out.del).mono ?_
  rintro e w3 ⟨rfl, hb3⟩
  rw [decide_eq_true (rfl : D' = D')]
  have HX3 := Lib.hid (HX2.out.low hb3)
  have HY3 := Lib.hid (HY2.out.low hb3)
  have HE3 := Lib.hid (HE2.out.low hb3)
  have HF3 := Lib.hid (HF2.out.low hb3)
  have HB3 := Lib.hid (below_next HB2.out hb3)
  clear HX2 HY2 HE2 HF2 HB2 hb3 xl x0 x1 x2 x3 yl y0 y1 y2 y3
  obtain ⟨xl, x0, x1, x2, x3, -⟩ := HX3.out
  obtain ⟨yl, y0, y1, y2, y3, -⟩ := HY3.out
  go_wp2_with fail
  refine (equalpairs_yes U' pu pu' cu cu' _ hul HE3.out.upd HF3.out.upd).mono ?_
  rintro e w4 ⟨rfl, hb4⟩
  have HB4 := Lib.hid (below_next HB3.out hb4)
  clear hb4
  go_wp2
  go_ret
  exact ⟨rfl, HB4.out⟩
end Go.Proofs.YtlelgkgdppkedaaDoor
/-
  between of the law of package delta: Between and its reference give the same.
-/
namespace Go.Proofs.YtlelgkgdppkedaaDoor
set_option maxRecDepth 100000
open Go.RowKit
variable {ls : List Nat}

theorem btw_len {T S : Tab} {E : Dlt} (hT : T.R.length ≤ 1000) (h : (btwO T S = true ∧ E.nm = T.nm ∧ E.I = insR T.R S.R ∧ E.D = delR T.R S.R ∧ E.U = updR T.R S.R) ∨ (btwO T S = false ∧ E.nm = ⟨#[]⟩ ∧ E.I = [] ∧ E.D = [] ∧ E.U = [])) : E.D.length ≤ 1000 := by
  rcases h with ⟨-, -, -, h, -⟩ | ⟨-, -, -, h, -⟩
  · rw [h]
    exact Nat.le_trans (List.length_filter_le _ _) hT
  · rw [h]; exact Nat.zero_le _
theorem btw_same {T S : Tab} {E F : Dlt} (h : (btwO T S = true ∧ E.nm = T.nm ∧ E.I = insR T.R S.R ∧ E.D = delR T.R S.R ∧ E.U = updR T.R S.R) ∨ (btwO T S = false ∧ E.nm = ⟨#[]⟩ ∧ E.I = [] ∧ E.D = [] ∧ E.U = []))
    (k : (btwO T S = true ∧ F.nm = T.nm ∧ F.I = insR T.R S.R ∧ F.D = delR T.R S.R ∧ F.U = updR T.R S.R) ∨ (btwO T S = false ∧ F.nm = ⟨#[]⟩ ∧ F.I = [] ∧ F.D = [] ∧ F.U = [])) : F.nm = E.nm ∧ F.I = E.I ∧ F.D = E.D ∧ F.U = E.U := by
  rcases h with ⟨b, h1, h2, h3, h4⟩ | ⟨b, h1, h2, h3, h4⟩ <;> rcases k with ⟨c, k1, k2, k3, k4⟩ | ⟨c, k1, k2, k3, k4⟩
  · exact ⟨k1.trans h1.symm, k2.trans h2.symm, k3.trans h3.symm, k4.trans h4.symm⟩
  · rw [b] at c; cases c
  · rw [b] at c; cases c
  · exact ⟨k1.trans h1.symm, k2.trans h2.symm, k3.trans h3.symm, k4.trans h4.symm⟩
set_option maxHeartbeats 2000000 in
theorem between8_any (T S : Tab) (w : World) (hT : TabAt w T) (hS : TabAt w S) (hcap : T.R.length ≤ T.cr) :
    Calls Tryd.prog 12 #[.agg #[.string T.nm, .slice T.pc T.n T.cc, .int .i64 T.nx, .slice T.pr T.R.length T.cr], .agg #[.string S.nm, .slice S.pc S.n S.cc, .int .i64 S.nx, .slice S.pr S.R.length S.cr]] w fun e w' => e = .returned (.bool true) ∧ Below w.heap.size w w' := by
  have HBL := Lib.hid (below_new (below_new (Below.refl w.heap.size w) (.cells #[.string T.nm, .slice T.pc T.n T.cc, .int .i64 T.nx, .slice T.pr T.R.length T.cr] 27)) (.cells #[.string S.nm, .slice S.pc S.n S.cc, .int .i64 S.nx, .slice S.pr S.R.length S.cr] 27))
  have HT := Lib.hid (hT.low HBL.out)
  have HS := Lib.hid (hS.low HBL.out)
  have HA := Lib.hid ((cell4_new w (.string T.nm) (.slice T.pc T.n T.cc) (.int .i64 T.nx) (.slice T.pr T.R.length T.cr) 27).low (below_alloc _ (.cells #[.string S.nm, .slice S.pc S.n S.cc, .int .i64 S.nx, .slice S.pr S.R.length S.cr] 27)))
  have hb1 := cell4_new (w.alloc (.cells #[.string T.nm, .slice T.pc T.n T.cc, .int .i64 T.nx, .slice T.pr T.R.length T.cr] 27)) (.string S.nm) (.slice S.pc S.n S.cc) (.int .i64 S.nx) (.slice S.pr S.R.length S.cr) 27
  rw [size_alloc] at hb1
  have HB := Lib.hid hb1
  have htl := hT.len
  clear hb1 hT hS
  go_enter Tryd.func12, Tryd.ntmps12
  go_upto_region 1 with (fail)
  generalize World.alloc _ _ = W0 at HA HB HBL HT HS ⊢
  obtain ⟨al, a0, a1, a2, a3, -⟩ := HA.out
  obtain ⟨bl, b0, b1, b2, b3, -⟩ := HB.out
  go_wp2_with fail
  refine (between_any T S _ HT.out HS.out hcap).mono ?_
  rintro e w1 ⟨E, rfl, hE, hb1, hr1⟩
  have hbn := below_alloc w1 (.cells #[.string E.nm, .slice E.pi E.I.length E.ci, .slice E.pd E.D.length E.cd, .slice E.pu E.U.length E.cu] 41)
  have HX := Lib.hid (cell4_new w1 (.string E.nm) (.slice E.pi E.I.length E.ci) (.slice E.pd E.D.length E.cd) (.slice E.pu E.U.length E.cu) 41)
  have HE := Lib.hid (hE.low hbn)
  have HA1 := Lib.hid ((HA.out.low hb1).low hbn)
  have HB1 := Lib.hid ((HB.out.low hb1).low hbn)
  have HT1 := Lib.hid ((HT.out.low hb1).low hbn)
  have HS1 := Lib.hid ((HS.out.low hb1).low hbn)
  have HL1 := Lib.hid (below_next (below_next HBL.out hb1) hbn)
  have HR1 := Lib.hid hr1
  clear HA HB HT HS HBL hE hb1 hr1 hbn al a0 a1 a2 a3 bl b0 b1 b2 b3
  go_upto_region 2 with (fail)
  generalize World.alloc _ _ = W1 at HX HE HA1 HB1 HT1 HS1 HL1 ⊢
  generalize w1.heap.size = X at HX ⊢
  obtain ⟨al, a0, a1, a2, a3, -⟩ := HA1.out
  obtain ⟨bl, b0, b1, b2, b3, -⟩ := HB1.out
  go_wp2_with fail
  refine (rbetween_any T S _ HT1.out HS1.out).mono ?_
  rintro e w2 ⟨F, rfl, hF, hb2, hr2⟩
  have hbn := below_alloc w2 (.cells #[.string F.nm, .slice F.pi F.I.length F.ci, .slice F.pd F.D.length F.cd, .slice F.pu F.U.length F.cu] 41)
  have HY := Lib.hid (cell4_new w2 (.string F.nm) (.slice F.pi F.I.length F.ci) (.slice F.pd F.D.length F.cd) (.slice F.pu F.U.length F.cu) 41)
  have HF := Lib.hid (hF.low hbn)
  have HX2 := Lib.hid ((HX.out.low hb2).low hbn)
  have HE2 := Lib.hid ((HE.out.low hb2).low hbn)
  have HL2 := Lib.hid (below_next (below_next HL1.out hb2) hbn)
  have HR2 := Lib.hid (btw_same HR1.out hr2)
  have HDL := Lib.hid (btw_len htl HR1.out)
  clear HA1 HB1 HT1 HS1 HX HE HL1 hF hb2 hr2 hbn al a0 a1 a2 a3 bl b0 b1 b2 b3
  go_upto_region 3 with (fail)
  generalize World.alloc _ _ = W2 at HY HF HX2 HE2 HL2 ⊢
  generalize w2.heap.size = Y at HY ⊢
  obtain ⟨xl, x0, x1, x2, x3, -⟩ := HX2.out
  obtain ⟨yl, y0, y1, y2, y3, -⟩ := HY.out
  obtain ⟨bo, hbo⟩ : ∃ x, btwO T S = x := ⟨_, rfl⟩
  rw [hbo]
  clear hbo
  have hbb : (bo == bo) = true := by cases bo <;> rfl
  go_wp2_with fail
  refine (samedlt_yes E F _ HE2.out.at HF.out.at HR2.out.1 HR2.out.2.1 HR2.out.2.2.1 HR2.out.2.2.2 HDL.out).mono ?_
  rintro e w3 ⟨rfl, hb3⟩
  have HL3 := Lib.hid (below_next HL2.out hb3)
  clear hb3 HL2 HR1 HR2
  go_wp2
  exact bodyPost_ret (v := .bool true) (by simp [results, Tryd.results12, go_sem]) rfl ⟨rfl, HL3.out⟩
end Go.Proofs.YtlelgkgdppkedaaDoor
