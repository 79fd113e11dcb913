/-
  Several texts in one.
-/
import Derived.Test.YtpkbliifcdopgaaDoorPk36
import Derived.Test.YtpkbliifcdopgaaDoorPk39
import Derived.Test.YtpkbliifcdopgaaDoorPk38
import Derived.Test.YtpkbliifcdopgaaDoorPk13
/-
  SameDelta of the world: true of two differences with the same lists.
-/
namespace Go.Proofs.YtpkbliifcdopgaaDoor
set_option maxRecDepth 100000
open Go.RowKit
variable {ls : List Nat}

set_option maxHeartbeats 1000000 in
theorem samepair_yes (a : PRow) (p q r s : Option Addr) (ca cb cc cd : Nat) (w : World) (h1 : a.2.1.length ≤ 9223372036854775807) (h2 : a.2.2.length ≤ 9223372036854775807) (hp : RowAt w p a.2.1) (hq : RowAt w q a.2.2) (hr : RowAt w r a.2.1) (hs : RowAt w s a.2.2) :
    Calls Tryd.prog 74 #[.agg #[.int .i64 a.1, .slice p a.2.1.length ca, .slice q a.2.2.length cb], .agg #[.int .i64 a.1, .slice r a.2.1.length cc, .slice s a.2.2.length cd]] w fun e w' => e = .returned (.bool true) ∧ Below w.heap.size w w' := by
  have hb0 : Below w.heap.size w ((w.alloc (.cells #[.int .i64 a.1, .slice p a.2.1.length ca, .slice q a.2.2.length cb] 69)).alloc (.cells #[.int .i64 a.1, .slice r a.2.1.length cc, .slice s a.2.2.length cd] 69)) := below_new (below_new (Below.refl _ _) _) _
  have HX := Lib.hid ((cell3_new w (.int .i64 a.1) (.slice p a.2.1.length ca) (.slice q a.2.2.length cb) 69).low (below_alloc _ (.cells #[.int .i64 a.1, .slice r a.2.1.length cc, .slice s a.2.2.length cd] 69)))
  have hy := cell3_new (w.alloc (.cells #[.int .i64 a.1, .slice p a.2.1.length ca, .slice q a.2.2.length cb] 69)) (.int .i64 a.1) (.slice r a.2.1.length cc) (.slice s a.2.2.length cd) 69
  rw [size_alloc] at hy
  have HY := Lib.hid hy
  have HP := Lib.hid (hp.low hb0)
  have HQ := Lib.hid (hq.low hb0)
  have HR := Lib.hid (hr.low hb0)
  have HS := Lib.hid (hs.low hb0)
  have HB := Lib.hid hb0
  clear hp hq hr hs hb0 hy
  go_enter Tryd.func74, Tryd.ntmps74
  go_upto_region 1 with (fail)
  generalize World.alloc _ _ = W1 at HX HY HP HQ HR HS HB ⊢
  obtain ⟨xl, x0, x1, x2, -⟩ := HX.out
  obtain ⟨yl, y0, y1, y2, -⟩ := HY.out
  have hid : (a.1 == a.1) = true := by simp
  go_wp2_with fail
  refine (equal_any p r a.2.1 a.2.1 ca cc _ h1 HP.out HR.out).mono ?_
  rintro e w2 ⟨rfl, hb2⟩
  rw [decide_eq_true (rfl : a.2.1 = a.2.1)]
  have HX2 := Lib.hid (HX.out.low hb2)
  have HY2 := Lib.hid (HY.out.low hb2)
  have HQ2 := Lib.hid (HQ.out.low hb2)
  have HS2 := Lib.hid (HS.out.low hb2)
  have HB2 := Lib.hid (below_next HB.out hb2)
  clear HX HY HP HQ HR HS HB hb2 xl x0 x1 x2 yl y0 y1 y2
  obtain ⟨xl, x0, x1, x2, -⟩ := HX2.out
  obtain ⟨yl, y0, y1, y2, -⟩ := HY2.out
  go_wp2_with fail
  refine (equal_any q s a.2.2 a.2.2 cb cd _ h2 HQ2.out HS2.out).mono ?_
  rintro e w3 ⟨rfl, hb3⟩
  rw [decide_eq_true (rfl : a.2.2 = a.2.2)]
  have HB3 := Lib.hid (below_next HB2.out hb3)
  clear hb3
  go_wp2
  go_ret
  exact ⟨rfl, HB3.out⟩
set_option maxHeartbeats 1000000 in
theorem equalpairs_yes (A : List PRow) (p q : Option Addr) (ca cb : Nat) (w : World) (hA : A.length ≤ 9223372036854775807) (hp : PairsAt w p A) (hq : PairsAt w q A) :
    Calls Tryd.prog 73 #[.slice p A.length ca, .slice q A.length cb, .func (.func 74) #[] #[]] w fun e w' => e = .returned (.bool true) ∧ Below w.heap.size w w' := by
  have HP := Lib.hid hp
  have HQ := Lib.hid hq
  clear hp hq
  have hlI : ((A.length : Int) != (A.length : Int)) = false := by simp
  go_enter Tryd.func73, Tryd.ntmps73
  go_wp2_with fail
  go_loopw [17] (fun i v => ∃ k : Nat, k ≤ A.length ∧ i = .int .i64 k ∧ Below w.heap.size w v) (fun i _ => A.length - (intOf i).toNat)
  case atStart => exact ⟨0, Nat.zero_le _, rfl, Below.refl _ _⟩
  case round =>
    obtain ⟨k, hk, rfl, hb⟩ := hrel
    have HB := Lib.hid hb
    clear hb
    by_cases hlt : k < A.length
    · have hlt' : decide ((k : Int) < A.length) = true := decide_eq_true (by omega)
      have hkI : (k : Int) < (A.length : Int) := by omega
      obtain ⟨c, o, q1, c1, r1, d1, hpp, hc, h0, h1, h2, hr1, hr2, hz1, hz2, -⟩ := HP.out.low HB.out k hlt
      have hbn := below_alloc wr (.cells #[.int .i64 (pAt A k).1, .slice q1 (pAt A k).2.1.length c1, .slice r1 (pAt A k).2.2.length d1] 69)
      obtain ⟨c', o', q2, c2, r2, d2, hqq, hc', h0', h1', h2', hs1, hs2, -⟩ := (HQ.out.low HB.out).low hbn k hlt
      subst hpp hqq
      have HR1 := Lib.hid (hr1.low hbn)
      have HR2 := Lib.hid (hr2.low hbn)
      have HS1 := Lib.hid hs1
      have HS2 := Lib.hid hs2
      have HB1 := Lib.hid (below_next HB.out hbn)
      clear hr1 hr2 hs1 hs2 hbn
      go_wp2_with fail
      have hbm := below_alloc (wr.alloc (.cells #[.int .i64 (pAt A k).1, .slice q1 (pAt A k).2.1.length c1, .slice r1 (pAt A k).2.2.length d1] 69)) (.cells #[.int .i64 (pAt A k).1, .slice q2 (pAt A k).2.1.length c2, .slice r2 (pAt A k).2.2.length d2] 69)
      have HB2 := Lib.hid (below_next HB1.out hbm)
      have HR1b := Lib.hid (HR1.out.low hbm)
      have HR2b := Lib.hid (HR2.out.low hbm)
      have HS1b := Lib.hid (HS1.out.low hbm)
      have HS2b := Lib.hid (HS2.out.low hbm)
      clear hbm HB1 HR1 HR2 HS1 HS2
      refine (samepair_yes (pAt A k) q1 r1 q2 r2 c1 d1 c2 d2 _ (by omega) (by omega) HR1b.out HR2b.out HS1b.out HS2b.out).mono ?_
      rintro e v1 ⟨rfl, hb1⟩
      have HB3 := Lib.hid (below_next HB2.out hb1)
      clear HB HB2 hb1 h0 h0' h1 h1' h2 h2' hc hc' HR1b HR2b HS1b HS2b
      go_wp2
      go_roundw
      case rel => exact ⟨k + 1, by omega, by go_num, HB3.out⟩
      case measure => simp [intOf]; omega
    · have hlt' : decide ((k : Int) < A.length) = false := decide_eq_false (by omega)
      obtain rfl : k = A.length := by omega
      go_wp2
      go_ret
      exact ⟨rfl, HB.out⟩
set_option maxHeartbeats 2000000 in
theorem samedlt_yes (E F : Dlt) (w : World) (hE : DltAt w E) (hF : DltAt w F) (h1 : F.nm = E.nm) (h2 : F.I = E.I) (h3 : F.D = E.D) (h4 : F.U = E.U) (hD : E.D.length ≤ 1000) :
    Calls Tryd.prog 43 #[.agg #[.string E.nm, .slice E.pi E.I.length E.ci, .slice E.pd E.D.length E.cd, .slice E.pu E.U.length E.cu], .agg #[.string F.nm, .slice F.pi F.I.length F.ci, .slice F.pd F.D.length F.cd, .slice F.pu F.U.length F.cu]] w fun e w' => e = .returned (.bool true) ∧ Below w.heap.size w w' := by
  obtain ⟨nm, pi, ci, I, pd, cd, D, pu, cu, U⟩ := E
  obtain ⟨nm', pi', ci', I', pd', cd', D', pu', cu', U'⟩ := F
  dsimp only at h1 h2 h3 h4 hD ⊢
  subst h1 h2 h3 h4
  have hb0 : Below w.heap.size w ((w.alloc (.cells #[.string nm', .slice pi I'.length ci, .slice pd D'.length cd, .slice pu U'.length cu] 48)).alloc (.cells #[.string nm', .slice pi' I'.length ci', .slice pd' D'.length cd', .slice pu' U'.length cu'] 48)) := below_new (below_new (Below.refl _ _) _) _
  have HX := Lib.hid ((cell4_new w (.string nm') (.slice pi I'.length ci) (.slice pd D'.length cd) (.slice pu U'.length cu) 48).low (below_alloc _ (.cells #[.string nm', .slice pi' I'.length ci', .slice pd' D'.length cd', .slice pu' U'.length cu'] 48)))
  have hy := cell4_new (w.alloc (.cells #[.string nm', .slice pi I'.length ci, .slice pd D'.length cd, .slice pu U'.length cu] 48)) (.string nm') (.slice pi' I'.length ci') (.slice pd' D'.length cd') (.slice pu' U'.length cu') 48
  rw [size_alloc] at hy
  have HY := Lib.hid hy
  have HE := Lib.hid (hE.low hb0)
  have HF := Lib.hid (hF.low hb0)
  have HB := Lib.hid hb0
  have hil : I'.length ≤ 1000 := hE.il
  have hul : U'.length ≤ 9223372036854775807 := hE.ul
  clear hE hF hb0 hy
  go_enter Tryd.func43, Tryd.ntmps43
  go_upto_region 1 with (fail)
  generalize World.alloc _ _ = W1 at HX HY HE HF HB ⊢
  obtain ⟨xl, x0, x1, x2, x3, -⟩ := HX.out
  obtain ⟨yl, y0, y1, y2, y3, -⟩ := HY.out
  have hid : (nm'.toList == nm'.toList) = true := by simp
  go_wp2_with fail
  refine (equalrows_any I' I' pi pi' ci ci' _ hil HE.out.ins HF.out.ins).mono ?_
  rintro e w2 ⟨rfl, hb2⟩
  rw [decide_eq_true (rfl : I' = I')]
  have HX2 := Lib.hid (HX.out.low hb2)
  have HY2 := Lib.hid (HY.out.low hb2)
  have HE2 := Lib.hid (HE.out.low hb2)
  have HF2 := Lib.hid (HF.out.low hb2)
  have HB2 := Lib.hid (below_next HB.out hb2)
  clear HX HY HE HF HB hb2 xl x0 x1 x2 x3 yl y0 y1 y2 y3
  obtain ⟨xl, x0, x1, x2, x3, -⟩ := HX2.out
  obtain ⟨yl, y0, y1, y2, y3, -⟩ := HY2.out
  go_wp2_with fail
  refine (equalrows_any D' D' pd pd' cd cd' _ hD HE2.out.del HF2.out.del).mono ?_
  rintro e w3 ⟨rfl, hb3⟩
  rw [decide_eq_true (rfl : D' = D')]
  have HX3 := Lib.hid (HX2.out.low hb3)
  have HY3 := Lib.hid (HY2.out.low hb3)
  have HE3 := Lib.hid (HE2.out.low hb3)
  have HF3 := Lib.hid (HF2.out.low hb3)
  have HB3 := Lib.hid (below_next HB2.out hb3)
  clear HX2 HY2 HE2 HF2 HB2 hb3 xl x0 x1 x2 x3 yl y0 y1 y2 y3
  obtain ⟨xl, x0, x1, x2, x3, -⟩ := HX3.out
  obtain ⟨yl, y0, y1, y2, y3, -⟩ := HY3.out
  go_wp2_with fail
  refine (equalpairs_yes U' pu pu' cu cu' _ hul HE3.out.upd HF3.out.upd).mono ?_
  rintro e w4 ⟨rfl, hb4⟩
  have HB4 := Lib.hid (below_next HB3.out hb4)
  clear hb4
  go_wp2
  go_ret
  exact ⟨rfl, HB4.out⟩
end Go.Proofs.YtpkbliifcdopgaaDoor
/-
  between of the law of package delta: Between and its reference give the same.
-/
namespace Go.Proofs.YtpkbliifcdopgaaDoor
set_option maxRecDepth 100000
open Go.RowKit
variable {ls : List Nat}

theorem btw_len {T S : Tab} {E : Dlt} (hT : T.R.length ≤ 1000) (h : (btwO T S = true ∧ E.nm = T.nm ∧ E.I = insR T.R S.R ∧ E.D = delR T.R S.R ∧ E.U = updR T.R S.R) ∨ (btwO T S = false ∧ E.nm = ⟨#[]⟩ ∧ E.I = [] ∧ E.D = [] ∧ E.U = [])) : E.D.length ≤ 1000 := by
  rcases h with ⟨-, -, -, h, -⟩ | ⟨-, -, -, h, -⟩
  · rw [h]
    exact Nat.le_trans (List.length_filter_le _ _) hT
  · rw [h]; exact Nat.zero_le _
theorem btw_same {T S : Tab} {E F : Dlt} (h : (btwO T S = true ∧ E.nm = T.nm ∧ E.I = insR T.R S.R ∧ E.D = delR T.R S.R ∧ E.U = updR T.R S.R) ∨ (btwO T S = false ∧ E.nm = ⟨#[]⟩ ∧ E.I = [] ∧ E.D = [] ∧ E.U = []))
    (k : (btwO T S = true ∧ F.nm = T.nm ∧ F.I = insR T.R S.R ∧ F.D = delR T.R S.R ∧ F.U = updR T.R S.R) ∨ (btwO T S = false ∧ F.nm = ⟨#[]⟩ ∧ F.I = [] ∧ F.D = [] ∧ F.U = [])) : F.nm = E.nm ∧ F.I = E.I ∧ F.D = E.D ∧ F.U = E.U := by
  rcases h with ⟨b, h1, h2, h3, h4⟩ | ⟨b, h1, h2, h3, h4⟩ <;> rcases k with ⟨c, k1, k2, k3, k4⟩ | ⟨c, k1, k2, k3, k4⟩
  · exact ⟨k1.trans h1.symm, k2.trans h2.symm, k3.trans h3.symm, k4.trans h4.symm⟩
  · rw [b] at c; cases c
  · rw [b] at c; cases c
  · exact ⟨k1.trans h1.symm, k2.trans h2.symm, k3.trans h3.symm, k4.trans h4.symm⟩
set_option maxHeartbeats 2000000 in
theorem between8_any (T S : Tab) (w : World) (hT : TabAt w T) (hS : TabAt w S) (hcap : T.R.length ≤ T.cr) :
    Calls Tryd.prog 18 #[.agg #[.string T.nm, .slice T.pc T.n T.cc, .int .i64 T.nx, .slice T.pr T.R.length T.cr], .agg #[.string S.nm, .slice S.pc S.n S.cc, .int .i64 S.nx, .slice S.pr S.R.length S.cr]] w fun e w' => e = .returned (.bool true) ∧ Below w.heap.size w w' := by
  have HBL := Lib.hid (below_new (below_new (Below.refl w.heap.size w) (.cells #[.string T.nm, .slice T.pc T.n T.cc, .int .i64 T.nx, .slice T.pr T.R.length T.cr] 27)) (.cells #[.string S.nm, .slice S.pc S.n S.cc, .int .i64 S.nx, .slice S.pr S.R.length S.cr] 27))
  have HT := Lib.hid (hT.low HBL.out)
  have HS := Lib.hid (hS.low HBL.out)
  have HA := Lib.hid ((cell4_new w (.string T.nm) (.slice T.pc T.n T.cc) (.int .i64 T.nx) (.slice T.pr T.R.length T.cr) 27).low (below_alloc _ (.cells #[.string S.nm, .slice S.pc S.n S.cc, .int .i64 S.nx, .slice S.pr S.R.length S.cr] 27)))
  have hb1 := cell4_new (w.alloc (.cells #[.string T.nm, .slice T.pc T.n T.cc, .int .i64 T.nx, .slice T.pr T.R.length T.cr] 27)) (.string S.nm) (.slice S.pc S.n S.cc) (.int .i64 S.nx) (.slice S.pr S.R.length S.cr) 27
  rw [size_alloc] at hb1
  have HB := Lib.hid hb1
  have htl := hT.len
  clear hb1 hT hS
  go_enter Tryd.func18, Tryd.ntmps18
  go_upto_region 1 with (fail)
  generalize World.alloc _ _ = W0 at HA HB HBL HT HS ⊢
  obtain ⟨al, a0, a1, a2, a3, -⟩ := HA.out
  obtain ⟨bl, b0, b1, b2, b3, -⟩ := HB.out
  go_wp2_with fail
  refine (between_any T S _ HT.out HS.out hcap).mono ?_
  rintro e w1 ⟨E, rfl, hE, hb1, hr1⟩
  have hbn := below_alloc w1 (.cells #[.string E.nm, .slice E.pi E.I.length E.ci, .slice E.pd E.D.length E.cd, .slice E.pu E.U.length E.cu] 48)
  have HX := Lib.hid (cell4_new w1 (.string E.nm) (.slice E.pi E.I.length E.ci) (.slice E.pd E.D.length E.cd) (.slice E.pu E.U.length E.cu) 48)
  have HE := Lib.hid (hE.low hbn)
  have HA1 := Lib.hid ((HA.out.low hb1).low hbn)
  have HB1 := Lib.hid ((HB.out.low hb1).low hbn)
  have HT1 := Lib.hid ((HT.out.low hb1).low hbn)
  have HS1 := Lib.hid ((HS.out.low hb1).low hbn)
  have HL1 := Lib.hid (below_next (below_next HBL.out hb1) hbn)
  have HR1 := Lib.hid hr1
  clear HA HB HT HS HBL hE hb1 hr1 hbn al a0 a1 a2 a3 bl b0 b1 b2 b3
  go_upto_region 2 with (fail)
  generalize World.alloc _ _ = W1 at HX HE HA1 HB1 HT1 HS1 HL1 ⊢
  generalize w1.heap.size = X at HX ⊢
  obtain ⟨al, a0, a1, a2, a3, -⟩ := HA1.out
  obtain ⟨bl, b0, b1, b2, b3, -⟩ := HB1.out
  go_wp2_with fail
  refine (rbetween_any T S _ HT1.out HS1.out).mono ?_
  rintro e w2 ⟨F, rfl, hF, hb2, hr2⟩
  have hbn := below_alloc w2 (.cells #[.string F.nm, .slice F.pi F.I.length F.ci, .slice F.pd F.D.length F.cd, .slice F.pu F.U.length F.cu] 48)
  have HY := Lib.hid (cell4_new w2 (.string F.nm) (.slice F.pi F.I.length F.ci) (.slice F.pd F.D.length F.cd) (.slice F.pu F.U.length F.cu) 48)
  have HF := Lib.hid (hF.low hbn)
  have HX2 := Lib.hid ((HX.out.low hb2).low hbn)
  have HE2 := Lib.hid ((HE.out.low hb2).low hbn)
  have HL2 := Lib.hid (below_next (below_next HL1.out hb2) hbn)
  have HR2 := Lib.hid (btw_same HR1.out hr2)
  have HDL := Lib.hid (btw_len htl HR1.out)
  clear HA1 HB1 HT1 HS1 HX HE HL1 hF hb2 hr2 hbn al a0 a1 a2 a3 bl b0 b1 b2 b3
  go_upto_region 3 with (fail)
  generalize World.alloc _ _ = W2 at HY HF HX2 HE2 HL2 ⊢
  generalize w2.heap.size = Y at HY ⊢
  obtain ⟨xl, x0, x1, x2, x3, -⟩ := HX2.out
  obtain ⟨yl, y0, y1, y2, y3, -⟩ := HY.out
  obtain ⟨bo, hbo⟩ : ∃ x, btwO T S = x := ⟨_, rfl⟩
  rw [hbo]
  clear hbo
  have hbb : (bo == bo) = true := by cases bo <;> rfl
  go_wp2_with fail
  refine (samedlt_yes E F _ HE2.out.at HF.out.at HR2.out.1 HR2.out.2.1 HR2.out.2.2.1 HR2.out.2.2.2 HDL.out).mono ?_
  rintro e w3 ⟨rfl, hb3⟩
  have HL3 := Lib.hid (below_next HL2.out hb3)
  clear hb3 HL2 HR1 HR2
  go_wp2
  exact bodyPost_ret (v := .bool true) (by simp [results, Tryd.results18, go_sem]) rfl ⟨rfl, HL3.out⟩
end Go.Proofs.YtpkbliifcdopgaaDoor
/-
  Rows and Empty of package delta; known of the law.
-/
namespace Go.Proofs.YtpkbliifcdopgaaDoor
set_option maxRecDepth 100000
open Go.RowKit
variable {ls : List Nat}

set_option maxHeartbeats 2000000 in
theorem drows_any (nm : ByteArray) (pi pd pu : Option Addr) (n1 n2 n3 c1 c2 c3 : Nat) (ev : Int) (w : World) :
    Calls Tryd.prog 42 #[.agg #[.string nm, .slice pi n1 c1, .slice pd n2 c2, .slice pu n3 c3], .int .i64 ev] w fun e w' => e = .returned (.int .i64 (if ev = 1 then n1 else if ev = 2 then n3 else if ev = 3 then n2 else 0)) ∧ Below w.heap.size w w' := by
  have HX := Lib.hid (cell4_new w (.string nm) (.slice pi n1 c1) (.slice pd n2 c2) (.slice pu n3 c3) 48)
  have HB := Lib.hid (below_alloc w (.cells #[.string nm, .slice pi n1 c1, .slice pd n2 c2, .slice pu n3 c3] 48))
  go_enter Tryd.func42, Tryd.ntmps42
  go_upto_region 1 with (fail)
  generalize World.alloc _ _ = W0 at HX HB ⊢
  obtain ⟨xl, x0, x1, x2, x3, -⟩ := HX.out
  by_cases h1 : ev = 1
  · subst h1
    go_wp2
    exact bodyPost_ret (v := .int .i64 n1) (by simp [results, Tryd.results42, go_sem]) rfl ⟨rfl, HB.out⟩
  by_cases h2 : ev = 2
  · subst h2
    go_wp2
    exact bodyPost_ret (v := .int .i64 n3) (by simp [results, Tryd.results42, go_sem]) rfl ⟨rfl, HB.out⟩
  by_cases h3 : ev = 3
  · subst h3
    go_wp2
    exact bodyPost_ret (v := .int .i64 n2) (by simp [results, Tryd.results42, go_sem]) rfl ⟨rfl, HB.out⟩
  have e1 : (ev == 1) = false := by simpa using h1
  have e2 : (ev == 2) = false := by simpa using h2
  have e3 : (ev == 3) = false := by simpa using h3
  go_wp2
  exact bodyPost_ret (v := .int .i64 0) (by simp [results, Tryd.results42, go_sem]) rfl ⟨by first | rfl | rw [if_neg h1, if_neg h2, if_neg h3]; rfl, HB.out⟩
theorem nat_zero_eq (n : Nat) : ((n : Int) == 0) = (n == 0) := by
  cases n with
  | zero => rfl
  | succ n => exact (beq_eq_false_iff_ne.2 (by omega)).trans (beq_eq_false_iff_ne.2 (by omega)).symm
set_option maxHeartbeats 2000000 in
theorem dempty_any (nm : ByteArray) (pi pd pu : Option Addr) (n1 n2 n3 c1 c2 c3 : Nat) (w : World) :
    Calls Tryd.prog 24 #[.agg #[.string nm, .slice pi n1 c1, .slice pd n2 c2, .slice pu n3 c3]] w fun e w' => e = .returned (.bool (n1 == 0 && n2 == 0 && n3 == 0)) ∧ Below w.heap.size w w' := by
  have HX := Lib.hid (cell4_new w (.string nm) (.slice pi n1 c1) (.slice pd n2 c2) (.slice pu n3 c3) 48)
  have HB := Lib.hid (below_alloc w (.cells #[.string nm, .slice pi n1 c1, .slice pd n2 c2, .slice pu n3 c3] 48))
  go_enter Tryd.func24, Tryd.ntmps24
  go_upto_region 1 with (fail)
  generalize World.alloc _ _ = W0 at HX HB ⊢
  obtain ⟨xl, x0, x1, x2, x3, -⟩ := HX.out
  obtain ⟨b1, h1⟩ : ∃ b, (n1 == 0) = b := ⟨_, rfl⟩
  obtain ⟨b2, h2⟩ : ∃ b, (n2 == 0) = b := ⟨_, rfl⟩
  obtain ⟨b3, h3⟩ : ∃ b, (n3 == 0) = b := ⟨_, rfl⟩
  have e1 : ((n1 : Int) == 0) = b1 := (nat_zero_eq n1).trans h1
  have e2 : ((n2 : Int) == 0) = b2 := (nat_zero_eq n2).trans h2
  have e3 : ((n3 : Int) == 0) = b3 := (nat_zero_eq n3).trans h3
  cases b1 <;> cases b2 <;> cases b3
  all_goals
    go_wp2
    exact bodyPost_ret (by simp [results, Tryd.results24, go_sem]; rfl) rfl ⟨by first | rfl | (rw [h1, h2, h3]; rfl), HB.out⟩
abbrev nulls8 : Obj := .cells #[.int .i64 0, .int .i64 0, .string ⟨#[]⟩, .int .i64 0, .int .i64 0, .string ⟨#[]⟩] 71
def nullL : List Val := [(0, 0, ⟨#[]⟩), (0, 0, ⟨#[]⟩)]
theorem null_row (u : World) : RowAt (u.alloc nulls8) (some ⟨u.heap.size, 0, none⟩) nullL := by
  intro j hj
  have hj2 : j < 2 := hj
  obtain rfl | rfl : j = 0 ∨ j = 1 := by omega
  all_goals
    refine ⟨u.heap.size, 0, rfl, by simp, ?_, ?_, ?_⟩
    all_goals go_simp; rfl
theorem one_row {u : World} {p : Addr} {c : Nat} (id : Int) {l : List Val} (hr : RowAt u (some p) l) (hs : l.length * 32 ≤ 140737488355328) : TRowsAt (u.alloc (.cells #[.int .i64 id, .slice (some p) l.length c] 60)) (some ⟨u.heap.size, 0, none⟩) [(id, l)] := by
  intro i hi
  obtain rfl : i = 0 := by simpa using hi
  refine ⟨u.heap.size, 0, some p, c, rfl, by simp, ?_, ?_, hr.low (below_alloc _ _), hs, fun h => by cases h⟩
  · go_simp; rfl
  · go_simp; rfl
def logT (Z c : Nat) (nx : Int) (g : Nat) (id : Int) : Tab := ⟨⟨#[108, 111, 103]⟩, some ⟨Z, 0, none⟩, 2, c, colLog, nx, some ⟨g, 0, none⟩, 1, [(id, nullL)]⟩
theorem log_btw (Z c g h : Nat) : btwO (logT Z c 2 g 1) (logT Z c 3 h 2) = true := by
  show btwO ⟨⟨#[108, 111, 103]⟩, none, 2, 0, colLog, 2, none, 1, [(1, nullL)]⟩ ⟨⟨#[108, 111, 103]⟩, none, 2, 0, colLog, 3, none, 1, [(2, nullL)]⟩ = true
  decide +kernel
theorem null_sized : ValsSized nullL := fun i hi => by
  have hi2 : i < 2 := hi
  obtain rfl | rfl : i = 0 ∨ i = 1 := by omega
  all_goals decide
theorem log_tab {u : World} {Z c g : Nat} {nx id : Int} (hC : ColsAt u (some ⟨Z, 0, none⟩) 2 colLog) (hR : TRowsAt u (some ⟨g, 0, none⟩) [(id, nullL)]) (hn : nx ≤ 9223372036854775807) : TabAt u (logT Z c nx g id) :=
  ⟨by show (⟨#[108, 111, 103]⟩ : ByteArray).size ≤ 9223372036854775807; decide, by show 2 ≤ 9223372036854775807; decide, hC, hR, by show 1 ≤ 1000; decide, fun r hr => by
    obtain rfl := List.mem_singleton.1 hr
    exact null_sized, hn⟩
set_option maxHeartbeats 2000000 in
theorem known8_any (w : World) : Calls Tryd.prog 16 #[] w fun e w' => e = .returned (.bool true) ∧ Below w.heap.size w w' := by
  go_enter Tryd.func16, Tryd.ntmps16
  go_wp2_with fail
  refine (schemaLog_any _).mono ?_
  rintro e w1 ⟨Z, rfl, hZ, -, hb1⟩
  unfold schV
  have hbn := below_alloc w1 (.cells #[.string ⟨#[108, 111, 103]⟩, .slice (some ⟨Z, 0, none⟩) 2 2] 24)
  have HX := Lib.hid (cell2_new w1 (.string ⟨#[108, 111, 103]⟩) (.slice (some ⟨Z, 0, none⟩) 2 2) 24)
  have HC := Lib.hid (hZ.low hbn)
  have HB := Lib.hid (below_next hb1 hbn)
  clear hb1 hZ hbn
  go_upto_region 2 with (fail)
  generalize World.alloc _ _ = W1 at HX HC HB ⊢
  generalize w1.heap.size = X at HX ⊢
  have hbn := below_alloc W1 nulls8
  have HN := Lib.hid (null_row W1)
  have HX1 := Lib.hid (HX.out.low hbn)
  have HC1 := Lib.hid (HC.out.low hbn)
  have HB1 := Lib.hid (below_next HB.out hbn)
  clear HX HC HB hbn
  go_upto_region 3 with (fail)
  generalize World.alloc _ _ = W2 at HN HX1 HC1 HB1 ⊢
  generalize W1.heap.size = V at HN ⊢
  obtain ⟨xl, x0, x1, -⟩ := HX1.out
  have hn1 := below_alloc W2 (.cells #[.int .i64 1, .slice (some ⟨V, 0, none⟩) 2 2] 60)
  have hn2 := below_alloc (W2.alloc (.cells #[.int .i64 1, .slice (some ⟨V, 0, none⟩) 2 2] 60)) (.cells #[.int .i64 2, .slice (some ⟨V, 0, none⟩) 2 2] 60)
  have hr1 := (one_row (c := 2) 1 HN.out (by decide)).low hn2
  have hr2 := one_row (c := 2) 2 (HN.out.low hn1) (by decide)
  rw [size_alloc] at hr2
  have HC3 := Lib.hid ((HC1.out.low hn1).low hn2)
  have HT := Lib.hid (log_tab (c := 2) (nx := 2) HC3.out hr1 (by decide))
  have HS := Lib.hid (log_tab (c := 2) (nx := 3) HC3.out hr2 (by decide))
  have HB3 := Lib.hid (below_next (below_next HB1.out hn1) hn2)
  clear hn1 hn2 hr1 hr2 HC3 HC1
  go_wp2_with fail
  refine (between_any (logT Z 2 2 W2.heap.size 1) (logT Z 2 3 (W2.heap.size + 1) 2) _ HT.out HS.out (Nat.le_refl 1)).mono ?_
  rintro e w5 ⟨E, rfl, -, hb5, hr⟩
  have hb := log_btw Z 2 W2.heap.size (W2.heap.size + 1)
  have hE : E.I.length = 1 ∧ E.D.length = 1 ∧ E.U.length = 0 := by
    rcases hr with ⟨-, -, h1, h2, h3⟩ | ⟨h, -⟩
    · rw [h1, h2, h3]
      exact ⟨rfl, rfl, rfl⟩
    · rw [hb] at h; cases h
  rw [hb, hE.1, hE.2.1, hE.2.2]
  have HB5 := Lib.hid (below_next (below_next HB3.out hb5) (below_alloc w5 (.cells #[.string E.nm, .slice E.pi 1 E.ci, .slice E.pd 1 E.cd, .slice E.pu 0 E.cu] 48)))
  have HD5 := Lib.hid (cell4_new w5 (.string E.nm) (.slice E.pi 1 E.ci) (.slice E.pd 1 E.cd) (.slice E.pu 0 E.cu) 48)
  clear hb hr hE HB3 HT HS hb5 xl x0 x1 HX1 HN HB1
  go_upto_region 4 with (fail)
  generalize World.alloc _ _ = W5 at HB5 HD5 ⊢
  generalize w5.heap.size = Y at HD5 ⊢
  obtain ⟨yl, y0, y1, y2, y3, -⟩ := HD5.out
  go_wp2_with fail
  refine (drows_any E.nm E.pi E.pd E.pu 1 1 0 E.ci E.cd E.cu 1 _).mono ?_
  rintro e w6 ⟨he, hb6⟩
  obtain rfl : e = .returned (.int .i64 1) := he
  have HB6 := Lib.hid (below_next HB5.out hb6)
  have HD6 := Lib.hid (HD5.out.low hb6)
  clear HB5 HD5 hb6 yl y0 y1 y2 y3
  obtain ⟨yl, y0, y1, y2, y3, -⟩ := HD6.out
  go_wp2_with fail
  refine (drows_any E.nm E.pi E.pd E.pu 1 1 0 E.ci E.cd E.cu 3 _).mono ?_
  rintro e w7 ⟨he, hb7⟩
  obtain rfl : e = .returned (.int .i64 1) := he
  have HB7 := Lib.hid (below_next HB6.out hb7)
  have HD7 := Lib.hid (HD6.out.low hb7)
  clear HB6 HD6 hb7 yl y0 y1 y2 y3
  obtain ⟨yl, y0, y1, y2, y3, -⟩ := HD7.out
  go_wp2_with fail
  refine (drows_any E.nm E.pi E.pd E.pu 1 1 0 E.ci E.cd E.cu 2 _).mono ?_
  rintro e w8 ⟨he, hb8⟩
  obtain rfl : e = .returned (.int .i64 0) := he
  have HB8 := Lib.hid (below_next HB7.out hb8)
  have HD8 := Lib.hid (HD7.out.low hb8)
  clear HB7 HD7 hb8 yl y0 y1 y2 y3
  obtain ⟨yl, y0, y1, y2, y3, -⟩ := HD8.out
  go_wp2_with fail
  refine (dempty_any E.nm E.pi E.pd E.pu 1 1 0 E.ci E.cd E.cu _).mono ?_
  rintro e w9 ⟨he, hb9⟩
  obtain rfl : e = .returned (.bool false) := he
  have HB9 := Lib.hid (below_next HB8.out hb9)
  clear HB8 HD8 hb9
  go_wp2
  exact bodyPost_ret (v := .bool true) (by simp [results, Tryd.results16, go_sem]) rfl ⟨rfl, HB9.out⟩
end Go.Proofs.YtpkbliifcdopgaaDoor
