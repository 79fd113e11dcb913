/-
  Several texts in one.
-/
import Derived.Test.YtlnbpobipmejfaaGreatDoorPk36
import Derived.Test.YtlnbpobipmejfaaGreatDoorPk34
import Derived.Test.YtlnbpobipmejfaaGreatDoorPk22
import Derived.Test.YtlnbpobipmejfaaGreatDoorPk13
import Derived.Test.YtlnbpobipmejfaaGreatDoorPk04
import Derived.Sort.Grow
import Derived.Shelf.SlGeneric
import Derived.Shelf.SlLaysF
import Derived.Ground.SlsfProg
import Derived.Test.YtlnbpobipmejfaaGreatDoorProg
/-
  Between of package delta.
-/
namespace Go.Proofs.YtlnbpobipmejfaaGreatDoor
set_option maxRecDepth 100000
open Go.RowKit
variable {ls : List Nat}

set_option maxHeartbeats 4000000 in
theorem between_any (T S : Tab) (w : World) (hT : TabAt w T) (hS : TabAt w S) (hcap : T.R.length ≤ T.cr) :
    Calls Tryz.prog 23 #[.agg #[.string T.nm, .slice T.pc T.n T.cc, .int .i64 T.nx, .slice T.pr T.R.length T.cr], .agg #[.string S.nm, .slice S.pc S.n S.cc, .int .i64 S.nx, .slice S.pr S.R.length S.cr]] w (BetweenPost T S w) := by
  have HBL := Lib.hid (below_new (below_new (below_new (Below.refl w.heap.size w) (.cells #[.string T.nm, .slice T.pc T.n T.cc, .int .i64 T.nx, .slice T.pr T.R.length T.cr] 34)) (.cells #[.string S.nm, .slice S.pc S.n S.cc, .int .i64 S.nx, .slice S.pr S.R.length S.cr] 34)) (.cells #[.string ⟨#[]⟩, .slice none 0 0, .slice none 0 0, .slice none 0 0] 25))
  have HT := Lib.hid (hT.low HBL.out)
  have HS := Lib.hid (hS.low HBL.out)
  have HA := Lib.hid (((cell4_new w (.string T.nm) (.slice T.pc T.n T.cc) (.int .i64 T.nx) (.slice T.pr T.R.length T.cr) 34).low (below_alloc _ (.cells #[.string S.nm, .slice S.pc S.n S.cc, .int .i64 S.nx, .slice S.pr S.R.length S.cr] 34))).low (below_alloc _ (.cells #[.string ⟨#[]⟩, .slice none 0 0, .slice none 0 0, .slice none 0 0] 25)))
  have hb1 := cell4_new (w.alloc (.cells #[.string T.nm, .slice T.pc T.n T.cc, .int .i64 T.nx, .slice T.pr T.R.length T.cr] 34)) (.string S.nm) (.slice S.pc S.n S.cc) (.int .i64 S.nx) (.slice S.pr S.R.length S.cr) 34
  rw [size_alloc] at hb1
  have HB := Lib.hid (hb1.low (below_alloc _ (.cells #[.string ⟨#[]⟩, .slice none 0 0, .slice none 0 0, .slice none 0 0] 25)))
  have hr1 := cell4_new ((w.alloc (.cells #[.string T.nm, .slice T.pc T.n T.cc, .int .i64 T.nx, .slice T.pr T.R.length T.cr] 34)).alloc (.cells #[.string S.nm, .slice S.pc S.n S.cc, .int .i64 S.nx, .slice S.pr S.R.length S.cr] 34)) (.string ⟨#[]⟩) (.slice none 0 0) (.slice none 0 0) (.slice none 0 0) 25
  rw [size_alloc, size_alloc] at hr1
  have HR := Lib.hid hr1
  clear hb1 hr1 hT hS
  go_enter Tryz.func23, Tryz.ntmps23
  go_upto_region 1 with (fail)
  generalize World.alloc _ _ = W0 at HA HB HR HBL HT HS ⊢
  have hX2 : w.heap.size + 1 + 1 = w.heap.size + 2 := rfl
  try rw [hX2]
  clear hX2
  obtain ⟨al, a0, a1, a2, a3, -⟩ := HA.out
  go_wp2_with fail
  refine (tvalid_any T _ HT.out).mono ?_
  rintro e w1 ⟨rfl, hb1⟩
  have HA1 := Lib.hid (HA.out.low hb1)
  have HB1 := Lib.hid (HB.out.low hb1)
  have HR1 := Lib.hid (HR.out.low hb1)
  have HT1 := Lib.hid (HT.out.low hb1)
  have HS1 := Lib.hid (HS.out.low hb1)
  have HL1 := Lib.hid (below_next HBL.out hb1)
  clear HA HB HR HT HS HBL hb1 al a0 a1 a2 a3
  cases hv1 : T.valid
  · have HV := Lib.hid (btw_no1 (S := S) hv1)
    have HYS := Lib.hid (cell4_put w1 HR1.out (.string ⟨#[]⟩) (.slice none 0 0) (.slice none 0 0) (.slice none 0 0))
    obtain ⟨rl, r0, r1, r2, r3, rf⟩ := HR1.out
    go_wp2
    obtain ⟨-, s0, s1, s2, s3, -⟩ := HYS.out
    exact bodyPost_ret (v := .tuple #[.agg #[.string ⟨#[]⟩, .slice none 0 0, .slice none 0 0, .slice none 0 0], .bool false]) (by simp [results, Tryz.results23, go_sem, s0, s1, s2, s3]) rfl
      (zero_post HV.out ((((HL1.out.setCell (by show w.heap.size ≤ w.heap.size + 2; omega) _).setCell (by show w.heap.size ≤ w.heap.size + 2; omega) _).setCell (by show w.heap.size ≤ w.heap.size + 2; omega) _).setCell (by show w.heap.size ≤ w.heap.size + 2; omega) _))
  obtain ⟨bl, b0, b1, b2, b3, -⟩ := HB1.out
  go_wp2_with fail
  refine (tvalid_any S _ HS1.out).mono ?_
  rintro e w2 ⟨rfl, hb2⟩
  have HA2 := Lib.hid (HA1.out.low hb2)
  have HB2 := Lib.hid (HB1.out.low hb2)
  have HR2 := Lib.hid (HR1.out.low hb2)
  have HT2 := Lib.hid (HT1.out.low hb2)
  have HS2 := Lib.hid (HS1.out.low hb2)
  have HL2 := Lib.hid (below_next HL1.out hb2)
  clear HA1 HB1 HR1 HT1 HS1 HL1 hb2 bl b0 b1 b2 b3
  cases hv2 : S.valid
  · have HV := Lib.hid (btw_no2 (T := T) hv2)
    have HYS := Lib.hid (cell4_put w2 HR2.out (.string ⟨#[]⟩) (.slice none 0 0) (.slice none 0 0) (.slice none 0 0))
    obtain ⟨rl, r0, r1, r2, r3, rf⟩ := HR2.out
    go_wp2
    obtain ⟨-, s0, s1, s2, s3, -⟩ := HYS.out
    exact bodyPost_ret (v := .tuple #[.agg #[.string ⟨#[]⟩, .slice none 0 0, .slice none 0 0, .slice none 0 0], .bool false]) (by simp [results, Tryz.results23, go_sem, s0, s1, s2, s3]) rfl
      (zero_post HV.out ((((HL2.out.setCell (by show w.heap.size ≤ w.heap.size + 2; omega) _).setCell (by show w.heap.size ≤ w.heap.size + 2; omega) _).setCell (by show w.heap.size ≤ w.heap.size + 2; omega) _).setCell (by show w.heap.size ≤ w.heap.size + 2; omega) _))
  obtain ⟨al, a0, a1, a2, a3, -⟩ := HA2.out
  obtain ⟨bl, b0, b1, b2, b3, -⟩ := HB2.out
  go_wp2_with fail
  refine (dsameschema_any T.nm S.nm T.pc S.pc T.n S.n T.f S.f T.cc S.cc _ HT2.out.n HT2.out.cols HS2.out.cols).mono ?_
  rintro e w3 ⟨rfl, hb3⟩
  have HA3 := Lib.hid (HA2.out.low hb3)
  have HB3 := Lib.hid (HB2.out.low hb3)
  have HR3 := Lib.hid (HR2.out.low hb3)
  have HT3 := Lib.hid (HT2.out.low hb3)
  have HS3 := Lib.hid (HS2.out.low hb3)
  have HL3 := Lib.hid (below_next HL2.out hb3)
  clear HA2 HB2 HR2 HT2 HS2 HL2 hb3 al a0 a1 a2 a3 bl b0 b1 b2 b3
  obtain ⟨sb, hsb⟩ : ∃ b, (eqT T.nm S.nm && sameCols T.n T.f S.n S.f) = b := ⟨_, rfl⟩
  rw [hsb]
  have HSB := Lib.hid hsb
  clear hsb
  cases sb
  · have HV := Lib.hid (btw_no3 HSB.out)
    have HYS := Lib.hid (cell4_put w3 HR3.out (.string ⟨#[]⟩) (.slice none 0 0) (.slice none 0 0) (.slice none 0 0))
    obtain ⟨rl, r0, r1, r2, r3, rf⟩ := HR3.out
    go_wp2
    obtain ⟨-, s0, s1, s2, s3, -⟩ := HYS.out
    exact bodyPost_ret (v := .tuple #[.agg #[.string ⟨#[]⟩, .slice none 0 0, .slice none 0 0, .slice none 0 0], .bool false]) (by simp [results, Tryz.results23, go_sem, s0, s1, s2, s3]) rfl
      (zero_post HV.out ((((HL3.out.setCell (by show w.heap.size ≤ w.heap.size + 2; omega) _).setCell (by show w.heap.size ≤ w.heap.size + 2; omega) _).setCell (by show w.heap.size ≤ w.heap.size + 2; omega) _).setCell (by show w.heap.size ≤ w.heap.size + 2; omega) _))
  obtain ⟨al, a0, a1, a2, a3, -⟩ := HA3.out
  obtain ⟨bl, b0, b1, b2, b3, -⟩ := HB3.out
  obtain ⟨rl, r0, r1, r2, r3, rf⟩ := HR3.out
  by_cases hnx : S.nx < T.nx
  · have hnd : decide (S.nx < T.nx) = true := decide_eq_true hnx
    have HV := Lib.hid (btw_no4 hnx)
    have HYS := Lib.hid (cell4_put w3 HR3.out (.string ⟨#[]⟩) (.slice none 0 0) (.slice none 0 0) (.slice none 0 0))
    go_wp2
    obtain ⟨-, s0, s1, s2, s3, -⟩ := HYS.out
    exact bodyPost_ret (v := .tuple #[.agg #[.string ⟨#[]⟩, .slice none 0 0, .slice none 0 0, .slice none 0 0], .bool false]) (by simp [results, Tryz.results23, go_sem, s0, s1, s2, s3]) rfl
      (zero_post HV.out ((((HL3.out.setCell (by show w.heap.size ≤ w.heap.size + 2; omega) _).setCell (by show w.heap.size ≤ w.heap.size + 2; omega) _).setCell (by show w.heap.size ≤ w.heap.size + 2; omega) _).setCell (by show w.heap.size ≤ w.heap.size + 2; omega) _))
  · have hnd : decide (S.nx < T.nx) = false := decide_eq_false hnx
    have HV := Lib.hid (btw_yes hv1 hv2 HSB.out hnx)
    clear hnx
    go_wp2_with fail
    refine (merge_any T S _ HT3.out HS3.out hv1 hv2 hcap).mono ?_
    rintro e w4 ⟨E, rfl, hE, hb4, hcs⟩
    have HE := Lib.hid hE
    have HR4 := Lib.hid (HR3.out.low hb4)
    have HL4 := Lib.hid (below_next HL3.out hb4)
    have HYS := Lib.hid (cell4_put w4 HR4.out (.string E.nm) (.slice E.pi E.I.length E.ci) (.slice E.pd E.D.length E.cd) (.slice E.pu E.U.length E.cu))
    have HCS := Lib.hid hcs
    have hXs : w.heap.size + 2 < w3.heap.size := HR3.out.lt
    clear hE hb4 hcs HA3 HB3 HR3 HT3 HS3 HL3 al a0 a1 a2 a3 bl b0 b1 b2 b3 rl r0 r1 r2 r3 rf
    obtain ⟨rl, r0, r1, r2, r3, rf⟩ := HR4.out
    go_wp2
    obtain ⟨-, s0, s1, s2, s3, -⟩ := HYS.out
    refine bodyPost_ret (v := .tuple #[.agg #[.string E.nm, .slice E.pi E.I.length E.ci, .slice E.pd E.D.length E.cd, .slice E.pu E.U.length E.cu], .bool (newB T.nx T.R S.R)]) (by simp [results, Tryz.results23, go_sem, s0, s1, s2, s3]) rfl
      ⟨E, by rw [HV.out], HE.out.to (by omega) (by rw [set_size, set_size, set_size, set_size]; exact Nat.le_refl _) (fun k h1 _ => four_sets (by omega)), (((HL4.out.setCell (by show w.heap.size ≤ w.heap.size + 2; omega) _).setCell (by show w.heap.size ≤ w.heap.size + 2; omega) _).setCell (by show w.heap.size ≤ w.heap.size + 2; omega) _).setCell (by show w.heap.size ≤ w.heap.size + 2; omega) _, ?_⟩
    rw [HV.out]
    exact HCS.out
end Go.Proofs.YtlnbpobipmejfaaGreatDoor
/-
  Rows and Empty of package delta; known of the law.
-/
namespace Go.Proofs.YtlnbpobipmejfaaGreatDoor
set_option maxRecDepth 100000
open Go.RowKit
variable {ls : List Nat}

set_option maxHeartbeats 2000000 in
theorem drows_any (nm : ByteArray) (pi pd pu : Option Addr) (n1 n2 n3 c1 c2 c3 : Nat) (ev : Int) (w : World) :
    Calls Tryz.prog 16 #[.agg #[.string nm, .slice pi n1 c1, .slice pd n2 c2, .slice pu n3 c3], .int .i64 ev] w fun e w' => e = .returned (.int .i64 (if ev = 1 then n1 else if ev = 2 then n3 else if ev = 3 then n2 else 0)) ∧ Below w.heap.size w w' := by
  have HX := Lib.hid (cell4_new w (.string nm) (.slice pi n1 c1) (.slice pd n2 c2) (.slice pu n3 c3) 25)
  have HB := Lib.hid (below_alloc w (.cells #[.string nm, .slice pi n1 c1, .slice pd n2 c2, .slice pu n3 c3] 25))
  go_enter Tryz.func16, Tryz.ntmps16
  go_upto_region 1 with (fail)
  generalize World.alloc _ _ = W0 at HX HB ⊢
  obtain ⟨xl, x0, x1, x2, x3, -⟩ := HX.out
  by_cases h1 : ev = 1
  · subst h1
    go_wp2
    exact bodyPost_ret (v := .int .i64 n1) (by simp [results, Tryz.results16, go_sem]) rfl ⟨rfl, HB.out⟩
  by_cases h2 : ev = 2
  · subst h2
    go_wp2
    exact bodyPost_ret (v := .int .i64 n3) (by simp [results, Tryz.results16, go_sem]) rfl ⟨rfl, HB.out⟩
  by_cases h3 : ev = 3
  · subst h3
    go_wp2
    exact bodyPost_ret (v := .int .i64 n2) (by simp [results, Tryz.results16, go_sem]) rfl ⟨rfl, HB.out⟩
  have e1 : (ev == 1) = false := by simpa using h1
  have e2 : (ev == 2) = false := by simpa using h2
  have e3 : (ev == 3) = false := by simpa using h3
  go_wp2
  exact bodyPost_ret (v := .int .i64 0) (by simp [results, Tryz.results16, go_sem]) rfl ⟨by first | rfl | rw [if_neg h1, if_neg h2, if_neg h3]; rfl, HB.out⟩
theorem nat_zero_eq (n : Nat) : ((n : Int) == 0) = (n == 0) := by
  cases n with
  | zero => rfl
  | succ n => exact (beq_eq_false_iff_ne.2 (by omega)).trans (beq_eq_false_iff_ne.2 (by omega)).symm
set_option maxHeartbeats 2000000 in
theorem dempty_any (nm : ByteArray) (pi pd pu : Option Addr) (n1 n2 n3 c1 c2 c3 : Nat) (w : World) :
    Calls Tryz.prog 14 #[.agg #[.string nm, .slice pi n1 c1, .slice pd n2 c2, .slice pu n3 c3]] w fun e w' => e = .returned (.bool (n1 == 0 && n2 == 0 && n3 == 0)) ∧ Below w.heap.size w w' := by
  have HX := Lib.hid (cell4_new w (.string nm) (.slice pi n1 c1) (.slice pd n2 c2) (.slice pu n3 c3) 25)
  have HB := Lib.hid (below_alloc w (.cells #[.string nm, .slice pi n1 c1, .slice pd n2 c2, .slice pu n3 c3] 25))
  go_enter Tryz.func14, Tryz.ntmps14
  go_upto_region 1 with (fail)
  generalize World.alloc _ _ = W0 at HX HB ⊢
  obtain ⟨xl, x0, x1, x2, x3, -⟩ := HX.out
  obtain ⟨b1, h1⟩ : ∃ b, (n1 == 0) = b := ⟨_, rfl⟩
  obtain ⟨b2, h2⟩ : ∃ b, (n2 == 0) = b := ⟨_, rfl⟩
  obtain ⟨b3, h3⟩ : ∃ b, (n3 == 0) = b := ⟨_, rfl⟩
  have e1 : ((n1 : Int) == 0) = b1 := (nat_zero_eq n1).trans h1
  have e2 : ((n2 : Int) == 0) = b2 := (nat_zero_eq n2).trans h2
  have e3 : ((n3 : Int) == 0) = b3 := (nat_zero_eq n3).trans h3
  cases b1 <;> cases b2 <;> cases b3
  all_goals
    go_wp2
    exact bodyPost_ret (by simp [results, Tryz.results14, go_sem]; rfl) rfl ⟨by first | rfl | (rw [h1, h2, h3]; rfl), HB.out⟩
abbrev nulls8 : Obj := .cells #[.int .i64 0, .int .i64 0, .string ⟨#[]⟩, .int .i64 0, .int .i64 0, .string ⟨#[]⟩] 55
def nullL : List Val := [(0, 0, ⟨#[]⟩), (0, 0, ⟨#[]⟩)]
theorem null_row (u : World) : RowAt (u.alloc nulls8) (some ⟨u.heap.size, 0, none⟩) nullL := by
  intro j hj
  have hj2 : j < 2 := hj
  obtain rfl | rfl : j = 0 ∨ j = 1 := by omega
  all_goals
    refine ⟨u.heap.size, 0, rfl, by simp, ?_, ?_, ?_⟩
    all_goals go_simp; rfl
theorem one_row {u : World} {p : Addr} {c : Nat} (id : Int) {l : List Val} (hr : RowAt u (some p) l) (hs : l.length * 32 ≤ 140737488355328) : TRowsAt (u.alloc (.cells #[.int .i64 id, .slice (some p) l.length c] 58)) (some ⟨u.heap.size, 0, none⟩) [(id, l)] := by
  intro i hi
  obtain rfl : i = 0 := by simpa using hi
  refine ⟨u.heap.size, 0, some p, c, rfl, by simp, ?_, ?_, hr.low (below_alloc _ _), hs, fun h => by cases h⟩
  · go_simp; rfl
  · go_simp; rfl
def logT (Z c : Nat) (nx : Int) (g : Nat) (id : Int) : Tab := ⟨⟨#[108, 111, 103]⟩, some ⟨Z, 0, none⟩, 2, c, colLog, nx, some ⟨g, 0, none⟩, 1, [(id, nullL)]⟩
theorem log_btw (Z c g h : Nat) : btwO (logT Z c 2 g 1) (logT Z c 3 h 2) = true := by
  show btwO ⟨⟨#[108, 111, 103]⟩, none, 2, 0, colLog, 2, none, 1, [(1, nullL)]⟩ ⟨⟨#[108, 111, 103]⟩, none, 2, 0, colLog, 3, none, 1, [(2, nullL)]⟩ = true
  decide +kernel
theorem null_sized : ValsSized nullL := fun i hi => by
  have hi2 : i < 2 := hi
  obtain rfl | rfl : i = 0 ∨ i = 1 := by omega
  all_goals decide
theorem log_tab {u : World} {Z c g : Nat} {nx id : Int} (hC : ColsAt u (some ⟨Z, 0, none⟩) 2 colLog) (hR : TRowsAt u (some ⟨g, 0, none⟩) [(id, nullL)]) (hn : nx ≤ 9223372036854775807) : TabAt u (logT Z c nx g id) :=
  ⟨by show (⟨#[108, 111, 103]⟩ : ByteArray).size ≤ 9223372036854775807; decide, by show 2 ≤ 9223372036854775807; decide, hC, hR, by show 1 ≤ 1000; decide, fun r hr => by
    obtain rfl := List.mem_singleton.1 hr
    exact null_sized, hn⟩
set_option maxHeartbeats 2000000 in
theorem known8_any (w : World) : Calls Tryz.prog 4 #[] w fun e w' => e = .returned (.bool true) ∧ Below w.heap.size w w' := by
  go_enter Tryz.func4, Tryz.ntmps4
  go_wp2_with fail
  refine (schemaLog_any _).mono ?_
  rintro e w1 ⟨Z, rfl, hZ, -, hb1⟩
  unfold schV
  have hbn := below_alloc w1 (.cells #[.string ⟨#[108, 111, 103]⟩, .slice (some ⟨Z, 0, none⟩) 2 2] 28)
  have HX := Lib.hid (cell2_new w1 (.string ⟨#[108, 111, 103]⟩) (.slice (some ⟨Z, 0, none⟩) 2 2) 28)
  have HC := Lib.hid (hZ.low hbn)
  have HB := Lib.hid (below_next hb1 hbn)
  clear hb1 hZ hbn
  go_upto_region 2 with (fail)
  generalize World.alloc _ _ = W1 at HX HC HB ⊢
  generalize w1.heap.size = X at HX ⊢
  have hbn := below_alloc W1 nulls8
  have HN := Lib.hid (null_row W1)
  have HX1 := Lib.hid (HX.out.low hbn)
  have HC1 := Lib.hid (HC.out.low hbn)
  have HB1 := Lib.hid (below_next HB.out hbn)
  clear HX HC HB hbn
  go_upto_region 3 with (fail)
  generalize World.alloc _ _ = W2 at HN HX1 HC1 HB1 ⊢
  generalize W1.heap.size = V at HN ⊢
  obtain ⟨xl, x0, x1, -⟩ := HX1.out
  have hn1 := below_alloc W2 (.cells #[.int .i64 1, .slice (some ⟨V, 0, none⟩) 2 2] 58)
  have hn2 := below_alloc (W2.alloc (.cells #[.int .i64 1, .slice (some ⟨V, 0, none⟩) 2 2] 58)) (.cells #[.int .i64 2, .slice (some ⟨V, 0, none⟩) 2 2] 58)
  have hr1 := (one_row (c := 2) 1 HN.out (by decide)).low hn2
  have hr2 := one_row (c := 2) 2 (HN.out.low hn1) (by decide)
  rw [size_alloc] at hr2
  have HC3 := Lib.hid ((HC1.out.low hn1).low hn2)
  have HT := Lib.hid (log_tab (c := 2) (nx := 2) HC3.out hr1 (by decide))
  have HS := Lib.hid (log_tab (c := 2) (nx := 3) HC3.out hr2 (by decide))
  have HB3 := Lib.hid (below_next (below_next HB1.out hn1) hn2)
  clear hn1 hn2 hr1 hr2 HC3 HC1
  go_wp2_with fail
  refine (between_any (logT Z 2 2 W2.heap.size 1) (logT Z 2 3 (W2.heap.size + 1) 2) _ HT.out HS.out (Nat.le_refl 1)).mono ?_
  rintro e w5 ⟨E, rfl, -, hb5, hr⟩
  have hb := log_btw Z 2 W2.heap.size (W2.heap.size + 1)
  have hE : E.I.length = 1 ∧ E.D.length = 1 ∧ E.U.length = 0 := by
    rcases hr with ⟨-, -, h1, h2, h3⟩ | ⟨h, -⟩
    · rw [h1, h2, h3]
      exact ⟨rfl, rfl, rfl⟩
    · rw [hb] at h; cases h
  rw [hb, hE.1, hE.2.1, hE.2.2]
  have HB5 := Lib.hid (below_next (below_next HB3.out hb5) (below_alloc w5 (.cells #[.string E.nm, .slice E.pi 1 E.ci, .slice E.pd 1 E.cd, .slice E.pu 0 E.cu] 25)))
  have HD5 := Lib.hid (cell4_new w5 (.string E.nm) (.slice E.pi 1 E.ci) (.slice E.pd 1 E.cd) (.slice E.pu 0 E.cu) 25)
  clear hb hr hE HB3 HT HS hb5 xl x0 x1 HX1 HN HB1
  go_upto_region 4 with (fail)
  generalize World.alloc _ _ = W5 at HB5 HD5 ⊢
  generalize w5.heap.size = Y at HD5 ⊢
  obtain ⟨yl, y0, y1, y2, y3, -⟩ := HD5.out
  go_wp2_with fail
  refine (drows_any E.nm E.pi E.pd E.pu 1 1 0 E.ci E.cd E.cu 1 _).mono ?_
  rintro e w6 ⟨he, hb6⟩
  obtain rfl : e = .returned (.int .i64 1) := he
  have HB6 := Lib.hid (below_next HB5.out hb6)
  have HD6 := Lib.hid (HD5.out.low hb6)
  clear HB5 HD5 hb6 yl y0 y1 y2 y3
  obtain ⟨yl, y0, y1, y2, y3, -⟩ := HD6.out
  go_wp2_with fail
  refine (drows_any E.nm E.pi E.pd E.pu 1 1 0 E.ci E.cd E.cu 3 _).mono ?_
  rintro e w7 ⟨he, hb7⟩
  obtain rfl : e = .returned (.int .i64 1) := he
  have HB7 := Lib.hid (below_next HB6.out hb7)
  have HD7 := Lib.hid (HD6.out.low hb7)
  clear HB6 HD6 hb7 yl y0 y1 y2 y3
  obtain ⟨yl, y0, y1, y2, y3, -⟩ := HD7.out
  go_wp2_with fail
  refine (drows_any E.nm E.pi E.pd E.pu 1 1 0 E.ci E.cd E.cu 2 _).mono ?_
  rintro e w8 ⟨he, hb8⟩
  obtain rfl : e = .returned (.int .i64 0) := he
  have HB8 := Lib.hid (below_next HB7.out hb8)
  have HD8 := Lib.hid (HD7.out.low hb8)
  clear HB7 HD7 hb8 yl y0 y1 y2 y3
  obtain ⟨yl, y0, y1, y2, y3, -⟩ := HD8.out
  go_wp2_with fail
  refine (dempty_any E.nm E.pi E.pd E.pu 1 1 0 E.ci E.cd E.cu _).mono ?_
  rintro e w9 ⟨he, hb9⟩
  obtain rfl : e = .returned (.bool false) := he
  have HB9 := Lib.hid (below_next HB8.out hb9)
  clear HB8 HD8 hb9
  go_wp2
  exact bodyPost_ret (v := .bool true) (by simp [results, Tryz.results4, go_sem]) rfl ⟨rfl, HB9.out⟩
end Go.Proofs.YtlnbpobipmejfaaGreatDoor
/-
  CompareRows of the program, with the draws: what a sort asks of its comparison.
-/
namespace Go.Proofs.YtlnbpobipmejfaaGreatDoor
set_option maxRecDepth 100000
open Go.RowKit

/-- What was there is as it was, and no draw is taken back. -/
structure Gro (w w' : World) : Prop where
  low : Below w.heap.size w w'
  draws : w.drawn ≤ w'.drawn
theorem Gro.refl (w : World) : Gro w w := ⟨Below.refl _ _, Nat.le_refl _⟩
theorem Gro.trans {a b c : World} (h : Gro a b) (k : Gro b c) : Gro a c := ⟨h.low.trans (k.low.mono h.low.size), Nat.le_trans h.draws k.draws⟩
theorem Gro.alloc {a b : World} (h : Gro a b) (o : Obj) : Gro a (b.alloc o) := ⟨h.low.alloc h.low.size o, h.draws⟩
theorem Gro.drew {a b : World} (h : Gro a b) : Gro a b.drew := ⟨h.low.drew, Nat.le_trans h.draws (Nat.le_succ _)⟩
theorem Gro.of_alloc {a b : World} {o : Obj} (h : Gro (a.alloc o) b) : Gro a b := ((Gro.refl a).alloc o).trans h
/-- Such a world is the old one after some draws, with blocks behind it. -/
theorem Gro.eq {w w' : World} (h : Gro w w') : ∃ q os, w' = Go.Sort.grow (w.drewN q) os := by
  refine ⟨w'.drawn - w.drawn, w'.heap.extract w.heap.size w'.heap.size, ?_⟩
  have hd : w.drawn + (w'.drawn - w.drawn) = w'.drawn := Nat.add_sub_of_le h.draws
  have hh : w.heap ++ w'.heap.extract w.heap.size w'.heap.size = w'.heap := by
    apply Array.ext_getElem?
    intro i
    have hs := h.low.size
    by_cases hi : i < w.heap.size
    · rw [Array.getElem?_append_left hi, h.low.block i hi]
    · rw [Array.getElem?_append_right (by omega), Array.getElem?_extract]
      by_cases hj : i < w'.heap.size
      · rw [if_pos (by omega), show w.heap.size + (i - w.heap.size) = i by omega]
      · rw [if_neg (by omega), Array.getElem?_eq_none (by omega)]
  have h1 := h.low.os
  have h2 := h.low.tape
  have h3 := h.low.output
  cases w
  cases w'
  simp only [Go.Sort.grow, World.drewN] at *
  subst h1 h2 h3
  rw [hd, hh]

set_option maxRecDepth 100000 in
set_option maxHeartbeats 400000 in
theorem compareG_any (k n : Int) (s : ByteArray) (k' n' : Int) (s' : ByteArray) (w : World) :
    Calls Tryz.prog 92 #[.agg #[.int .i64 k, .int .i64 n, .string s], .agg #[.int .i64 k', .int .i64 n', .string s']] w fun e w' => e = .returned (.int .i64 (cmpV k n s k' n' s')) ∧ Gro w w' := by
  obtain ⟨W, hW, hb, hz, c0, c1, c2, d0, d1, d2⟩ := two_boxes w (.int .i64 k) (.int .i64 n) (.string s) (.int .i64 k') (.int .i64 n') (.string s') 55
  have hg : Gro w W := by rw [hW]; exact ((Gro.refl w).alloc _).alloc _
  have HZ := Lib.hid hz
  clear hz hb
  go_enter Tryz.func92, Tryz.ntmps92
  have HW := Lib.hid hW
  clear hW
  go_wp2_with fail
  rw [← HW.out]
  clear HW
  go_still_tail 15, (by kernel_rfl)
  still_call (Tryz.cmp_Compare_int _ _ _)
  repeat still_step
  still_call (cmp64_any _ _ _)
  repeat still_step
  still_call (Tryz.strings_Compare _ _ _)
  try refine wpStill_nil ?_
  have hz := HZ.out
  clear c0 c1 c2 d0 d1 d2 HZ
  have hb' : Gro w W.drew := hg.drew
  have hz' : W.drew.heap.size = w.heap.size + 2 := hz
  change wpList _ _ _ _ _ W.drew
  generalize W.drew = W2 at hb' hz'
  clear hg hz W
  go_wp2_with fail
  refine (or3_any (w.heap.size + 2) 3 (Lib.compareInt k k') (Lib.compareInt n n') (Lib.compareBytes s.data.toList s'.data.toList) _ ?_ ?_ ?_).mono ?_
  · rw [← hz']; go_simp
  · rw [← hz']; go_simp
  · rw [← hz']; go_simp
  rintro e w3 ⟨rfl, rfl⟩
  go_wp2
  go_ret
  exact ⟨rfl, hb'.alloc _⟩

set_option maxHeartbeats 1000000 in
theorem comparefuncG_any (p q : Option Addr) (a b : List Val) (ca cb : Nat) (w : World) (hla : a.length ≤ 9223372036854775807) (hlb : b.length ≤ 9223372036854775807) (ha : RowAt w p a) (hb : RowAt w q b) :
    Calls Tryz.prog 91 #[.slice p a.length ca, .slice q b.length cb, .func (.func 92) #[] #[]] w fun e w' => e = .returned (.int .i64 (cmpRow a b)) ∧ Gro w w' := by
  go_enter Tryz.func91, Tryz.ntmps91
  go_wp2
  go_loopw [7, 8, 9, 10, 13] (fun _ _ _ _ i wr => ∃ k : Nat, k ≤ a.length ∧ k ≤ b.length ∧ i = .int .i64 k ∧ cmpRow (a.drop k) (b.drop k) = cmpRow a b ∧ Gro w wr) (fun _ _ _ _ i _ => a.length - (intOf i).toNat)
  case atStart => exact ⟨0, by omega, by omega, rfl, rfl, Gro.refl _⟩
  case round =>
    obtain ⟨k, hk, hk', rfl, hcmp, hB⟩ := hrel
    have hA1 := ha.low hB.low
    have hB1 := hb.low hB.low
    have HC := Lib.hid hcmp
    clear hcmp
    by_cases hlt : k < a.length
    · by_cases hlt' : k < b.length
      · obtain ⟨c, o, rfl, hc, x0, x1, x2⟩ := hA1 k hlt
        obtain ⟨c', o', rfl, hc', y0, y1, y2⟩ := hB1 k hlt'
        go_wp2_with fail
        refine (compareG_any _ _ _ _ _ _ _).mono ?_
        rintro e w2 ⟨rfl, hb2⟩
        have hB2 := hB.trans hb2.of_alloc.of_alloc
        clear hb2 x0 x1 x2 y0 y1 y2 hA1 hB1 hc hc' hB ha hb
        by_cases hz : cmpVal (vAt a k) (vAt b k) = 0
        · have hz' : (cmpV (vAt a k).1 (vAt a k).2.1 (vAt a k).2.2 (vAt b k).1 (vAt b k).2.1 (vAt b k).2.2 != 0) = false := by
            rw [bne_eq_false_iff_eq]; exact hz
          have HS := Lib.hid ((cmpRow_step hlt hlt' hz).trans HC.out)
          clear hz
          go_wp2
          go_roundw
          case rel => exact ⟨k + 1, by omega, by omega, by go_num, HS.out, hB2⟩
          case measure => simp [intOf]; omega
        · have hz' : (cmpV (vAt a k).1 (vAt a k).2.1 (vAt a k).2.2 (vAt b k).1 (vAt b k).2.1 (vAt b k).2.2 != 0) = true := by
            rw [bne_iff_ne]; exact hz
          have HS := Lib.hid ((cmpRow_stop hlt hlt' hz).trans HC.out)
          clear hz
          go_wp2
          go_ret
          exact ⟨ret_i HS.out, hB2⟩
      · obtain ⟨c, o, rfl, hc, x0, x1, x2⟩ := hA1 k hlt
        have HS := Lib.hid ((cmpRow_long hlt (by omega)).symm.trans HC.out)
        have hB2 := hB.alloc (.cells #[.int .i64 (vAt a k).1, .int .i64 (vAt a k).2.1, .string (vAt a k).2.2] 55)
        go_wp2
        go_ret
        exact ⟨ret_i HS.out, hB2⟩
    · by_cases hlt' : k < b.length
      · have HS := Lib.hid ((cmpRow_short (by omega) hlt').symm.trans HC.out)
        go_wp2
        go_ret
        exact ⟨ret_i HS.out, hB⟩
      · have HS := Lib.hid ((cmpRow_end (by omega) (by omega)).symm.trans HC.out)
        go_wp2
        go_ret
        exact ⟨ret_i HS.out, hB⟩

set_option maxHeartbeats 1000000 in
theorem comparerowsG_any (p q : Option Addr) (a b : List Val) (ca cb : Nat) (w : World) (hla : a.length ≤ 9223372036854775807) (hlb : b.length ≤ 9223372036854775807) (ha : RowAt w p a) (hb : RowAt w q b) :
    Calls Tryz.prog 77 #[.slice p a.length ca, .slice q b.length cb] w fun e w' => e = .returned (.int .i64 (cmpRow a b)) ∧ Gro w w' := by
  go_enter Tryz.func77, Tryz.ntmps77
  go_wp2_with fail
  refine (comparefuncG_any p q a b ca cb _ hla hlb ha hb).mono ?_
  rintro e w2 ⟨rfl, hb2⟩
  go_wp2
  go_ret
  exact ⟨rfl, hb2⟩
end Go.Proofs.YtlnbpobipmejfaaGreatDoor
/-
  DERIVED: THE SHELF's CONTRACTS AT THIS DUMP, IN PLAIN WORDS (tools/lay-plain.mjs out of 'TryzSortLay.lean', which tools/lay-shelf.mjs wrote): THE SAME DECLARATIONS UNDER THE SAME NAMES: 'import', 'namespace', 'open', 'def', 'theorem' AND NOTHING ELSE: no command of the shelf's: FOR A HAND-IN. Each laying: the table of numbers ('.._ren') and one theorem, a field a fact of the dump's own or the kernel's comparison; each contract: ONE APPLICATION.
-/
namespace Go.Proofs
open Go.Shelf
def Tryz.sortL_ren : Go.Shelf.Ren := ⟨fun | 6 => 76 | 15 => 90 | 14 => 89 | 28 => 106 | 29 => 107 | 20 => 98 | 21 => 99 | 22 => 100 | 23 => 101 | 24 => 102 | 25 => 103 | 26 => 104 | 27 => 105 | 46 => 112 | 47 => 113 | 48 => 114 | 49 => 115 | 50 => 116 | 57 => 120 | n => n, fun | 22 => 43 | 24 => 56 | 25 => 72 | 3 => 3 | 39 => 119 | 0 => 0 | 53 => 131 | 55 => 133 | 4 => 4 | 46 => 124 | 45 => 123 | 50 => 128 | 5 => 5 | 9 => 9 | 66 => 136 | 70 => 140 | 76 => 143 | 77 => 144 | n => n, fun | n => n⟩
theorem Tryz.sortL : Go.Proofs.SlLaysF.n6 Tryz.prog Tryz.sortL_ren := {
  mixed := by kernel_rfl
  f6 := ⟨Tryz.f76.name, by decide, Tryz.func76.trans (congrArg some (by kernel_rfl))⟩
  f14 := ⟨Tryz.f89.name, by decide, Tryz.func89.trans (congrArg some (by kernel_rfl))⟩
  f15 := Tryz.func90.trans (congrArg some (by kernel_rfl))
  f20 := ⟨Tryz.f98.name, by decide, Tryz.func98.trans (congrArg some (by kernel_rfl))⟩
  f21 := ⟨Tryz.f99.name, by decide, Tryz.func99.trans (congrArg some (by kernel_rfl))⟩
  f22 := ⟨Tryz.f100.name, by decide, Tryz.func100.trans (congrArg some (by kernel_rfl))⟩
  f23 := ⟨Tryz.f101.name, by decide, Tryz.func101.trans (congrArg some (by kernel_rfl))⟩
  f24 := ⟨Tryz.f102.name, by decide, Tryz.func102.trans (congrArg some (by kernel_rfl))⟩
  f25 := ⟨Tryz.f103.name, by decide, Tryz.func103.trans (congrArg some (by kernel_rfl))⟩
  f26 := ⟨Tryz.f104.name, by decide, Tryz.func104.trans (congrArg some (by kernel_rfl))⟩
  f27 := ⟨Tryz.f105.name, by decide, Tryz.func105.trans (congrArg some (by kernel_rfl))⟩
  f28 := Tryz.func106.trans (congrArg some (by kernel_rfl))
  f29 := Tryz.func107.trans (congrArg some (by kernel_rfl))
  f46 := ⟨Tryz.f112.name, by decide, Tryz.func112.trans (congrArg some (by kernel_rfl))⟩
  f47 := Tryz.func113.trans (congrArg some (by kernel_rfl))
  f48 := Tryz.func114.trans (congrArg some (by kernel_rfl))
  f49 := ⟨Tryz.f115.name, by decide, Tryz.func115.trans (congrArg some (by kernel_rfl))⟩
  f50 := ⟨Tryz.f116.name, by decide, Tryz.func116.trans (congrArg some (by kernel_rfl))⟩
  f57 := ⟨Tryz.f120.name, by decide, Tryz.func120.trans (congrArg some (by kernel_rfl))⟩
  t0 := Tryz.underlying0
  a0 := Tryz.isAgg0
  z0 := Tryz.sizeOf0
  v0 := Tryz.zeroValue0
  t3 := Tryz.underlying3
  a3 := Tryz.isAgg3
  z3 := Tryz.sizeOf3
  v3 := Tryz.zeroValue3
  t4 := Tryz.underlying4
  a4 := Tryz.isAgg4
  z4 := Tryz.sizeOf4
  v4 := Tryz.zeroValue4
  t5 := Tryz.underlying5
  a5 := Tryz.isAgg5
  z5 := Tryz.sizeOf5
  v5 := Tryz.zeroValue5
  t9 := Tryz.underlying9
  a9 := Tryz.isAgg9
  z9 := Tryz.sizeOf9
  v9 := Tryz.zeroValue9
  t22 := Tryz.underlying43
  a22 := Tryz.isAgg43
  z22 := Tryz.sizeOf43
  v22 := Tryz.zeroValue43
  a24 := Tryz.isAgg56
  z24 := Tryz.sizeOf56
  t25 := Tryz.underlying72
  a25 := Tryz.isAgg72
  z25 := Tryz.sizeOf72
  v25 := Tryz.zeroValue72
  t39 := Tryz.underlying119
  a39 := Tryz.isAgg119
  z39 := Tryz.sizeOf119
  v39 := Tryz.zeroValue119
  t45 := Tryz.underlying123
  a45 := Tryz.isAgg123
  z45 := Tryz.sizeOf123
  v45 := Tryz.zeroValue123
  t46 := Tryz.underlying124
  a46 := Tryz.isAgg124
  z46 := Tryz.sizeOf124
  v46 := Tryz.zeroValue124
  t50 := Tryz.underlying128
  a50 := Tryz.isAgg128
  z50 := Tryz.sizeOf128
  v50 := Tryz.zeroValue128
  t53 := Tryz.underlying131
  a53 := Tryz.isAgg131
  z53 := Tryz.sizeOf131
  v53 := Tryz.zeroValue131
  t55 := Tryz.underlying133
  a55 := Tryz.isAgg133
  z55 := Tryz.sizeOf133
  v55 := Tryz.zeroValue133
  t66 := Tryz.underlying136
  a66 := Tryz.isAgg136
  z66 := Tryz.sizeOf136
  v66 := Tryz.zeroValue136
  t70 := Tryz.underlying140
  a70 := Tryz.isAgg140
  z70 := Tryz.sizeOf140
  v70 := Tryz.zeroValue140
  t76 := Tryz.underlying143
  a76 := Tryz.isAgg143
  z76 := Tryz.sizeOf143
  v76 := Tryz.zeroValue143
  t77 := Tryz.underlying144
  a77 := Tryz.isAgg144
  z77 := Tryz.sizeOf144
  v77 := Tryz.zeroValue144 }
end Go.Proofs
