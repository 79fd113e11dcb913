/-
  Several texts in one.
-/
import Derived.Test.YtlelgkgdppkedaaDoorPk36
import Derived.Test.YtlelgkgdppkedaaDoorPk13
import Derived.Test.YtlelgkgdppkedaaDoorPk33
import Derived.Test.YtlelgkgdppkedaaDoorPk39
/-
  Rows and Empty of package delta; known of the law.
-/
namespace Go.Proofs.YtlelgkgdppkedaaDoor
set_option maxRecDepth 100000
open Go.RowKit
variable {ls : List Nat}

set_option maxHeartbeats 2000000 in
theorem drows_any (nm : ByteArray) (pi pd pu : Option Addr) (n1 n2 n3 c1 c2 c3 : Nat) (ev : Int) (w : World) :
    Calls Tryd.prog 22 #[.agg #[.string nm, .slice pi n1 c1, .slice pd n2 c2, .slice pu n3 c3], .int .i64 ev] w fun e w' => e = .returned (.int .i64 (if ev = 1 then n1 else if ev = 2 then n3 else if ev = 3 then n2 else 0)) ∧ Below w.heap.size w w' := by
  have HX := Lib.hid (cell4_new w (.string nm) (.slice pi n1 c1) (.slice pd n2 c2) (.slice pu n3 c3) 41)
  have HB := Lib.hid (below_alloc w (.cells #[.string nm, .slice pi n1 c1, .slice pd n2 c2, .slice pu n3 c3] 41))
  go_enter Tryd.func22, Tryd.ntmps22
  go_upto_region 1 with (fail)
  generalize World.alloc _ _ = W0 at HX HB ⊢
  obtain ⟨xl, x0, x1, x2, x3, -⟩ := HX.out
  by_cases h1 : ev = 1
  · subst h1
    go_wp2
    exact bodyPost_ret (v := .int .i64 n1) (by simp [results, Tryd.results22, go_sem]) rfl ⟨rfl, HB.out⟩
  by_cases h2 : ev = 2
  · subst h2
    go_wp2
    exact bodyPost_ret (v := .int .i64 n3) (by simp [results, Tryd.results22, go_sem]) rfl ⟨rfl, HB.out⟩
  by_cases h3 : ev = 3
  · subst h3
    go_wp2
    exact bodyPost_ret (v := .int .i64 n2) (by simp [results, Tryd.results22, go_sem]) rfl ⟨rfl, HB.out⟩
  have e1 : (ev == 1) = false := by simpa using h1
  have e2 : (ev == 2) = false := by simpa using h2
  have e3 : (ev == 3) = false := by simpa using h3
  go_wp2
  exact bodyPost_ret (v := .int .i64 0) (by simp [results, Tryd.results22, go_sem]) rfl ⟨by first | rfl | rw [if_neg h1, if_neg h2, if_neg h3]; rfl, HB.out⟩
theorem nat_zero_eq (n : Nat) : ((n : Int) == 0) = (n == 0) := by
  cases n with
  | zero => rfl
  | succ n => exact (beq_eq_false_iff_ne.2 (by omega)).trans (beq_eq_false_iff_ne.2 (by omega)).symm
set_option maxHeartbeats 2000000 in
theorem dempty_any (nm : ByteArray) (pi pd pu : Option Addr) (n1 n2 n3 c1 c2 c3 : Nat) (w : World) :
    Calls Tryd.prog 19 #[.agg #[.string nm, .slice pi n1 c1, .slice pd n2 c2, .slice pu n3 c3]] w fun e w' => e = .returned (.bool (n1 == 0 && n2 == 0 && n3 == 0)) ∧ Below w.heap.size w w' := by
  have HX := Lib.hid (cell4_new w (.string nm) (.slice pi n1 c1) (.slice pd n2 c2) (.slice pu n3 c3) 41)
  have HB := Lib.hid (below_alloc w (.cells #[.string nm, .slice pi n1 c1, .slice pd n2 c2, .slice pu n3 c3] 41))
  go_enter Tryd.func19, Tryd.ntmps19
  go_upto_region 1 with (fail)
  generalize World.alloc _ _ = W0 at HX HB ⊢
  obtain ⟨xl, x0, x1, x2, x3, -⟩ := HX.out
  obtain ⟨b1, h1⟩ : ∃ b, (n1 == 0) = b := ⟨_, rfl⟩
  obtain ⟨b2, h2⟩ : ∃ b, (n2 == 0) = b := ⟨_, rfl⟩
  obtain ⟨b3, h3⟩ : ∃ b, (n3 == 0) = b := ⟨_, rfl⟩
  have e1 : ((n1 : Int) == 0) = b1 := (nat_zero_eq n1).trans h1
  have e2 : ((n2 : Int) == 0) = b2 := (nat_zero_eq n2).trans h2
  have e3 : ((n3 : Int) == 0) = b3 := (nat_zero_eq n3).trans h3
  cases b1 <;> cases b2 <;> cases b3
  all_goals
    go_wp2
    exact bodyPost_ret (by simp [results, Tryd.results19, go_sem]; rfl) rfl ⟨by first | rfl | (rw [h1, h2, h3]; rfl), HB.out⟩
abbrev nulls8 : Obj := .cells #[.int .i64 0, .int .i64 0, .string ⟨#[]⟩, .int .i64 0, .int .i64 0, .string ⟨#[]⟩] 57
def nullL : List Val := [(0, 0, ⟨#[]⟩), (0, 0, ⟨#[]⟩)]
theorem null_row (u : World) : RowAt (u.alloc nulls8) (some ⟨u.heap.size, 0, none⟩) nullL := by
  intro j hj
  have hj2 : j < 2 := hj
  obtain rfl | rfl : j = 0 ∨ j = 1 := by omega
  all_goals
    refine ⟨u.heap.size, 0, rfl, by simp, ?_, ?_, ?_⟩
    all_goals go_simp; rfl
theorem one_row {u : World} {p : Addr} {c : Nat} (id : Int) {l : List Val} (hr : RowAt u (some p) l) (hs : l.length * 32 ≤ 140737488355328) : TRowsAt (u.alloc (.cells #[.int .i64 id, .slice (some p) l.length c] 53)) (some ⟨u.heap.size, 0, none⟩) [(id, l)] := by
  intro i hi
  obtain rfl : i = 0 := by simpa using hi
  refine ⟨u.heap.size, 0, some p, c, rfl, by simp, ?_, ?_, hr.low (below_alloc _ _), hs, fun h => by cases h⟩
  · go_simp; rfl
  · go_simp; rfl
def logT (Z c : Nat) (nx : Int) (g : Nat) (id : Int) : Tab := ⟨⟨#[108, 111, 103]⟩, some ⟨Z, 0, none⟩, 2, c, colLog, nx, some ⟨g, 0, none⟩, 1, [(id, nullL)]⟩
theorem log_btw (Z c g h : Nat) : btwO (logT Z c 2 g 1) (logT Z c 3 h 2) = true := by
  show btwO ⟨⟨#[108, 111, 103]⟩, none, 2, 0, colLog, 2, none, 1, [(1, nullL)]⟩ ⟨⟨#[108, 111, 103]⟩, none, 2, 0, colLog, 3, none, 1, [(2, nullL)]⟩ = true
  decide +kernel
theorem null_sized : ValsSized nullL := fun i hi => by
  have hi2 : i < 2 := hi
  obtain rfl | rfl : i = 0 ∨ i = 1 := by omega
  all_goals decide
theorem log_tab {u : World} {Z c g : Nat} {nx id : Int} (hC : ColsAt u (some ⟨Z, 0, none⟩) 2 colLog) (hR : TRowsAt u (some ⟨g, 0, none⟩) [(id, nullL)]) (hn : nx ≤ 9223372036854775807) : TabAt u (logT Z c nx g id) :=
  ⟨by show (⟨#[108, 111, 103]⟩ : ByteArray).size ≤ 9223372036854775807; decide, by show 2 ≤ 9223372036854775807; decide, hC, hR, by show 1 ≤ 1000; decide, fun r hr => by
    obtain rfl := List.mem_singleton.1 hr
    exact null_sized, hn⟩
set_option maxHeartbeats 2000000 in
theorem known8_any (w : World) : Calls Tryd.prog 6 #[] w fun e w' => e = .returned (.bool true) ∧ Below w.heap.size w w' := by
  go_enter Tryd.func6, Tryd.ntmps6
  go_wp2_with fail
  refine (schemaLog_any _).mono ?_
  rintro e w1 ⟨Z, rfl, hZ, -, hb1⟩
  unfold schV
  have hbn := below_alloc w1 (.cells #[.string ⟨#[108, 111, 103]⟩, .slice (some ⟨Z, 0, none⟩) 2 2] 24)
  have HX := Lib.hid (cell2_new w1 (.string ⟨#[108, 111, 103]⟩) (.slice (some ⟨Z, 0, none⟩) 2 2) 24)
  have HC := Lib.hid (hZ.low hbn)
  have HB := Lib.hid (below_next hb1 hbn)
  clear hb1 hZ hbn
  go_upto_region 2 with (fail)
  generalize World.alloc _ _ = W1 at HX HC HB ⊢
  generalize w1.heap.size = X at HX ⊢
  have hbn := below_alloc W1 nulls8
  have HN := Lib.hid (null_row W1)
  have HX1 := Lib.hid (HX.out.low hbn)
  have HC1 := Lib.hid (HC.out.low hbn)
  have HB1 := Lib.hid (below_next HB.out hbn)
  clear HX HC HB hbn
  go_upto_region 3 with (fail)
  generalize World.alloc _ _ = W2 at HN HX1 HC1 HB1 ⊢
  generalize W1.heap.size = V at HN ⊢
  obtain ⟨xl, x0, x1, -⟩ := HX1.out
  have hn1 := below_alloc W2 (.cells #[.int .i64 1, .slice (some ⟨V, 0, none⟩) 2 2] 53)
  have hn2 := below_alloc (W2.alloc (.cells #[.int .i64 1, .slice (some ⟨V, 0, none⟩) 2 2] 53)) (.cells #[.int .i64 2, .slice (some ⟨V, 0, none⟩) 2 2] 53)
  have hr1 := (one_row (c := 2) 1 HN.out (by decide)).low hn2
  have hr2 := one_row (c := 2) 2 (HN.out.low hn1) (by decide)
  rw [size_alloc] at hr2
  have HC3 := Lib.hid ((HC1.out.low hn1).low hn2)
  have HT := Lib.hid (log_tab (c := 2) (nx := 2) HC3.out hr1 (by decide))
  have HS := Lib.hid (log_tab (c := 2) (nx := 3) HC3.out hr2 (by decide))
  have HB3 := Lib.hid (below_next (below_next HB1.out hn1) hn2)
  clear hn1 hn2 hr1 hr2 HC3 HC1
  go_wp2_with fail
  refine (between_any (logT Z 2 2 W2.heap.size 1) (logT Z 2 3 (W2.heap.size + 1) 2) _ HT.out HS.out (Nat.le_refl 1)).mono ?_
  rintro e w5 ⟨E, rfl, -, hb5, hr⟩
  have hb := log_btw Z 2 W2.heap.size (W2.heap.size + 1)
  have hE : E.I.length = 1 ∧ E.D.length = 1 ∧ E.U.length = 0 := by
    rcases hr with ⟨-, -, h1, h2, h3⟩ | ⟨h, -⟩
    · rw [h1, h2, h3]
      exact ⟨rfl, rfl, rfl⟩
    · rw [hb] at h; cases h
  rw [hb, hE.1, hE.2.1, hE.2.2]
  have HB5 := Lib.hid (below_next (below_next HB3.out hb5) (below_alloc w5 (.cells #[.string E.nm, .slice E.pi 1 E.ci, .slice E.pd 1 E.cd, .slice E.pu 0 E.cu] 41)))
  have HD5 := Lib.hid (cell4_new w5 (.string E.nm) (.slice E.pi 1 E.ci) (.slice E.pd 1 E.cd) (.slice E.pu 0 E.cu) 41)
  clear hb hr hE HB3 HT HS hb5 xl x0 x1 HX1 HN HB1
  go_upto_region 4 with (fail)
  generalize World.alloc _ _ = W5 at HB5 HD5 ⊢
  generalize w5.heap.size = Y at HD5 ⊢
  obtain ⟨yl, y0, y1, y2, y3, -⟩ := HD5.out
  go_wp2_with fail
  refine (drows_any E.nm E.pi E.pd E.pu 1 1 0 E.ci E.cd E.cu 1 _).mono ?_
  rintro e w6 ⟨he, hb6⟩
  obtain rfl : e = .returned (.int .i64 1) := he
  have HB6 := Lib.hid (below_next HB5.out hb6)
  have HD6 := Lib.hid (HD5.out.low hb6)
  clear HB5 HD5 hb6 yl y0 y1 y2 y3
  obtain ⟨yl, y0, y1, y2, y3, -⟩ := HD6.out
  go_wp2_with fail
  refine (drows_any E.nm E.pi E.pd E.pu 1 1 0 E.ci E.cd E.cu 3 _).mono ?_
  rintro e w7 ⟨he, hb7⟩
  obtain rfl : e = .returned (.int .i64 1) := he
  have HB7 := Lib.hid (below_next HB6.out hb7)
  have HD7 := Lib.hid (HD6.out.low hb7)
  clear HB6 HD6 hb7 yl y0 y1 y2 y3
  obtain ⟨yl, y0, y1, y2, y3, -⟩ := HD7.out
  go_wp2_with fail
  refine (drows_any E.nm E.pi E.pd E.pu 1 1 0 E.ci E.cd E.cu 2 _).mono ?_
  rintro e w8 ⟨he, hb8⟩
  obtain rfl : e = .returned (.int .i64 0) := he
  have HB8 := Lib.hid (below_next HB7.out hb8)
  have HD8 := Lib.hid (HD7.out.low hb8)
  clear HB7 HD7 hb8 yl y0 y1 y2 y3
  obtain ⟨yl, y0, y1, y2, y3, -⟩ := HD8.out
  go_wp2_with fail
  refine (dempty_any E.nm E.pi E.pd E.pu 1 1 0 E.ci E.cd E.cu _).mono ?_
  rintro e w9 ⟨he, hb9⟩
  obtain rfl : e = .returned (.bool false) := he
  have HB9 := Lib.hid (below_next HB8.out hb9)
  clear HB8 HD8 hb9
  go_wp2
  exact bodyPost_ret (v := .bool true) (by simp [results, Tryd.results6, go_sem]) rfl ⟨rfl, HB9.out⟩
end Go.Proofs.YtlelgkgdppkedaaDoor
/-
  DeltaLeads: applying the difference of two states to the first one gives the rows of the second one; there is no difference between a state and itself: the walk.
-/
namespace Go.Proofs.YtlelgkgdppkedaaDoor
set_option maxRecDepth 100000
open Go.RowKit
variable {ls : List Nat}

theorem btw_nx {b m : Nat} {u : World} {T S : Tab} (hT : T.valid = true) (h : Nx b T S m u) : btwO T S = true := by
  unfold btwO btwB
  rw [hT, h.tab.val, newB_of h.new, h.nm, h.n, h.f, sameCols_yes fun _ _ => rfl, decide_eq_true h.nx]
  simp [eqT]
theorem btw_self {T : Tab} (hT : T.valid = true) : btwO T T = true := by
  unfold btwO btwB
  rw [hT, newB_of (NewR.refl _ _), sameCols_yes fun _ _ => rfl, decide_eq_true (Int.le_refl _)]
  simp [eqT]
theorem dapp_lead {b j : Nat} {u : World} {A B : Tab} {E : Dlt} (hT : A.valid = true) (h : Nx b A B j u) (h0 : E.nm = A.nm) (h1 : E.I = insR A.R B.R) (h2 : E.D = delR A.R B.R) (h3 : E.U = updR A.R B.R) :
    ∃ m, dappN A E = some m ∧ dappR A E = B.R ∧ m ≤ B.nx := by
  have hv : validT A.nm A.n A.f B.nx B.R = true := by
    have := h.tab.val
    unfold Tab.valid at this
    rwa [h.nm, h.n, h.f] at this
  obtain ⟨g1, g2, g3, m, g4, g5, g6⟩ := lead_all hT hv h.new h.nx
  have hr : dappR A E = B.R := by unfold dappR; rw [h1, h2, h3]; exact g3
  refine ⟨m, dapp_yes ?_ (by rw [h1]; exact g4) (by rw [hr]; exact g5), hr, g6⟩
  unfold dappB
  rw [h0, h2, h3, g2, decide_eq_true g1]
  simp [eqT]
set_option maxHeartbeats 16000000 in
theorem dleads_walk (w : World) (p : Option Addr) (len cap : Nat) (hl : len ≤ cap) (hm : len ≤ 9223372036854775807) (h : IntsAt w p len) (hE : Env ls w) (hlw : 0 ∈ ls) :
    Calls Tryd.prog 5 #[.slice p len cap] w fun e w' => e = .returned (.bool true) ∧ Below w.heap.size w w' := by
  have HI := Lib.hid h
  have HE := Lib.hid hE
  clear h hE
  go_enter Tryd.func5, Tryd.ntmps5
  go_wp2_with fail
  refine (wd_new (w := w) HE.out (Below.refl _ _) p len cap hl hm HI.out).mono ?_
  rintro e w1 ⟨b, rfl, hb0, hw1, hb1⟩
  have HW1 := Lib.hid hw1
  clear HI HE hb1 hw1
  go_wp2_with fail
  refine HW1.out.table.mono ?_
  rintro e w2 ⟨k, rfl, hk, hw2, hs2⟩
  have HW2 := Lib.hid hw2
  clear HW1 hw2 hs2
  go_wp2_with fail
  refine (HW2.out.schema k).mono ?_
  rintro e w3 ⟨Z, rfl, hZ, hw3, hb3⟩
  have HW3 := Lib.hid hw3
  have HZ3 := Lib.hid hZ
  clear HW2 hw3 hb3 hZ
  go_wp2_with fail
  refine (HW3.out.tableOfD hlw HZ3.out 7 (by decide)).mono ?_
  rintro e w4 ⟨A, rfl, hTb, -, -, -, hlen, hw4, hs4⟩
  have hbn := below_alloc w4 (.cells #[.string A.nm, .slice A.pc A.n A.cc, .int .i64 A.nx, .slice A.pr A.R.length A.cr] 27)
  have HW5 := Lib.hid (hw4.low hbn)
  have HT5 := Lib.hid (hTb.low hbn)
  have HP5 := Lib.hid (cell4_new w4 (.string A.nm) (.slice A.pc A.n A.cc) (.int .i64 A.nx) (.slice A.pr A.R.length A.cr) 27)
  have hPb : w4.heap.size ≠ b := by have := hw4.tape.lt; omega
  clear HW3 HZ3 hTb hw4 hs4 hbn
  go_upto_region 3 with (fail)
  generalize World.alloc _ _ = w5 at HW5 HT5 HP5 ⊢
  generalize w4.heap.size = P at HP5 hPb ⊢
  obtain ⟨xl, x0, x1, x2, x3, -⟩ := HP5.out
  go_wp2_with fail
  refine (later_any b w _ A HW5.out hlw HT5.out (by omega)).mono ?_
  rintro e w6 ⟨B, rfl, hnx, hw6, hs6⟩
  have hbn := below_alloc w6 (.cells #[.string B.nm, .slice B.pc B.n B.cc, .int .i64 B.nx, .slice B.pr B.R.length B.cr] 27)
  have HW7 := Lib.hid (hw6.bel.trans (hbn.mono hw6.bel.size) : Below w.heap.size w _)
  have HN7 := Lib.hid (hnx.low hbn)
  have HT7 := Lib.hid ((HT5.out.step hs6).low hbn)
  have HP7 := Lib.hid ((HP5.out.step hs6 hPb).low hbn)
  have HQ7 := Lib.hid (cell4_new w6 (.string B.nm) (.slice B.pc B.n B.cc) (.int .i64 B.nx) (.slice B.pr B.R.length B.cr) 27)
  have hlB := hnx.len
  clear HW5 HT5 HP5 hnx hw6 hs6 hbn xl x0 x1 x2 x3
  go_upto_region 4 with (fail)
  generalize World.alloc _ _ = w7 at HW7 HN7 HT7 HP7 HQ7 ⊢
  generalize w6.heap.size = Q at HQ7 ⊢
  obtain ⟨xl, x0, x1, x2, x3, -⟩ := HP7.out
  obtain ⟨zl, z0, z1, z2, z3, -⟩ := HQ7.out
  go_wp2_with fail
  refine (between_any A B _ HT7.out.at HN7.out.tab.at HT7.out.cap).mono ?_
  rintro e w8 ⟨E, rfl, hf, hb8, hd⟩
  have hbt := btw_nx HT7.out.val HN7.out
  rw [hbt] at hd ⊢
  rcases hd with ⟨-, hEn, hEI, hED, hEU⟩ | ⟨h0, -⟩
  rotate_left
  · cases h0
  have hbn := below_alloc w8 (.cells #[.string E.nm, .slice E.pi E.I.length E.ci, .slice E.pd E.D.length E.cd, .slice E.pu E.U.length E.cu] 41)
  have HE9 := Lib.hid (hf.at.low hbn)
  have HW9 := Lib.hid (below_next (below_next HW7.out hb8) hbn)
  have HN9 := Lib.hid ((HN7.out.low hb8).low hbn)
  have HT9 := Lib.hid ((HT7.out.low hb8).low hbn)
  have HP9 := Lib.hid ((HP7.out.low hb8).low hbn)
  have HQ9 := Lib.hid ((HQ7.out.low hb8).low hbn)
  have HD9 := Lib.hid (cell4_new w8 (.string E.nm) (.slice E.pi E.I.length E.ci) (.slice E.pd E.D.length E.cd) (.slice E.pu E.U.length E.cu) 41)
  obtain ⟨m, hm1, hm2, hm3⟩ := dapp_lead HT9.out.val HN9.out hEn hEI hED hEU
  have hE1 : E.I.length ≤ 900 := by
    have h2 : E.I.length ≤ B.R.length := by rw [hEI]; exact List.length_filter_le _ _
    omega
  have hE2 : E.D.length ≤ 17592186044415 := by
    have h2 : E.D.length ≤ A.R.length := by rw [hED]; exact List.length_filter_le _ _
    omega
  clear HW7 HN7 HT7 HP7 HQ7 hbt hf hb8 hbn hEn hEI hED hEU xl x0 x1 x2 x3 zl z0 z1 z2 z3
  go_upto_region 5 with (fail)
  generalize World.alloc _ _ = w9 at HE9 HW9 HN9 HT9 HP9 HQ9 HD9 ⊢
  generalize w8.heap.size = F at HD9 ⊢
  obtain ⟨xl, x0, x1, x2, x3, -⟩ := HP9.out
  obtain ⟨fl, f0, f1, f2, f3, -⟩ := HD9.out
  go_wp2_with fail
  refine (dapply_any A E _ HT9.out.at HE9.out hE1 hE2).mono ?_
  rintro e w10 ⟨S, rfl, hS, hb10, hd⟩
  rw [hm1] at hd ⊢
  rcases hd with ⟨m', hmm, -, -, -, hSx, hSR⟩ | ⟨h0, -⟩
  rotate_left
  · cases h0
  obtain rfl : m = m' := Option.some.inj hmm
  have hbn := below_alloc w10 (.cells #[.string S.nm, .slice S.pc S.n S.cc, .int .i64 S.nx, .slice S.pr S.R.length S.cr] 27)
  have HW11 := Lib.hid (below_next (below_next HW9.out hb10) hbn)
  have HN11 := Lib.hid ((HN9.out.low hb10).low hbn)
  have HT11 := Lib.hid ((HT9.out.low hb10).low hbn)
  have HP11 := Lib.hid ((HP9.out.low hb10).low hbn)
  have HQ11 := Lib.hid ((HQ9.out.low hb10).low hbn)
  have HS11 := Lib.hid (hS.low hbn)
  have HC11 := Lib.hid (cell4_new w10 (.string S.nm) (.slice S.pc S.n S.cc) (.int .i64 S.nx) (.slice S.pr S.R.length S.cr) 27)
  have HSB : Hid (S.R = B.R) := Lib.hid (hSR.trans hm2)
  have hSn : S.nx ≤ B.nx := by omega
  clear HE9 HW9 HN9 HT9 HP9 HQ9 HD9 hS hb10 hbn hmm hSx hSR hm1 hm2 hm3 xl x0 x1 x2 x3 fl f0 f1 f2 f3
  go_upto_region 6 with (fail)
  generalize World.alloc _ _ = w11 at HW11 HN11 HT11 HP11 HQ11 HS11 HC11 ⊢
  generalize w10.heap.size = V at HC11 ⊢
  obtain ⟨xl, x0, x1, x2, x3, -⟩ := HP11.out
  go_wp2_with fail
  refine (between_any A A _ HT11.out.at HT11.out.at HT11.out.cap).mono ?_
  rintro e w12 ⟨F2, rfl, hf, hb12, hd⟩
  rw [btw_self HT11.out.val] at hd ⊢
  rcases hd with ⟨-, -, hEI, hED, hEU⟩ | ⟨h0, -⟩
  rotate_left
  · cases h0
  obtain ⟨hi, hdl, hu⟩ := diff_self (rows_up (validT_parts HT11.out.val).2.2.2.2.1)
  have hn1 : F2.I.length = 0 := by rw [hEI, hi]; rfl
  have hn2 : F2.D.length = 0 := by rw [hED, hdl]; rfl
  have hn3 : F2.U.length = 0 := by rw [hEU, hu]; rfl
  rw [hn1, hn2, hn3]
  have hbn := below_alloc w12 (.cells #[.string F2.nm, .slice F2.pi 0 F2.ci, .slice F2.pd 0 F2.cd, .slice F2.pu 0 F2.cu] 41)
  have HW13 := Lib.hid (below_next (below_next HW11.out hb12) hbn)
  have HQ13 := Lib.hid ((HQ11.out.low hb12).low hbn)
  have HC13 := Lib.hid ((HC11.out.low hb12).low hbn)
  have HS13 := Lib.hid ((HS11.out.low hb12).low hbn)
  have HB13 := Lib.hid ((HN11.out.tab.at.low hb12).low hbn)
  have HD13 := Lib.hid (cell4_new w12 (.string F2.nm) (.slice F2.pi 0 F2.ci) (.slice F2.pd 0 F2.cd) (.slice F2.pu 0 F2.cu) 41)
  clear HW11 HN11 HT11 HP11 HQ11 HS11 HC11 hf hb12 hbn hEI hED hEU hi hdl hu hn1 hn2 hn3 xl x0 x1 x2 x3
  go_upto_region 7 with (fail)
  generalize World.alloc _ _ = w13 at HW13 HQ13 HC13 HS13 HB13 HD13 ⊢
  generalize w12.heap.size = G at HD13 ⊢
  obtain ⟨gl, g0, g1, g2, g3, -⟩ := HD13.out
  go_wp2_with fail
  refine (dempty_any F2.nm F2.pi F2.pd F2.pu 0 0 0 F2.ci F2.cd F2.cu _).mono ?_
  rintro e w14 ⟨rfl, hb14⟩
  rw [show ((0 : Nat) == 0 && (0 : Nat) == 0 && (0 : Nat) == 0) = true from rfl]
  have HW14 := Lib.hid (below_next HW13.out hb14)
  have HQ14 := Lib.hid (HQ13.out.low hb14)
  have HC14 := Lib.hid (HC13.out.low hb14)
  have HS14 := Lib.hid (HS13.out.low hb14)
  have HB14 := Lib.hid (HB13.out.low hb14)
  clear HW13 HQ13 HC13 HS13 HB13 HD13 hb14 gl g0 g1 g2 g3
  obtain ⟨zl, z0, z1, z2, z3, -⟩ := HQ14.out
  obtain ⟨cl, c0, c1, c2, c3, -⟩ := HC14.out
  go_wp2_with fail
  refine (equalrows_any S.R B.R S.pr B.pr S.cr B.cr _ HS14.out.len HS14.out.rows HB14.out.rows).mono ?_
  rintro e w15 ⟨rfl, hb15⟩
  rw [decide_eq_true HSB.out]
  have HW15 := Lib.hid (below_next HW14.out hb15)
  have HQ15 := Lib.hid (HQ14.out.low hb15)
  have HC15 := Lib.hid (HC14.out.low hb15)
  clear HW14 HQ14 HC14 HS14 HB14 hb15 zl z0 z1 z2 z3 cl c0 c1 c2 c3
  obtain ⟨zl, z0, z1, z2, z3, -⟩ := HQ15.out
  obtain ⟨cl, c0, c1, c2, c3, -⟩ := HC15.out
  have hSd : decide (S.nx ≤ B.nx) = true := decide_eq_true hSn
  go_wp2_with fail
  refine (known8_any _).mono ?_
  rintro e w16 ⟨rfl, hb16⟩
  have HW16 := Lib.hid (below_next HW15.out hb16)
  go_wp2
  exact bodyPost_ret (v := .bool true) (by simp [results, Tryd.results5, go_sem]) rfl ⟨rfl, HW16.out⟩
end Go.Proofs.YtlelgkgdppkedaaDoor
