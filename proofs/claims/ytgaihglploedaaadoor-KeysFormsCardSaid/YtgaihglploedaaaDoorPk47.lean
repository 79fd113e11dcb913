/-
  Several texts in one.
-/
import Derived.Test.YtgaihglploedaaaDoorPk41
import Derived.Test.YtgaihglploedaaaDoorPk45
import Derived.Test.YtgaihglploedaaaDoorPk39
import Derived.Test.YtgaihglploedaaaDoorPk46
/-
  KeysForms: Valid and Apply of package keys return what the chapter says, for all tables and changes: the walk.
-/
namespace Go.Proofs.YtgaihglploedaaaDoor
set_option maxRecDepth 100000
open Go.RowKit
variable {ls : List Nat}

/-- The state of the law: the tables and changes. -/
structure KfW (ls : List Nat) (b Z : Nat) (w : World) (RT : Tab) (RC : Chg) (T : Tab) (C : Chg) (u : World) : Prop where
  wd : Wd ls b w u
  rt : TabAt w RT
  rc : ChgAt w RC
  t : Tb b Z u T
  c : Cb b u C
  len : T.R.length ≤ 20
section
variable {b Z X Y : Nat} {w u v : World} {RT T S : Tab} {RC C : Chg}
theorem KfW.step (h : KfW ls b Z w RT RC T C u) (hs : StepT b u v) (hw : Wd ls b w v) : KfW ls b Z w RT RC T C v := ⟨hw, h.rt, h.rc, h.t.step hs, h.c.step hs, h.len⟩
theorem KfW.low (h : KfW ls b Z w RT RC T C u) (hb : Below u.heap.size u v) : KfW ls b Z w RT RC T C v := ⟨h.wd.low hb, h.rt, h.rc, h.t.low hb, h.c.low hb, h.len⟩
theorem KfW.aRT (h : KfW ls b Z w RT RC T C u) : TabAt u RT := h.rt.low h.wd.bel
theorem KfW.aRC (h : KfW ls b Z w RT RC T C u) : ChgAt u RC := h.rc.low h.wd.bel
theorem KfW.aT (h : KfW ls b Z w RT RC T C u) : TabAt u T := h.t.at
theorem KfW.aC (h : KfW ls b Z w RT RC T C u) : ChgAt u C := h.c.at
theorem KfW.spoiled (h : KfW ls b Z w RT RC T C u) :
    Calls Tryd.prog 50 #[.pointer (some ⟨b, 0, none⟩), .agg #[.slice C.pi C.I.length C.ci, .slice C.pd C.D.length C.cd, .slice C.pu C.U.length C.cu]] u fun e v => ∃ D : Chg, e = .returned (.agg #[.slice D.pi D.I.length D.ci, .slice D.pd D.D.length D.cd, .slice D.pu D.U.length D.cu]) ∧ ChgAt v D ∧ Wd ls b w v ∧ StepT b u v :=
  (spoiled7_any b u h.wd.tape C h.c.all (Nat.le_trans h.c.i (by decide)) h.c.d h.c.u).mono fun _ _ ⟨D, he, h1, ht, hs⟩ => ⟨D, he, h1, h.wd.step hs ht, hs⟩
theorem KfW.spoiledT (h : KfW ls b Z w RT RC T C u) (hlw : 1 ∈ ls) :
    Calls Tryd.prog 35 #[.pointer (some ⟨b, 0, none⟩), .agg #[.string T.nm, .slice T.pc T.n T.cc, .int .i64 T.nx, .slice T.pr T.R.length T.cr]] u fun e v => ∃ S : Tab, e = .returned (.agg #[.string S.nm, .slice S.pc S.n S.cc, .int .i64 S.nx, .slice S.pr S.R.length S.cr]) ∧ TabAt v S ∧ Wd ls b w v ∧ StepT b u v := h.wd.spoiledT hlw h.t h.len
theorem KfW.tableOf (h : KfW ls b Z w RT RC T C u) (hlw : 1 ∈ ls) :
    Calls Tryd.prog 32 #[.pointer (some ⟨b, 0, none⟩), .agg #[.string T.nm, .slice T.pc T.n T.cc], .int .i64 4] u fun e v => ∃ S : Tab, e = .returned (.agg #[.string S.nm, .slice S.pc S.n S.cc, .int .i64 S.nx, .slice S.pr S.R.length S.cr]) ∧ Tb b Z v S ∧ Wd ls b w v ∧ StepT b u v :=
  (h.wd.tableOfT hlw h.t 4 (by decide)).mono fun _ _ ⟨S, he, h1, _, _, _, _, h2, h3⟩ => ⟨S, he, h1, h2, h3⟩
theorem KfW.changeOf (h : KfW ls b Z w RT RC T C u) (hlw : 1 ∈ ls) (k : Tb b Z u S) :
    Calls Tryd.prog 48 #[.pointer (some ⟨b, 0, none⟩), .agg #[.string S.nm, .slice S.pc S.n S.cc, .int .i64 S.nx, .slice S.pr S.R.length S.cr]] u fun e v => ∃ D : Chg, e = .returned (.agg #[.slice D.pi D.I.length D.ci, .slice D.pd D.D.length D.cd, .slice D.pu D.U.length D.cu]) ∧ ChgAt v D ∧ Wd ls b w v ∧ StepT b u v :=
  (h.wd.changeOf hlw k).mono fun _ _ ⟨D, he, h1, h2, h3⟩ => ⟨D, he, h1.at, h2, h3⟩
theorem cell4_to {a0 a1 a2 a3 : Value} (hn : X ≠ b) (hs : StepT b u v) (h : u.cell? ⟨X, 0, none⟩ = some a0 ∧ u.cell? ⟨X, 1, none⟩ = some a1 ∧ u.cell? ⟨X, 2, none⟩ = some a2 ∧ u.cell? ⟨X, 3, none⟩ = some a3 ∧ X < u.heap.size) :
    v.cell? ⟨X, 0, none⟩ = some a0 ∧ v.cell? ⟨X, 1, none⟩ = some a1 ∧ v.cell? ⟨X, 2, none⟩ = some a2 ∧ v.cell? ⟨X, 3, none⟩ = some a3 ∧ X < v.heap.size := by
  obtain ⟨h0, h1, h2, h3, hl⟩ := h
  exact ⟨by rw [hs.cell (by exact hl) (by exact hn)]; exact h0, by rw [hs.cell (by exact hl) (by exact hn)]; exact h1, by rw [hs.cell (by exact hl) (by exact hn)]; exact h2, by rw [hs.cell (by exact hl) (by exact hn)]; exact h3, Nat.lt_of_lt_of_le hl hs.size⟩
theorem cell3_to {a0 a1 a2 : Value} (hn : X ≠ b) (hs : StepT b u v) (h : u.cell? ⟨X, 0, none⟩ = some a0 ∧ u.cell? ⟨X, 1, none⟩ = some a1 ∧ u.cell? ⟨X, 2, none⟩ = some a2 ∧ X < u.heap.size) :
    v.cell? ⟨X, 0, none⟩ = some a0 ∧ v.cell? ⟨X, 1, none⟩ = some a1 ∧ v.cell? ⟨X, 2, none⟩ = some a2 ∧ X < v.heap.size := by
  obtain ⟨h0, h1, h2, hl⟩ := h
  exact ⟨by rw [hs.cell (by exact hl) (by exact hn)]; exact h0, by rw [hs.cell (by exact hl) (by exact hn)]; exact h1, by rw [hs.cell (by exact hl) (by exact hn)]; exact h2, Nat.lt_of_lt_of_le hl hs.size⟩
theorem keepKf {X0 X1 : Nat} {a0 a1 a2 a3 c0 c1 c2 d0 d1 d2 d3 e0 e1 e2 : Value} (n0 : X0 ≠ b) (n1 : X1 ≠ b) (n2 : X ≠ b) (n3 : Y ≠ b) (hs : StepT b u v) (hw : Wd ls b w v)
    (h : (u.cell? ⟨X0, 0, none⟩ = some a0 ∧ u.cell? ⟨X0, 1, none⟩ = some a1 ∧ u.cell? ⟨X0, 2, none⟩ = some a2 ∧ u.cell? ⟨X0, 3, none⟩ = some a3 ∧ X0 < u.heap.size)
      ∧ (u.cell? ⟨X1, 0, none⟩ = some c0 ∧ u.cell? ⟨X1, 1, none⟩ = some c1 ∧ u.cell? ⟨X1, 2, none⟩ = some c2 ∧ X1 < u.heap.size)
      ∧ (u.cell? ⟨X, 0, none⟩ = some d0 ∧ u.cell? ⟨X, 1, none⟩ = some d1 ∧ u.cell? ⟨X, 2, none⟩ = some d2 ∧ u.cell? ⟨X, 3, none⟩ = some d3 ∧ X < u.heap.size)
      ∧ (u.cell? ⟨Y, 0, none⟩ = some e0 ∧ u.cell? ⟨Y, 1, none⟩ = some e1 ∧ u.cell? ⟨Y, 2, none⟩ = some e2 ∧ Y < u.heap.size)
      ∧ KfW ls b Z w RT RC T C u) :
    (v.cell? ⟨X0, 0, none⟩ = some a0 ∧ v.cell? ⟨X0, 1, none⟩ = some a1 ∧ v.cell? ⟨X0, 2, none⟩ = some a2 ∧ v.cell? ⟨X0, 3, none⟩ = some a3 ∧ X0 < v.heap.size)
      ∧ (v.cell? ⟨X1, 0, none⟩ = some c0 ∧ v.cell? ⟨X1, 1, none⟩ = some c1 ∧ v.cell? ⟨X1, 2, none⟩ = some c2 ∧ X1 < v.heap.size)
      ∧ (v.cell? ⟨X, 0, none⟩ = some d0 ∧ v.cell? ⟨X, 1, none⟩ = some d1 ∧ v.cell? ⟨X, 2, none⟩ = some d2 ∧ v.cell? ⟨X, 3, none⟩ = some d3 ∧ X < v.heap.size)
      ∧ (v.cell? ⟨Y, 0, none⟩ = some e0 ∧ v.cell? ⟨Y, 1, none⟩ = some e1 ∧ v.cell? ⟨Y, 2, none⟩ = some e2 ∧ Y < v.heap.size)
      ∧ KfW ls b Z w RT RC T C v := by
  obtain ⟨h0, h1, h2, h3, h4⟩ := h
  exact ⟨cell4_to n0 hs h0, cell3_to n1 hs h1, cell4_to n2 hs h2, cell3_to n3 hs h3, h4.step hs hw⟩
theorem keepKb {X0 X1 : Nat} {a0 a1 a2 a3 c0 c1 c2 d0 d1 d2 d3 e0 e1 e2 : Value} (n0 : X0 ≠ b) (n1 : X1 ≠ b) (n2 : X ≠ b) (n3 : Y ≠ b) (hb : Below u.heap.size u v)
    (h : (u.cell? ⟨X0, 0, none⟩ = some a0 ∧ u.cell? ⟨X0, 1, none⟩ = some a1 ∧ u.cell? ⟨X0, 2, none⟩ = some a2 ∧ u.cell? ⟨X0, 3, none⟩ = some a3 ∧ X0 < u.heap.size)
      ∧ (u.cell? ⟨X1, 0, none⟩ = some c0 ∧ u.cell? ⟨X1, 1, none⟩ = some c1 ∧ u.cell? ⟨X1, 2, none⟩ = some c2 ∧ X1 < u.heap.size)
      ∧ (u.cell? ⟨X, 0, none⟩ = some d0 ∧ u.cell? ⟨X, 1, none⟩ = some d1 ∧ u.cell? ⟨X, 2, none⟩ = some d2 ∧ u.cell? ⟨X, 3, none⟩ = some d3 ∧ X < u.heap.size)
      ∧ (u.cell? ⟨Y, 0, none⟩ = some e0 ∧ u.cell? ⟨Y, 1, none⟩ = some e1 ∧ u.cell? ⟨Y, 2, none⟩ = some e2 ∧ Y < u.heap.size)
      ∧ KfW ls b Z w RT RC T C u) :
    (v.cell? ⟨X0, 0, none⟩ = some a0 ∧ v.cell? ⟨X0, 1, none⟩ = some a1 ∧ v.cell? ⟨X0, 2, none⟩ = some a2 ∧ v.cell? ⟨X0, 3, none⟩ = some a3 ∧ X0 < v.heap.size)
      ∧ (v.cell? ⟨X1, 0, none⟩ = some c0 ∧ v.cell? ⟨X1, 1, none⟩ = some c1 ∧ v.cell? ⟨X1, 2, none⟩ = some c2 ∧ X1 < v.heap.size)
      ∧ (v.cell? ⟨X, 0, none⟩ = some d0 ∧ v.cell? ⟨X, 1, none⟩ = some d1 ∧ v.cell? ⟨X, 2, none⟩ = some d2 ∧ v.cell? ⟨X, 3, none⟩ = some d3 ∧ X < v.heap.size)
      ∧ (v.cell? ⟨Y, 0, none⟩ = some e0 ∧ v.cell? ⟨Y, 1, none⟩ = some e1 ∧ v.cell? ⟨Y, 2, none⟩ = some e2 ∧ Y < v.heap.size)
      ∧ KfW ls b Z w RT RC T C v := keepKf n0 n1 n2 n3 (step_low hb) (h.2.2.2.2.wd.low hb) h
end
set_option maxHeartbeats 16000000 in
theorem kforms_walk (w : World) (RT : Tab) (RC : Chg) (p : Option Addr) (len cap : Nat) (hl : len ≤ cap) (hm : len ≤ 9223372036854775807) (h : IntsAt w p len) (hE : Env ls w) (hlw : 1 ∈ ls) (hRl : RT.R.length ≤ 9223372036854775807) (hRT : RT.R.length ≤ 1000 → TabAt w RT) (hCl : RC.I.length ≤ 9223372036854775807) (hRC : RC.I.length ≤ 1000 → ChgAt w RC) :
    Calls Tryd.prog 10 #[.agg #[.string RT.nm, .slice RT.pc RT.n RT.cc, .int .i64 RT.nx, .slice RT.pr RT.R.length RT.cr], .agg #[.slice RC.pi RC.I.length RC.ci, .slice RC.pd RC.D.length RC.cd, .slice RC.pu RC.U.length RC.cu], .slice p len cap] w fun e w' => e = .returned (.bool true) ∧ Below w.heap.size w w' := by
  have HX := Lib.hid ((cell4_new w (.string RT.nm) (.slice RT.pc RT.n RT.cc) (.int .i64 RT.nx) (.slice RT.pr RT.R.length RT.cr) 51).low (below_alloc (w.alloc _) (.cells #[.slice RC.pi RC.I.length RC.ci, .slice RC.pd RC.D.length RC.cd, .slice RC.pu RC.U.length RC.cu] 79)))
  have HY := Lib.hid ((cell3_new (w.alloc (.cells #[.string RT.nm, .slice RT.pc RT.n RT.cc, .int .i64 RT.nx, .slice RT.pr RT.R.length RT.cr] 51)) (.slice RC.pi RC.I.length RC.ci) (.slice RC.pd RC.D.length RC.cd) (.slice RC.pu RC.U.length RC.cu) 79).at (size_alloc _ _))
  have HB := Lib.hid (below_new (below_new (Below.refl w.heap.size w) (.cells #[.string RT.nm, .slice RT.pc RT.n RT.cc, .int .i64 RT.nx, .slice RT.pr RT.R.length RT.cr] 51)) (.cells #[.slice RC.pi RC.I.length RC.ci, .slice RC.pd RC.D.length RC.cd, .slice RC.pu RC.U.length RC.cu] 79))
  have HI := Lib.hid (h.low HB.out)
  have HE := Lib.hid (hE.low HB.out)
  have HRT := Lib.hid hRT
  have HRC := Lib.hid hRC
  clear h hE hRT hRC
  go_enter Tryd.func10, Tryd.ntmps10
  go_upto_region 1 with (fail)
  generalize World.alloc _ _ = W0 at HX HY HB HI HE ⊢
  obtain ⟨xl, x0, x1, x2, x3, -⟩ := HX.out
  obtain ⟨yl, y0, y1, y2, -⟩ := HY.out
  by_cases h30 : 30 < RT.R.length
  · have hd : decide ((30 : Int) < RT.R.length) = true := decide_eq_true (by omega)
    have hdn : decide (30 < RT.R.length) = true := decide_eq_true h30
    clear h30
    go_wp2_with fail
    refine (known7_any _).mono ?_
    rintro e w1 ⟨rfl, hb1⟩
    have HB1 := Lib.hid (below_next HB.out hb1)
    go_wp2
    exact bodyPost_ret (v := .bool true) (by simp [results, Tryd.results10, go_sem]) rfl ⟨rfl, HB1.out⟩
  have hd : decide ((30 : Int) < RT.R.length) = false := decide_eq_false (by omega)
  have hdn : decide (30 < RT.R.length) = false := decide_eq_false h30
  by_cases h31 : 30 < RC.I.length
  · have hc : decide ((30 : Int) < RC.I.length) = true := decide_eq_true (by omega)
    have hcn : decide (30 < RC.I.length) = true := decide_eq_true h31
    clear h31 h30
    go_wp2_with fail
    refine (known7_any _).mono ?_
    rintro e w1 ⟨rfl, hb1⟩
    have HB1 := Lib.hid (below_next HB.out hb1)
    go_wp2
    exact bodyPost_ret (v := .bool true) (by simp [results, Tryd.results10, go_sem]) rfl ⟨rfl, HB1.out⟩
  have hc : decide ((30 : Int) < RC.I.length) = false := decide_eq_false (by omega)
  have hcn : decide (30 < RC.I.length) = false := decide_eq_false h31
  have HT0 := Lib.hid (HRT.out (by omega))
  have HC0 := Lib.hid (HRC.out (by omega))
  clear h30 h31 HRT HRC
  go_wp2_with fail
  refine (wd_new (w := w) HE.out HB.out p len cap hl hm HI.out).mono ?_
  rintro e w1 ⟨b, rfl, hb0, hw1, hb1⟩
  have HW1 := Lib.hid hw1
  have HX1 := Lib.hid (HX.out.low hb1)
  have HY1 := Lib.hid (HY.out.low hb1)
  have hXb : w.heap.size ≠ b := by omega
  have hYb : w.heap.size + 1 ≠ b := by omega
  clear HI HE HX HY HB hb1 hw1 xl x0 x1 x2 x3 yl y0 y1 y2 hd hdn hc hcn
  go_wp2_with fail
  refine HW1.out.table.mono ?_
  rintro e w2 ⟨k, rfl, hk, hw2, hs2⟩
  have HW2 := Lib.hid hw2
  have HX2 := Lib.hid (HX1.out.step hs2 hXb)
  have HY2 := Lib.hid (HY1.out.step hs2 hYb)
  clear HW1 HX1 HY1 hw2 hs2
  go_wp2_with fail
  refine (HW2.out.schema k).mono ?_
  rintro e w3 ⟨Z, rfl, hZ, hw3, hb3⟩
  have HW3 := Lib.hid hw3
  have HZ3 := Lib.hid hZ
  have HX3 := Lib.hid (HX2.out.low hb3)
  have HY3 := Lib.hid (HY2.out.low hb3)
  clear HW2 HX2 HY2 hw3 hb3 hZ
  go_wp2_with fail
  refine (HW3.out.tableOf hlw HZ3.out 6 (by decide)).mono ?_
  rintro e w4 ⟨T, rfl, hTb, -, -, -, hlen, hw4, hs4⟩
  have hbn := below_alloc w4 (.cells #[.string T.nm, .slice T.pc T.n T.cc, .int .i64 T.nx, .slice T.pr T.R.length T.cr] 51)
  have HW5 := Lib.hid (hw4.low hbn)
  have HT5 := Lib.hid (hTb.low hbn)
  have HX5 := Lib.hid ((HX3.out.step hs4 hXb).low hbn)
  have HY5 := Lib.hid ((HY3.out.step hs4 hYb).low hbn)
  have HP5 := Lib.hid (cell4_new w4 (.string T.nm) (.slice T.pc T.n T.cc) (.int .i64 T.nx) (.slice T.pr T.R.length T.cr) 51)
  have hPb : w4.heap.size ≠ b := by have := hw4.tape.lt; omega
  clear HW3 HZ3 HX3 HY3 hTb hw4 hs4 hbn
  go_upto_region 5 with (fail)
  generalize World.alloc _ _ = w5 at HW5 HT5 HX5 HY5 HP5 ⊢
  generalize w4.heap.size = P at HP5 hPb ⊢
  obtain ⟨xl, x0, x1, x2, x3, -⟩ := HP5.out
  go_wp2_with fail
  refine (HW5.out.changeOf hlw HT5.out).mono ?_
  rintro e w6 ⟨C, rfl, hCb, hw6, hs6⟩
  have hbn := below_alloc w6 (.cells #[.slice C.pi C.I.length C.ci, .slice C.pd C.D.length C.cd, .slice C.pu C.U.length C.cu] 79)
  have HK7 : Hid (KfW ls b Z w RT RC T C (w6.alloc (.cells #[.slice C.pi C.I.length C.ci, .slice C.pd C.D.length C.cd, .slice C.pu C.U.length C.cu] 79))) := Lib.hid ⟨hw6.low hbn, HT0.out, HC0.out, (HT5.out.step hs6).low hbn, hCb.low hbn, (by omega)⟩
  have HX7 := Lib.hid ((HX5.out.step hs6 hXb).low hbn)
  have HY7 := Lib.hid ((HY5.out.step hs6 hYb).low hbn)
  have HP7 := Lib.hid ((HP5.out.step hs6 hPb).low hbn)
  have HQ7 := Lib.hid (cell3_new w6 (.slice C.pi C.I.length C.ci) (.slice C.pd C.D.length C.cd) (.slice C.pu C.U.length C.cu) 79)
  have hQb : w6.heap.size ≠ b := by have := hw6.tape.lt; omega
  clear HW5 HT5 HX5 HY5 HP5 hCb hw6 hs6 hbn xl x0 x1 x2 x3 HT0 HC0
  go_upto_region 6 with (fail)
  generalize World.alloc _ _ = w7 at HK7 HX7 HY7 HP7 HQ7 ⊢
  generalize w6.heap.size = Q at HQ7 hQb ⊢
  go_region_held3 (fun u => (u.cell? ⟨w.heap.size, 0, none⟩ = some (.string RT.nm) ∧ u.cell? ⟨w.heap.size, 1, none⟩ = some (.slice RT.pc RT.n RT.cc) ∧ u.cell? ⟨w.heap.size, 2, none⟩ = some (.int .i64 RT.nx) ∧ u.cell? ⟨w.heap.size, 3, none⟩ = some (.slice RT.pr RT.R.length RT.cr) ∧ w.heap.size < u.heap.size)
      ∧ (u.cell? ⟨w.heap.size + 1, 0, none⟩ = some (.slice RC.pi RC.I.length RC.ci) ∧ u.cell? ⟨w.heap.size + 1, 1, none⟩ = some (.slice RC.pd RC.D.length RC.cd) ∧ u.cell? ⟨w.heap.size + 1, 2, none⟩ = some (.slice RC.pu RC.U.length RC.cu) ∧ w.heap.size + 1 < u.heap.size)
      ∧ (u.cell? ⟨P, 0, none⟩ = some (.string T.nm) ∧ u.cell? ⟨P, 1, none⟩ = some (.slice T.pc T.n T.cc) ∧ u.cell? ⟨P, 2, none⟩ = some (.int .i64 T.nx) ∧ u.cell? ⟨P, 3, none⟩ = some (.slice T.pr T.R.length T.cr) ∧ P < u.heap.size)
      ∧ (u.cell? ⟨Q, 0, none⟩ = some (.slice C.pi C.I.length C.ci) ∧ u.cell? ⟨Q, 1, none⟩ = some (.slice C.pd C.D.length C.cd) ∧ u.cell? ⟨Q, 2, none⟩ = some (.slice C.pu C.U.length C.cu) ∧ Q < u.heap.size)
      ∧ KfW ls b Z w RT RC T C u)
    (first
      | exact ⟨HX7.out.conj, ⟨HY7.out.c0, HY7.out.c1, HY7.out.c2, HY7.out.lt⟩, HP7.out.conj, ⟨HQ7.out.c0, HQ7.out.c1, HQ7.out.c2, HQ7.out.lt⟩, HK7.out.low (Below.refl _ _).drew⟩
      | with_reducible exact keepKb hXb hYb hPb hQb hbq (by assumption)
      | with_reducible exact keepKf hXb hYb hPb hQb hsq hwq (by assumption))
    (first
      | (go_at_call 49; (with_reducible refine (alike7_any _ _ _ ?_ ?_).mono ?_); (go_split_ands; first | assumption | with_reducible exact KfW.aT (by assumption) | with_reducible exact KfW.aRT (by assumption)); (go_split_ands; first | assumption | with_reducible exact KfW.aC (by assumption) | with_reducible exact KfW.aRC (by assumption)); rintro e wq ⟨rfl, hbq⟩)
      | (go_at_call 50; (with_reducible refine (KfW.spoiled (ls := ls) (b := b) (Z := Z) (w := w) (RT := RT) (RC := RC) (T := T) (C := C) ?_).mono ?_); (go_split_ands; assumption); rintro e wq ⟨C3, rfl, hC3, hwq, hsq⟩)
      | (go_at_call 35; (with_reducible refine (KfW.spoiledT (ls := ls) (b := b) (Z := Z) (w := w) (RT := RT) (RC := RC) (T := T) (C := C) ?_ hlw).mono ?_); (go_split_ands; assumption); rintro e wq ⟨T3, rfl, hT3, hwq, hsq⟩)
      | (go_at_call 32; (with_reducible refine (KfW.tableOf (ls := ls) (b := b) (Z := Z) (w := w) (RT := RT) (RC := RC) (T := T) (C := C) ?_ hlw).mono ?_); (go_split_ands; assumption); rintro e wq ⟨T4, rfl, hT4, hwq, hsq⟩)
      | (go_at_call 48; (with_reducible refine (KfW.changeOf (ls := ls) (b := b) (Z := Z) (w := w) (RT := RT) (RC := RC) (T := T) (C := C) ?_ hlw ?_).mono ?_); (go_split_ands; assumption); (go_split_ands; assumption); rintro e wq ⟨C5, rfl, hC5, hwq, hsq⟩)
      | (go_at_call 47; with_reducible refine (known7_any _).mono ?_; rintro e wq ⟨rfl, hbq⟩))
  rename_i hHeld
  obtain ⟨-, -, -, -, hK9⟩ := hHeld
  have HB9 := Lib.hid hK9.wd.bel
  clear hK9 HK7 HX7 HY7 HP7 HQ7
  go_wp2
  exact bodyPost_ret (v := .bool true) (by simp [results, Tryd.results10, go_sem]) rfl ⟨rfl, HB9.out⟩
end Go.Proofs.YtgaihglploedaaaDoor
