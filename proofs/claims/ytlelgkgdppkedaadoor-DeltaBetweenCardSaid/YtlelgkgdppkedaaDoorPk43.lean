/-
  Several texts in one.
-/
import Derived.Test.YtlelgkgdppkedaaDoorPk33
import Derived.Test.YtlelgkgdppkedaaDoorPk42
import Derived.Test.YtlelgkgdppkedaaDoorPk40
import Derived.Deep.RegionHeld3
/-
  DeltaBetween: Between of package delta returns what the chapter says, for all tables: the walk.
-/
namespace Go.Proofs.YtlelgkgdppkedaaDoor
set_option maxRecDepth 100000
open Go.RowKit
variable {ls : List Nat}

/-- The state of the law: the tables. -/
structure DbW (ls : List Nat) (b : Nat) (w : World) (RP RQ A B : Tab) (u : World) : Prop where
  wd : Wd ls b w u
  rp : TabAt w RP
  rq : TabAt w RQ
  ta : Td b u A
  tb : Td b u B
  la : A.R.length ≤ 20
  lb : B.R.length ≤ 20
section
variable {b : Nat} {w u v : World} {RP RQ A B S : Tab}
theorem DbW.step (h : DbW ls b w RP RQ A B u) (hs : StepT b u v) (hw : Wd ls b w v) : DbW ls b w RP RQ A B v := ⟨hw, h.rp, h.rq, h.ta.step hs, h.tb.step hs, h.la, h.lb⟩
theorem DbW.low (h : DbW ls b w RP RQ A B u) (hb : Below u.heap.size u v) : DbW ls b w RP RQ A B v := h.step (step_low hb) (h.wd.low hb)
theorem DbW.aRP (h : DbW ls b w RP RQ A B u) : TabAt u RP := h.rp.low h.wd.bel
theorem DbW.aRQ (h : DbW ls b w RP RQ A B u) : TabAt u RQ := h.rq.low h.wd.bel
theorem DbW.aA (h : DbW ls b w RP RQ A B u) : TabAt u A := h.ta.at
theorem DbW.aB (h : DbW ls b w RP RQ A B u) : TabAt u B := h.tb.at
theorem DbW.cA (h : DbW ls b w RP RQ A B u) : A.R.length ≤ A.cr := h.ta.cap
theorem DbW.cB (h : DbW ls b w RP RQ A B u) : B.R.length ≤ B.cr := h.tb.cap
theorem DbW.spA (h : DbW ls b w RP RQ A B u) (hlw : 0 ∈ ls) :
    Calls Tryd.prog 13 #[.pointer (some ⟨b, 0, none⟩), .agg #[.string A.nm, .slice A.pc A.n A.cc, .int .i64 A.nx, .slice A.pr A.R.length A.cr]] u fun e v => ∃ S : Tab, e = .returned (.agg #[.string S.nm, .slice S.pc S.n S.cc, .int .i64 S.nx, .slice S.pr S.R.length S.cr]) ∧ Ts b v S ∧ Wd ls b w v ∧ StepT b u v := h.wd.spoiledD hlw h.ta h.la
theorem DbW.spB (h : DbW ls b w RP RQ A B u) (hlw : 0 ∈ ls) :
    Calls Tryd.prog 13 #[.pointer (some ⟨b, 0, none⟩), .agg #[.string B.nm, .slice B.pc B.n B.cc, .int .i64 B.nx, .slice B.pr B.R.length B.cr]] u fun e v => ∃ S : Tab, e = .returned (.agg #[.string S.nm, .slice S.pc S.n S.cc, .int .i64 S.nx, .slice S.pr S.R.length S.cr]) ∧ Ts b v S ∧ Wd ls b w v ∧ StepT b u v := h.wd.spoiledD hlw h.tb h.lb
theorem DbW.tableOf (h : DbW ls b w RP RQ A B u) (hlw : 0 ∈ ls) :
    Calls Tryd.prog 8 #[.pointer (some ⟨b, 0, none⟩), .agg #[.string A.nm, .slice A.pc A.n A.cc], .int .i64 5] u fun e v => ∃ S : Tab, e = .returned (.agg #[.string S.nm, .slice S.pc S.n S.cc, .int .i64 S.nx, .slice S.pr S.R.length S.cr]) ∧ Ts b v S ∧ Wd ls b w v ∧ StepT b u v :=
  (h.wd.tableOfDT hlw h.ta 5 (by decide)).mono fun _ _ ⟨S, he, h1, _, _, _, _, h2, h3⟩ => ⟨S, he, h1.turned, h2, h3⟩
theorem cell4_toD {X : Nat} {a0 a1 a2 a3 : Value} (hn : X ≠ b) (hs : StepT b u v) (h : u.cell? ⟨X, 0, none⟩ = some a0 ∧ u.cell? ⟨X, 1, none⟩ = some a1 ∧ u.cell? ⟨X, 2, none⟩ = some a2 ∧ u.cell? ⟨X, 3, none⟩ = some a3 ∧ X < u.heap.size) :
    v.cell? ⟨X, 0, none⟩ = some a0 ∧ v.cell? ⟨X, 1, none⟩ = some a1 ∧ v.cell? ⟨X, 2, none⟩ = some a2 ∧ v.cell? ⟨X, 3, none⟩ = some a3 ∧ X < v.heap.size := by
  obtain ⟨h0, h1, h2, h3, hl⟩ := h
  exact ⟨by rw [hs.cell (by exact hl) (by exact hn)]; exact h0, by rw [hs.cell (by exact hl) (by exact hn)]; exact h1, by rw [hs.cell (by exact hl) (by exact hn)]; exact h2, by rw [hs.cell (by exact hl) (by exact hn)]; exact h3, Nat.lt_of_lt_of_le hl hs.size⟩
theorem keepDf {X0 X1 X2 X3 : Nat} {a00 a01 a02 a03 a10 a11 a12 a13 a20 a21 a22 a23 a30 a31 a32 a33 : Value} (n0 : X0 ≠ b) (n1 : X1 ≠ b) (n2 : X2 ≠ b) (n3 : X3 ≠ b) (hs : StepT b u v) (hw : Wd ls b w v)
    (h : (u.cell? ⟨X0, 0, none⟩ = some a00 ∧ u.cell? ⟨X0, 1, none⟩ = some a01 ∧ u.cell? ⟨X0, 2, none⟩ = some a02 ∧ u.cell? ⟨X0, 3, none⟩ = some a03 ∧ X0 < u.heap.size)
      ∧ (u.cell? ⟨X1, 0, none⟩ = some a10 ∧ u.cell? ⟨X1, 1, none⟩ = some a11 ∧ u.cell? ⟨X1, 2, none⟩ = some a12 ∧ u.cell? ⟨X1, 3, none⟩ = some a13 ∧ X1 < u.heap.size)
      ∧ (u.cell? ⟨X2, 0, none⟩ = some a20 ∧ u.cell? ⟨X2, 1, none⟩ = some a21 ∧ u.cell? ⟨X2, 2, none⟩ = some a22 ∧ u.cell? ⟨X2, 3, none⟩ = some a23 ∧ X2 < u.heap.size)
      ∧ (u.cell? ⟨X3, 0, none⟩ = some a30 ∧ u.cell? ⟨X3, 1, none⟩ = some a31 ∧ u.cell? ⟨X3, 2, none⟩ = some a32 ∧ u.cell? ⟨X3, 3, none⟩ = some a33 ∧ X3 < u.heap.size)
      ∧ DbW ls b w RP RQ A B u) :
    (v.cell? ⟨X0, 0, none⟩ = some a00 ∧ v.cell? ⟨X0, 1, none⟩ = some a01 ∧ v.cell? ⟨X0, 2, none⟩ = some a02 ∧ v.cell? ⟨X0, 3, none⟩ = some a03 ∧ X0 < v.heap.size)
      ∧ (v.cell? ⟨X1, 0, none⟩ = some a10 ∧ v.cell? ⟨X1, 1, none⟩ = some a11 ∧ v.cell? ⟨X1, 2, none⟩ = some a12 ∧ v.cell? ⟨X1, 3, none⟩ = some a13 ∧ X1 < v.heap.size)
      ∧ (v.cell? ⟨X2, 0, none⟩ = some a20 ∧ v.cell? ⟨X2, 1, none⟩ = some a21 ∧ v.cell? ⟨X2, 2, none⟩ = some a22 ∧ v.cell? ⟨X2, 3, none⟩ = some a23 ∧ X2 < v.heap.size)
      ∧ (v.cell? ⟨X3, 0, none⟩ = some a30 ∧ v.cell? ⟨X3, 1, none⟩ = some a31 ∧ v.cell? ⟨X3, 2, none⟩ = some a32 ∧ v.cell? ⟨X3, 3, none⟩ = some a33 ∧ X3 < v.heap.size)
      ∧ DbW ls b w RP RQ A B v := by
  obtain ⟨h0, h1, h2, h3, h4⟩ := h
  exact ⟨cell4_toD n0 hs h0, cell4_toD n1 hs h1, cell4_toD n2 hs h2, cell4_toD n3 hs h3, h4.step hs hw⟩
theorem keepDb {X0 X1 X2 X3 : Nat} {a00 a01 a02 a03 a10 a11 a12 a13 a20 a21 a22 a23 a30 a31 a32 a33 : Value} (n0 : X0 ≠ b) (n1 : X1 ≠ b) (n2 : X2 ≠ b) (n3 : X3 ≠ b) (hb : Below u.heap.size u v)
    (h : (u.cell? ⟨X0, 0, none⟩ = some a00 ∧ u.cell? ⟨X0, 1, none⟩ = some a01 ∧ u.cell? ⟨X0, 2, none⟩ = some a02 ∧ u.cell? ⟨X0, 3, none⟩ = some a03 ∧ X0 < u.heap.size)
      ∧ (u.cell? ⟨X1, 0, none⟩ = some a10 ∧ u.cell? ⟨X1, 1, none⟩ = some a11 ∧ u.cell? ⟨X1, 2, none⟩ = some a12 ∧ u.cell? ⟨X1, 3, none⟩ = some a13 ∧ X1 < u.heap.size)
      ∧ (u.cell? ⟨X2, 0, none⟩ = some a20 ∧ u.cell? ⟨X2, 1, none⟩ = some a21 ∧ u.cell? ⟨X2, 2, none⟩ = some a22 ∧ u.cell? ⟨X2, 3, none⟩ = some a23 ∧ X2 < u.heap.size)
      ∧ (u.cell? ⟨X3, 0, none⟩ = some a30 ∧ u.cell? ⟨X3, 1, none⟩ = some a31 ∧ u.cell? ⟨X3, 2, none⟩ = some a32 ∧ u.cell? ⟨X3, 3, none⟩ = some a33 ∧ X3 < u.heap.size)
      ∧ DbW ls b w RP RQ A B u) :
    (v.cell? ⟨X0, 0, none⟩ = some a00 ∧ v.cell? ⟨X0, 1, none⟩ = some a01 ∧ v.cell? ⟨X0, 2, none⟩ = some a02 ∧ v.cell? ⟨X0, 3, none⟩ = some a03 ∧ X0 < v.heap.size)
      ∧ (v.cell? ⟨X1, 0, none⟩ = some a10 ∧ v.cell? ⟨X1, 1, none⟩ = some a11 ∧ v.cell? ⟨X1, 2, none⟩ = some a12 ∧ v.cell? ⟨X1, 3, none⟩ = some a13 ∧ X1 < v.heap.size)
      ∧ (v.cell? ⟨X2, 0, none⟩ = some a20 ∧ v.cell? ⟨X2, 1, none⟩ = some a21 ∧ v.cell? ⟨X2, 2, none⟩ = some a22 ∧ v.cell? ⟨X2, 3, none⟩ = some a23 ∧ X2 < v.heap.size)
      ∧ (v.cell? ⟨X3, 0, none⟩ = some a30 ∧ v.cell? ⟨X3, 1, none⟩ = some a31 ∧ v.cell? ⟨X3, 2, none⟩ = some a32 ∧ v.cell? ⟨X3, 3, none⟩ = some a33 ∧ X3 < v.heap.size)
      ∧ DbW ls b w RP RQ A B v := keepDf n0 n1 n2 n3 (step_low hb) (h.2.2.2.2.wd.low hb) h
end
set_option maxHeartbeats 16000000 in
theorem dbetween_walk (w : World) (RP RQ : Tab) (p : Option Addr) (len cap : Nat) (hl : len ≤ cap) (hm : len ≤ 9223372036854775807) (h : IntsAt w p len) (hE : Env ls w) (hlw : 0 ∈ ls) (hPl : RP.R.length ≤ 9223372036854775807) (hP : RP.R.length ≤ 1000 → TabAt w RP) (hPc : RP.R.length ≤ RP.cr) (hQl : RQ.R.length ≤ 9223372036854775807) (hQ : RQ.R.length ≤ 1000 → TabAt w RQ) :
    Calls Tryd.prog 3 #[.agg #[.string RP.nm, .slice RP.pc RP.n RP.cc, .int .i64 RP.nx, .slice RP.pr RP.R.length RP.cr], .agg #[.string RQ.nm, .slice RQ.pc RQ.n RQ.cc, .int .i64 RQ.nx, .slice RQ.pr RQ.R.length RQ.cr], .slice p len cap] w fun e w' => e = .returned (.bool true) ∧ Below w.heap.size w w' := by
  have HX := Lib.hid ((cell4_new w (.string RP.nm) (.slice RP.pc RP.n RP.cc) (.int .i64 RP.nx) (.slice RP.pr RP.R.length RP.cr) 27).low (below_alloc (w.alloc (.cells #[.string RP.nm, .slice RP.pc RP.n RP.cc, .int .i64 RP.nx, .slice RP.pr RP.R.length RP.cr] 27)) (.cells #[.string RQ.nm, .slice RQ.pc RQ.n RQ.cc, .int .i64 RQ.nx, .slice RQ.pr RQ.R.length RQ.cr] 27)))
  have hy := (cell4_new (w.alloc (.cells #[.string RP.nm, .slice RP.pc RP.n RP.cc, .int .i64 RP.nx, .slice RP.pr RP.R.length RP.cr] 27)) (.string RQ.nm) (.slice RQ.pc RQ.n RQ.cc) (.int .i64 RQ.nx) (.slice RQ.pr RQ.R.length RQ.cr) 27)
  rw [size_alloc] at hy
  have HY := Lib.hid hy
  have HB := Lib.hid (below_new (below_new (Below.refl w.heap.size w) (.cells #[.string RP.nm, .slice RP.pc RP.n RP.cc, .int .i64 RP.nx, .slice RP.pr RP.R.length RP.cr] 27)) (.cells #[.string RQ.nm, .slice RQ.pc RQ.n RQ.cc, .int .i64 RQ.nx, .slice RQ.pr RQ.R.length RQ.cr] 27))
  have HI := Lib.hid (h.low HB.out)
  have HE := Lib.hid (hE.low HB.out)
  have HRP := Lib.hid hP
  have HRQ := Lib.hid hQ
  clear h hE hP hQ hy
  go_enter Tryd.func3, Tryd.ntmps3
  go_upto_region 1 with (fail)
  generalize World.alloc _ _ = W0 at HX HY HB HI HE ⊢
  obtain ⟨xl, x0, x1, x2, x3, -⟩ := HX.out
  obtain ⟨yl, y0, y1, y2, y3, -⟩ := HY.out
  by_cases h30 : 30 < RP.R.length
  · have hd : decide ((30 : Int) < RP.R.length) = true := decide_eq_true (by omega)
    have hdn : decide (30 < RP.R.length) = true := decide_eq_true h30
    clear h30
    go_wp2_with fail
    refine (known8_any _).mono ?_
    rintro e w1 ⟨rfl, hb1⟩
    have HB1 := Lib.hid (below_next HB.out hb1)
    go_wp2
    exact bodyPost_ret (v := .bool true) (by simp [results, Tryd.results3, go_sem]) rfl ⟨rfl, HB1.out⟩
  have hd : decide ((30 : Int) < RP.R.length) = false := decide_eq_false (by omega)
  have hdn : decide (30 < RP.R.length) = false := decide_eq_false h30
  by_cases h31 : 30 < RQ.R.length
  · have hc : decide ((30 : Int) < RQ.R.length) = true := decide_eq_true (by omega)
    have hcn : decide (30 < RQ.R.length) = true := decide_eq_true h31
    clear h31 h30
    go_wp2_with fail
    refine (known8_any _).mono ?_
    rintro e w1 ⟨rfl, hb1⟩
    have HB1 := Lib.hid (below_next HB.out hb1)
    go_wp2
    exact bodyPost_ret (v := .bool true) (by simp [results, Tryd.results3, go_sem]) rfl ⟨rfl, HB1.out⟩
  have hc : decide ((30 : Int) < RQ.R.length) = false := decide_eq_false (by omega)
  have hcn : decide (30 < RQ.R.length) = false := decide_eq_false h31
  have HP0 := Lib.hid (HRP.out (by omega))
  have HQ0 := Lib.hid (HRQ.out (by omega))
  clear h30 h31 HRP HRQ
  go_wp2_with fail
  refine (wd_new (w := w) HE.out HB.out p len cap hl hm HI.out).mono ?_
  rintro e w1 ⟨b, rfl, hb0, hw1, hb1⟩
  have HW1 := Lib.hid hw1
  have HX1 := Lib.hid (HX.out.low hb1)
  have HY1 := Lib.hid (HY.out.low hb1)
  have hXb : w.heap.size ≠ b := by have h1 := HY.out.lt; omega
  have hYb : w.heap.size + 1 ≠ b := by have h1 := HY.out.lt; omega
  clear HI HE HX HY HB hb1 hw1 xl x0 x1 x2 x3 yl y0 y1 y2 y3 hd hdn hc hcn
  go_wp2_with fail
  refine HW1.out.table.mono ?_
  rintro e w2 ⟨k, rfl, hk, hw2, hs2⟩
  have HW2 := Lib.hid hw2
  have HX2 := Lib.hid (HX1.out.step hs2 hXb)
  have HY2 := Lib.hid (HY1.out.step hs2 hYb)
  clear HW1 HX1 HY1 hw2 hs2
  go_wp2_with fail
  refine (HW2.out.schema k).mono ?_
  rintro e w3 ⟨Z, rfl, hZ, hw3, hb3⟩
  have HW3 := Lib.hid hw3
  have HZ3 := Lib.hid hZ
  have HX3 := Lib.hid (HX2.out.low hb3)
  have HY3 := Lib.hid (HY2.out.low hb3)
  clear HW2 HX2 HY2 hw3 hb3 hZ
  go_wp2_with fail
  refine (HW3.out.tableOfD hlw HZ3.out 6 (by decide)).mono ?_
  rintro e w4 ⟨A, rfl, hTb, -, -, -, hlen, hw4, hs4⟩
  have hbn := below_alloc w4 (.cells #[.string A.nm, .slice A.pc A.n A.cc, .int .i64 A.nx, .slice A.pr A.R.length A.cr] 27)
  have HW5 := Lib.hid (hw4.low hbn)
  have HT5 := Lib.hid (hTb.low hbn)
  have HX5 := Lib.hid ((HX3.out.step hs4 hXb).low hbn)
  have HY5 := Lib.hid ((HY3.out.step hs4 hYb).low hbn)
  have HP5 := Lib.hid (cell4_new w4 (.string A.nm) (.slice A.pc A.n A.cc) (.int .i64 A.nx) (.slice A.pr A.R.length A.cr) 27)
  have hPb : w4.heap.size ≠ b := by have := hw4.tape.lt; omega
  clear HW3 HZ3 HX3 HY3 hTb hw4 hs4 hbn
  go_upto_region 5 with (fail)
  generalize World.alloc _ _ = w5 at HW5 HT5 HX5 HY5 HP5 ⊢
  generalize w4.heap.size = P at HP5 hPb ⊢
  obtain ⟨xl, x0, x1, x2, x3, -⟩ := HP5.out
  go_wp2_with fail
  refine (later_any b w _ A HW5.out hlw HT5.out (by omega)).mono ?_
  rintro e w6 ⟨B, rfl, hnx, hw6, hs6⟩
  have hbn := below_alloc w6 (.cells #[.string B.nm, .slice B.pc B.n B.cc, .int .i64 B.nx, .slice B.pr B.R.length B.cr] 27)
  have HK7 : Hid (DbW ls b w RP RQ A B (w6.alloc (.cells #[.string B.nm, .slice B.pc B.n B.cc, .int .i64 B.nx, .slice B.pr B.R.length B.cr] 27))) := Lib.hid ⟨hw6.low hbn, HP0.out, HQ0.out, (HT5.out.step hs6).low hbn, hnx.tab.low hbn, (by omega), (by have := hnx.len; omega)⟩
  have HX7 := Lib.hid ((HX5.out.step hs6 hXb).low hbn)
  have HY7 := Lib.hid ((HY5.out.step hs6 hYb).low hbn)
  have HP7 := Lib.hid ((HP5.out.step hs6 hPb).low hbn)
  have HQ7 := Lib.hid (cell4_new w6 (.string B.nm) (.slice B.pc B.n B.cc) (.int .i64 B.nx) (.slice B.pr B.R.length B.cr) 27)
  have hQb : w6.heap.size ≠ b := by have := hw6.tape.lt; omega
  clear HW5 HT5 HX5 HY5 HP5 hnx hw6 hs6 hbn xl x0 x1 x2 x3 HP0 HQ0
  go_upto_region 6 with (fail)
  generalize World.alloc _ _ = w7 at HK7 HX7 HY7 HP7 HQ7 ⊢
  generalize w6.heap.size = Q at HQ7 hQb ⊢
  go_region_held3 (fun u => (u.cell? ⟨w.heap.size, 0, none⟩ = some (.string RP.nm) ∧ u.cell? ⟨w.heap.size, 1, none⟩ = some (.slice RP.pc RP.n RP.cc) ∧ u.cell? ⟨w.heap.size, 2, none⟩ = some (.int .i64 RP.nx) ∧ u.cell? ⟨w.heap.size, 3, none⟩ = some (.slice RP.pr RP.R.length RP.cr) ∧ w.heap.size < u.heap.size)
      ∧ (u.cell? ⟨w.heap.size + 1, 0, none⟩ = some (.string RQ.nm) ∧ u.cell? ⟨w.heap.size + 1, 1, none⟩ = some (.slice RQ.pc RQ.n RQ.cc) ∧ u.cell? ⟨w.heap.size + 1, 2, none⟩ = some (.int .i64 RQ.nx) ∧ u.cell? ⟨w.heap.size + 1, 3, none⟩ = some (.slice RQ.pr RQ.R.length RQ.cr) ∧ w.heap.size + 1 < u.heap.size)
      ∧ (u.cell? ⟨P, 0, none⟩ = some (.string A.nm) ∧ u.cell? ⟨P, 1, none⟩ = some (.slice A.pc A.n A.cc) ∧ u.cell? ⟨P, 2, none⟩ = some (.int .i64 A.nx) ∧ u.cell? ⟨P, 3, none⟩ = some (.slice A.pr A.R.length A.cr) ∧ P < u.heap.size)
      ∧ (u.cell? ⟨Q, 0, none⟩ = some (.string B.nm) ∧ u.cell? ⟨Q, 1, none⟩ = some (.slice B.pc B.n B.cc) ∧ u.cell? ⟨Q, 2, none⟩ = some (.int .i64 B.nx) ∧ u.cell? ⟨Q, 3, none⟩ = some (.slice B.pr B.R.length B.cr) ∧ Q < u.heap.size)
      ∧ DbW ls b w RP RQ A B u)
    (first
      | exact ⟨HX7.out.conj, HY7.out.conj, HP7.out.conj, HQ7.out.conj, HK7.out.low (Below.refl _ _).drew⟩
      | with_reducible exact keepDb hXb hYb hPb hQb hbq (by assumption)
      | with_reducible exact keepDf hXb hYb hPb hQb hsq hwq (by assumption))
    (first
      | (go_at_call 12; (with_reducible refine (between8_any _ _ _ ?_ ?_ ?_).mono ?_); (go_split_ands; first | with_reducible exact DbW.aRP (by assumption) | with_reducible exact DbW.aRQ (by assumption) | with_reducible exact DbW.aA (by assumption) | with_reducible exact DbW.aB (by assumption) | with_reducible exact Ts.at (by assumption)); (go_split_ands; first | with_reducible exact DbW.aRP (by assumption) | with_reducible exact DbW.aRQ (by assumption) | with_reducible exact DbW.aA (by assumption) | with_reducible exact DbW.aB (by assumption) | with_reducible exact Ts.at (by assumption)); (go_split_ands; first | assumption | with_reducible exact DbW.cA (by assumption) | with_reducible exact DbW.cB (by assumption) | with_reducible exact Ts.cap (by assumption)); rintro e wq ⟨rfl, hbq⟩)
      | (go_at_call 13; (with_reducible refine (DbW.spA (ls := ls) (b := b) (w := w) (RP := RP) (RQ := RQ) (A := A) (B := B) ?_ hlw).mono ?_); (go_split_ands; assumption); rintro e wq ⟨S3, rfl, hT3, hwq, hsq⟩)
      | (go_at_call 13; (with_reducible refine (DbW.spB (ls := ls) (b := b) (w := w) (RP := RP) (RQ := RQ) (A := A) (B := B) ?_ hlw).mono ?_); (go_split_ands; assumption); rintro e wq ⟨S4, rfl, hT4, hwq, hsq⟩)
      | (go_at_call 8; (with_reducible refine (DbW.tableOf (ls := ls) (b := b) (w := w) (RP := RP) (RQ := RQ) (A := A) (B := B) ?_ hlw).mono ?_); (go_split_ands; assumption); rintro e wq ⟨S5, rfl, hT5, hwq, hsq⟩)
      | (go_at_call 6; with_reducible refine (known8_any _).mono ?_; rintro e wq ⟨rfl, hbq⟩))
  rename_i hHeld
  obtain ⟨-, -, -, -, hK9⟩ := hHeld
  have HB9 := Lib.hid hK9.wd.bel
  clear hK9 HK7 HX7 HY7 HP7 HQ7
  go_wp2
  exact bodyPost_ret (v := .bool true) (by simp [results, Tryd.results3, go_sem]) rfl ⟨rfl, HB9.out⟩
end Go.Proofs.YtlelgkgdppkedaaDoor
