/-
  Several texts in one.
-/
import Derived.Test.YtlelgkgdppkedaaDoorPk33
import Derived.Test.YtlelgkgdppkedaaDoorPk41
import Derived.Test.YtlelgkgdppkedaaDoorPk47
import Derived.Test.YtlelgkgdppkedaaDoorPk40
import Derived.Deep.RegionHeld3
import Derived.Test.YtlelgkgdppkedaaDoorPk44
import Derived.Test.YtlelgkgdppkedaaDoorPk20
/-
  DeltaApplies: Apply of package delta returns what the chapter says, for all tables and differences: the walk.
-/
namespace Go.Proofs.YtlelgkgdppkedaaDoor
set_option maxRecDepth 100000
open Go.RowKit
variable {ls : List Nat}

/-- The state of the law: the tables, the differences. -/
structure DaW (ls : List Nat) (b : Nat) (w : World) (RP : Tab) (RE : Dlt) (A B : Tab) (E : Dlt) (u : World) : Prop where
  wd : Wd ls b w u
  rp : TabAt w RP
  re : DltAt w RE
  ri : RE.I.length ≤ 30
  rd : RE.D.length ≤ 17592186044415
  ta : Td b u A
  tb : Td b u B
  de : ∀ v, StepT b u v → DltAt v E
  la : A.R.length ≤ 20
  li : E.I.length ≤ 90
  ld : E.D.length ≤ 90
  lu : E.U.length ≤ 90
section
variable {b : Nat} {w u v : World} {RP A B S : Tab} {RE E : Dlt}
theorem DaW.step (h : DaW ls b w RP RE A B E u) (hs : StepT b u v) (hw : Wd ls b w v) : DaW ls b w RP RE A B E v := ⟨hw, h.rp, h.re, h.ri, h.rd, h.ta.step hs, h.tb.step hs, fun x hx => h.de x (hs.trans hx), h.la, h.li, h.ld, h.lu⟩
theorem DaW.low (h : DaW ls b w RP RE A B E u) (hb : Below u.heap.size u v) : DaW ls b w RP RE A B E v := h.step (step_low hb) (h.wd.low hb)
theorem DaW.aRP (h : DaW ls b w RP RE A B E u) : TabAt u RP := h.rp.low h.wd.bel
theorem DaW.aRE (h : DaW ls b w RP RE A B E u) : DltAt u RE := h.re.low h.wd.bel
theorem DaW.aA (h : DaW ls b w RP RE A B E u) : TabAt u A := h.ta.at
theorem DaW.aB (h : DaW ls b w RP RE A B E u) : TabAt u B := h.tb.at
theorem DaW.aE (h : DaW ls b w RP RE A B E u) : DltAt u E := h.de u (StepT.refl b u)
theorem DaW.iR (h : DaW ls b w RP RE A B E u) : RE.I.length ≤ 900 := Nat.le_trans h.ri (by decide)
theorem DaW.iE (h : DaW ls b w RP RE A B E u) : E.I.length ≤ 900 := Nat.le_trans h.li (by decide)
theorem DaW.dE (h : DaW ls b w RP RE A B E u) : E.D.length ≤ 17592186044415 := Nat.le_trans h.ld (by decide)
theorem DaW.spA (h : DaW ls b w RP RE A B E u) (hlw : 0 ∈ ls) :
    Calls Tryd.prog 13 #[.pointer (some ⟨b, 0, none⟩), .agg #[.string A.nm, .slice A.pc A.n A.cc, .int .i64 A.nx, .slice A.pr A.R.length A.cr]] u fun e v => ∃ S : Tab, e = .returned (.agg #[.string S.nm, .slice S.pc S.n S.cc, .int .i64 S.nx, .slice S.pr S.R.length S.cr]) ∧ Ts b v S ∧ Wd ls b w v ∧ StepT b u v := h.wd.spoiledD hlw h.ta h.la
theorem DaW.spE (h : DaW ls b w RP RE A B E u) :
    Calls Tryd.prog 16 #[.pointer (some ⟨b, 0, none⟩), .agg #[.string E.nm, .slice E.pi E.I.length E.ci, .slice E.pd E.D.length E.cd, .slice E.pu E.U.length E.cu]] u fun e v => ∃ F : Dlt, e = .returned (.agg #[.string F.nm, .slice F.pi F.I.length F.ci, .slice F.pd F.D.length F.cd, .slice F.pu F.U.length F.cu]) ∧ (DltAt v F ∧ F.I.length ≤ 900 ∧ F.D.length ≤ 17592186044415) ∧ Wd ls b w v ∧ StepT b u v :=
  (spoiled8_any b u h.wd.tape E h.de (Nat.le_trans h.li (by decide)) (Nat.le_trans h.ld (by decide)) (Nat.le_trans h.lu (by decide))).mono fun _ _ ⟨F, he, hF, ht, hs, h1, h2, _⟩ =>
    ⟨F, he, ⟨hF, Nat.le_trans h1 (by have := h.li; omega), Nat.le_trans h2 (by have := h.ld; omega)⟩, h.wd.step hs ht, hs⟩
theorem cell4_toA {X : Nat} {a0 a1 a2 a3 : Value} (hn : X ≠ b) (hs : StepT b u v) (h : u.cell? ⟨X, 0, none⟩ = some a0 ∧ u.cell? ⟨X, 1, none⟩ = some a1 ∧ u.cell? ⟨X, 2, none⟩ = some a2 ∧ u.cell? ⟨X, 3, none⟩ = some a3 ∧ X < u.heap.size) :
    v.cell? ⟨X, 0, none⟩ = some a0 ∧ v.cell? ⟨X, 1, none⟩ = some a1 ∧ v.cell? ⟨X, 2, none⟩ = some a2 ∧ v.cell? ⟨X, 3, none⟩ = some a3 ∧ X < v.heap.size := by
  obtain ⟨h0, h1, h2, h3, hl⟩ := h
  exact ⟨by rw [hs.cell (by exact hl) (by exact hn)]; exact h0, by rw [hs.cell (by exact hl) (by exact hn)]; exact h1, by rw [hs.cell (by exact hl) (by exact hn)]; exact h2, by rw [hs.cell (by exact hl) (by exact hn)]; exact h3, Nat.lt_of_lt_of_le hl hs.size⟩
theorem keepAf {X0 X1 X2 X3 X4 : Nat} {a00 a01 a02 a03 a10 a11 a12 a13 a20 a21 a22 a23 a30 a31 a32 a33 a40 a41 a42 a43 : Value} (n0 : X0 ≠ b) (n1 : X1 ≠ b) (n2 : X2 ≠ b) (n3 : X3 ≠ b) (n4 : X4 ≠ b) (hs : StepT b u v) (hw : Wd ls b w v)
    (h : (u.cell? ⟨X0, 0, none⟩ = some a00 ∧ u.cell? ⟨X0, 1, none⟩ = some a01 ∧ u.cell? ⟨X0, 2, none⟩ = some a02 ∧ u.cell? ⟨X0, 3, none⟩ = some a03 ∧ X0 < u.heap.size)
      ∧ (u.cell? ⟨X1, 0, none⟩ = some a10 ∧ u.cell? ⟨X1, 1, none⟩ = some a11 ∧ u.cell? ⟨X1, 2, none⟩ = some a12 ∧ u.cell? ⟨X1, 3, none⟩ = some a13 ∧ X1 < u.heap.size)
      ∧ (u.cell? ⟨X2, 0, none⟩ = some a20 ∧ u.cell? ⟨X2, 1, none⟩ = some a21 ∧ u.cell? ⟨X2, 2, none⟩ = some a22 ∧ u.cell? ⟨X2, 3, none⟩ = some a23 ∧ X2 < u.heap.size)
      ∧ (u.cell? ⟨X3, 0, none⟩ = some a30 ∧ u.cell? ⟨X3, 1, none⟩ = some a31 ∧ u.cell? ⟨X3, 2, none⟩ = some a32 ∧ u.cell? ⟨X3, 3, none⟩ = some a33 ∧ X3 < u.heap.size)
      ∧ (u.cell? ⟨X4, 0, none⟩ = some a40 ∧ u.cell? ⟨X4, 1, none⟩ = some a41 ∧ u.cell? ⟨X4, 2, none⟩ = some a42 ∧ u.cell? ⟨X4, 3, none⟩ = some a43 ∧ X4 < u.heap.size)
      ∧ DaW ls b w RP RE A B E u) :
    (v.cell? ⟨X0, 0, none⟩ = some a00 ∧ v.cell? ⟨X0, 1, none⟩ = some a01 ∧ v.cell? ⟨X0, 2, none⟩ = some a02 ∧ v.cell? ⟨X0, 3, none⟩ = some a03 ∧ X0 < v.heap.size)
      ∧ (v.cell? ⟨X1, 0, none⟩ = some a10 ∧ v.cell? ⟨X1, 1, none⟩ = some a11 ∧ v.cell? ⟨X1, 2, none⟩ = some a12 ∧ v.cell? ⟨X1, 3, none⟩ = some a13 ∧ X1 < v.heap.size)
      ∧ (v.cell? ⟨X2, 0, none⟩ = some a20 ∧ v.cell? ⟨X2, 1, none⟩ = some a21 ∧ v.cell? ⟨X2, 2, none⟩ = some a22 ∧ v.cell? ⟨X2, 3, none⟩ = some a23 ∧ X2 < v.heap.size)
      ∧ (v.cell? ⟨X3, 0, none⟩ = some a30 ∧ v.cell? ⟨X3, 1, none⟩ = some a31 ∧ v.cell? ⟨X3, 2, none⟩ = some a32 ∧ v.cell? ⟨X3, 3, none⟩ = some a33 ∧ X3 < v.heap.size)
      ∧ (v.cell? ⟨X4, 0, none⟩ = some a40 ∧ v.cell? ⟨X4, 1, none⟩ = some a41 ∧ v.cell? ⟨X4, 2, none⟩ = some a42 ∧ v.cell? ⟨X4, 3, none⟩ = some a43 ∧ X4 < v.heap.size)
      ∧ DaW ls b w RP RE A B E v := by
  obtain ⟨h0, h1, h2, h3, h4, h5⟩ := h
  exact ⟨cell4_toA n0 hs h0, cell4_toA n1 hs h1, cell4_toA n2 hs h2, cell4_toA n3 hs h3, cell4_toA n4 hs h4, h5.step hs hw⟩
theorem keepAb {X0 X1 X2 X3 X4 : Nat} {a00 a01 a02 a03 a10 a11 a12 a13 a20 a21 a22 a23 a30 a31 a32 a33 a40 a41 a42 a43 : Value} (n0 : X0 ≠ b) (n1 : X1 ≠ b) (n2 : X2 ≠ b) (n3 : X3 ≠ b) (n4 : X4 ≠ b) (hb : Below u.heap.size u v)
    (h : (u.cell? ⟨X0, 0, none⟩ = some a00 ∧ u.cell? ⟨X0, 1, none⟩ = some a01 ∧ u.cell? ⟨X0, 2, none⟩ = some a02 ∧ u.cell? ⟨X0, 3, none⟩ = some a03 ∧ X0 < u.heap.size)
      ∧ (u.cell? ⟨X1, 0, none⟩ = some a10 ∧ u.cell? ⟨X1, 1, none⟩ = some a11 ∧ u.cell? ⟨X1, 2, none⟩ = some a12 ∧ u.cell? ⟨X1, 3, none⟩ = some a13 ∧ X1 < u.heap.size)
      ∧ (u.cell? ⟨X2, 0, none⟩ = some a20 ∧ u.cell? ⟨X2, 1, none⟩ = some a21 ∧ u.cell? ⟨X2, 2, none⟩ = some a22 ∧ u.cell? ⟨X2, 3, none⟩ = some a23 ∧ X2 < u.heap.size)
      ∧ (u.cell? ⟨X3, 0, none⟩ = some a30 ∧ u.cell? ⟨X3, 1, none⟩ = some a31 ∧ u.cell? ⟨X3, 2, none⟩ = some a32 ∧ u.cell? ⟨X3, 3, none⟩ = some a33 ∧ X3 < u.heap.size)
      ∧ (u.cell? ⟨X4, 0, none⟩ = some a40 ∧ u.cell? ⟨X4, 1, none⟩ = some a41 ∧ u.cell? ⟨X4, 2, none⟩ = some a42 ∧ u.cell? ⟨X4, 3, none⟩ = some a43 ∧ X4 < u.heap.size)
      ∧ DaW ls b w RP RE A B E u) :
    (v.cell? ⟨X0, 0, none⟩ = some a00 ∧ v.cell? ⟨X0, 1, none⟩ = some a01 ∧ v.cell? ⟨X0, 2, none⟩ = some a02 ∧ v.cell? ⟨X0, 3, none⟩ = some a03 ∧ X0 < v.heap.size)
      ∧ (v.cell? ⟨X1, 0, none⟩ = some a10 ∧ v.cell? ⟨X1, 1, none⟩ = some a11 ∧ v.cell? ⟨X1, 2, none⟩ = some a12 ∧ v.cell? ⟨X1, 3, none⟩ = some a13 ∧ X1 < v.heap.size)
      ∧ (v.cell? ⟨X2, 0, none⟩ = some a20 ∧ v.cell? ⟨X2, 1, none⟩ = some a21 ∧ v.cell? ⟨X2, 2, none⟩ = some a22 ∧ v.cell? ⟨X2, 3, none⟩ = some a23 ∧ X2 < v.heap.size)
      ∧ (v.cell? ⟨X3, 0, none⟩ = some a30 ∧ v.cell? ⟨X3, 1, none⟩ = some a31 ∧ v.cell? ⟨X3, 2, none⟩ = some a32 ∧ v.cell? ⟨X3, 3, none⟩ = some a33 ∧ X3 < v.heap.size)
      ∧ (v.cell? ⟨X4, 0, none⟩ = some a40 ∧ v.cell? ⟨X4, 1, none⟩ = some a41 ∧ v.cell? ⟨X4, 2, none⟩ = some a42 ∧ v.cell? ⟨X4, 3, none⟩ = some a43 ∧ X4 < v.heap.size)
      ∧ DaW ls b w RP RE A B E v := keepAf n0 n1 n2 n3 n4 (step_low hb) (h.2.2.2.2.2.wd.low hb) h
theorem between_short {T S : Tab} {E : Dlt} (h : (btwO T S = true ∧ E.nm = T.nm ∧ E.I = insR T.R S.R ∧ E.D = delR T.R S.R ∧ E.U = updR T.R S.R) ∨ (btwO T S = false ∧ E.nm = ⟨#[]⟩ ∧ E.I = [] ∧ E.D = [] ∧ E.U = [])) (hT : T.R.length ≤ 90) (hS : S.R.length ≤ 90) :
    E.I.length ≤ 90 ∧ E.D.length ≤ 90 ∧ E.U.length ≤ 90 := by
  rcases h with ⟨-, -, e1, e2, e3⟩ | ⟨-, -, e1, e2, e3⟩
  · rw [e1, e2, e3]
    exact ⟨Nat.le_trans (List.length_filter_le _ _) hS, Nat.le_trans (List.length_filter_le _ _) hT, Nat.le_trans (List.length_filterMap_le _ _) hS⟩
  · rw [e1, e2, e3]
    exact ⟨Nat.zero_le _, Nat.zero_le _, Nat.zero_le _⟩
end
set_option maxHeartbeats 16000000 in
theorem dapplies_walk (w : World) (RP : Tab) (RE : Dlt) (p : Option Addr) (len cap : Nat) (hl : len ≤ cap) (hm : len ≤ 9223372036854775807) (h : IntsAt w p len) (hEn : Env ls w) (hlw : 0 ∈ ls) (hPl : RP.R.length ≤ 9223372036854775807) (hP : RP.R.length ≤ 1000 → TabAt w RP) (hQl : RE.I.length ≤ 9223372036854775807) (hDl : RE.D.length ≤ 17592186044415) (hQ : RE.I.length ≤ 1000 → DltAt w RE) :
    Calls Tryd.prog 4 #[.agg #[.string RP.nm, .slice RP.pc RP.n RP.cc, .int .i64 RP.nx, .slice RP.pr RP.R.length RP.cr], .agg #[.string RE.nm, .slice RE.pi RE.I.length RE.ci, .slice RE.pd RE.D.length RE.cd, .slice RE.pu RE.U.length RE.cu], .slice p len cap] w fun e w' => e = .returned (.bool true) ∧ Below w.heap.size w w' := by
  have HX := Lib.hid ((cell4_new w (.string RP.nm) (.slice RP.pc RP.n RP.cc) (.int .i64 RP.nx) (.slice RP.pr RP.R.length RP.cr) 27).low (below_alloc (w.alloc (.cells #[.string RP.nm, .slice RP.pc RP.n RP.cc, .int .i64 RP.nx, .slice RP.pr RP.R.length RP.cr] 27)) (.cells #[.string RE.nm, .slice RE.pi RE.I.length RE.ci, .slice RE.pd RE.D.length RE.cd, .slice RE.pu RE.U.length RE.cu] 41)))
  have hy := (cell4_new (w.alloc (.cells #[.string RP.nm, .slice RP.pc RP.n RP.cc, .int .i64 RP.nx, .slice RP.pr RP.R.length RP.cr] 27)) (.string RE.nm) (.slice RE.pi RE.I.length RE.ci) (.slice RE.pd RE.D.length RE.cd) (.slice RE.pu RE.U.length RE.cu) 41)
  rw [size_alloc] at hy
  have HY := Lib.hid hy
  have HB := Lib.hid (below_new (below_new (Below.refl w.heap.size w) (.cells #[.string RP.nm, .slice RP.pc RP.n RP.cc, .int .i64 RP.nx, .slice RP.pr RP.R.length RP.cr] 27)) (.cells #[.string RE.nm, .slice RE.pi RE.I.length RE.ci, .slice RE.pd RE.D.length RE.cd, .slice RE.pu RE.U.length RE.cu] 41))
  have HI := Lib.hid (h.low HB.out)
  have HE := Lib.hid (hEn.low HB.out)
  have HRP := Lib.hid hP
  have HRQ := Lib.hid hQ
  clear h hEn hP hQ hy
  go_enter Tryd.func4, Tryd.ntmps4
  go_upto_region 1 with (fail)
  generalize World.alloc _ _ = W0 at HX HY HB HI HE ⊢
  obtain ⟨xl, x0, x1, x2, x3, -⟩ := HX.out
  obtain ⟨yl, y0, y1, y2, y3, -⟩ := HY.out
  by_cases h30 : 30 < RP.R.length
  · have hd : decide ((30 : Int) < RP.R.length) = true := decide_eq_true (by omega)
    have hdn : decide (30 < RP.R.length) = true := decide_eq_true h30
    clear h30
    go_wp2_with fail
    refine (known8_any _).mono ?_
    rintro e w1 ⟨rfl, hb1⟩
    have HB1 := Lib.hid (below_next HB.out hb1)
    go_wp2
    exact bodyPost_ret (v := .bool true) (by simp [results, Tryd.results4, go_sem]) rfl ⟨rfl, HB1.out⟩
  have hd : decide ((30 : Int) < RP.R.length) = false := decide_eq_false (by omega)
  have hdn : decide (30 < RP.R.length) = false := decide_eq_false h30
  by_cases h31 : 30 < RE.I.length
  · have hc : decide ((30 : Int) < RE.I.length) = true := decide_eq_true (by omega)
    have hcn : decide (30 < RE.I.length) = true := decide_eq_true h31
    clear h31 h30
    go_wp2_with fail
    refine (known8_any _).mono ?_
    rintro e w1 ⟨rfl, hb1⟩
    have HB1 := Lib.hid (below_next HB.out hb1)
    go_wp2
    exact bodyPost_ret (v := .bool true) (by simp [results, Tryd.results4, go_sem]) rfl ⟨rfl, HB1.out⟩
  have hc : decide ((30 : Int) < RE.I.length) = false := decide_eq_false (by omega)
  have hcn : decide (30 < RE.I.length) = false := decide_eq_false h31
  have HP0 := Lib.hid (HRP.out (by omega))
  have HQ0 := Lib.hid (HRQ.out (by omega))
  have HQI : Hid (RE.I.length ≤ 30) := Lib.hid (by omega)
  clear h30 h31 HRP HRQ
  go_wp2_with fail
  refine (wd_new (w := w) HE.out HB.out p len cap hl hm HI.out).mono ?_
  rintro e w1 ⟨b, rfl, hb0, hw1, hb1⟩
  have HW1 := Lib.hid hw1
  have HX1 := Lib.hid (HX.out.low hb1)
  have HY1 := Lib.hid (HY.out.low hb1)
  have hXb : w.heap.size ≠ b := by have h1 := HY.out.lt; omega
  have hYb : w.heap.size + 1 ≠ b := by have h1 := HY.out.lt; omega
  clear HI HE HX HY HB hb1 hw1 xl x0 x1 x2 x3 yl y0 y1 y2 y3 hd hdn hc hcn
  go_wp2_with fail
  refine HW1.out.table.mono ?_
  rintro e w2 ⟨k, rfl, hk, hw2, hs2⟩
  have HW2 := Lib.hid hw2
  have HX2 := Lib.hid (HX1.out.step hs2 hXb)
  have HY2 := Lib.hid (HY1.out.step hs2 hYb)
  clear HW1 HX1 HY1 hw2 hs2
  go_wp2_with fail
  refine (HW2.out.schema k).mono ?_
  rintro e w3 ⟨Z, rfl, hZ, hw3, hb3⟩
  have HW3 := Lib.hid hw3
  have HZ3 := Lib.hid hZ
  have HX3 := Lib.hid (HX2.out.low hb3)
  have HY3 := Lib.hid (HY2.out.low hb3)
  clear HW2 HX2 HY2 hw3 hb3 hZ
  go_wp2_with fail
  refine (HW3.out.tableOfD hlw HZ3.out 6 (by decide)).mono ?_
  rintro e w4 ⟨A, rfl, hTb, -, -, -, hlen, hw4, hs4⟩
  have hbn := below_alloc w4 (.cells #[.string A.nm, .slice A.pc A.n A.cc, .int .i64 A.nx, .slice A.pr A.R.length A.cr] 27)
  have HW5 := Lib.hid (hw4.low hbn)
  have HT5 := Lib.hid (hTb.low hbn)
  have HX5 := Lib.hid ((HX3.out.step hs4 hXb).low hbn)
  have HY5 := Lib.hid ((HY3.out.step hs4 hYb).low hbn)
  have HP5 := Lib.hid (cell4_new w4 (.string A.nm) (.slice A.pc A.n A.cc) (.int .i64 A.nx) (.slice A.pr A.R.length A.cr) 27)
  have hPb : w4.heap.size ≠ b := by have := hw4.tape.lt; omega
  clear HW3 HZ3 HX3 HY3 hTb hw4 hs4 hbn
  go_upto_region 5 with (fail)
  generalize World.alloc _ _ = w5 at HW5 HT5 HX5 HY5 HP5 ⊢
  generalize w4.heap.size = P at HP5 hPb ⊢
  obtain ⟨xl, x0, x1, x2, x3, -⟩ := HP5.out
  go_wp2_with fail
  refine (later_any b w _ A HW5.out hlw HT5.out (by omega)).mono ?_
  rintro e w6 ⟨B, rfl, hnx, hw6, hs6⟩
  have hbn := below_alloc  w6 (.cells #[.string B.nm, .slice B.pc B.n B.cc, .int .i64 B.nx, .slice B.pr B.R.length B.cr] 27)
  have HW7 := Lib.hid (hw6.low hbn)
  have HA7 := Lib.hid ((HT5.out.step hs6).low hbn)
  have HB7 := Lib.hid (hnx.tab.low hbn)
  have HBL : Hid (B.R.length ≤ 20) := Lib.hid (by have := hnx.len; omega)
  have HX7 := Lib.hid ((HX5.out.step hs6 hXb).low hbn)
  have HY7 := Lib.hid ((HY5.out.step hs6 hYb).low hbn)
  have HP7 := Lib.hid ((HP5.out.step hs6 hPb).low hbn)
  have HQ7 := Lib.hid (cell4_new w6 (.string B.nm) (.slice B.pc B.n B.cc) (.int .i64 B.nx) (.slice B.pr B.R.length B.cr) 27)
  have hQb : w6.heap.size ≠ b := by have := hw6.tape.lt; omega
  clear HW5 HT5 HX5 HY5 HP5 hnx hw6 hs6 hbn xl x0 x1 x2 x3
  go_upto_region 6 with (fail)
  generalize World.alloc _ _ = w7 at HW7 HA7 HB7 HX7 HY7 HP7 HQ7 ⊢
  generalize w6.heap.size = Q at HQ7 hQb ⊢
  obtain ⟨xl, x0, x1, x2, x3, -⟩ := HP7.out
  obtain ⟨yl, y0, y1, y2, y3, -⟩ := HQ7.out
  go_wp2_with fail
  refine (rbetween_any A B w7 HA7.out.at HB7.out.at).mono ?_
  rintro e w8 ⟨E, rfl, hfr, hb8, hE8⟩
  have hbn := below_alloc w8 (.cells #[.string E.nm, .slice E.pi E.I.length E.ci, .slice E.pd E.D.length E.cd, .slice E.pu E.U.length E.cu] 41)
  have hls := between_short hE8 (by omega) (by have := HBL.out; omega)
  have HK9 : Hid (DaW ls b w RP RE A B E (w8.alloc (.cells #[.string E.nm, .slice E.pi E.I.length E.ci, .slice E.pd E.D.length E.cd, .slice E.pu E.U.length E.cu] 41))) := Lib.hid ⟨(HW7.out.low hb8).low hbn, HP0.out, HQ0.out, HQI.out, hDl, (HA7.out.low hb8).low hbn, (HB7.out.low hb8).low hbn, fun v hv => (hfr.low hbn) v hv.size (fun k h1 h2 => hv.block k h2 (by have := HW7.out.tape.lt; omega)), (by omega), hls.1, hls.2.1, hls.2.2⟩
  have HX9 := Lib.hid ((HX7.out.low hb8).low hbn)
  have HY9 := Lib.hid ((HY7.out.low hb8).low hbn)
  have HP9 := Lib.hid ((HP7.out.low hb8).low hbn)
  have HQ9 := Lib.hid ((HQ7.out.low hb8).low hbn)
  have HD9 := Lib.hid (cell4_new w8 (.string E.nm) (.slice E.pi E.I.length E.ci) (.slice E.pd E.D.length E.cd) (.slice E.pu E.U.length E.cu) 41)
  have hDb : w8.heap.size ≠ b := by have := HW7.out.tape.lt; have := hb8.size; omega
  clear HW7 HA7 HB7 HBL HX7 HY7 HP7 HQ7 hE8 hfr hb8 hbn hls xl x0 x1 x2 x3 yl y0 y1 y2 y3 HP0 HQ0 HQI
  generalize btwO A B = ob
  go_upto_region 7 with (fail)
  generalize World.alloc _ _ = w9 at HK9 HX9 HY9 HP9 HQ9 HD9 ⊢
  generalize w8.heap.size = R at HD9 hDb ⊢
  go_region_held3 (fun u => (u.cell? ⟨w.heap.size, 0, none⟩ = some (.string RP.nm) ∧ u.cell? ⟨w.heap.size, 1, none⟩ = some (.slice RP.pc RP.n RP.cc) ∧ u.cell? ⟨w.heap.size, 2, none⟩ = some (.int .i64 RP.nx) ∧ u.cell? ⟨w.heap.size, 3, none⟩ = some (.slice RP.pr RP.R.length RP.cr) ∧ w.heap.size < u.heap.size)
      ∧ (u.cell? ⟨w.heap.size + 1, 0, none⟩ = some (.string RE.nm) ∧ u.cell? ⟨w.heap.size + 1, 1, none⟩ = some (.slice RE.pi RE.I.length RE.ci) ∧ u.cell? ⟨w.heap.size + 1, 2, none⟩ = some (.slice RE.pd RE.D.length RE.cd) ∧ u.cell? ⟨w.heap.size + 1, 3, none⟩ = some (.slice RE.pu RE.U.length RE.cu) ∧ w.heap.size + 1 < u.heap.size)
      ∧ (u.cell? ⟨P, 0, none⟩ = some (.string A.nm) ∧ u.cell? ⟨P, 1, none⟩ = some (.slice A.pc A.n A.cc) ∧ u.cell? ⟨P, 2, none⟩ = some (.int .i64 A.nx) ∧ u.cell? ⟨P, 3, none⟩ = some (.slice A.pr A.R.length A.cr) ∧ P < u.heap.size)
      ∧ (u.cell? ⟨Q, 0, none⟩ = some (.string B.nm) ∧ u.cell? ⟨Q, 1, none⟩ = some (.slice B.pc B.n B.cc) ∧ u.cell? ⟨Q, 2, none⟩ = some (.int .i64 B.nx) ∧ u.cell? ⟨Q, 3, none⟩ = some (.slice B.pr B.R.length B.cr) ∧ Q < u.heap.size)
      ∧ (u.cell? ⟨R, 0, none⟩ = some (.string E.nm) ∧ u.cell? ⟨R, 1, none⟩ = some (.slice E.pi E.I.length E.ci) ∧ u.cell? ⟨R, 2, none⟩ = some (.slice E.pd E.D.length E.cd) ∧ u.cell? ⟨R, 3, none⟩ = some (.slice E.pu E.U.length E.cu) ∧ R < u.heap.size)
      ∧ DaW ls b w RP RE A B E u)
    (first
      | exact ⟨HX9.out.conj, HY9.out.conj, HP9.out.conj, HQ9.out.conj, HD9.out.conj, HK9.out.low (Below.refl _ _).drew⟩
      | with_reducible exact keepAb hXb hYb hPb hQb hDb hbq (by assumption)
      | with_reducible exact keepAf hXb hYb hPb hQb hDb hsq hwq (by assumption))
    (first
      | (go_at_call 15; (with_reducible refine (applies8_any _ _ _ ?_ ?_ ?_ ?_).mono ?_); (go_split_ands; first | with_reducible exact DaW.aRP (by assumption) | with_reducible exact DaW.aA (by assumption) | with_reducible exact DaW.aB (by assumption) | with_reducible exact Ts.at (by assumption)); (go_split_ands; first | with_reducible exact DaW.aRE (by assumption) | with_reducible exact DaW.aE (by assumption) | with_reducible assumption); (go_split_ands; first | exact DaW.iR (by assumption) | exact DaW.iE (by assumption) | assumption); (go_split_ands; first | exact DaW.rd (by assumption) | exact DaW.dE (by assumption) | assumption); rintro e wq ⟨rfl, hbq⟩)
      | (go_at_call 13; (with_reducible refine (DaW.spA (ls := ls) (b := b) (w := w) (RP := RP) (RE := RE) (A := A) (B := B) (E := E) ?_ hlw).mono ?_); (go_split_ands; assumption); rintro e wq ⟨S3, rfl, hT3, hwq, hsq⟩)
      | (go_at_call 16; (with_reducible refine (DaW.spE (ls := ls) (b := b) (w := w) (RP := RP) (RE := RE) (A := A) (B := B) (E := E) ?_).mono ?_); (go_split_ands; assumption); rintro e wq ⟨F4, rfl, ⟨hT4, hI4, hD4⟩, hwq, hsq⟩)
      | (go_at_call 6; with_reducible refine (known8_any _).mono ?_; rintro e wq ⟨rfl, hbq⟩))
  rename_i hHeld
  obtain ⟨-, -, -, -, -, hK9⟩ := hHeld
  have HB9 := Lib.hid hK9.wd.bel
  clear hK9 HK9 HX9 HY9 HP9 HQ9 HD9
  go_wp2
  exact bodyPost_ret (v := .bool true) (by simp [results, Tryd.results4, go_sem]) rfl ⟨rfl, HB9.out⟩
end Go.Proofs.YtlelgkgdppkedaaDoor
/-
  Arguments opened: a list of numbers, of pairs of rows, a change.
-/
namespace Go.Proofs.YtlelgkgdppkedaaDoor
set_option maxRecDepth 100000
open Go.ChangeShapes Go.WideShapes Go.ChangeAt Go.RowKit

section
variable {H : Type} {enc : TypeId × Value → H} {W : World} {v : Value} {d : DataW H} {p : List MemPlace}
theorem addr_add (c o i : Nat) : (⟨c, o, none⟩ : Addr).add i = ⟨c, o + i, none⟩ := by unfold Addr.add; split <;> simp_all
theorem addr_add2 (c o x y : Nat) : ((⟨c, o, none⟩ : Addr).add x).add y = ⟨c, o + x + y, none⟩ := by rw [addr_add, addr_add]
theorem spot_of {a : Addr} {x : Value} (h : W.cell? (a.add 0) = some x) : ∃ c o, a = ⟨c, o, none⟩ := by
  obtain ⟨c, o, sp⟩ := a
  have hsp : sp = none := by simpa [Addr.add] using World.cell?_spot h
  subst hsp
  exact ⟨c, o, rfl⟩
set_option maxRecDepth 100000 in
/-- A slice of pairs. -/
theorem open_pairs {t : Nat} {v : Value} {y : DataW H × List MemPlace} (h : DataW.trod enc Tryd.prog W 0 (fun _ => true) true t 39 [v] = some y) (hw : ∀ n ∈ y.1.weights Tryd.prog 39, n ≤ reachBytes) :
    ∃ (a : Option Addr) (U : List PRow) (cap : Nat), v = .slice a U.length cap ∧ U.length ≤ cap ∧ U.length ≤ 9223372036854775807 ∧ PairsAt W a U ∧ (∀ r ∈ U, ValsSized r.2.1) ∧ ∀ r ∈ U, ValsSized r.2.2 := by
  have c2 : Tryd.prog.cellsOf 86 = 3 := by kernel_rfl
  rcases Deep.open_slice Tryd.underlying39 h with ⟨hcs, hx⟩ | ⟨a, len, cap, m, n, D, Pl, hcs, hb, hl, hm, hmm, hx, hi⟩
  · simp only [List.cons.injEq, and_true] at hcs
    subst hcs
    exact ⟨none, [], 0, rfl, Nat.le_refl _, by decide, fun i hi => (by simp at hi), fun r hr => (by cases hr), fun r hr => (by cases hr)⟩
  · simp only [List.cons.injEq, and_true] at hcs
    subst hcs
    rw [if_pos rfl] at hmm
    have hd := (Prod.mk.inj hx).1
    have hone : ∀ i, i < len → ∃ x : Int × (Option Addr × Nat × List Val) × Option Addr × Nat × List Val, W.cell? ((a.add (i * 3)).add 0) = some (.int .i64 x.1) ∧ W.cell? ((a.add (i * 3)).add 1) = some (.slice x.2.1.1 x.2.1.2.2.length x.2.1.2.1) ∧ W.cell? ((a.add (i * 3)).add 2) = some (.slice x.2.2.1 x.2.2.2.2.length x.2.2.2.1)
        ∧ (RowAt W x.2.1.1 x.2.1.2.2 ∧ ValsSized x.2.1.2.2 ∧ x.2.1.2.2.length * 32 ≤ 140737488355328 ∧ (x.2.1.1 = none → x.2.1.2.2 = [] ∧ x.2.1.2.1 = 0)) ∧ (RowAt W x.2.2.1 x.2.2.2.2 ∧ ValsSized x.2.2.2.2 ∧ x.2.2.2.2.length * 32 ≤ 140737488355328 ∧ (x.2.2.1 = none → x.2.2.2.2 = [] ∧ x.2.2.2.1 = 0)) := by
      intro i hi'
      obtain ⟨cs', hc, ht'⟩ := hi i (by omega)
      rw [c2] at hc
      obtain ⟨_, hcl, hat⟩ := World.cells?_some hc
      have hwi : ∀ n ∈ (D i).weights Tryd.prog 86, n ≤ reachBytes :=
        weights_el Tryd.underlying39 (x := D i) (elems := (List.range len).map D) (spare := (List.range (m - len)).map fun j => D (len + j)) (List.mem_map.2 ⟨i, List.mem_range.2 hi', rfl⟩) (by rw [← hd]; exact hw)
      obtain ⟨y0, y1, y2, m', hxx, _, h0, h1, h2⟩ := Go.Deep.trod_struct3 Tryd.underlying86 ht'
      have hDi : D i = .agg [y0.1, y1.1, y2.1] := (Prod.mk.inj hxx).1
      have ci : Tryd.prog.cellsOf 3 = 1 := by kernel_rfl
      have cj : Tryd.prog.cellsOf 51 = 1 := by kernel_rfl
      obtain ⟨u0, u1, u2, rfl⟩ := list_three hcl
      have h0 : DataW.trod enc Tryd.prog W 0 (fun _ => true) true m' 3 (([u0, u1, u2].drop 0).take (Tryd.prog.cellsOf 3)) = some y0 := h0
      have h1 : DataW.trod enc Tryd.prog W 0 (fun _ => true) true m' 51 (([u0, u1, u2].drop 1).take (Tryd.prog.cellsOf 51)) = some y1 := h1
      have h2 : DataW.trod enc Tryd.prog W 0 (fun _ => true) true m' 51 (([u0, u1, u2].drop 2).take (Tryd.prog.cellsOf 51)) = some y2 := h2
      rw [ci] at h0
      rw [cj] at h1 h2
      simp only [List.drop_zero, List.drop_succ_cons, List.take_succ_cons, List.take_zero] at h0 h1 h2
      obtain ⟨k, e0, -, -⟩ := DataW.trod_int Tryd.underlying3 h0
      obtain ⟨q, l, cp, rfl, -, -, h3, h4, h5, h6⟩ := open_row_at h1
      obtain ⟨q', l', cp', rfl, -, -, h3', h4', h5', h6'⟩ := open_row_at h2
      simp only [List.cons.injEq, and_true] at e0
      subst e0
      refine ⟨(k, (q, cp, l), (q', cp', l')), by rw [hat 0 (by omega)]; rfl, by rw [hat 1 (by omega)]; rfl, by rw [hat 2 (by omega)]; rfl, ⟨h3, h4, h6 fun n hn => hwi n ?_, h5⟩, ⟨h3', h4', h6' fun n hn => hwi n ?_, h5'⟩⟩
      · rw [hDi]
        simp only [DataW.weights, Tryd.underlying86]
        simp only [DataW.weightsEach, List.map]
        exact List.mem_append_right _ (List.mem_append_left _ hn)
      · rw [hDi]
        simp only [DataW.weights, Tryd.underlying86]
        simp only [DataW.weightsEach, List.map]
        exact List.mem_append_right _ (List.mem_append_right _ (List.mem_append_left _ hn))
    haveI : Inhabited (Int × (Option Addr × Nat × List Val) × Option Addr × Nat × List Val) := ⟨(0, (none, 0, []), none, 0, [])⟩
    obtain ⟨f, hf'⟩ := exists_fun hone
    have hlen : ((List.range len).map fun i => ((f i).1, (f i).2.1.2.2, (f i).2.2.2.2)).length = len := by simp
    have er : ∀ i, i < len → pAt ((List.range len).map fun i => ((f i).1, (f i).2.1.2.2, (f i).2.2.2.2)) i = ((f i).1, (f i).2.1.2.2, (f i).2.2.2.2) := fun i hi' => by rw [pAt_get (by rw [hlen]; exact hi')]; simp
    refine ⟨some a, (List.range len).map fun i => ((f i).1, (f i).2.1.2.2, (f i).2.2.2.2), cap, by rw [hlen], by rw [hlen]; exact hl, by rw [hlen]; unfold maxLen at hm; omega, fun i hi' => ?_, fun r hr => ?_, fun r hr => ?_⟩
    · rw [hlen] at hi'
      obtain ⟨c, o, rfl⟩ := spot_of (W := W) (a := a) (by have h0 := (hf' 0 (by omega)).1; rw [Nat.zero_mul] at h0; have e : (a.add 0).add 0 = a.add 0 := by cases a with | mk b o s => cases s <;> simp [Addr.add]
                                                          rw [e] at h0; exact h0)
      obtain ⟨h0, h1, h2, h3, h4⟩ := hf' i hi'
      rw [addr_add2] at h0 h1 h2
      rw [er i hi']
      exact ⟨c, o, (f i).2.1.1, (f i).2.1.2.1, (f i).2.2.1, (f i).2.2.2.1, rfl, World.block_lt_of_cell? W _ h0, h0, h1, h2, h3.1, h4.1, h3.2.2.1, h4.2.2.1, h3.2.2.2, h4.2.2.2⟩
    · obtain ⟨i, hi', rfl⟩ := List.mem_map.1 hr
      exact (hf' i (List.mem_range.1 hi')).2.2.2.1.2.1
    · obtain ⟨i, hi', rfl⟩ := List.mem_map.1 hr
      exact (hf' i (List.mem_range.1 hi')).2.2.2.2.2.1
set_option maxRecDepth 100000 in
/-- A slice of rows. -/
theorem open_rows_in {t : Nat} {v : Value} {y : DataW H × List MemPlace} (h : DataW.trod enc Tryd.prog W 0 (fun _ => true) true t 71 [v] = some y) (hw : ∀ n ∈ y.1.weights Tryd.prog 71, n ≤ reachBytes) :
    ∃ (a : Option Addr) (L : List (List Val)) (cap : Nat), v = .slice a L.length cap ∧ L.length ≤ cap ∧ L.length ≤ 9223372036854775807 ∧ RowsAt W a L ∧ ∀ l ∈ L, ValsSized l := by
  rcases Deep.open_slice1 Tryd.underlying71 (by kernel_rfl) h with ⟨hcs, hx⟩ | ⟨a, len, cap, m, n, V, D, Pl, hcs, hb, hl, hm, hmm, hx, hi⟩
  · simp only [List.cons.injEq, and_true] at hcs
    subst hcs
    exact ⟨none, [], 0, rfl, Nat.le_refl _, by decide, fun i hi => (by simp at hi), fun r hr => (by cases hr)⟩
  · simp only [List.cons.injEq, and_true] at hcs
    subst hcs
    rw [if_pos rfl] at hmm
    have hd := (Prod.mk.inj hx).1
    have hone : ∀ i, i < len → ∃ x : Option Addr × Nat × List Val, V i = .slice x.1 x.2.2.length x.2.1 ∧ RowAt W x.1 x.2.2 ∧ ValsSized x.2.2 ∧ x.2.2.length * 32 ≤ 140737488355328 ∧ (x.1 = none → x.2.2 = [] ∧ x.2.1 = 0) := by
      intro i hi'
      obtain ⟨-, ht⟩ := hi i (by omega)
      obtain ⟨q, l, cp, e0, -, -, h3, h4, h5, h6⟩ := open_row_at ht
      refine ⟨(q, cp, l), e0, h3, h4, h6 ?_, h5⟩
      refine weights_el Tryd.underlying71 (x := D i) (elems := (List.range len).map D) (spare := (List.range (m - len)).map fun j => D (len + j)) (List.mem_map.2 ⟨i, List.mem_range.2 hi', rfl⟩) ?_
      rw [← hd]
      exact hw
    haveI : Inhabited (Option Addr × Nat × List Val) := ⟨(none, 0, [])⟩
    obtain ⟨f, hf'⟩ := exists_fun hone
    have hlen : ((List.range len).map fun i => (f i).2.2).length = len := by simp
    refine ⟨some a, (List.range len).map fun i => (f i).2.2, cap, by rw [hlen], by rw [hlen]; exact hl, by rw [hlen]; unfold maxLen at hm; omega, fun i hi' => ?_, fun r hr => ?_⟩
    · rw [hlen] at hi'
      obtain ⟨c, o, rfl⟩ := spot_of (hi 0 (by omega)).1
      obtain ⟨h0, -⟩ := hi i (by omega)
      obtain ⟨e0, h1, -, h2, h3⟩ := hf' i hi'
      have er : rAt ((List.range len).map fun i => (f i).2.2) i = (f i).2.2 := by rw [rAt_get (by rw [hlen]; exact hi')]; simp
      rw [addr_add, e0] at h0
      rw [er]
      exact ⟨c, o, (f i).1, (f i).2.1, rfl, World.block_lt_of_cell? W _ h0, h0, h1, h2, h3⟩
    · obtain ⟨i, hi', rfl⟩ := List.mem_map.1 hr
      exact (hf' i (List.mem_range.1 hi')).2.2.1
/-- A slice of numbers. -/
theorem open_ids {t : Nat} {v : Value} {y : DataW H × List MemPlace} (h : DataW.trod enc Tryd.prog W 0 (fun _ => true) true t 28 [v] = some y) :
    ∃ (a : Option Addr) (D : List Int) (cap : Nat), v = .slice a D.length cap ∧ D.length ≤ cap ∧ D.length ≤ 9223372036854775807 ∧ NumAt W a D := by
  rcases open_ints Tryd.underlying28 Tryd.underlying3 (by kernel_rfl) h with ⟨hcs, hx⟩ | ⟨a, len, cap, zs, hcs, _, hl, hm, hz, hx, hcell, hwz⟩
  · simp only [List.cons.injEq, and_true] at hcs
    subst hcs
    exact ⟨none, [], 0, rfl, Nat.le_refl _, by decide, fun i hi => by simp at hi⟩
  · simp only [List.cons.injEq, and_true] at hcs
    subst hcs
    rw [if_pos rfl] at hz
    have hlen : ((List.range len).map fun i => zs.getD i 0).length = len := by simp
    refine ⟨some a, (List.range len).map fun i => zs.getD i 0, cap, by rw [hlen], by rw [hlen]; exact hl, by rw [hlen]; unfold maxLen at hm; omega, fun i hi' => ?_⟩
    rw [hlen] at hi'
    obtain ⟨c, o, rfl⟩ := spot_of (hcell 0 (by omega))
    have h0 := hcell i (by omega)
    have er : iAt ((List.range len).map fun i => zs.getD i 0) i = zs.getD i 0 := by rw [iAt_get (by rw [hlen]; exact hi')]; simp
    rw [addr_add] at h0
    rw [er]
    exact ⟨c, o, rfl, World.block_lt_of_cell? W _ h0, h0⟩
set_option maxRecDepth 100000 in
/-- An argument that is a change. -/
theorem open_change (hv : ∃ b, Value.okWide Tryd.prog W .any b 73 v) (h : DataW.Trod enc Tryd.prog W 0 (fun _ => true) true 73 v d p) (hw : ∀ n ∈ d.weights Tryd.prog 73, n ≤ reachBytes) :
    ∃ C : Chg, v = .agg #[.slice C.pi C.I.length C.ci, .slice C.pd C.D.length C.cd, .slice C.pu C.U.length C.cu] ∧ C.I.length ≤ 9223372036854775807 ∧ (C.I.length ≤ 1000 → ChgAt W C) := by
  obtain ⟨b, hv⟩ := hv
  obtain ⟨cs, rfl, hsz⟩ := okWide_struct Tryd.underlying73 hv
  have hsz : cs.size = 3 := hsz.trans (by kernel_rfl)
  obtain ⟨c0, c1, c2, rfl⟩ := Joins.array3 hsz
  obtain ⟨fuel, hf⟩ := h
  obtain ⟨y0, y1, y2, m, hx, _, j0, j1, j2⟩ := Go.Deep.trod_struct3 Tryd.underlying73 hf
  have hd : d = .agg [y0.1, y1.1, y2.1] := (Prod.mk.inj hx).1
  have ca : Tryd.prog.cellsOf 71 = 1 := by kernel_rfl
  have ci : Tryd.prog.cellsOf 28 = 1 := by kernel_rfl
  have cp : Tryd.prog.cellsOf 39 = 1 := by kernel_rfl
  have h0 : DataW.trod enc Tryd.prog W 0 (fun _ => true) true m 71 (([c0, c1, c2].drop 0).take (Tryd.prog.cellsOf 71)) = some y0 := j0
  have h1 : DataW.trod enc Tryd.prog W 0 (fun _ => true) true m 28 (([c0, c1, c2].drop 1).take (Tryd.prog.cellsOf 28)) = some y1 := j1
  have h2 : DataW.trod enc Tryd.prog W 0 (fun _ => true) true m 39 (([c0, c1, c2].drop 2).take (Tryd.prog.cellsOf 39)) = some y2 := j2
  clear j0 j1 j2 hf hv
  rw [ca] at h0
  rw [ci] at h1
  rw [cp] at h2
  simp only [List.drop_zero, List.drop_succ_cons, List.take_succ_cons, List.take_zero] at h0 h1 h2
  have hws : ∀ n, (n ∈ y0.1.weights Tryd.prog 71 ∨ n ∈ y2.1.weights Tryd.prog 39) → n ≤ reachBytes := fun n hn => hw n (by
    rw [hd]
    simp only [DataW.weights, Tryd.underlying73]
    simp only [DataW.weightsEach, List.map]
    rcases hn with hn | hn
    · exact List.mem_append_left _ hn
    · exact List.mem_append_right _ (List.mem_append_right _ (List.mem_append_left _ hn)))
  obtain ⟨pi, I, ci', rfl, -, hI, hi1, hi2⟩ := open_rows_in h0 fun n hn => hws n (.inl hn)
  obtain ⟨pd, D, cd', rfl, hD1, hD2, hD3⟩ := open_ids h1
  obtain ⟨pu, U, cu', rfl, hU1, hU2, hU3, -, hU4⟩ := open_pairs h2 fun n hn => hws n (.inr hn)
  exact ⟨⟨pi, ci', I, pd, cd', D, pu, cu', U⟩, rfl, hI, fun h => ⟨hi1, hD3, hU3, h, hD2, hU2, hi2, hU4, hD1, hU1⟩⟩
end
end Go.Proofs.YtlelgkgdppkedaaDoor
/-
  Arguments opened: a difference of tables.
-/
namespace Go.Proofs.YtlelgkgdppkedaaDoor
set_option maxRecDepth 100000
open Go.ChangeShapes Go.WideShapes Go.ChangeAt Go.RowKit

section
variable {H : Type} {enc : TypeId × Value → H} {W : World} {v : Value} {d : DataW H} {p : List MemPlace}
theorem bytes_trow : Tryd.prog.bytesOf 53 = 32 := by kernel_rfl
/-- A list of rows is shorter than what memory can hold. -/
theorem trows_short {t : Nat} {v : Value} {y : DataW H × List MemPlace} (h : DataW.trod enc Tryd.prog W 0 (fun _ => true) true t 25 [v] = some y) (hw : ∀ n ∈ y.1.weights Tryd.prog 25, n ≤ reachBytes) :
    ∃ (a : Option Addr) (len cap : Nat), v = .slice a len cap ∧ len * 32 ≤ 140737488355328 := by
  rcases Deep.open_slice Tryd.underlying25 h with ⟨hcs, hx⟩ | ⟨a, len, cap, m, n, D, Pl, hcs, hb, hl, hm, hmm, hx, hi⟩
  · simp only [List.cons.injEq, and_true] at hcs
    exact ⟨none, 0, 0, hcs, by decide⟩
  · simp only [List.cons.injEq, and_true] at hcs
    rw [if_pos rfl] at hmm
    refine ⟨some a, len, cap, hcs, ?_⟩
    have := hw (cap * 32) (by
      rw [hx]
      simp only [DataW.weights, Tryd.underlying25, List.length_map, List.length_range, bytes_trow]
      rw [show len + (m - len) = cap by omega]
      exact List.mem_cons_self)
    simp only [reachBytes] at this
    omega
set_option maxRecDepth 100000 in
/-- An argument that is a difference. -/
theorem open_delta (hv : ∃ b, Value.okWide Tryd.prog W .any b 41 v) (h : DataW.Trod enc Tryd.prog W 0 (fun _ => true) true 41 v d p) (hw : ∀ n ∈ d.weights Tryd.prog 41, n ≤ reachBytes) :
    ∃ E : Dlt, v = .agg #[.string E.nm, .slice E.pi E.I.length E.ci, .slice E.pd E.D.length E.cd, .slice E.pu E.U.length E.cu] ∧ E.I.length ≤ 9223372036854775807 ∧ E.D.length ≤ 17592186044415 ∧ (E.I.length ≤ 1000 → DltAt W E) := by
  obtain ⟨b, hv⟩ := hv
  obtain ⟨cs, rfl, hsz⟩ := okWide_struct Tryd.underlying41 hv
  have hsz : cs.size = 4 := hsz.trans (by kernel_rfl)
  obtain ⟨c0, c1, c2, c3, rfl⟩ := Joins.array4 hsz
  obtain ⟨fuel, hf⟩ := h
  obtain ⟨y0, y1, y2, y3, m, hx, _, j0, j1, j2, j3⟩ := Go.Joins.trod_struct4 Tryd.underlying41 hf
  have hd : d = .agg [y0.1, y1.1, y2.1, y3.1] := (Prod.mk.inj hx).1
  have ct : Tryd.prog.cellsOf 9 = 1 := by kernel_rfl
  have cr : Tryd.prog.cellsOf 25 = 1 := by kernel_rfl
  have cp : Tryd.prog.cellsOf 39 = 1 := by kernel_rfl
  have h0 : DataW.trod enc Tryd.prog W 0 (fun _ => true) true m 9 (([c0, c1, c2, c3].drop 0).take (Tryd.prog.cellsOf 9)) = some y0 := j0
  have h1 : DataW.trod enc Tryd.prog W 0 (fun _ => true) true m 25 (([c0, c1, c2, c3].drop 1).take (Tryd.prog.cellsOf 25)) = some y1 := j1
  have h2 : DataW.trod enc Tryd.prog W 0 (fun _ => true) true m 25 (([c0, c1, c2, c3].drop 2).take (Tryd.prog.cellsOf 25)) = some y2 := j2
  have h3 : DataW.trod enc Tryd.prog W 0 (fun _ => true) true m 39 (([c0, c1, c2, c3].drop 3).take (Tryd.prog.cellsOf 39)) = some y3 := j3
  clear j0 j1 j2 j3 hf hv
  rw [ct] at h0
  rw [cr] at h1 h2
  rw [cp] at h3
  simp only [List.drop_zero, List.drop_succ_cons, List.take_succ_cons, List.take_zero] at h0 h1 h2 h3
  have hws : ∀ n, (n ∈ y1.1.weights Tryd.prog 25 ∨ n ∈ y2.1.weights Tryd.prog 25 ∨ n ∈ y3.1.weights Tryd.prog 39) → n ≤ reachBytes := fun n hn => hw n (by
    rw [hd]
    simp only [DataW.weights, Tryd.underlying41]
    simp only [DataW.weightsEach, List.map]
    rcases hn with hn | hn | hn
    · exact List.mem_append_right _ (List.mem_append_left _ hn)
    · exact List.mem_append_right _ (List.mem_append_right _ (List.mem_append_left _ hn))
    · exact List.mem_append_right _ (List.mem_append_right _ (List.mem_append_right _ (List.mem_append_left _ hn))))
  obtain ⟨s, e0, -, ws⟩ := DataW.trod_string Tryd.underlying9 h0
  obtain ⟨pi, I, ci, rfl, hI1, hI2, hI3, hI4⟩ := open_trows h1 fun n hn => hws n (.inl hn)
  obtain ⟨pd, D, cd, rfl, hD1, hD2, hD3, hD4⟩ := open_trows h2 fun n hn => hws n (.inr (.inl hn))
  have hDs : D.length ≤ 17592186044415 := by
    obtain ⟨a', len', cap', e', hle⟩ := trows_short h2 fun n hn => hws n (.inr (.inl hn))
    injection e' with _ e' _
    omega
  obtain ⟨pu, U, cu, rfl, hU1, hU2, hU3, hU4, hU5⟩ := open_pairs h3 fun n hn => hws n (.inr (.inr hn))
  simp only [List.cons.injEq, and_true] at e0
  subst e0
  exact ⟨⟨s, pi, ci, I, pd, cd, D, pu, cu, U⟩, rfl, hI2, hDs, fun h => ⟨ws, hI3, hD3, hU3, h, hD2, hU2, hI4, hD4, hU4, hU5, hI1, hD1, hU1⟩⟩
end
end Go.Proofs.YtlelgkgdppkedaaDoor
