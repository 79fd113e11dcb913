/-
  Several texts in one.
-/
import Derived.Test.YtgaihglploedaaaDoorPk34
import Derived.Test.YtgaihglploedaaaDoorPk24
import Derived.Deep.RegionHeld3
import Derived.Deep.CutBlock
import Derived.Test.YtgaihglploedaaaDoorPk22
/-
  Package keys: validWidths, fits, hasRoom.
-/
namespace Go.Proofs.YtgaihglploedaaaDoor
set_option maxRecDepth 100000
open Go.RowKit
variable {ls : List Nat}

theorem widthsB_upd {n : Nat} {I : List (List Val)} {U : List PRow} {k : Nat} (hk : k < U.length) (h : (pAt U k).2.2.length ≠ n) : widthsB n I U = false := by
  unfold widthsB; rw [decide_eq_false (p := ∀ i, i < U.length → (pAt U i).2.2.length = n) (fun hc => h (hc k hk))]; rfl
theorem widthsB_ins {n : Nat} {I : List (List Val)} {U : List PRow} {k : Nat} (hk : k < I.length) (h : (rAt I k).length ≠ n) : widthsB n I U = false := by
  unfold widthsB; rw [decide_eq_false (p := ∀ i, i < I.length → (rAt I i).length = n) (fun hc => h (hc k hk)), Bool.and_false]
theorem widthsB_yes {n : Nat} {I : List (List Val)} {U : List PRow} (h : ∀ i, i < U.length → (pAt U i).2.2.length = n) (h2 : ∀ i, i < I.length → (rAt I i).length = n) : widthsB n I U = true := by
  unfold widthsB; rw [decide_eq_true h, decide_eq_true h2]; rfl
/-- The box of a change, and what else is as it was. -/
structure CBox (w : World) (X : Nat) (C : Chg) (v : World) : Prop where
  box : Cell3 v X (.slice C.pi C.I.length C.ci) (.slice C.pd C.D.length C.cd) (.slice C.pu C.U.length C.cu)
  bel : Below w.heap.size w v
theorem CBox.low {w u v : World} {X : Nat} {C : Chg} (h : CBox w X C u) (hb : Below u.heap.size u v) : CBox w X C v := ⟨h.box.low hb, below_next h.bel hb⟩
set_option maxHeartbeats 1000000 in
theorem widths_any (n : Nat) (C : Chg) (w : World) (_hn : n ≤ 9223372036854775807) (hC : ChgAt w C) :
    Calls Tryd.prog 112 #[.int .i64 n, C.v] w fun e w' => e = .returned (.bool (widthsB n C.I C.U)) ∧ Below w.heap.size w w' := by
  have HCB : Hid (CBox w w.heap.size C (w.alloc (.cells #[.slice C.pi C.I.length C.ci, .slice C.pd C.D.length C.cd, .slice C.pu C.U.length C.cu] 79))) := Lib.hid ⟨cell3_new _ _ _ _ _, below_alloc _ _⟩
  obtain ⟨pi, ci, I, pd, cd, D, pu, cu, U⟩ := C
  unfold Chg.v
  dsimp only at *
  have HC := Lib.hid hC
  have hI63 := hC.inl
  have hU63 := hC.ul
  dsimp only at hI63 hU63
  clear hC
  go_enter Tryd.func112, Tryd.ntmps112
  go_upto_region 1 with (fail)
  generalize World.alloc _ _ = W0 at HCB ⊢
  obtain ⟨hyl, y0, y1, y2, -⟩ := HCB.out.box
  dsimp only at y0 y1 y2
  go_wp2_with fail
  go_loopw [12] (fun i v => ∃ k : Nat, k ≤ U.length ∧ i = .int .i64 k ∧ (∀ j, j < k → (pAt U j).2.2.length = n) ∧ CBox w w.heap.size ⟨pi, ci, I, pd, cd, D, pu, cu, U⟩ v) (fun i _ => U.length - (intOf i).toNat)
  case atStart => exact ⟨0, Nat.zero_le _, rfl, fun j hj => by omega, HCB.out⟩
  clear HCB hyl y0 y1 y2
  case round =>
    obtain ⟨k, hk, rfl, ha, hb⟩ := hrel
    have HA := Lib.hid ha
    have HB := Lib.hid hb
    clear ha hb
    by_cases hlt : k < U.length
    · have hlt' : decide ((k : Int) < U.length) = true := decide_eq_true (by omega)
      obtain ⟨c, o, q, cq, r, cr, hp, hc, h0, h1, h2, -⟩ := (HC.out.low HB.out.bel).upd k hlt
      dsimp only at hp h0 h1 h2
      subst hp
      have HB2 := Lib.hid (HB.out.low (below_alloc _ (.cells #[.int .i64 (pAt U k).1, .slice q (pAt U k).2.1.length cq, .slice r (pAt U k).2.2.length cr] 86)))
      by_cases he : (pAt U k).2.2.length = n
      · have he' : (((pAt U k).2.2.length : Int) != (n : Int)) = false := bne_eq_false_iff_eq.2 (by omega)
        have HE := Lib.hid he
        clear he
        go_wp2
        go_roundw
        case rel => exact ⟨k + 1, by omega, by go_num, all_succ HA.out HE.out, HB2.out⟩
        case measure => simp [intOf]; omega
      · have he' : (((pAt U k).2.2.length : Int) != (n : Int)) = true := bne_iff_ne.2 (by omega)
        have HV := Lib.hid (widthsB_upd (I := I) hlt he)
        go_wp2
        go_ret
        exact ⟨ret_b HV.out.symm, HB2.out.bel⟩
    · have hlt' : decide ((k : Int) < U.length) = false := decide_eq_false (by omega)
      obtain rfl : k = U.length := by omega
      obtain ⟨hyl, y0, y1, y2, -⟩ := HB.out.box
      dsimp only at y0 y1 y2
      go_wp2_with fail
      go_loopw [25] (fun i v => ∃ k : Nat, k ≤ I.length ∧ i = .int .i64 k ∧ (∀ j, j < k → (rAt I j).length = n) ∧ CBox w w.heap.size ⟨pi, ci, I, pd, cd, D, pu, cu, U⟩ v) (fun i _ => I.length - (intOf i).toNat)
      case atStart => exact ⟨0, Nat.zero_le _, rfl, fun j hj => by omega, HB.out⟩
      clear HB hyl y0 y1 y2
      case round =>
        obtain ⟨k, hk, rfl, ha, hb⟩ := hrel
        have HA2 := Lib.hid ha
        have HB := Lib.hid hb
        clear ha hb
        by_cases hlt : k < I.length
        · have hlt' : decide ((k : Int) < I.length) = true := decide_eq_true (by omega)
          obtain ⟨c, o, q, cq, hp, hc, h0, -⟩ := (HC.out.low HB.out.bel).ins k hlt
          dsimp only at hp h0
          subst hp
          by_cases he : (rAt I k).length = n
          · have he' : (((rAt I k).length : Int) != (n : Int)) = false := bne_eq_false_iff_eq.2 (by omega)
            have HE := Lib.hid he
            clear he
            go_wp2
            go_roundw
            case rel => exact ⟨k + 1, by omega, by go_num, all_succ HA2.out HE.out, HB.out⟩
            case measure => simp [intOf]; omega
          · have he' : (((rAt I k).length : Int) != (n : Int)) = true := bne_iff_ne.2 (by omega)
            have HV := Lib.hid (widthsB_ins (U := U) hlt he)
            go_wp2
            go_ret
            exact ⟨ret_b HV.out.symm, HB.out.bel⟩
        · have hlt' : decide ((k : Int) < I.length) = false := decide_eq_false (by omega)
          obtain rfl : k = I.length := by omega
          have HV := Lib.hid (widthsB_yes HA.out HA2.out)
          go_wp2
          go_ret
          exact ⟨ret_b HV.out.symm, HB.out.bel⟩
/-- The first error of Fits of a change. -/
def fitsC (f : Nat → Col) (n : Nat) (I : List (List Val)) (U : List PRow) : Int := if fitsL f n (U.map (·.2.2)) ≠ 0 then fitsL f n (U.map (·.2.2)) else fitsL f n I
theorem fitsC_upd {f : Nat → Col} {n : Nat} {I : List (List Val)} {U : List PRow} {k : Nat} (hk : k < U.length) (h1 : ∀ j, j < k → fitsRow f n (pAt U j).2.2 = 0) (hz : fitsRow f n (pAt U k).2.2 ≠ 0) : fitsC f n I U = fitsRow f n (pAt U k).2.2 := by
  have h2 : fitsL f n (U.map (·.2.2)) = fitsRow f n (pAt U k).2.2 := by
    rw [← rAt_map hk]
    exact fitsL_hit (by rw [List.length_map]; exact hk) (fun j hj => by rw [rAt_map (by omega)]; exact h1 j hj) (by rw [rAt_map hk]; exact hz)
  unfold fitsC
  rw [h2, if_pos hz]
theorem fitsU_zero {f : Nat → Col} {n : Nat} {U : List PRow} (h0 : ∀ j, j < U.length → fitsRow f n (pAt U j).2.2 = 0) : fitsL f n (U.map (·.2.2)) = 0 := fitsL_zero fun j hj => by
    rw [List.length_map] at hj
    rw [rAt_map hj]; exact h0 j hj
theorem fitsC_ins {f : Nat → Col} {n : Nat} {I : List (List Val)} {U : List PRow} (h0 : ∀ j, j < U.length → fitsRow f n (pAt U j).2.2 = 0) {k : Nat} (hk : k < I.length) (h1 : ∀ j, j < k → fitsRow f n (rAt I j) = 0) (hz : fitsRow f n (rAt I k) ≠ 0) : fitsC f n I U = fitsRow f n (rAt I k) := by
  unfold fitsC
  rw [fitsU_zero h0, if_neg (by simp), fitsL_hit hk h1 hz]
theorem fitsC_yes {f : Nat → Col} {n : Nat} {I : List (List Val)} {U : List PRow} (h0 : ∀ j, j < U.length → fitsRow f n (pAt U j).2.2 = 0) (h1 : ∀ j, j < I.length → fitsRow f n (rAt I j) = 0) : fitsC f n I U = 0 := by
  unfold fitsC
  rw [fitsU_zero h0, if_neg (by simp), fitsL_zero h1]
theorem fitsC_parts {f : Nat → Col} {n : Nat} {I : List (List Val)} {U : List PRow} (h : fitsC f n I U = 0) : (∀ u ∈ U, fitsRow f n u.2.2 = 0) ∧ ∀ l ∈ I, fitsRow f n l = 0 := by
  have hL : ∀ L : List (List Val), fitsL f n L = 0 → ∀ l ∈ L, fitsRow f n l = 0 := by
    intro L
    induction L with
    | nil => intro _ l hl; cases hl
    | cons x L ih =>
      intro h0 l hl
      have h0 : (if fitsRow f n x = 0 then fitsL f n L else fitsRow f n x) = 0 := h0
      by_cases hx : fitsRow f n x = 0
      · rw [if_pos hx] at h0
        rcases List.mem_cons.1 hl with rfl | hl
        · exact hx
        · exact ih h0 l hl
      · rw [if_neg hx] at h0; exact absurd h0 hx
  unfold fitsC at h
  by_cases hu : fitsL f n (U.map (·.2.2)) = 0
  · rw [if_neg (by simpa using hu)] at h
    exact ⟨fun u hu' => hL _ hu _ (List.mem_map.2 ⟨u, hu', rfl⟩), hL _ h⟩
  · rw [if_pos hu] at h; exact absurd h hu
/-- The boxes of fits. -/
structure FitB (w : World) (nm : ByteArray) (pc : Option Addr) (n cc : Nat) (f : Nat → Col) (C : Chg) (v : World) : Prop where
  sch : v.cell? ⟨w.heap.size, 0, none⟩ = some (.string nm) ∧ v.cell? ⟨w.heap.size, 1, none⟩ = some (.slice pc n cc) ∧ w.heap.size < v.heap.size
  box : CBox w (w.heap.size + 1) C v
  cols : ColsAt v pc n f
  chg : ChgAt v C
theorem FitB.low {w u v : World} {nm : ByteArray} {pc : Option Addr} {n cc : Nat} {f : Nat → Col} {C : Chg} (h : FitB w nm pc n cc f C u) (hb : Below u.heap.size u v) : FitB w nm pc n cc f C v :=
  ⟨keepCT hb h.sch, h.box.low hb, h.cols.low hb, h.chg.low hb⟩
set_option maxHeartbeats 1000000 in
theorem kfits_any (nm : ByteArray) (pc : Option Addr) (n cc : Nat) (f : Nat → Col) (C : Chg) (w : World) (hn : n ≤ 9223372036854775807) (hcol : ColsAt w pc n f) (hC : ChgAt w C) :
    Calls Tryd.prog 91 #[.agg #[.string nm, .slice pc n cc], C.v] w fun e w' => e = .returned (.int .i64 (fitsC f n C.I C.U)) ∧ Below w.heap.size w w' := by
  have hb0 : Below w.heap.size w ((w.alloc (.cells #[.string nm, .slice pc n cc] 24)).alloc (.cells #[.slice C.pi C.I.length C.ci, .slice C.pd C.D.length C.cd, .slice C.pu C.U.length C.cu] 79)) := below_new (below_new (Below.refl _ _) _) _
  have HF : Hid (FitB w nm pc n cc f C ((w.alloc (.cells #[.string nm, .slice pc n cc] 24)).alloc (.cells #[.slice C.pi C.I.length C.ci, .slice C.pd C.D.length C.cd, .slice C.pu C.U.length C.cu] 79))) :=
    Lib.hid ⟨keepCT (below_alloc _ _) ⟨(row2_new w (.string nm) (.slice pc n cc) 24).1, (row2_new w (.string nm) (.slice pc n cc) 24).2, by rw [size_alloc]; omega⟩, ⟨(cell3_new (w.alloc _) _ _ _ _).at (size_alloc _ _), hb0⟩, hcol.low hb0, hC.low hb0⟩
  have hI63 := hC.inl
  have hU63 := hC.ul
  obtain ⟨pi, ci, I, pd, cd, D, pu, cu, U⟩ := C
  unfold Chg.v
  dsimp only at *
  clear hC hcol hb0
  go_enter Tryd.func91, Tryd.ntmps91
  go_upto_region 1 with (fail)
  generalize World.alloc _ _ = W0 at HF ⊢
  obtain ⟨hyl, y0, y1, y2, -⟩ := HF.out.box.box
  dsimp only at y0 y1 y2
  go_wp2_with fail
  go_loopw [14] (fun i v => ∃ k : Nat, k ≤ U.length ∧ i = .int .i64 k ∧ (∀ j, j < k → fitsRow f n (pAt U j).2.2 = 0) ∧ FitB w nm pc n cc f ⟨pi, ci, I, pd, cd, D, pu, cu, U⟩ v) (fun i _ => U.length - (intOf i).toNat)
  case atStart => exact ⟨0, Nat.zero_le _, rfl, fun j hj => by omega, HF.out⟩
  clear HF hyl y0 y1 y2
  case round =>
    obtain ⟨k, hk, rfl, ha, hb⟩ := hrel
    have HA := Lib.hid ha
    have HB := Lib.hid hb
    clear ha hb
    by_cases hlt : k < U.length
    · have hlt' : decide ((k : Int) < U.length) = true := decide_eq_true (by omega)
      obtain ⟨c, o, q, cq, r, cr, hp, hc, h0, h1, h2, -, hr, -⟩ := HB.out.chg.upd k hlt
      dsimp only at hp h0 h1 h2 hr
      subst hp
      have hbn := below_alloc wr (.cells #[.int .i64 (pAt U k).1, .slice q (pAt U k).2.1.length cq, .slice r (pAt U k).2.2.length cr] 86)
      have HB2 := Lib.hid (HB.out.low hbn)
      have HR := Lib.hid (hr.low hbn)
      have HS : Hid (ValsSized (pAt U k).2.2) := Lib.hid (HB.out.chg.usz _ (pAt_mem hlt))
      have HP := Lib.hid (cell3_new wr (.int .i64 (pAt U k).1) (.slice q (pAt U k).2.1.length cq) (.slice r (pAt U k).2.2.length cr) 86)
      clear hbn hr HB
      go_upto_region 4 with (fail)
      clear h0 h1 h2 hc
      generalize World.alloc _ _ = W2 at HB2 HR HP ⊢
      generalize wr.heap.size = X at HP ⊢
      obtain ⟨s0, s1, sl⟩ := HB2.out.sch
      obtain ⟨pl, p0, p1, p2, -⟩ := HP.out
      go_wp2_with fail
      refine (rowfits6_any nm pc n cc f r (pAt U k).2.2 cr _ hn HB2.out.cols HR.out HS.out).mono ?_
      rintro e w3 ⟨rfl, hb3⟩
      have HB3 := Lib.hid (HB2.out.low hb3)
      clear HB2 HR HS hb3 s0 s1 sl HP pl p0 p1 p2
      cases hz : (fitsRow f n (pAt U k).2.2 != 0)
      · have HE := Lib.hid (bne_eq_false_iff_eq.1 hz)
        go_wp2
        go_roundw
        case rel => exact ⟨k + 1, by omega, by go_num, all_succ HA.out HE.out, HB3.out⟩
        case measure => simp [intOf]; omega
      · have HE := Lib.hid (fitsC_upd (I := I) hlt HA.out (bne_iff_ne.1 hz))
        go_wp2
        go_ret
        exact ⟨ret_int HE.out.symm, HB3.out.box.bel⟩
    · have hlt' : decide ((k : Int) < U.length) = false := decide_eq_false (by omega)
      obtain rfl : k = U.length := by omega
      obtain ⟨hyl, y0, y1, y2, -⟩ := HB.out.box.box
      dsimp only at y0 y1 y2
      go_wp2_with fail
      go_loopw [29] (fun i v => ∃ k : Nat, k ≤ I.length ∧ i = .int .i64 k ∧ (∀ j, j < k → fitsRow f n (rAt I j) = 0) ∧ FitB w nm pc n cc f ⟨pi, ci, I, pd, cd, D, pu, cu, U⟩ v) (fun i _ => I.length - (intOf i).toNat)
      case atStart => exact ⟨0, Nat.zero_le _, rfl, fun j hj => by omega, HB.out⟩
      clear HB hyl y0 y1 y2
      case round =>
        obtain ⟨k, hk, rfl, ha, hb⟩ := hrel
        have HA2 := Lib.hid ha
        have HB := Lib.hid hb
        clear ha hb
        by_cases hlt : k < I.length
        · have hlt' : decide ((k : Int) < I.length) = true := decide_eq_true (by omega)
          obtain ⟨c, o, q, cq, hp, hc, h0, hr, -⟩ := HB.out.chg.ins k hlt
          dsimp only at hp h0 hr
          subst hp
          have HR := Lib.hid hr
          have HS : Hid (ValsSized (rAt I k)) := Lib.hid (HB.out.chg.isz _ (by rw [rAt_get hlt]; exact List.getElem_mem hlt))
          obtain ⟨s0, s1, sl⟩ := HB.out.sch
          clear hr
          go_wp2_with fail
          refine (rowfits6_any nm pc n cc f q (rAt I k) cq _ hn HB.out.cols HR.out HS.out).mono ?_
          rintro e w3 ⟨rfl, hb3⟩
          have HB3 := Lib.hid (HB.out.low hb3)
          clear HB HR HS hb3 s0 s1 sl h0 hc
          cases hz : (fitsRow f n (rAt I k) != 0)
          · have HE := Lib.hid (bne_eq_false_iff_eq.1 hz)
            go_wp2
            go_roundw
            case rel => exact ⟨k + 1, by omega, by go_num, all_succ HA2.out HE.out, HB3.out⟩
            case measure => simp [intOf]; omega
          · have HE := Lib.hid (fitsC_ins HA.out hlt HA2.out (bne_iff_ne.1 hz))
            go_wp2
            go_ret
            exact ⟨ret_int HE.out.symm, HB3.out.box.bel⟩
        · have hlt' : decide ((k : Int) < I.length) = false := decide_eq_false (by omega)
          obtain rfl : k = I.length := by omega
          have HV := Lib.hid (fitsC_yes HA.out HA2.out)
          go_wp2
          go_ret
          exact ⟨ret_int HV.out.symm, HB.out.box.bel⟩
/-- Is there room, and are there numbers? -/
def roomB (nx : Int) (R : List TRow) (I : List (List Val)) (D : List Int) : Bool := decide ((R.length : Int) - D.length + I.length ≤ 100 ∧ (I.length : Int) ≤ 2147483648 - nx)
set_option maxHeartbeats 1000000 in
theorem room_any (T : Tab) (C : Chg) (w : World) (hR : T.R.length ≤ 100) (hD : C.D.length ≤ 100) (hI : C.I.length ≤ 1000) (h1 : 1 ≤ T.nx) (h2 : T.nx ≤ 2147483648) :
    Calls Tryd.prog 92 #[T.v, C.v] w fun e w' => e = .returned (.bool (roomB T.nx T.R C.I C.D)) ∧ Below w.heap.size w w' := by
  obtain ⟨nm, pc, n, cc, f, nx, pr, cr, R⟩ := T
  obtain ⟨pi, ci, I, pd, cd, D, pu, cu, U⟩ := C
  unfold Tab.v Chg.v
  dsimp only at *
  have e1 : IntKind.i64.wrap ((R.length : Int) - D.length) = (R.length : Int) - D.length := i64w (by omega) (by omega)
  have e2 : IntKind.i64.wrap (100 - ((R.length : Int) - D.length)) = 100 - ((R.length : Int) - D.length) := i64w (by omega) (by omega)
  have e3 : IntKind.i64.wrap (nx - 1) = nx - 1 := i64w (by omega) (by omega)
  have e4 : IntKind.i64.wrap (2147483647 - (nx - 1)) = 2147483647 - (nx - 1) := i64w (by omega) (by omega)
  have er : decide ((I.length : Int) ≤ min (100 - ((R.length : Int) - D.length)) (2147483647 - (nx - 1))) = roomB nx R I D := by
    unfold roomB
    rw [decide_eq_decide]
    omega
  have HER := Lib.hid er
  clear er
  go_enter Tryd.func92, Tryd.ntmps92
  go_wp2
  go_ret
  exact ⟨ret_b HER.out, below_new (below_new (Below.refl _ _) _) _⟩
end Go.Proofs.YtgaihglploedaaaDoor
/-
  Package keys: remaining (the loop over the rows).
-/
namespace Go.Proofs.YtgaihglploedaaaDoor
set_option maxRecDepth 100000
open Go.RowKit
variable {ls : List Nat}

set_option maxHeartbeats 1000000 in
theorem eqvals_any (p q : Option Addr) (a b : List Val) (ca cb : Nat) (w : World) (hla : a.length ≤ 9223372036854775807) (ha : RowAt w p a) (hb : RowAt w q b) :
    Calls Tryd.prog 127 #[.slice p a.length ca, .slice q b.length cb, .func (.func 85) #[] #[]] w fun e w' => e = .returned (.bool (decide (a = b))) ∧ Below w.heap.size w w' := by
  have HP := Lib.hid ha
  have HQ := Lib.hid hb
  clear ha hb
  by_cases hl : a.length = b.length
  · have hlI : ((a.length : Int) != (b.length : Int)) = false := by simp [hl]
    have HL := Lib.hid hl
    clear hl
    go_enter Tryd.func127, Tryd.ntmps127
    go_wp2_with fail
    go_loopw [17] (fun i v => ∃ k : Nat, k ≤ a.length ∧ i = .int .i64 k ∧ (∀ j, j < k → vAt a j = vAt b j) ∧ Below w.heap.size w v) (fun i _ => a.length - (intOf i).toNat)
    case atStart => exact ⟨0, Nat.zero_le _, rfl, fun j hj => by omega, Below.refl _ _⟩
    case round =>
      obtain ⟨k, hk, rfl, heq, hb⟩ := hrel
      have HEQ := Lib.hid heq
      have HB := Lib.hid hb
      clear heq hb
      by_cases hlt : k < a.length
      · have hlt' : decide ((k : Int) < a.length) = true := decide_eq_true (by omega)
        have hkb : k < b.length := by have := HL.out; omega
        have hkI : (k : Int) < (b.length : Int) := by omega
        obtain ⟨c, o, rfl, hc, x0, x1, x2⟩ := HP.out.low HB.out k hlt
        obtain ⟨c', o', rfl, hc', y0, y1, y2⟩ := HQ.out.low HB.out k hkb
        go_wp2_with fail
        refine (same_any _ _ _ _ _ _ _).mono ?_
        rintro e v1 ⟨rfl, hb1⟩
        have HB1 := Lib.hid (below_next (below_new (below_new HB.out _) _) hb1)
        clear HB hb1 x0 x1 x2 y0 y1 y2 hc hc'
        cases hsame : sameV (vAt a k).1 (vAt a k).2.1 (vAt a k).2.2 (vAt b k).1 (vAt b k).2.1 (vAt b k).2.2
        · have HD : Hid (¬ a = b) := Lib.hid (fun h => by
            rw [h] at hsame
            rw [same_vals.2 rfl] at hsame
            cases hsame)
          go_wp2
          go_ret
          exact ⟨ret_b (decide_eq_false HD.out).symm, HB1.out⟩
        · have HS := Lib.hid (same_vals.1 hsame)
          go_wp2
          go_roundw
          case rel => exact ⟨k + 1, by omega, by go_num, fun j hj => by
            by_cases hjk : j = k
            · subst hjk; exact HS.out
            · exact HEQ.out j (by omega), HB1.out⟩
          case measure => simp [intOf]; omega
      · have hlt' : decide ((k : Int) < a.length) = false := decide_eq_false (by omega)
        obtain rfl : k = a.length := by omega
        have HD : Hid (a = b) := Lib.hid (ext_vals HL.out HEQ.out)
        go_wp2
        go_ret
        exact ⟨ret_b (decide_eq_true HD.out).symm, HB.out⟩
  · have hlI : ((a.length : Int) != (b.length : Int)) = true := bne_iff_ne.2 (by omega)
    have HD : Hid (¬ a = b) := Lib.hid (fun h => hl (by rw [h]))
    clear hl
    go_enter Tryd.func127, Tryd.ntmps127
    go_wp2
    go_ret
    exact ⟨ret_b (decide_eq_false HD.out).symm, Below.refl _ _⟩
/-- Values that lie in a world. -/
def LiesV (w : World) (v : Value) (l : List Val) : Prop := ∃ (q : Option Addr) (c : Nat), v = .slice q l.length c ∧ RowAt w q l ∧ l.length * 32 ≤ 140737488355328 ∧ (q = none → l = [] ∧ c = 0)
/-- Rows of the call's own; the values lie in w0, but those of the first k, which are the call's own, too. -/
structure MOwn (w0 u : World) (base k : Nat) (vr : Value) (G : List GRow) : Prop where
  own : u.ownsRow base 68 2 vr G.length (tcells G)
  fst : ∀ i, i < k → i < G.length → InRow u base ((grAt G i).2.1, (grAt G i).2.2)
  snd : ∀ i, k ≤ i → i < G.length → LiesV w0 (grAt G i).2.1 (grAt G i).2.2
  low : Below w0.heap.size w0 u
  hb : w0.heap.size ≤ base
theorem MOwn.to {w0 u v : World} {base k : Nat} {vr : Value} {G : List GRow} (h : MOwn w0 u base k vr G) (hb : Below u.heap.size u v) : MOwn w0 v base k vr G :=
  ⟨owns_below h.own hb, fun i hi hl => (h.fst i hi hl).low hb, h.snd, h.low.trans (hb.mono h.low.size), h.hb⟩
theorem MOwn.nil {w0 u : World} (base : Nat) (hb : Below w0.heap.size w0 u) (h : w0.heap.size ≤ base) : MOwn w0 u base 0 (.slice none 0 0) [] :=
  ⟨⟨rfl, Or.inl ⟨rfl, rfl⟩⟩, fun i hi => by omega, fun i _ hi => by simp at hi, hb, h⟩
theorem grAt_left {A B : List GRow} {i : Nat} (h : i < A.length) : grAt (A ++ B) i = grAt A i := by unfold grAt; rw [List.getD, List.getElem?_append_left h]; rfl
theorem grAt_last (A : List GRow) (x : GRow) : grAt (A ++ [x]) A.length = x := by unfold grAt; simp
theorem MOwn.setX {w0 u : World} {base X o : Nat} {vr : Value} {G : List GRow} (h : MOwn w0 u base 0 vr G) (hX : w0.heap.size ≤ X) (hne : ∀ j, vr.ownBlock = some j → j < X) (y : Value) : MOwn w0 (u.setCell ⟨X, o, none⟩ y) base 0 vr G :=
  ⟨owns_keep h.own fun k hk => Below.heap_setCell _ _ _ _ (fun e => by have := hne k hk; have e : k = X := e; omega), fun i hi => by omega, h.snd, h.low.setCell (by exact hX) _, h.hb⟩
/-- A row is added whose values lie in w0. -/
theorem MOwn.push {w0 u w8 : World} {base : Nat} {vr v8 : Value} {G : List GRow} {g : GRow} (h : MOwn w0 u base 0 vr G) (hg : LiesV w0 g.2.1 g.2.2)
    (ho : w8.ownsRow base 68 2 v8 (G ++ [g]).length (tcells (G ++ [g]))) (hgr : u.grownBy w8 vr.ownBlock) (_hbase : base ≤ u.heap.size) : MOwn w0 w8 base 0 v8 (G ++ [g]) := by
  refine ⟨ho, fun i hi => by omega, fun i _ hi => ?_, grown_below h.low h.low.size hgr fun k hk => Nat.le_trans h.hb (owns_block h.own k hk), h.hb⟩
  rw [List.length_append, List.length_singleton] at hi
  by_cases hlt : i < G.length
  · rw [grAt_left hlt]; exact h.snd i (Nat.zero_le _) hlt
  · obtain rfl : i = G.length := by omega
    rw [grAt_last]; exact hg
/-- What remaining gives. -/
def RemPost (R : List TRow) (D : List Int) (U : List PRow) (w0 w : World) (e : Ending) (w' : World) : Prop :=
  ∃ v : Value, e = .returned (.tuple #[v, .bool (remR R D U).isSome]) ∧ Below w.heap.size w w' ∧ ∀ X, remR R D U = some X → ∃ G, tabR G = X ∧ MOwn w0 w' w.heap.size 0 v G
theorem NumAt.tail {w : World} {c o cap : Nat} {D : List Int} (h : NumAt w (some ⟨c, o, none⟩) D) (h0 : 0 < D.length) (hc : D.length ≤ cap) : NumAt w (if cap = 1 then some ⟨c, o, none⟩ else some ⟨c, o + 1, none⟩) (D.drop 1) := fun i hi => by
  rw [List.length_drop] at hi
  rw [if_neg (by omega)]
  obtain ⟨c', o', hp, hs, h1⟩ := h (i + 1) (by omega)
  cases hp
  refine ⟨c, o + 1, rfl, hs, ?_⟩
  have e : iAt (D.drop 1) i = iAt D (i + 1) := by unfold iAt; rw [List.getD, List.getElem?_drop, Nat.add_comm]; rfl
  rw [e, show o + 1 + i = o + (i + 1) by omega]
  exact h1
theorem PairsAt.tail {w : World} {c o cap : Nat} {U : List PRow} (h : PairsAt w (some ⟨c, o, none⟩) U) (h0 : 0 < U.length) (hc : U.length ≤ cap) : PairsAt w (if cap = 1 then some ⟨c, o, none⟩ else some ⟨c, o + 3, none⟩) (U.drop 1) := fun i hi => by
  rw [List.length_drop] at hi
  rw [if_neg (by omega)]
  obtain ⟨c', o', q, cq, r, cr, hp, hs, h1, h2, h3, h4⟩ := h (i + 1) (by omega)
  cases hp
  have e : pAt (U.drop 1) i = pAt U (i + 1) := by unfold pAt; rw [List.getD, List.getElem?_drop, Nat.add_comm]; rfl
  refine ⟨c, o + 3, q, cq, r, cr, rfl, hs, ?_⟩
  rw [e, show o + 3 + i * 3 = o + (i + 1) * 3 by omega]
  exact ⟨h1, h2, h3, h4⟩
theorem rem_head {D : List Int} {z : Int} : D.head? = some z ↔ 0 < D.length ∧ iAt D 0 = z := by
  cases D with
  | nil => simp
  | cons d D => simp [iAt]
theorem rem_headU {U : List PRow} {z : Int} : U.head?.map (·.1) = some z ↔ 0 < U.length ∧ (pAt U 0).1 = z := by
  cases U with
  | nil => simp
  | cons d D => simp [pAt]
theorem rem_nil {D : List Int} {U : List PRow} : remR [] D U = if D.length = 0 ∧ U.length = 0 then some [] else none := by
  show (if D = [] ∧ U = [] then some [] else none) = _
  simp only [List.length_eq_zero_iff]
/-- The rest of the rows, from row k on. -/
structure RemAt (R : List TRow) (D : List Int) (U : List PRow) (k : Nat) (D' : List Int) (U' : List PRow) (X : List TRow) : Prop where
  eq : remR R D U = (remR (R.drop k) D' U').map (X ++ ·)
theorem RemAt.start (R : List TRow) (D : List Int) (U : List PRow) : RemAt R D U 0 D U [] := ⟨by rw [List.drop_zero]; cases remR R D U <;> simp⟩
section
variable {R : List TRow} {D D' : List Int} {U U' : List PRow} {k : Nat} {X : List TRow}
theorem RemAt.del (h : RemAt R D U k D' U' X) (hk : k < R.length) (hd : 0 < D'.length ∧ iAt D' 0 = (tAt R k).1) : RemAt R D U (k + 1) (D'.drop 1) U' X := by
  refine ⟨?_⟩
  rw [h.eq, drop_trow hk]
  show ((if D'.head? = some (tAt R k).1 then _ else _) : Option (List TRow)).map _ = _
  rw [if_pos (rem_head.2 hd), List.drop_one]
theorem RemAt.mis (h : RemAt R D U k D' U' X) (hk : k < R.length) (hd : ¬ (0 < D'.length ∧ iAt D' 0 = (tAt R k).1)) (hu : 0 < U'.length ∧ (pAt U' 0).1 = (tAt R k).1) (ho : ¬ (pAt U' 0).2.1 = (tAt R k).2) : remR R D U = none := by
  rw [h.eq, drop_trow hk]
  show ((if D'.head? = some (tAt R k).1 then _ else if U'.head?.map (·.1) = some (tAt R k).1 then _ else _) : Option (List TRow)).map _ = _
  rw [if_neg (fun hc => hd (rem_head.1 hc)), if_pos (rem_headU.2 hu), if_neg ho]
  rfl
theorem RemAt.upd (h : RemAt R D U k D' U' X) (hk : k < R.length) (hd : ¬ (0 < D'.length ∧ iAt D' 0 = (tAt R k).1)) (hu : 0 < U'.length ∧ (pAt U' 0).1 = (tAt R k).1) (ho : (pAt U' 0).2.1 = (tAt R k).2) : RemAt R D U (k + 1) D' (U'.drop 1) (X ++ [((tAt R k).1, (pAt U' 0).2.2)]) := by
  refine ⟨?_⟩
  rw [h.eq, drop_trow hk]
  show ((if D'.head? = some (tAt R k).1 then _ else if U'.head?.map (·.1) = some (tAt R k).1 then _ else _) : Option (List TRow)).map _ = _
  rw [if_neg (fun hc => hd (rem_head.1 hc)), if_pos (rem_headU.2 hu), if_pos ho, List.drop_one]
  cases remR (R.drop (k + 1)) D' U'.tail <;> simp
theorem RemAt.keep (h : RemAt R D U k D' U' X) (hk : k < R.length) (hd : ¬ (0 < D'.length ∧ iAt D' 0 = (tAt R k).1)) (hu : ¬ (0 < U'.length ∧ (pAt U' 0).1 = (tAt R k).1)) : RemAt R D U (k + 1) D' U' (X ++ [((tAt R k).1, (tAt R k).2)]) := by
  refine ⟨?_⟩
  rw [h.eq, drop_trow hk]
  show ((if D'.head? = some (tAt R k).1 then _ else if U'.head?.map (·.1) = some (tAt R k).1 then _ else _) : Option (List TRow)).map _ = _
  rw [if_neg (fun hc => hd (rem_head.1 hc)), if_neg (fun hc => hu (rem_headU.1 hc))]
  cases remR (R.drop (k + 1)) D' U' <;> simp
theorem RemAt.done (h : RemAt R D U R.length D' U' X) : remR R D U = if D'.length = 0 ∧ U'.length = 0 then some X else none := by
  rw [h.eq, List.drop_length, rem_nil]
  split <;> simp
end
/-- The two lists, as the loop holds them. -/
structure TwoL (w : World) (pd : Option Addr) (cd : Nat) (D : List Int) (pu : Option Addr) (cu : Nat) (U : List PRow) : Prop where
  del : NumAt w pd D
  upd : PairsAt w pu U
  dl : D.length ≤ cd
  ul : U.length ≤ cu
theorem TwoL.dropD {w : World} {c o cd : Nat} {D : List Int} {pu : Option Addr} {cu : Nat} {U : List PRow} (h : TwoL w (some ⟨c, o, none⟩) cd D pu cu U) (h0 : 0 < D.length) : TwoL w (if cd = 1 then some ⟨c, o, none⟩ else some ⟨c, o + 1, none⟩) (cd - 1) (D.drop 1) pu cu U :=
  ⟨h.del.tail h0 h.dl, h.upd, by rw [List.length_drop]; have := h.dl; omega, h.ul⟩
theorem TwoL.dropU {w : World} {c o cd : Nat} {D : List Int} {pd : Option Addr} {cu : Nat} {U : List PRow} (h : TwoL w pd cd D (some ⟨c, o, none⟩) cu U) (h0 : 0 < U.length) : TwoL w pd cd D (if cu = 1 then some ⟨c, o, none⟩ else some ⟨c, o + 3, none⟩) (cu - 1) (U.drop 1) :=
  ⟨h.del, h.upd.tail h0 h.ul, h.dl, by rw [List.length_drop]; have := h.ul; omega⟩
theorem keepKR {u v : World} {c X o : Nat} {x y : Value} (hb : Below u.heap.size u v) (h : u.cell? ⟨c, o, none⟩ = some x ∧ c < u.heap.size ∧ u.cell? ⟨X, 1, none⟩ = some y ∧ X < u.heap.size) : v.cell? ⟨c, o, none⟩ = some x ∧ c < v.heap.size ∧ v.cell? ⟨X, 1, none⟩ = some y ∧ X < v.heap.size := by
  obtain ⟨a, b, d, e⟩ := h
  exact ⟨by rw [hb.cell (by exact b)]; exact a, Nat.lt_of_lt_of_le b hb.size, by rw [hb.cell (by exact e)]; exact d, Nat.lt_of_lt_of_le e hb.size⟩
theorem undrewB {B : Nat} {u v : World} (h : Below B u.drew v) : Below B u v := ⟨h.os, h.tape, h.output, h.size, h.block⟩
theorem cell2_put1 {u : World} {X : Nat} {x y : Value} (h : Cell2 u X x y) (z : Value) : Cell2 (u.setCell ⟨X, 1, none⟩ z) X x z := by
  obtain ⟨hl, c0, c1, fz⟩ := h
  refine ⟨by simpa [World.setCell] using hl, ?_, ?_, fun o => ?_⟩
  · go_simp
  · go_simp
  · rw [World.frozen?_setCell]; exact fz o
/-- The relation of the loop. -/
def RemRel (w0 w : World) (R : List TRow) (D : List Int) (U : List PRow) (r d u i : Value) (v : World) : Prop :=
  ∃ (k : Nat) (vr : Value) (G : List GRow) (pd : Option Addr) (md cd : Nat) (D' : List Int) (pu : Option Addr) (mu cu : Nat) (U' : List PRow), k ≤ R.length ∧ vr = r ∧ d = .slice pd md cd ∧ u = .slice pu mu cu ∧ i = .int .i64 k ∧ md = D'.length ∧ mu = U'.length ∧ G.length ≤ k ∧ TwoL w0 pd cd D' pu cu U' ∧ RemAt R D U k D' U' (tabR G) ∧ MOwn w0 v w.heap.size 0 vr G ∧ Below w.heap.size w v ∧ md ≤ 9223372036854775807 ∧ mu ≤ 9223372036854775807
set_option maxHeartbeats 16000000 in
theorem remaining_any (T : Tab) (C : Chg) (w0 w : World) (hR : TRowsAt w0 T.pr T.R) (hR63 : T.R.length ≤ 1000) (hC : ChgAt w0 C) (hb0 : Below w0.heap.size w0 w) :
    Calls Tryd.prog 113 #[T.v, C.v] w (RemPost T.R C.D C.U w0 w) := by
  obtain ⟨nm, pc, n, cc, f, nx, pr, cr, R⟩ := T
  obtain ⟨pi, ci, I, pd, cd, D, pu, cu, U⟩ := C
  unfold Tab.v Chg.v
  dsimp only at *
  have hD63 := hC.dl
  have hU63 := hC.ul
  dsimp only at hR63 hD63 hU63
  have HR := Lib.hid hR
  have HW0 := Lib.hid hb0
  have HTL : Hid (TwoL w0 pd cd D pu cu U) := Lib.hid ⟨hC.del, hC.upd, hC.dcap, hC.ucap⟩
  have HB0 : Hid (Below w.heap.size w ((w.alloc (.cells #[.string nm, .slice pc n cc, .int .i64 nx, .slice pr R.length cr] 51)).alloc (.cells #[.slice pi I.length ci, .slice pd D.length cd, .slice pu U.length cu] 79))) := Lib.hid (below_new (below_new (Below.refl _ _) _) _)
  have HX : Hid (Cell4 ((w.alloc (.cells #[.string nm, .slice pc n cc, .int .i64 nx, .slice pr R.length cr] 51)).alloc (.cells #[.slice pi I.length ci, .slice pd D.length cd, .slice pu U.length cu] 79)) w.heap.size (.string nm) (.slice pc n cc) (.int .i64 nx) (.slice pr R.length cr)) := Lib.hid ((cell4_new w _ _ _ _ _).low (below_alloc _ _))
  have HY : Hid (Cell3 ((w.alloc (.cells #[.string nm, .slice pc n cc, .int .i64 nx, .slice pr R.length cr] 51)).alloc (.cells #[.slice pi I.length ci, .slice pd D.length cd, .slice pu U.length cu] 79)) (w.heap.size + 1) (.slice pi I.length ci) (.slice pd D.length cd) (.slice pu U.length cu)) := Lib.hid ((cell3_new (w.alloc _) _ _ _ _).at (size_alloc _ _))
  clear hR hC hb0
  go_enter Tryd.func113, Tryd.ntmps113
  go_upto_region 2 with (fail)
  generalize World.alloc _ _ = W0 at HB0 HX HY ⊢
  obtain ⟨xl, x0, x1, x2, x3, -⟩ := HX.out
  obtain ⟨yl, y0, y1, y2, -⟩ := HY.out
  go_quiet (fail)
  go_wp2_with fail
  go_loopw [6, 7, 8, 18] (fun r d u i v => RemRel w0 w R D U r d u i v) (fun _ _ _ i _ => R.length - (intOf i).toNat)
  case atStart => exact ⟨0, .slice none 0 0, [], pd, _, cd, D, pu, _, cu, U, Nat.zero_le _, rfl, rfl, rfl, rfl, rfl, rfl, Nat.le_refl _, HTL.out, RemAt.start R D U, MOwn.nil _ (HW0.out.trans ((below_drewN HB0.out _).mono HW0.out.size)) HW0.out.size, below_drewN HB0.out _, hD63, hU63⟩
  clear HX HY HB0 HTL xl x0 x1 x2 x3 yl y0 y1 y2 hD63 hU63
  case round =>
    obtain ⟨k, vr, G, pd, md, cd, D', pu, mu, cu, U', hk, rfl, rfl, rfl, rfl, hmd, hmu, hGk, htl, hra, hown, hbw, hmd63, hmu63⟩ := hrel
    have HTL := Lib.hid htl
    have HRA := Lib.hid hra
    have HOW := Lib.hid hown
    have HBW := Lib.hid hbw
    have HMD := Lib.hid hmd
    have HMU := Lib.hid hmu
    clear htl hra hown hmd hmu hbw
    by_cases hlt : k < R.length
    · have hlt' : decide ((k : Int) < R.length) = true := decide_eq_true (by omega)
      obtain ⟨c, o, q, cp, rfl, hc', h0', h1', hr, hs, hqn⟩ := HR.out k hlt
      have hc := Nat.lt_of_lt_of_le hc' HOW.out.low.size
      have h0 : wr.cell? ⟨c, o + k * 2, none⟩ = some (.int .i64 (tAt R k).1) := by rw [HOW.out.low.cell (by exact hc')]; exact h0'
      have h1 : wr.cell? ⟨c, o + k * 2 + 1, none⟩ = some (.slice q (tAt R k).2.length cp) := by rw [HOW.out.low.cell (by exact hc')]; exact h1'
      have HLV : Hid (LiesV w0 (.slice q (tAt R k).2.length cp) (tAt R k).2) := Lib.hid ⟨q, cp, rfl, hr, hs, hqn⟩
      have hbn := below_alloc wr (.cells #[.int .i64 (tAt R k).1, .slice q (tAt R k).2.length cp] 68)
      have HOW2 := Lib.hid (HOW.out.to hbn)
      have HBW2 := Lib.hid (below_next HBW.out hbn)
      have HX2 := Lib.hid (cell2_new wr (.int .i64 (tAt R k).1) (.slice q (tAt R k).2.length cp) 68)
      have HRW := Lib.hid hr
      have HSZ := Lib.hid hs
      have HNX0 : Hid (∀ j, vr.ownBlock = some j → j < wr.heap.size) := Lib.hid (owns_lt HOW.out.own)
      have HXW0 : Hid (w0.heap.size ≤ wr.heap.size ∧ w.heap.size ≤ wr.heap.size) := Lib.hid ⟨HOW.out.low.size, HBW.out.size⟩
      clear h0' h1' hc' hr hs hqn hbn
      go_upto_region 6 with (fail)
      clear h0 h1 hc HOW HBW
      generalize World.alloc _ _ = W2 at HOW2 HX2 HBW2 ⊢
      generalize wr.heap.size = X at HX2 HNX0 HXW0 ⊢
      have HNX : Hid (∀ j, vr.ownBlock = some j → j < X) := HNX0
      have HXW : Hid (w0.heap.size ≤ X) := Lib.hid HXW0.out.1
      have HXB : Hid (w.heap.size ≤ X) := Lib.hid HXW0.out.2
      clear HNX0 HXW0
      obtain ⟨rl, r0, r1, rf⟩ := HX2.out
      have hq64 : (tAt R k).2.length ≤ 9223372036854775807 := by have := HSZ.out; omega
      obtain ⟨db, hdb⟩ : ∃ b, decide (0 < D'.length ∧ iAt D' 0 = (tAt R k).1) = b := ⟨_, rfl⟩
      have HDB := Lib.hid hdb
      clear hdb
      go_cut [32] from 22 to 32 (fun s wx => s = .bool db ∧ Below W2.heap.size W2 wx)
      case first =>
        by_cases hd0 : 0 < D'.length
        · obtain ⟨c1, o1, rfl, hc1, n0'⟩ := HTL.out.del 0 hd0
          have n0 : W2.cell? ⟨c1, o1, none⟩ = some (.int .i64 (iAt D' 0)) := by rw [HOW2.out.low.cell (by exact hc1)]; exact n0'
          have hm0 : 0 < md := by have := HMD.out; omega
          have gD : decide (0 < md) = true := decide_eq_true hm0
          have heb : (iAt D' 0 == (tAt R k).1) = db := by
            rw [← HDB.out]
            by_cases he : iAt D' 0 = (tAt R k).1
            · rw [decide_eq_true ⟨hd0, he⟩]; exact beq_iff_eq.2 he
            · rw [decide_eq_false fun hc => he hc.2]; exact beq_eq_false_iff_ne.2 he
          clear n0' hc1 hd0
          go_quiet (fail)
          go_wp2_with fail
          go_meet
          exact ⟨rfl, below_drewN (Below.refl _ _) _⟩
        · have gN : ¬ 0 < md := by have := HMD.out; omega
          have gD : decide (0 < md) = false := decide_eq_false gN
          obtain rfl : false = db := by rw [← HDB.out, decide_eq_false fun hc => hd0 hc.1]
          clear hd0
          go_quiet (fail)
          go_wp2_with fail
          go_meet
          exact ⟨rfl, below_drewN (Below.refl _ _) _⟩
      case rest =>
        obtain ⟨rfl, hbc⟩ := hcut
        have HOW3 := Lib.hid (HOW2.out.to hbc)
        have HX3 := Lib.hid (HX2.out.low hbc)
        have HBW3 := Lib.hid (below_next HBW2.out hbc)
        clear hbc HOW2 HX2 HBW2 rl r0 r1 rf
        obtain ⟨rl, r0, r1, rf⟩ := HX3.out
        cases db
        · have HND : Hid (¬ (0 < D'.length ∧ iAt D' 0 = (tAt R k).1)) := Lib.hid (of_decide_eq_false HDB.out)
          clear HDB
          obtain ⟨ub, hub⟩ : ∃ b, decide (0 < U'.length ∧ (pAt U' 0).1 = (tAt R k).1) = b := ⟨_, rfl⟩
          have HUB := Lib.hid hub
          clear hub
          go_upto_region 8 with (fail)
          generalize wc = wd at *
          go_cut [46] from 35 to 46 (fun s wx => s = .bool ub ∧ Below wd.heap.size wd wx)
          case first =>
            by_cases hu0 : 0 < U'.length
            · obtain ⟨c1, o1, q1, cq1, r1', cr1, rfl, hc1, n0', -⟩ := HTL.out.upd 0 hu0
              have n0 : wd.cell? ⟨c1, o1, none⟩ = some (.int .i64 (pAt U' 0).1) := by rw [HOW3.out.low.cell (by exact hc1)]; rw [Nat.zero_mul] at n0'; exact n0'
              have hm0 : 0 < mu := by have := HMU.out; omega
              have gD : decide (0 < mu) = true := decide_eq_true hm0
              have heb : ((pAt U' 0).1 == (tAt R k).1) = ub := by
                rw [← HUB.out]
                by_cases he : (pAt U' 0).1 = (tAt R k).1
                · rw [decide_eq_true ⟨hu0, he⟩]; exact beq_iff_eq.2 he
                · rw [decide_eq_false fun hc => he hc.2]; exact beq_eq_false_iff_ne.2 he
              clear n0' hc1 hu0
              go_quiet (fail)
              go_wp2_with fail
              go_meet
              exact ⟨rfl, below_drewN (Below.refl _ _) _⟩
            · have gN : ¬ 0 < mu := by have := HMU.out; omega
              have gD : decide (0 < mu) = false := decide_eq_false gN
              obtain rfl : false = ub := by rw [← HUB.out, decide_eq_false fun hc => hu0 hc.1]
              clear hu0
              go_quiet (fail)
              go_wp2_with fail
              go_meet
              exact ⟨rfl, below_drewN (Below.refl _ _) _⟩
          case rest =>
            obtain ⟨rfl, hbc⟩ := hcut
            have HOW4 := Lib.hid (HOW3.out.to hbc)
            have HX4 := Lib.hid (HX3.out.low hbc)
            have HBW4 := Lib.hid (below_next HBW3.out hbc)
            clear hbc HOW3 HX3 HBW3 rl r0 r1 rf
            cases ub
            · have HNU : Hid (¬ (0 < U'.length ∧ (pAt U' 0).1 = (tAt R k).1)) := Lib.hid (of_decide_eq_false HUB.out)
              clear HUB
              obtain ⟨rl, r0, r1, rf⟩ := HX4.out
              have hb5 := below_alloc wc (.cells #[.int .i64 (tAt R k).1, .slice q (tAt R k).2.length cp] 68)
              have HO5 := Lib.hid (HOW4.out.to hb5)
              have HB5 := Lib.hid (below_next HBW4.out hb5)
              have HN5 := Lib.hid (row2_new wc (.int .i64 (tAt R k).1) (.slice q (tAt R k).2.length cp) 68)
              have HLO : Hid (w.heap.size ≤ (wc.alloc (.cells #[.int .i64 (tAt R k).1, .slice q (tAt R k).2.length cp] 68)).heap.size) := Lib.hid HB5.out.size
              clear hb5
              go_wp2_with (at_builtin; refine wpList_append_trow rfl (.tmp 62) (.tmp 64) rfl w.heap.size vr G (by rfl) HO5.out.own wc.heap.size (tAt R k).1 (.slice q (tAt R k).2.length cp) (tAt R k).2 (by rfl) HN5.out.1 HN5.out.2 rfl (by omega) HLO.out ?_; intro v8 w8 hown8 hg8; (have HO8 := Lib.hid (HO5.out.push (g := ((tAt R k).1, .slice q (tAt R k).2.length cp, (tAt R k).2)) HLV.out hown8 hg8 HLO.out)); (have HB8 := Lib.hid (grown_below HB5.out HLO.out hg8 (owns_block HO5.out.own))); clear hown8 hg8)
              go_roundw
              case rel => exact ⟨k + 1, v8, G ++ [((tAt R k).1, .slice q (tAt R k).2.length cp, (tAt R k).2)], pd, md, cd, D', pu, mu, cu, U', by omega, rfl, rfl, rfl, by go_num, HMD.out, HMU.out, by rw [List.length_append, List.length_singleton]; omega, HTL.out, by rw [tabR_append]; exact HRA.out.keep hlt HND.out HNU.out, HO8.out, HB8.out, hmd63, hmu63⟩
              case measure => simp [intOf]; omega
            · have HUU : Hid (0 < U'.length ∧ (pAt U' 0).1 = (tAt R k).1) := Lib.hid (of_decide_eq_true HUB.out)
              clear HUB
              obtain ⟨c1, o1, q1, cq1, q2, cq2, rfl, hc1, -, n1', n2', hr1, hr2, hs1, hs2, -, hn2⟩ := HTL.out.upd 0 HUU.out.1
              have n1 : wc.cell? ⟨c1, o1 + 1, none⟩ = some (.slice q1 (pAt U' 0).2.1.length cq1) := by rw [HOW4.out.low.cell (by exact hc1)]; rw [Nat.zero_mul] at n1'; exact n1'
              have n2 : wc.cell? ⟨c1, o1 + 2, none⟩ = some (.slice q2 (pAt U' 0).2.2.length cq2) := by rw [HOW4.out.low.cell (by exact hc1)]; rw [Nat.zero_mul] at n2'; exact n2'
              have hcw : c1 < wc.heap.size := Nat.lt_of_lt_of_le hc1 HOW4.out.low.size
              have hm0 : 0 < mu := by have := HMU.out; have := HUU.out.1; omega
              have hm1 : (1 : Int) ≤ (mu : Int) := by omega
              have hl1 : (pAt U' 0).2.1.length ≤ 9223372036854775807 := by omega
              have HR1 := Lib.hid ((hr1.low HOW4.out.low).low (Below.refl wc.heap.size wc).drew)
              have HR2 := Lib.hid ((HRW.out.low HOW4.out.low).low (Below.refl wc.heap.size wc).drew)
              have HLU : Hid (LiesV w0 (.slice q2 (pAt U' 0).2.2.length cq2) (pAt U' 0).2.2) := Lib.hid ⟨q2, cq2, rfl, hr2, hs2, hn2⟩
              have HCX : Hid (c1 ≠ X) := Lib.hid (by have := HXW.out; have := HW0.out.size; omega)
              clear hc1 n1' n2' hr1 hr2 hs1 hs2 hn2
              obtain ⟨rl, r0, r1, rf⟩ := HX4.out
              go_upto_region 9 with (fail)
              go_region_held3 (fun u => u.cell? ⟨c1, o1 + 1, none⟩ = some (.slice q1 (pAt U' 0).2.1.length cq1) ∧ c1 < u.heap.size ∧ u.cell? ⟨X, 1, none⟩ = some (.slice q (tAt R k).2.length cp) ∧ X < u.heap.size)
                (first
                  | exact ⟨n1, hcw, r1, rl⟩
                  | with_reducible exact keepKR hb5 (by assumption))
                (first
                  | (go_at_call 127; refine (eqvals_any q1 q (pAt U' 0).2.1 (tAt R k).2 cq1 cp _ hl1 HR1.out HR2.out).mono ?_; rintro e w5 ⟨rfl, hb5⟩))
              rename_i hHeld
              clear hHeld
              have hbd := undrewB hb5
              have HOW5 := Lib.hid (HOW4.out.to hbd)
              have HX5 := Lib.hid (HX4.out.low hbd)
              have HBW5 := Lib.hid (below_next HBW4.out hbd)
              have m2 : w5.cell? ⟨c1, o1 + 2, none⟩ = some (.slice q2 (pAt U' 0).2.2.length cq2) := by rw [hbd.cell (by exact hcw)]; exact n2
              clear hb5 hbd HOW4 HX4 HBW4 HR1 HR2 n1 n2 hcw rl r0 r1 rf
              obtain ⟨rl, r0, r1, rf⟩ := HX5.out
              obtain ⟨eb, heb⟩ : ∃ b, decide ((pAt U' 0).2.1 = (tAt R k).2) = b := ⟨_, rfl⟩
              rw [heb]
              have HEB := Lib.hid heb
              clear heb
              cases eb
              · have HMIS := Lib.hid (HRA.out.mis hlt HND.out HUU.out (of_decide_eq_false HEB.out))
                go_wp2
                go_ret2
                exact ⟨.slice none 0 0, by rw [HMIS.out]; rfl, HBW5.out, fun X hX => by rw [HMIS.out] at hX; cases hX⟩
              · have HEQ : Hid ((pAt U' 0).2.1 = (tAt R k).2) := Lib.hid (of_decide_eq_true HEB.out)
                clear HEB
                have hx6 : Cell2 (w5.setCell ⟨X, 1, none⟩ (.slice q2 (pAt U' 0).2.2.length cq2)) X (.int .i64 (tAt R k).1) (.slice q2 (pAt U' 0).2.2.length cq2) := cell2_put1 HX5.out _
                have HX6 := Lib.hid hx6
                have HOW6 := Lib.hid (HOW5.out.setX (o := 1) HXW.out HNX.out (.slice q2 (pAt U' 0).2.2.length cq2))
                have hbw6 : Below w.heap.size w (w5.setCell ⟨X, 1, none⟩ (.slice q2 (pAt U' 0).2.2.length cq2)) := HBW5.out.setCell (by exact HXB.out) _
                have HBW6 := Lib.hid hbw6
                clear hx6 hbw6
                go_upto_region 12 with (fail)
                clear m2 HX5 HOW5 HBW5 rl r0 r1 rf
                generalize World.setCell _ _ _ = w6 at HX6 HOW6 HBW6 ⊢
                obtain ⟨rl, r0, r1, rf⟩ := HX6.out
                have hb5 := below_alloc w6 (.cells #[.int .i64 (tAt R k).1, .slice q2 (pAt U' 0).2.2.length cq2] 68)
                have HO5 := Lib.hid (HOW6.out.to hb5)
                have HB5 := Lib.hid (below_next HBW6.out hb5)
                have HN5 := Lib.hid (row2_new w6 (.int .i64 (tAt R k).1) (.slice q2 (pAt U' 0).2.2.length cq2) 68)
                have HLO : Hid (w.heap.size ≤ (w6.alloc (.cells #[.int .i64 (tAt R k).1, .slice q2 (pAt U' 0).2.2.length cq2] 68)).heap.size) := Lib.hid HB5.out.size
                clear hb5
                go_wp2_with (at_builtin; refine wpList_append_trow rfl (.tmp 62) (.tmp 64) rfl w.heap.size vr G (by rfl) HO5.out.own w6.heap.size (tAt R k).1 (.slice q2 (pAt U' 0).2.2.length cq2) (pAt U' 0).2.2 (by rfl) HN5.out.1 HN5.out.2 rfl (by omega) HLO.out ?_; intro v8 w8 hown8 hg8; (have HO8 := Lib.hid (HO5.out.push (g := ((tAt R k).1, .slice q2 (pAt U' 0).2.2.length cq2, (pAt U' 0).2.2)) HLU.out hown8 hg8 HLO.out)); (have HB8 := Lib.hid (grown_below HB5.out HLO.out hg8 (owns_block HO5.out.own))); clear hown8 hg8)
                go_roundw
                case rel => exact ⟨k + 1, v8, G ++ [((tAt R k).1, .slice q2 (pAt U' 0).2.2.length cq2, (pAt U' 0).2.2)], pd, md, cd, D', _, mu - 1, cu - 1, U'.drop 1, by omega, rfl, rfl, rfl, by go_num, HMD.out, by rw [List.length_drop, HMU.out], by rw [List.length_append, List.length_singleton]; omega, HTL.out.dropU HUU.out.1, by rw [tabR_append]; exact HRA.out.upd hlt HND.out HUU.out HEQ.out, HO8.out, HB8.out, hmd63, by omega⟩
                case measure => simp [intOf]; omega
        · have HDD : Hid (0 < D'.length ∧ iAt D' 0 = (tAt R k).1) := Lib.hid (of_decide_eq_true HDB.out)
          obtain ⟨c1, o1, rfl, -, -⟩ := HTL.out.del 0 HDD.out.1
          have hm1 : (1 : Int) ≤ (md : Int) := by have := HMD.out; have := HDD.out.1; omega
          clear HDB
          go_wp2
          go_roundw
          case rel => exact ⟨k + 1, vr, G, _, md - 1, cd - 1, D'.drop 1, pu, mu, cu, U', by omega, rfl, rfl, rfl, by go_num, by rw [List.length_drop, HMD.out], HMU.out, by omega, HTL.out.dropD HDD.out.1, HRA.out.del hlt HDD.out, HOW3.out, HBW3.out, by omega, hmu63⟩
          case measure => simp [intOf]; omega
    · have hlt' : decide ((k : Int) < R.length) = false := decide_eq_false (by omega)
      obtain rfl : k = R.length := by omega
      have HDN := Lib.hid HRA.out.done
      by_cases hd0 : md = 0
      · subst hd0
        by_cases hu0 : mu = 0
        · subst hu0
          have HE : Hid (remR R D U = some (tabR G)) := Lib.hid (by rw [HDN.out, if_pos ⟨HMD.out.symm, HMU.out.symm⟩])
          go_wp2
          go_ret2
          exact ⟨vr, by rw [HE.out]; rfl, HBW.out, fun X hX => ⟨G, Option.some.inj (HE.out.symm.trans hX), HOW.out⟩⟩
        · have HE : Hid (remR R D U = none) := Lib.hid (by rw [HDN.out, if_neg fun hc => hu0 (by rw [HMU.out]; exact hc.2)])
          have gU : ((mu : Int) == 0) = false := beq_eq_false_iff_ne.2 (by omega)
          go_wp2
          go_ret2
          exact ⟨vr, by rw [HE.out]; rfl, HBW.out, fun X hX => by rw [HE.out] at hX; cases hX⟩
      · have HE : Hid (remR R D U = none) := Lib.hid (by rw [HDN.out, if_neg fun hc => hd0 (by rw [HMD.out]; exact hc.1)])
        have gD : ((md : Int) == 0) = false := beq_eq_false_iff_ne.2 (by omega)
        go_wp2
        go_ret2
        exact ⟨vr, by rw [HE.out]; rfl, HBW.out, fun X hX => by rw [HE.out] at hX; cases hX⟩
end Go.Proofs.YtgaihglploedaaaDoor
/-
  Package keys: Valid.
-/
namespace Go.Proofs.YtgaihglploedaaaDoor
set_option maxRecDepth 100000
open Go.RowKit
variable {ls : List Nat}

/-- The boxes of a table and a change. -/
structure KB (w : World) (nm : ByteArray) (pc : Option Addr) (n cc : Nat) (nx : Int) (pr : Option Addr) (m cr : Nat) (pi : Option Addr) (mi ci : Nat) (pd : Option Addr) (md cd : Nat) (pu : Option Addr) (mu cu : Nat) (v : World) : Prop where
  tab : Cell4 v w.heap.size (.string nm) (.slice pc n cc) (.int .i64 nx) (.slice pr m cr)
  chg : Cell3 v (w.heap.size + 1) (.slice pi mi ci) (.slice pd md cd) (.slice pu mu cu)
  bel : Below w.heap.size w v
section
variable {w u v : World} {nm : ByteArray} {pc : Option Addr} {n cc : Nat} {nx : Int} {pr : Option Addr} {m cr : Nat} {pi : Option Addr} {mi ci : Nat} {pd : Option Addr} {md cd : Nat} {pu : Option Addr} {mu cu : Nat}
theorem KB.low (h : KB w nm pc n cc nx pr m cr pi mi ci pd md cd pu mu cu u) (hb : Below u.heap.size u v) : KB w nm pc n cc nx pr m cr pi mi ci pd md cd pu mu cu v :=
  ⟨h.tab.low hb, h.chg.low hb, below_next h.bel hb⟩
theorem KB.new (w : World) (nm : ByteArray) (pc : Option Addr) (n cc : Nat) (nx : Int) (pr : Option Addr) (m cr : Nat) (pi : Option Addr) (mi ci : Nat) (pd : Option Addr) (md cd : Nat) (pu : Option Addr) (mu cu : Nat) :
    KB w nm pc n cc nx pr m cr pi mi ci pd md cd pu mu cu ((w.alloc (.cells #[.string nm, .slice pc n cc, .int .i64 nx, .slice pr m cr] 51)).alloc (.cells #[.slice pi mi ci, .slice pd md cd, .slice pu mu cu] 79)) :=
  ⟨(cell4_new w _ _ _ _ _).low (below_alloc _ _), (cell3_new (w.alloc _) _ _ _ _).at (size_alloc _ _), below_new (below_new (Below.refl _ _) _) _⟩
end
section
variable (nm : ByteArray) (pc : Option Addr) (n cc : Nat) (f : Nat → Col) (nx : Int) (pr : Option Addr) (cr : Nat) (R : List TRow) (pi : Option Addr) (ci : Nat) (I : List (List Val)) (pd : Option Addr) (cd : Nat) (D : List Int) (pu : Option Addr) (cu : Nat) (U : List PRow) (w : World)
theorem tvalid_eq (hT : TabAt w ⟨nm, pc, n, cc, f, nx, pr, cr, R⟩) {b : Bool} (hv : validT nm n f nx R = b) :
    Calls Tryd.prog 39 #[.agg #[.string nm, .slice pc n cc, .int .i64 nx, .slice pr R.length cr]] w fun e w' => e = .returned (.bool b) ∧ Below w.heap.size w w' :=
  (tvalid_any ⟨nm, pc, n, cc, f, nx, pr, cr, R⟩ w hT).mono fun _ _ ⟨he, hb⟩ => ⟨by rw [he]; unfold Tab.valid; dsimp only; rw [hv], hb⟩
theorem widths_eq (hn : n ≤ 9223372036854775807) (hC : ChgAt w ⟨pi, ci, I, pd, cd, D, pu, cu, U⟩) {b : Bool} (hv : widthsB n I U = b) :
    Calls Tryd.prog 112 #[.int .i64 n, .agg #[.slice pi I.length ci, .slice pd D.length cd, .slice pu U.length cu]] w fun e w' => e = .returned (.bool b) ∧ Below w.heap.size w w' :=
  (widths_any n ⟨pi, ci, I, pd, cd, D, pu, cu, U⟩ w hn hC).mono fun _ _ ⟨he, hb⟩ => ⟨by rw [he]; dsimp only; rw [hv], hb⟩
theorem remaining_eq (w0 : World) (hR : TRowsAt w0 pr R) (hR63 : R.length ≤ 1000) (hC : ChgAt w0 ⟨pi, ci, I, pd, cd, D, pu, cu, U⟩) (hb0 : Below w0.heap.size w0 w) :
    Calls Tryd.prog 113 #[.agg #[.string nm, .slice pc n cc, .int .i64 nx, .slice pr R.length cr], .agg #[.slice pi I.length ci, .slice pd D.length cd, .slice pu U.length cu]] w (RemPost R D U w0 w) :=
  remaining_any ⟨nm, pc, n, cc, cAt [], nx, pr, cr, R⟩ ⟨pi, ci, I, pd, cd, D, pu, cu, U⟩ w0 w hR hR63 hC hb0
set_option maxHeartbeats 2000000 in
theorem kvalid_any (hT : TabAt w ⟨nm, pc, n, cc, f, nx, pr, cr, R⟩) (hC : ChgAt w ⟨pi, ci, I, pd, cd, D, pu, cu, U⟩) :
    Calls Tryd.prog 89 #[.agg #[.string nm, .slice pc n cc, .int .i64 nx, .slice pr R.length cr], .agg #[.slice pi I.length ci, .slice pd D.length cd, .slice pu U.length cu]] w fun e w' => e = .returned (.bool (validT nm n f nx R && validC n R I D U)) ∧ Below w.heap.size w w' := by
  have HT := Lib.hid hT
  have HC := Lib.hid hC
  have hn63 := hT.n
  have hR63 := hT.len
  dsimp only at hn63 hR63
  have HK := Lib.hid (KB.new w nm pc n cc nx pr R.length cr pi I.length ci pd D.length cd pu U.length cu)
  clear hT hC
  obtain ⟨vb, hvb⟩ : ∃ b, validT nm n f nx R = b := ⟨_, rfl⟩
  rw [hvb]
  have HVB := Lib.hid hvb
  clear hvb
  go_enter Tryd.func89, Tryd.ntmps89
  go_upto_region 1 with (fail)
  generalize World.alloc _ _ = W0 at HK ⊢
  obtain ⟨xl, x0, x1, x2, x3, -⟩ := HK.out.tab
  go_wp2_with fail
  refine (tvalid_eq nm pc n cc f nx pr cr R _ (HT.out.low HK.out.bel) HVB.out).mono ?_
  rintro e w1 ⟨rfl, hb1⟩
  have HK1 := Lib.hid (HK.out.low hb1)
  clear HK hb1 xl x0 x1 x2 x3
  cases vb
  · go_wp2
    go_ret
    exact ⟨rfl, HK1.out.bel⟩
  · obtain ⟨xl, x0, x1, x2, x3, -⟩ := HK1.out.tab
    obtain ⟨yl, y0, y1, y2, -⟩ := HK1.out.chg
    obtain ⟨wb, hwb⟩ : ∃ b, widthsB n I U = b := ⟨_, rfl⟩
    have HVC : Hid (validC n R I D U = (wb && (remR R D U).isSome)) := Lib.hid (by rw [← hwb]; exact validC_rem (validT_parts HVB.out).2.2.2.2.1)
    have HWB := Lib.hid hwb
    clear hwb
    go_wp2_with fail
    refine (widths_eq n pi ci I pd cd D pu cu U _ hn63 (HC.out.low HK1.out.bel) HWB.out).mono ?_
    rintro e w2 ⟨rfl, hb2⟩
    have HK2 := Lib.hid (HK1.out.low hb2)
    clear HK1 hb2 xl x0 x1 x2 x3 yl y0 y1 y2
    cases wb
    · go_wp2
      go_ret
      exact ⟨by rw [HVC.out]; rfl, HK2.out.bel⟩
    · obtain ⟨xl, x0, x1, x2, x3, -⟩ := HK2.out.tab
      obtain ⟨yl, y0, y1, y2, -⟩ := HK2.out.chg
      go_wp2_with fail
      refine (remaining_eq nm pc n cc nx pr cr R pi ci I pd cd D pu cu U _ w HT.out.rows hR63 HC.out HK2.out.bel).mono ?_
      rintro e w3 ⟨v3, rfl, hb3, -⟩
      have HB3 := Lib.hid (below_next HK2.out.bel hb3)
      clear HK2 hb3 xl x0 x1 x2 x3 yl y0 y1 y2
      go_wp2
      go_ret
      exact ⟨by rw [HVC.out]; rfl, HB3.out⟩
end
end Go.Proofs.YtgaihglploedaaaDoor
/-
  Package keys: changed.
-/
namespace Go.Proofs.YtgaihglploedaaaDoor
set_option maxRecDepth 100000
open Go.RowKit
variable {ls : List Nat}

theorem c3_step {u v : World} {X b : Nat} {x y z : Value} (h : Cell3 u X x y z) (hs : StepT b u v) (hn : X ≠ b) : Cell3 v X x y z :=
  ⟨Nat.lt_of_lt_of_le h.lt hs.size, by rw [hs.cell (by exact h.lt) (by exact hn)]; exact h.c0, by rw [hs.cell (by exact h.lt) (by exact hn)]; exact h.c1, by rw [hs.cell (by exact h.lt) (by exact hn)]; exact h.c2, fun o => by rw [hs.frozen (by exact h.lt) (by exact hn)]; exact h.fz o⟩
section
variable {w0 u v : World} {base k : Nat} {vr : Value} {G : List GRow}
theorem MOwn.setB {X o : Nat} (h : MOwn w0 u base k vr G) (hX : X < base) (hw : w0.heap.size ≤ X) (y : Value) : MOwn w0 (u.setCell ⟨X, o, none⟩ y) base k vr G :=
  ⟨ownsRow_setCell_below h.own (a := ⟨X, o, none⟩) hX y, fun i hi hl => ⟨ownsRow_setCell_below (h.fst i hi hl).1 (a := ⟨X, o, none⟩) hX y, (h.fst i hi hl).2⟩, h.snd, h.low.setCell (by exact hw) _, h.hb⟩
theorem MOwn.slot (h : MOwn w0 u base k vr G) (hl : 0 < G.length) : ∃ g c, vr = .slice (some ⟨g, 0, none⟩) G.length c ∧ base ≤ g ∧ g < u.heap.size ∧ (∀ o, u.frozen? ⟨g, o, none⟩ = false) ∧
    (∀ i, i < G.length → u.cell? ⟨g, i * 2, none⟩ = some (.int .i64 (grAt G i).1) ∧ u.cell? ⟨g, i * 2 + 1, none⟩ = some (grAt G i).2.1) := by
  rcases h.own.2 with ⟨-, h0⟩ | ⟨g, cap', cur, rfl, hg, hh, hcap, hm, hcur, htake⟩
  · omega
  · have hget : ∀ j, j < G.length * 2 → cur[j]? = (tcells G)[j]? := fun j hj => by
      rw [← htake, List.getElem?_take, if_pos hj]; simp
    refine ⟨g, cap', rfl, hg, (Array.getElem?_eq_some_iff.1 hh).1, fun o => by simp [World.frozen?, hh], fun i hi => ?_⟩
    obtain ⟨c0, c1⟩ := tcells_at G i hi
    refine ⟨?_, ?_⟩
    · simp only [World.cell?, hh]
      rw [if_neg (by simp), hget _ (by omega), c0]
    · simp only [World.cell?, hh]
      rw [if_neg (by simp), hget _ (by omega), c1]
theorem MOwn.trows (h : MOwn w0 u base 0 vr G) : TRowsAt u (rowP vr) (tabR G) := by
  intro i hi
  rw [tabR_length] at hi
  rw [tabR_at hi]
  obtain ⟨g, c, rfl, hg, hgs, hf, hc⟩ := h.slot (by omega)
  obtain ⟨c0, c1⟩ := hc i hi
  obtain ⟨q, cq, hv, hr, hs, hn⟩ := h.snd i (Nat.zero_le _) hi
  exact ⟨g, 0, q, cq, rfl, hgs, by rw [Nat.zero_add]; exact c0, by rw [Nat.zero_add, ← hv]; exact c1, hr.low h.low, hs, hn⟩
end
/-- What changed gives. -/
def ChdPost (nm : ByteArray) (n : Nat) (f : Nat → Col) (nx : Int) (A : List TRow) (w : World) (e : Ending) (w' : World) : Prop :=
  ∃ (p2 : Option Addr) (c2 : Nat) (pr : Option Addr) (cr : Nat), e = .returned (.agg #[.string nm, .slice p2 n c2, .int .i64 nx, .slice pr A.length cr]) ∧ TabOwn w.heap.size w' ⟨nm, p2, n, c2, f, nx, pr, cr, A⟩ ∧ Below w.heap.size w w'
/-- The state of changed, from the call of remaining on. -/
structure ChdB (w w3 : World) (nm : ByteArray) (p2 : Option Addr) (n c2 : Nat) (nx : Int) (k : Nat) (vr : Value) (G : List GRow) (v : World) : Prop where
  tab : Cell4 v w.heap.size (.string nm) (.slice p2 n c2) (.int .i64 nx) vr
  own : MOwn w v w3.heap.size k vr G
  step : StepT w.heap.size w3 v
theorem ChdB.low {w w3 u v : World} {nm : ByteArray} {p2 : Option Addr} {n c2 : Nat} {nx : Int} {k : Nat} {vr : Value} {G : List GRow} (h : ChdB w w3 nm p2 n c2 nx k vr G u) (hb : Below u.heap.size u v) : ChdB w w3 nm p2 n c2 nx k vr G v :=
  ⟨h.tab.low hb, h.own.to hb, h.step.trans (StepT.of_below hb)⟩
theorem ChdB.push {w w3 u w8 : World} {nm : ByteArray} {p2 : Option Addr} {n c2 : Nat} {nx : Int} {vr v8 : Value} {G : List GRow} {g : GRow} (h : ChdB w w3 nm p2 n c2 nx 0 vr G u) (hlt : w.heap.size < w3.heap.size) (hg : LiesV w g.2.1 g.2.2)
    (ho : w8.ownsRow w3.heap.size 68 2 v8 (G ++ [g]).length (tcells (G ++ [g]))) (hgr : u.grownBy w8 vr.ownBlock) :
    Cell4 w8 w.heap.size (.string nm) (.slice p2 n c2) (.int .i64 nx) vr ∧ ChdB w w3 nm p2 n c2 nx 0 v8 (G ++ [g]) (w8.setCell ⟨w.heap.size, 3, none⟩ v8) := by
  have hk : ∀ k, vr.ownBlock = some k → w3.heap.size ≤ k := fun k hk => owns_block h.own.own k hk
  have hc := h.tab.grown hgr (fun k hk' => by have := hk k hk'; omega)
  have hm := h.own.push hg ho hgr h.step.size
  exact ⟨hc, hc.set3 v8, hm.setB hlt (Nat.le_refl _) _, (step_grown_from h.step hgr hk).setCell 3 none v8⟩
theorem ChdB.setNx {w w3 u : World} {nm : ByteArray} {p2 : Option Addr} {n c2 : Nat} {nx : Int} {k : Nat} {vr : Value} {G : List GRow} (h : ChdB w w3 nm p2 n c2 nx k vr G u) (hlt : w.heap.size < w3.heap.size) (nx' : Int) : ChdB w w3 nm p2 n c2 nx' k vr G (u.setCell ⟨w.heap.size, 2, none⟩ (.int .i64 nx')) :=
  ⟨h.tab.set2 _, h.own.setB hlt (Nat.le_refl _) _, h.step.setCell 2 none _⟩
set_option maxHeartbeats 16000000 in
theorem changed_any (nm : ByteArray) (pc : Option Addr) (n cc : Nat) (f : Nat → Col) (nx : Int) (pr : Option Addr) (cr : Nat) (R : List TRow) (pi : Option Addr) (ci : Nat) (I : List (List Val)) (pd : Option Addr) (cd : Nat) (D : List Int) (pu : Option Addr) (cu : Nat) (U : List PRow) (w : World)
    (hT : TabAt w ⟨nm, pc, n, cc, f, nx, pr, cr, R⟩) (hC : ChgAt w ⟨pi, ci, I, pd, cd, D, pu, cu, U⟩) (hn1 : 0 < n) (hn6 : n ≤ 1000) (hnx1 : 1 ≤ nx) (hnx2 : nx ≤ 2147483648) (hR100 : R.length ≤ 100) (hrem : remR R D U = some (keptR D U R)) (_hpos : ∀ r ∈ afterR nx R I D U, 0 < r.2.length) (hlen : (afterR nx R I D U).length ≤ 1000) :
    Calls Tryd.prog 93 #[.agg #[.string nm, .slice pc n cc, .int .i64 nx, .slice pr R.length cr], .agg #[.slice pi I.length ci, .slice pd D.length cd, .slice pu U.length cu]] w (ChdPost nm n f (nx + I.length) (afterR nx R I D U) w) := by
  have HT := Lib.hid hT
  have HC := Lib.hid hC
  have HREM := Lib.hid hrem
  have HLEN := Lib.hid hlen
  have hI63 := hC.inl
  dsimp only at hI63
  have HK0 := Lib.hid (KB.new w nm pc n cc nx pr R.length cr pi I.length ci pd D.length cd pu U.length cu)
  have HK : Hid (KB w nm pc n cc nx pr R.length cr pi I.length ci pd D.length cd pu U.length cu (((w.alloc (.cells #[.string nm, .slice pc n cc, .int .i64 nx, .slice pr R.length cr] 51)).alloc (.cells #[.slice pi I.length ci, .slice pd D.length cd, .slice pu U.length cu] 79)).alloc (.cells #[.string ⟨#[]⟩, .slice none 0 0, .int .i64 0, .slice none 0 0] 51))) := Lib.hid (HK0.out.low (below_alloc _ _))
  have HZ : Hid (Cell4 (((w.alloc (.cells #[.string nm, .slice pc n cc, .int .i64 nx, .slice pr R.length cr] 51)).alloc (.cells #[.slice pi I.length ci, .slice pd D.length cd, .slice pu U.length cu] 79)).alloc (.cells #[.string ⟨#[]⟩, .slice none 0 0, .int .i64 0, .slice none 0 0] 51)) (w.heap.size + 2) (.string ⟨#[]⟩) (.slice none 0 0) (.int .i64 0) (.slice none 0 0)) := Lib.hid ((cell4_new ((w.alloc _).alloc _) _ _ _ _ _).at (by rw [size_alloc, size_alloc]))
  clear hT hC hrem hlen HK0
  go_enter Tryd.func93, Tryd.ntmps93
  go_upto_region 1 with (fail)
  generalize World.alloc _ _ = W0 at HK HZ ⊢
  rw [show w.heap.size + 1 + 1 = w.heap.size + 2 from rfl]
  obtain ⟨xl, x0, x1, x2, x3, xf⟩ := HK.out.tab
  obtain ⟨yl, y0, y1, y2, -⟩ := HK.out.chg
  go_wp2_with fail
  refine (remaining_eq nm pc n cc nx pr cr R pi ci I pd cd D pu cu U _ w HT.out.rows (by omega) HC.out HK.out.bel).mono ?_
  rintro e w4 ⟨v4, rfl, hb4, hown4⟩
  obtain ⟨G0, hG0, hm0⟩ := hown4 _ HREM.out
  obtain ⟨p4, c4, hv4⟩ := own_ex hm0.own
  subst hv4
  have hlt3 : w.heap.size < W0.heap.size := HK.out.tab.lt
  have HCH : Hid (ChdB w W0 nm pc n cc (nx + ((0 : Nat) : Int)) 0 (.slice p4 G0.length c4) G0 (w4.setCell ⟨w.heap.size, 3, none⟩ (.slice p4 G0.length c4))) := Lib.hid (by
    rw [show nx + ((0 : Nat) : Int) = nx by omega]
    exact ⟨(HK.out.tab.low hb4).set3 _, hm0.setB hlt3 (Nat.le_refl _) _, (StepT.of_below hb4).setCell 3 none _⟩)
  have HT4 := Lib.hid (HK.out.tab.low hb4)
  have HG0 := Lib.hid hG0
  clear hown4 hm0 hb4 hG0 xl x0 x1 x2 x3 xf yl y0 y1 y2
  obtain ⟨xl, x0, x1, x2, x3, xf⟩ := HT4.out
  go_upto_region 2 with (fail)
  clear HT4 xl x0 x1 x2 x3 xf
  generalize World.setCell _ _ _ = W5 at HCH ⊢
  have HCB5 := Lib.hid (c3_step HK.out.chg HCH.out.step (by omega))
  obtain ⟨yl, y0, y1, y2, -⟩ := HCB5.out
  go_wp2_with fail
  go_loopw [17] (fun i v => ∃ (k : Nat) (vr : Value) (G : List GRow), k ≤ I.length ∧ i = .int .i64 k ∧ tabR G = keptR D U R ++ comeR nx (I.take k) ∧ ChdB w W0 nm pc n cc (nx + k) 0 vr G v) (fun i _ => I.length - (intOf i).toNat)
  case atStart => exact ⟨0, _, G0, Nat.zero_le _, rfl, by rw [HG0.out]; simp [comeR], HCH.out⟩
  clear HCH HCB5 HG0 yl y0 y1 y2
  case round =>
    obtain ⟨k, vr, G, hk, rfl, hG, hch⟩ := hrel
    have HG := Lib.hid hG
    have HCH := Lib.hid hch
    have HGL : Hid (G.length ≤ 2000) := Lib.hid (by have h1 := congrArg List.length hG; rw [tabR_length, List.length_append, comeR_length, List.length_take] at h1; have h2 := keptR_length (D := D) (U := U) (R := R); omega)
    clear hG hch
    by_cases hlt : k < I.length
    · have hlt' : decide ((k : Int) < I.length) = true := decide_eq_true (by omega)
      obtain ⟨c', o', q, cq, hp, hc', h0', hr, hs, hqn⟩ := HC.out.ins k hlt
      dsimp only at hp h0' hr hs hqn
      subst hp
      have hc := Nat.lt_of_lt_of_le hc' HCH.out.own.low.size
      have h0 : wr.cell? ⟨c', o' + k, none⟩ = some (.slice q (rAt I k).length cq) := by rw [HCH.out.own.low.cell (by exact hc')]; exact h0'
      have HLV : Hid (LiesV w (.slice q (rAt I k).length cq) (rAt I k)) := Lib.hid ⟨q, cq, rfl, hr, hs, hqn⟩
      have HH5 := Lib.hid (HCH.out.low (below_alloc wr (.cells #[.int .i64 (nx + k), .slice q (rAt I k).length cq] 68)))
      have HN5 := Lib.hid (row2_new wr (.int .i64 (nx + k)) (.slice q (rAt I k).length cq) 68)
      have HLO := Lib.hid HH5.out.step.size
      obtain ⟨xl, x0, x1, x2, x3, xf⟩ := HCH.out.tab
      clear h0' hr hs hqn hc'
      go_upto_region 6 with (at_builtin; refine wpList_append_trow rfl (.tmp 22) (.tmp 27) rfl W0.heap.size vr G (by rfl) HH5.out.own.own wr.heap.size (nx + k) (.slice q (rAt I k).length cq) (rAt I k) (by rfl) HN5.out.1 HN5.out.2 rfl (by have := HGL.out; omega) HLO.out ?_; intro v8 w8 hown8 hg8; obtain ⟨⟨zl, z0, z1, z2, z3, zf⟩, hs8⟩ := HH5.out.push (g := (nx + k, .slice q (rAt I k).length cq, rAt I k)) hlt3 HLV.out hown8 hg8; obtain ⟨p8, c8, e8⟩ := own_ex hown8; subst e8; rw [List.length_append, List.length_singleton] at hs8; (have HS8 := Lib.hid hs8); clear hs8 hown8 hg8)
      clear HCH HH5 HN5 HLO xl x0 x1 x2 x3 xf zl z0 z1 z2 z3 zf h0 hc
      generalize World.setCell _ _ _ = W9 at HS8 ⊢
      obtain ⟨xl, x0, x1, x2, x3, xf⟩ := HS8.out.tab
      have HS9 := Lib.hid (HS8.out.setNx hlt3 (nx + k + 1))
      go_wp2
      go_roundw
      case rel => exact ⟨k + 1, _, G ++ [(nx + k, .slice q (rAt I k).length cq, rAt I k)], by omega, by go_num, by rw [tabR_append, HG.out, comeR_take hlt, List.append_assoc]; rfl, by rw [show nx + ((k + 1 : Nat) : Int) = nx + k + 1 by omega]; exact HS9.out⟩
      case measure => simp [intOf]; omega
    · have hlt' : decide ((k : Int) < I.length) = false := decide_eq_false (by omega)
      obtain rfl : k = I.length := by omega
      obtain ⟨p, cv, hvr⟩ := own_ex HCH.out.own.own
      subst hvr
      have HGA : Hid (tabR G = afterR nx R I D U) := Lib.hid (by rw [HG.out, List.take_length]; rfl)
      have hml : G.length = (afterR nx R I D U).length := by rw [← HGA.out, tabR_length]
      have hch := HCH.out
      rw [hml] at hch
      have HCH1 := Lib.hid hch
      have hrows := hch.own.trows
      rw [HGA.out] at hrows
      have HTA : Hid (TabAt wr ⟨nm, pc, n, cc, f, nx + I.length, p, cv, afterR nx R I D U⟩) := Lib.hid ⟨HT.out.name, HT.out.n, HT.out.cols.low hch.own.low, hrows, HLEN.out, after_sized HC.out.usz HT.out.sized HC.out.isz, by dsimp only; omega⟩
      have HB := Lib.hid hch.own.low
      have HZ4 := Lib.hid (HZ.out.step hch.step (by omega))
      have hZS := HZ4.out.lt
      clear HCH HG HGL hch hml hrows
      obtain ⟨xl, x0, x1, x2, x3, xf⟩ := HCH1.out.tab
      go_wp2_with fail
      refine (clonetab_any nm pc n cc f (nx + I.length) p cv (afterR nx R I D U) _ HTA.out hn1 hn6).mono ?_
      rintro e w6 ⟨p2, c2, p6, c6, rfl, hm6, hb6⟩
      have HZ6 := HZ4.out.low hb6
      have HYS := Lib.hid (cell4_put w6 HZ6 (.string nm) (.slice p2 n c2) (.int .i64 (nx + I.length)) (.slice p6 (afterR nx R I D U).length c6))
      have HM := Lib.hid (((((hm6.set (b := w.heap.size + 2) (o := 0) (by omega) (.string nm)).set (b := w.heap.size + 2) (o := 1) (by omega) (.slice p2 n c2)).set (b := w.heap.size + 2) (o := 2) (by omega) (.int .i64 (nx + I.length))).set (b := w.heap.size + 2) (o := 3) (by omega) (.slice p6 (afterR nx R I D U).length c6)).mono (lo' := w.heap.size) (by omega))
      have HBF : Hid (Below w.heap.size w ((((w6.setCell ⟨w.heap.size + 2, 0, none⟩ (.string nm)).setCell ⟨w.heap.size + 2, 1, none⟩ (.slice p2 n c2)).setCell ⟨w.heap.size + 2, 2, none⟩ (.int .i64 (nx + I.length))).setCell ⟨w.heap.size + 2, 3, none⟩ (.slice p6 (afterR nx R I D U).length c6))) := Lib.hid (((((below_next HB.out hb6).setCell (by exact Nat.le_add_right _ _) _).setCell (by exact Nat.le_add_right _ _) _).setCell (by exact Nat.le_add_right _ _) _).setCell (by exact Nat.le_add_right _ _) _)
      obtain ⟨zl, z0, z1, z2, z3, zf⟩ := HZ6
      clear hm6 hb6
      go_wp2
      obtain ⟨-, s0, s1, s2, s3, -⟩ := HYS.out
      exact bodyPost_ret (v := .agg #[.string nm, .slice p2 n c2, .int .i64 (nx + I.length), .slice p6 (afterR nx R I D U).length c6]) (by simp [results, Tryd.results93, go_sem, s0, s1, s2, s3]) rfl
        ⟨p2, c2, p6, c6, rfl, HM.out, HBF.out⟩
end Go.Proofs.YtgaihglploedaaaDoor
