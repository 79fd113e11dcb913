/-
  Several texts in one.
-/
import Derived.Test.YtlnbpobipmejfaaGreatDoorPk20
import Derived.Test.YtlnbpobipmejfaaGreatDoorPk29
import Derived.Test.YtlnbpobipmejfaaGreatDoorPk30
import Derived.Test.YtlnbpobipmejfaaGreatDoorPk25
import Derived.Test.YtlnbpobipmejfaaGreatDoorPk14
import Derived.Test.YtlnbpobipmejfaaGreatDoorPk16
import Derived.Deep.RegionHeld3
import Derived.Deep.RegionLaw
import Derived.Deep.CutRange
import Derived.Deep.CutBlock
/-
  The reference of package keys: Apply.
-/
namespace Go.Proofs.YtlnbpobipmejfaaGreatDoor
set_option maxRecDepth 100000
open Go.RowKit
variable {ls : List Nat}

theorem rcvn_any (nm : ByteArray) (pc : Option Addr) (n cc : Nat) (f : Nat → Col) (nx : Int) (pr : Option Addr) (cr : Nat) (R : List TRow) (pi : Option Addr) (ci : Nat) (I : List (List Val)) (pd : Option Addr) (cd : Nat) (D : List Int) (pu : Option Addr) (cu : Nat) (U : List PRow) (w : World)
    (hT : TabAt w ⟨nm, pc, n, cc, f, nx, pr, cr, R⟩) (hC : ChgAt w ⟨pi, ci, I, pd, cd, D, pu, cu, U⟩) {b : Bool} (hv : (validT nm n f nx R && validC n R I D U) = b) :
    Calls Tryz.prog 53 #[.agg #[.string nm, .slice pc n cc, .int .i64 nx, .slice pr R.length cr], .agg #[.slice pi I.length ci, .slice pd D.length cd, .slice pu U.length cu]] w fun e w' => e = .returned (.bool b) ∧ Below w.heap.size w w' :=
  (rcvalid_any ⟨nm, pc, n, cc, f, nx, pr, cr, R⟩ ⟨pi, ci, I, pd, cd, D, pu, cu, U⟩ w hT hC).mono fun _ _ ⟨he, hb⟩ => ⟨by rw [he]; unfold Tab.valid; dsimp only; rw [hv], hb⟩
/-- What Apply has: the boxes of the table, of the change, of the result. -/
structure ApB (w : World) (nm : ByteArray) (pc : Option Addr) (n cc : Nat) (nx : Int) (pr : Option Addr) (m cr : Nat) (pi : Option Addr) (mi ci : Nat) (pd : Option Addr) (md cd : Nat) (pu : Option Addr) (mu cu : Nat) (v : World) : Prop where
  tab : Cell4 v w.heap.size (.string nm) (.slice pc n cc) (.int .i64 nx) (.slice pr m cr)
  chg : Cell3 v (w.heap.size + 1) (.slice pi mi ci) (.slice pd md cd) (.slice pu mu cu)
  res : Cell4 v (w.heap.size + 2) (.string ⟨#[]⟩) (.slice none 0 0) (.int .i64 0) (.slice none 0 0)
  bel : Below w.heap.size w v
section
variable {w u v : World} {nm : ByteArray} {pc : Option Addr} {n cc : Nat} {nx : Int} {pr : Option Addr} {m cr : Nat} {pi : Option Addr} {mi ci : Nat} {pd : Option Addr} {md cd : Nat} {pu : Option Addr} {mu cu : Nat}
theorem ApB.low (h : ApB w nm pc n cc nx pr m cr pi mi ci pd md cd pu mu cu u) (hb : Below u.heap.size u v) : ApB w nm pc n cc nx pr m cr pi mi ci pd md cd pu mu cu v :=
  ⟨h.tab.low hb, h.chg.low hb, h.res.low hb, below_next h.bel hb⟩
theorem ApB.step {O : Nat} (h : ApB w nm pc n cc nx pr m cr pi mi ci pd md cd pu mu cu u) (hO : w.heap.size + 3 ≤ O) (hs : StepT O u v) : ApB w nm pc n cc nx pr m cr pi mi ci pd md cd pu mu cu v :=
  ⟨h.tab.step hs (by omega), h.chg.step hs (by omega), h.res.step hs (by omega), h.bel.trans (hs.below (by omega) h.bel.size)⟩
theorem ApB.new (w : World) (nm : ByteArray) (pc : Option Addr) (n cc : Nat) (nx : Int) (pr : Option Addr) (m cr : Nat) (pi : Option Addr) (mi ci : Nat) (pd : Option Addr) (md cd : Nat) (pu : Option Addr) (mu cu : Nat) :
    ApB w nm pc n cc nx pr m cr pi mi ci pd md cd pu mu cu (((w.alloc (.cells #[.string nm, .slice pc n cc, .int .i64 nx, .slice pr m cr] 34)).alloc (.cells #[.slice pi mi ci, .slice pd md cd, .slice pu mu cu] 80)).alloc (.cells #[.string ⟨#[]⟩, .slice none 0 0, .int .i64 0, .slice none 0 0] 34)) :=
  ⟨((cell4_new w _ _ _ _ _).low (below_alloc _ _)).low (below_alloc _ _), ((cell3_new (w.alloc _) _ _ _ _).at (size_alloc _ _)).low (below_alloc _ _), (cell4_new ((w.alloc _).alloc _) _ _ _ _ _).at (by rw [size_alloc, size_alloc]), below_new (below_new (below_new (Below.refl _ _) _) _) _⟩
end
theorem keepCS {u : World} {X Y o : Nat} {x y z : Value} (hne : X ≠ Y) (h : u.cell? ⟨X, 0, none⟩ = some x ∧ u.cell? ⟨X, 1, none⟩ = some y ∧ X < u.heap.size) : (u.setCell ⟨Y, o, none⟩ z).cell? ⟨X, 0, none⟩ = some x ∧ (u.setCell ⟨Y, o, none⟩ z).cell? ⟨X, 1, none⟩ = some y ∧ X < (u.setCell ⟨Y, o, none⟩ z).heap.size := by
  obtain ⟨a, b, c⟩ := h
  have hb : (u.setCell ⟨Y, o, none⟩ z).heap[X]? = u.heap[X]? := Below.heap_setCell _ _ _ _ hne
  exact ⟨by rw [World.cell?_of_block (w := u) hb]; exact a, by rw [World.cell?_of_block (w := u) hb]; exact b, by show X < (World.setCell _ _ _).heap.size; simpa [World.setCell] using c⟩
theorem undrew {B : Nat} {u v : World} (h : Below B u.drew v) : Below B u v := ⟨h.os, h.tape, h.output, h.size, h.block⟩
theorem rcopyt_any (nm : ByteArray) (pc : Option Addr) (n cc : Nat) (f : Nat → Col) (nx : Int) (pr : Option Addr) (cr : Nat) (R : List TRow) (w : World) (hT : TabAt w ⟨nm, pc, n, cc, f, nx, pr, cr, R⟩) (hn1 : 0 < n) (hn6 : n ≤ 1000) :
    Calls Tryz.prog 54 #[.agg #[.string nm, .slice pc n cc, .int .i64 nx, .slice pr R.length cr]] w fun e w' => ∃ (p2 : Option Addr) (c2 : Nat) (q : Option Addr) (cq : Nat), e = .returned (.agg #[.string nm, .slice p2 n c2, .int .i64 nx, .slice q R.length cq]) ∧ ColsAt w' p2 n f ∧ (∀ a, p2 = some a → w.heap.size ≤ a.block ∧ a.block < w'.heap.size) ∧ Below w.heap.size w w' :=
  (rcopytab_any ⟨nm, pc, n, cc, f, nx, pr, cr, R⟩ w hT hn1 hn6).mono fun e w' ⟨S, he, hS, h1, h2, h3, h4, h5, h6, hb⟩ => by
    obtain ⟨nm', p2, n', c2, f', nx', q, cq, R'⟩ := S
    dsimp only at h1 h2 h3 h4 h5
    subst h1 h2 h3 h4 h5
    exact ⟨p2, c2, q, cq, he, hS.cols, fun a ha => ⟨h6 a ha, by obtain ⟨c, o, hp, hc⟩ := hS.cols.ptr hn1; dsimp only at hp; rw [ha] at hp; cases hp; exact hc⟩, hb⟩
theorem field_schema (nm : ByteArray) (p : Option Addr) (n c : Nat) (nx : Int) (q : Option Addr) (m cr : Nat) (w : World) :
    (Instr.field 34 (.agg #[.string nm, .slice p n c, .int .i64 nx, .slice q m cr]) 0).run Tryz.prog w = .ok (.agg #[.string nm, .slice p n c]) w := by
  have hi := info_parts (show (Tryz.prog.info? 28).map (fun i => (i.zero, i.size, i.bytes)) = some (some (.agg #[.string ⟨#[]⟩, .slice none 0 0]), 2, 40) by kernel_rfl)
  obtain ⟨i0, hi, hz0, hz1, hz2⟩ := hi
  simp only [Instr.field, Sem.run_bind, run_underlying Tryz.underlying34, Result.andThen]
  go_simp
  simp [asAgg, Result.andThen]
theorem rdupm_any (nm : ByteArray) (pc : Option Addr) (n cc : Nat) (f : Nat → Col) (nx : Int) (pr : Option Addr) (cr : Nat) (R : List TRow) (m : Nat) (hm : R.length = m) (w : World) (h : TabAt w ⟨nm, pc, n, cc, f, nx, pr, cr, R⟩) {b : Bool} (hb : dupR (findKey f n) R = b) :
    Calls Tryz.prog 51 #[.agg #[.string nm, .slice pc n cc, .int .i64 nx, .slice pr m cr]] w fun e w' => e = .returned (.bool b) ∧ Below w.heap.size w w' := by
  subst hm hb
  exact rdup_any ⟨nm, pc, n, cc, f, nx, pr, cr, R⟩ w h
/-- A table that lies in blocks from B on: whoever keeps those keeps it. -/
def TabKept (B : Nat) (u : World) (T : Tab) : Prop := (∀ v, u.heap.size ≤ v.heap.size → (∀ k, B ≤ k → k < u.heap.size → v.heap[k]? = u.heap[k]?) → TabAt v T) ∧ ∀ a, T.pc = some a → B ≤ a.block
/-- What Apply gives, with room for its rows. -/
def ApplyCPost (T : Tab) (C : Chg) (w : World) (e : Ending) (w' : World) : Prop := ∃ S : Tab, (e = .returned (.tuple #[S.v, .int .i64 (applyE T.nm T.n T.f T.nx T.R C.I C.D C.U)]) ∧ TabAt w' S ∧ Below w.heap.size w w' ∧
  ((applyE T.nm T.n T.f T.nx T.R C.I C.D C.U = 0 ∧ S.nm = T.nm ∧ S.n = T.n ∧ (∀ i, i < T.n → S.f i = T.f i) ∧ S.nx = T.nx + C.I.length ∧ S.R = afterR T.nx T.R C.I C.D C.U) ∨ (applyE T.nm T.n T.f T.nx T.R C.I C.D C.U ≠ 0 ∧ S.nm = ⟨#[]⟩ ∧ S.n = 0 ∧ S.nx = 0 ∧ S.R = []))) ∧ S.R.length ≤ S.cr ∧ TabKept w.heap.size w' S
theorem apply_errC {T : Tab} {C : Chg} {w w' : World} {er : Int} (he : applyE T.nm T.n T.f T.nx T.R C.I C.D C.U = er) (hne : er ≠ 0) (hb : Below w.heap.size w w') : ApplyCPost T C w (.returned (.tuple #[zeroTab.v, .int .i64 er])) w' :=
  ⟨zeroTab, ⟨by rw [he], zeroTab_at _, hb, .inr ⟨by rw [he]; exact hne, rfl, rfl, rfl, rfl⟩⟩, Nat.le_refl _, (fun v _ _ => zeroTab_at v), fun a ha => by simp [zeroTab] at ha⟩
set_option maxHeartbeats 16000000 in
theorem rapplyc_any (T : Tab) (C : Chg) (w : World) (hT : TabAt w T) (hC : ChgAt w C) :
    Calls Tryz.prog 33 #[T.v, C.v] w (ApplyCPost T C w) := by
  obtain ⟨nm, pc, n, cc, f, nx, pr, cr, R⟩ := T
  obtain ⟨pi, ci, I, pd, cd, D, pu, cu, U⟩ := C
  unfold Tab.v Chg.v
  dsimp only at *
  have HT := Lib.hid hT
  have HC := Lib.hid hC
  have hn63 := hT.n
  have hR63 := hT.len
  have hI63 := hC.inl
  have hD63 := hC.dl
  have hU63 := hC.ul
  dsimp only at hn63 hR63 hI63 hD63 hU63
  have HA := Lib.hid (ApB.new w nm pc n cc nx pr R.length cr pi I.length ci pd D.length cd pu U.length cu)
  clear hT hC
  obtain ⟨vb, hvb⟩ : ∃ b, (validT nm n f nx R && validC n R I D U) = b := ⟨_, rfl⟩
  have HVB := Lib.hid hvb
  clear hvb
  go_enter Tryz.func33, Tryz.ntmps33
  go_upto_region 1 with (fail)
  generalize World.alloc _ _ = W0 at HA ⊢
  rw [show w.heap.size + 1 + 1 = w.heap.size + 2 from rfl]
  obtain ⟨hxl, x0, x1, x2, x3, -⟩ := HA.out.tab
  obtain ⟨hyl, y0, y1, y2, -⟩ := HA.out.chg
  go_wp2_with fail
  refine (rcvn_any nm pc n cc f nx pr cr R pi ci I pd cd D pu cu U _ (HT.out.low HA.out.bel) (HC.out.low HA.out.bel) HVB.out).mono ?_
  rintro e w1 ⟨rfl, hb1⟩
  have HA1 := Lib.hid (HA.out.low hb1)
  clear HA hb1 hxl x0 x1 x2 x3 hyl y0 y1 y2
  cases vb
  · have HE := Lib.hid (applyE_bad HVB.out)
    have HYS := Lib.hid (cell4_put w1 HA1.out.res (.string ⟨#[]⟩) (.slice none 0 0) (.int .i64 0) (.slice none 0 0))
    obtain ⟨hzl, z0, z1, z2, z3, zf⟩ := HA1.out.res
    go_wp2
    obtain ⟨-, s0, s1, s2, s3, -⟩ := HYS.out
    exact bodyPost_ret (v := .tuple #[zeroTab.v, .int .i64 17]) (by simp [results, Tryz.results33, go_sem, s0, s1, s2, s3, Tab.v, zeroTab]) rfl
      (apply_errC HE.out (by decide) ((((HA1.out.bel.setCell (by show w.heap.size ≤ w.heap.size + 2; omega) _).setCell (by show w.heap.size ≤ w.heap.size + 2; omega) _).setCell (by show w.heap.size ≤ w.heap.size + 2; omega) _).setCell (by show w.heap.size ≤ w.heap.size + 2; omega) _))
  · obtain ⟨hyl, y0, y1, y2, -⟩ := HA1.out.chg
    go_wp2_with fail
    go_loopw [28] (fun i v => ∃ k : Nat, k ≤ U.length ∧ i = .int .i64 k ∧ (∀ j, j < k → fitsRow f n (pAt U j).2.2 = 0) ∧ ApB w nm pc n cc nx pr R.length cr pi I.length ci pd D.length cd pu U.length cu v) (fun i _ => U.length - (intOf i).toNat)
    case atStart => exact ⟨0, Nat.zero_le _, rfl, fun j hj => by omega, HA1.out⟩
    clear HA1 hyl y0 y1 y2
    case round =>
      obtain ⟨k, hk, rfl, hok, ha⟩ := hrel
      have HOK := Lib.hid hok
      have HA := Lib.hid ha
      clear hok ha
      by_cases hlt : k < U.length
      · have hlt' : decide ((k : Int) < U.length) = true := decide_eq_true (by omega)
        obtain ⟨c, o, q, cq, r, cw, hp, hc, h0, h1, h2, -, hrn, -, -, -, -⟩ := (HC.out.low HA.out.bel).upd k hlt
        dsimp only at hp h0 h1 h2 hrn
        subst hp
        have hbn := below_alloc wr (.cells #[.int .i64 (pAt U k).1, .slice q (pAt U k).2.1.length cq, .slice r (pAt U k).2.2.length cw] 75)
        have HA2 := Lib.hid (HA.out.low hbn)
        have HRN := Lib.hid (hrn.low hbn)
        have HP2 := Lib.hid (cell3_new wr (.int .i64 (pAt U k).1) (.slice q (pAt U k).2.1.length cq) (.slice r (pAt U k).2.2.length cw) 75)
        have HSZ : Hid (ValsSized (pAt U k).2.2) := Lib.hid (HC.out.usz _ (pAt_mem hlt))
        clear hrn HA hbn
        go_upto_region 6 with (fail)
        clear h0 h1 h2 hc
        generalize World.alloc _ _ = W2 at HA2 HRN HP2 ⊢
        generalize wr.heap.size = P at HP2 ⊢
        obtain ⟨hxl, x0, x1, x2, x3, -⟩ := HA2.out.tab
        obtain ⟨hpl, p0, p1, p2, -⟩ := HP2.out
        go_wp2_with fail
        refine (rowfits_agg nm pc n cc f r (pAt U k).2.2 cw _ hn63 (HT.out.low HA2.out.bel).cols HRN.out HSZ.out).mono ?_
        rintro e w3 ⟨rfl, hb3⟩
        have HA3 := Lib.hid (HA2.out.low hb3)
        clear HA2 HRN HP2 HSZ hb3 hxl x0 x1 x2 x3 hpl p0 p1 p2
        cases hz : (fitsRow f n (pAt U k).2.2 != 0)
        · have HE : Hid (fitsRow f n (pAt U k).2.2 = 0) := Lib.hid (bne_eq_false_iff_eq.1 hz)
          go_wp2
          go_roundw
          case rel => exact ⟨k + 1, by omega, by go_num, all_succ HOK.out HE.out, HA3.out⟩
          case measure => simp [intOf]; omega
        · have HNE := Lib.hid (bne_iff_ne.1 hz)
          have HE := Lib.hid (applyE_upd HVB.out hlt HOK.out (bne_iff_ne.1 hz))
          have HYS := Lib.hid (cell4_put w3 HA3.out.res (.string ⟨#[]⟩) (.slice none 0 0) (.int .i64 0) (.slice none 0 0))
          obtain ⟨hzl, z0, z1, z2, z3, zf⟩ := HA3.out.res
          go_wp2
          obtain ⟨-, s0, s1, s2, s3, -⟩ := HYS.out
          exact bodyPost_ret (v := .tuple #[zeroTab.v, .int .i64 (fitsRow f n (pAt U k).2.2)]) (by simp [results, Tryz.results33, go_sem, s0, s1, s2, s3, Tab.v, zeroTab]) rfl
            (apply_errC HE.out HNE.out ((((HA3.out.bel.setCell (by show w.heap.size ≤ w.heap.size + 2; omega) _).setCell (by show w.heap.size ≤ w.heap.size + 2; omega) _).setCell (by show w.heap.size ≤ w.heap.size + 2; omega) _).setCell (by show w.heap.size ≤ w.heap.size + 2; omega) _))
      · have hlt' : decide ((k : Int) < U.length) = false := decide_eq_false (by omega)
        obtain rfl : k = U.length := by omega
        have HUF := Lib.hid HOK.out
        clear HOK
        obtain ⟨hyl, y0, y1, y2, -⟩ := HA.out.chg
        go_wp2_with fail
        go_loopw [45] (fun i v => ∃ k : Nat, k ≤ I.length ∧ i = .int .i64 k ∧ (∀ j, j < k → fitsRow f n (rAt I j) = 0) ∧ ApB w nm pc n cc nx pr R.length cr pi I.length ci pd D.length cd pu U.length cu v) (fun i _ => I.length - (intOf i).toNat)
        case atStart => exact ⟨0, Nat.zero_le _, rfl, fun j hj => by omega, HA.out⟩
        clear HA hyl y0 y1 y2
        case round =>
          generalize wr = wo at *
          obtain ⟨k, hk, rfl, hok, ha⟩ := hrel
          have HOK := Lib.hid hok
          have HA := Lib.hid ha
          clear hok ha
          by_cases hlt : k < I.length
          · have hlt' : decide ((k : Int) < I.length) = true := decide_eq_true (by omega)
            obtain ⟨c, o, q, cp, hp, hc, h0, hr, hs, hq⟩ := (HC.out.low HA.out.bel).ins k hlt
            dsimp only at hp h0 hr hs hq
            subst hp
            have HR := Lib.hid hr
            have HSZ : Hid (ValsSized (rAt I k)) := Lib.hid (HC.out.isz _ (by rw [rAt_get hlt]; exact List.getElem_mem hlt))
            clear hr hq
            obtain ⟨hxl, x0, x1, x2, x3, -⟩ := HA.out.tab
            go_wp2_with fail
            refine (rowfits_agg nm pc n cc f q (rAt I k) cp _ hn63 (HT.out.low HA.out.bel).cols HR.out HSZ.out).mono ?_
            rintro e w3 ⟨rfl, hb3⟩
            have HA3 := Lib.hid (HA.out.low hb3)
            clear HA HR HSZ hb3 hxl x0 x1 x2 x3 h0 hc
            cases hz : (fitsRow f n (rAt I k) != 0)
            · have HE : Hid (fitsRow f n (rAt I k) = 0) := Lib.hid (bne_eq_false_iff_eq.1 hz)
              go_wp2
              go_roundw
              case rel => exact ⟨k + 1, by omega, by go_num, all_succ HOK.out HE.out, HA3.out⟩
              case measure => simp [intOf]; omega
            · have HNE := Lib.hid (bne_iff_ne.1 hz)
              have HE := Lib.hid (applyE_ins HVB.out HUF.out hlt HOK.out (bne_iff_ne.1 hz))
              have HYS := Lib.hid (cell4_put w3 HA3.out.res (.string ⟨#[]⟩) (.slice none 0 0) (.int .i64 0) (.slice none 0 0))
              obtain ⟨hzl, z0, z1, z2, z3, zf⟩ := HA3.out.res
              go_wp2
              obtain ⟨-, s0, s1, s2, s3, -⟩ := HYS.out
              exact bodyPost_ret (v := .tuple #[zeroTab.v, .int .i64 (fitsRow f n (rAt I k))]) (by simp [results, Tryz.results33, go_sem, s0, s1, s2, s3, Tab.v, zeroTab]) rfl
                (apply_errC HE.out HNE.out ((((HA3.out.bel.setCell (by show w.heap.size ≤ w.heap.size + 2; omega) _).setCell (by show w.heap.size ≤ w.heap.size + 2; omega) _).setCell (by show w.heap.size ≤ w.heap.size + 2; omega) _).setCell (by show w.heap.size ≤ w.heap.size + 2; omega) _))
          · have hlt' : decide ((k : Int) < I.length) = false := decide_eq_false (by omega)
            obtain rfl : k = I.length := by omega
            have HIF := Lib.hid HOK.out
            clear HOK
            have HREST := Lib.hid (applyE_rest HVB.out HUF.out HIF.out)
            clear HUF HIF
            have hval : validT nm n f nx R = true := by have := HVB.out; rw [Bool.and_eq_true] at this; exact this.1
            obtain ⟨hso, hR100, hnx1, hnx2, -, -⟩ := validT_parts hval
            obtain ⟨hn1, hn6⟩ := schemaOK_range hso
            clear hval hso
            go_upto_region 17 with (fail)
            go_cut [12] from 58 to 63 (fun s12 wx => ∃ (O : Nat) (p2 : Option Addr) (c2 : Nat), s12 = .pointer (some ⟨O, 0, none⟩) ∧ w.heap.size + 3 ≤ O ∧ Cell4 wx O (.string nm) (.slice p2 n c2) (.int .i64 nx) (.slice none 0 0) ∧ ColsAt wx p2 n f ∧ (∀ q, p2 = some q → q.block ≠ O ∧ w.heap.size + 3 ≤ q.block) ∧ ApB w nm pc n cc nx pr R.length cr pi I.length ci pd D.length cd pu U.length cu wx)
            case first =>
              obtain ⟨hxl, x0, x1, x2, x3, -⟩ := HA.out.tab
              have HZ := Lib.hid (cell4_new wo (.string ⟨#[]⟩) (.slice none 0 0) (.int .i64 0) (.slice none 0 0) 34)
              have HAL := Lib.hid (HA.out.low (below_alloc wo (.cells #[.string ⟨#[]⟩, .slice none 0 0, .int .i64 0, .slice none 0 0] 34)))
              have hal : w.heap.size < (wo.alloc (.cells #[.string ⟨#[]⟩, .slice none 0 0, .int .i64 0, .slice none 0 0] 34)).heap.size := HAL.out.tab.lt
              have HTA := Lib.hid (HT.out.low HA.out.bel.drew)
              have hfs := field_schema
              have hOx : w.heap.size ≠ wo.heap.size := Nat.ne_of_lt HA.out.tab.lt
              have HTB := Lib.hid (HT.out.low HAL.out.bel.drew)
              go_region_held3 (fun u => u.cell? ⟨w.heap.size, 0, none⟩ = some (.string nm) ∧ u.cell? ⟨w.heap.size, 1, none⟩ = some (.slice pc n cc) ∧ u.cell? ⟨w.heap.size, 2, none⟩ = some (.int .i64 nx) ∧ u.cell? ⟨w.heap.size, 3, none⟩ = some (.slice pr R.length cr) ∧ w.heap.size < u.heap.size)
                (first
                  | exact ⟨x0, x1, x2, x3, hxl⟩
                  | with_reducible exact (HAL.out.low (Below.refl _ _).drew).tab.conj
                  | with_reducible exact HA5.out.tab.conj
                  | with_reducible exact (HA5.out.low (below_alloc _ _)).tab.conj
                  | with_reducible exact ((((HA5.out.tab.far hOx _).far hOx _).far hOx _).far hOx _).conj)
                (first
                  | (go_at_call 54; refine (rcopyt_any nm pc n cc f nx pr cr R _ HTA.out hn1 (by omega)).mono ?_; rintro e w5 ⟨p2, c2, pq, cq, rfl, hcols, hlo, hb5⟩; (have HA5 := Lib.hid (HA.out.low (undrew hb5))); (have HC5 := Lib.hid hcols); (have HL5 := Lib.hid hlo))
                  | (go_at_call 54; refine (rcopyt_any nm pc n cc f nx pr cr R _ HTB.out hn1 (by omega)).mono ?_; rintro e w5 ⟨p2, c2, pq, cq, rfl, hcols, hlo, hb5⟩; (have HA5 := Lib.hid (HAL.out.low (undrew hb5))); (have HC5 := Lib.hid hcols); (have HL5 := Lib.hid hlo); obtain ⟨zl, z0, z1, z2, z3, zf⟩ := HZ.out.low (undrew hb5)))
              · rename_i hHeld
                clear hHeld
                have hO : w.heap.size + 3 ≤ w5.heap.size := HA5.out.res.lt
                go_wp2_with fail
                go_meet
                exact ⟨w5.heap.size, p2, c2, rfl, hO, cell4_new _ _ _ _ _ _, HC5.out.low (below_alloc _ _), fun q hq => ⟨Nat.ne_of_lt (HL5.out q hq).2, Nat.le_trans HA.out.res.lt (HL5.out q hq).1⟩, HA5.out.low (below_alloc _ _)⟩
              · rename_i hHeld
                clear hHeld
                have hO : w.heap.size + 3 ≤ wo.heap.size := HA.out.res.lt
                have hq : ∀ q, p2 = some q → q.block ≠ wo.heap.size := fun q hq => by
                  have h1 : (wo.alloc (.cells #[.string ⟨#[]⟩, .slice none 0 0, .int .i64 0, .slice none 0 0] 34)).heap.size ≤ q.block := (HL5.out q hq).1
                  rw [size_alloc] at h1
                  omega
                have HCP := Lib.hid (cell4_put w5 (HZ.out.low (undrew hb5)) (.string nm) (.slice p2 n c2) (.int .i64 nx) (.slice none 0 0))
                have HCC := Lib.hid ((((HC5.out.set (a := ⟨wo.heap.size, 0, none⟩) hq (.string nm)).set (a := ⟨wo.heap.size, 1, none⟩) hq (.slice p2 n c2)).set (a := ⟨wo.heap.size, 2, none⟩) hq (.int .i64 nx)).set (a := ⟨wo.heap.size, 3, none⟩) hq (.slice none 0 0))
                have HST := Lib.hid (HA5.out.step hO (((((StepT.refl wo.heap.size w5).setCell 0 none (.string nm)).setCell 1 none (.slice p2 n c2)).setCell 2 none (.int .i64 nx)).setCell 3 none (.slice none 0 0)))
                go_wp2_with fail
                go_meet
                exact ⟨wo.heap.size, p2, c2, rfl, hO, HCP.out, HCC.out, fun q hq' => ⟨hq q hq', Nat.le_trans HAL.out.res.lt (HL5.out q hq').1⟩, HST.out⟩
            case rest =>
              obtain ⟨O, p2, c2, rfl, hO, hout, hcols, hqO, ha⟩ := hcut
              have HCOL := Lib.hid hcols
              have HQO := Lib.hid hqO
              have HA6 := Lib.hid ha
              have HOW6 : Hid (OutW O wc nm p2 n c2 nx (.slice none 0 0) [] wc) := Lib.hid ⟨hout, TOwn.nil _ _, StepT.refl _ _, hout.lt⟩
              clear hout hcols hqO ha HA
              obtain ⟨hxl, x0, x1, x2, x3, -⟩ := HA6.out.tab
              go_wp2_with fail
              go_loopw [67] (fun i v => ∃ (k : Nat) (vr : Value) (G : List GRow), k ≤ R.length ∧ i = .int .i64 k ∧ tabR G = keptR D U (R.take k) ∧ OutW O wc nm p2 n c2 nx vr G v) (fun i _ => R.length - (intOf i).toNat)
              case atStart => exact ⟨0, .slice none 0 0, [], Nat.zero_le _, rfl, rfl, HOW6.out⟩
              clear HOW6 hxl x0 x1 x2 x3
              case round =>
                obtain ⟨k, vr, G, hk, rfl, hG, how⟩ := hrel
                have HG := Lib.hid hG
                have HOW0 := Lib.hid how
                have HA7 := Lib.hid (HA6.out.step hO how.step)
                have HGL : Hid (G.length ≤ 100) := Lib.hid (by have h1 := congrArg List.length hG; rw [tabR_length] at h1; have h2 := keptR_length (D := D) (U := U) (R := R.take k); rw [List.length_take] at h2; omega)
                clear hG how
                by_cases hlt : k < R.length
                · have hlt' : decide ((k : Int) < R.length) = true := decide_eq_true (by omega)
                  go_upto_block 5 with (fail)
                  go_cut [14, 15, 16, 17] from 69 to 97 (fun _ _ _ _ wx => ∃ (vr' : Value) (G' : List GRow), tabR G' = keptR D U (R.take (k + 1)) ∧ OutW O wc nm p2 n c2 nx vr' G' wx)
                  case first =>
                    obtain ⟨c, o, q, cp, hpr, hc, h0, h1, hr, hs, hqn⟩ := (HT.out.low HA7.out.bel).rows k hlt
                    dsimp only at hpr h0 h1 hr hs hqn
                    subst hpr
                    have hbn := below_alloc wr (.cells #[.int .i64 (tAt R k).1, .slice q (tAt R k).2.length cp] 58)
                    have HA8 := Lib.hid (HA7.out.low hbn)
                    have HOW := Lib.hid (HOW0.out.low hbn)
                    have HRR := Lib.hid (hr.low hbn)
                    have HSS := Lib.hid hs
                    have HNN := Lib.hid hqn
                    have HRB : Hid ((wr.alloc (.cells #[.int .i64 (tAt R k).1, .slice q (tAt R k).2.length cp] 58)).cell? ⟨wr.heap.size, 0, none⟩ = some (.int .i64 (tAt R k).1) ∧ (wr.alloc (.cells #[.int .i64 (tAt R k).1, .slice q (tAt R k).2.length cp] 58)).cell? ⟨wr.heap.size, 1, none⟩ = some (.slice q (tAt R k).2.length cp) ∧ wr.heap.size < (wr.alloc (.cells #[.int .i64 (tAt R k).1, .slice q (tAt R k).2.length cp] 58)).heap.size) := Lib.hid ⟨(row2_new _ _ _ _).1, (row2_new _ _ _ _).2, by rw [size_alloc]; omega⟩
                    have HNE : Hid (∀ j, vr.ownBlock = some j → j < wr.heap.size) := Lib.hid (owns_lt HOW0.out.own.own)
                    have HXO : Hid (wr.heap.size ≠ O) := Lib.hid (by have := HOW0.out.hO; have := HOW0.out.step.size; omega)
                    clear hr hs hqn hbn HA7 HOW0
                    go_upto_region 21 with (fail)
                    clear h0 h1 hc
                    generalize World.alloc _ _ = W8 at HA8 HOW HRR HRB ⊢
                    generalize wr.heap.size = X at HRB HNE HXO ⊢
                    obtain ⟨r0, r1, rl⟩ := HRB.out
                    obtain ⟨hyl, y0, y1, y2, -⟩ := HA8.out.chg
                    go_wp2_with fail
                    refine (rhas_any D pd cd (tAt R k).1 _ hD63 (HC.out.low HA8.out.bel).del).mono ?_
                    rintro e w9 ⟨rfl, hb9⟩
                    have HA9 := Lib.hid (HA8.out.low hb9)
                    have HOW9 := Lib.hid (HOW.out.low hb9)
                    have HRR9 := Lib.hid (HRR.out.low hb9)
                    have HRB9 := Lib.hid (keepCT hb9 HRB.out)
                    clear HA8 HOW HRR HRB hb9 r0 r1 rl hyl y0 y1 y2
                    by_cases hd : (tAt R k).1 ∈ D
                    · rw [decide_eq_true hd]
                      go_wp2_with fail
                      go_meet
                      exact ⟨vr, G, by rw [HG.out, keptR_take hlt, if_pos hd, List.append_nil], HOW9.out⟩
                    · rw [decide_eq_false hd]
                      obtain ⟨r0, r1, rl⟩ := HRB9.out
                      obtain ⟨hyl, y0, y1, y2, -⟩ := HA9.out.chg
                      obtain ⟨fl, fb, hfo⟩ : ∃ l b, findO U (tAt R k).1 = (l, b) := ⟨_, _, rfl⟩
                      go_wp2_with fail
                      refine (rfindp_any U pu cu (tAt R k).1 _ hU63 (HC.out.low HA9.out.bel).upd).mono ?_
                      rintro e w10 ⟨fp, fc, he, hfr, hfs, hfn, hb10⟩
                      rw [hfo] at he hfr hfs hfn
                      dsimp only at he hfr hfs hfn
                      subst he
                      have HFO := Lib.hid hfo
                      have HFR := Lib.hid hfr
                      have HFS := Lib.hid hfs
                      have HFN := Lib.hid hfn
                      have HOW := Lib.hid (HOW9.out.low hb10)
                      have HRR := Lib.hid (HRR9.out.low hb10)
                      have HRB := Lib.hid (keepCT hb10 HRB9.out)
                      clear HA9 HOW9 HRR9 HRB9 hb10 hfo hfr hfs hfn r0 r1 rl hyl y0 y1 y2
                      obtain ⟨nv, hnv⟩ : ∃ x, newV U (tAt R k) = x := ⟨_, rfl⟩
                      have HNEW := Lib.hid hnv
                      clear hnv
                      go_upto_if 86 with (fail)
                      go_cut [15] from 87 to 87 (fun s15 wx => ∃ (p15 : Option Addr) (c15 : Nat), s15 = .slice p15 nv.length c15 ∧ RowAt w10 p15 nv ∧ nv.length * 32 ≤ 140737488355328 ∧ (p15 = none → nv = [] ∧ c15 = 0) ∧ w10 = wx)
                      case first =>
                        cases fb
                        · obtain rfl : nv = (tAt R k).2 := by rw [← HNEW.out, newV_find, HFO.out]; rfl
                          go_wp2_with fail
                          go_meet
                          exact ⟨q, cp, rfl, HRR.out, HSS.out, HNN.out, rfl⟩
                        · obtain rfl : nv = fl := by rw [← HNEW.out, newV_find, HFO.out]; rfl
                          go_wp2_with fail
                          go_meet
                          exact ⟨fp, fc, rfl, HFR.out, HFS.out, HFN.out, rfl⟩
                      case rest =>
                        obtain ⟨p15, c15, h15, h15r, h15s, h15n, h15w⟩ := hcut
                        subst h15 h15w
                        have HR15 := Lib.hid h15r
                        have HS15 := Lib.hid h15s
                        have HN15 := Lib.hid h15n
                        clear h15r h15s h15n HFR HFS HFN HSS HNN HRR HFO
                        go_upto_region 26 with (fail)
                        obtain ⟨ol, o0, o1, o2, o3, -⟩ := HOW.out.out
                        obtain ⟨r0, r1, rl⟩ := HRB.out
                        have HRV := Lib.hid (HR15.out.low (Below.refl w10.heap.size w10).drew)
                        have HOWD := Lib.hid (HOW.out.low (Below.refl w10.heap.size w10).drew)
                        have HBS : Hid (wc.heap.size ≤ w10.drew.heap.size) := Lib.hid HOWD.out.step.size
                        clear o0 o1 o2 r1
                        go_region_law (first
                          | (go_simp; go_at_call 32; refine (rcopy_any nv p15 c15 _ HRV.out HS15.out HN15.out).mono ?_; rintro e w12 ⟨v12, rfl, hin, hb12⟩; obtain ⟨p12, c12, e12⟩ := InRow.ex hin; subst e12; (have HIN := Lib.hid (InRow.base hin HBS.out)); (have HO12 := Lib.hid (HOWD.out.low hb12)); obtain ⟨q0, -, ql⟩ := keepCT hb12 HRB.out; (have n3 := HO12.out.out.c3); (have nl := HO12.out.out.lt); clear hin)
                          | (refine step_append_trow (by rfl) (.tmp 89) (.tmp 95) (by rfl) wc.heap.size vr G (by simp [Act.eval]) (HO12.out.own.low (below_alloc _ _)).own w12.heap.size (tAt R k).1 (.slice p12 nv.length c12) nv (by simp [Act.eval]) (row2_new _ _ _ _).1 (row2_new _ _ _ _).2 rfl (by have := HGL.out; omega) (by rw [size_alloc]; exact Nat.le_succ_of_le HO12.out.step.size) ?_; intro v13 w13 hown13 hg13; obtain ⟨⟨zl, z0, z1, z2, z3, zf⟩, hS13⟩ := HO12.out.push HIN.out hown13 hg13; obtain ⟨p13, c13, e13⟩ := hS13.own.ex; subst e13; rw [List.length_append, List.length_singleton] at hS13; (have HS13 := Lib.hid hS13); clear hS13 hown13 hg13 z0 z1 z2))
                        all_goals
                          clear HOW HRB
                          generalize World.setCell _ _ _ = W13 at HS13 ⊢
                          go_wp2_with fail
                          go_meet
                          exact ⟨_, G ++ [((tAt R k).1, .slice p12 nv.length c12, nv)], by rw [tabR_append, HG.out, keptR_take hlt, if_neg hd, HNEW.out]; rfl, HS13.out⟩
                  case rest =>
                    obtain ⟨vr', G', hG', how'⟩ := hcut
                    have HG2 := Lib.hid hG'
                    have HOW2 := Lib.hid how'
                    clear hG' how' HA7 HOW0
                    go_wp2
                    go_roundw
                    case rel => exact ⟨k + 1, vr', G', by omega, by go_num, HG2.out, HOW2.out⟩
                    case measure => simp [intOf]; omega
                · have hlt' : decide ((k : Int) < R.length) = false := decide_eq_false (by omega)
                  obtain rfl : k = R.length := by omega
                  have HGK : Hid (tabR G = keptR D U R) := Lib.hid (by rw [HG.out, List.take_length])
                  obtain ⟨pv, cv, hvr⟩ := HOW0.out.own.ex
                  subst hvr
                  have hGk : (keptR D U R).length = G.length := by rw [← HGK.out, tabR_length]
                  have hgl : G.length ≤ 100 := HGL.out
                  obtain ⟨lim, hlim⟩ : ∃ b, decide (100 < (keptR D U R).length + I.length ∨ 2147483648 - nx < I.length) = b := ⟨_, rfl⟩
                  have HLIM := Lib.hid hlim
                  have HGKL := Lib.hid hGk
                  clear hlim hGk HG
                  obtain ⟨ol, o0, o1, o2, o3, -⟩ := HOW0.out.out
                  obtain ⟨hxl, x0, x1, x2, x3, -⟩ := HA7.out.tab
                  obtain ⟨hyl, y0, y1, y2, -⟩ := HA7.out.chg
                  go_upto_region 28 with (fail)
                  go_cut [115] from 99 to 114 (fun s wx => s = .bool lim ∧ wr = wx)
                  case first =>
                    by_cases h1 : 100 < G.length + I.length
                    · have h1d : decide ((100 : Int) < (G.length : Int) + (I.length : Int)) = true := decide_eq_true (by omega)
                      have HL : Hid (lim = true) := Lib.hid (by rw [← HLIM.out]; exact decide_eq_true (.inl (by rw [HGKL.out]; exact h1)))
                      go_wp2_with fail
                      go_meet
                      exact ⟨by rw [HL.out], rfl⟩
                    · have h1d : decide ((100 : Int) < (G.length : Int) + (I.length : Int)) = false := decide_eq_false (by omega)
                      obtain ⟨b2, hb2⟩ : ∃ b, decide (2147483648 - nx < (I.length : Int)) = b := ⟨_, rfl⟩
                      have HL : Hid (lim = b2) := Lib.hid (by
                        rw [← HLIM.out, ← hb2]
                        exact decide_eq_decide.2 ⟨fun h => h.resolve_left (by rw [HGKL.out]; exact h1), .inr⟩)
                      go_wp2_with fail
                      go_meet
                      exact ⟨by rw [HL.out], rfl⟩
                  case rest =>
                    obtain ⟨h115, hw⟩ := hcut
                    subst h115 hw
                    clear x0 x1 x2 x3 y0 y1 y2 o0 o1 o2 o3 ol hxl hyl
                    cases lim
                    · have hnl : ¬ (100 < (keptR D U R).length + I.length ∨ 2147483648 - nx < I.length) := of_decide_eq_false HLIM.out
                      have HKI : Hid ((keptR D U R).length + I.length ≤ 100) := Lib.hid (by omega)
                      have HE1 : Hid (applyE nm n f nx R I D U = if dupR (findKey f n) (afterR nx R I D U) = true then 9 else 0) := Lib.hid (by rw [HREST.out, if_neg hnl])
                      clear hnl
                      obtain ⟨hyl, y0, y1, y2, -⟩ := HA7.out.chg
                      go_upto_region 30 with (fail)
                      go_wp2_with fail
                      go_loopw [120] (fun i v => ∃ (j : Nat) (vq : Value) (H : List GRow), j ≤ I.length ∧ i = .int .i64 j ∧ tabR H = keptR D U R ++ comeR nx (I.take j) ∧ OutW O wc nm p2 n c2 (nx + j) vq H v) (fun i _ => I.length - (intOf i).toNat)
                      case atStart => exact ⟨0, _, G, Nat.zero_le _, rfl, by rw [HGK.out]; simp [comeR], by rw [show nx + ((0 : Nat) : Int) = nx by simp]; exact HOW0.out⟩
                      clear HOW0 HA7 hyl y0 y1 y2 HGK HGKL HGL hgl
                      case round =>
                        obtain ⟨j, vq, H, hj, rfl, hH, how⟩ := hrel
                        have HH := Lib.hid hH
                        have HOW := Lib.hid how
                        have HA8 := Lib.hid (HA6.out.step hO how.step)
                        have HHL : Hid (H.length = (keptR D U R).length + j) := Lib.hid (by
                          have h1 := congrArg List.length hH
                          rw [tabR_length, List.length_append, comeR_length, List.length_take, Nat.min_eq_left hj] at h1
                          exact h1)
                        clear hH how
                        by_cases hlt : j < I.length
                        · have hltd : decide ((j : Int) < I.length) = true := decide_eq_true (by omega)
                          obtain ⟨c, o, q, cp, hp, hc, h0, hr, hs, hq⟩ := (HC.out.low HA8.out.bel).ins j hlt
                          dsimp only at hp h0 hr hs hq
                          subst hp
                          have HR := Lib.hid hr
                          have HS := Lib.hid hs
                          have HN := Lib.hid hq
                          clear hr hs hq
                          go_upto_region 33 with (fail)
                          clear h0 hc
                          go_cut [] from 124 to 133 (fun wx => ∃ (vq' : Value) (H' : List GRow), tabR H' = keptR D U R ++ comeR nx (I.take (j + 1)) ∧ OutW O wc nm p2 n c2 (nx + j) vq' H' wx)
                          case first =>
                            obtain ⟨ol, o0, o1, o2, o3, -⟩ := HOW.out.out
                            have HRV := Lib.hid (HR.out.low (Below.refl wr.heap.size wr).drew)
                            have HOWD := Lib.hid (HOW.out.low (Below.refl wr.heap.size wr).drew)
                            have HBS : Hid (wc.heap.size ≤ wr.drew.heap.size) := Lib.hid HOWD.out.step.size
                            have hhl : H.length ≤ 100 := by have := HHL.out; have := HKI.out; omega
                            clear o0 o1
                            go_region_law (first
                              | (go_simp; go_at_call 32; refine (rcopy_any (rAt I j) q cp _ HRV.out HS.out HN.out).mono ?_; rintro e w12 ⟨v12, rfl, hin, hb12⟩; obtain ⟨p12, c12, e12⟩ := InRow.ex hin; subst e12; (have HIN := Lib.hid (InRow.base hin HBS.out)); (have HO12 := Lib.hid (HOWD.out.low hb12)); (have n2 := HO12.out.out.c2); (have n3 := HO12.out.out.c3); (have nl := HO12.out.out.lt); clear hin)
                              | (refine step_append_trow (by rfl) (.tmp 125) (.tmp 131) (by rfl) wc.heap.size vq H (by simp [Act.eval]) (HO12.out.own.low (below_alloc _ _)).own w12.heap.size (nx + j) (.slice p12 (rAt I j).length c12) (rAt I j) (by simp [Act.eval]) (row2_new _ _ _ _).1 (row2_new _ _ _ _).2 rfl (by omega) (by rw [size_alloc]; exact Nat.le_succ_of_le HO12.out.step.size) ?_; intro v13 w13 hown13 hg13; obtain ⟨⟨zl, z0, z1, z2, z3, zf⟩, hS13⟩ := HO12.out.push HIN.out hown13 hg13; obtain ⟨p13, c13, e13⟩ := hS13.own.ex; subst e13; rw [List.length_append, List.length_singleton] at hS13; (have HS13 := Lib.hid hS13); clear hS13 hown13 hg13 z0 z1 z2))
                            all_goals
                              clear HOW
                              generalize World.setCell _ _ _ = W13 at HS13 ⊢
                              go_wp2_with fail
                              go_meet
                              exact ⟨_, H ++ [(nx + j, .slice p12 (rAt I j).length c12, rAt I j)], by rw [tabR_append, HH.out, comeR_take hlt, List.append_assoc]; rfl, HS13.out⟩
                          case rest =>
                            obtain ⟨vq', H', hH', how'⟩ := hcut
                            have HH2 := Lib.hid hH'
                            obtain ⟨ol, o0, o1, o2, o3, of⟩ := how'.out
                            have HS3 := Lib.hid (how'.setNx (nx + j + 1))
                            have hnj : nx + (j : Int) + 1 ≤ 2147484700 := by omega
                            clear hH' how' HOW HA8 HH o0 o1 o3
                            go_wp2
                            go_roundw
                            case rel => exact ⟨j + 1, vq', H', by omega, by go_num, HH2.out, by rw [show nx + ((j + 1 : Nat) : Int) = nx + (j : Int) + 1 by omega]; exact HS3.out⟩
                            case measure => simp [intOf]; omega
                        · have hltd : decide ((j : Int) < I.length) = false := decide_eq_false (by omega)
                          obtain rfl : j = I.length := by omega
                          have HGF : Hid (tabR H = afterR nx R I D U) := Lib.hid (by rw [HH.out, List.take_length]; rfl)
                          obtain ⟨pv, cv, hvr⟩ := HOW.out.own.ex
                          have hrowsI := HOW.out.own.rowsIn
                          rw [HGF.out, hvr] at hrowsI
                          have HRI := Lib.hid hrowsI
                          subst hvr
                          have hcp : (afterR nx R I D U).length ≤ cv := by have h1 := (owns_cap HOW.out.own.own).2; rw [← HGF.out, tabR_length]; exact h1
                          have HCAP := Lib.hid hcp
                          clear hcp
                          have hlen : (afterR nx R I D U).length = H.length := by rw [← HGF.out, tabR_length]
                          have HLEN := Lib.hid hlen
                          have hhl : H.length ≤ 100 := by have := HHL.out; have := HKI.out; omega
                          have HCV : Hid (ColsAt wr p2 n f) := Lib.hid (HCOL.out.step HOW.out.step fun q hq => (HQO.out q hq).1)
                          have HTA : Hid (TabAt wr ⟨nm, p2, n, c2, f, nx + I.length, pv, cv, afterR nx R I D U⟩) :=
                            Lib.hid ⟨HT.out.name, HT.out.n, HCV.out, HRI.out.at (Nat.le_refl _) fun _ _ _ => rfl, by dsimp only; rw [HLEN.out]; omega, after_sized HC.out.usz HT.out.sized HC.out.isz, by dsimp only; omega⟩
                          obtain ⟨db, hdb⟩ : ∃ b, dupR (findKey f n) (afterR nx R I D U) = b := ⟨_, rfl⟩
                          have HDB := Lib.hid hdb
                          clear hrowsI hlen hdb HHL HH HGF
                          obtain ⟨ol, o0, o1, o2, o3, -⟩ := HOW.out.out
                          go_wp2_with fail
                          refine (rdupm_any nm p2 n c2 f (nx + I.length) pv cv (afterR nx R I D U) H.length HLEN.out _ HTA.out HDB.out).mono ?_
                          rintro e wz ⟨rfl, hbz⟩
                          have HAZ := Lib.hid (HA8.out.low hbz)
                          have HOZ := Lib.hid (HOW.out.low hbz)
                          have HCZ := Lib.hid (HCV.out.low hbz)
                          have HBZ := Lib.hid hbz
                          clear hbz HA8 HOW HCV HTA ol o0 o1 o2 o3
                          cases db
                          · have HE0 : Hid (applyE nm n f nx R I D U = 0) := Lib.hid (by rw [HE1.out, HDB.out]; rfl)
                            have HYS := Lib.hid (cell4_put wz HAZ.out.res (.string nm) (.slice p2 n c2) (.int .i64 (nx + I.length)) (.slice pv H.length cv))
                            obtain ⟨hzl, z0, z1, z2, z3, zf⟩ := HAZ.out.res
                            obtain ⟨ol, o0, o1, o2, o3, -⟩ := HOZ.out.out
                            have hwc : w.heap.size + 3 < wc.heap.size := by have := HOZ.out.hO; omega
                            have hq : ∀ q, p2 = some q → q.block ≠ w.heap.size + 2 := fun q hq => by have := (HQO.out q hq).2; omega
                            have hCF := (((HCZ.out.set (a := ⟨w.heap.size + 2, 0, none⟩) hq (.string nm)).set (a := ⟨w.heap.size + 2, 1, none⟩) hq (.slice p2 n c2)).set (a := ⟨w.heap.size + 2, 2, none⟩) hq (.int .i64 (nx + I.length))).set (a := ⟨w.heap.size + 2, 3, none⟩) hq (.slice pv H.length cv)
                            have HFR : Hid (TabKept w.heap.size ((((wz.setCell ⟨w.heap.size + 2, 0, none⟩ (.string nm)).setCell ⟨w.heap.size + 2, 1, none⟩ (.slice p2 n c2)).setCell ⟨w.heap.size + 2, 2, none⟩ (.int .i64 (nx + I.length))).setCell ⟨w.heap.size + 2, 3, none⟩ (.slice pv H.length cv)) ⟨nm, p2, n, c2, f, nx + I.length, pv, cv, afterR nx R I D U⟩) := Lib.hid ⟨fun v hz hk =>
                              ⟨HT.out.name, HT.out.n, hCF.keep hz fun a ha => hk a.block (by have := (HQO.out a ha).2; omega) (by obtain ⟨c, o, he, hc⟩ := hCF.ptr hn1; rw [he] at ha; cases ha; exact hc),
                                HRI.out.at (by rw [set_size, set_size, set_size, set_size] at hz; exact Nat.le_trans HBZ.out.size hz) fun k h1 h2 => (hk k (by omega) (by rw [set_size, set_size, set_size, set_size]; exact Nat.lt_of_lt_of_le h2 HBZ.out.size)).trans (by
                                  rw [Below.heap_setCell _ _ _ _ (show k ≠ w.heap.size + 2 by omega), Below.heap_setCell _ _ _ _ (show k ≠ w.heap.size + 2 by omega), Below.heap_setCell _ _ _ _ (show k ≠ w.heap.size + 2 by omega), Below.heap_setCell _ _ _ _ (show k ≠ w.heap.size + 2 by omega)]
                                  exact HBZ.out.block k h2),
                                by dsimp only; rw [HLEN.out]; omega, after_sized HC.out.usz HT.out.sized HC.out.isz, by dsimp only; omega⟩, fun a ha => by have := (HQO.out a ha).2; omega⟩
                            clear hq hCF
                            go_wp2
                            obtain ⟨-, s0, s1, s2, s3, -⟩ := HYS.out
                            exact bodyPost_ret (v := .tuple #[.agg #[.string nm, .slice p2 n c2, .int .i64 (nx + I.length), .slice pv H.length cv], .int .i64 0]) (by simp [results, Tryz.results33, go_sem, s0, s1, s2, s3]) rfl
                              ⟨⟨nm, p2, n, c2, f, nx + I.length, pv, cv, afterR nx R I D U⟩, ⟨by dsimp only; rw [HE0.out]; unfold Tab.v; dsimp only; rw [HLEN.out], HFR.out.1 _ (Nat.le_refl _) (fun _ _ _ => rfl),
                                (((HAZ.out.bel.setCell (by show w.heap.size ≤ w.heap.size + 2; omega) _).setCell (by show w.heap.size ≤ w.heap.size + 2; omega) _).setCell (by show w.heap.size ≤ w.heap.size + 2; omega) _).setCell (by show w.heap.size ≤ w.heap.size + 2; omega) _, .inl ⟨HE0.out, rfl, rfl, fun _ _ => rfl, rfl, rfl⟩⟩, HCAP.out, HFR.out⟩
                          · have HE : Hid (applyE nm n f nx R I D U = 9) := Lib.hid (by rw [HE1.out, HDB.out]; rfl)
                            have HYS := Lib.hid (cell4_put wz HAZ.out.res (.string ⟨#[]⟩) (.slice none 0 0) (.int .i64 0) (.slice none 0 0))
                            obtain ⟨hzl, z0, z1, z2, z3, zf⟩ := HAZ.out.res
                            go_wp2
                            obtain ⟨-, s0, s1, s2, s3, -⟩ := HYS.out
                            exact bodyPost_ret (v := .tuple #[zeroTab.v, .int .i64 9]) (by simp [results, Tryz.results33, go_sem, s0, s1, s2, s3, Tab.v, zeroTab]) rfl
                              (apply_errC HE.out (by decide) ((((HAZ.out.bel.setCell (by show w.heap.size ≤ w.heap.size + 2; omega) _).setCell (by show w.heap.size ≤ w.heap.size + 2; omega) _).setCell (by show w.heap.size ≤ w.heap.size + 2; omega) _).setCell (by show w.heap.size ≤ w.heap.size + 2; omega) _))
                    · have HE : Hid (applyE nm n f nx R I D U = 10) := Lib.hid (by rw [HREST.out, if_pos (of_decide_eq_true HLIM.out)])
                      have HYS := Lib.hid (cell4_put wr HA7.out.res (.string ⟨#[]⟩) (.slice none 0 0) (.int .i64 0) (.slice none 0 0))
                      obtain ⟨hzl, z0, z1, z2, z3, zf⟩ := HA7.out.res
                      go_wp2
                      obtain ⟨-, s0, s1, s2, s3, -⟩ := HYS.out
                      exact bodyPost_ret (v := .tuple #[zeroTab.v, .int .i64 10]) (by simp [results, Tryz.results33, go_sem, s0, s1, s2, s3, Tab.v, zeroTab]) rfl
                        (apply_errC HE.out (by decide) ((((HA7.out.bel.setCell (by show w.heap.size ≤ w.heap.size + 2; omega) _).setCell (by show w.heap.size ≤ w.heap.size + 2; omega) _).setCell (by show w.heap.size ≤ w.heap.size + 2; omega) _).setCell (by show w.heap.size ≤ w.heap.size + 2; omega) _))
theorem rapply_any (T : Tab) (C : Chg) (w : World) (hT : TabAt w T) (hC : ChgAt w C) :
    Calls Tryz.prog 33 #[T.v, C.v] w (ApplyPost T C w) := (rapplyc_any T C w hT hC).mono fun _ _ ⟨S, h, _⟩ => ⟨S, h⟩
end Go.Proofs.YtlnbpobipmejfaaGreatDoor
