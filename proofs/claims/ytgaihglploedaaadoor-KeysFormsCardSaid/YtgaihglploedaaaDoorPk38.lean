/-
  Several texts in one.
-/
import Derived.Test.YtgaihglploedaaaDoorPk35
import Derived.Test.YtgaihglploedaaaDoorPk07
import Derived.Test.YtgaihglploedaaaDoorPk21
import Derived.Test.YtgaihglploedaaaDoorPk20
import Derived.Deep.RegionLaw
import Derived.Deep.RegionHeld3
/-
  Package keys: Apply.
-/
namespace Go.Proofs.YtgaihglploedaaaDoor
set_option maxRecDepth 100000
open Go.RowKit
variable {ls : List Nat}

theorem filt_len (R : List TRow) (D : List Int) (hR : (R.map (·.1)).Pairwise (· < ·)) (hD : D.Pairwise (· < ·)) (hin : ∀ d ∈ D, d ∈ R.map (·.1)) : (R.filter fun r => decide (r.1 ∈ D)).length = D.length := by
  induction R generalizing D with
  | nil =>
    have h1 : D = [] := List.eq_nil_iff_forall_not_mem.2 fun d hd => by have := hin d hd; simp at this
    subst h1
    rfl
  | cons r R ih =>
    have hR' : (R.map (·.1)).Pairwise (· < ·) := by rw [List.map_cons, List.pairwise_cons] at hR; exact hR.2
    cases D with
    | nil => simp
    | cons d D =>
      have hp := List.pairwise_cons.1 hD
      by_cases he : d = r.1
      · subst he
        have hin' : ∀ x ∈ D, x ∈ R.map (·.1) := fun x hx => by
          have h1 := hin x (List.mem_cons_of_mem _ hx)
          rw [List.map_cons, List.mem_cons] at h1
          rcases h1 with h1 | h1
          · have := hp.1 x hx; omega
          · exact h1
        rw [List.filter_cons_of_pos (by simp), List.length_cons, List.length_cons, ← ih D hR' hp.2 hin']
        congr 2
        apply List.filter_congr
        intro x hx
        have h1 := ids_lt hR hx
        rw [decide_eq_decide, List.mem_cons]
        constructor
        · rintro (h2 | h2)
          · omega
          · exact h2
        · exact .inr
      · have hlt : ∀ x ∈ d :: D, r.1 < x := by
          have h0 : r.1 < d := by
            have h1 := hin d List.mem_cons_self
            rw [List.map_cons, List.mem_cons] at h1
            rcases h1 with h1 | h1
            · exact absurd h1 he
            · exact idsl_lt hR h1
          intro x hx
          rcases List.mem_cons.1 hx with rfl | hx
          · exact h0
          · have := hp.1 x hx; omega
        rw [List.filter_cons_of_neg (by rw [decide_eq_false fun hc : r.1 ∈ d :: D => absurd (hlt _ hc) (by omega)]; decide)]
        exact ih _ hR' hD fun x hx => by
          have h1 := hin x hx
          have h2 := hlt x hx
          rw [List.map_cons, List.mem_cons] at h1
          rcases h1 with h1 | h1
          · omega
          · exact h1
theorem len_split {α : Type} (R : List α) (p : α → Bool) : (R.filter fun r => !p r).length + (R.filter p).length = R.length := by
  induction R with
  | nil => rfl
  | cons r R ih =>
    cases h : p r
    · rw [List.filter_cons_of_pos (by rw [h]; rfl), List.filter_cons_of_neg (by rw [h]; decide), List.length_cons, List.length_cons]; omega
    · rw [List.filter_cons_of_neg (by rw [h]; decide), List.filter_cons_of_pos (by rw [h]), List.length_cons, List.length_cons]; omega
theorem kept_len {f : Nat → Col} {n : Nat} {nx : Int} {R : List TRow} {I : List (List Val)} {D : List Int} {U : List PRow} (h : ∀ i, i < R.length → RowOK f n nx R i) (hv : validC n R I D U = true) : (keptR D U R).length + D.length = R.length := by
  obtain ⟨h1, h2, -⟩ := validC_parts hv
  have ha := ((agree_iff h).2 ⟨h1, h2⟩).1
  have h3 := filt_len R D (rows_up h) ha.dup ha.din
  have h4 := len_split R fun r => decide (r.1 ∈ D)
  unfold keptR
  rw [List.length_map]
  omega
theorem applyE_is {nm : ByteArray} {n : Nat} {f : Nat → Col} {nx : Int} {R : List TRow} {I : List (List Val)} {D : List Int} {U : List PRow} (h : (validT nm n f nx R && validC n R I D U) = true) :
    applyE nm n f nx R I D U = if fitsC f n I U ≠ 0 then fitsC f n I U else if roomB nx R I D = false then 10 else if dupR (findKey f n) (afterR nx R I D U) = true then 9 else 0 := by
  have hp := h
  rw [Bool.and_eq_true] at hp
  have hk := kept_len (validT_parts hp.1).2.2.2.2.1 hp.2
  have hr : roomB nx R I D = false ↔ (100 < (keptR D U R).length + I.length ∨ 2147483648 - nx < I.length) := by
    unfold roomB
    rw [decide_eq_false_iff_not]
    omega
  unfold applyE fitsC
  rw [if_neg (by rw [h]; decide)]
  simp only [hr]
  by_cases hu : fitsL f n (U.map (·.2.2)) ≠ 0
  · simp only [if_pos hu]
  · simp only [if_neg hu]
theorem fits_len {f : Nat → Col} {n : Nat} {l : List Val} (h : fitsRow f n l = 0) : l.length = n := by
  by_cases hl : l.length = n
  · exact hl
  · rw [fitsRow_len hl] at h; cases h
theorem after_pos {nm : ByteArray} {n : Nat} {f : Nat → Col} {nx : Int} {R : List TRow} {I : List (List Val)} {D : List Int} {U : List PRow} (hv : validT nm n f nx R = true) (hf : fitsC f n I U = 0) : ∀ r ∈ afterR nx R I D U, 0 < r.2.length := by
  obtain ⟨hso, -, -, -, hrow, -⟩ := validT_parts hv
  obtain ⟨hn1, -⟩ := schemaOK_range hso
  obtain ⟨hU, hI⟩ := fitsC_parts hf
  intro r hr
  have h2 : r.2.length = n := by
    rcases List.mem_append.1 hr with hr | hr
    · unfold keptR at hr
      obtain ⟨x, hx, rfl⟩ := List.mem_map.1 hr
      have hx := (List.mem_filter.1 hx).1
      show (newV U x).length = n
      unfold newV
      cases hu : U.find? fun p => decide (p.1 = x.1) with
      | none =>
        obtain ⟨i, hi, he⟩ := List.getElem_of_mem hx
        rw [← tAt_get hi] at he
        subst he
        exact fits_len (hrow i hi).2.2.2
      | some p => exact fits_len (hU p (List.mem_of_find?_eq_some hu))
    · have : ∀ (I : List (List Val)) (nx : Int), (∀ l ∈ I, fitsRow f n l = 0) → ∀ r ∈ comeR nx I, r.2.length = n := by
        intro I
        induction I with
        | nil => intro nx _ r hr; cases hr
        | cons l I ih =>
          intro nx h r hr
          rcases List.mem_cons.1 hr with rfl | hr
          · exact fits_len (h l List.mem_cons_self)
          · exact ih (nx + 1) (fun x hx => h x (List.mem_cons_of_mem _ hx)) r hr
      exact this I nx hI r hr
  omega
/-- The boxes of Apply. -/
structure AB (w : World) (nm : ByteArray) (pc : Option Addr) (n cc : Nat) (nx : Int) (pr : Option Addr) (m cr : Nat) (pi : Option Addr) (mi ci : Nat) (pd : Option Addr) (md cd : Nat) (pu : Option Addr) (mu cu : Nat) (v : World) : Prop where
  kb : KB w nm pc n cc nx pr m cr pi mi ci pd md cd pu mu cu v
  res : Cell4 v (w.heap.size + 2) (.string ⟨#[]⟩) (.slice none 0 0) (.int .i64 0) (.slice none 0 0)
section
variable {w u v : World} {nm : ByteArray} {pc : Option Addr} {n cc : Nat} {nx : Int} {pr : Option Addr} {m cr : Nat} {pi : Option Addr} {mi ci : Nat} {pd : Option Addr} {md cd : Nat} {pu : Option Addr} {mu cu : Nat}
theorem AB.low (h : AB w nm pc n cc nx pr m cr pi mi ci pd md cd pu mu cu u) (hb : Below u.heap.size u v) : AB w nm pc n cc nx pr m cr pi mi ci pd md cd pu mu cu v := ⟨h.kb.low hb, h.res.low hb⟩
theorem AB.new (w : World) (nm : ByteArray) (pc : Option Addr) (n cc : Nat) (nx : Int) (pr : Option Addr) (m cr : Nat) (pi : Option Addr) (mi ci : Nat) (pd : Option Addr) (md cd : Nat) (pu : Option Addr) (mu cu : Nat) :
    AB w nm pc n cc nx pr m cr pi mi ci pd md cd pu mu cu (((w.alloc (.cells #[.string nm, .slice pc n cc, .int .i64 nx, .slice pr m cr] 51)).alloc (.cells #[.slice pi mi ci, .slice pd md cd, .slice pu mu cu] 79)).alloc (.cells #[.string ⟨#[]⟩, .slice none 0 0, .int .i64 0, .slice none 0 0] 51)) :=
  ⟨(KB.new w nm pc n cc nx pr m cr pi mi ci pd md cd pu mu cu).low (below_alloc _ _), (cell4_new ((w.alloc _).alloc _) _ _ _ _ _).at (by rw [size_alloc, size_alloc])⟩
theorem AB.ret (h : AB w nm pc n cc nx pr m cr pi mi ci pd md cd pu mu cu u) (a b c d : Value) : Below w.heap.size w ((((u.setCell ⟨w.heap.size + 2, 0, none⟩ a).setCell ⟨w.heap.size + 2, 1, none⟩ b).setCell ⟨w.heap.size + 2, 2, none⟩ c).setCell ⟨w.heap.size + 2, 3, none⟩ d) :=
  (((h.kb.bel.setCell (by exact Nat.le_add_right _ _) _).setCell (by exact Nat.le_add_right _ _) _).setCell (by exact Nat.le_add_right _ _) _).setCell (by exact Nat.le_add_right _ _) _
end
section
variable (nm : ByteArray) (pc : Option Addr) (n cc : Nat) (f : Nat → Col) (nx : Int) (pr : Option Addr) (cr : Nat) (R : List TRow) (pi : Option Addr) (ci : Nat) (I : List (List Val)) (pd : Option Addr) (cd : Nat) (D : List Int) (pu : Option Addr) (cu : Nat) (U : List PRow) (w : World)
theorem kvalid_eq (hT : TabAt w ⟨nm, pc, n, cc, f, nx, pr, cr, R⟩) (hC : ChgAt w ⟨pi, ci, I, pd, cd, D, pu, cu, U⟩) {b : Bool} (hv : (validT nm n f nx R && validC n R I D U) = b) :
    Calls Tryd.prog 89 #[.agg #[.string nm, .slice pc n cc, .int .i64 nx, .slice pr R.length cr], .agg #[.slice pi I.length ci, .slice pd D.length cd, .slice pu U.length cu]] w fun e w' => e = .returned (.bool b) ∧ Below w.heap.size w w' := by
  subst hv; exact kvalid_any nm pc n cc f nx pr cr R pi ci I pd cd D pu cu U w hT hC
theorem kfits_eq (hn : n ≤ 9223372036854775807) (hcol : ColsAt w pc n f) (hC : ChgAt w ⟨pi, ci, I, pd, cd, D, pu, cu, U⟩) :
    Calls Tryd.prog 91 #[.agg #[.string nm, .slice pc n cc], .agg #[.slice pi I.length ci, .slice pd D.length cd, .slice pu U.length cu]] w fun e w' => e = .returned (.int .i64 (fitsC f n I U)) ∧ Below w.heap.size w w' :=
  kfits_any nm pc n cc f ⟨pi, ci, I, pd, cd, D, pu, cu, U⟩ w hn hcol hC
theorem room_eq (hR : R.length ≤ 100) (hD : D.length ≤ 100) (hI : I.length ≤ 1000) (h1 : 1 ≤ nx) (h2 : nx ≤ 2147483648) {b : Bool} (hv : roomB nx R I D = b) :
    Calls Tryd.prog 92 #[.agg #[.string nm, .slice pc n cc, .int .i64 nx, .slice pr R.length cr], .agg #[.slice pi I.length ci, .slice pd D.length cd, .slice pu U.length cu]] w fun e w' => e = .returned (.bool b) ∧ Below w.heap.size w w' := by
  subst hv; exact room_any ⟨nm, pc, n, cc, cAt [], nx, pr, cr, R⟩ ⟨pi, ci, I, pd, cd, D, pu, cu, U⟩ w hR hD hI h1 h2
theorem kdup_eq (hT : TabAt w ⟨nm, pc, n, cc, f, nx, pr, cr, R⟩) {b : Bool} (hv : dupR (findKey f n) R = b) :
    Calls Tryd.prog 69 #[.agg #[.string nm, .slice pc n cc, .int .i64 nx, .slice pr R.length cr]] w fun e w' => e = .returned (.bool b) ∧ Below w.heap.size w w' := by
  subst hv; exact dup_any ⟨nm, pc, n, cc, f, nx, pr, cr, R⟩ w hT
/-- What Apply gives; the table lies in memory of the call's own. -/
def ApplyFree (T : Tab) (C : Chg) (w : World) (e : Ending) (w' : World) : Prop := ∃ S : Tab, e = .returned (.tuple #[S.v, .int .i64 (applyE T.nm T.n T.f T.nx T.R C.I C.D C.U)]) ∧ TabOwn w.heap.size w' S ∧ Below w.heap.size w w' ∧
  ((applyE T.nm T.n T.f T.nx T.R C.I C.D C.U = 0 ∧ S.nm = T.nm ∧ S.n = T.n ∧ (∀ i, i < T.n → S.f i = T.f i) ∧ S.nx = T.nx + C.I.length ∧ S.R = afterR T.nx T.R C.I C.D C.U) ∨ (applyE T.nm T.n T.f T.nx T.R C.I C.D C.U ≠ 0 ∧ S.nm = ⟨#[]⟩ ∧ S.n = 0 ∧ S.nx = 0 ∧ S.R = []))
theorem apply_errF {T : Tab} {C : Chg} {w w' : World} {er : Int} (he : applyE T.nm T.n T.f T.nx T.R C.I C.D C.U = er) (hne : er ≠ 0) (hb : Below w.heap.size w w') : ApplyFree T C w (.returned (.tuple #[zeroTab.v, .int .i64 er])) w' :=
  ⟨zeroTab, by rw [he], ⟨⟨[], TOwn.nil _ _, rfl⟩, COwn.zero _ _ _, (zeroTab_at w').name, (zeroTab_at w').n, (zeroTab_at w').len, (zeroTab_at w').sized, (zeroTab_at w').nxr⟩, hb, .inr ⟨by rw [he]; exact hne, rfl, rfl, rfl, rfl⟩⟩
set_option maxHeartbeats 4000000 in
theorem kapply_free (hT : TabAt w ⟨nm, pc, n, cc, f, nx, pr, cr, R⟩) (hC : ChgAt w ⟨pi, ci, I, pd, cd, D, pu, cu, U⟩) :
    Calls Tryd.prog 51 #[.agg #[.string nm, .slice pc n cc, .int .i64 nx, .slice pr R.length cr], .agg #[.slice pi I.length ci, .slice pd D.length cd, .slice pu U.length cu]] w (ApplyFree ⟨nm, pc, n, cc, f, nx, pr, cr, R⟩ ⟨pi, ci, I, pd, cd, D, pu, cu, U⟩ w) := by
  have HT := Lib.hid hT
  have HC := Lib.hid hC
  have hn63 := hT.n
  have hR63 := hT.len
  have hI63 := hC.inl
  dsimp only at hn63 hR63 hI63
  have HA := Lib.hid (AB.new w nm pc n cc nx pr R.length cr pi I.length ci pd D.length cd pu U.length cu)
  clear hT hC
  obtain ⟨vb, hvb⟩ : ∃ b, (validT nm n f nx R && validC n R I D U) = b := ⟨_, rfl⟩
  have HVB := Lib.hid hvb
  clear hvb
  go_enter Tryd.func51, Tryd.ntmps51
  go_upto_region 1 with (fail)
  generalize World.alloc _ _ = W0 at HA ⊢
  rw [show w.heap.size + 1 + 1 = w.heap.size + 2 from rfl]
  obtain ⟨xl, x0, x1, x2, x3, -⟩ := HA.out.kb.tab
  obtain ⟨yl, y0, y1, y2, -⟩ := HA.out.kb.chg
  go_wp2_with fail
  refine (kvalid_eq nm pc n cc f nx pr cr R pi ci I pd cd D pu cu U _ (HT.out.low HA.out.kb.bel) (HC.out.low HA.out.kb.bel) HVB.out).mono ?_
  rintro e w1 ⟨rfl, hb1⟩
  have HA1 := Lib.hid (HA.out.low hb1)
  clear HA hb1 xl x0 x1 x2 x3 yl y0 y1 y2
  cases vb
  · have HE := Lib.hid (applyE_bad HVB.out)
    have HYS := Lib.hid (cell4_put w1 HA1.out.res (.string ⟨#[]⟩) (.slice none 0 0) (.int .i64 0) (.slice none 0 0))
    obtain ⟨zl, z0, z1, z2, z3, zf⟩ := HA1.out.res
    go_wp2
    obtain ⟨-, s0, s1, s2, s3, -⟩ := HYS.out
    exact bodyPost_ret (v := .tuple #[zeroTab.v, .int .i64 17]) (by simp [results, Tryd.results51, go_sem, s0, s1, s2, s3, Tab.v, zeroTab]) rfl (apply_errF HE.out (by decide) (HA1.out.ret _ _ _ _))
  · have hp := HVB.out
    rw [Bool.and_eq_true] at hp
    obtain ⟨hvt, hvc⟩ := hp
    obtain ⟨hso, hR100, hnx1, hnx2, hrow, -⟩ := validT_parts hvt
    obtain ⟨hn1, hn6⟩ := schemaOK_range hso
    have hD100 : D.length ≤ 100 := by have := kept_len hrow hvc; omega
    have HREM := Lib.hid (remR_kept hrow hvc)
    have HKL := Lib.hid (kept_len hrow hvc)
    have HIS := Lib.hid (applyE_is HVB.out)
    have HVT := Lib.hid hvt
    clear hvt hvc hso hrow HVB
    obtain ⟨xl, x0, x1, x2, x3, -⟩ := HA1.out.kb.tab
    obtain ⟨yl, y0, y1, y2, -⟩ := HA1.out.kb.chg
    go_wp2_with fail
    refine (kfits_eq nm pc n cc f pi ci I pd cd D pu cu U _ hn63 (HT.out.low HA1.out.kb.bel).cols (HC.out.low HA1.out.kb.bel)).mono ?_
    rintro e w2 ⟨rfl, hb2⟩
    have HA2 := Lib.hid (HA1.out.low hb2)
    clear HA1 hb2 xl x0 x1 x2 x3 yl y0 y1 y2
    cases hz : (fitsC f n I U != 0)
    · have HFZ : Hid (fitsC f n I U = 0) := Lib.hid (bne_eq_false_iff_eq.1 hz)
      obtain ⟨rb, hrb⟩ : ∃ b, roomB nx R I D = b := ⟨_, rfl⟩
      have HRB := Lib.hid hrb
      clear hrb
      obtain ⟨xl, x0, x1, x2, x3, -⟩ := HA2.out.kb.tab
      obtain ⟨yl, y0, y1, y2, -⟩ := HA2.out.kb.chg
      go_wp2_with fail
      refine (room_eq nm pc n cc nx pr cr R pi ci I pd cd D pu cu U _ hR100 hD100 hI63 hnx1 hnx2 HRB.out).mono ?_
      rintro e w3 ⟨rfl, hb3⟩
      have HA3 := Lib.hid (HA2.out.low hb3)
      clear HA2 hb3 xl x0 x1 x2 x3 yl y0 y1 y2
      cases rb
      · have HE : Hid (applyE nm n f nx R I D U = 10) := Lib.hid (by rw [HIS.out, if_neg (by rw [HFZ.out]; simp), if_pos HRB.out])
        have HYS := Lib.hid (cell4_put w3 HA3.out.res (.string ⟨#[]⟩) (.slice none 0 0) (.int .i64 0) (.slice none 0 0))
        obtain ⟨zl, z0, z1, z2, z3, zf⟩ := HA3.out.res
        go_wp2
        obtain ⟨-, s0, s1, s2, s3, -⟩ := HYS.out
        exact bodyPost_ret (v := .tuple #[zeroTab.v, .int .i64 10]) (by simp [results, Tryd.results51, go_sem, s0, s1, s2, s3, Tab.v, zeroTab]) rfl (apply_errF HE.out (by decide) (HA3.out.ret _ _ _ _))
      · have hroom : (R.length : Int) - D.length + I.length ≤ 100 := by
          have := HRB.out
          unfold roomB at this
          exact (of_decide_eq_true this).1
        have hlen : (afterR nx R I D U).length ≤ 1000 := by
          unfold afterR
          rw [List.length_append, comeR_length]
          have := HKL.out
          omega
        obtain ⟨xl, x0, x1, x2, x3, -⟩ := HA3.out.kb.tab
        obtain ⟨yl, y0, y1, y2, -⟩ := HA3.out.kb.chg
        have HLEN := Lib.hid hlen
        clear hroom hlen
        go_wp2_with fail
        refine (changed_any nm pc n cc f nx pr cr R pi ci I pd cd D pu cu U _ (HT.out.low HA3.out.kb.bel) (HC.out.low HA3.out.kb.bel) hn1 (by omega) hnx1 hnx2 hR100 HREM.out (after_pos HVT.out HFZ.out) HLEN.out).mono ?_
        rintro e w4 ⟨p2, c2, q, cr2, rfl, hT4, hb4⟩
        have HW3 : Hid (w.heap.size + 2 < w3.heap.size) := Lib.hid HA3.out.res.lt
        have HA4 := Lib.hid ((HA3.out.low hb4).low (below_alloc _ (.cells #[.string nm, .slice p2 n c2, .int .i64 (nx + I.length), .slice q (afterR nx R I D U).length cr2] 51)))
        have HT4 := Lib.hid (hT4.low (below_alloc _ (.cells #[.string nm, .slice p2 n c2, .int .i64 (nx + I.length), .slice q (afterR nx R I D U).length cr2] 51)))
        have HX4 := Lib.hid (cell4_new w4 (.string nm) (.slice p2 n c2) (.int .i64 (nx + I.length)) (.slice q (afterR nx R I D U).length cr2) 51)
        clear HA3 hb4 hT4 xl x0 x1 x2 x3 yl y0 y1 y2
        go_upto_region 9 with (fail)
        generalize World.alloc _ _ = W5 at HA4 HT4 HX4 ⊢
        generalize w4.heap.size = X at HX4 ⊢
        obtain ⟨xl, x0, x1, x2, x3, -⟩ := HX4.out
        obtain ⟨db, hdb⟩ : ∃ b, dupR (findKey f n) (afterR nx R I D U) = b := ⟨_, rfl⟩
        have HDB := Lib.hid hdb
        clear hdb
        go_wp2_with fail
        refine (kdup_eq nm p2 n c2 f (nx + I.length) q cr2 (afterR nx R I D U) _ HT4.out.at HDB.out).mono ?_
        rintro e w6 ⟨rfl, hb6⟩
        have HA6 := Lib.hid (HA4.out.low hb6)
        have HT6 := Lib.hid (HT4.out.low hb6)
        have HX6 := Lib.hid (HX4.out.low hb6)
        clear HA4 HT4 HX4 hb6 xl x0 x1 x2 x3
        cases db
        · have HE : Hid (applyE nm n f nx R I D U = 0) := Lib.hid (by rw [HIS.out, if_neg (by rw [HFZ.out]; simp), if_neg (by rw [HRB.out]; simp), if_neg (by rw [HDB.out]; simp)])
          have HYS := Lib.hid (cell4_put w6 HA6.out.res (.string nm) (.slice p2 n c2) (.int .i64 (nx + I.length)) (.slice q (afterR nx R I D U).length cr2))
          have HRET := Lib.hid (HA6.out.ret (.string nm) (.slice p2 n c2) (.int .i64 (nx + I.length)) (.slice q (afterR nx R I D U).length cr2))
          have HFR := Lib.hid ((((HT6.out.set (b := w.heap.size + 2) (o := 0) HW3.out (.string nm)).set (b := w.heap.size + 2) (o := 1) HW3.out (.slice p2 n c2)).set (b := w.heap.size + 2) (o := 2) HW3.out (.int .i64 (nx + I.length))).set (b := w.heap.size + 2) (o := 3) HW3.out (.slice q (afterR nx R I D U).length cr2))
          obtain ⟨xl, x0, x1, x2, x3, -⟩ := HX6.out
          obtain ⟨zl, z0, z1, z2, z3, zf⟩ := HA6.out.res
          go_wp2
          obtain ⟨-, s0, s1, s2, s3, -⟩ := HYS.out
          exact bodyPost_ret (v := .tuple #[.agg #[.string nm, .slice p2 n c2, .int .i64 (nx + I.length), .slice q (afterR nx R I D U).length cr2], .int .i64 0]) (by simp [results, Tryd.results51, go_sem, s0, s1, s2, s3]) rfl
            ⟨⟨nm, p2, n, c2, f, nx + I.length, q, cr2, afterR nx R I D U⟩, by rw [HE.out]; rfl, HFR.out.mono (by have := HW3.out; omega), HRET.out, .inl ⟨HE.out, rfl, rfl, fun _ _ => rfl, rfl, rfl⟩⟩
        · have HE : Hid (applyE nm n f nx R I D U = 9) := Lib.hid (by rw [HIS.out, if_neg (by rw [HFZ.out]; simp), if_neg (by rw [HRB.out]; simp), if_pos HDB.out])
          have HYS := Lib.hid (cell4_put w6 HA6.out.res (.string ⟨#[]⟩) (.slice none 0 0) (.int .i64 0) (.slice none 0 0))
          obtain ⟨zl, z0, z1, z2, z3, zf⟩ := HA6.out.res
          go_wp2
          obtain ⟨-, s0, s1, s2, s3, -⟩ := HYS.out
          exact bodyPost_ret (v := .tuple #[zeroTab.v, .int .i64 9]) (by simp [results, Tryd.results51, go_sem, s0, s1, s2, s3, Tab.v, zeroTab]) rfl (apply_errF HE.out (by decide) (HA6.out.ret _ _ _ _))
    · have HNE := Lib.hid (bne_iff_ne.1 hz)
      have HE : Hid (applyE nm n f nx R I D U = fitsC f n I U) := Lib.hid (by rw [HIS.out, if_pos (bne_iff_ne.1 hz)])
      have HYS := Lib.hid (cell4_put w2 HA2.out.res (.string ⟨#[]⟩) (.slice none 0 0) (.int .i64 0) (.slice none 0 0))
      obtain ⟨zl, z0, z1, z2, z3, zf⟩ := HA2.out.res
      go_wp2
      obtain ⟨-, s0, s1, s2, s3, -⟩ := HYS.out
      exact bodyPost_ret (v := .tuple #[zeroTab.v, .int .i64 (fitsC f n I U)]) (by simp [results, Tryd.results51, go_sem, s0, s1, s2, s3, Tab.v, zeroTab]) rfl (apply_errF HE.out HNE.out (HA2.out.ret _ _ _ _))
theorem kapply_at (hT : TabAt w ⟨nm, pc, n, cc, f, nx, pr, cr, R⟩) (hC : ChgAt w ⟨pi, ci, I, pd, cd, D, pu, cu, U⟩) :
    Calls Tryd.prog 51 #[.agg #[.string nm, .slice pc n cc, .int .i64 nx, .slice pr R.length cr], .agg #[.slice pi I.length ci, .slice pd D.length cd, .slice pu U.length cu]] w (ApplyPost ⟨nm, pc, n, cc, f, nx, pr, cr, R⟩ ⟨pi, ci, I, pd, cd, D, pu, cu, U⟩ w) :=
  (kapply_free nm pc n cc f nx pr cr R pi ci I pd cd D pu cu U w hT hC).mono fun _ _ ⟨S, h1, h2, h3⟩ => ⟨S, h1, h2.at, h3⟩
end
end Go.Proofs.YtgaihglploedaaaDoor
/-
  A drawn region whose operations make memory: each operation is shown once, from the facts of those that it waits for; no orders are told apart.
-/
namespace Go.Proofs.YtgaihglploedaaaDoor
set_option maxRecDepth 100000
open Go.RowKit

def slotF (a : Act) (s : Nat) : Value := a.tmps.getD s undef
/-- Does operation i wait for operation k? -/
def reach (ops : Array Oper) : Nat → Nat → Nat → Bool
  | 0, _, _ => false
  | n + 1, i, k => match ops[i]? with
    | none => false
    | some o => o.after.any fun e => Region.binds .any e && (e.on == k || reach ops n e.on k)
/-- What has come up is closed. -/
def Shut (ops : Array Oper) (listed : Array Bool) : Prop := ∀ (j : Nat) (o : Oper), ops[j]? = some o → listed.getD j false = true → ∀ e ∈ o.after, Region.binds .any e = true → listed.getD e.on false = true
theorem reach_listed {ops : Array Oper} {listed : Array Bool} (hs : Shut ops listed) : ∀ (n i k : Nat) (o : Oper), ops[i]? = some o → (∀ e ∈ o.after, Region.binds .any e = true → listed.getD e.on false = true) → reach ops n i k = true → listed.getD k false = true := by
  intro n
  induction n with
  | zero => intro i k o _ _ h; cases h
  | succ n ih =>
    intro i k o ho hd h
    unfold reach at h
    rw [ho] at h
    simp only [Array.any_eq_true'] at h
    obtain ⟨e, he, h⟩ := h
    rw [Bool.and_eq_true, Bool.or_eq_true] at h
    have h1 := hd e he h.1
    rcases h.2 with h2 | h2
    · rw [← beq_iff_eq.1 h2]; exact h1
    · cases hoe : ops[e.on]? with
      | none => cases n with
        | zero => cases h2
        | succ n => unfold reach at h2; rw [hoe] at h2; cases h2
      | some o' => exact ih e.on k o' hoe (hs e.on o' hoe h1) h2
/-- What a region's plan must meet: no guards, each slot set once, and each fact is used where it stands. -/
def eachB (l : List Oper) (use sl : List (List Nat)) (live : List Bool) (st : Nat) : Bool :=
  let n := l.length
  let ops := l.toArray
  l.all (fun o => o.guard.isNone) &&
  (List.range n).all fun i =>
    (match l[i]? with | some o => o.after.all (fun e => !Region.binds .any e || decide (e.on < i)) | none => true) &&
    (use.getD i []).all (fun k => reach ops n i k && (live.getD k false || reach ops n st i || i == st)) &&
    (List.range n).all fun j => i == j || reach ops n j i || (match (l[i]?).bind (·.dst) with | some d => !(sl.getD j []).contains d | none => true)
theorem getD_out {listed : Array Bool} {i : Nat} (h : listed.size ≤ i) : listed.getD i false = false := by simp [h]
theorem listed_set {listed : Array Bool} {i j : Nat} (hi : i < listed.size) : (listed.setIfInBounds i true).getD j false = true ↔ i = j ∨ listed.getD j false = true := by
  by_cases h : i = j
  · subst h
    simp [hi]
  · simp [Array.getElem?_setIfInBounds_ne h, h]
theorem slot_put (a : Act) (d : Option Tmp) (v : Value) (s : Nat) (h : d ≠ some s) : slotF (a.put d v) s = slotF a s := by
  unfold slotF Act.put
  cases d with
  | none => rfl
  | some d =>
    have hne : d ≠ s := fun e => h (by rw [e])
    simp [Array.getElem?_setIfInBounds_ne hne]
theorem size_put (a : Act) (d : Option Tmp) (v : Value) : (a.put d v).tmps.size = a.tmps.size := by
  unfold Act.put
  cases d <;> simp
theorem defers_put (a : Act) (d : Option Tmp) (v : Value) : (a.put d v).defers = a.defers := by
  unfold Act.put
  cases d <;> rfl
theorem slot_same (a : Act) (d : Tmp) (v : Value) (h : d < a.tmps.size) : slotF (a.put (some d) v) d = v := by
  unfold slotF Act.put
  simp [h]
/-- The frame behind the region. -/
def putAll (l : List Oper) (f : Nat → Value) (a : Act) : Act := l.foldl (fun a o => match o.dst with | some d => a.put (some d) (f d) | none => a) a
theorem putAll_size (l : List Oper) (f : Nat → Value) (a : Act) : (putAll l f a).tmps.size = a.tmps.size ∧ (putAll l f a).defers = a.defers := by
  induction l generalizing a with
  | nil => exact ⟨rfl, rfl⟩
  | cons o l ih =>
    unfold putAll
    rw [List.foldl_cons]
    have := ih (match o.dst with | some d => a.put (some d) (f d) | none => a)
    unfold putAll at this
    refine ⟨this.1.trans ?_, this.2.trans ?_⟩
    · cases o.dst with
      | none => rfl
      | some d => exact size_put _ _ _
    · cases o.dst with
      | none => rfl
      | some d => exact defers_put _ _ _
theorem putAll_slot (l : List Oper) (f : Nat → Value) (a : Act) (s : Nat) (hs : s < a.tmps.size) : slotF (putAll l f a) s = if (∃ o ∈ l, o.dst = some s) then f s else slotF a s := by
  induction l generalizing a with
  | nil => rw [if_neg (by simp)]; rfl
  | cons o l ih =>
    have e : putAll (o :: l) f a = putAll l f (match o.dst with | some d => a.put (some d) (f d) | none => a) := rfl
    have hz : s < (match o.dst with | some d => a.put (some d) (f d) | none => a).tmps.size := by
      cases o.dst with
      | none => exact hs
      | some d => simp only []; rw [size_put]; exact hs
    rw [e, ih _ hz]
    by_cases h1 : ∃ o ∈ l, o.dst = some s
    · obtain ⟨o', h2, h3⟩ := h1
      rw [if_pos ⟨o', h2, h3⟩, if_pos ⟨o', List.mem_cons_of_mem _ h2, h3⟩]
    · rw [if_neg h1]
      by_cases h2 : o.dst = some s
      · rw [if_pos ⟨o, List.mem_cons_self, h2⟩, h2]
        exact slot_same _ _ _ hs
      · rw [if_neg]
        · cases ho : o.dst with
          | none => rfl
          | some d => simp only []; exact slot_put _ _ _ _ (by rw [← ho]; exact h2)
        · rintro ⟨o', h3, h4⟩
          rcases List.mem_cons.1 h3 with rfl | h3
          · exact h2 h4
          · exact h1 ⟨o', h3, h4⟩
theorem act_eq {a b : Act} (h1 : a.tmps.size = b.tmps.size) (h2 : a.defers = b.defers) (h3 : ∀ s, s < a.tmps.size → slotF a s = slotF b s) : a = b := by
  obtain ⟨ta, da⟩ := a
  obtain ⟨tb, db⟩ := b
  simp only at h1 h2 h3
  subst h2
  congr 1
  apply Array.ext h1
  intro i hi hj
  have := h3 i hi
  unfold slotF at this
  simpa [hi, hj] using this

section
variable {P : Program} {l : List Oper} {Q : Exit → Act → World → Prop} {a0 : Act} {w0 : World} (use sl : List (List Nat)) (live : List Bool) (st : Nat) (B : Nat) (J : World → Prop) (Φ : Nat → (Nat → Value) → Nat → Nat → World → Prop)
/-- What is known of a state in the midst of the region. -/
structure EachAt (l : List Oper) (a0 : Act) (w0 : World) (live : List Bool) (st : Nat) (B : Nat) (J : World → Prop) (Φ : Nat → (Nat → Value) → Nat → Nat → World → Prop) (listed : Array Bool) (lo hi : Nat → Nat) (a : Act) (w : World) : Prop where
  size : listed.size = l.length
  shut : Shut l.toArray listed
  tmps : a.tmps.size = a0.tmps.size
  defs : a.defers = a0.defers
  old : ∀ s, (∀ o ∈ l, o.dst ≠ some s) → slotF a s = slotF a0 s
  low : Below B w0 w
  grow : w0.heap.size ≤ w.heap.size
  inv : listed.getD st false = false → J w
  seg : ∀ i, listed.getD i false = true → lo i ≤ hi i ∧ hi i ≤ w.heap.size ∧ w0.heap.size ≤ lo i
  apart : ∀ i j, listed.getD i false = true → listed.getD j false = true → i ≠ j → hi i ≤ lo j ∨ hi j ≤ lo i
  fact : ∀ i, listed.getD i false = true → (live.getD i false = true ∨ listed.getD st false = false) → Φ i (slotF a) (lo i) (hi i) w
theorem wpAny_each {listed : Array Bool} {a : Act} {w : World} {lo hi : Nat → Nat} (hB : eachB l use sl live st = true) (hBw : B ≤ w0.heap.size) (hJ : ∀ w w', J w → Below w.heap.size w w' → J w')
    (hstab : ∀ j f g x y w w', (∀ s ∈ sl.getD j [], g s = f s) → Below w.heap.size w w' → Φ j f x y w → Φ j g x y w')
    (hstep : ∀ i o, l[i]? = some o → i ≠ st → ∀ a w (lo hi : Nat → Nat), a.tmps.size = a0.tmps.size → (∀ s, (∀ o ∈ l, o.dst ≠ some s) → slotF a s = slotF a0 s) → Below B w0 w → w0.heap.size ≤ w.heap.size → (reach l.toArray l.length st i = true ∨ l.length ≤ st → J w) → (∀ k ∈ use.getD i [], Φ k (slotF a) (lo k) (hi k) w) →
      Oper.wp P o a w (fun a' w' => ∃ v, a' = a.put o.dst v ∧ Below w.heap.size w w' ∧ Φ i (slotF a') w.heap.size w'.heap.size w') Q)
    (hst : ∀ o, l[st]? = some o → ∀ a w (lo hi : Nat → Nat) (L : Nat → Prop), a.tmps.size = a0.tmps.size → (∀ s, (∀ o ∈ l, o.dst ≠ some s) → slotF a s = slotF a0 s) → Below B w0 w → w0.heap.size ≤ w.heap.size → J w → (∀ k ∈ use.getD st [], Φ k (slotF a) (lo k) (hi k) w) → (∀ k ∈ use.getD st [], L k) → (∀ i, L i → lo i ≤ hi i ∧ hi i ≤ w.heap.size ∧ w0.heap.size ≤ lo i) → (∀ i j, L i → L j → i ≠ j → hi i ≤ lo j ∨ hi j ≤ lo i) →
      Oper.wp P o a w (fun a' w' => ∃ v, a' = a.put o.dst v ∧ w.heap.size ≤ w'.heap.size ∧ Below B w0 w' ∧ Φ st (slotF a') w.heap.size w'.heap.size w' ∧ ∀ j, L j → j ≠ st → live.getD j false = true → (∀ s ∈ sl.getD j [], slotF a' s = slotF a s) → Φ j (slotF a) (lo j) (hi j) w → Φ j (slotF a') (lo j) (hi j) w') Q)
    (hend : ∀ (f : Nat → Value) (lo hi : Nat → Nat) w, Below B w0 w → (l.length ≤ st → J w) → (∀ i, i < l.length → (live.getD i false = true ∨ l.length ≤ st) → Φ i f (lo i) (hi i) w) → (∀ i j, i < l.length → j < l.length → i ≠ j → hi i ≤ lo j ∨ hi j ≤ lo i) → (∀ i, i < l.length → lo i ≤ hi i ∧ hi i ≤ w.heap.size ∧ w0.heap.size ≤ lo i) → Q .normal (putAll l f a0) w) :
    ∀ (fuel : Nat), (listed.toList.count false ≤ fuel) → EachAt l a0 w0 live st B J Φ listed lo hi a w → wpAny P .any l.toArray Q fuel listed a w := by
  intro fuel
  unfold eachB at hB
  simp only [Bool.and_eq_true, List.all_eq_true, List.mem_range, Bool.or_eq_true] at hB
  obtain ⟨hg, hB⟩ := hB
  have hdone : ∀ (listed : Array Bool) (a : Act) (w : World) (lo hi : Nat → Nat), EachAt l a0 w0 live st B J Φ listed lo hi a w → (∀ i, i < l.length → listed.getD i false = true) → Q .normal a w := by
    intro listed a w lo hi h hall
    have he : a = putAll l (slotF a) a0 := by
      have hz := putAll_size l (slotF a) a0
      refine act_eq (h.tmps.trans hz.1.symm) (h.defs.trans hz.2.symm) fun s hs => ?_
      rw [putAll_slot _ _ _ _ (by rw [← h.tmps]; exact hs)]
      split
      · rfl
      · rename_i hno
        exact h.old s fun o ho hd => hno ⟨o, ho, hd⟩
    rw [he]
    refine hend (slotF a) lo hi w h.low (fun hl => h.inv (getD_out (by rw [h.size]; exact hl))) (fun i hi' hl => h.fact i (hall i hi') ?_) (fun i j h1 h2 => h.apart i j (hall i h1) (hall j h2)) (fun i h1 => h.seg i (hall i h1))
    rcases hl with hl | hl
    · exact .inl hl
    · refine .inr ?_
      have : listed.size ≤ st := by rw [h.size]; exact hl
      simp [this]
  have hmem : ∀ (listed : Array Bool), listed.size = l.length → ∀ i, i < l.length → listed.getD i true = listed.getD i false := by
    intro listed hz i hi
    simp [show i < listed.size by omega]
  have hready : ∀ (listed : Array Bool), listed.size = l.length → Region.ready .any l.toArray listed = [] → ∀ i, i < l.length → listed.getD i false = true := by
    intro listed hz hr i
    induction i using Nat.strongRecOn with
    | ind i ih =>
      intro hi
      cases hc : listed.getD i false with
      | true => rfl
      | false =>
        have h1 : i ∈ Region.ready .any l.toArray listed := by
          refine mem_ready.2 ⟨by rw [hmem listed hz i hi]; exact hc, l[i], by simp [hi], fun e he hb => ?_⟩
          have h2 := (hB i hi).1.1
          rw [List.getElem?_eq_getElem hi] at h2
          simp only [Array.all_eq_true'] at h2
          have h3 := h2 e he
          rw [hb] at h3
          have h4 : e.on < i := by simpa using h3
          exact ih e.on h4 (by omega)
        rw [hr] at h1
        cases h1
  induction fuel generalizing listed a w lo hi with
  | zero =>
    intro hc h
    have hall : ∀ i, i < l.length → listed.getD i false = true := by
      intro i hi
      have h0 : listed.toList.count false = 0 := by omega
      have h1 := List.count_eq_zero.1 h0
      have hi' : i < listed.size := by rw [h.size]; exact hi
      cases hv : listed[i] with
      | true => simp [hi', hv]
      | false => exact absurd (by rw [← hv]; simp) h1
    refine ⟨?_, hdone listed a w lo hi h hall⟩
    rw [List.eq_nil_iff_forall_not_mem]
    intro i hi
    obtain ⟨h1, o, ho, -⟩ := mem_ready.1 hi
    have hlt : i < l.length := by
      have := (Array.getElem?_eq_some_iff.1 ho).1
      simpa using this
    rw [hmem listed h.size i hlt, hall i hlt] at h1
    cases h1
  | succ fuel ih =>
    intro hc h
    refine ⟨fun h0 => hdone listed a w lo hi h (hready listed h.size h0), fun i hi' => ?_⟩
    obtain ⟨hun, o, ho, hdeps⟩ := mem_ready.1 hi'
    have hlt : i < l.length := by
      have := (Array.getElem?_eq_some_iff.1 ho).1
      simpa using this
    have hlo : l[i]? = some o := by simpa using ho
    have hol : o ∈ l := List.mem_of_getElem? hlo
    have hun' : listed.getD i false = false := by rw [← hmem listed h.size i hlt]; exact hun
    have hwant : Region.wanted o (yielded l.toArray a.tmps) = true := by
      have := hg o hol
      unfold Region.wanted
      rw [Option.isNone_iff_eq_none.1 this]
    have hsl : i < listed.size := by rw [h.size]; exact hlt
    have hcnt : (listed.setIfInBounds i true).toList.count false ≤ fuel := by
      rw [Array.toList_setIfInBounds, List.count_set (by simpa using hsl)]
      have hv : listed.toList[i]'(by simpa using hsl) = false := by
        have : listed[i] = false := by simpa [hsl] using hun'
        simpa using this
      have h1 : 0 < listed.toList.count false := List.count_pos_iff.2 (by rw [← hv]; exact List.getElem_mem _)
      rw [hv]
      simp
      simp at hc h1
      omega
    have hst' : reach l.toArray l.length st i = true → listed.getD st false = false := by
      intro hr
      cases hs : listed.getD st false with
      | false => rfl
      | true =>
        cases hos : l.toArray[st]? with
        | none =>
          cases hn : l.length with
          | zero => omega
          | succ m => rw [hn] at hr; unfold reach at hr; rw [hos] at hr; cases hr
        | some os =>
          have := reach_listed h.shut l.length st i os hos (h.shut st os hos hs) hr
          rw [hun'] at this
          cases this
    have huse : ∀ k ∈ use.getD i [], listed.getD k false = true ∧ Φ k (slotF a) (lo k) (hi k) w := by
      intro k hk
      obtain ⟨h1, h2⟩ := (hB i hlt).1.2 k hk
      have h3 := reach_listed h.shut l.length i k o ho hdeps h1
      refine ⟨h3, h.fact k h3 ?_⟩
      rcases h2 with (h2 | h2) | h2
      · exact .inl h2
      · exact .inr (hst' h2)
      · rw [beq_iff_eq.1 h2] at hun'; exact .inr hun'
    have hsame : ∀ v j, j ≠ i → listed.getD j false = true → ∀ s ∈ sl.getD j [], slotF (a.put o.dst v) s = slotF a s := by
      intro v j hji hj s hs
      refine slot_put _ _ _ _ fun hd => ?_
      have hjl : j < l.length := by
        rw [← h.size]
        apply Classical.byContradiction
        intro hc'
        simp [hc'] at hj
      rcases (hB i hlt).2 j hjl with (h1 | h1) | h1
      · exact hji (beq_iff_eq.1 h1).symm
      · have hoj : l.toArray[j]? = some l[j] := by simp [hjl]
        have := reach_listed h.shut l.length j i l[j] hoj (h.shut j l[j] hoj hj) h1
        rw [hun'] at this
        cases this
      · rw [hlo] at h1
        simp only [Option.bind_some, hd] at h1
        simp at h1
        exact h1 hs
    have hshut : Shut l.toArray (listed.setIfInBounds i true) := by
      intro j oj hoj hj e he hb
      rw [listed_set hsl] at hj ⊢
      rcases hj with rfl | hj
      · rw [ho] at hoj
        cases hoj
        exact .inr (hdeps e he hb)
      · exact .inr (h.shut j oj hoj hj e he hb)
    have hend' : ∀ v w' (hs : w.heap.size ≤ w'.heap.size) (hlow : Below B w0 w') (hinv : (listed.setIfInBounds i true).getD st false = false → J w')
        (hf : ∀ j, j ≠ i → listed.getD j false = true → (live.getD j false = true ∨ (listed.setIfInBounds i true).getD st false = false) → Φ j (slotF (a.put o.dst v)) (lo j) (hi j) w')
        (hi0 : Φ i (slotF (a.put o.dst v)) w.heap.size w'.heap.size w'),
        wpAny P .any l.toArray Q fuel (listed.setIfInBounds i true) (a.put o.dst v) w' := by
      intro v w' hs hlow hinv hf hi0
      refine ih (lo := fun j => if j = i then w.heap.size else lo j) (hi := fun j => if j = i then w'.heap.size else hi j) hcnt ⟨by rw [Array.size_setIfInBounds]; exact h.size, hshut, (size_put _ _ _).trans h.tmps, (defers_put _ _ _).trans h.defs, fun s hs' => (slot_put _ _ _ _ (hs' o hol)).trans (h.old s hs'), hlow, Nat.le_trans h.grow hs, hinv, fun j hj => ?_, fun j k hj hk hjk => ?_, fun j hj hl => ?_⟩
      · by_cases hji : j = i
        · rw [if_pos hji, if_pos hji]
          exact ⟨hs, Nat.le_refl _, h.grow⟩
        · rw [if_neg hji, if_neg hji]
          rcases (listed_set hsl).1 hj with e | hj
          · exact absurd e.symm hji
          · have := h.seg j hj
            exact ⟨this.1, by omega, this.2.2⟩
      · by_cases hji : j = i
        · have hki : k ≠ i := fun e => hjk (hji.trans e.symm)
          rw [if_pos hji, if_pos hji, if_neg hki, if_neg hki]
          rcases (listed_set hsl).1 hk with e | hk
          · exact absurd e.symm hki
          · exact .inr (h.seg k hk).2.1
        · rw [if_neg hji, if_neg hji]
          have hj : listed.getD j false = true := by
            rcases (listed_set hsl).1 hj with e | hj
            · exact absurd e.symm hji
            · exact hj
          by_cases hki : k = i
          · rw [if_pos hki, if_pos hki]
            exact .inl (h.seg j hj).2.1
          · rw [if_neg hki, if_neg hki]
            rcases (listed_set hsl).1 hk with e | hk
            · exact absurd e.symm hki
            · exact h.apart j k hj hk hjk
      · by_cases hji : j = i
        · rw [if_pos hji, if_pos hji, hji]; exact hi0
        · rw [if_neg hji, if_neg hji]
          rcases (listed_set hsl).1 hj with e | hj
          · exact absurd e.symm hji
          · exact hf j hji hj hl
    have hnot : (listed.setIfInBounds i true).getD st false = false → listed.getD st false = false := by
      intro hl
      cases hs : listed.getD st false with
      | false => rfl
      | true => rw [(listed_set hsl).2 (.inr hs)] at hl; cases hl
    have hJi : reach l.toArray l.length st i = true ∨ l.length ≤ st → J w := by
      rintro (hr | hr)
      · exact h.inv (hst' hr)
      · refine h.inv ?_
        have : listed.size ≤ st := by rw [h.size]; exact hr
        simp [this]
    unfold wpOp
    simp only [ho, hwant, if_true]
    refine .inl ?_
    by_cases hie : i = st
    · subst hie
      refine Oper.wp_mono ?_ (hst o hlo a w lo hi (fun k => listed.getD k false = true) h.tmps h.old h.low h.grow (h.inv hun') (fun k hk => (huse k hk).2) (fun k hk => (huse k hk).1) h.seg h.apart)
      rintro a' w' ⟨v, rfl, hs, hlow, hi0, hkeep⟩
      refine hend' v w' hs hlow (fun hc' => by rw [(listed_set hsl).2 (.inl rfl)] at hc'; cases hc') (fun j hji hj hl => ?_) hi0
      rcases hl with hl | hl
      · exact hkeep j hj hji hl (hsame v j hji hj) (h.fact j hj (.inl hl))
      · have : (listed.setIfInBounds i true).getD i false = true := (listed_set hsl).2 (.inl rfl)
        rw [this] at hl
        cases hl
    · refine Oper.wp_mono ?_ (hstep i o hlo hie a w lo hi h.tmps h.old h.low h.grow (fun hr => hJi hr) fun k hk => (huse k hk).2)
      rintro a' w' ⟨v, rfl, hb, hi0⟩
      refine hend' v w' hb.size (h.low.trans (hb.mono (Nat.le_trans hBw h.grow))) (fun hc' => hJ _ _ (h.inv (hnot hc')) hb) (fun j hji hj hl => ?_) hi0
      have hl' : live.getD j false = true ∨ listed.getD st false = false := by
        rcases hl with hl | hl
        · exact .inl hl
        · refine .inr ?_
          cases hs : listed.getD st false with
          | false => rfl
          | true => rw [(listed_set hsl).2 (.inr hs)] at hl; cases hl
      exact hstab j _ _ _ _ _ _ (hsame v j hji hj) hb (h.fact j hj hl')
/-- A drawn region, operation by operation. W: the world behind the draw. -/
theorem wp_region_each {id : Nat} {w : World} (hm : P.follows .mixedOrders = true) (W : World) (hW : w.drew = W) (hB : eachB l use sl live st = true) (hBw : B ≤ W.heap.size) (hJ0 : J W) (hJ : ∀ w w', J w → Below w.heap.size w w' → J w')
    (hstab : ∀ j f g x y w w', (∀ s ∈ sl.getD j [], g s = f s) → Below w.heap.size w w' → Φ j f x y w → Φ j g x y w')
    (hstep : ∀ i o, l[i]? = some o → i ≠ st → ∀ a w (lo hi : Nat → Nat), a.tmps.size = a0.tmps.size → (∀ s, (∀ o ∈ l, o.dst ≠ some s) → slotF a s = slotF a0 s) → Below B W w → W.heap.size ≤ w.heap.size → (reach l.toArray l.length st i = true ∨ l.length ≤ st → J w) → (∀ k ∈ use.getD i [], Φ k (slotF a) (lo k) (hi k) w) →
      Oper.wp P o a w (fun a' w' => ∃ v, a' = a.put o.dst v ∧ Below w.heap.size w w' ∧ Φ i (slotF a') w.heap.size w'.heap.size w') Q)
    (hst : ∀ o, l[st]? = some o → ∀ a w (lo hi : Nat → Nat) (L : Nat → Prop), a.tmps.size = a0.tmps.size → (∀ s, (∀ o ∈ l, o.dst ≠ some s) → slotF a s = slotF a0 s) → Below B W w → W.heap.size ≤ w.heap.size → J w → (∀ k ∈ use.getD st [], Φ k (slotF a) (lo k) (hi k) w) → (∀ k ∈ use.getD st [], L k) → (∀ i, L i → lo i ≤ hi i ∧ hi i ≤ w.heap.size ∧ W.heap.size ≤ lo i) → (∀ i j, L i → L j → i ≠ j → hi i ≤ lo j ∨ hi j ≤ lo i) →
      Oper.wp P o a w (fun a' w' => ∃ v, a' = a.put o.dst v ∧ w.heap.size ≤ w'.heap.size ∧ Below B W w' ∧ Φ st (slotF a') w.heap.size w'.heap.size w' ∧ ∀ j, L j → j ≠ st → live.getD j false = true → (∀ s ∈ sl.getD j [], slotF a' s = slotF a s) → Φ j (slotF a) (lo j) (hi j) w → Φ j (slotF a') (lo j) (hi j) w') Q)
    (hend : ∀ (f : Nat → Value) (lo hi : Nat → Nat) w, Below B W w → (l.length ≤ st → J w) → (∀ i, i < l.length → (live.getD i false = true ∨ l.length ≤ st) → Φ i f (lo i) (hi i) w) → (∀ i j, i < l.length → j < l.length → i ≠ j → hi i ≤ lo j ∨ hi j ≤ lo i) → (∀ i, i < l.length → lo i ≤ hi i ∧ hi i ≤ w.heap.size ∧ W.heap.size ≤ lo i) → Q .normal (putAll l f a0) w) :
    (Code.region id l.toArray true).wp P Q a0 w := by
  subst hW
  have hno : ∀ i, (Array.replicate l.length false).getD i false = true → False := by
    intro i h
    by_cases hi : i < l.length
    · simp [hi] at h
    · simp [hi] at h
  refine wp_region_any hm (wpAny_each (w0 := w.drew) use sl live st B J Φ hB hBw hJ hstab hstep hst hend _ (by simp) (lo := fun _ => 0) (hi := fun _ => 0) ⟨by simp, fun j o hj h => ?_, rfl, rfl, fun s _ => rfl, Below.refl _ _, Nat.le_refl _, fun _ => hJ0, fun i h => ?_, fun i j h => ?_, fun i h => ?_⟩)
  all_goals
    simp only [List.size_toArray] at h
    exact (hno _ h).elim
end
/-! ### Operations over a function of slots -/
def evF (f : Nat → Value) : Operand → Value
  | .tmp t => f t
  | .const v => v
  | .global g => .pointer (some ⟨g, 0, none⟩)
  | .func k => .func (.func k) #[] #[]
theorem evF_eval (a : Act) : a.eval = evF (slotF a) := by
  funext o
  cases o <;> rfl
def upF (f : Nat → Value) (d : Option Tmp) (v : Value) : Nat → Value := match d with | some d => fun s => if s = d then v else f s | none => f
theorem upF_put (a : Act) (d : Option Tmp) (v : Value) (h : ∀ x, d = some x → x < a.tmps.size) : slotF (a.put d v) = upF (slotF a) d v := by
  funext s
  cases d with
  | none => rfl
  | some d =>
    show _ = if s = d then v else slotF a s
    by_cases hs : s = d
    · rw [if_pos hs, hs]; exact slot_same _ _ _ (h d rfl)
    · rw [if_neg hs]; exact slot_put _ _ _ _ (fun e => hs (Option.some.inj e).symm)
/-- What an operation gives. -/
def gives (P : Program) (R : Value → World → Prop) : Result Next → Prop
  | .ok (.value v) w' => R v w'
  | .ok .skip w' => R undef w'
  | .ok (.enter fn args) w' => Calls P fn args w' fun e w'' => ∃ v, e = .returned v ∧ R v w''
  | _ => False
theorem wp_of_gives {P : Program} {o : Oper} {a : Act} {w : World} {R : Value → World → Prop} {Q : Exit → Act → World → Prop} (h : gives P R ((execOp (evF (slotF a)) o).run P w)) :
    Oper.wp P o a w (fun a' w' => ∃ v, a' = a.put o.dst v ∧ R v w') Q := by
  unfold Oper.wp
  rw [evF_eval]
  generalize (execOp (evF (slotF a)) o).run P w = r at *
  cases r with
  | ok n w' =>
    cases n <;> simp only [gives] at h <;> simp only [Oper.upon]
    case value v => exact ⟨v, rfl, h⟩
    case skip => exact ⟨undef, rfl, h⟩
    case enter fn args => exact h.mono fun e w'' ⟨v, he, hr⟩ => by subst he; exact ⟨v, rfl, hr⟩
  | halt x w' => simp only [gives] at h
theorem gives_mono {P : Program} {R R' : Value → World → Prop} (hR : ∀ v w, R v w → R' v w) : ∀ {r : Result Next}, gives P R r → gives P R' r := by
  intro r h
  cases r with
  | ok n w' =>
    cases n <;> simp only [gives] at h ⊢
    case value v => exact hR _ _ h
    case skip => exact hR _ _ h
    case enter fn args => exact h.mono fun e w'' ⟨v, he, hr⟩ => ⟨v, he, hR _ _ hr⟩
  | halt x w' => simp only [gives] at h
theorem gives_K {P : Program} {R : Value → World → Prop} {r : Result Next} (h : ∀ K : Value → World → Prop, (∀ v w, R v w → K v w) → gives P K r) : gives P R r := h R fun _ _ h => h
theorem gives_value {P : Program} {K : Value → World → Prop} {v : Value} {w : World} (h : K v w) : gives P K (.ok (.value v) w) := h
theorem gives_skip {P : Program} {K : Value → World → Prop} {w : World} (h : K undef w) : gives P K (.ok .skip w) := h
theorem gives_enter {P : Program} {K : Value → World → Prop} {fn : FuncId} {args : Array Value} {w : World} (h : Calls P fn args w fun e w'' => ∃ v, e = .returned v ∧ K v w'') : gives P K (.ok (.enter fn args) w) := h
/-- The operands of the region's operations. -/
theorem evF_all (f : Nat → Value) : (∀ t, evF f (.tmp t) = f t) ∧ (∀ v, evF f (.const v) = v) ∧ (∀ k, evF f (.func k) = .func (.func k) #[] #[]) := ⟨fun _ => rfl, fun _ => rfl, fun _ => rfl⟩
section
variable {P : Program} {l : List Oper} {Q : Exit → Act → World → Prop} {a0 : Act} (use sl : List (List Nat)) (live : List Bool) (st : Nat) (B : Nat) (J : World → Prop) (Φ : Nat → (Nat → Value) → Nat → Nat → World → Prop)
/-- A drawn region, operation by operation, over a function of slots. -/
theorem wp_region_slots {id : Nat} {w : World} (hm : P.follows .mixedOrders = true) (W : World) (hW : w.drew = W) (hB : eachB l use sl live st = true) (hD : (l.all fun o => match o.dst with | some d => decide (d < a0.tmps.size) | none => true) = true) (hBw : B ≤ W.heap.size) (hJ0 : J W) (hJ : ∀ w w', J w → Below w.heap.size w w' → J w')
    (hstab : ∀ j f g x y w w', (∀ s ∈ sl.getD j [], g s = f s) → Below w.heap.size w w' → Φ j f x y w → Φ j g x y w')
    (hstep : ∀ i o, l[i]? = some o → i ≠ st → ∀ (f : Nat → Value) w (lo hi : Nat → Nat), (∀ s, (l.all fun o => o.dst != some s) = true → f s = slotF a0 s) → Below B W w → W.heap.size ≤ w.heap.size → (reach l.toArray l.length st i = true ∨ l.length ≤ st → J w) → (∀ k ∈ use.getD i [], Φ k f (lo k) (hi k) w) →
      gives P (fun v w' => Below w.heap.size w w' ∧ Φ i (upF f o.dst v) w.heap.size w'.heap.size w') ((execOp (evF f) o).run P w))
    (hst : ∀ o, l[st]? = some o → ∀ (f : Nat → Value) w (lo hi : Nat → Nat) (L : Nat → Prop), (∀ s, (l.all fun o => o.dst != some s) = true → f s = slotF a0 s) → Below B W w → W.heap.size ≤ w.heap.size → J w → (∀ k ∈ use.getD st [], Φ k f (lo k) (hi k) w) → (∀ k ∈ use.getD st [], L k) → (∀ i, L i → lo i ≤ hi i ∧ hi i ≤ w.heap.size ∧ W.heap.size ≤ lo i) → (∀ i j, L i → L j → i ≠ j → hi i ≤ lo j ∨ hi j ≤ lo i) →
      gives P (fun v w' => w.heap.size ≤ w'.heap.size ∧ Below B W w' ∧ Φ st (upF f o.dst v) w.heap.size w'.heap.size w' ∧ ∀ j, L j → j ≠ st → live.getD j false = true → (∀ s ∈ sl.getD j [], upF f o.dst v s = f s) → Φ j f (lo j) (hi j) w → Φ j (upF f o.dst v) (lo j) (hi j) w') ((execOp (evF f) o).run P w))
    (hend : ∀ (f : Nat → Value) (lo hi : Nat → Nat) w, Below B W w → (l.length ≤ st → J w) → (∀ i, i < l.length → (live.getD i false = true ∨ l.length ≤ st) → Φ i f (lo i) (hi i) w) → (∀ i j, i < l.length → j < l.length → i ≠ j → hi i ≤ lo j ∨ hi j ≤ lo i) → (∀ i, i < l.length → lo i ≤ hi i ∧ hi i ≤ w.heap.size ∧ W.heap.size ≤ lo i) → Q .normal (putAll l f a0) w) :
    (Code.region id l.toArray true).wp P Q a0 w := by
  rw [List.all_eq_true] at hD
  have hd : ∀ o ∈ l, ∀ (a : Act), a.tmps.size = a0.tmps.size → ∀ x, o.dst = some x → x < a.tmps.size := by
    intro o ho a ha x hx
    have := hD o ho
    rw [hx] at this
    rw [ha]
    exact of_decide_eq_true this
  have hold : ∀ a : Act, (∀ s, (∀ o ∈ l, o.dst ≠ some s) → slotF a s = slotF a0 s) → ∀ s, (l.all fun o => o.dst != some s) = true → slotF a s = slotF a0 s := by
    intro a h s hs
    rw [List.all_eq_true] at hs
    exact h s fun o ho => bne_iff_ne.1 (hs o ho)
  refine wp_region_each use sl live st B J Φ hm W hW hB hBw hJ0 hJ hstab ?_ ?_ hend
  · intro i o hi hne a w lo hi' hz ho hb hg hj hu
    refine Oper.wp_mono ?_ (wp_of_gives (Q := Q) (hstep i o hi hne (slotF a) w lo hi' (hold a ho) hb hg hj hu))
    rintro a' w' ⟨v, rfl, h2, h3⟩
    refine ⟨v, rfl, h2, ?_⟩
    rw [upF_put a o.dst v (hd o (List.mem_of_getElem? hi) a hz)]
    exact h3
  · intro o hi a w lo hi' L hz ho hb hg hj hu hl hseg hap
    refine Oper.wp_mono ?_ (wp_of_gives (Q := Q) (hst o hi (slotF a) w lo hi' L (hold a ho) hb hg hj hu hl hseg hap))
    rintro a' w' ⟨v, rfl, h2⟩
    refine ⟨v, rfl, ?_⟩
    rw [upF_put a o.dst v (hd o (List.mem_of_getElem? hi) a hz)]
    exact h2
end
end Go.Proofs.YtgaihglploedaaaDoor
/-
  A table in a box, with rows of the call's own.
-/
namespace Go.Proofs.YtgaihglploedaaaDoor
set_option maxRecDepth 100000
open Go.RowKit

/-- The table that Apply makes. -/
structure OutW (O : Nat) (wc : World) (nm : ByteArray) (p2 : Option Addr) (n c2 : Nat) (nx : Int) (vr : Value) (G : List GRow) (v : World) : Prop where
  out : Cell4 v O (.string nm) (.slice p2 n c2) (.int .i64 nx) vr
  own : TOwn v wc.heap.size vr G
  step : StepT O wc v
  hO : O < wc.heap.size
section
variable {O : Nat} {wc u v : World} {nm : ByteArray} {p2 : Option Addr} {n c2 : Nat} {nx : Int} {vr : Value} {G : List GRow}
theorem OutW.low (h : OutW O wc nm p2 n c2 nx vr G u) (hb : Below u.heap.size u v) : OutW O wc nm p2 n c2 nx vr G v := ⟨h.out.low hb, h.own.low hb, h.step.trans (StepT.of_below hb), h.hO⟩
theorem OutW.push {w8 : World} {v8 : Value} {g : GRow} {o : Obj} (h : OutW O wc nm p2 n c2 nx vr G u) (hz : InRow u wc.heap.size (g.2.1, g.2.2))
    (ho : w8.ownsRow wc.heap.size 68 2 v8 (G ++ [g]).length (tcells (G ++ [g]))) (hg : (u.alloc o).grownBy w8 vr.ownBlock) :
    Cell4 w8 O (.string nm) (.slice p2 n c2) (.int .i64 nx) vr ∧ OutW O wc nm p2 n c2 nx v8 (G ++ [g]) (w8.setCell ⟨O, 3, none⟩ v8) := by
  have h7 := h.low (below_alloc u o)
  have hO := h.hO
  have hk : ∀ k, vr.ownBlock = some k → wc.heap.size ≤ k := fun k hk => (h.own.own.lt k hk).1
  have hc := h7.out.grown hg (fun k hk' => by have := hk k hk'; omega)
  exact ⟨hc, hc.set3 v8, (h.own.push hz ho hg).set (by omega) _, (step_grown_from h7.step hg hk).setCell 3 none v8, hO⟩
theorem OutW.setNx (h : OutW O wc nm p2 n c2 nx vr G u) (nx' : Int) : OutW O wc nm p2 n c2 nx' vr G (u.setCell ⟨O, 2, none⟩ (.int .i64 nx')) :=
  ⟨h.out.set2 _, h.own.set h.hO _, h.step.setCell 2 none _, h.hO⟩
end
end Go.Proofs.YtgaihglploedaaaDoor
/-
  The law texts of package keys: keyed, pairs, known.
-/
namespace Go.Proofs.YtgaihglploedaaaDoor
set_option maxRecDepth 100000
open Go.RowKit
variable {ls : List Nat}

set_option maxHeartbeats 400000 in
theorem rnum7_any (n : Int) (w : World) :
    Calls Tryd.prog 37 #[.int .i64 n] w fun e w' => e = .returned (.agg #[.int .i64 1, .int .i64 n, .string ⟨#[]⟩]) ∧ Below w.heap.size w w' := by
  go_enter Tryd.func37, Tryd.ntmps37
  go_wp2
  exact bodyPost_ret (v := .agg #[.int .i64 1, .int .i64 n, .string ⟨#[]⟩]) (by simp [results, Tryd.results37, go_sem]) rfl ⟨rfl, (Below.refl _ _).alloc (Nat.le_refl _) _⟩
/-- A row of u with a key. -/
def kyL (n : Int) : List Val := [(1, n, ⟨#[]⟩), (1, 0, ⟨#[]⟩), (0, 0, ⟨#[]⟩)]
def Keyed7Post (n : Int) (w : World) (e : Ending) (w' : World) : Prop := ∃ Z : Nat, e = .returned (.slice (some ⟨Z, 0, none⟩) 3 3) ∧ RowAt w' (some ⟨Z, 0, none⟩) (kyL n) ∧ Below w.heap.size w w'
theorem key7_row (u : World) (n : Int) : RowAt (u.alloc (.cells #[.int .i64 1, .int .i64 n, .string ⟨#[]⟩, .int .i64 1, .int .i64 0, .string ⟨#[]⟩, .int .i64 0, .int .i64 0, .string ⟨#[]⟩] 34)) (some ⟨u.heap.size, 0, none⟩) (kyL n) := by
  have h : InRow (u.alloc (.cells #[.int .i64 1, .int .i64 n, .string ⟨#[]⟩, .int .i64 1, .int .i64 0, .string ⟨#[]⟩, .int .i64 0, .int .i64 0, .string ⟨#[]⟩] 34)) u.heap.size (.slice (some ⟨u.heap.size, 0, none⟩) 3 3, kyL n) :=
    ⟨World.ownsRow_lit u #[.int .i64 1, .int .i64 n, .string ⟨#[]⟩, .int .i64 1, .int .i64 0, .string ⟨#[]⟩, .int .i64 0, .int .i64 0, .string ⟨#[]⟩] 3 (Nat.le_refl _) (by decide) rfl, by show 3 * 32 ≤ 140737488355328; omega⟩
  exact (owned_shape h.1).2.1
set_option maxHeartbeats 400000 in
theorem keyed7_any (n : Int) (w : World) : Calls Tryd.prog 87 #[.int .i64 n] w (Keyed7Post n w) := by
  go_enter Tryd.func87, Tryd.ntmps87
  go_wp2_with fail
  refine (rnum7_any n _).mono ?_
  rintro e w1 ⟨rfl, hb1⟩
  have HB1 := Lib.hid hb1
  clear hb1
  go_wp2_with fail
  refine (rnum7_any 0 _).mono ?_
  rintro e w2 ⟨rfl, hb2⟩
  have HB2 := Lib.hid (below_next HB1.out hb2)
  clear hb2 HB1
  go_wp2
  go_ret
  exact ⟨w2.heap.size, rfl, key7_row w2 n, below_new HB2.out _⟩
def pairR : List TRow := [(1, kyL 1), (2, kyL 2)]
def PairsPost (w : World) (e : Ending) (w' : World) : Prop := ∃ (Z : Nat) (pr : Option Addr) (cr : Nat), e = .returned (.agg #[.string ⟨#[117]⟩, .slice (some ⟨Z, 0, none⟩) 3 3, .int .i64 3, .slice pr 2 cr]) ∧ TabAt w' ⟨⟨#[117]⟩, some ⟨Z, 0, none⟩, 3, 3, colU, 3, pr, cr, pairR⟩ ∧ Below w.heap.size w w'
theorem kyL_in (u : World) (base : Nat) (n : Int) (hb : base ≤ u.heap.size) : InRow (u.alloc (.cells #[.int .i64 1, .int .i64 n, .string ⟨#[]⟩, .int .i64 1, .int .i64 0, .string ⟨#[]⟩, .int .i64 0, .int .i64 0, .string ⟨#[]⟩] 34)) base (.slice (some ⟨u.heap.size, 0, none⟩) 3 3, kyL n) :=
  ⟨World.ownsRow_lit u #[.int .i64 1, .int .i64 n, .string ⟨#[]⟩, .int .i64 1, .int .i64 0, .string ⟨#[]⟩, .int .i64 0, .int .i64 0, .string ⟨#[]⟩] 3 hb (by decide) rfl, by show 3 * 32 ≤ 140737488355328; omega⟩
theorem pairR_take {k : Nat} (h : k < 2) : pairR.take (k + 1) = pairR.take k ++ [((k : Int) + 1, kyL ((k : Int) + 1))] := by
  obtain rfl | rfl : k = 0 ∨ k = 1 := by omega
  all_goals rfl
theorem kyL_sized (n : Int) : ValsSized (kyL n) := fun i hi => by
  have hi2 : i < 3 := hi
  obtain rfl | rfl | rfl : i = 0 ∨ i = 1 ∨ i = 2 := by omega
  all_goals exact Nat.zero_le _
set_option maxHeartbeats 2000000 in
theorem pairs_any (w : World) : Calls Tryd.prog 86 #[] w (PairsPost w) := by
  have HZ := Lib.hid (cell4_new w (.string ⟨#[]⟩) (.slice none 0 0) (.int .i64 0) (.slice none 0 0) 51)
  go_enter Tryd.func86, Tryd.ntmps86
  go_wp2_with fail
  refine (schemaU_any _).mono ?_
  rintro e w1 ⟨Z, rfl, hZ, hZl, hb1⟩
  unfold schV
  have HZ1 := Lib.hid ((HZ.out.low hb1).low (below_alloc w1 (.cells #[.string ⟨#[117]⟩, .slice (some ⟨Z, 0, none⟩) 3 3, .int .i64 3, .slice none 0 0] 51)))
  have HC1 := Lib.hid (hZ.low (below_alloc w1 (.cells #[.string ⟨#[117]⟩, .slice (some ⟨Z, 0, none⟩) 3 3, .int .i64 3, .slice none 0 0] 51)))
  have HB1 : Hid (Below w.heap.size w (w1.alloc (.cells #[.string ⟨#[117]⟩, .slice (some ⟨Z, 0, none⟩) 3 3, .int .i64 3, .slice none 0 0] 51))) := Lib.hid (below_new (below_next (below_alloc w _) hb1 |> fun h => h) _)
  have HZX : Hid (Z < w1.heap.size ∧ w.heap.size < w1.heap.size ∧ w.heap.size < Z) := Lib.hid (by
    have h1 := (hZ.at0 (i := 0) (by decide)).1
    have h2 := hb1.size
    rw [size_alloc] at h2 hZl
    exact ⟨h1, by omega, by omega⟩)
  have HW : Hid (OutW w1.heap.size (w1.alloc (.cells #[.string ⟨#[117]⟩, .slice (some ⟨Z, 0, none⟩) 3 3, .int .i64 3, .slice none 0 0] 51)) ⟨#[117]⟩ (some ⟨Z, 0, none⟩) 3 3 3 (.slice none 0 0) [] (w1.alloc (.cells #[.string ⟨#[117]⟩, .slice (some ⟨Z, 0, none⟩) 3 3, .int .i64 3, .slice none 0 0] 51))) :=
    Lib.hid ⟨cell4_new _ _ _ _ _ _, TOwn.nil _ _, StepT.refl _ _, by rw [size_alloc]; omega⟩
  clear HZ hZ hZl hb1
  go_upto_region 2 with (fail)
  generalize World.alloc _ _ = W2 at HZ1 HC1 HB1 HW ⊢
  generalize w1.heap.size = X at HZX HW ⊢
  go_wp2_with fail
  go_loopw [2] (fun i v => ∃ (k : Nat) (vr : Value) (G : List GRow), k ≤ 2 ∧ i = .int .i64 ((k : Int) + 1) ∧ tabR G = pairR.take k ∧ OutW X W2 ⟨#[117]⟩ (some ⟨Z, 0, none⟩) 3 3 3 vr G v) (fun i _ => 3 - (intOf i).toNat)
  case atStart => exact ⟨0, _, [], Nat.zero_le _, rfl, rfl, HW.out⟩
  clear HW
  case round =>
    obtain ⟨k, vr, G, hk, rfl, hG, hw⟩ := hrel
    have HG := Lib.hid hG
    have HW := Lib.hid hw
    have HGL : Hid (G.length = k) := Lib.hid (by
      have h1 := congrArg List.length hG
      rw [tabR_length, List.length_take] at h1
      have h2 : pairR.length = 2 := rfl
      omega)
    clear hG hw
    by_cases hlt : k < 2
    · have hlt' : decide ((k : Int) + 1 ≤ 2) = true := decide_eq_true (by omega)
      have hwr : IntKind.i64.wrap ((k : Int) + 1 + 1) = (k : Int) + 1 + 1 := i64w (by omega) (by omega)
      obtain ⟨xl, x0, x1, x2, x3, xf⟩ := HW.out.out
      go_upto_region 5 with (fail)
      have HWD := Lib.hid (HW.out.low (Below.refl _ _).drew)
      go_region_law (first
        | (go_simp; go_at_call 37; refine (rnum7_any _ _).mono ?_; rintro e wq ⟨rfl, hbq⟩; (first | (revert HWa; intro HWa; (have HWb := Lib.hid (HWa.out.low hbq)); obtain ⟨yl, y0, y1, y2, y3, yf⟩ := HWb.out.out) | ((have HWa := Lib.hid (HWD.out.low hbq)); obtain ⟨zl, z0, z1, z2, z3, zf⟩ := HWa.out.out)); clear hbq)
        | (refine step_append_trow (by rfl) (.tmp 10) (.tmp 18) (by rfl) W2.heap.size vr G (by simp [Act.eval]) ((HWb.out.own.low (below_alloc _ _)).low (below_alloc _ _)).own (wq.heap.size + 1) ((k : Int) + 1) (.slice (some ⟨wq.heap.size, 0, none⟩) 3 3) (kyL ((k : Int) + 1)) (by simp [Act.eval]) ((cell2_new _ _ _ _).at (size_alloc _ _)).c0 ((cell2_new _ _ _ _).at (size_alloc _ _)).c1 rfl (by have := HGL.out; omega) (by rw [size_alloc, size_alloc]; have := HWb.out.step.size; omega) ?_; intro v8 w8 hown8 hg8; obtain ⟨⟨ql, q0, q1, q2, q3, qf⟩, hS8⟩ := (HWb.out.low (below_alloc _ _)).push (g := ((k : Int) + 1, .slice (some ⟨wq.heap.size, 0, none⟩) 3 3, kyL ((k : Int) + 1))) (kyL_in _ _ _ HWb.out.step.size) hown8 hg8; obtain ⟨p8, c8, e8⟩ := hS8.own.ex; subst e8; rw [List.length_append, List.length_singleton] at hS8; (have HS8 := Lib.hid hS8); clear hS8 hown8 hg8))
      all_goals
        clear HW HWD HWa HWb xl x0 x1 x2 x3 xf yl y0 y1 y2 y3 yf zl z0 z1 z2 z3 zf ql q0 q1 q2 q3 qf
        generalize World.setCell _ _ _ = W9 at HS8 ⊢
        go_wp2
        go_roundw
        case rel => exact ⟨k + 1, _, G ++ [((k : Int) + 1, _, kyL ((k : Int) + 1))], by omega, by go_num, by rw [tabR_append, HG.out, pairR_take hlt]; rfl, HS8.out⟩
        case measure => simp [intOf]; omega
    · have hlt' : decide ((k : Int) + 1 ≤ 2) = false := decide_eq_false (by omega)
      obtain rfl : k = 2 := by omega
      have hGR : tabR G = pairR := by rw [HG.out]; rfl
      obtain ⟨p, cv, hvr⟩ := HW.out.own.ex
      rw [HGL.out] at hvr
      subst hvr
      have HZ2 := Lib.hid (HZ1.out.step HW.out.step (by have := HZX.out; omega))
      have HC2 := Lib.hid (HC1.out.step HW.out.step (fun q hq => by cases hq; have := HZX.out; show Z ≠ X; omega))
      have hV : w.heap.size < W2.heap.size := by have := HZX.out; have := HW.out.hO; omega
      have hrw := ((((HW.out.own.set (V := w.heap.size) (o := 0) hV (.string ⟨#[117]⟩)).set (V := w.heap.size) (o := 1) hV (.slice (some ⟨Z, 0, none⟩) 3 3)).set (V := w.heap.size) (o := 2) hV (.int .i64 3)).set (V := w.heap.size) (o := 3) hV (.slice p 2 cv)).rows
      rw [hGR] at hrw
      have HRW := Lib.hid hrw
      have hzn : ∀ q, some (⟨Z, 0, none⟩ : Addr) = some q → q.block ≠ w.heap.size := fun q hq => by cases hq; have := HZX.out; show Z ≠ w.heap.size; omega
      have HCC := Lib.hid ((((HC2.out.set (a := ⟨w.heap.size, 0, none⟩) hzn (.string ⟨#[117]⟩)).set (a := ⟨w.heap.size, 1, none⟩) hzn (.slice (some ⟨Z, 0, none⟩) 3 3)).set (a := ⟨w.heap.size, 2, none⟩) hzn (.int .i64 3)).set (a := ⟨w.heap.size, 3, none⟩) hzn (.slice p 2 cv))
      have hbel : Below w.heap.size w wr := HB1.out.trans (HW.out.step.below (by have := HZX.out; omega) HB1.out.size)
      have HBF : Hid (Below w.heap.size w ((((wr.setCell ⟨w.heap.size, 0, none⟩ (.string ⟨#[117]⟩)).setCell ⟨w.heap.size, 1, none⟩ (.slice (some ⟨Z, 0, none⟩) 3 3)).setCell ⟨w.heap.size, 2, none⟩ (.int .i64 3)).setCell ⟨w.heap.size, 3, none⟩ (.slice p 2 cv))) := Lib.hid ((((hbel.setCell (by exact Nat.le_refl _) _).setCell (by exact Nat.le_refl _) _).setCell (by exact Nat.le_refl _) _).setCell (by exact Nat.le_refl _) _)
      have HYS := Lib.hid (cell4_put wr HZ2.out (.string ⟨#[117]⟩) (.slice (some ⟨Z, 0, none⟩) 3 3) (.int .i64 3) (.slice p 2 cv))
      obtain ⟨xl, x0, x1, x2, x3, -⟩ := HW.out.out
      obtain ⟨zl, z0, z1, z2, z3, zf⟩ := HZ2.out
      clear hGR hrw hzn hbel
      go_wp2
      obtain ⟨-, s0, s1, s2, s3, -⟩ := HYS.out
      exact bodyPost_ret (v := .agg #[.string ⟨#[117]⟩, .slice (some ⟨Z, 0, none⟩) 3 3, .int .i64 3, .slice p 2 cv]) (by simp [results, Tryd.results86, go_sem, s0, s1, s2, s3]) rfl
        ⟨Z, p, cv, rfl, ⟨(by decide : (1 : Nat) ≤ 9223372036854775807), (by decide : (3 : Nat) ≤ 9223372036854775807), HCC.out, HRW.out, (by decide : (2 : Nat) ≤ 1000), fun r hr => (by
          have hr : r ∈ pairR := hr
          simp only [pairR, List.mem_cons, List.not_mem_nil, or_false] at hr
          rcases hr with rfl | rfl <;> exact kyL_sized _), (by decide : (3 : Int) ≤ 9223372036854775807)⟩, HBF.out⟩
end Go.Proofs.YtgaihglploedaaaDoor
