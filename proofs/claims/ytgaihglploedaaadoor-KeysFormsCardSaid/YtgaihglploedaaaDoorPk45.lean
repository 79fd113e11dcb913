/-
  Several texts in one.
-/
import Derived.Test.YtgaihglploedaaaDoorPk44
import Derived.Test.YtgaihglploedaaaDoorPk38
import Derived.Test.YtgaihglploedaaaDoorPk19
import Derived.Test.YtgaihglploedaaaDoorPk18
import Derived.Test.YtgaihglploedaaaDoorPk21
import Derived.Test.YtgaihglploedaaaDoorPk37
/-
  alike of the law: Valid and Apply of a change, both ways; the table behind a change is valid.
-/
namespace Go.Proofs.YtgaihglploedaaaDoor
set_option maxRecDepth 100000
open Go.RowKit
variable {ls : List Nat}

theorem fitsL_all {f : Nat → Col} {n : Nat} {L : List (List Val)} (h : fitsL f n L = 0) : ∀ l ∈ L, fitsRow f n l = 0 := by
  induction L with
  | nil => intro l hl; cases hl
  | cons x L ih =>
    have h' : (if fitsRow f n x = 0 then fitsL f n L else fitsRow f n x) = 0 := h
    by_cases hx : fitsRow f n x = 0
    · rw [if_pos hx] at h'
      intro l hl
      rcases List.mem_cons.1 hl with rfl | hl
      · exact hx
      · exact ih h' l hl
    · rw [if_neg hx] at h'
      exact absurd h' hx
theorem come_all {nx : Int} {I : List (List Val)} : ∀ r ∈ comeR nx I, nx ≤ r.1 ∧ r.1 < nx + I.length ∧ r.2 ∈ I := by
  induction I generalizing nx with
  | nil => intro r hr; cases hr
  | cons l I ih =>
    intro r hr
    rw [List.length_cons]
    rcases List.mem_cons.1 hr with rfl | hr
    · exact ⟨Int.le_refl _, by show nx < _; omega, List.mem_cons_self⟩
    · obtain ⟨h1, h2, h3⟩ := ih r hr
      exact ⟨by omega, by omega, List.mem_cons_of_mem _ h3⟩
theorem come_up {nx : Int} {I : List (List Val)} : ((comeR nx I).map (·.1)).Pairwise (· < ·) := by
  induction I generalizing nx with
  | nil => exact List.Pairwise.nil
  | cons l I ih =>
    show (nx :: (comeR (nx + 1) I).map (·.1)).Pairwise (· < ·)
    refine List.Pairwise.cons (fun a ha => ?_) ih
    obtain ⟨r, hr, rfl⟩ := List.mem_map.1 ha
    have := (come_all r hr).1
    omega
theorem kept_up {R : List TRow} {D : List Int} {U : List PRow} (h : (R.map (·.1)).Pairwise (· < ·)) : ((keptR D U R).map (·.1)).Pairwise (· < ·) := by
  unfold keptR
  rw [List.map_map]
  exact h.sublist (List.Sublist.map _ List.filter_sublist)
theorem newV_fits {f : Nat → Col} {n : Nat} {U : List PRow} {r : TRow} (hU : ∀ p ∈ U, fitsRow f n p.2.2 = 0) (hr : fitsRow f n r.2 = 0) : fitsRow f n (newV U r) = 0 := by
  unfold newV
  cases hf : U.find? fun p => decide (p.1 = r.1) with
  | none => exact hr
  | some p => exact hU p (List.mem_of_find?_eq_some hf)
theorem rowsOK_up {f : Nat → Col} {n : Nat} {nx : Int} {R : List TRow} (h : (R.map (·.1)).Pairwise (· < ·)) (ha : ∀ r ∈ R, 1 ≤ r.1 ∧ r.1 < nx ∧ fitsRow f n r.2 = 0) : ∀ i, i < R.length → RowOK f n nx R i := by
  intro i hi
  obtain ⟨h1, h2, h3⟩ := ha _ (tAt_mem hi)
  refine ⟨h1, h2, fun h0 => ?_, h3⟩
  rw [List.pairwise_iff_getElem] at h
  have := h (i - 1) i (by rw [List.length_map]; omega) (by rw [List.length_map]; exact hi) (by omega)
  rw [List.getElem_map, List.getElem_map] at this
  rw [tAt_get hi, tAt_get (show i - 1 < R.length by omega)]
  exact this
theorem applyE_parts {nm : ByteArray} {n : Nat} {f : Nat → Col} {nx : Int} {R : List TRow} {I : List (List Val)} {D : List Int} {U : List PRow} (h : applyE nm n f nx R I D U = 0) :
    validT nm n f nx R = true ∧ fitsL f n (U.map (·.2.2)) = 0 ∧ fitsL f n I = 0 ∧ ¬ (100 < (keptR D U R).length + I.length ∨ 2147483648 - nx < I.length) ∧ dupR (findKey f n) (afterR nx R I D U) = false := by
  unfold applyE at h
  split at h
  · cases h
  · rename_i h1
    have h1 := Bool.not_eq_false _ ▸ h1
    rw [Bool.and_eq_true] at h1
    split at h
    · rename_i h2; exact absurd h h2
    · rename_i h2
      split at h
      · rename_i h3; exact absurd h h3
      · rename_i h3
        split at h
        · cases h
        · rename_i h4
          split at h
          · cases h
          · rename_i h5
            exact ⟨h1.1, Classical.not_not.1 h2, Classical.not_not.1 h3, h4, by simpa using h5⟩
/-- The table behind a change is valid. -/
theorem after_valid {nm : ByteArray} {n : Nat} {f : Nat → Col} {nx : Int} {R : List TRow} {I : List (List Val)} {D : List Int} {U : List PRow} (h : applyE nm n f nx R I D U = 0) : validT nm n f (nx + I.length) (afterR nx R I D U) = true := by
  obtain ⟨hv, hu, hi, hl, hd⟩ := applyE_parts h
  obtain ⟨hso, hR, hn1, hn2, hrows, -⟩ := validT_parts hv
  have hU := fitsL_all hu
  have hI := fitsL_all hi
  have hlen : (afterR nx R I D U).length = (keptR D U R).length + I.length := by unfold afterR; rw [List.length_append, comeR_length]
  have hall : ∀ r ∈ keptR D U R, 1 ≤ r.1 ∧ r.1 < nx ∧ fitsRow f n r.2 = 0 := by
    intro r hr
    unfold keptR at hr
    obtain ⟨x, hx, rfl⟩ := List.mem_map.1 hr
    obtain ⟨k, hk, he⟩ := List.getElem_of_mem (List.mem_filter.1 hx).1
    obtain ⟨h1, h2, -, h4⟩ := hrows k hk
    rw [tAt_get hk, he] at h1 h2 h4
    exact ⟨h1, h2, newV_fits (fun p hp => hU _ (List.mem_map.2 ⟨p, hp, rfl⟩)) h4⟩
  rw [validT_dup hso ⟨by omega, by omega, by omega⟩ ?_, hd]
  · rfl
  · refine rowsOK_up ?_ ?_
    · unfold afterR
      rw [List.map_append, List.pairwise_append]
      refine ⟨kept_up (rows_up hrows), come_up, fun a ha b hb => ?_⟩
      obtain ⟨r, hr, rfl⟩ := List.mem_map.1 ha
      obtain ⟨s, hs, rfl⟩ := List.mem_map.1 hb
      have := (hall r hr).2.1
      have := (come_all s hs).1
      omega
    · intro r hr
      unfold afterR at hr
      rcases List.mem_append.1 hr with hr | hr
      · obtain ⟨h1, h2, h3⟩ := hall r hr
        exact ⟨h1, by omega, h3⟩
      · obtain ⟨h1, h2, h3⟩ := come_all r hr
        exact ⟨by omega, h2, hI _ h3⟩
theorem apply_norm {T : Tab} {C : Chg} {w w' : World} {e : Ending} (h : ApplyPost T C w e w') : ∃ S : Tab, e = .returned (.tuple #[S.v, .int .i64 (applyE T.nm T.n T.f T.nx T.R C.I C.D C.U)]) ∧ TabAt w' S ∧ Below w.heap.size w w' ∧
    ((applyE T.nm T.n T.f T.nx T.R C.I C.D C.U = 0 ∧ S.nm = T.nm ∧ S.n = T.n ∧ S.f = T.f ∧ S.nx = T.nx + C.I.length ∧ S.R = afterR T.nx T.R C.I C.D C.U) ∨ (applyE T.nm T.n T.f T.nx T.R C.I C.D C.U ≠ 0 ∧ S.nm = ⟨#[]⟩ ∧ S.n = 0 ∧ S.nx = 0 ∧ S.R = [])) := by
  obtain ⟨⟨nm, pc, n, cc, f, nx, pr, cr, R⟩, he, ⟨hnm, hn, hC, hR, hl, hz, hx⟩, hb, ⟨h0, h1, h2, h3, h4, h5⟩ | h0⟩ := h
  · exact ⟨⟨nm, pc, n, cc, T.f, nx, pr, cr, R⟩, he, ⟨hnm, hn, hC.congr fun i hi => (h3 i (h2 ▸ hi)).symm, hR, hl, hz, hx⟩, hb, .inl ⟨h0, h1, h2, rfl, h4, h5⟩⟩
  · exact ⟨_, he, ⟨hnm, hn, hC, hR, hl, hz, hx⟩, hb, .inr h0⟩
theorem sameT_yes {T S : Tab} (h1 : T.nm = S.nm) (h2 : T.n = S.n) (h3 : ∀ i, i < T.n → T.f i = S.f i) (h4 : T.nx = S.nx) (h5 : T.R = S.R) : sameT T S = true := by
  unfold sameT
  rw [h1, eqT_self, h4, h5, ← h2, sameCols_yes h3]
  simp
theorem same_applied {T S V : Tab} {C : Chg} {E : Int}
    (h1 : (E = 0 ∧ S.nm = T.nm ∧ S.n = T.n ∧ S.f = T.f ∧ S.nx = T.nx + C.I.length ∧ S.R = afterR T.nx T.R C.I C.D C.U) ∨ (E ≠ 0 ∧ S.nm = ⟨#[]⟩ ∧ S.n = 0 ∧ S.nx = 0 ∧ S.R = []))
    (h2 : (E = 0 ∧ V.nm = T.nm ∧ V.n = T.n ∧ V.f = T.f ∧ V.nx = T.nx + C.I.length ∧ V.R = afterR T.nx T.R C.I C.D C.U) ∨ (E ≠ 0 ∧ V.nm = ⟨#[]⟩ ∧ V.n = 0 ∧ V.nx = 0 ∧ V.R = [])) : sameT S V = true := by
  rcases h1 with ⟨e1, a1, a2, a3, a4, a5⟩ | ⟨e1, a1, a2, a3, a4⟩
  · rcases h2 with ⟨e2, b1, b2, b3, b4, b5⟩ | ⟨e2, -⟩
    · exact sameT_yes (a1.trans b1.symm) (a2.trans b2.symm) (fun i _ => by rw [a3, b3]) (a4.trans b4.symm) (a5.trans b5.symm)
    · exact absurd e1 e2
  · rcases h2 with ⟨e2, -⟩ | ⟨e2, b1, b2, b3, b4⟩
    · exact absurd e2 e1
    · exact sameT_yes (a1.trans b1.symm) (a2.trans b2.symm) (fun i hi => by omega) (a3.trans b3.symm) (a4.trans b4.symm)
theorem sameTn_any (S V : Tab) (w : World) (hS : TabAt w S) (hV : TabAt w V) {b : Bool} (h : sameT S V = b) :
    Calls Tryd.prog 42 #[.agg #[.string S.nm, .slice S.pc S.n S.cc, .int .i64 S.nx, .slice S.pr S.R.length S.cr], .agg #[.string V.nm, .slice V.pc V.n V.cc, .int .i64 V.nx, .slice V.pr V.R.length V.cr]] w fun e w' => e = .returned (.bool b) ∧ Below w.heap.size w w' := by
  rw [← h]
  exact sametable_any S V w hS hV
theorem tvalidn_any (S : Tab) (w : World) (hS : TabAt w S) {b : Bool} (h : S.valid = b) :
    Calls Tryd.prog 72 #[.agg #[.string S.nm, .slice S.pc S.n S.cc, .int .i64 S.nx, .slice S.pr S.R.length S.cr]] w fun e w' => e = .returned (.bool b) ∧ Below w.heap.size w w' := by
  rw [← h]
  exact rtvalid_any S w hS
theorem kvalidn_any (T : Tab) (C : Chg) (w : World) (hT : TabAt w T) (hC : ChgAt w C) {b : Bool} (h : (T.valid && validC T.n T.R C.I C.D C.U) = b) :
    Calls Tryd.prog 89 #[.agg #[.string T.nm, .slice T.pc T.n T.cc, .int .i64 T.nx, .slice T.pr T.R.length T.cr], .agg #[.slice C.pi C.I.length C.ci, .slice C.pd C.D.length C.cd, .slice C.pu C.U.length C.cu]] w fun e w' => e = .returned (.bool b) ∧ Below w.heap.size w w' := by
  rw [← h]
  exact kvalid_any T.nm T.pc T.n T.cc T.f T.nx T.pr T.cr T.R C.pi C.ci C.I C.pd C.cd C.D C.pu C.cu C.U w hT hC
theorem rvalidn7_any (T : Tab) (C : Chg) (w : World) (hT : TabAt w T) (hC : ChgAt w C) {b : Bool} (h : (T.valid && validC T.n T.R C.I C.D C.U) = b) :
    Calls Tryd.prog 90 #[.agg #[.string T.nm, .slice T.pc T.n T.cc, .int .i64 T.nx, .slice T.pr T.R.length T.cr], .agg #[.slice C.pi C.I.length C.ci, .slice C.pd C.D.length C.cd, .slice C.pu C.U.length C.cu]] w fun e w' => e = .returned (.bool b) ∧ Below w.heap.size w w' := by
  rw [← h]
  exact rcvalid_any T C w hT hC
/-- The state of alike. -/
structure AkW (w : World) (P : Nat) (T S : Tab) (C : Chg) (v : World) : Prop where
  t : TabAt v T
  c : ChgAt v C
  s : TabAt v S
  x : Cell4 v w.heap.size (.string T.nm) (.slice T.pc T.n T.cc) (.int .i64 T.nx) (.slice T.pr T.R.length T.cr)
  y : Cell3 v (w.heap.size + 1) (.slice C.pi C.I.length C.ci) (.slice C.pd C.D.length C.cd) (.slice C.pu C.U.length C.cu)
  z : Cell4 v P (.string S.nm) (.slice S.pc S.n S.cc) (.int .i64 S.nx) (.slice S.pr S.R.length S.cr)
  bel : Below w.heap.size w v
theorem AkW.low {w u v : World} {P : Nat} {T S : Tab} {C : Chg} (h : AkW w P T S C u) (hb : Below u.heap.size u v) : AkW w P T S C v :=
  ⟨h.t.low hb, h.c.low hb, h.s.low hb, h.x.low hb, h.y.low hb, h.z.low hb, below_next h.bel hb⟩
set_option maxHeartbeats 8000000 in
theorem alike7_any (T : Tab) (C : Chg) (w : World) (hT : TabAt w T) (hC : ChgAt w C) :
    Calls Tryd.prog 49 #[.agg #[.string T.nm, .slice T.pc T.n T.cc, .int .i64 T.nx, .slice T.pr T.R.length T.cr], .agg #[.slice C.pi C.I.length C.ci, .slice C.pd C.D.length C.cd, .slice C.pu C.U.length C.cu]] w fun e w' => e = .returned (.bool true) ∧ Below w.heap.size w w' := by
  have HX := Lib.hid ((cell4_new w (.string T.nm) (.slice T.pc T.n T.cc) (.int .i64 T.nx) (.slice T.pr T.R.length T.cr) 51).low (below_alloc (w.alloc _) (.cells #[.slice C.pi C.I.length C.ci, .slice C.pd C.D.length C.cd, .slice C.pu C.U.length C.cu] 79)))
  have HY := Lib.hid ((cell3_new (w.alloc (.cells #[.string T.nm, .slice T.pc T.n T.cc, .int .i64 T.nx, .slice T.pr T.R.length T.cr] 51)) (.slice C.pi C.I.length C.ci) (.slice C.pd C.D.length C.cd) (.slice C.pu C.U.length C.cu) 79).at (size_alloc _ _))
  have HB := Lib.hid (below_new (below_new (Below.refl w.heap.size w) (.cells #[.string T.nm, .slice T.pc T.n T.cc, .int .i64 T.nx, .slice T.pr T.R.length T.cr] 51)) (.cells #[.slice C.pi C.I.length C.ci, .slice C.pd C.D.length C.cd, .slice C.pu C.U.length C.cu] 79))
  have HT := Lib.hid (hT.low HB.out)
  have HC := Lib.hid (hC.low HB.out)
  clear hT hC
  go_enter Tryd.func49, Tryd.ntmps49
  go_upto_region 1 with (fail)
  generalize World.alloc _ _ = W0 at HX HY HB HT HC ⊢
  obtain ⟨xl, x0, x1, x2, x3, -⟩ := HX.out
  obtain ⟨yl, y0, y1, y2, -⟩ := HY.out
  go_wp2_with fail
  refine (kapply_at T.nm T.pc T.n T.cc T.f T.nx T.pr T.cr T.R C.pi C.ci C.I C.pd C.cd C.D C.pu C.cu C.U _ HT.out HC.out).mono ?_
  intro e w1 hp1
  obtain ⟨S, rfl, hS, hb1, hc1⟩ := apply_norm hp1
  clear hp1
  have hbn := below_alloc w1 (.cells #[.string S.nm, .slice S.pc S.n S.cc, .int .i64 S.nx, .slice S.pr S.R.length S.cr] 51)
  have HW : Hid (AkW w w1.heap.size T S C (w1.alloc (.cells #[.string S.nm, .slice S.pc S.n S.cc, .int .i64 S.nx, .slice S.pr S.R.length S.cr] 51))) :=
    Lib.hid ⟨(HT.out.low hb1).low hbn, (HC.out.low hb1).low hbn, hS.low hbn, (HX.out.low hb1).low hbn, (HY.out.low hb1).low hbn, cell4_new w1 _ _ _ _ _, below_next (below_next HB.out hb1) hbn⟩
  have HC1 := Lib.hid hc1
  clear HX HY HB HT HC hS hb1 hc1 hbn xl x0 x1 x2 x3 yl y0 y1 y2
  unfold Tab.v
  obtain ⟨E, hE⟩ : ∃ x, applyE T.nm T.n T.f T.nx T.R C.I C.D C.U = x := ⟨_, rfl⟩
  have HE := Lib.hid hE
  dsimp only
  rw [hE] at HC1 ⊢
  clear hE
  go_upto_region 2 with (fail)
  generalize World.alloc _ _ = W1 at HW ⊢
  generalize w1.heap.size = P at HW ⊢
  obtain ⟨xl, x0, x1, x2, x3, -⟩ := HW.out.x
  obtain ⟨yl, y0, y1, y2, -⟩ := HW.out.y
  go_wp2_with fail
  refine (rapply_any T C _ HW.out.t HW.out.c).mono ?_
  intro e w2 hp2
  obtain ⟨V, rfl, hV, hb2, hc2⟩ := apply_norm hp2
  clear hp2
  have hbn := below_alloc w2 (.cells #[.string V.nm, .slice V.pc V.n V.cc, .int .i64 V.nx, .slice V.pr V.R.length V.cr] 51)
  have HW2 := Lib.hid ((HW.out.low hb2).low hbn)
  have HV2 := Lib.hid (hV.low hbn)
  have HQ2 := Lib.hid (cell4_new w2 (.string V.nm) (.slice V.pc V.n V.cc) (.int .i64 V.nx) (.slice V.pr V.R.length V.cr) 51)
  rw [HE.out] at hc2
  have HSAME := Lib.hid (same_applied HC1.out hc2)
  clear hV hb2 hc2 hbn HW xl x0 x1 x2 x3 yl y0 y1 y2
  unfold Tab.v
  rw [HE.out]
  have HVAL : Hid (E = 0 → S.valid = true) := Lib.hid fun h0 => by
    rcases HC1.out with ⟨-, a1, a2, a3, a4, a5⟩ | ⟨h1, -⟩
    · unfold Tab.valid
      rw [a1, a2, a3, a4, a5]
      exact after_valid (HE.out.trans h0)
    · exact absurd h0 h1
  clear HC1
  go_upto_region 3 with (fail)
  generalize World.alloc _ _ = W2 at HW2 HV2 HQ2 ⊢
  generalize w2.heap.size = Q at HQ2 ⊢
  obtain ⟨vb, hvb⟩ : ∃ b, (T.valid && validC T.n T.R C.I C.D C.U) = b := ⟨_, rfl⟩
  have HVB := Lib.hid hvb
  clear hvb
  obtain ⟨xl, x0, x1, x2, x3, -⟩ := HW2.out.x
  obtain ⟨yl, y0, y1, y2, -⟩ := HW2.out.y
  obtain ⟨zl, z0, z1, z2, z3, -⟩ := HW2.out.z
  obtain ⟨ql, q0, q1, q2, q3, -⟩ := HQ2.out
  have lx0 := lowW_cell (a := ⟨w.heap.size, 0, none⟩) xl x0
  have lx1 := lowW_cell (a := ⟨w.heap.size, 1, none⟩) xl x1
  have lx2 := lowW_cell (a := ⟨w.heap.size, 2, none⟩) xl x2
  have lx3 := lowW_cell (a := ⟨w.heap.size, 3, none⟩) xl x3
  have ly0 := lowW_cell (a := ⟨w.heap.size + 1, 0, none⟩) yl y0
  have ly1 := lowW_cell (a := ⟨w.heap.size + 1, 1, none⟩) yl y1
  have ly2 := lowW_cell (a := ⟨w.heap.size + 1, 2, none⟩) yl y2
  have lz0 := lowW_cell (a := ⟨P, 0, none⟩) zl z0
  have lz1 := lowW_cell (a := ⟨P, 1, none⟩) zl z1
  have lz2 := lowW_cell (a := ⟨P, 2, none⟩) zl z2
  have lz3 := lowW_cell (a := ⟨P, 3, none⟩) zl z3
  have lq0 := lowW_cell (a := ⟨Q, 0, none⟩) ql q0
  have lq1 := lowW_cell (a := ⟨Q, 1, none⟩) ql q1
  have lq2 := lowW_cell (a := ⟨Q, 2, none⟩) ql q2
  have lq3 := lowW_cell (a := ⟨Q, 3, none⟩) ql q3
  have hvv : (vb == vb) = true := by cases vb <;> rfl
  clear xl x0 x1 x2 x3 yl y0 y1 y2 zl z0 z1 z2 z3 ql q0 q1 q2 q3
  by_cases h0 : E = 0
  · have HVS := Lib.hid (HVAL.out h0)
    subst h0
    refine wp_region_low (by kernel_rfl) (by kernel_rfl) ?_
    repeat (refine wq_step (fun K hK => ?_); go_simp; first | (refine hK _ ?_; clear hK K) | (apply Exists.intro; refine ⟨fun _ => ?_, hK _ ?_⟩; (first
      | (go_at_call 89; exact Calls.low_of (kvalidn_any T C _ (HW2.out.t.low (lowW_low _ _ _)) (HW2.out.c.low (lowW_low _ _ _)) HVB.out))
      | (go_at_call 90; exact Calls.low_of (rvalidn7_any T C _ (HW2.out.t.low (lowW_low _ _ _)) (HW2.out.c.low (lowW_low _ _ _)) HVB.out))
      | (go_at_call 42; exact Calls.low_of (sameTn_any S V _ (HW2.out.s.low (lowW_low _ _ _)) (HV2.out.low (lowW_low _ _ _)) HSAME.out))
      | (go_at_call 72; exact Calls.low_of (tvalidn_any S _ (HW2.out.s.low (lowW_low _ _ _)) HVS.out))); clear hK K))
    refine wq_nil ?_
    rintro _ ⟨⟨d7, os7⟩, rfl⟩
    dsimp only
    have HBE := Lib.hid (below_next HW2.out.bel (lowW_low W2 d7 os7))
    clear lx0 lx1 lx2 lx3 ly0 ly1 ly2 lz0 lz1 lz2 lz3 lq0 lq1 lq2 lq3
    go_wp2
    go_ret
    exact ⟨rfl, HBE.out⟩
  · have hne : (E != 0) = true := bne_iff_ne.2 h0
    have hEE : (E == E) = true := by simp
    refine wp_region_low (by kernel_rfl) (by kernel_rfl) ?_
    repeat (refine wq_step (fun K hK => ?_); go_simp; first | (refine hK _ ?_; clear hK K) | (apply Exists.intro; refine ⟨fun _ => ?_, hK _ ?_⟩; (first
      | (go_at_call 89; exact Calls.low_of (kvalidn_any T C _ (HW2.out.t.low (lowW_low _ _ _)) (HW2.out.c.low (lowW_low _ _ _)) HVB.out))
      | (go_at_call 90; exact Calls.low_of (rvalidn7_any T C _ (HW2.out.t.low (lowW_low _ _ _)) (HW2.out.c.low (lowW_low _ _ _)) HVB.out))
      | (go_at_call 42; exact Calls.low_of (sameTn_any S V _ (HW2.out.s.low (lowW_low _ _ _)) (HV2.out.low (lowW_low _ _ _)) HSAME.out))); clear hK K))
    refine wq_nil ?_
    rintro _ ⟨⟨d7, os7⟩, rfl⟩
    dsimp only
    have HBE := Lib.hid (below_next HW2.out.bel (lowW_low W2 d7 os7))
    clear lx0 lx1 lx2 lx3 ly0 ly1 ly2 lz0 lz1 lz2 lz3 lq0 lq1 lq2 lq3
    go_wp2
    go_ret
    exact ⟨rfl, HBE.out⟩
end Go.Proofs.YtgaihglploedaaaDoor
/-
  Append of another's slice, nil or not, to a row of the call's own.
-/
namespace Go.Proofs.YtgaihglploedaaaDoor
set_option maxRecDepth 100000
open Go.RowKit

theorem run_append_nil7 {P : Program} {w : World} (base : Nat) (t ty e : TypeId) (i : TypeInfo) (size : Nat) (ht : P.underlying t = some (.slice e)) (hi : P.info? e = some i)
    (v : Value) (n c : Nat) (xs : List Value) (hown : w.ownsRow base e size v n xs) :
    (Builtin.append_ #[t, t] ty #[v, .slice none 0 c]).run P w = .ok v w := by
  rcases hown.2 with ⟨rfl, rfl⟩ | ⟨g, cap, cur, rfl, _, _, hnc, _⟩
  · simp [Builtin.append_, run_underlying ht, sizeOf, typeInfo, hi, Builtin.lenOf, Builtin.firstCells]
  · simp [Builtin.append_, run_underlying ht, sizeOf, typeInfo, hi, Builtin.lenOf, Builtin.firstCells, hnc, storeCells]
/-- Append of another's slice, nil or not, to a row of the call's own. -/
theorem wpList_append_any {w : World} {ops : Array Oper} {rest : List Oper} {o : Oper} {a : Act} {Q : Exit → Act → World → Prop} (hgd : o.guard = none) (s x : Operand) (t e : TypeId)
    (ho : o.op = .call { callee := .builtin .append, args := #[s, x], argTypes := #[t, t] })
    (base : Nat) (i0 : TypeInfo) (z : Value) (size bytes : Nat) (ht : Tryd.prog.underlying t = some (.slice e)) (hi : Tryd.prog.info? e = some i0) (hz0 : i0.zero = some z) (hz1 : i0.size = size) (hz2 : i0.bytes = bytes) (hzs : z.cells.size = size) (hsz : 0 < size) (v : Value) (n : Nat) (xs : List Value) (hs : a.eval s = v) (hown : w.ownsRow base e size v n xs)
    (px : Option Addr) (m cx : Nat) (ys : List Value) (hx : a.eval x = .slice px m cx) (hl : ys.length = m * size) (hsrc : ∀ ad, px = some ad → ∀ j u, ys[j]? = some u → w.cell? (ad.add j) = some u) (hnil : px = none → ys = []) (h1 : ∀ u ∈ ys, u.oneCell' = true) (h63 : n + m ≤ maxLen) (hsum : (n + m) * bytes ≤ 140737488355328) (hbase : base ≤ w.heap.size)
    (h : ∀ v' w', w'.ownsRow base e size v' (n + m) (xs ++ ys) → w.grownBy w' v.ownBlock → wpList Tryd.prog ops Q rest (a.put o.dst v') w') : wpList Tryd.prog ops Q (o :: rest) a w := by
  cases px with
  | none =>
    obtain rfl := hnil rfl
    obtain rfl : m = 0 := by
      rw [List.length_nil] at hl
      rcases Nat.mul_eq_zero.1 hl.symm with h0 | h0
      · exact h0
      · omega
    refine wpList_plain hgd fun K hK => ?_
    have hrun := run_append_nil7 (P := Tryd.prog) (w := w) base t o.type e i0 size ht hi v n cx xs hown
    unfold Oper.wp
    simp [execOp, ho, resolve, invoke, builtin, hs, hx, hrun, Result.andThen]
    exact hK _ _ (h v w (by simpa using hown) (World.grownBy.refl w _))
  | some ad =>
    refine wpList_append_own w hgd s x t ho base e i0 z size bytes ht hi hz0 hz1 hz2 hzs hsz v n xs hs hown ad m cx ys hx hl (hsrc ad rfl) h1 h63 hsum hbase ?_
    intro v' w' h1 h2 _
    exact h v' w' h1 h2
theorem step_append_any {w : World} {ops : Array Oper} {o : Oper} {a : Act} {K : Act → World → Prop} {Q : Exit → Act → World → Prop} {E : Prop} (hgd : o.guard = none) (s x : Operand) (t e : TypeId)
    (ho : o.op = .call { callee := .builtin .append, args := #[s, x], argTypes := #[t, t] })
    (base : Nat) (i0 : TypeInfo) (z : Value) (size bytes : Nat) (ht : Tryd.prog.underlying t = some (.slice e)) (hi : Tryd.prog.info? e = some i0) (hz0 : i0.zero = some z) (hz1 : i0.size = size) (hz2 : i0.bytes = bytes) (hzs : z.cells.size = size) (hsz : 0 < size) (v : Value) (n : Nat) (xs : List Value) (hs : a.eval s = v) (hown : w.ownsRow base e size v n xs)
    (px : Option Addr) (m cx : Nat) (ys : List Value) (hx : a.eval x = .slice px m cx) (hl : ys.length = m * size) (hsrc : ∀ ad, px = some ad → ∀ j u, ys[j]? = some u → w.cell? (ad.add j) = some u) (hnil : px = none → ys = []) (h1 : ∀ u ∈ ys, u.oneCell' = true) (h63 : n + m ≤ maxLen) (hsum : (n + m) * bytes ≤ 140737488355328) (hbase : base ≤ w.heap.size)
    (h : ∀ v' w', w'.ownsRow base e size v' (n + m) (xs ++ ys) → w.grownBy w' v.ownBlock → K (a.put o.dst v') w') : if Region.wanted o (yielded ops a.tmps) = true then Oper.wp Tryd.prog o a w K Q else E := by
  refine step_of hgd ?_
  cases px with
  | none =>
    obtain rfl := hnil rfl
    obtain rfl : m = 0 := by
      rw [List.length_nil] at hl
      rcases Nat.mul_eq_zero.1 hl.symm with h0 | h0
      · exact h0
      · omega
    have hrun := run_append_nil7 (P := Tryd.prog) (w := w) base t o.type e i0 size ht hi v n cx xs hown
    unfold Oper.wp
    simp [execOp, ho, resolve, invoke, builtin, hs, hx, hrun, Result.andThen]
    exact h v w (by simpa using hown) (World.grownBy.refl w _)
  | some ad =>
    refine wp_append_own w s x t ho base e i0 z size bytes ht hi hz0 hz1 hz2 hzs hsz v n xs hs hown ad m cx ys hx hl (hsrc ad rfl) h1 h63 hsum hbase ?_
    intro v' w' h1 h2 _
    exact h v' w' h1 h2
end Go.Proofs.YtgaihglploedaaaDoor
/-
  A change whose lists are copied: pairs and rows of another's memory in a list of one's own.
-/
namespace Go.Proofs.YtgaihglploedaaaDoor
set_option maxRecDepth 100000
open Go.RowKit
variable {ls : List Nat}

/-- A slice value that holds these values. -/
def Holds (v : World) (x : Value × List Val) : Prop := ∃ (q : Option Addr) (c : Nat), x.1 = .slice q x.2.length c ∧ RowAt v q x.2 ∧ x.2.length * 32 ≤ 140737488355328 ∧ (q = none → x.2 = [] ∧ c = 0)
theorem Holds.low {u v : World} {x : Value × List Val} (h : Holds u x) (hb : Below u.heap.size u v) : Holds v x := by
  obtain ⟨q, c, h1, h2, h3, h4⟩ := h
  exact ⟨q, c, h1, h2.low hb, h3, h4⟩
theorem Holds.nil (v : World) : Holds v (.slice none 0 0, []) := ⟨none, 0, rfl, fun i hi => by simp at hi, by simp, fun _ => ⟨rfl, rfl⟩⟩
theorem Holds.one {v : World} {x : Value × List Val} (h : Holds v x) : x.1.oneCell' = true := by
  obtain ⟨q, c, h1, -⟩ := h
  rw [h1]; rfl
abbrev unP (p : GPair) : PRow := (p.1, p.2.1.2, p.2.2.2)
theorem pairsAt_own {base : Nat} {v : World} {p : Option Addr} {n c : Nat} {P : List GPair} (h : v.ownsRow base 86 3 (.slice p n c) P.length (pcells P)) (hG : ∀ x ∈ P, Holds v x.2.1 ∧ Holds v x.2.2) : PairsAt v p (P.map unP) := by
  intro i hi
  have hi' : i < P.length := by rw [List.length_map] at hi; exact hi
  obtain ⟨⟨q, cq, hx, hr, hl, hq⟩, ⟨q', cq', hx', hr', hl', hq'⟩⟩ := hG _ (List.getElem_mem hi')
  obtain ⟨e0, e1, e2⟩ := pcells_at P i hi'
  obtain ⟨b, hp, hc, k0⟩ := own_cell h e0
  obtain ⟨b', hp', -, k1⟩ := own_cell h e1
  rw [hp] at hp'
  cases hp'
  obtain ⟨b', hp', -, k2⟩ := own_cell h e2
  rw [hp] at hp'
  cases hp'
  have e : pAt (P.map unP) i = unP P[i] := by rw [pAt_get hi, List.getElem_map]
  rw [e]
  exact ⟨b, 0, q, cq, q', cq', hp, hc, k0, by rw [← hx]; exact k1, by rw [← hx']; exact k2, hr, hr', hl, hl', hq, hq'⟩
theorem numAt_own {base : Nat} {v : World} {p : Option Addr} {n c : Nat} {D : List Int} (h : v.ownsRow base 3 1 (.slice p n c) D.length (icells D)) : NumAt v p D := by
  intro i hi
  obtain ⟨b, hp, hc, hcell⟩ := own_cell h (i := i) (x := .int .i64 (iAt D i)) (by unfold icells; rw [List.getElem?_map, List.getElem?_eq_getElem hi, iAt_get hi]; rfl)
  exact ⟨b, 0, hp, hc, hcell⟩
theorem rowsAt_own {base : Nat} {v : World} {p : Option Addr} {n c : Nat} {G : List (Value × List Val)} (h : v.ownsRow base 25 1 (.slice p n c) G.length (G.map (·.1))) (hG : ∀ x ∈ G, Holds v x) : RowsAt v p (G.map (·.2)) := by
  intro i hi
  have hi' : i < G.length := by rw [List.length_map] at hi; exact hi
  obtain ⟨q, cq, hx, hr, hl, hq⟩ := hG _ (List.getElem_mem hi')
  obtain ⟨b, hp, hc, hcell⟩ := own_cell h (i := i) (x := G[i].1) (by simp [hi'])
  have e : rAt (G.map (·.2)) i = G[i].2 := by rw [rAt_get hi, List.getElem_map]
  rw [e]
  exact ⟨b, 0, q, cq, hp, hc, by rw [← hx]; exact hcell, hr, hl, hq⟩
/-- The pairs of a change that the tape leaves alone, as values. -/
theorem pairs_list {b : Nat} {w : World} {pu : Option Addr} {U : List PRow} (HP : ∀ v, StepT b w v → PairsAt v pu U) : ∀ m, m ≤ U.length → ∃ P : List GPair, P.length = m ∧ P.map unP = U.take m ∧
    (∀ v, StepT b w v → ∀ x ∈ P, Holds v x.2.1 ∧ Holds v x.2.2) ∧
    (∀ v, StepT b w v → ∀ i (hi : i < P.length), ∃ c o, pu = some ⟨c, o, none⟩ ∧ v.cell? ⟨c, o + i * 3, none⟩ = some (.int .i64 P[i].1) ∧ v.cell? ⟨c, o + i * 3 + 1, none⟩ = some P[i].2.1.1 ∧ v.cell? ⟨c, o + i * 3 + 2, none⟩ = some P[i].2.2.1) := by
  intro m
  induction m with
  | zero => intro _; exact ⟨[], rfl, rfl, fun _ _ x hx => (by cases hx), fun _ _ i hi => (by simp at hi)⟩
  | succ m ih =>
    intro hm
    obtain ⟨P, hP, hU, hG, hC⟩ := ih (by omega)
    have hmU : m < U.length := by omega
    obtain ⟨c, o, q, cq, r, cr, hp, hc, h0, h1, h2, -, -, hl1, hl2, hq, hr⟩ := HP w (StepT.refl b w) m hmU
    subst hp
    have hcb : c ≠ b := fun e => by
      subst e
      obtain ⟨c', o', q', cq', r', cr', hp', -, k0, -⟩ := HP _ (bare_step c w) m hmU
      cases hp'
      exact bare_cell k0
    have hrow : ∀ v, StepT b w v → RowAt v q (pAt U m).2.1 ∧ RowAt v r (pAt U m).2.2 := fun v hv => by
      obtain ⟨c', o', q', cq', r', cr', hp', -, -, k1, k2, hr1, hr2, -⟩ := HP v hv m hmU
      cases hp'
      rw [hv.cell (by exact hc) (by exact hcb), h1] at k1
      rw [hv.cell (by exact hc) (by exact hcb), h2] at k2
      injection k1 with k1
      injection k1 with e1
      injection k2 with k2
      injection k2 with e2
      subst e1 e2
      exact ⟨hr1, hr2⟩
    refine ⟨P ++ [((pAt U m).1, (.slice q (pAt U m).2.1.length cq, (pAt U m).2.1), (.slice r (pAt U m).2.2.length cr, (pAt U m).2.2))], by rw [List.length_append, hP]; rfl, ?_, ?_, ?_⟩
    · rw [List.map_append, hU, List.take_add_one, List.getElem?_eq_getElem hmU, ← pAt_get hmU]
      rfl
    · intro v hv x hx
      rcases List.mem_append.1 hx with hx | hx
      · exact hG v hv x hx
      · obtain rfl := List.mem_singleton.1 hx
        exact ⟨⟨q, cq, rfl, (hrow v hv).1, hl1, hq⟩, ⟨r, cr, rfl, (hrow v hv).2, hl2, hr⟩⟩
    · intro v hv i hi
      by_cases him : i < P.length
      · obtain ⟨c', o', hp', k0, k1, k2⟩ := hC v hv i him
        rw [List.getElem_append_left him]
        exact ⟨c', o', hp', k0, k1, k2⟩
      · have : i = m := by rw [List.length_append, hP] at hi; simp at hi; omega
        subst this
        rw [List.getElem_append_right (by omega)]
        simp only [hP, Nat.sub_self, List.getElem_cons_zero]
        exact ⟨c, o, rfl, by rw [hv.cell (by exact hc) (by exact hcb)]; exact h0, by rw [hv.cell (by exact hc) (by exact hcb)]; exact h1, by rw [hv.cell (by exact hc) (by exact hcb)]; exact h2⟩
theorem pairs_news {v : World} {pu : Option Addr} {P : List GPair} (h : ∀ i (hi : i < P.length), ∃ c o, pu = some ⟨c, o, none⟩ ∧ v.cell? ⟨c, o + i * 3, none⟩ = some (.int .i64 P[i].1) ∧ v.cell? ⟨c, o + i * 3 + 1, none⟩ = some P[i].2.1.1 ∧ v.cell? ⟨c, o + i * 3 + 2, none⟩ = some P[i].2.2.1) (ad : Addr) (hp : pu = some ad) :
    ∀ j y, (pcells P)[j]? = some y → v.cell? (ad.add j) = some y := by
  intro j y hj
  have hlt := (List.getElem?_eq_some_iff.1 hj).1
  rw [pcells_length] at hlt
  obtain ⟨i, k, hk, rfl⟩ : ∃ i k, k < 3 ∧ j = i * 3 + k := ⟨j / 3, j % 3, Nat.mod_lt _ (by decide), by omega⟩
  have hi : i < P.length := by omega
  obtain ⟨c, o, hpu, k0, k1, k2⟩ := h i hi
  rw [hp] at hpu
  cases hpu
  obtain ⟨e0, e1, e2⟩ := pcells_at P i hi
  have hadd : ∀ m, (⟨c, o, none⟩ : Addr).add m = ⟨c, o + m, none⟩ := fun m => by unfold Addr.add; split <;> simp_all
  rw [hadd]
  obtain rfl | rfl | rfl : k = 0 ∨ k = 1 ∨ k = 2 := by omega
  · rw [Nat.add_zero] at hj ⊢
    rw [e0] at hj
    rw [k0]; exact hj
  · rw [e1] at hj
    rw [← Nat.add_assoc, k1]; exact hj
  · rw [e2] at hj
    rw [← Nat.add_assoc, k2]; exact hj
theorem pcells_one {v : World} {P : List GPair} (h : ∀ x ∈ P, Holds v x.2.1 ∧ Holds v x.2.2) : ∀ y ∈ pcells P, y.oneCell' = true := by
  intro y hy
  unfold pcells at hy
  obtain ⟨x, hx, hy⟩ := List.mem_flatMap.1 hy
  obtain ⟨h1, h2⟩ := h x hx
  simp only [List.mem_cons, List.not_mem_nil, or_false] at hy
  rcases hy with rfl | rfl | rfl
  · rfl
  · exact h1.one
  · exact h2.one
theorem nums_news {v : World} {p : Option Addr} {D : List Int} (h : NumAt v p D) (ad : Addr) (hp : p = some ad) : ∀ j y, (icells D)[j]? = some y → v.cell? (ad.add j) = some y := by
  intro j y hj
  unfold icells at hj
  rw [List.getElem?_map] at hj
  by_cases hlt : j < D.length
  · obtain ⟨c, o, hp', hc, hcell⟩ := h j hlt
    rw [hp] at hp'
    cases hp'
    have hadd : (⟨c, o, none⟩ : Addr).add j = ⟨c, o + j, none⟩ := by unfold Addr.add; split <;> simp_all
    rw [hadd, hcell, ← hj, List.getElem?_eq_getElem hlt, iAt_get hlt]
    rfl
  · rw [List.getElem?_eq_none (by omega)] at hj
    cases hj
theorem nums_nil {v : World} {p : Option Addr} {D : List Int} (h : NumAt v p D) (hp : p = none) : icells D = [] := by
  cases D with
  | nil => rfl
  | cons z D => obtain ⟨c, o, hp', -⟩ := h 0 (Nat.succ_pos _); rw [hp] at hp'; cases hp'
theorem icells_one (D : List Int) : ∀ u ∈ icells D, u.oneCell' = true := by
  intro u hu
  obtain ⟨z, -, rfl⟩ := List.mem_map.1 hu
  rfl
theorem iowns_empty (w : World) : (w.alloc (.cells #[] 3)).ownsRow w.heap.size 3 1 (.slice (some ⟨w.heap.size, 0, none⟩) 0 0) 0 (icells []) := by
  refine ⟨rfl, Or.inr ⟨w.heap.size, 0, #[], rfl, Nat.le_refl _, ?_, Nat.le_refl _, by decide, rfl, rfl⟩⟩
  show (w.heap.push _)[w.heap.size]? = _
  simp
theorem powns_empty (w : World) : (w.alloc (.cells #[] 86)).ownsRow w.heap.size 86 3 (.slice (some ⟨w.heap.size, 0, none⟩) 0 0) 0 (pcells []) := by
  refine ⟨rfl, Or.inr ⟨w.heap.size, 0, #[], rfl, Nat.le_refl _, ?_, Nat.le_refl _, by decide, rfl, rfl⟩⟩
  show (w.heap.push _)[w.heap.size]? = _
  simp
/-- The rows of a change that the tape leaves alone, as values. -/
theorem rows_list {b : Nat} {w : World} {pi : Option Addr} {I : List (List Val)} (HP : ∀ v, StepT b w v → RowsAt v pi I) : ∀ m, m ≤ I.length → ∃ G : List (Value × List Val), G.length = m ∧ G.map (·.2) = I.take m ∧
    (∀ v, StepT b w v → ∀ x ∈ G, Holds v x) ∧
    (∀ v, StepT b w v → ∀ i (hi : i < G.length), ∃ c o, pi = some ⟨c, o, none⟩ ∧ v.cell? ⟨c, o + i, none⟩ = some G[i].1) := by
  intro m
  induction m with
  | zero => intro _; exact ⟨[], rfl, rfl, fun _ _ x hx => (by cases hx), fun _ _ i hi => (by simp at hi)⟩
  | succ m ih =>
    intro hm
    obtain ⟨G, hG, hI, hH, hC⟩ := ih (by omega)
    have hmI : m < I.length := by omega
    obtain ⟨c, o, q, cq, hp, hc, h0, -, hl, hq⟩ := HP w (StepT.refl b w) m hmI
    subst hp
    have hcb : c ≠ b := fun e => by
      subst e
      obtain ⟨c', o', q', cq', hp', -, k0, -⟩ := HP _ (bare_step c w) m hmI
      cases hp'
      exact bare_cell k0
    have hrow : ∀ v, StepT b w v → RowAt v q (rAt I m) := fun v hv => by
      obtain ⟨c', o', q', cq', hp', -, k0, hr, -⟩ := HP v hv m hmI
      cases hp'
      rw [hv.cell (by exact hc) (by exact hcb), h0] at k0
      injection k0 with k0
      injection k0 with e1
      subst e1
      exact hr
    refine ⟨G ++ [(.slice q (rAt I m).length cq, rAt I m)], by rw [List.length_append, hG]; rfl, ?_, ?_, ?_⟩
    · rw [List.map_append, hI, List.take_add_one, List.getElem?_eq_getElem hmI, ← rAt_get hmI]
      rfl
    · intro v hv x hx
      rcases List.mem_append.1 hx with hx | hx
      · exact hH v hv x hx
      · obtain rfl := List.mem_singleton.1 hx
        exact ⟨q, cq, rfl, hrow v hv, hl, hq⟩
    · intro v hv i hi
      by_cases him : i < G.length
      · obtain ⟨c', o', hp', k0⟩ := hC v hv i him
        rw [List.getElem_append_left him]
        exact ⟨c', o', hp', k0⟩
      · have : i = m := by rw [List.length_append, hG] at hi; simp at hi; omega
        subst this
        rw [List.getElem_append_right (by omega)]
        simp only [hG, Nat.sub_self, List.getElem_cons_zero]
        exact ⟨c, o, rfl, by rw [hv.cell (by exact hc) (by exact hcb)]; exact h0⟩
theorem rows_news {v : World} {pi : Option Addr} {G : List (Value × List Val)} (h : ∀ i (hi : i < G.length), ∃ c o, pi = some ⟨c, o, none⟩ ∧ v.cell? ⟨c, o + i, none⟩ = some G[i].1) (ad : Addr) (hp : pi = some ad) :
    ∀ j y, (G.map (·.1))[j]? = some y → v.cell? (ad.add j) = some y := by
  intro j y hj
  have hlt := (List.getElem?_eq_some_iff.1 hj).1
  rw [List.length_map] at hlt
  obtain ⟨c, o, hpi, k0⟩ := h j hlt
  rw [hp] at hpi
  cases hpi
  have hadd : (⟨c, o, none⟩ : Addr).add j = ⟨c, o + j, none⟩ := by unfold Addr.add; split <;> simp_all
  rw [hadd, k0, ← hj, List.getElem?_map, List.getElem?_eq_getElem hlt]
  rfl
theorem rows_nil {v : World} {pi : Option Addr} {G : List (Value × List Val)} (h : ∀ i (hi : i < G.length), ∃ c o, pi = some ⟨c, o, none⟩ ∧ v.cell? ⟨c, o + i, none⟩ = some G[i].1) (hp : pi = none) : G.map (·.1) = [] := by
  cases G with
  | nil => rfl
  | cons x G => obtain ⟨c, o, hp', -⟩ := h 0 (Nat.succ_pos _); rw [hp] at hp'; cases hp'
theorem rows_one {v : World} {G : List (Value × List Val)} (h : ∀ x ∈ G, Holds v x) : ∀ y ∈ G.map (·.1), y.oneCell' = true := by
  intro y hy
  obtain ⟨x, hx, rfl⟩ := List.mem_map.1 hy
  exact (h x hx).one
theorem rowns_empty (w : World) : (w.alloc (.cells #[] 25)).ownsRow w.heap.size 25 1 (.slice (some ⟨w.heap.size, 0, none⟩) 0 0) 0 [] := by
  refine ⟨rfl, Or.inr ⟨w.heap.size, 0, #[], rfl, Nat.le_refl _, ?_, Nat.le_refl _, by decide, rfl, rfl⟩⟩
  show (w.heap.push _)[w.heap.size]? = _
  simp
theorem holds_zero (w : World) : Holds (w.alloc (.cells #[.int .i64 0, .int .i64 0, .string ⟨#[]⟩] 34)) (.slice (some ⟨w.heap.size, 0, none⟩) 1 1, [(0, 0, ⟨#[]⟩)]) := by
  refine ⟨some ⟨w.heap.size, 0, none⟩, 1, rfl, fun i hi => ?_, (by show 1 * 32 ≤ 140737488355328; omega), fun e => by cases e⟩
  obtain rfl : i = 0 := by simpa using hi
  have h := cell3_new w (.int .i64 0) (.int .i64 0) (.string ⟨#[]⟩) 34
  exact ⟨w.heap.size, 0, rfl, h.lt, h.c0, h.c1, h.c2⟩
theorem Holds.keepB {u v : World} {q : Addr} {n c : Nat} {l : List Val} (h : Holds u (.slice (some q) n c, l)) (hz : u.heap.size ≤ v.heap.size) (hk : v.heap[q.block]? = u.heap[q.block]?) : Holds v (.slice (some q) n c, l) := by
  obtain ⟨q', c', h1, h2, h3, h4⟩ := h
  injection h1 with e1 e2 e3
  subst e1
  exact ⟨some q, c', by rw [e2, e3], h2.keep hz fun a ha => by cases ha; exact hk, h3, h4⟩
theorem own_setCell {u : World} {base n size g m c j : Nat} {e : TypeId} {xs : List Value} (h : u.ownsRow base e size (.slice (some ⟨g, 0, none⟩) m c) n xs) (y : Value) :
    (u.setCell ⟨g, j, none⟩ y).ownsRow base e size (.slice (some ⟨g, 0, none⟩) m c) n (xs.set j y) := by
  rcases h.2 with ⟨hv, h0⟩ | ⟨g', cap', cur, hv, hg, hh, hcap, hm, hcur, htake⟩
  · cases hv
  · injection hv with h1 h2 h3
    injection h1 with h1
    injection h1 with h1
    subst h1 h2 h3
    refine ⟨by rw [List.length_set]; exact h.1, .inr ⟨g, c, _, rfl, hg, heap_setCell_same _ _ _ _ _ _ hh, hcap, hm, by simp [hcur], ?_⟩⟩
    rw [← htake]
    simp [List.take_set]
theorem pcells_set (P : List GPair) (i : Nat) (hi : i < P.length) (y : Value × List Val) : (pcells P).set (i * 3 + 1) y.1 = pcells (P.set i (P[i].1, y, P[i].2.2)) := by
  induction P generalizing i with
  | nil => simp at hi
  | cons x P ih =>
    have e : ∀ x : GPair, ∀ P, pcells (x :: P) = .int .i64 x.1 :: x.2.1.1 :: x.2.2.1 :: pcells P := fun _ _ => rfl
    cases i with
    | zero => rw [e]; rfl
    | succ i =>
      rw [List.length_cons] at hi
      have := ih i (by omega)
      rw [e, show (i + 1) * 3 + 1 = i * 3 + 1 + 1 + 1 + 1 by omega, List.set_cons_succ, List.set_cons_succ, List.set_cons_succ, this]
      rfl
theorem own_frozen {u : World} {base n size g m c : Nat} {e : TypeId} {xs : List Value} (h : u.ownsRow base e size (.slice (some ⟨g, 0, none⟩) m c) n xs) (o : Nat) : u.frozen? ⟨g, o, none⟩ = false := by
  rcases h.2 with ⟨hv, h0⟩ | ⟨g', cap', cur, hv, hg, hh, -⟩
  · cases hv
  · injection hv with h1 h2 h3
    injection h1 with h1
    injection h1 with h1
    subst h1
    simp [World.frozen?, hh]
end Go.Proofs.YtgaihglploedaaaDoor
/-
  A drawn region whose operations make memory, and some of which, late ones, write memory of the call's own: each operation is shown once, from the facts of those that it waits for; no orders are told apart.
-/
namespace Go.Proofs.YtgaihglploedaaaDoor
set_option maxRecDepth 100000
open Go.RowKit

/-- What a region's plan must meet: no guards; each fact is used where it stands. -/
def lateB (l : List Oper) (use sl : List (List Nat)) (live : List (List Nat)) (late : List Nat) : Bool :=
  let n := l.length
  let ops := l.toArray
  l.all (fun o => o.guard.isNone) &&
  (List.range n).all fun i =>
    (match l[i]? with | some o => o.after.all (fun e => !Region.binds .any e || decide (e.on < i)) | none => true) &&
    (use.getD i []).all (fun k => reach ops n i k && (late.all fun t => (live.getD k []).contains t || reach ops n t i || t == i || t == k || reach ops n k t)) &&
    (List.range n).all fun j => i == j || reach ops n j i || (match (l[i]?).bind (·.dst) with | some d => !(sl.getD j []).contains d | none => true)
section
variable {P : Program} {l : List Oper} {Q : Exit → Act → World → Prop} {a0 : Act} {w0 : World} (use sl : List (List Nat)) (live : List (List Nat)) (late brk : List Nat) (B : Nat) (J : World → Prop) (Φ : Nat → (Nat → Value) → World → Prop)
/-- What is known of a state in the midst of the region. -/
structure LateAt (l : List Oper) (a0 : Act) (w0 : World) (live : List (List Nat)) (late brk : List Nat) (B : Nat) (J : World → Prop) (Φ : Nat → (Nat → Value) → World → Prop) (listed : Array Bool) (a : Act) (w : World) : Prop where
  size : listed.size = l.length
  shut : Shut l.toArray listed
  tmps : a.tmps.size = a0.tmps.size
  defs : a.defers = a0.defers
  old : ∀ s, (∀ o ∈ l, o.dst ≠ some s) → slotF a s = slotF a0 s
  low : Below B w0 w
  grow : w0.heap.size ≤ w.heap.size
  inv : (∀ t ∈ brk, listed.getD t false = false) → J w
  fact : ∀ i, listed.getD i false = true → (∀ t ∈ late, listed.getD t false = true → (live.getD i []).contains t = true ∨ t = i ∨ reach l.toArray l.length i t = true) → Φ i (slotF a) w
theorem wpAny_late {listed : Array Bool} {a : Act} {w : World} (hB : lateB l use sl live late = true) (hBw : B ≤ w0.heap.size) (hJ : ∀ w w', J w → Below w.heap.size w w' → J w')
    (hstab : ∀ j f g w w', (∀ s ∈ sl.getD j [], g s = f s) → Below w.heap.size w w' → Φ j f w → Φ j g w')
    (hstep : ∀ i o, l[i]? = some o → i ∉ late → ∀ a w, a.tmps.size = a0.tmps.size → (∀ s, (∀ o ∈ l, o.dst ≠ some s) → slotF a s = slotF a0 s) → Below B w0 w → w0.heap.size ≤ w.heap.size → ((brk.all fun t => reach l.toArray l.length t i) = true → J w) → (∀ k ∈ use.getD i [], Φ k (slotF a) w) →
      Oper.wp P o a w (fun a' w' => ∃ v, a' = a.put o.dst v ∧ Below w.heap.size w w' ∧ Φ i (slotF a') w') Q)
    (hlate : ∀ i o, l[i]? = some o → i ∈ late → ∀ a w, a.tmps.size = a0.tmps.size → (∀ s, (∀ o ∈ l, o.dst ≠ some s) → slotF a s = slotF a0 s) → Below B w0 w → w0.heap.size ≤ w.heap.size → ((brk.all fun t => reach l.toArray l.length t i || t == i) = true → J w) → (∀ k ∈ use.getD i [], Φ k (slotF a) w) →
      Oper.wp P o a w (fun a' w' => ∃ v, a' = a.put o.dst v ∧ w.heap.size ≤ w'.heap.size ∧ Below B w0 w' ∧ Φ i (slotF a') w' ∧ (i ∉ brk → J w') ∧ ∀ j, j ≠ i → (live.getD j []).contains i = true → reach l.toArray l.length j i = false → (∀ s ∈ sl.getD j [], slotF a' s = slotF a s) → Φ j (slotF a) w → Φ j (slotF a') w') Q)
    (hend : ∀ (f : Nat → Value) w, Below B w0 w → (∀ i, i < l.length → (late.all fun t => (live.getD i []).contains t || t == i || reach l.toArray l.length i t) = true → Φ i f w) → Q .normal (putAll l f a0) w) :
    ∀ (fuel : Nat), (listed.toList.count false ≤ fuel) → LateAt l a0 w0 live late brk B J Φ listed a w → wpAny P .any l.toArray Q fuel listed a w := by
  intro fuel
  unfold lateB at hB
  simp only [Bool.and_eq_true, List.all_eq_true, List.mem_range, Bool.or_eq_true] at hB
  obtain ⟨hg, hB⟩ := hB
  have hdone : ∀ (listed : Array Bool) (a : Act) (w : World), LateAt l a0 w0 live late brk B J Φ listed a w → (∀ i, i < l.length → listed.getD i false = true) → Q .normal a w := by
    intro listed a w h hall
    have he : a = putAll l (slotF a) a0 := by
      have hz := putAll_size l (slotF a) a0
      refine act_eq (h.tmps.trans hz.1.symm) (h.defs.trans hz.2.symm) fun s hs => ?_
      rw [putAll_slot _ _ _ _ (by rw [← h.tmps]; exact hs)]
      split
      · rfl
      · rename_i hno
        exact h.old s fun o ho hd => hno ⟨o, ho, hd⟩
    rw [he]
    refine hend (slotF a) w h.low (fun i hi' hl => h.fact i (hall i hi') ?_)
    intro t ht _
    have := List.all_eq_true.1 hl t ht
    rw [Bool.or_eq_true, Bool.or_eq_true] at this
    rcases this with (h1 | h1) | h1
    · exact .inl h1
    · exact .inr (.inl (beq_iff_eq.1 h1))
    · exact .inr (.inr h1)
  have hmem : ∀ (listed : Array Bool), listed.size = l.length → ∀ i, i < l.length → listed.getD i true = listed.getD i false := by
    intro listed hz i hi
    simp [show i < listed.size by omega]
  have hready : ∀ (listed : Array Bool), listed.size = l.length → Region.ready .any l.toArray listed = [] → ∀ i, i < l.length → listed.getD i false = true := by
    intro listed hz hr i
    induction i using Nat.strongRecOn with
    | ind i ih =>
      intro hi
      cases hc : listed.getD i false with
      | true => rfl
      | false =>
        have h1 : i ∈ Region.ready .any l.toArray listed := by
          refine mem_ready.2 ⟨by rw [hmem listed hz i hi]; exact hc, l[i], by simp [hi], fun e he hb => ?_⟩
          have h2 := (hB i hi).1.1
          rw [List.getElem?_eq_getElem hi] at h2
          simp only [Array.all_eq_true'] at h2
          have h3 := h2 e he
          rw [hb] at h3
          have h4 : e.on < i := by simpa using h3
          exact ih e.on h4 (by omega)
        rw [hr] at h1
        cases h1
  induction fuel generalizing listed a w with
  | zero =>
    intro hc h
    have hall : ∀ i, i < l.length → listed.getD i false = true := by
      intro i hi
      have h0 : listed.toList.count false = 0 := by omega
      have h1 := List.count_eq_zero.1 h0
      have hi' : i < listed.size := by rw [h.size]; exact hi
      cases hv : listed[i] with
      | true => simp [hi', hv]
      | false => exact absurd (by rw [← hv]; simp) h1
    refine ⟨?_, hdone listed a w h hall⟩
    rw [List.eq_nil_iff_forall_not_mem]
    intro i hi
    obtain ⟨h1, o, ho, -⟩ := mem_ready.1 hi
    have hlt : i < l.length := by
      have := (Array.getElem?_eq_some_iff.1 ho).1
      simpa using this
    rw [hmem listed h.size i hlt, hall i hlt] at h1
    cases h1
  | succ fuel ih =>
    intro hc h
    refine ⟨fun h0 => hdone listed a w h (hready listed h.size h0), fun i hi' => ?_⟩
    obtain ⟨hun, o, ho, hdeps⟩ := mem_ready.1 hi'
    have hlt : i < l.length := by
      have := (Array.getElem?_eq_some_iff.1 ho).1
      simpa using this
    have hlo : l[i]? = some o := by simpa using ho
    have hol : o ∈ l := List.mem_of_getElem? hlo
    have hun' : listed.getD i false = false := by rw [← hmem listed h.size i hlt]; exact hun
    have hwant : Region.wanted o (yielded l.toArray a.tmps) = true := by
      have := hg o hol
      unfold Region.wanted
      rw [Option.isNone_iff_eq_none.1 this]
    have hsl : i < listed.size := by rw [h.size]; exact hlt
    have hcnt : (listed.setIfInBounds i true).toList.count false ≤ fuel := by
      rw [Array.toList_setIfInBounds, List.count_set (by simpa using hsl)]
      have hv : listed.toList[i]'(by simpa using hsl) = false := by
        have : listed[i] = false := by simpa [hsl] using hun'
        simpa using this
      have h1 : 0 < listed.toList.count false := List.count_pos_iff.2 (by rw [← hv]; exact List.getElem_mem _)
      rw [hv]
      simp
      simp at hc h1
      omega
    have hone : ∀ t, reach l.toArray l.length t i = true → listed.getD t false = false := by
      intro t hr
      cases hs : listed.getD t false with
      | false => rfl
      | true =>
        cases hos : l.toArray[t]? with
        | none =>
          cases hn : l.length with
          | zero => omega
          | succ m => rw [hn] at hr; unfold reach at hr; rw [hos] at hr; cases hr
        | some os =>
          have := reach_listed h.shut l.length t i os hos (h.shut t os hos hs) hr
          rw [hun'] at this
          cases this
    have hfirst : (∀ t ∈ brk, reach l.toArray l.length t i = true ∨ t = i) → ∀ t ∈ brk, listed.getD t false = false := by
      intro hr t ht
      rcases hr t ht with h1 | rfl
      · exact hone t h1
      · exact hun'
    have huse : ∀ k ∈ use.getD i [], listed.getD k false = true ∧ Φ k (slotF a) w := by
      intro k hk
      obtain ⟨h1, h2⟩ := (hB i hlt).1.2 k hk
      have h3 := reach_listed h.shut l.length i k o ho hdeps h1
      refine ⟨h3, h.fact k h3 ?_⟩
      intro t ht hlt2
      rcases h2 t ht with (((h4 | h4) | h4) | h4) | h4
      · exact .inl h4
      · rw [hone t h4] at hlt2; cases hlt2
      · rw [beq_iff_eq.1 h4, hun'] at hlt2; cases hlt2
      · exact .inr (.inl (beq_iff_eq.1 h4))
      · exact .inr (.inr h4)
    have hsame : ∀ v j, j ≠ i → listed.getD j false = true → ∀ s ∈ sl.getD j [], slotF (a.put o.dst v) s = slotF a s := by
      intro v j hji hj s hs
      refine slot_put _ _ _ _ fun hd => ?_
      have hjl : j < l.length := by
        rw [← h.size]
        apply Classical.byContradiction
        intro hc'
        simp [hc'] at hj
      rcases (hB i hlt).2 j hjl with (h1 | h1) | h1
      · exact hji (beq_iff_eq.1 h1).symm
      · have hoj : l.toArray[j]? = some l[j] := by simp [hjl]
        have := reach_listed h.shut l.length j i l[j] hoj (h.shut j l[j] hoj hj) h1
        rw [hun'] at this
        cases this
      · rw [hlo] at h1
        simp only [Option.bind_some, hd] at h1
        simp at h1
        exact h1 hs
    have hshut : Shut l.toArray (listed.setIfInBounds i true) := by
      intro j oj hoj hj e he hb
      rw [listed_set hsl] at hj ⊢
      rcases hj with rfl | hj
      · rw [ho] at hoj
        cases hoj
        exact .inr (hdeps e he hb)
      · exact .inr (h.shut j oj hoj hj e he hb)
    have hnot : ∀ t, (listed.setIfInBounds i true).getD t false = false → listed.getD t false = false := by
      intro t hl
      cases hs : listed.getD t false with
      | false => rfl
      | true => rw [(listed_set hsl).2 (.inr hs)] at hl; cases hl
    have hend' : ∀ v w' (hs : w.heap.size ≤ w'.heap.size) (hlow : Below B w0 w') (hinv : (∀ t ∈ brk, (listed.setIfInBounds i true).getD t false = false) → J w')
        (hf : ∀ j, j ≠ i → listed.getD j false = true → (∀ t ∈ late, (listed.setIfInBounds i true).getD t false = true → (live.getD j []).contains t = true ∨ t = j ∨ reach l.toArray l.length j t = true) → Φ j (slotF (a.put o.dst v)) w')
        (hi0 : Φ i (slotF (a.put o.dst v)) w'),
        wpAny P .any l.toArray Q fuel (listed.setIfInBounds i true) (a.put o.dst v) w' := by
      intro v w' hs hlow hinv hf hi0
      refine ih hcnt ⟨by rw [Array.size_setIfInBounds]; exact h.size, hshut, (size_put _ _ _).trans h.tmps, (defers_put _ _ _).trans h.defs, fun s hs' => (slot_put _ _ _ _ (hs' o hol)).trans (h.old s hs'), hlow, Nat.le_trans h.grow hs, hinv, fun j hj hl => ?_⟩
      by_cases hji : j = i
      · rw [hji]; exact hi0
      · rcases (listed_set hsl).1 hj with e | hj
        · exact absurd e.symm hji
        · exact hf j hji hj hl
    have hrf : ∀ j, listed.getD j false = true → reach l.toArray l.length j i = false := by
      intro j hj
      cases hr : reach l.toArray l.length j i with
      | false => rfl
      | true => rw [hone j hr] at hj; cases hj
    unfold wpOp
    simp only [ho, hwant, if_true]
    refine .inl ?_
    by_cases hie : i ∈ late
    · refine Oper.wp_mono ?_ (hlate i o hlo hie a w h.tmps h.old h.low h.grow (fun hr => h.inv (hfirst fun t ht => by
        have := List.all_eq_true.1 hr t ht
        rw [Bool.or_eq_true] at this
        exact this.imp id fun e => beq_iff_eq.1 e)) (fun k hk => (huse k hk).2))
      rintro a' w' ⟨v, rfl, hs, hlow, hi0, hjk, hkeep⟩
      refine hend' v w' hs hlow (fun hc' => hjk fun hib => ?_) (fun j hji hj hl => ?_) hi0
      · have := hc' i hib
        rw [(listed_set hsl).2 (.inl rfl)] at this
        cases this
      · rcases hl i hie ((listed_set hsl).2 (.inl rfl)) with e | e | e
        · exact hkeep j hji e (hrf j hj) (hsame v j hji hj) (h.fact j hj fun t ht hlt2 => hl t ht ((listed_set hsl).2 (.inr hlt2)))
        · exact absurd e.symm hji
        · rw [hrf j hj] at e; cases e
    · refine Oper.wp_mono ?_ (hstep i o hlo hie a w h.tmps h.old h.low h.grow (fun hr => h.inv (hfirst fun t ht => .inl (List.all_eq_true.1 hr t ht))) fun k hk => (huse k hk).2)
      rintro a' w' ⟨v, rfl, hb, hi0⟩
      refine hend' v w' hb.size (h.low.trans (hb.mono (Nat.le_trans hBw h.grow))) (fun hc' => hJ _ _ (h.inv fun t ht => hnot t (hc' t ht)) hb) (fun j hji hj hl => ?_) hi0
      exact hstab j _ _ _ _ (hsame v j hji hj) hb (h.fact j hj fun t ht hlt2 => hl t ht ((listed_set hsl).2 (.inr hlt2)))
/-- A drawn region with late operations, over a function of slots. W: the world behind the draw. -/
theorem wp_region_late {id : Nat} {w : World} (hm : P.follows .mixedOrders = true) (W : World) (hW : w.drew = W) (hB : lateB l use sl live late = true) (hD : (l.all fun o => match o.dst with | some d => decide (d < a0.tmps.size) | none => true) = true) (hBw : B ≤ W.heap.size) (hJ0 : J W) (hJ : ∀ w w', J w → Below w.heap.size w w' → J w')
    (hstab : ∀ j f g w w', (∀ s ∈ sl.getD j [], g s = f s) → Below w.heap.size w w' → Φ j f w → Φ j g w')
    (hstep : ∀ i o, l[i]? = some o → i ∉ late → ∀ (f : Nat → Value) w, (∀ s, (l.all fun o => o.dst != some s) = true → f s = slotF a0 s) → Below B W w → W.heap.size ≤ w.heap.size → ((brk.all fun t => reach l.toArray l.length t i) = true → J w) → (∀ k ∈ use.getD i [], Φ k f w) →
      gives P (fun v w' => Below w.heap.size w w' ∧ Φ i (upF f o.dst v) w') ((execOp (evF f) o).run P w))
    (hlate : ∀ i o, l[i]? = some o → i ∈ late → ∀ (f : Nat → Value) w, (∀ s, (l.all fun o => o.dst != some s) = true → f s = slotF a0 s) → Below B W w → W.heap.size ≤ w.heap.size → ((brk.all fun t => reach l.toArray l.length t i || t == i) = true → J w) → (∀ k ∈ use.getD i [], Φ k f w) →
      gives P (fun v w' => w.heap.size ≤ w'.heap.size ∧ Below B W w' ∧ Φ i (upF f o.dst v) w' ∧ (i ∉ brk → J w') ∧ ∀ j, j ≠ i → (live.getD j []).contains i = true → reach l.toArray l.length j i = false → (∀ s ∈ sl.getD j [], upF f o.dst v s = f s) → Φ j f w → Φ j (upF f o.dst v) w') ((execOp (evF f) o).run P w))
    (hend : ∀ (f : Nat → Value) w, Below B W w → (∀ i, i < l.length → (late.all fun t => (live.getD i []).contains t || t == i || reach l.toArray l.length i t) = true → Φ i f w) → Q .normal (putAll l f a0) w) :
    (Code.region id l.toArray true).wp P Q a0 w := by
  subst hW
  rw [List.all_eq_true] at hD
  have hd : ∀ o ∈ l, ∀ (a : Act), a.tmps.size = a0.tmps.size → ∀ x, o.dst = some x → x < a.tmps.size := by
    intro o ho a ha x hx
    have := hD o ho
    rw [hx] at this
    rw [ha]
    exact of_decide_eq_true this
  have hold : ∀ a : Act, (∀ s, (∀ o ∈ l, o.dst ≠ some s) → slotF a s = slotF a0 s) → ∀ s, (l.all fun o => o.dst != some s) = true → slotF a s = slotF a0 s := by
    intro a h s hs
    rw [List.all_eq_true] at hs
    exact h s fun o ho => bne_iff_ne.1 (hs o ho)
  have hno : ∀ i, (Array.replicate l.length false).getD i false = true → False := by
    intro i h
    by_cases hi : i < l.length
    · simp [hi] at h
    · simp [hi] at h
  refine wp_region_any hm (wpAny_late (w0 := w.drew) use sl live late brk B J Φ hB hBw hJ hstab ?_ ?_ hend _ (by simp) ⟨by simp, fun j o hj h => ?_, rfl, rfl, fun s _ => rfl, Below.refl _ _, Nat.le_refl _, fun _ => hJ0, fun i h => ?_⟩)
  · intro i o hi hne a w hz ho hb hg hj hu
    refine Oper.wp_mono ?_ (wp_of_gives (Q := Q) (hstep i o hi hne (slotF a) w (hold a ho) hb hg hj hu))
    rintro a' w' ⟨v, rfl, h2, h3⟩
    refine ⟨v, rfl, h2, ?_⟩
    rw [upF_put a o.dst v (hd o (List.mem_of_getElem? hi) a hz)]
    exact h3
  · intro i o hi hin a w hz ho hb hg hj hu
    refine Oper.wp_mono ?_ (wp_of_gives (Q := Q) (hlate i o hi hin (slotF a) w (hold a ho) hb hg hj hu))
    rintro a' w' ⟨v, rfl, h2⟩
    refine ⟨v, rfl, ?_⟩
    rw [upF_put a o.dst v (hd o (List.mem_of_getElem? hi) a hz)]
    exact h2
  all_goals
    simp only [List.size_toArray] at h
    exact (hno _ h).elim
end
/-- Append of another's slice, nil or not, to a row of the call's own. -/
theorem gives_append_any {P : Program} {R : Value → World → Prop} {f : Nat → Value} {o : Oper} {w : World} (s x : Operand) (t e : TypeId)
    (ho : o.op = .call { callee := .builtin .append, args := #[s, x], argTypes := #[t, t] })
    (base : Nat) (i0 : TypeInfo) (z : Value) (size bytes : Nat) (ht : P.underlying t = some (.slice e)) (hi : P.info? e = some i0) (hz0 : i0.zero = some z) (hz1 : i0.size = size) (hz2 : i0.bytes = bytes) (hzs : z.cells.size = size) (hsz : 0 < size) (v : Value) (n : Nat) (xs : List Value) (hs : evF f s = v) (hown : w.ownsRow base e size v n xs)
    (px : Option Addr) (m cx : Nat) (ys : List Value) (hx : evF f x = .slice px m cx) (hl : ys.length = m * size) (hsrc : ∀ ad, px = some ad → ∀ j u, ys[j]? = some u → w.cell? (ad.add j) = some u) (hnil : px = none → ys = []) (h1 : ∀ u ∈ ys, u.oneCell' = true) (h63 : n + m ≤ maxLen) (hsum : (n + m) * bytes ≤ 140737488355328) (hbase : base ≤ w.heap.size)
    (h : ∀ v' w', w'.ownsRow base e size v' (n + m) (xs ++ ys) → w.grownBy w' v.ownBlock → R v' w') : gives P R ((execOp (evF f) o).run P w) := by
  cases px with
  | none =>
    obtain rfl := hnil rfl
    obtain rfl : m = 0 := by
      rw [List.length_nil] at hl
      rcases Nat.mul_eq_zero.1 hl.symm with h0 | h0
      · exact h0
      · omega
    have hrun := run_append_nil7 (P := P) (w := w) base t o.type e i0 size ht hi v n cx xs hown
    unfold execOp
    simp only [ho, resolve, invoke, builtin, Sem.run_bind, Sem.run_pure, Result.andThen_ok, List.map_toArray, List.map_cons, List.map_nil, hs, hx, hrun]
    exact h v w (by simpa using hown) (World.grownBy.refl w _)
  | some ad =>
    obtain ⟨v', w', hr, h2, h3, -⟩ := run_append_own (P := P) w base t o.type e i0 z size bytes ht hi hz0 hz1 hz2 hzs hsz v n xs hown ad m cx ys hl (hsrc ad rfl) h1 h63 hsum hbase
    unfold execOp
    simp only [ho, resolve, invoke, builtin, Sem.run_bind, Sem.run_pure, Result.andThen_ok, List.map_toArray, List.map_cons, List.map_nil, hs, hx, hr]
    exact h v' w' h2 h3
end Go.Proofs.YtgaihglploedaaaDoor
