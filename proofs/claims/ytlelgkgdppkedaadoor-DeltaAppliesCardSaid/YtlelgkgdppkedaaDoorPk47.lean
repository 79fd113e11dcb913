/-
  Several texts in one.
-/
import Derived.Test.YtlelgkgdppkedaaDoorPk46
import Derived.Test.YtlelgkgdppkedaaDoorPk27
import Derived.Test.YtlelgkgdppkedaaDoorPk37
import Derived.Test.YtlelgkgdppkedaaDoorPk33
import Derived.Test.YtlelgkgdppkedaaDoorPk34
import Derived.Test.YtlelgkgdppkedaaDoorPk23
import Derived.Deep.RegionLaw
/-
  Plain: Apply of package delta and the reference's Apply can be done for the same differences, with the same next number.
-/
namespace Go.Proofs.YtlelgkgdppkedaaDoor
set_option maxRecDepth 100000
open Go.RowKit
variable {ls : List Nat}

theorem iAt_ids {D : List TRow} {i : Nat} (h : i < D.length) : iAt (D.map (·.1)) i = (tAt D i).1 := by
  rw [iAt_get (by rw [List.length_map]; exact h), List.getElem_map, tAt_get h]
theorem tAt_app {K I : List TRow} {i : Nat} (_h : i < I.length) : tAt (K ++ I) (K.length + i) = tAt I i := by
  unfold tAt
  rw [List.getD, List.getD, List.getElem?_append_right (by omega), Nat.add_sub_cancel_left]
theorem addN_next {nx : Int} {I : List TRow} (h1 : ∀ i, i < I.length → InsS nx I i) (h2 : ∀ r ∈ I, r.1 < 2147483648) (h0 : 1 ≤ nx) : addN nx I = some (nextN nx I) := by
  induction I generalizing nx with
  | nil => rfl
  | cons r I ih =>
    have ha := (h1 0 (Nat.succ_pos _)).1
    have ha : nx ≤ r.1 := ha
    have hb := h2 r List.mem_cons_self
    have hw : wrap64 (r.1 + 1) = r.1 + 1 := by unfold wrap64; omega
    show (if r.1 < nx then none else addN (wrap64 (r.1 + 1)) I) = some (nextN (r.1 + 1) I)
    rw [if_neg (by omega), hw]
    have hup := ids_asc (D := r :: I) (k := (r :: I).length) fun j hj hj0 => (h1 j hj).2 hj0
    refine ih (fun i hi => ⟨?_, fun hi0 => ?_⟩) (fun x hx => h2 x (List.mem_cons_of_mem _ hx)) (by omega)
    · have h9 := hup 0 (i + 1) (Nat.succ_pos _) (by rw [List.length_cons]; omega)
      have h9 : r.1 < (tAt I i).1 := h9
      omega
    · exact hup (i - 1 + 1) (i + 1) (by omega) (by rw [List.length_cons]; omega)
theorem addN_first {nx m : Int} {r : TRow} {I : List TRow} (h : addN nx (r :: I) = some m) : nx ≤ r.1 := by
  unfold addN at h
  split at h
  · cases h
  · omega
theorem upd_newV {U : List PRow} (h : ∀ i, i < U.length → 0 < i → (pAt U (i - 1)).1 < (pAt U i).1) {i : Nat} (hi : i < U.length) (l : List Val) : newV U ((pAt U i).1, l) = (pAt U i).2.2 := by
  rw [← lastU_asc h]
  have hup : ∀ i, i < U.length → ∀ j, j < i → (pAt U j).1 < (pAt U i).1 := by
    intro i
    induction i with
    | zero => intro _ j hj; omega
    | succ i ih =>
      intro hi j hj
      have h1 := h (i + 1) hi (by omega)
      rw [Nat.add_sub_cancel] at h1
      by_cases hji : j = i
      · subst hji; exact h1
      · have := ih (by omega) j (by omega); omega
  exact lastU_hit rfl U.length hi fun j hj hij he => by have := hup j hj i hij; omega
theorem app_same (T : Tab) (E : Dlt) : rappN T E = dappN T E := by
  by_cases hr : (T.valid && (soundB T.nm T.nx T.R E.nm E.I E.D E.U && E.I.all fun r => decide (r.1 < 2147483648))) = true
  · have hp := hr
    rw [Bool.and_eq_true, Bool.and_eq_true] at hp
    obtain ⟨hv, hs, hall⟩ := hp
    obtain ⟨hD, hU, hI, heq⟩ := sound_parts hs
    obtain ⟨hso, hl, hx1, hx2, hrow, hk⟩ := validT_parts hv
    have hsm : ∀ r ∈ E.I, r.1 < 2147483648 := fun r hr => of_decide_eq_true (List.all_eq_true.1 hall r hr)
    have hadd := addN_next hI hsm hx1
    by_cases hv2 : validT T.nm T.n T.f (nextN T.nx E.I) (dappR T E) = true
    · rw [rapp_yes hr hv2]
      refine (dapp_yes ?_ hadd hv2).symm
      obtain ⟨-, hl2, -, -, hrow2, hk2⟩ := validT_parts hv2
      have hasc : ∀ i, i < E.U.length → 0 < i → (pAt E.U (i - 1)).1 < (pAt E.U i).1 := fun i hi h0 => (hU i hi).2.2.2 h0
      have hnew : ∀ i, i < E.U.length → fitsRow T.f T.n (pAt E.U i).2.2 = 0 := fun i hi => by
        obtain ⟨h1, h2, h3, -⟩ := hU i hi
        have hin := (getO_iff hrow _ _).1 ⟨h1, rfl⟩
        have hkm : ((pAt E.U i).1, (pAt E.U i).2.2) ∈ dappR T E := List.mem_append_left _ (List.mem_map.2 ⟨_, List.mem_filter.2 ⟨hin, by simpa using h2⟩, by rw [upd_newV hasc hi]⟩)
        exact (fits_of hrow2 hkm).1
      have hvc : validC T.n T.R [] (E.D.map (·.1)) E.U = true := validC_yes (fun i hi => by
          rw [List.length_map] at hi
          obtain ⟨h1, -, h3⟩ := hD i hi
          refine ⟨by rw [iAt_ids hi]; exact h1, fun h0 => ?_⟩
          rw [iAt_ids hi, iAt_ids (by omega)]
          exact h3 h0) (fun i hi => by
          obtain ⟨h1, h2, h3, h4⟩ := hU i hi
          exact ⟨h1, h2, h4, h3, fits_len (hnew i hi)⟩) fun i hi => absurd hi (Nat.not_lt_zero i)
      have hvv : (validT T.nm T.n T.f T.nx T.R && validC T.n T.R [] (E.D.map (·.1)) E.U) = true := by
        rw [Bool.and_eq_true]; exact ⟨hv, hvc⟩
      have hae : applyE T.nm T.n T.f T.nx T.R [] (E.D.map (·.1)) E.U = 0 := by
        rw [applyE_rest hvv hnew (fun j hj => absurd hj (Nat.not_lt_zero j))]
        have hkl : (keptR (E.D.map (·.1)) E.U T.R).length ≤ T.R.length := keptR_length
        rw [if_neg (by simp only [List.length_nil]; omega), if_neg]
        have ha : afterR T.nx T.R [] (E.D.map (·.1)) E.U = keptR (E.D.map (·.1)) E.U T.R := List.append_nil _
        rw [ha, dupR_no]
        · decide
        · unfold keysR at hk2 ⊢
          unfold dappR at hk2
          rw [List.filterMap_append] at hk2
          exact (List.nodup_append.1 hk2).1
      unfold dappB
      rw [heq, decide_eq_true hae]
      have hh : holdB T.R E.D = true := by
        unfold holdB
        rw [List.all_eq_true]
        intro r hr
        obtain ⟨i, hi, rfl⟩ := List.getElem_of_mem hr
        obtain ⟨h1, h2, -⟩ := hD i hi
        rw [tAt_get hi] at h1 h2
        rw [h1, decide_eq_true h2]; rfl
      rw [hh]; rfl
    · rw [rapp_bad (by simpa using hv2)]
      cases hb : dappB T E
      · exact (dapp_no hb).symm
      · exact (dapp_bad hadd (by simpa using hv2)).symm
  · rw [rapp_no (by simpa using hr)]
    cases hb : dappB T E
    · exact (dapp_no hb).symm
    · cases ha : addN T.nx E.I with
      | none => exact (dapp_none ha).symm
      | some m =>
        cases hv2 : validT T.nm T.n T.f m (dappR T E)
        · exact (dapp_bad ha hv2).symm
        · exfalso
          refine hr ?_
          unfold dappB at hb
          rw [Bool.and_eq_true, Bool.and_eq_true] at hb
          obtain ⟨heq, hae, hh⟩ := hb
          have hae := of_decide_eq_true hae
          have hvv : (validT T.nm T.n T.f T.nx T.R && validC T.n T.R [] (E.D.map (·.1)) E.U) = true := by
            cases hc : (validT T.nm T.n T.f T.nx T.R && validC T.n T.R [] (E.D.map (·.1)) E.U)
            · rw [applyE_bad hc] at hae; cases hae
            · rfl
          rw [Bool.and_eq_true] at hvv
          obtain ⟨hv, hvc⟩ := hvv
          obtain ⟨h1, h2, -⟩ := validC_parts hvc
          obtain ⟨-, -, hm1, hm2, hrow2, -⟩ := validT_parts hv2
          have hup := ids_up hrow2
          have hidm : ∀ i, i < E.I.length → (tAt E.I i).1 < m ∧ (0 < i → (tAt E.I (i - 1)).1 < (tAt E.I i).1) := fun i hi => by
            have hlen : (keptR (E.D.map (·.1)) E.U T.R).length + i < (dappR T E).length := by unfold dappR; rw [List.length_append]; omega
            have e1 : tAt (dappR T E) ((keptR (E.D.map (·.1)) E.U T.R).length + i) = tAt E.I i := tAt_app hi
            refine ⟨by have := (hrow2 _ hlen).2.1; rwa [e1] at this, fun h0 => ?_⟩
            have e2 : tAt (dappR T E) ((keptR (E.D.map (·.1)) E.U T.R).length + (i - 1)) = tAt E.I (i - 1) := tAt_app (by omega)
            have := hup _ hlen ((keptR (E.D.map (·.1)) E.U T.R).length + (i - 1)) (by omega)
            rwa [e1, e2] at this
          have hnx : ∀ i, i < E.I.length → T.nx ≤ (tAt E.I i).1 := fun i hi => by
            have h0 : T.nx ≤ (tAt E.I 0).1 := by
              cases hI : E.I with
              | nil => rw [hI] at hi; exact absurd hi (Nat.not_lt_zero i)
              | cons r I => rw [hI] at ha; exact addN_first ha
            rcases Nat.eq_zero_or_pos i with rfl | hp
            · exact h0
            · have := ids_asc (D := E.I) (k := E.I.length) (fun j hj hj0 => (hidm j hj).2 hj0) 0 i hp hi
              omega
          rw [Bool.and_eq_true, Bool.and_eq_true]
          refine ⟨hv, ?_, List.all_eq_true.2 fun r hr => decide_eq_true ?_⟩
          · rw [sound_yes (fun i hi => ?_) (fun i hi => ?_) fun i hi => ⟨hnx i hi, (hidm i hi).2⟩]
            · exact heq
            · have hi2 : i < (E.D.map (·.1)).length := by rw [List.length_map]; exact hi
              obtain ⟨g1, g2⟩ := h1 i hi2
              rw [iAt_ids hi] at g1 g2
              have g3 := List.all_eq_true.1 hh _ (tAt_mem hi)
              rw [Bool.and_eq_true] at g3
              refine ⟨g1, of_decide_eq_true g3.2, fun h0 => ?_⟩
              have := g2 h0
              rwa [iAt_ids (by omega)] at this
            · obtain ⟨g1, g2, g3, g4, -⟩ := h2 i hi
              exact ⟨g1, g2, g4, g3⟩
          · obtain ⟨i, hi, rfl⟩ := List.getElem_of_mem hr
            have := (hidm i hi).1
            rw [tAt_get hi] at this
            omega
end Go.Proofs.YtlelgkgdppkedaaDoor
/-
  applies of the law of package delta: Apply and the reference's Apply give the same.
-/
namespace Go.Proofs.YtlelgkgdppkedaaDoor
set_option maxRecDepth 100000
open Go.RowKit
variable {ls : List Nat}

theorem sameT_of {T S V : Tab} {E : Dlt} (h1 : (∃ m, dappN T E = some m ∧ S.nm = T.nm ∧ S.n = T.n ∧ S.f = T.f ∧ S.nx = m ∧ S.R = dappR T E) ∨ (dappN T E = none ∧ S.nm = ⟨#[]⟩ ∧ S.n = 0 ∧ S.nx = 0 ∧ S.R = []))
    (h2 : (∃ m, rappN T E = some m ∧ V.nm = T.nm ∧ V.n = T.n ∧ V.f = T.f ∧ V.nx = m ∧ V.R = dappR T E) ∨ (rappN T E = none ∧ V.nm = ⟨#[]⟩ ∧ V.n = 0 ∧ V.nx = 0 ∧ V.R = [])) : sameT S V = true := by
  rw [app_same] at h2
  have key : S.nm = V.nm ∧ S.n = V.n ∧ (∀ i, i < S.n → S.f i = V.f i) ∧ S.nx = V.nx ∧ S.R = V.R := by
    rcases h1 with ⟨m, e1, a1, a2, a3, a4, a5⟩ | ⟨e1, a1, a2, a4, a5⟩ <;> rcases h2 with ⟨m', e2, b1, b2, b3, b4, b5⟩ | ⟨e2, b1, b2, b4, b5⟩
    · rw [e1] at e2
      obtain rfl := Option.some.inj e2
      exact ⟨a1.trans b1.symm, a2.trans b2.symm, fun i _ => by rw [a3, b3], a4.trans b4.symm, a5.trans b5.symm⟩
    · rw [e1] at e2; cases e2
    · rw [e1] at e2; cases e2
    · exact ⟨a1.trans b1.symm, a2.trans b2.symm, fun i hi => by rw [a2] at hi; omega, a4.trans b4.symm, a5.trans b5.symm⟩
  obtain ⟨k1, k2, k3, k4, k5⟩ := key
  unfold sameT
  rw [k1, k4, k5, ← k2, sameCols_yes k3]
  simp [eqT]
set_option maxHeartbeats 4000000 in
theorem applies8_any (T : Tab) (E : Dlt) (w : World) (hT : TabAt w T) (hE : DltAt w E) (hI : E.I.length ≤ 900) (hD : E.D.length ≤ 17592186044415) :
    Calls Tryd.prog 15 #[.agg #[.string T.nm, .slice T.pc T.n T.cc, .int .i64 T.nx, .slice T.pr T.R.length T.cr], .agg #[.string E.nm, .slice E.pi E.I.length E.ci, .slice E.pd E.D.length E.cd, .slice E.pu E.U.length E.cu]] w fun e w' => e = .returned (.bool true) ∧ Below w.heap.size w w' := by
  have HBL := Lib.hid (below_new (below_new (Below.refl w.heap.size w) (.cells #[.string T.nm, .slice T.pc T.n T.cc, .int .i64 T.nx, .slice T.pr T.R.length T.cr] 27)) (.cells #[.string E.nm, .slice E.pi E.I.length E.ci, .slice E.pd E.D.length E.cd, .slice E.pu E.U.length E.cu] 41))
  have HT := Lib.hid (hT.low HBL.out)
  have HE := Lib.hid (hE.low HBL.out)
  have HA := Lib.hid ((cell4_new w (.string T.nm) (.slice T.pc T.n T.cc) (.int .i64 T.nx) (.slice T.pr T.R.length T.cr) 27).low (below_alloc _ (.cells #[.string E.nm, .slice E.pi E.I.length E.ci, .slice E.pd E.D.length E.cd, .slice E.pu E.U.length E.cu] 41)))
  have hb1 := cell4_new (w.alloc (.cells #[.string T.nm, .slice T.pc T.n T.cc, .int .i64 T.nx, .slice T.pr T.R.length T.cr] 27)) (.string E.nm) (.slice E.pi E.I.length E.ci) (.slice E.pd E.D.length E.cd) (.slice E.pu E.U.length E.cu) 41
  rw [size_alloc] at hb1
  have HB := Lib.hid hb1
  clear hb1 hT hE
  go_enter Tryd.func15, Tryd.ntmps15
  go_upto_region 1 with (fail)
  generalize World.alloc _ _ = W0 at HA HB HBL HT HE ⊢
  obtain ⟨al, a0, a1, a2, a3, -⟩ := HA.out
  obtain ⟨bl, b0, b1, b2, b3, -⟩ := HB.out
  go_wp2_with fail
  refine (dapply_any T E _ HT.out HE.out hI hD).mono ?_
  rintro e w1 ⟨S, rfl, hS, hb1, hr1⟩
  have hbn := below_alloc w1 (.cells #[.string S.nm, .slice S.pc S.n S.cc, .int .i64 S.nx, .slice S.pr S.R.length S.cr] 27)
  have HX := Lib.hid (cell4_new w1 (.string S.nm) (.slice S.pc S.n S.cc) (.int .i64 S.nx) (.slice S.pr S.R.length S.cr) 27)
  have HS := Lib.hid (hS.low hbn)
  have HA1 := Lib.hid ((HA.out.low hb1).low hbn)
  have HB1 := Lib.hid ((HB.out.low hb1).low hbn)
  have HT1 := Lib.hid ((HT.out.low hb1).low hbn)
  have HE1 := Lib.hid ((HE.out.low hb1).low hbn)
  have HL1 := Lib.hid (below_next (below_next HBL.out hb1) hbn)
  have HR1 := Lib.hid hr1
  clear HA HB HT HE HBL hS hb1 hr1 hbn al a0 a1 a2 a3 bl b0 b1 b2 b3
  go_upto_region 2 with (fail)
  generalize World.alloc _ _ = W1 at HX HS HA1 HB1 HT1 HE1 HL1 ⊢
  generalize w1.heap.size = X at HX ⊢
  obtain ⟨al, a0, a1, a2, a3, -⟩ := HA1.out
  obtain ⟨bl, b0, b1, b2, b3, -⟩ := HB1.out
  go_wp2_with fail
  refine (rdapply_any T E _ HT1.out HE1.out hI).mono ?_
  rintro e w2 ⟨V, rfl, hV, hb2, hr2⟩
  have hbn := below_alloc w2 (.cells #[.string V.nm, .slice V.pc V.n V.cc, .int .i64 V.nx, .slice V.pr V.R.length V.cr] 27)
  have HY := Lib.hid (cell4_new w2 (.string V.nm) (.slice V.pc V.n V.cc) (.int .i64 V.nx) (.slice V.pr V.R.length V.cr) 27)
  have HV := Lib.hid (hV.low hbn)
  have HX2 := Lib.hid ((HX.out.low hb2).low hbn)
  have HS2 := Lib.hid ((HS.out.low hb2).low hbn)
  have HL2 := Lib.hid (below_next (below_next HL1.out hb2) hbn)
  have HSM := Lib.hid (sameT_of HR1.out hr2)
  have hon : (rappN T E).isSome = (dappN T E).isSome := by rw [app_same]
  rw [hon]
  clear HA1 HB1 HT1 HE1 HX HS HL1 hV hb2 hr2 hbn al a0 a1 a2 a3 bl b0 b1 b2 b3 hon
  go_upto_region 3 with (fail)
  generalize World.alloc _ _ = W2 at HY HV HX2 HS2 HL2 ⊢
  generalize w2.heap.size = Y at HY ⊢
  obtain ⟨xl, x0, x1, x2, x3, -⟩ := HX2.out
  obtain ⟨yl, y0, y1, y2, y3, -⟩ := HY.out
  obtain ⟨bo, hbo⟩ : ∃ x, (dappN T E).isSome = x := ⟨_, rfl⟩
  rw [hbo]
  clear hbo
  have hbb : (bo == bo) = true := by cases bo <;> rfl
  go_wp2_with fail
  refine (sametable_any S V _ HS2.out HV.out).mono ?_
  rintro e w3 ⟨rfl, hb3⟩
  rw [HSM.out]
  have HL3 := Lib.hid (below_next HL2.out hb3)
  clear hb3 HL2 HR1
  go_wp2
  exact bodyPost_ret (v := .bool true) (by simp [results, Tryd.results15, go_sem]) rfl ⟨rfl, HL3.out⟩
end Go.Proofs.YtlelgkgdppkedaaDoor
/-
  spoiled of the law of package delta, the plain part: rows of a difference in memory as values; a difference with one of its lists turned.
-/
namespace Go.Proofs.YtlelgkgdppkedaaDoor
set_option maxRecDepth 100000
open Go.RowKit
variable {ls : List Nat}

/-- The rows of a difference that the tape leaves alone, as values. -/
theorem trows_list {b : Nat} {w : World} {pi : Option Addr} {I : List TRow} (HP : ∀ v, StepT b w v → TRowsAt v pi I) : ∀ m, m ≤ I.length → ∃ G : List GRow, G.length = m ∧ tabR G = I.take m ∧
    (∀ v, StepT b w v → ∀ g ∈ G, Holds v (g.2.1, g.2.2)) ∧
    (∀ v, StepT b w v → ∀ i (hi : i < G.length), ∃ c o, pi = some ⟨c, o, none⟩ ∧ v.cell? ⟨c, o + i * 2, none⟩ = some (.int .i64 G[i].1) ∧ v.cell? ⟨c, o + i * 2 + 1, none⟩ = some G[i].2.1) := by
  intro m
  induction m with
  | zero => intro _; exact ⟨[], rfl, rfl, fun _ _ x hx => (by cases hx), fun _ _ i hi => (by simp at hi)⟩
  | succ m ih =>
    intro hm
    obtain ⟨P, hP, hU, hG, hC⟩ := ih (by omega)
    have hmU : m < I.length := by omega
    obtain ⟨c, o, q, cq, hp, hc, h0, h1, -, hl1, hq⟩ := HP w (StepT.refl b w) m hmU
    subst hp
    have hcb : c ≠ b := fun e => by
      subst e
      obtain ⟨c', o', q', cq', hp', -, k0, -⟩ := HP _ (bare_step c w) m hmU
      cases hp'
      exact bare_cell k0
    have hrow : ∀ v, StepT b w v → RowAt v q (tAt I m).2 := fun v hv => by
      obtain ⟨c', o', q', cq', hp', -, -, k1, hr1, -⟩ := HP v hv m hmU
      cases hp'
      rw [hv.cell (by exact hc) (by exact hcb), h1] at k1
      injection k1 with k1
      injection k1 with e1
      subst e1
      exact hr1
    refine ⟨P ++ [((tAt I m).1, .slice q (tAt I m).2.length cq, (tAt I m).2)], by rw [List.length_append, hP]; rfl, ?_, ?_, ?_⟩
    · rw [tabR_append, hU, take_trow hmU]
      rfl
    · intro v hv x hx
      rcases List.mem_append.1 hx with hx | hx
      · exact hG v hv x hx
      · obtain rfl := List.mem_singleton.1 hx
        exact ⟨q, cq, rfl, hrow v hv, hl1, hq⟩
    · intro v hv i hi
      by_cases him : i < P.length
      · obtain ⟨c', o', hp', k0, k1⟩ := hC v hv i him
        rw [List.getElem_append_left him]
        exact ⟨c', o', hp', k0, k1⟩
      · have : i = m := by rw [List.length_append, hP] at hi; simp at hi; omega
        subst this
        rw [List.getElem_append_right (by omega)]
        simp only [hP, Nat.sub_self, List.getElem_cons_zero]
        exact ⟨c, o, rfl, by rw [hv.cell (by exact hc) (by exact hcb)]; exact h0, by rw [hv.cell (by exact hc) (by exact hcb)]; exact h1⟩
theorem tcells_get (G : List GRow) (i : Nat) (h : i < G.length) : (tcells G)[i * 2]? = some (.int .i64 G[i].1) ∧ (tcells G)[i * 2 + 1]? = some G[i].2.1 := by
  have := tcells_at G i h
  unfold grAt at this
  rw [List.getD, List.getElem?_eq_getElem h] at this
  exact this
theorem trows_news {v : World} {pi : Option Addr} {G : List GRow} (h : ∀ i (hi : i < G.length), ∃ c o, pi = some ⟨c, o, none⟩ ∧ v.cell? ⟨c, o + i * 2, none⟩ = some (.int .i64 G[i].1) ∧ v.cell? ⟨c, o + i * 2 + 1, none⟩ = some G[i].2.1) (ad : Addr) (hp : pi = some ad) :
    ∀ j y, (tcells G)[j]? = some y → v.cell? (ad.add j) = some y := by
  intro j y hj
  have hlt := (List.getElem?_eq_some_iff.1 hj).1
  rw [tcells_length] at hlt
  obtain ⟨i, k, hk, rfl⟩ : ∃ i k, k < 2 ∧ j = i * 2 + k := ⟨j / 2, j % 2, Nat.mod_lt _ (by decide), by omega⟩
  have hi : i < G.length := by omega
  obtain ⟨c, o, hpu, k0, k1⟩ := h i hi
  rw [hp] at hpu
  cases hpu
  obtain ⟨e0, e1⟩ := tcells_get G i hi
  have hadd : ∀ m, (⟨c, o, none⟩ : Addr).add m = ⟨c, o + m, none⟩ := fun m => by unfold Addr.add; split <;> simp_all
  rw [hadd]
  obtain rfl | rfl : k = 0 ∨ k = 1 := by omega
  · rw [Nat.add_zero] at hj ⊢
    rw [e0] at hj
    rw [k0]; exact hj
  · rw [e1] at hj
    rw [← Nat.add_assoc, k1]; exact hj
theorem trows_nil {v : World} {pi : Option Addr} {G : List GRow} (h : ∀ i (hi : i < G.length), ∃ c o, pi = some ⟨c, o, none⟩ ∧ v.cell? ⟨c, o + i * 2, none⟩ = some (.int .i64 G[i].1) ∧ v.cell? ⟨c, o + i * 2 + 1, none⟩ = some G[i].2.1) (hp : pi = none) : tcells G = [] := by
  cases G with
  | nil => rfl
  | cons x G => obtain ⟨c, o, hp', -⟩ := h 0 (Nat.succ_pos _); rw [hp] at hp'; cases hp'
theorem tcells_one {v : World} {G : List GRow} (h : ∀ g ∈ G, Holds v (g.2.1, g.2.2)) : ∀ y ∈ tcells G, y.oneCell' = true := by
  intro y hy
  unfold tcells at hy
  obtain ⟨x, hx, hy⟩ := List.mem_flatMap.1 hy
  simp only [List.mem_cons, List.not_mem_nil, or_false] at hy
  rcases hy with rfl | rfl
  · rfl
  · exact (h x hx).one
theorem trowsAt_own {base : Nat} {v : World} {p : Option Addr} {n c : Nat} {G : List GRow} (h : v.ownsRow base 53 2 (.slice p n c) G.length (tcells G)) (hG : ∀ g ∈ G, Holds v (g.2.1, g.2.2)) : TRowsAt v p (tabR G) := by
  intro i hi
  have hi' : i < G.length := by rw [tabR_length] at hi; exact hi
  obtain ⟨q, cq, hx, hr, hl, hq⟩ := hG _ (List.getElem_mem hi')
  obtain ⟨e0, e1⟩ := tcells_get G i hi'
  obtain ⟨b, hp, hc, k0⟩ := own_cell h e0
  obtain ⟨b', hp', -, k1⟩ := own_cell h e1
  rw [hp] at hp'
  cases hp'
  have e : tAt (tabR G) i = (G[i].1, G[i].2.2) := by
    rw [tabR_at hi']
    unfold grAt
    rw [List.getD, List.getElem?_eq_getElem hi']; rfl
  rw [e]
  exact ⟨b, 0, q, cq, hp, hc, k0, by rw [Nat.add_assoc, ← hx]; exact k1, hr, hl, hq⟩
theorem towns_empty (w : World) : (w.alloc (.cells #[] 53)).ownsRow w.heap.size 53 2 (.slice (some ⟨w.heap.size, 0, none⟩) 0 0) 0 (tcells []) := by
  refine ⟨rfl, Or.inr ⟨w.heap.size, 0, #[], rfl, Nat.le_refl _, ?_, Nat.le_refl _, by decide, rfl, rfl⟩⟩
  show (w.heap.push _)[w.heap.size]? = _
  simp
theorem towns_one (w : World) (id : Int) : (w.alloc (.cells #[.int .i64 id, .slice none 0 0] 53)).ownsRow w.heap.size 53 2 (.slice (some ⟨w.heap.size, 0, none⟩) 1 1) 1 (tcells [(id, .slice none 0 0, [])]) := by
  refine ⟨rfl, Or.inr ⟨w.heap.size, 1, #[.int .i64 id, .slice none 0 0], rfl, Nat.le_refl _, ?_, Nat.le_refl _, by decide, rfl, rfl⟩⟩
  show (w.heap.push _)[w.heap.size]? = _
  simp
/-- Two zero values. -/
def zz2 : List Val := [(0, 0, ⟨#[]⟩), (0, 0, ⟨#[]⟩)]
theorem zz2_sized : ValsSized zz2 := fun i hi => by
  have : i = 0 ∨ i = 1 := by have : i < 2 := hi; omega
  rcases this with rfl | rfl <;> decide
theorem holds_zz2 (w : World) : Holds (w.alloc (.cells #[.int .i64 0, .int .i64 0, .string ⟨#[]⟩, .int .i64 0, .int .i64 0, .string ⟨#[]⟩] 57)) (.slice (some ⟨w.heap.size, 0, none⟩) 2 2, zz2) := by
  refine ⟨some ⟨w.heap.size, 0, none⟩, 2, rfl, fun i hi => ?_, (by show 2 * 32 ≤ 140737488355328; omega), fun e => by cases e⟩
  have hlt : w.heap.size < (w.alloc (.cells #[.int .i64 0, .int .i64 0, .string ⟨#[]⟩, .int .i64 0, .int .i64 0, .string ⟨#[]⟩] 57)).heap.size := by rw [size_alloc]; exact Nat.lt_succ_self _
  have : i = 0 ∨ i = 1 := by have : i < 2 := hi; omega
  rcases this with rfl | rfl
  · exact ⟨w.heap.size, 0, rfl, hlt, by go_simp; rfl, by go_simp; rfl, by go_simp; rfl⟩
  · exact ⟨w.heap.size, 0, rfl, hlt, by go_simp; rfl, by go_simp; rfl, by go_simp; rfl⟩
section
variable {base n4 c4 : Nat} {W : World} {E : Dlt} {p4 : Option Addr}
theorem dlt_nm {nm : ByteArray} (h : DltAt W E) (hn : nm.size ≤ 9223372036854775807) : DltAt W ⟨nm, E.pi, E.ci, E.I, E.pd, E.cd, E.D, E.pu, E.cu, E.U⟩ :=
  ⟨hn, h.ins, h.del, h.upd, h.il, h.dl, h.ul, h.isz, h.dsz, h.osz, h.usz, h.icap, h.dcap, h.ucap⟩
theorem dlt_ins {G : List GRow} (h : DltAt W E) (ho : W.ownsRow base 53 2 (.slice p4 n4 c4) G.length (tcells G)) (hG : ∀ g ∈ G, Holds W (g.2.1, g.2.2) ∧ ValsSized g.2.2) (hl : G.length ≤ 1000) :
    DltAt W ⟨E.nm, p4, c4, tabR G, E.pd, E.cd, E.D, E.pu, E.cu, E.U⟩ :=
  ⟨h.name, trowsAt_own ho fun g hg => (hG g hg).1, h.del, h.upd, by dsimp only; rw [tabR_length]; exact hl, h.dl, h.ul, fun r hr => by
    obtain ⟨g, hg, rfl⟩ := List.mem_map.1 hr
    exact (hG g hg).2, h.dsz, h.osz, h.usz, by dsimp only; rw [tabR_length]; exact (own_len ho).2, h.dcap, h.ucap⟩
theorem dlt_del {G : List GRow} (h : DltAt W E) (ho : W.ownsRow base 53 2 (.slice p4 n4 c4) G.length (tcells G)) (hG : ∀ g ∈ G, Holds W (g.2.1, g.2.2) ∧ ValsSized g.2.2) (hl : G.length ≤ 1000) :
    DltAt W ⟨E.nm, E.pi, E.ci, E.I, p4, c4, tabR G, E.pu, E.cu, E.U⟩ :=
  ⟨h.name, h.ins, trowsAt_own ho fun g hg => (hG g hg).1, h.upd, h.il, by dsimp only; rw [tabR_length]; omega, h.ul, h.isz, fun r hr => by
    obtain ⟨g, hg, rfl⟩ := List.mem_map.1 hr
    exact (hG g hg).2, h.osz, h.usz, h.icap, by dsimp only; rw [tabR_length]; exact (own_len ho).2, h.ucap⟩
theorem dlt_upd {P : List GPair} (h : DltAt W E) (ho : W.ownsRow base 86 3 (.slice p4 n4 c4) P.length (pcells P)) (hG : ∀ x ∈ P, (Holds W x.2.1 ∧ Holds W x.2.2) ∧ ValsSized x.2.1.2 ∧ ValsSized x.2.2.2) (hl : P.length ≤ 1000) :
    DltAt W ⟨E.nm, E.pi, E.ci, E.I, E.pd, E.cd, E.D, p4, c4, P.map unP⟩ :=
  ⟨h.name, h.ins, h.del, pairsAt_own ho fun x hx => (hG x hx).1, h.il, h.dl, by dsimp only; rw [List.length_map]; omega, h.isz, h.dsz, fun p hp => by
    obtain ⟨x, hx, rfl⟩ := List.mem_map.1 hp
    exact (hG x hx).2.1, fun p hp => by
    obtain ⟨x, hx, rfl⟩ := List.mem_map.1 hp
    exact (hG x hx).2.2, h.icap, h.dcap, by dsimp only; rw [List.length_map]; exact (own_len ho).2⟩
end
end Go.Proofs.YtlelgkgdppkedaaDoor
/-
  spoiled of the law of package delta: a difference with one of its parts turned.
-/
namespace Go.Proofs.YtlelgkgdppkedaaDoor
set_option maxRecDepth 100000
open Go.RowKit
variable {ls : List Nat}

def SdPost (b : Nat) (E : Dlt) (w : World) (e : Ending) (w' : World) : Prop := ∃ F : Dlt, e = .returned (.agg #[.string F.nm, .slice F.pi F.I.length F.ci, .slice F.pd F.D.length F.cd, .slice F.pu F.U.length F.cu]) ∧ DltAt w' F ∧ TapeAt w' b ∧ StepT b w w' ∧ F.I.length ≤ E.I.length + 1 ∧ F.D.length ≤ E.D.length + 1 ∧ F.U.length ≤ E.U.length + E.D.length + 1
/-- The state of spoiled: the box of the difference, the box of the result. -/
structure SdW (b : Nat) (w : World) (vn vi vd vu : Value) (u : World) : Prop where
  box : Cell4 u w.heap.size vn vi vd vu
  res : Cell4 u (w.heap.size + 1) (.string ⟨#[]⟩) (.slice none 0 0) (.slice none 0 0) (.slice none 0 0)
  tape : TapeAt u b
  step : StepT b w u
section
variable {b B : Nat} {w u v : World} {vn vi vd vu : Value}
theorem cell4_lowB {X : Nat} {x y z t : Value} (h : Cell4 u X x y z t) (hX : X < B) (hb : Below B u v) : Cell4 v X x y z t :=
  ⟨Nat.lt_of_lt_of_le h.lt hb.size, by rw [hb.cell (by exact hX)]; exact h.c0, by rw [hb.cell (by exact hX)]; exact h.c1, by rw [hb.cell (by exact hX)]; exact h.c2, by rw [hb.cell (by exact hX)]; exact h.c3, fun o => by rw [hb.frozen (by exact hX)]; exact h.fz o⟩
theorem sd_stepB (h : StepT b w u) (hb : Below B u v) (hB : w.heap.size ≤ B) : StepT b w v :=
  ⟨hb.os.trans h.os, hb.tape.trans h.tape, hb.output.trans h.output, Nat.le_trans h.size hb.size, fun k hk hne => (hb.block k (by omega)).trans (h.block k hk hne)⟩
theorem SdW.low (h : SdW b w vn vi vd vu u) (hlt : b < w.heap.size) (hB : w.heap.size + 2 ≤ B) (hb : Below B u v) : SdW b w vn vi vd vu v :=
  ⟨cell4_lowB h.box (by omega) hb, cell4_lowB h.res (by omega) hb, h.tape.keep (fun k hk => hb.block k (by omega)) hb.size, sd_stepB h.step hb (by omega)⟩
theorem SdW.lo (h : SdW b w vn vi vd vu u) : w.heap.size + 2 ≤ u.heap.size := h.res.lt
theorem SdW.next (h : SdW b w vn vi vd vu u) (hlt : b < w.heap.size) (hs : StepT b u v) (ht : TapeAt v b) : SdW b w vn vi vd vu v :=
  ⟨h.box.step hs (by omega), h.res.step hs (by omega), ht, h.step.trans hs⟩
theorem SdW.put (h : SdW b w vn vi vd vu u) (hlt : b < w.heap.size) {o : Nat} {y x0 x1 x2 x3 : Value} (hc : Cell4 (u.setCell ⟨w.heap.size, o, none⟩ y) w.heap.size x0 x1 x2 x3) : SdW b w x0 x1 x2 x3 (u.setCell ⟨w.heap.size, o, none⟩ y) :=
  ⟨hc, h.res.far (by omega) y, h.tape.setCell (show b < w.heap.size by omega) y, h.step.set2 (Nat.le_refl _) _ _ _⟩
/-- The end: the result's box is written. -/
theorem SdW.fin (h : SdW b w vn vi vd vu u) (hlt : b < w.heap.size) {W : World} (hW : (((u.setCell ⟨w.heap.size + 1, 0, none⟩ vn).setCell ⟨w.heap.size + 1, 1, none⟩ vi).setCell ⟨w.heap.size + 1, 2, none⟩ vd).setCell ⟨w.heap.size + 1, 3, none⟩ vu = W) :
    Cell4 W (w.heap.size + 1) vn vi vd vu ∧ TapeAt W b ∧ StepT b w W ∧ u.heap.size ≤ W.heap.size ∧ ∀ k, w.heap.size + 2 ≤ k → W.heap[k]? = u.heap[k]? := by
  subst hW
  exact ⟨cell4_put u h.res _ _ _ _, (((h.tape.setCell (show b < w.heap.size + 1 by omega) _).setCell (show b < w.heap.size + 1 by omega) _).setCell (show b < w.heap.size + 1 by omega) _).setCell (show b < w.heap.size + 1 by omega) _,
    (((h.step.set2 (show w.heap.size ≤ w.heap.size + 1 by omega) _ _ _).set2 (show w.heap.size ≤ w.heap.size + 1 by omega) _ _ _).set2 (show w.heap.size ≤ w.heap.size + 1 by omega) _ _ _).set2 (show w.heap.size ≤ w.heap.size + 1 by omega) _ _ _,
    by rw [set_size, set_size, set_size, set_size]; exact Nat.le_refl _, fun k hk => four_sets (show k ≠ w.heap.size + 1 by omega)⟩
theorem sd_own {base n size : Nat} {e : TypeId} {x : Value} {xs : List Value} (h : u.ownsRow base e size x n xs) (hB : w.heap.size + 2 ≤ base) (hk : ∀ k, w.heap.size + 2 ≤ k → v.heap[k]? = u.heap[k]?) : v.ownsRow base e size x n xs :=
  owns_keep h fun k hk' => hk k (by have := owns_block h k hk'; omega)
theorem holds_nil0 (v : World) : Holds v ((.slice none 0 0 : Value), ([] : List Val)) := Holds.nil v
theorem vs_nil : ValsSized [] := fun i hi => by simp at hi
/-- A new pair, without values. -/
def sd_zP (z : Int) : GPair := (z, (.slice none 0 0, []), (.slice none 0 0, []))
theorem sd_pcells_snoc (P : List GPair) (z : Int) : pcells (P ++ [sd_zP z]) = pcells P ++ [.int .i64 z, .slice none 0 0, .slice none 0 0] := by
  unfold pcells
  rw [List.flatMap_append]
  rfl
theorem sd_pnil {v : World} {pu : Option Addr} {P : List GPair} (h : ∀ i (hi : i < P.length), ∃ c o, pu = some ⟨c, o, none⟩ ∧ v.cell? ⟨c, o + i * 3, none⟩ = some (.int .i64 P[i].1) ∧ v.cell? ⟨c, o + i * 3 + 1, none⟩ = some P[i].2.1.1 ∧ v.cell? ⟨c, o + i * 3 + 2, none⟩ = some P[i].2.2.1) (hp : pu = none) : pcells P = [] := by
  cases P with
  | nil => rfl
  | cons x P => obtain ⟨c, o, hp', -⟩ := h 0 (Nat.succ_pos _); rw [hp] at hp'; cases hp'
/-- The pairs while the rows that left are added to them. -/
structure SdU (b : Nat) (w : World) (P : List GPair) (p : Option Addr) (c : Nat) (v : World) : Prop where
  hold : ∀ x, StepT b w x → ∀ q ∈ P, (Holds x q.2.1 ∧ Holds x q.2.2) ∧ ValsSized q.2.1.2 ∧ ValsSized q.2.2.2
  src : ∀ x, StepT b w x → (∀ k, w.heap.size + 2 ≤ k → k < v.heap.size → x.heap[k]? = v.heap[k]?) → (∀ ad, p = some ad → ∀ j y, (pcells P)[j]? = some y → x.cell? (ad.add j) = some y) ∧ PairsAt x p (P.map unP)
  nil : p = none → pcells P = []
  cap : P.length ≤ c
theorem SdU.to {P : List GPair} {p : Option Addr} {c : Nat} (h : SdU b w P p c u) (hb : Below u.heap.size u v) : SdU b w P p c v :=
  ⟨h.hold, fun x hx hk => h.src x hx fun k h1 h2 => (hk k h1 (Nat.lt_of_lt_of_le h2 hb.size)).trans (hb.block k h2), h.nil, h.cap⟩
theorem sdu_own {P : List GPair} {p : Option Addr} {c n base : Nat} (hB : w.heap.size + 2 ≤ base) (ho : u.ownsRow base 86 3 (.slice p n c) P.length (pcells P)) (hG : ∀ x, StepT b w x → ∀ q ∈ P, (Holds x q.2.1 ∧ Holds x q.2.2) ∧ ValsSized q.2.1.2 ∧ ValsSized q.2.2.2) : SdU b w P p c u := by
  refine ⟨hG, fun x hx hk => ?_, fun hp => ?_, (own_len ho).2⟩
  · have ho2 : x.ownsRow base 86 3 (.slice p n c) P.length (pcells P) := owns_keep ho fun k hk' => hk k (by have := owns_block ho k hk'; omega) (owns_lt ho k hk')
    refine ⟨fun ad he j y hj => ?_, pairsAt_own ho2 fun q hq => (hG x hx q hq).1⟩
    obtain ⟨k, hp, -, hc⟩ := own_cell ho2 hj
    rw [he] at hp
    cases hp
    have hadd : (⟨k, 0, none⟩ : Addr).add j = ⟨k, j, none⟩ := by unfold Addr.add; split <;> simp_all
    rw [hadd]; simpa using hc
  · subst hp
    rcases ho.2 with ⟨-, h0⟩ | ⟨g, cap, cur, hv, -⟩
    · have h1 := ho.1
      rw [h0, Nat.zero_mul] at h1
      exact List.eq_nil_of_length_eq_zero h1
    · cases hv
theorem dlt_updA {W : World} {E : Dlt} {P : List GPair} {p4 : Option Addr} {c4 : Nat} (h : DltAt W E) (hp : PairsAt W p4 (P.map unP)) (hG : ∀ x ∈ P, (Holds W x.2.1 ∧ Holds W x.2.2) ∧ ValsSized x.2.1.2 ∧ ValsSized x.2.2.2) (hl : P.length ≤ 1000) (hc : P.length ≤ c4) :
    DltAt W ⟨E.nm, E.pi, E.ci, E.I, E.pd, E.cd, E.D, p4, c4, P.map unP⟩ :=
  ⟨h.name, h.ins, h.del, hp, h.il, h.dl, by dsimp only; rw [List.length_map]; omega, h.isz, h.dsz, fun p hp => by
    obtain ⟨x, hx, rfl⟩ := List.mem_map.1 hp
    exact (hG x hx).2.1, fun p hp => by
    obtain ⟨x, hx, rfl⟩ := List.mem_map.1 hp
    exact (hG x hx).2.2, h.icap, h.dcap, by dsimp only; rw [List.length_map]; exact hc⟩
/-- The literal of one pair is no block of the empty literal (cap 0). -/
theorem sd_capnil {u : World} {base k : Nat} {x y z : Value} (h : u.ownsRow base 86 3 (.slice (some ⟨k, 0, none⟩) 0 0) 0 (pcells [])) (hc : Cell3 u k x y z) : False := by
  rcases h.2 with ⟨hv, -⟩ | ⟨g, cap, cur, hv, -, hh, -, -, hcur, -⟩
  · cases hv
  · injection hv with h1 h2 h3
    injection h1 with h1
    injection h1 with h1
    subst h1 h3
    have h0 := hc.c0
    simp only [World.cell?, hh] at h0
    rw [if_neg (by simp), Array.getElem?_eq_none (by omega)] at h0
    cases h0
theorem sd_ch3N {X : Nat} {x y z : Value} {row : Option Nat} (h : Cell3 u X x y z) (hg : u.grownBy v row) (hr : row ≠ some X) : Cell3 v X x y z := by
  have hb := hg.block X h.lt (fun e => hr e.symm)
  exact ⟨Nat.lt_of_lt_of_le h.lt hg.size, by rw [World.cell?_of_block (w := u) hb]; exact h.c0, by rw [World.cell?_of_block (w := u) hb]; exact h.c1, by rw [World.cell?_of_block (w := u) hb]; exact h.c2, fun o => by rw [World.frozen?_of_block (w := u) hb]; exact h.fz o⟩
theorem sd_stay (h : SdW b w vn vi vd vu u) (hlt : b < w.heap.size) (hb : Below u.heap.size u v) : SdW b w vn vi vd vu v := h.low hlt h.lo hb
theorem sd_snoc (P : List GPair) (q : GPair) : pcells (P ++ [q]) = pcells P ++ [.int .i64 q.1, q.2.1.1, q.2.2.1] := by
  unfold pcells
  rw [List.flatMap_append]
  rfl
end
set_option maxHeartbeats 16000000 in
theorem spoiled8_any (b : Nat) (w : World) (ht : TapeAt w b) (E : Dlt) (HE0 : ∀ v, StepT b w v → DltAt v E) (hI : E.I.length ≤ 100) (hD : E.D.length ≤ 100) (hU : E.U.length ≤ 100) :
    Calls Tryd.prog 16 #[.pointer (some ⟨b, 0, none⟩), .agg #[.string E.nm, .slice E.pi E.I.length E.ci, .slice E.pd E.D.length E.cd, .slice E.pu E.U.length E.cu]] w (SdPost b E w) := by
  have hlt := ht.lt
  have HE := Lib.hid HE0
  have hres := cell4_new (w.alloc (.cells #[.string E.nm, .slice E.pi E.I.length E.ci, .slice E.pd E.D.length E.cd, .slice E.pu E.U.length E.cu] 41)) (.string ⟨#[]⟩) (.slice none 0 0) (.slice none 0 0) (.slice none 0 0) 41
  rw [size_alloc] at hres
  have HW : Hid (SdW b w (.string E.nm) (.slice E.pi E.I.length E.ci) (.slice E.pd E.D.length E.cd) (.slice E.pu E.U.length E.cu) ((w.alloc (.cells #[.string E.nm, .slice E.pi E.I.length E.ci, .slice E.pd E.D.length E.cd, .slice E.pu E.U.length E.cu] 41)).alloc (.cells #[.string ⟨#[]⟩, .slice none 0 0, .slice none 0 0, .slice none 0 0] 41))) :=
    Lib.hid ⟨(cell4_new w _ _ _ _ _).low (below_alloc _ _), hres, (ht.alloc _).alloc _, ((StepT.refl b w).alloc _).alloc _⟩
  clear hres HE0 ht
  go_enter Tryd.func16, Tryd.ntmps16
  go_upto_region 1 with (fail)
  generalize World.alloc _ _ = u0 at HW ⊢
  go_wp2_with fail
  refine (next_any b 6 _ (by omega) (by omega) HW.out.tape).mono ?_
  rintro e u1 ⟨r, rfl, hr0, hr1, ht1, hs1⟩
  have HW1 := Lib.hid (HW.out.next hlt hs1 ht1)
  clear HW ht1 hs1
  have hlo := HW1.out.lo
  obtain rfl | rfl | rfl | rfl | rfl | rfl : r = 0 ∨ r = 1 ∨ r = 2 ∨ r = 3 ∨ r = 4 ∨ r = 5 := by omega
  · have HX : Hid (Cell4 (u1.setCell ⟨w.heap.size, 0, none⟩ (.string ⟨#[120]⟩)) w.heap.size (.string ⟨#[120]⟩) (.slice E.pi E.I.length E.ci) (.slice E.pd E.D.length E.cd) (.slice E.pu E.U.length E.cu)) := Lib.hid (HW1.out.box.set0 _)
    have HW5 := Lib.hid (HW1.out.put hlt HX.out)
    obtain ⟨xl, x0, x1, x2, x3, xf⟩ := HW1.out.box
    go_upto_region 17 with (fail)
    clear xl x0 x1 x2 x3 xf HX HW1
    generalize World.setCell _ _ _ = w5 at HW5 ⊢
    obtain ⟨bl, b0, b1, b2, b3, bf⟩ := HW5.out.box
    obtain ⟨yl, y0, y1, y2, y3, yf⟩ := HW5.out.res
    go_wp2
    obtain ⟨⟨-, s0, s1, s2, s3, -⟩, htp, hst, hzz, hkk⟩ := HW5.out.fin hlt rfl
    have hcf := HE.out _ hst
    exact bodyPost_ret (v := .agg #[.string ⟨#[120]⟩, .slice E.pi E.I.length E.ci, .slice E.pd E.D.length E.cd, .slice E.pu E.U.length E.cu]) (by simp [results, Tryd.results16, go_sem, s0, s1, s2, s3]) rfl
      ⟨⟨⟨#[120]⟩, E.pi, E.ci, E.I, E.pd, E.cd, E.D, E.pu, E.cu, E.U⟩, by simp, dlt_nm hcf (by decide), htp, hst, by dsimp only; omega, by dsimp only; omega, by dsimp only; omega⟩
  · obtain ⟨G, hGl, hGI, hGG, hGC⟩ := trows_list (fun v hv => (HE.out v hv).ins) E.I.length (Nat.le_refl _)
    rw [List.take_length] at hGI
    have HGC := Lib.hid hGC
    have HGG : Hid (∀ v, StepT b w v → ∀ g ∈ G, Holds v (g.2.1, g.2.2) ∧ ValsSized g.2.2) := Lib.hid fun v hv g hg => ⟨hGG v hv g hg, (HE.out v hv).isz (g.1, g.2.2) (by rw [← hGI]; exact List.mem_map.2 ⟨g, hg, rfl⟩)⟩
    have HGL := Lib.hid hGl
    have hgl : G.length ≤ 100 := by omega
    clear hGI hGG hGC hGl
    obtain ⟨i0, hi0, hz0, hz1, hz2⟩ := info_parts info_trow
    have HA := Lib.hid (HW1.out.low hlt hlo (below_alloc u1 (.cells #[] 53)))
    have HO := Lib.hid (towns_empty u1)
    have HN := Lib.hid (HGC.out _ HA.out.step)
    obtain ⟨xl, x0, x1, x2, x3, xf⟩ := HW1.out.box
    go_upto_region 10 with (fail)
    go_wp2_with (at_builtin; refine wpList_append_any rfl (.tmp 36) (.tmp 38) 25 53 rfl u1.heap.size i0 _ 2 32 Tryd.underlying25 hi0 hz0 hz1 hz2 rfl (by decide) _ 0 (tcells []) (by rfl) HO.out E.pi E.I.length E.ci (tcells G) (by rfl) (by rw [tcells_length, HGL.out]) (trows_news HN.out) (trows_nil HN.out) (tcells_one (fun g hg => (HGG.out _ HA.out.step g hg).1)) (by unfold maxLen; omega) (by omega) (by rw [size_alloc]; exact Nat.le_succ _) ?_; intro v2 w2 hown2 hg2; (have hb2 := grown_below (below_alloc u1 (.cells #[] 53)) (by rw [size_alloc]; exact Nat.le_succ _) hg2 (fun k hk => by cases hk; exact Nat.le_refl _)); (have HW2 := Lib.hid (HW1.out.low hlt hlo hb2)); (have HO2 : Hid (w2.ownsRow u1.heap.size 53 2 v2 G.length (tcells G)) := Lib.hid (by rw [Nat.zero_add, ← HGL.out] at hown2; exact hown2)); (have hz2' := hb2.size); clear hown2 hg2 hb2)
    clear xl x0 x1 x2 x3 xf HA HO HN HW1
    refine (next_any b 20 _ (by omega) (by omega) HW2.out.tape).mono ?_
    rintro e w3 ⟨z, rfl, hz30, hz31, ht3, hs3⟩
    have HW3 := Lib.hid (HW2.out.next hlt hs3 ht3)
    have HNB := Lib.hid (below_new (below_alloc w3 (.cells #[.int .i64 0, .int .i64 0, .string ⟨#[]⟩, .int .i64 0, .int .i64 0, .string ⟨#[]⟩] 57)) (.cells #[.int .i64 z, .slice (some ⟨w3.heap.size, 0, none⟩) 2 2] 53))
    have HO3 := Lib.hid (owns_below (owns_step HO2.out (by omega) hs3) HNB.out)
    have hz3' : u1.heap.size ≤ w3.heap.size := Nat.le_trans hz2' hs3.size
    have HNW := Lib.hid (row2_new (w3.alloc (.cells #[.int .i64 0, .int .i64 0, .string ⟨#[]⟩, .int .i64 0, .int .i64 0, .string ⟨#[]⟩] 57)) (.int .i64 z) (.slice (some ⟨w3.heap.size, 0, none⟩) 2 2) 53)
    have HOB : Hid (∀ k, v2.ownBlock = some k → k < w3.heap.size) := Lib.hid (fun k hk => owns_lt (owns_step HO2.out (by omega) hs3) k hk)
    rw [size_alloc] at HNW
    have HV3 := Lib.hid ((holds_zz2 w3).low (below_alloc _ (.cells #[.int .i64 z, .slice (some ⟨w3.heap.size, 0, none⟩) 2 2] 53)))
    clear HO2 HW2 ht3 hs3
    obtain ⟨xl, x0, x1, x2, x3, xf⟩ := HW3.out.box
    go_upto_region 17 with (at_builtin; refine wpList_append_trow rfl (.tmp 39) (.tmp 46) rfl u1.heap.size v2 G (by rfl) HO3.out (w3.heap.size + 1) z (.slice (some ⟨w3.heap.size, 0, none⟩) 2 2) zz2 (by rfl) HNW.out.1 HNW.out.2 rfl (by omega) (Nat.le_trans hz3' HNB.out.size) ?_; intro v4 w4 hown4 hg4; (have hb4 : Below u1.heap.size w3 w4 := grown_below (HNB.out.mono hz3') (Nat.le_trans hz3' HNB.out.size) hg4 (fun k hk => owns_block HO3.out k hk)); (have hw4 := HW3.out.low hlt hlo hb4); obtain ⟨p4, c4, e4⟩ := own_ex hown4; (have e5 : (G ++ [(z, (.slice (some ⟨w3.heap.size, 0, none⟩) 2 2 : Value), (zz2 : List Val))]).length = E.I.length + 1 := by rw [List.length_append, List.length_singleton, HGL.out]); rw [e5] at e4; subst e4; (have HO4 : Hid ((w4.setCell ⟨w.heap.size, 1, none⟩ (.slice p4 (E.I.length + 1) c4)).ownsRow u1.heap.size 53 2 (.slice p4 (E.I.length + 1) c4) (G ++ [(z, (.slice (some ⟨w3.heap.size, 0, none⟩) 2 2 : Value), (zz2 : List Val))]).length (tcells (G ++ [(z, .slice (some ⟨w3.heap.size, 0, none⟩) 2 2, zz2)]))) := Lib.hid (owns_keep hown4 fun k hk => Below.heap_setCell _ _ _ _ (by have := owns_block hown4 k hk; show k ≠ w.heap.size; omega))); (have HW5 := Lib.hid (hw4.put hlt (hw4.box.set1 (.slice p4 (E.I.length + 1) c4)))); (have HV5 : Hid (Holds (w4.setCell ⟨w.heap.size, 1, none⟩ (.slice p4 (E.I.length + 1) c4)) (.slice (some ⟨w3.heap.size, 0, none⟩) 2 2, zz2)) := Lib.hid (((HV3.out.keepB hg4.size (hg4.block _ (Nat.lt_of_lt_of_le (Nat.lt_succ_self _) (by rw [size_alloc, size_alloc]; exact Nat.le_succ _)) (fun e => by have h9 : w3.heap.size < w3.heap.size := HOB.out _ e.symm; omega)))).keepB (by rw [set_size]; exact Nat.le_refl _) (Below.heap_setCell _ _ _ _ (by show w3.heap.size ≠ w.heap.size; omega)))); obtain ⟨zl, z0, z1, z2, z3, zf⟩ := hw4.box; clear hown4 hg4 hb4 hw4)
    clear xl x0 x1 x2 x3 xf zl z0 z1 z2 z3 zf
    generalize World.setCell _ _ _ = w5 at HW5 HO4 HV5 ⊢
    clear HW3 HNB HO3 HNW HV3
    obtain ⟨bl, b0, b1, b2, b3, bf⟩ := HW5.out.box
    obtain ⟨yl, y0, y1, y2, y3, yf⟩ := HW5.out.res
    go_wp2
    obtain ⟨⟨-, s0, s1, s2, s3, -⟩, htp, hst, hzz, hkk⟩ := HW5.out.fin hlt rfl
    have hcf := HE.out _ hst
    exact bodyPost_ret (v := .agg #[.string E.nm, .slice p4 (E.I.length + 1) c4, .slice E.pd E.D.length E.cd, .slice E.pu E.U.length E.cu]) (by simp [results, Tryd.results16, go_sem, s0, s1, s2, s3]) rfl
      ⟨⟨E.nm, p4, c4, tabR (G ++ [(z, .slice (some ⟨w3.heap.size, 0, none⟩) 2 2, zz2)]), E.pd, E.cd, E.D, E.pu, E.cu, E.U⟩, by rw [tabR_length, List.length_append, List.length_singleton, HGL.out], dlt_ins hcf (sd_own HO4.out hlo hkk) (fun g hg => by
        rcases List.mem_append.1 hg with hg | hg
        · exact HGG.out _ hst g hg
        · obtain rfl := List.mem_singleton.1 hg
          exact ⟨HV5.out.keepB hzz (hkk _ (by show w.heap.size + 2 ≤ w3.heap.size; omega)), zz2_sized⟩) (by rw [List.length_append, List.length_singleton]; omega), htp, hst, by dsimp only; rw [tabR_length, List.length_append, List.length_singleton, HGL.out]; omega, by dsimp only; omega, by dsimp only; omega⟩
  · obtain ⟨G, hGl, hGI, hGG, hGC⟩ := trows_list (fun v hv => (HE.out v hv).del) E.D.length (Nat.le_refl _)
    rw [List.take_length] at hGI
    have HGC := Lib.hid hGC
    have HGG : Hid (∀ v, StepT b w v → ∀ g ∈ G, Holds v (g.2.1, g.2.2) ∧ ValsSized g.2.2) := Lib.hid fun v hv g hg => ⟨hGG v hv g hg, (HE.out v hv).dsz (g.1, g.2.2) (by rw [← hGI]; exact List.mem_map.2 ⟨g, hg, rfl⟩)⟩
    have HGL := Lib.hid hGl
    have hgl : G.length ≤ 100 := by omega
    clear hGI hGG hGC hGl
    obtain ⟨i0, hi0, hz0, hz1, hz2⟩ := info_parts info_trow
    have HA := Lib.hid (HW1.out.low hlt hlo (below_alloc u1 (.cells #[] 53)))
    have HO := Lib.hid (towns_empty u1)
    have HN := Lib.hid (HGC.out _ HA.out.step)
    obtain ⟨xl, x0, x1, x2, x3, xf⟩ := HW1.out.box
    go_upto_region 12 with (fail)
    go_wp2_with (at_builtin; refine wpList_append_any rfl (.tmp 51) (.tmp 53) 25 53 rfl u1.heap.size i0 _ 2 32 Tryd.underlying25 hi0 hz0 hz1 hz2 rfl (by decide) _ 0 (tcells []) (by rfl) HO.out E.pd E.D.length E.cd (tcells G) (by rfl) (by rw [tcells_length, HGL.out]) (trows_news HN.out) (trows_nil HN.out) (tcells_one (fun g hg => (HGG.out _ HA.out.step g hg).1)) (by unfold maxLen; omega) (by omega) (by rw [size_alloc]; exact Nat.le_succ _) ?_; intro v2 w2 hown2 hg2; (have hb2 := grown_below (below_alloc u1 (.cells #[] 53)) (by rw [size_alloc]; exact Nat.le_succ _) hg2 (fun k hk => by cases hk; exact Nat.le_refl _)); (have HW2 := Lib.hid (HW1.out.low hlt hlo hb2)); (have HO2 : Hid (w2.ownsRow u1.heap.size 53 2 v2 G.length (tcells G)) := Lib.hid (by rw [Nat.zero_add, ← HGL.out] at hown2; exact hown2)); (have hz2' := hb2.size); clear hown2 hg2 hb2)
    clear xl x0 x1 x2 x3 xf HA HO HN HW1
    refine (next_any b 9 _ (by omega) (by omega) HW2.out.tape).mono ?_
    rintro e w3 ⟨z, rfl, hz30, hz31, ht3, hs3⟩
    have HW3 := Lib.hid (HW2.out.next hlt hs3 ht3)
    have HNB := Lib.hid (below_alloc w3 (.cells #[.int .i64 z, .slice none 0 0] 53))
    have HO3 := Lib.hid (owns_below (owns_step HO2.out (by omega) hs3) HNB.out)
    have hz3' : u1.heap.size ≤ w3.heap.size := Nat.le_trans hz2' hs3.size
    have HNW := Lib.hid (row2_new w3 (.int .i64 z) (.slice none 0 0) 53)
    have HOB : Hid (∀ k, v2.ownBlock = some k → k < w3.heap.size) := Lib.hid (fun k hk => owns_lt (owns_step HO2.out (by omega) hs3) k hk)
    clear HO2 HW2 ht3 hs3
    obtain ⟨xl, x0, x1, x2, x3, xf⟩ := HW3.out.box
    go_upto_region 17 with (at_builtin; refine wpList_append_trow rfl (.tmp 54) (.tmp 58) rfl u1.heap.size v2 G (by rfl) HO3.out (w3.heap.size) z (.slice none 0 0) [] (by rfl) HNW.out.1 HNW.out.2 rfl (by omega) (Nat.le_trans hz3' HNB.out.size) ?_; intro v4 w4 hown4 hg4; (have hb4 : Below u1.heap.size w3 w4 := grown_below (HNB.out.mono hz3') (Nat.le_trans hz3' HNB.out.size) hg4 (fun k hk => owns_block HO3.out k hk)); (have hw4 := HW3.out.low hlt hlo hb4); obtain ⟨p4, c4, e4⟩ := own_ex hown4; (have e5 : (G ++ [(z, (.slice none 0 0 : Value), ([] : List Val))]).length = E.D.length + 1 := by rw [List.length_append, List.length_singleton, HGL.out]); rw [e5] at e4; subst e4; (have HO4 : Hid ((w4.setCell ⟨w.heap.size, 2, none⟩ (.slice p4 (E.D.length + 1) c4)).ownsRow u1.heap.size 53 2 (.slice p4 (E.D.length + 1) c4) (G ++ [(z, (.slice none 0 0 : Value), ([] : List Val))]).length (tcells (G ++ [(z, .slice none 0 0, [])]))) := Lib.hid (owns_keep hown4 fun k hk => Below.heap_setCell _ _ _ _ (by have := owns_block hown4 k hk; show k ≠ w.heap.size; omega))); (have HW5 := Lib.hid (hw4.put hlt (hw4.box.set2 (.slice p4 (E.D.length + 1) c4)))); obtain ⟨zl, z0, z1, z2, z3, zf⟩ := hw4.box; clear hown4 hg4 hb4 hw4)
    clear xl x0 x1 x2 x3 xf zl z0 z1 z2 z3 zf
    generalize World.setCell _ _ _ = w5 at HW5 HO4 ⊢
    clear HW3 HNB HO3 HNW
    obtain ⟨bl, b0, b1, b2, b3, bf⟩ := HW5.out.box
    obtain ⟨yl, y0, y1, y2, y3, yf⟩ := HW5.out.res
    go_wp2
    obtain ⟨⟨-, s0, s1, s2, s3, -⟩, htp, hst, hzz, hkk⟩ := HW5.out.fin hlt rfl
    have hcf := HE.out _ hst
    exact bodyPost_ret (v := .agg #[.string E.nm, .slice E.pi E.I.length E.ci, .slice p4 (E.D.length + 1) c4, .slice E.pu E.U.length E.cu]) (by simp [results, Tryd.results16, go_sem, s0, s1, s2, s3]) rfl
      ⟨⟨E.nm, E.pi, E.ci, E.I, p4, c4, tabR (G ++ [(z, .slice none 0 0, [])]), E.pu, E.cu, E.U⟩, by rw [tabR_length, List.length_append, List.length_singleton, HGL.out], dlt_del hcf (sd_own HO4.out hlo hkk) (fun g hg => by
        rcases List.mem_append.1 hg with hg | hg
        · exact HGG.out _ hst g hg
        · obtain rfl := List.mem_singleton.1 hg
          exact ⟨Holds.nil _, vs_nil⟩) (by rw [List.length_append, List.length_singleton]; omega), htp, hst, by dsimp only; omega, by dsimp only; rw [tabR_length, List.length_append, List.length_singleton, HGL.out]; omega, by dsimp only; omega⟩
  · obtain ⟨P, hPl, hPU, hPG, hPC⟩ := pairs_list (fun v hv => (HE.out v hv).upd) E.U.length (Nat.le_refl _)
    rw [List.take_length] at hPU
    have HPC := Lib.hid hPC
    have HPG : Hid (∀ v, StepT b w v → ∀ x ∈ P, (Holds v x.2.1 ∧ Holds v x.2.2) ∧ ValsSized x.2.1.2 ∧ ValsSized x.2.2.2) := Lib.hid fun v hv x hx => ⟨hPG v hv x hx, (HE.out v hv).osz (unP x) (by rw [← hPU]; exact List.mem_map.2 ⟨x, hx, rfl⟩), (HE.out v hv).usz (unP x) (by rw [← hPU]; exact List.mem_map.2 ⟨x, hx, rfl⟩)⟩
    have HPL := Lib.hid hPl
    have hpl : P.length ≤ 100 := by omega
    clear hPU hPG hPC hPl
    obtain ⟨i0, hi0, hz0, hz1, hz2⟩ := info_parts info_pair
    have HA := Lib.hid (HW1.out.low hlt hlo (below_alloc u1 (.cells #[] 86)))
    have HO := Lib.hid (powns_empty u1)
    have HN := Lib.hid (HPC.out _ HA.out.step)
    obtain ⟨xl, x0, x1, x2, x3, xf⟩ := HW1.out.box
    go_upto_region 14 with (fail)
    go_wp2_with (at_builtin; refine wpList_append_any rfl (.tmp 63) (.tmp 65) 39 86 rfl u1.heap.size i0 _ 3 56 Tryd.underlying39 hi0 hz0 hz1 hz2 rfl (by decide) _ 0 (pcells []) (by rfl) HO.out E.pu E.U.length E.cu (pcells P) (by rfl) (by rw [pcells_length, HPL.out]) (pairs_news HN.out) (sd_pnil HN.out) (pcells_one (fun x hx => (HPG.out _ HA.out.step x hx).1)) (by unfold maxLen; omega) (by omega) (by rw [size_alloc]; exact Nat.le_succ _) ?_; intro v2 w2 hown2 hg2; (have hb2 := grown_below (below_alloc u1 (.cells #[] 86)) (by rw [size_alloc]; exact Nat.le_succ _) hg2 (fun k hk => by cases hk; exact Nat.le_refl _)); (have HW2 := Lib.hid (HW1.out.low hlt hlo hb2)); (have HO2 : Hid (w2.ownsRow u1.heap.size 86 3 v2 P.length (pcells P)) := Lib.hid (by rw [Nat.zero_add, ← HPL.out] at hown2; exact hown2)); (have hz2' := hb2.size); clear hown2 hg2 hb2)
    clear xl x0 x1 x2 x3 xf HA HO HN HW1
    refine (next_any b 9 _ (by omega) (by omega) HW2.out.tape).mono ?_
    rintro e w3 ⟨z, rfl, hz30, hz31, ht3, hs3⟩
    have HW3 := Lib.hid (HW2.out.next hlt hs3 ht3)
    have HNB := Lib.hid (below_alloc w3 (.cells #[.int .i64 z, .slice none 0 0, .slice none 0 0] 86))
    have HO3 := Lib.hid (owns_below (owns_step HO2.out (by omega) hs3) HNB.out)
    have hz3' : u1.heap.size ≤ w3.heap.size := Nat.le_trans hz2' hs3.size
    have HNW := Lib.hid (cell3_new w3 (.int .i64 z) (.slice none 0 0) (.slice none 0 0) 86)
    clear HO2 HW2 ht3 hs3
    obtain ⟨xl, x0, x1, x2, x3, xf⟩ := HW3.out.box
    go_upto_region 17 with (at_builtin; refine wpList_append_any rfl (.tmp 66) (.tmp 70) 39 86 rfl u1.heap.size i0 _ 3 56 Tryd.underlying39 hi0 hz0 hz1 hz2 rfl (by decide) v2 P.length (pcells P) (by rfl) HO3.out (some ⟨w3.heap.size, 0, none⟩) 1 1 [.int .i64 z, .slice none 0 0, .slice none 0 0] (by rfl) rfl (fun ad he => by cases he; exact pair_news HNW.out.c0 HNW.out.c1 HNW.out.c2) (fun e => by cases e) (by intro u hu; simp only [List.mem_cons, List.not_mem_nil, or_false] at hu; rcases hu with rfl | rfl | rfl <;> rfl) (by unfold maxLen; omega) (by omega) (by rw [size_alloc]; omega) ?_; intro v4 w4 hown4 hg4; (have hb4 : Below u1.heap.size w3 w4 := grown_below (HNB.out.mono hz3') (by rw [size_alloc]; omega) hg4 (fun k hk => owns_block HO3.out k hk)); (have hw4 := HW3.out.low hlt hlo hb4); obtain ⟨p4, c4, e4⟩ := own_ex hown4; rw [HPL.out] at e4; subst e4; (have HO4 : Hid ((w4.setCell ⟨w.heap.size, 3, none⟩ (.slice p4 (E.U.length + 1) c4)).ownsRow u1.heap.size 86 3 (.slice p4 (E.U.length + 1) c4) (P ++ [sd_zP z]).length (pcells (P ++ [sd_zP z]))) := Lib.hid (by rw [List.length_append, List.length_singleton, sd_pcells_snoc]; exact owns_keep hown4 fun k hk => Below.heap_setCell _ _ _ _ (by have := owns_block hown4 k hk; show k ≠ w.heap.size; omega))); (have HW5 := Lib.hid (hw4.put hlt (hw4.box.set3 (.slice p4 (E.U.length + 1) c4)))); obtain ⟨zl, z0, z1, z2, z3, zf⟩ := hw4.box; clear hown4 hg4 hb4 hw4)
    clear xl x0 x1 x2 x3 xf zl z0 z1 z2 z3 zf
    generalize World.setCell _ _ _ = w5 at HW5 HO4 ⊢
    clear HW3 HNB HO3 HNW
    obtain ⟨bl, b0, b1, b2, b3, bf⟩ := HW5.out.box
    obtain ⟨yl, y0, y1, y2, y3, yf⟩ := HW5.out.res
    go_wp2
    obtain ⟨⟨-, s0, s1, s2, s3, -⟩, htp, hst, hzz, hkk⟩ := HW5.out.fin hlt rfl
    have hcf := HE.out _ hst
    exact bodyPost_ret (v := .agg #[.string E.nm, .slice E.pi E.I.length E.ci, .slice E.pd E.D.length E.cd, .slice p4 (E.U.length + 1) c4]) (by simp [results, Tryd.results16, go_sem, s0, s1, s2, s3]) rfl
      ⟨⟨E.nm, E.pi, E.ci, E.I, E.pd, E.cd, E.D, p4, c4, (P ++ [sd_zP z]).map unP⟩, by rw [List.length_map, List.length_append, List.length_singleton, HPL.out], dlt_upd hcf (sd_own HO4.out hlo hkk) (fun x hx => by
        rcases List.mem_append.1 hx with hx | hx
        · exact HPG.out _ hst x hx
        · obtain rfl := List.mem_singleton.1 hx
          exact ⟨⟨Holds.nil _, Holds.nil _⟩, vs_nil, vs_nil⟩) (by rw [List.length_append, List.length_singleton]; omega), htp, hst, by dsimp only; omega, by dsimp only; omega, by dsimp only; rw [List.length_map, List.length_append, List.length_singleton, HPL.out]; omega⟩
  · obtain ⟨G, hGl, hGI, hGG, hGC⟩ := trows_list (fun v hv => (HE.out v hv).ins) E.I.length (Nat.le_refl _)
    rw [List.take_length] at hGI
    have HGC := Lib.hid hGC
    have HGG : Hid (∀ v, StepT b w v → ∀ g ∈ G, Holds v (g.2.1, g.2.2) ∧ ValsSized g.2.2) := Lib.hid fun v hv g hg => ⟨hGG v hv g hg, (HE.out v hv).isz (g.1, g.2.2) (by rw [← hGI]; exact List.mem_map.2 ⟨g, hg, rfl⟩)⟩
    have HGL := Lib.hid hGl
    have hgl : G.length ≤ 100 := by omega
    clear hGI hGG hGC hGl
    obtain ⟨i0, hi0, hz0, hz1, hz2⟩ := info_parts info_trow
    have HA := Lib.hid (HW1.out.low hlt hlo (below_alloc u1 (.cells #[.int .i64 9223372036854775807, .slice none 0 0] 53)))
    have HO := Lib.hid (towns_one u1 9223372036854775807)
    have HN := Lib.hid (HGC.out _ HA.out.step)
    obtain ⟨xl, x0, x1, x2, x3, xf⟩ := HW1.out.box
    go_upto_region 16 with (fail)
    go_upto_region 17 with (at_builtin; refine wpList_append_any rfl (.tmp 76) (.tmp 78) 25 53 rfl u1.heap.size i0 _ 2 32 Tryd.underlying25 hi0 hz0 hz1 hz2 rfl (by decide) _ 1 (tcells [(9223372036854775807, .slice none 0 0, [])]) (by rfl) HO.out E.pi E.I.length E.ci (tcells G) (by rfl) (by rw [tcells_length, HGL.out]) (trows_news HN.out) (trows_nil HN.out) (tcells_one (fun g hg => (HGG.out _ HA.out.step g hg).1)) (by unfold maxLen; omega) (by omega) (by rw [size_alloc]; exact Nat.le_succ _) ?_; intro v4 w4 hown4 hg4; (have hb4 := grown_below (below_alloc u1 (.cells #[.int .i64 9223372036854775807, .slice none 0 0] 53)) (by rw [size_alloc]; exact Nat.le_succ _) hg4 (fun k hk => by cases hk; exact Nat.le_refl _)); (have hw4 := HW1.out.low hlt hlo hb4); obtain ⟨p4, c4, e4⟩ := own_ex hown4; subst e4; (have HO4 : Hid ((w4.setCell ⟨w.heap.size, 1, none⟩ (.slice p4 (1 + E.I.length) c4)).ownsRow u1.heap.size 53 2 (.slice p4 (1 + E.I.length) c4) ([((9223372036854775807 : Int), (.slice none 0 0 : Value), ([] : List Val))] ++ G).length (tcells ([(9223372036854775807, .slice none 0 0, [])] ++ G))) := Lib.hid (by rw [List.length_append, List.length_singleton, HGL.out, tcells_append]; exact owns_keep hown4 fun k hk => Below.heap_setCell _ _ _ _ (by have := owns_block hown4 k hk; show k ≠ w.heap.size; omega))); (have HW5 := Lib.hid (hw4.put hlt (hw4.box.set1 (.slice p4 (1 + E.I.length) c4)))); obtain ⟨zl, z0, z1, z2, z3, zf⟩ := hw4.box; clear hown4 hg4 hb4 hw4)
    clear xl x0 x1 x2 x3 xf zl z0 z1 z2 z3 zf
    generalize World.setCell _ _ _ = w5 at HW5 HO4 ⊢
    clear HA HO HN HW1
    obtain ⟨bl, b0, b1, b2, b3, bf⟩ := HW5.out.box
    obtain ⟨yl, y0, y1, y2, y3, yf⟩ := HW5.out.res
    go_wp2
    obtain ⟨⟨-, s0, s1, s2, s3, -⟩, htp, hst, hzz, hkk⟩ := HW5.out.fin hlt rfl
    have hcf := HE.out _ hst
    exact bodyPost_ret (v := .agg #[.string E.nm, .slice p4 (1 + E.I.length) c4, .slice E.pd E.D.length E.cd, .slice E.pu E.U.length E.cu]) (by simp [results, Tryd.results16, go_sem, s0, s1, s2, s3]) rfl
      ⟨⟨E.nm, p4, c4, tabR ([(9223372036854775807, .slice none 0 0, [])] ++ G), E.pd, E.cd, E.D, E.pu, E.cu, E.U⟩, by rw [tabR_length, List.length_append, List.length_singleton, HGL.out], dlt_ins hcf (sd_own HO4.out hlo hkk) (fun g hg => by
        rcases List.mem_append.1 hg with hg | hg
        · obtain rfl := List.mem_singleton.1 hg
          exact ⟨Holds.nil _, vs_nil⟩
        · exact HGG.out _ hst g hg) (by rw [List.length_append, List.length_singleton]; omega), htp, hst, by dsimp only; rw [tabR_length, List.length_append, List.length_singleton, HGL.out]; omega, by dsimp only; omega, by dsimp only; omega⟩
  · obtain ⟨G, hGl, hGI, hGG, hGC⟩ := trows_list (fun v hv => (HE.out v hv).del) E.D.length (Nat.le_refl _)
    rw [List.take_length] at hGI
    have HGC := Lib.hid hGC
    have HGG : Hid (∀ v, StepT b w v → ∀ g ∈ G, Holds v (g.2.1, g.2.2) ∧ ValsSized g.2.2) := Lib.hid fun v hv g hg => ⟨hGG v hv g hg, (HE.out v hv).dsz (g.1, g.2.2) (by rw [← hGI]; exact List.mem_map.2 ⟨g, hg, rfl⟩)⟩
    have HGL := Lib.hid hGl
    clear hGI hGG hGC hGl
    obtain ⟨P, hPl, hPU, hPG, hPC⟩ := pairs_list (fun v hv => (HE.out v hv).upd) E.U.length (Nat.le_refl _)
    rw [List.take_length] at hPU
    have HU0 : Hid (SdU b w P E.pu E.cu u1) := Lib.hid ⟨fun v hv x hx => ⟨hPG v hv x hx, (HE.out v hv).osz (unP x) (by rw [← hPU]; exact List.mem_map.2 ⟨x, hx, rfl⟩), (HE.out v hv).usz (unP x) (by rw [← hPU]; exact List.mem_map.2 ⟨x, hx, rfl⟩)⟩,
      fun v hv _ => ⟨pairs_news (hPC v hv), by rw [hPU]; exact (HE.out v hv).upd⟩, sd_pnil (hPC u1 HW1.out.step), by rw [hPl]; exact (HE.out u1 HW1.out.step).ucap⟩
    rw [← hPl] at HW1
    have HPL := Lib.hid hPl
    clear hPU hPG hPC hPl
    obtain ⟨pd, hpd⟩ : ∃ pd, E.pd = pd := ⟨_, rfl⟩
    rw [hpd] at HW1 ⊢
    have HPD := Lib.hid hpd
    clear hpd
    obtain ⟨i0, hi0, hz0, hz1, hz2⟩ := info_parts info_pair
    obtain ⟨xl, x0, x1, x2, x3, xf⟩ := HW1.out.box
    go_wp2_with fail
    go_loopw [12] (fun i v => ∃ (k : Nat) (P2 : List GPair) (p : Option Addr) (cu : Nat), k ≤ E.D.length ∧ i = .int .i64 k ∧ P2.length = E.U.length + k ∧ SdU b w P2 p cu v ∧ SdW b w (.string E.nm) (.slice E.pi E.I.length E.ci) (.slice pd E.D.length E.cd) (.slice p P2.length cu) v) (fun i _ => E.D.length - (intOf i).toNat)
    case atStart => exact ⟨0, P, E.pu, E.cu, Nat.zero_le _, rfl, HPL.out, HU0.out, HW1.out⟩
    clear HU0 HW1 xl x0 x1 x2 x3 xf
    case round =>
      obtain ⟨k, P2, p, cu, hk, rfl, hPl2, hU, hw⟩ := hrel
      have HU := Lib.hid hU
      have HW := Lib.hid hw
      have HPL2 := Lib.hid hPl2
      have hP2 : P2.length ≤ 250 := by omega
      clear hU hw hPl2
      by_cases hlk : k < E.D.length
      · have hkd : decide ((k : Int) < E.D.length) = true := decide_eq_true (by omega)
        have hkG : k < G.length := by have := HGL.out; omega
        obtain ⟨c, o, hp, h0, h1⟩ := HGC.out _ HW.out.step k hkG
        rw [HPD.out] at hp
        subst hp
        have hgm := List.getElem_mem hkG
        obtain ⟨⟨id, hd, l⟩, hg⟩ : ∃ x, G[k] = x := ⟨_, rfl⟩
        rw [hg] at h0 h1 hgm
        dsimp only at h0 h1
        obtain ⟨⟨q, cq, hx, -⟩, -⟩ := HGG.out _ HW.out.step _ hgm
        dsimp only at hx
        subst hx
        have HNH : Hid (∀ x, StepT b w x → ∀ y ∈ P2 ++ [((id, ((.slice q l.length cq : Value), l), ((.slice q l.length cq : Value), l)) : GPair)], (Holds x y.2.1 ∧ Holds x y.2.2) ∧ ValsSized y.2.1.2 ∧ ValsSized y.2.2.2) := Lib.hid fun x hx y hy => by
          rcases List.mem_append.1 hy with hy | hy
          · exact HU.out.hold x hx y hy
          · obtain rfl := List.mem_singleton.1 hy
            obtain ⟨g1, g2⟩ := HGG.out x hx _ hgm
            exact ⟨⟨g1, g1⟩, g2, g2⟩
        have hbn := below_alloc wr (.cells #[.int .i64 id, .slice q l.length cq] 53)
        have HW2 := Lib.hid (sd_stay HW.out hlt hbn)
        have HU2 := Lib.hid (HU.out.to hbn)
        have HY2 := Lib.hid (cell2_new wr (.int .i64 id) (.slice q l.length cq) 53)
        clear HU HW hbn hg
        go_upto_region 5 with (fail)
        clear h0 h1
        generalize World.alloc _ _ = W2 at HW2 HU2 HY2 ⊢
        generalize wr.heap.size = Z at HY2 ⊢
        have hlo2 := HW2.out.lo
        have HSRC : Hid (∀ V, Below W2.heap.size W2 V → ∀ ad, p = some ad → ∀ j y, (pcells P2)[j]? = some y → V.cell? (ad.add j) = some y) := Lib.hid fun V hV => (HU2.out.src V (sd_stepB HW2.out.step hV (by omega)) fun k _ h2 => hV.block k h2).1
        have HND := Lib.hid HU2.out.nil
        have HONE := Lib.hid (pcells_one (v := W2) fun x hx => (HU2.out.hold W2 HW2.out.step x hx).1)
        refine wp_region_late (use := [[], [], [1], [0, 2], [], [4], [], [6], [], [8], [5, 7, 9], [10], [3, 11], [], [12, 13]]) (sl := [[16], [17], [18], [19], [20], [21], [22], [23], [24], [25], [26], [27], [28], [29], [28]]) (live := [[], [], [], [], [3, 12, 14], [3, 12, 14], [3, 12, 14], [3, 12, 14], [3, 12, 14], [3, 12, 14], [3, 12, 14], [3], [], [3, 12, 14], []]) (late := [3, 12, 14]) (brk := [14]) (B := w.heap.size) (J := fun u => Below W2.heap.size W2 u) (Φ := fun ix f u => match ix with | 0 => ∃ k, f 16 = .slice (some ⟨k, 0, none⟩) 0 0 ∧ u.ownsRow W2.heap.size 86 3 (f 16) 0 (pcells []) | 1 => f 17 = .pointer (some ⟨w.heap.size, 3, none⟩) | 2 => f 18 = .slice p P2.length cu | 3 => u.ownsRow W2.heap.size 86 3 (f 19) P2.length (pcells P2) | 4 => f 20 = .pointer (some ⟨Z, 0, none⟩) | 5 => f 21 = .int .i64 id | 6 => f 22 = .pointer (some ⟨Z, 1, none⟩) | 7 => f 23 = .slice q l.length cq | 8 => f 24 = .pointer (some ⟨Z, 1, none⟩) | 9 => f 25 = .slice q l.length cq | 10 => f 26 = .agg #[.int .i64 id, .slice q l.length cq, .slice q l.length cq] | 11 => ∃ k, f 27 = .slice (some ⟨k, 0, none⟩) 1 1 ∧ Cell3 u k (.int .i64 id) (.slice q l.length cq) (.slice q l.length cq) | 12 => u.ownsRow W2.heap.size 86 3 (f 28) (P2 ++ [((id, ((.slice q l.length cq : Value), l), ((.slice q l.length cq : Value), l)) : GPair)]).length (pcells (P2 ++ [((id, ((.slice q l.length cq : Value), l), ((.slice q l.length cq : Value), l)) : GPair)])) | 13 => f 29 = .pointer (some ⟨w.heap.size, 3, none⟩) | 14 => SdW b w (.string E.nm) (.slice E.pi E.I.length E.ci) (.slice (some ⟨c, o, none⟩) E.D.length E.cd) (f 28) u ∧ u.ownsRow W2.heap.size 86 3 (f 28) (P2 ++ [((id, ((.slice q l.length cq : Value), l), ((.slice q l.length cq : Value), l)) : GPair)]).length (pcells (P2 ++ [((id, ((.slice q l.length cq : Value), l), ((.slice q l.length cq : Value), l)) : GPair)])) | _ => True) (by kernel_rfl) _ rfl (by kernel_rfl) (by kernel_rfl) (by show w.heap.size ≤ W2.heap.size; omega) ((Below.refl W2.heap.size W2).drew) (fun u v h hb => below_next h hb) ?_ ?_ ?_ ?_
        · intro jx f g u u2 hs hb h
          match jx, hs, h with
          | 0, hs, h =>
            have e16 := hs 16 (by decide)
            simp only [e16]
            exact (by obtain ⟨k, h1, h2⟩ := h; exact ⟨k, h1, owns_below h2 hb⟩)
          | 1, hs, h =>
            have e17 := hs 17 (by decide)
            simp only [e17]
            exact h
          | 2, hs, h =>
            have e18 := hs 18 (by decide)
            simp only [e18]
            exact h
          | 3, hs, h =>
            have e19 := hs 19 (by decide)
            simp only [e19]
            exact owns_below h hb
          | 4, hs, h =>
            have e20 := hs 20 (by decide)
            simp only [e20]
            exact h
          | 5, hs, h =>
            have e21 := hs 21 (by decide)
            simp only [e21]
            exact h
          | 6, hs, h =>
            have e22 := hs 22 (by decide)
            simp only [e22]
            exact h
          | 7, hs, h =>
            have e23 := hs 23 (by decide)
            simp only [e23]
            exact h
          | 8, hs, h =>
            have e24 := hs 24 (by decide)
            simp only [e24]
            exact h
          | 9, hs, h =>
            have e25 := hs 25 (by decide)
            simp only [e25]
            exact h
          | 10, hs, h =>
            have e26 := hs 26 (by decide)
            simp only [e26]
            exact h
          | 11, hs, h =>
            have e27 := hs 27 (by decide)
            simp only [e27]
            exact (by obtain ⟨k, h1, h2⟩ := h; exact ⟨k, h1, h2.low hb⟩)
          | 12, hs, h =>
            have e28 := hs 28 (by decide)
            simp only [e28]
            exact owns_below h hb
          | 13, hs, h =>
            have e29 := hs 29 (by decide)
            simp only [e29]
            exact h
          | 14, hs, h =>
            have e28 := hs 28 (by decide)
            simp only [e28]
            exact ⟨sd_stay h.1 hlt hb, owns_below h.2 hb⟩
          | _ + 15, _, h => exact h
        · intro ix o hix hne f u hold hbe hgr hJ huse
          obtain ⟨kt, kc, kf⟩ := evF_all f
          match ix, hix, hne with
          | 0, hix, _ =>
            simp only [List.getElem?_cons_zero, Option.some.injEq] at hix
            subst hix
            have hgr2 : W2.heap.size ≤ u.heap.size := hgr
            refine gives_K fun K hK => ?_
            go_simp
            exact gives_value (hK _ _ ⟨below_alloc _ _, u.heap.size, by simp [upF], by simpa [upF] using owns_base (powns_empty u) hgr2⟩)
          | 1, hix, _ =>
            simp only [List.getElem?_cons_zero, List.getElem?_cons_succ, Option.some.injEq] at hix
            subst hix
            have h3 : f 3 = .pointer (some ⟨w.heap.size, 0, none⟩) := (hold 3 (by kernel_rfl)).trans rfl
            refine gives_K fun K hK => ?_
            go_simp
            exact gives_value (hK _ _ ⟨Below.refl _ _, by simp [upF]⟩)
          | 2, hix, _ =>
            simp only [List.getElem?_cons_zero, List.getElem?_cons_succ, Option.some.injEq] at hix
            subst hix
            have u1 := huse 1 (by decide)
            simp only at u1
            have hJw := hJ (by kernel_rfl)
            obtain ⟨xl, x0, x1, x2, x3, xf⟩ := (HW2.out.low hlt hlo2 hJw).box
            refine gives_K fun K hK => ?_
            go_simp
            exact gives_value (hK _ _ ⟨Below.refl _ _, by simp [upF]⟩)
          | 3, _, hne => exact absurd (by decide) hne
          | 4, hix, _ =>
            simp only [List.getElem?_cons_zero, List.getElem?_cons_succ, Option.some.injEq] at hix
            subst hix
            have h6 : f 6 = .pointer (some ⟨Z, 0, none⟩) := (hold 6 (by kernel_rfl)).trans rfl
            refine gives_K fun K hK => ?_
            go_simp
            exact gives_value (hK _ _ ⟨Below.refl _ _, by simp [upF]⟩)
          | 5, hix, _ =>
            simp only [List.getElem?_cons_zero, List.getElem?_cons_succ, Option.some.injEq] at hix
            subst hix
            have u4 := huse 4 (by decide)
            simp only at u4
            have hJw := hJ (by kernel_rfl)
            obtain ⟨zl, z0, z1, -⟩ := HY2.out.low hJw
            refine gives_K fun K hK => ?_
            go_simp
            exact gives_value (hK _ _ ⟨Below.refl _ _, by simp [upF]⟩)
          | 6, hix, _ =>
            simp only [List.getElem?_cons_zero, List.getElem?_cons_succ, Option.some.injEq] at hix
            subst hix
            have h6 : f 6 = .pointer (some ⟨Z, 0, none⟩) := (hold 6 (by kernel_rfl)).trans rfl
            refine gives_K fun K hK => ?_
            go_simp
            exact gives_value (hK _ _ ⟨Below.refl _ _, by simp [upF]⟩)
          | 7, hix, _ =>
            simp only [List.getElem?_cons_zero, List.getElem?_cons_succ, Option.some.injEq] at hix
            subst hix
            have u6 := huse 6 (by decide)
            simp only at u6
            have hJw := hJ (by kernel_rfl)
            obtain ⟨zl, z0, z1, -⟩ := HY2.out.low hJw
            refine gives_K fun K hK => ?_
            go_simp
            exact gives_value (hK _ _ ⟨Below.refl _ _, by simp [upF]⟩)
          | 8, hix, _ =>
            simp only [List.getElem?_cons_zero, List.getElem?_cons_succ, Option.some.injEq] at hix
            subst hix
            have h6 : f 6 = .pointer (some ⟨Z, 0, none⟩) := (hold 6 (by kernel_rfl)).trans rfl
            refine gives_K fun K hK => ?_
            go_simp
            exact gives_value (hK _ _ ⟨Below.refl _ _, by simp [upF]⟩)
          | 9, hix, _ =>
            simp only [List.getElem?_cons_zero, List.getElem?_cons_succ, Option.some.injEq] at hix
            subst hix
            have u8 := huse 8 (by decide)
            simp only at u8
            have hJw := hJ (by kernel_rfl)
            obtain ⟨zl, z0, z1, -⟩ := HY2.out.low hJw
            refine gives_K fun K hK => ?_
            go_simp
            exact gives_value (hK _ _ ⟨Below.refl _ _, by simp [upF]⟩)
          | 10, hix, _ =>
            simp only [List.getElem?_cons_zero, List.getElem?_cons_succ, Option.some.injEq] at hix
            subst hix
            have u5 := huse 5 (by decide)
            have u7 := huse 7 (by decide)
            have u9 := huse 9 (by decide)
            simp only at u5 u7 u9
            refine gives_K fun K hK => ?_
            go_simp
            exact gives_value (hK _ _ ⟨Below.refl _ _, by simp [upF]⟩)
          | 11, hix, _ =>
            simp only [List.getElem?_cons_zero, List.getElem?_cons_succ, Option.some.injEq] at hix
            subst hix
            have u10 := huse 10 (by decide)
            simp only at u10
            refine gives_K fun K hK => ?_
            go_simp
            exact gives_value (hK _ _ ⟨below_alloc _ _, u.heap.size, by simp [upF], cell3_new u (.int .i64 id) (.slice q l.length cq) (.slice q l.length cq) 86⟩)
          | 12, _, hne => exact absurd (by decide) hne
          | 13, hix, _ =>
            simp only [List.getElem?_cons_zero, List.getElem?_cons_succ, Option.some.injEq] at hix
            subst hix
            have h3 : f 3 = .pointer (some ⟨w.heap.size, 0, none⟩) := (hold 3 (by kernel_rfl)).trans rfl
            refine gives_K fun K hK => ?_
            go_simp
            exact gives_value (hK _ _ ⟨Below.refl _ _, by simp [upF]⟩)
          | 14, _, hne => exact absurd (by decide) hne
          | ix + 15, hix, _ => simp at hix
        · intro ix o hix hin f u hold hbe hgr hJ huse
          obtain ⟨kt, kc, kf⟩ := evF_all f
          match ix, hix, hin with
          | 0, _, hin => exact absurd hin (by decide)
          | 1, _, hin => exact absurd hin (by decide)
          | 2, _, hin => exact absurd hin (by decide)
          | 3, hix, _ =>
            simp only [List.getElem?_cons_zero, List.getElem?_cons_succ, Option.some.injEq] at hix
            subst hix
            have u0 := huse 0 (by decide)
            have u2 := huse 2 (by decide)
            simp only at u0 u2
            have hJw := hJ (by kernel_rfl)
            obtain ⟨k0, h16, ho16⟩ := u0
            refine gives_append_any (.tmp 16) (.tmp 18) 39 86 rfl W2.heap.size i0 _ 3 56 Tryd.underlying39 hi0 hz0 hz1 hz2 rfl (by decide) (f 16) 0 (pcells []) (kt 16) ho16 p P2.length cu (pcells P2) ((kt 18).trans u2) (by rw [pcells_length]) (HSRC.out u hJw) HND.out HONE.out (by unfold maxLen; omega) (by omega) hgr ?_
            intro v2 u2 hown hg
            rw [Nat.zero_add] at hown
            refine ⟨hg.size, grown_below hbe (Nat.le_trans (by show w.heap.size ≤ W2.heap.size; omega) hgr) hg (fun k hk => by have := owns_block ho16 k hk; omega), hown, fun _ => grown_below hJw hJw.size hg (fun k hk => owns_block ho16 k hk), ?_⟩
            intro jx hji hl hr hs h
            match jx, hji, hl, hr, hs, h with
            | 0, _, hl, _, _, _ => exact absurd hl (by decide)
            | 1, _, hl, _, _, _ => exact absurd hl (by decide)
            | 2, _, hl, _, _, _ => exact absurd hl (by decide)
            | 3, hji, _, _, _, _ => exact absurd rfl hji
            | 4, _, _, hr, hs, h =>
              have e20 := hs 20 (by decide)
              simp only [e20]
              exact h
            | 5, _, _, hr, hs, h =>
              have e21 := hs 21 (by decide)
              simp only [e21]
              exact h
            | 6, _, _, hr, hs, h =>
              have e22 := hs 22 (by decide)
              simp only [e22]
              exact h
            | 7, _, _, hr, hs, h =>
              have e23 := hs 23 (by decide)
              simp only [e23]
              exact h
            | 8, _, _, hr, hs, h =>
              have e24 := hs 24 (by decide)
              simp only [e24]
              exact h
            | 9, _, _, hr, hs, h =>
              have e25 := hs 25 (by decide)
              simp only [e25]
              exact h
            | 10, _, _, hr, hs, h =>
              have e26 := hs 26 (by decide)
              simp only [e26]
              exact h
            | 11, _, _, hr, hs, h =>
              have e27 := hs 27 (by decide)
              simp only [e27]
              obtain ⟨k, h27, hc1⟩ := h
              refine ⟨k, h27, sd_ch3N hc1 hg fun e => ?_⟩
              rw [h16] at e ho16
              obtain rfl : k0 = k := Option.some.inj e
              exact sd_capnil ho16 hc1
            | 12, _, hl, _, _, _ => exact absurd hl (by decide)
            | 13, _, _, hr, hs, h =>
              have e29 := hs 29 (by decide)
              simp only [e29]
              exact h
            | 14, _, hl, _, _, _ => exact absurd hl (by decide)
            | jx + 15, _, hl, _, _, _ => exact absurd hl (by simp)
          | 4, _, hin => exact absurd hin (by decide)
          | 5, _, hin => exact absurd hin (by decide)
          | 6, _, hin => exact absurd hin (by decide)
          | 7, _, hin => exact absurd hin (by decide)
          | 8, _, hin => exact absurd hin (by decide)
          | 9, _, hin => exact absurd hin (by decide)
          | 10, _, hin => exact absurd hin (by decide)
          | 11, _, hin => exact absurd hin (by decide)
          | 12, hix, _ =>
            simp only [List.getElem?_cons_zero, List.getElem?_cons_succ, Option.some.injEq] at hix
            subst hix
            have u3 := huse 3 (by decide)
            have u11 := huse 11 (by decide)
            simp only at u3 u11
            have hJw := hJ (by kernel_rfl)
            obtain ⟨k, h27, hc1⟩ := u11
            refine gives_append_any (.tmp 19) (.tmp 27) 39 86 rfl W2.heap.size i0 _ 3 56 Tryd.underlying39 hi0 hz0 hz1 hz2 rfl (by decide) (f 19) P2.length (pcells P2) (kt 19) u3 (some ⟨k, 0, none⟩) 1 1 [.int .i64 id, .slice q l.length cq, .slice q l.length cq] ((kt 27).trans h27) rfl (fun ad he => by cases he; exact pair_news hc1.c0 hc1.c1 hc1.c2) (fun e => by cases e) (by intro x hx; simp only [List.mem_cons, List.not_mem_nil, or_false] at hx; rcases hx with rfl | rfl | rfl <;> rfl) (by unfold maxLen; omega) (by omega) hgr ?_
            intro v2 u2 hown hg
            refine ⟨hg.size, grown_below hbe (Nat.le_trans (by show w.heap.size ≤ W2.heap.size; omega) hgr) hg (fun k hk => by have := owns_block u3 k hk; omega), by rw [List.length_append, List.length_singleton, sd_snoc]; exact hown, fun _ => grown_below hJw hJw.size hg (fun k hk => owns_block u3 k hk), ?_⟩
            intro jx hji hl hr hs h
            match jx, hji, hl, hr, hs, h with
            | 0, _, hl, _, _, _ => exact absurd hl (by decide)
            | 1, _, hl, _, _, _ => exact absurd hl (by decide)
            | 2, _, hl, _, _, _ => exact absurd hl (by decide)
            | 3, _, hl, _, _, _ => exact absurd hl (by decide)
            | 4, _, _, hr, hs, h =>
              have e20 := hs 20 (by decide)
              simp only [e20]
              exact h
            | 5, _, _, hr, hs, h =>
              have e21 := hs 21 (by decide)
              simp only [e21]
              exact h
            | 6, _, _, hr, hs, h =>
              have e22 := hs 22 (by decide)
              simp only [e22]
              exact h
            | 7, _, _, hr, hs, h =>
              have e23 := hs 23 (by decide)
              simp only [e23]
              exact h
            | 8, _, _, hr, hs, h =>
              have e24 := hs 24 (by decide)
              simp only [e24]
              exact h
            | 9, _, _, hr, hs, h =>
              have e25 := hs 25 (by decide)
              simp only [e25]
              exact h
            | 10, _, _, hr, hs, h =>
              have e26 := hs 26 (by decide)
              simp only [e26]
              exact h
            | 11, _, hl, _, _, _ => exact absurd hl (by decide)
            | 12, hji, _, _, _, _ => exact absurd rfl hji
            | 13, _, _, hr, hs, h =>
              have e29 := hs 29 (by decide)
              simp only [e29]
              exact h
            | 14, _, hl, _, _, _ => exact absurd hl (by decide)
            | jx + 15, _, hl, _, _, _ => exact absurd hl (by simp)
          | 13, _, hin => exact absurd hin (by decide)
          | 14, hix, _ =>
            simp only [List.getElem?_cons_zero, List.getElem?_cons_succ, Option.some.injEq] at hix
            subst hix
            have u12 := huse 12 (by decide)
            have u13 := huse 13 (by decide)
            simp only at u12 u13
            have hJw := hJ (by kernel_rfl)
            have hSL := HW2.out.low hlt hlo2 hJw
            have hS := hSL.put hlt (hSL.box.set3 (f 28))
            have hO := ownsRow_setCell_below u12 (a := ⟨w.heap.size, 3, none⟩) (show w.heap.size < W2.heap.size by omega) (f 28)
            obtain ⟨xl, x0, x1, x2, x3, xf⟩ := hSL.box
            obtain ⟨p28, c28, e28⟩ := own_ex u12
            rw [List.length_append, List.length_singleton] at e28
            have HS : Hid (SdW b w (.string E.nm) (.slice E.pi E.I.length E.ci) (.slice (some ⟨c, o, none⟩) E.D.length E.cd) (f 28) (u.setCell ⟨w.heap.size, 3, none⟩ (.slice p28 (P2.length + 1) c28))) := Lib.hid (by rw [← e28]; exact hS)
            have HO : Hid ((u.setCell ⟨w.heap.size, 3, none⟩ (.slice p28 (P2.length + 1) c28)).ownsRow W2.heap.size 86 3 (f 28) (P2 ++ [((id, ((.slice q l.length cq : Value), l), ((.slice q l.length cq : Value), l)) : GPair)]).length (pcells (P2 ++ [((id, ((.slice q l.length cq : Value), l), ((.slice q l.length cq : Value), l)) : GPair)]))) := Lib.hid (by rw [← e28]; exact hO)
            clear hSL hS hO
            have k28 := (kt 28).trans e28
            refine gives_K fun K hK => ?_
            go_simp
            refine gives_skip (hK _ _ ⟨by rw [set_size]; exact Nat.le_refl _, hbe.setCell (by exact Nat.le_refl _) _, ⟨HS.out, HO.out⟩, fun hbk => absurd (by decide) hbk, ?_⟩)
            intro jx hji hl hr hs h
            match jx, hji, hl, hr, hs, h with
            | 0, _, hl, _, _, _ => exact absurd hl (by decide)
            | 1, _, hl, _, _, _ => exact absurd hl (by decide)
            | 2, _, hl, _, _, _ => exact absurd hl (by decide)
            | 3, _, hl, _, _, _ => exact absurd hl (by decide)
            | 4, _, _, hr, hs, h =>
              have e20 := hs 20 (by decide)
              simp only [e20]
              exact h
            | 5, _, _, hr, hs, h =>
              have e21 := hs 21 (by decide)
              simp only [e21]
              exact h
            | 6, _, _, hr, hs, h =>
              have e22 := hs 22 (by decide)
              simp only [e22]
              exact h
            | 7, _, _, hr, hs, h =>
              have e23 := hs 23 (by decide)
              simp only [e23]
              exact h
            | 8, _, _, hr, hs, h =>
              have e24 := hs 24 (by decide)
              simp only [e24]
              exact h
            | 9, _, _, hr, hs, h =>
              have e25 := hs 25 (by decide)
              simp only [e25]
              exact h
            | 10, _, _, hr, hs, h =>
              have e26 := hs 26 (by decide)
              simp only [e26]
              exact h
            | 11, _, hl, _, _, _ => exact absurd hl (by decide)
            | 12, _, hl, _, _, _ => exact absurd hl (by decide)
            | 13, _, _, hr, hs, h =>
              have e29 := hs 29 (by decide)
              simp only [e29]
              exact h
            | 14, hji, _, _, _, _ => exact absurd rfl hji
            | jx + 15, _, hl, _, _, _ => exact absurd hl (by simp)
          | ix + 15, hix, _ => simp at hix
        · intro f2 u2 hbe hall
          have u14 := hall 14 (by decide) (by kernel_rfl)
          simp only at u14
          clear hall
          obtain ⟨hw5, ho4⟩ := u14
          have HW5 := Lib.hid hw5
          have HO4 := Lib.hid ho4
          obtain ⟨p4, c4, e4⟩ := own_ex ho4
          rw [List.length_append, List.length_singleton] at e4
          rw [e4] at HW5 HO4
          clear hw5 ho4 hbe
          simp only [putAll, List.foldl_cons, List.foldl_nil, Act.put, List.setIfInBounds_toArray, List.set_cons_succ, List.set_cons_zero]
          clear e4
          have HU5 := Lib.hid (sdu_own (b := b) (w := w) hlo2 HO4.out HNH.out)
          go_wp2_with fail
          go_roundw
          case rel => exact ⟨k + 1, _, p4, c4, by omega, by go_num, by rw [List.length_append, List.length_singleton, HPL2.out]; omega, HU5.out, by rw [List.length_append, List.length_singleton]; exact HW5.out⟩
          case measure => simp [intOf]; omega
      · have hkd : decide ((k : Int) < E.D.length) = false := decide_eq_false (by omega)
        obtain rfl : k = E.D.length := by omega
        obtain ⟨bl, b0, b1, b2, b3, bf⟩ := HW.out.box
        obtain ⟨yl, y0, y1, y2, y3, yf⟩ := HW.out.res
        go_wp2
        obtain ⟨⟨-, s0, s1, s2, s3, -⟩, htp, hst, hzz, hkk⟩ := HW.out.fin hlt rfl
        have hcf := HE.out _ hst
        exact bodyPost_ret (v := .agg #[.string E.nm, .slice E.pi E.I.length E.ci, .slice pd E.D.length E.cd, .slice p P2.length cu]) (by simp [results, Tryd.results16, go_sem, s0, s1, s2, s3]) rfl
          ⟨⟨E.nm, E.pi, E.ci, E.I, E.pd, E.cd, E.D, p, cu, P2.map unP⟩, by rw [HPD.out, List.length_map], dlt_updA hcf (HU.out.src _ hst fun k h1 _ => hkk k h1).2 (HU.out.hold _ hst) (by omega) HU.out.cap, htp, hst, by dsimp only; omega, by dsimp only; omega, by dsimp only; rw [List.length_map, HPL2.out]; omega⟩
end Go.Proofs.YtlelgkgdppkedaaDoor
