/-
  THE STATEMENT LogicLaws, as a walk.
-/
import Derived.Test.YtlnjdgmolmeklaaDoorLawLogicForms
namespace Go.Proofs.YtlnjdgmolmeklaaDoor
open Go.RowKit
variable {ls : List Nat}

/-- The place of the value that truths gives. -/
def truthP (i : Int) : Int := if modI i 3 = 0 then 1 else if modI i 3 = 1 then 0 else 2
/-- One of the three places. -/
def TV (p : Int) : Prop := p = 0 ∨ p = 1 ∨ p = 2
def notP (p : Int) : Int := 2 - p
theorem truthP_tv (i : Int) : TV (truthP i) := by
  unfold truthP TV
  split
  · exact Or.inr (Or.inl rfl)
  · split
    · exact Or.inl rfl
    · exact Or.inr (Or.inr rfl)

set_option maxHeartbeats 1000000 in
theorem truths_0 (i : Int) (w : World) (hm : modI i 3 = 0) :
    Calls Tryd.prog 14 #[.int .i64 i] w fun e w' => e = .returned (.agg #[.int .i64 0, .int .i64 0, .string ⟨#[]⟩]) ∧ Below w.heap.size w w' := by
  have HM := Lib.hid hm
  clear hm
  go_enter Tryd.func14, Tryd.ntmps14
  go_wp2_with fail
  refine (rtruth_any false _).mono ?_
  rintro e w1 ⟨rfl, hb1⟩
  obtain ⟨hR, hW⟩ := box_one _ _ _ _ _ hb1
  clear hb1
  go_wp2_with fail
  refine (rtruth_any true _).mono ?_
  rintro e w2 ⟨rfl, hb2⟩
  replace hR := hR.low hb2
  replace hW := Below.next hW hb2
  clear hb2
  go_wp2_with fail
  refine (mod_any _ _ _ (by omega) (by omega)).mono ?_
  rintro e w3 ⟨rfl, rfl⟩
  rw [HM.out]
  obtain ⟨rz, r0, r1, r2, rf⟩ := id hR
  have hz := hW.size
  go_wp2
  obtain ⟨-, s0, s1, s2, -⟩ := (cell3_set hR (.int .i64 0) (.int .i64 0) (.string ⟨#[]⟩)).low (below_alloc _ (.cells #[.int .i64 0, .int .i64 0, .string ⟨#[]⟩, .int .i64 2, .int .i64 0, .string ⟨#[]⟩, .int .i64 2, .int .i64 1, .string ⟨#[]⟩] 23))
  exact bodyPost_ret (v := .agg #[.int .i64 0, .int .i64 0, .string ⟨#[]⟩]) (by simp [results, Tryd.results14, go_sem, s0, s1, s2]) rfl ⟨rfl, Below.next (Below.three0 hW _ _ _) (below_alloc _ _)⟩

set_option maxHeartbeats 1000000 in
theorem truths_1 (i : Int) (w : World) (hm : modI i 3 = 1) :
    Calls Tryd.prog 14 #[.int .i64 i] w fun e w' => e = .returned (.agg #[.int .i64 2, .int .i64 0, .string ⟨#[]⟩]) ∧ Below w.heap.size w w' := by
  have HM := Lib.hid hm
  clear hm
  go_enter Tryd.func14, Tryd.ntmps14
  go_wp2_with fail
  refine (rtruth_any false _).mono ?_
  rintro e w1 ⟨rfl, hb1⟩
  obtain ⟨hR, hW⟩ := box_one _ _ _ _ _ hb1
  clear hb1
  go_wp2_with fail
  refine (rtruth_any true _).mono ?_
  rintro e w2 ⟨rfl, hb2⟩
  replace hR := hR.low hb2
  replace hW := Below.next hW hb2
  clear hb2
  go_wp2_with fail
  refine (mod_any _ _ _ (by omega) (by omega)).mono ?_
  rintro e w3 ⟨rfl, rfl⟩
  rw [HM.out]
  obtain ⟨rz, r0, r1, r2, rf⟩ := id hR
  have hz := hW.size
  go_wp2
  obtain ⟨-, s0, s1, s2, -⟩ := (cell3_set hR (.int .i64 2) (.int .i64 0) (.string ⟨#[]⟩)).low (below_alloc _ (.cells #[.int .i64 0, .int .i64 0, .string ⟨#[]⟩, .int .i64 2, .int .i64 0, .string ⟨#[]⟩, .int .i64 2, .int .i64 1, .string ⟨#[]⟩] 23))
  exact bodyPost_ret (v := .agg #[.int .i64 2, .int .i64 0, .string ⟨#[]⟩]) (by simp [results, Tryd.results14, go_sem, s0, s1, s2]) rfl ⟨rfl, Below.next (Below.three0 hW _ _ _) (below_alloc _ _)⟩

set_option maxHeartbeats 1000000 in
theorem truths_2 (i : Int) (w : World) (hm : modI i 3 = 2) :
    Calls Tryd.prog 14 #[.int .i64 i] w fun e w' => e = .returned (.agg #[.int .i64 2, .int .i64 1, .string ⟨#[]⟩]) ∧ Below w.heap.size w w' := by
  have HM := Lib.hid hm
  clear hm
  go_enter Tryd.func14, Tryd.ntmps14
  go_wp2_with fail
  refine (rtruth_any false _).mono ?_
  rintro e w1 ⟨rfl, hb1⟩
  obtain ⟨hR, hW⟩ := box_one _ _ _ _ _ hb1
  clear hb1
  go_wp2_with fail
  refine (rtruth_any true _).mono ?_
  rintro e w2 ⟨rfl, hb2⟩
  replace hR := hR.low hb2
  replace hW := Below.next hW hb2
  clear hb2
  go_wp2_with fail
  refine (mod_any _ _ _ (by omega) (by omega)).mono ?_
  rintro e w3 ⟨rfl, rfl⟩
  rw [HM.out]
  obtain ⟨rz, r0, r1, r2, rf⟩ := id hR
  have hz := hW.size
  go_wp2
  obtain ⟨-, s0, s1, s2, -⟩ := (cell3_set hR (.int .i64 2) (.int .i64 1) (.string ⟨#[]⟩)).low (below_alloc _ (.cells #[.int .i64 0, .int .i64 0, .string ⟨#[]⟩, .int .i64 2, .int .i64 0, .string ⟨#[]⟩, .int .i64 2, .int .i64 1, .string ⟨#[]⟩] 23))
  exact bodyPost_ret (v := .agg #[.int .i64 2, .int .i64 1, .string ⟨#[]⟩]) (by simp [results, Tryd.results14, go_sem, s0, s1, s2]) rfl ⟨rfl, Below.next (Below.three0 hW _ _ _) (below_alloc _ _)⟩

theorem truths_any (i : Int) (w : World) :
    Calls Tryd.prog 14 #[.int .i64 i] w fun e w' => e = .returned (.agg #[.int .i64 (tvK (truthP i)), .int .i64 (tvN (truthP i)), .string ⟨#[]⟩]) ∧ Below w.heap.size w w' := by
  have hb := modI_range i 3 (by omega)
  have h3 : modI i 3 = 0 ∨ modI i 3 = 1 ∨ modI i 3 = 2 := by omega
  rcases h3 with h | h | h
  · rw [show truthP i = 1 by unfold truthP; rw [h]; rfl]; exact truths_0 i w h
  · rw [show truthP i = 0 by unfold truthP; rw [h]; rfl]; exact truths_1 i w h
  · rw [show truthP i = 2 by unfold truthP; rw [h]; rfl]; exact truths_2 i w h

theorem tv_log {p : Int} (h : TV p) : logB (tvK p) (tvN p) ⟨#[]⟩ = true := by
  rcases h with rfl | rfl | rfl
  · exact log1
  · exact log0
  · exact log2
theorem tv_place {p : Int} (h : TV p) : placeI (tvK p) (tvN p) ⟨#[]⟩ = p := by
  rcases h with rfl | rfl | rfl
  · exact place1
  · exact place0
  · exact place2
theorem tvNot {p : Int} (h : TV p) : TV (notP p) := by
  unfold TV notP at *; omega
theorem tvAnd {p q : Int} (hp : TV p) (hq : TV q) : TV (andP p q) := by
  rcases hp with rfl | rfl | rfl <;> rcases hq with rfl | rfl | rfl <;> simp [TV, andP, andL]
theorem tvOr {p q : Int} (hp : TV p) (hq : TV q) : TV (orP p q) := by
  rcases hp with rfl | rfl | rfl <;> rcases hq with rfl | rfl | rfl <;> simp [TV, orP, orL]
theorem andP_comm {p q : Int} (hp : TV p) (hq : TV q) : andP p q = andP q p := by
  rcases hp with rfl | rfl | rfl <;> rcases hq with rfl | rfl | rfl <;> rfl
theorem andP_assoc {p q r : Int} (hp : TV p) (hq : TV q) (hr : TV r) : andP p (andP q r) = andP (andP p q) r := by
  rcases hp with rfl | rfl | rfl <;> rcases hq with rfl | rfl | rfl <;> rcases hr with rfl | rfl | rfl <;> rfl
theorem dual_law {p q : Int} (hp : TV p) (hq : TV q) : notP (orP (notP p) (notP q)) = andP p q := by
  rcases hp with rfl | rfl | rfl <;> rcases hq with rfl | rfl | rfl <;> rfl
theorem dist_law {p q r : Int} (hp : TV p) (hq : TV q) (hr : TV r) : orP (andP p q) (andP p r) = andP p (orP q r) := by
  rcases hp with rfl | rfl | rfl <;> rcases hq with rfl | rfl | rfl <;> rcases hr with rfl | rfl | rfl <;> rfl
theorem twice_law {p : Int} (_ : TV p) : notP (notP p) = p := by unfold notP; omega

theorem and_tv {p q : Int} (w : World) (hE : Env ls w) (hlA : 0 ∈ ls) (hp : TV p) (hq : TV q) :
    Calls Tryd.prog 15 #[.agg #[.int .i64 (tvK p), .int .i64 (tvN p), .string ⟨#[]⟩], .agg #[.int .i64 (tvK q), .int .i64 (tvN q), .string ⟨#[]⟩]] w fun e w' => e = ans (andP p q) true ∧ Below w.heap.size w w' := by
  have h := and_any (tvK p) (tvN p) ⟨#[]⟩ (tvK q) (tvN q) ⟨#[]⟩ w hE hlA (by decide) (by decide)
  unfold andQ at h
  rw [tv_log hp, tv_log hq, tv_place hp, tv_place hq] at h
  exact h
theorem or_tv {p q : Int} (w : World) (hE : Env ls w) (hlO : 1 ∈ ls) (hp : TV p) (hq : TV q) :
    Calls Tryd.prog 17 #[.agg #[.int .i64 (tvK p), .int .i64 (tvN p), .string ⟨#[]⟩], .agg #[.int .i64 (tvK q), .int .i64 (tvN q), .string ⟨#[]⟩]] w fun e w' => e = ans (orP p q) true ∧ Below w.heap.size w w' := by
  have h := or_any (tvK p) (tvN p) ⟨#[]⟩ (tvK q) (tvN q) ⟨#[]⟩ w hE hlO (by decide) (by decide)
  unfold orQ at h
  rw [tv_log hp, tv_log hq, tv_place hp, tv_place hq] at h
  exact h
theorem not_tv {p : Int} (w : World) (hp : TV p) :
    Calls Tryd.prog 16 #[.agg #[.int .i64 (tvK p), .int .i64 (tvN p), .string ⟨#[]⟩]] w fun e w' => e = ans (notP p) true ∧ Below w.heap.size w w' := by
  have h := not_any (tvK p) (tvN p) ⟨#[]⟩ w (by decide)
  unfold notQ at h
  rw [tv_log hp, tv_place hp] at h
  exact h

set_option maxRecDepth 100000 in
set_option maxHeartbeats 8000000 in
theorem llaws_walk (w : World) (i j l : Int) (hE : Env ls w) (hlA : 0 ∈ ls) (hlO : 1 ∈ ls) :
    Calls Tryd.prog 4 #[.int .i64 i, .int .i64 j, .int .i64 l] w fun e w' => e = .returned (.bool true) ∧ Below w.heap.size w w' := by
  have HP := Lib.hid (truthP_tv i)
  have HQ := Lib.hid (truthP_tv j)
  have HR := Lib.hid (truthP_tv l)
  go_enter Tryd.func4, Tryd.ntmps4
  go_wp2_with fail
  refine (truths_any _ _).mono ?_
  rintro e w1 ⟨rfl, hb1⟩
  replace hE := hE.low hb1
  go_wp2_with fail
  refine (truths_any _ _).mono ?_
  rintro e w2 ⟨rfl, hb2⟩
  replace hE := hE.low hb2
  go_wp2_with fail
  refine (truths_any _ _).mono ?_
  rintro e w3 ⟨rfl, hb3⟩
  replace hE := hE.low hb3
  have hW := Below.next (Below.next hb1 hb2) hb3
  clear hb1 hb2 hb3
  generalize truthP i = p at HP ⊢
  generalize truthP j = q at HQ ⊢
  generalize truthP l = r at HR ⊢
  go_upto_region 2 with (fail)
  have hA := ((cell3_new w3 (.int .i64 (tvK p)) (.int .i64 (tvN p)) (.string ⟨#[]⟩) 23).low (below_alloc _ (.cells #[.int .i64 (tvK q), .int .i64 (tvN q), .string ⟨#[]⟩] 23))).low (below_alloc _ (.cells #[.int .i64 (tvK r), .int .i64 (tvN r), .string ⟨#[]⟩] 23))
  have hB := ((cell3_new (w3.alloc (.cells #[.int .i64 (tvK p), .int .i64 (tvN p), .string ⟨#[]⟩] 23)) (.int .i64 (tvK q)) (.int .i64 (tvN q)) (.string ⟨#[]⟩) 23).low (below_alloc _ (.cells #[.int .i64 (tvK r), .int .i64 (tvN r), .string ⟨#[]⟩] 23))).at (size_alloc _ _)
  have hC := (cell3_new ((w3.alloc (.cells #[.int .i64 (tvK p), .int .i64 (tvN p), .string ⟨#[]⟩] 23)).alloc (.cells #[.int .i64 (tvK q), .int .i64 (tvN q), .string ⟨#[]⟩] 23)) (.int .i64 (tvK r)) (.int .i64 (tvN r)) (.string ⟨#[]⟩) 23).at (by rw [size_alloc, size_alloc] : _ = w3.heap.size + 1 + 1)
  replace hE := ((hE.alloc (.cells #[.int .i64 (tvK p), .int .i64 (tvN p), .string ⟨#[]⟩] 23)).alloc (.cells #[.int .i64 (tvK q), .int .i64 (tvN q), .string ⟨#[]⟩] 23)).alloc (.cells #[.int .i64 (tvK r), .int .i64 (tvN r), .string ⟨#[]⟩] 23)
  replace hW := Below.next (Below.next (Below.next hW (below_alloc _ (.cells #[.int .i64 (tvK p), .int .i64 (tvN p), .string ⟨#[]⟩] 23))) (below_alloc _ (.cells #[.int .i64 (tvK q), .int .i64 (tvN q), .string ⟨#[]⟩] 23))) (below_alloc _ (.cells #[.int .i64 (tvK r), .int .i64 (tvN r), .string ⟨#[]⟩] 23))
  generalize ((w3.alloc _).alloc _).alloc _ = u0 at hA hB hC hE hW ⊢
  generalize w3.heap.size + 1 + 1 = C at hC ⊢
  generalize w3.heap.size + 1 = B at hB ⊢
  generalize w3.heap.size = A at hA ⊢
  obtain ⟨zA, c0A, c1A, c2A, -⟩ := id hA
  obtain ⟨zB, c0B, c1B, c2B, -⟩ := id hB
  go_wp2_with fail
  refine (and_tv _ hE hlA HP.out HQ.out).mono ?_
  rintro e wn ⟨rfl, hbn⟩
  clear zA c0A c1A c2A zB c0B c1B c2B
  go_upto_region 3 with (fail)
  replace hA := (hA.low hbn).low (below_alloc _ (.cells #[.int .i64 (tvK (andP p q)), .int .i64 (tvN (andP p q)), .string ⟨#[]⟩] 23))
  replace hB := (hB.low hbn).low (below_alloc _ (.cells #[.int .i64 (tvK (andP p q)), .int .i64 (tvN (andP p q)), .string ⟨#[]⟩] 23))
  replace hC := (hC.low hbn).low (below_alloc _ (.cells #[.int .i64 (tvK (andP p q)), .int .i64 (tvN (andP p q)), .string ⟨#[]⟩] 23))
  have hAB := cell3_new wn (.int .i64 (tvK (andP p q))) (.int .i64 (tvN (andP p q))) (.string ⟨#[]⟩) 23
  replace hW := Below.next (Below.next hW hbn) (below_alloc _ (.cells #[.int .i64 (tvK (andP p q)), .int .i64 (tvN (andP p q)), .string ⟨#[]⟩] 23))
  replace hE := (hE.low hbn).alloc (.cells #[.int .i64 (tvK (andP p q)), .int .i64 (tvN (andP p q)), .string ⟨#[]⟩] 23)
  clear hbn
  generalize wn.alloc _ = u1 at hA hB hC hAB hW hE ⊢
  generalize wn.heap.size = AB at hAB ⊢
  obtain ⟨zB, c0B, c1B, c2B, -⟩ := id hB
  obtain ⟨zA, c0A, c1A, c2A, -⟩ := id hA
  go_wp2_with fail
  refine (and_tv _ hE hlA HQ.out HP.out).mono ?_
  rintro e wn ⟨rfl, hbn⟩
  rw [andP_comm HQ.out HP.out]
  clear zB c0B c1B c2B zA c0A c1A c2A
  go_upto_region 4 with (fail)
  replace hA := (hA.low hbn).low (below_alloc _ (.cells #[.int .i64 (tvK (andP p q)), .int .i64 (tvN (andP p q)), .string ⟨#[]⟩] 23))
  replace hB := (hB.low hbn).low (below_alloc _ (.cells #[.int .i64 (tvK (andP p q)), .int .i64 (tvN (andP p q)), .string ⟨#[]⟩] 23))
  replace hC := (hC.low hbn).low (below_alloc _ (.cells #[.int .i64 (tvK (andP p q)), .int .i64 (tvN (andP p q)), .string ⟨#[]⟩] 23))
  replace hAB := (hAB.low hbn).low (below_alloc _ (.cells #[.int .i64 (tvK (andP p q)), .int .i64 (tvN (andP p q)), .string ⟨#[]⟩] 23))
  have hBA := cell3_new wn (.int .i64 (tvK (andP p q))) (.int .i64 (tvN (andP p q))) (.string ⟨#[]⟩) 23
  replace hW := Below.next (Below.next hW hbn) (below_alloc _ (.cells #[.int .i64 (tvK (andP p q)), .int .i64 (tvN (andP p q)), .string ⟨#[]⟩] 23))
  replace hE := (hE.low hbn).alloc (.cells #[.int .i64 (tvK (andP p q)), .int .i64 (tvN (andP p q)), .string ⟨#[]⟩] 23)
  clear hbn
  generalize wn.alloc _ = u2 at hA hB hC hAB hBA hW hE ⊢
  generalize wn.heap.size = BA at hBA ⊢
  obtain ⟨zB, c0B, c1B, c2B, -⟩ := id hB
  obtain ⟨zC, c0C, c1C, c2C, -⟩ := id hC
  go_wp2_with fail
  refine (and_tv _ hE hlA HQ.out HR.out).mono ?_
  rintro e wn ⟨rfl, hbn⟩
  clear zB c0B c1B c2B zC c0C c1C c2C
  go_upto_region 5 with (fail)
  replace hA := (hA.low hbn).low (below_alloc _ (.cells #[.int .i64 (tvK (andP q r)), .int .i64 (tvN (andP q r)), .string ⟨#[]⟩] 23))
  replace hB := (hB.low hbn).low (below_alloc _ (.cells #[.int .i64 (tvK (andP q r)), .int .i64 (tvN (andP q r)), .string ⟨#[]⟩] 23))
  replace hC := (hC.low hbn).low (below_alloc _ (.cells #[.int .i64 (tvK (andP q r)), .int .i64 (tvN (andP q r)), .string ⟨#[]⟩] 23))
  replace hAB := (hAB.low hbn).low (below_alloc _ (.cells #[.int .i64 (tvK (andP q r)), .int .i64 (tvN (andP q r)), .string ⟨#[]⟩] 23))
  replace hBA := (hBA.low hbn).low (below_alloc _ (.cells #[.int .i64 (tvK (andP q r)), .int .i64 (tvN (andP q r)), .string ⟨#[]⟩] 23))
  have hBC := cell3_new wn (.int .i64 (tvK (andP q r))) (.int .i64 (tvN (andP q r))) (.string ⟨#[]⟩) 23
  replace hW := Below.next (Below.next hW hbn) (below_alloc _ (.cells #[.int .i64 (tvK (andP q r)), .int .i64 (tvN (andP q r)), .string ⟨#[]⟩] 23))
  replace hE := (hE.low hbn).alloc (.cells #[.int .i64 (tvK (andP q r)), .int .i64 (tvN (andP q r)), .string ⟨#[]⟩] 23)
  clear hbn
  generalize wn.alloc _ = u3 at hA hB hC hAB hBA hBC hW hE ⊢
  generalize wn.heap.size = BC at hBC ⊢
  obtain ⟨zAB, c0AB, c1AB, c2AB, -⟩ := id hAB
  obtain ⟨zC, c0C, c1C, c2C, -⟩ := id hC
  go_wp2_with fail
  refine (and_tv _ hE hlA (tvAnd HP.out HQ.out) HR.out).mono ?_
  rintro e wn ⟨rfl, hbn⟩
  clear zAB c0AB c1AB c2AB zC c0C c1C c2C
  go_upto_region 6 with (fail)
  replace hA := (hA.low hbn).low (below_alloc _ (.cells #[.int .i64 (tvK (andP (andP p q) r)), .int .i64 (tvN (andP (andP p q) r)), .string ⟨#[]⟩] 23))
  replace hB := (hB.low hbn).low (below_alloc _ (.cells #[.int .i64 (tvK (andP (andP p q) r)), .int .i64 (tvN (andP (andP p q) r)), .string ⟨#[]⟩] 23))
  replace hC := (hC.low hbn).low (below_alloc _ (.cells #[.int .i64 (tvK (andP (andP p q) r)), .int .i64 (tvN (andP (andP p q) r)), .string ⟨#[]⟩] 23))
  replace hAB := (hAB.low hbn).low (below_alloc _ (.cells #[.int .i64 (tvK (andP (andP p q) r)), .int .i64 (tvN (andP (andP p q) r)), .string ⟨#[]⟩] 23))
  replace hBA := (hBA.low hbn).low (below_alloc _ (.cells #[.int .i64 (tvK (andP (andP p q) r)), .int .i64 (tvN (andP (andP p q) r)), .string ⟨#[]⟩] 23))
  replace hBC := (hBC.low hbn).low (below_alloc _ (.cells #[.int .i64 (tvK (andP (andP p q) r)), .int .i64 (tvN (andP (andP p q) r)), .string ⟨#[]⟩] 23))
  have hX := cell3_new wn (.int .i64 (tvK (andP (andP p q) r))) (.int .i64 (tvN (andP (andP p q) r))) (.string ⟨#[]⟩) 23
  replace hW := Below.next (Below.next hW hbn) (below_alloc _ (.cells #[.int .i64 (tvK (andP (andP p q) r)), .int .i64 (tvN (andP (andP p q) r)), .string ⟨#[]⟩] 23))
  replace hE := (hE.low hbn).alloc (.cells #[.int .i64 (tvK (andP (andP p q) r)), .int .i64 (tvN (andP (andP p q) r)), .string ⟨#[]⟩] 23)
  clear hbn
  generalize wn.alloc _ = u4 at hA hB hC hAB hBA hBC hX hW hE ⊢
  generalize wn.heap.size = X at hX ⊢
  obtain ⟨zA, c0A, c1A, c2A, -⟩ := id hA
  obtain ⟨zBC, c0BC, c1BC, c2BC, -⟩ := id hBC
  go_wp2_with fail
  refine (and_tv _ hE hlA HP.out (tvAnd HQ.out HR.out)).mono ?_
  rintro e wn ⟨rfl, hbn⟩
  rw [andP_assoc HP.out HQ.out HR.out]
  clear zA c0A c1A c2A zBC c0BC c1BC c2BC
  go_upto_region 7 with (fail)
  replace hA := (hA.low hbn).low (below_alloc _ (.cells #[.int .i64 (tvK (andP (andP p q) r)), .int .i64 (tvN (andP (andP p q) r)), .string ⟨#[]⟩] 23))
  replace hB := (hB.low hbn).low (below_alloc _ (.cells #[.int .i64 (tvK (andP (andP p q) r)), .int .i64 (tvN (andP (andP p q) r)), .string ⟨#[]⟩] 23))
  replace hC := (hC.low hbn).low (below_alloc _ (.cells #[.int .i64 (tvK (andP (andP p q) r)), .int .i64 (tvN (andP (andP p q) r)), .string ⟨#[]⟩] 23))
  replace hAB := (hAB.low hbn).low (below_alloc _ (.cells #[.int .i64 (tvK (andP (andP p q) r)), .int .i64 (tvN (andP (andP p q) r)), .string ⟨#[]⟩] 23))
  replace hBA := (hBA.low hbn).low (below_alloc _ (.cells #[.int .i64 (tvK (andP (andP p q) r)), .int .i64 (tvN (andP (andP p q) r)), .string ⟨#[]⟩] 23))
  replace hBC := (hBC.low hbn).low (below_alloc _ (.cells #[.int .i64 (tvK (andP (andP p q) r)), .int .i64 (tvN (andP (andP p q) r)), .string ⟨#[]⟩] 23))
  replace hX := (hX.low hbn).low (below_alloc _ (.cells #[.int .i64 (tvK (andP (andP p q) r)), .int .i64 (tvN (andP (andP p q) r)), .string ⟨#[]⟩] 23))
  have hY := cell3_new wn (.int .i64 (tvK (andP (andP p q) r))) (.int .i64 (tvN (andP (andP p q) r))) (.string ⟨#[]⟩) 23
  replace hW := Below.next (Below.next hW hbn) (below_alloc _ (.cells #[.int .i64 (tvK (andP (andP p q) r)), .int .i64 (tvN (andP (andP p q) r)), .string ⟨#[]⟩] 23))
  replace hE := (hE.low hbn).alloc (.cells #[.int .i64 (tvK (andP (andP p q) r)), .int .i64 (tvN (andP (andP p q) r)), .string ⟨#[]⟩] 23)
  clear hbn
  generalize wn.alloc _ = u5 at hA hB hC hAB hBA hBC hX hY hW hE ⊢
  generalize wn.heap.size = Y at hY ⊢
  obtain ⟨zA, c0A, c1A, c2A, -⟩ := id hA
  go_wp2_with fail
  refine (not_tv _ HP.out).mono ?_
  rintro e wn ⟨rfl, hbn⟩
  clear zA c0A c1A c2A
  go_upto_region 8 with (fail)
  replace hA := (hA.low hbn).low (below_alloc _ (.cells #[.int .i64 (tvK (notP p)), .int .i64 (tvN (notP p)), .string ⟨#[]⟩] 23))
  replace hB := (hB.low hbn).low (below_alloc _ (.cells #[.int .i64 (tvK (notP p)), .int .i64 (tvN (notP p)), .string ⟨#[]⟩] 23))
  replace hC := (hC.low hbn).low (below_alloc _ (.cells #[.int .i64 (tvK (notP p)), .int .i64 (tvN (notP p)), .string ⟨#[]⟩] 23))
  replace hAB := (hAB.low hbn).low (below_alloc _ (.cells #[.int .i64 (tvK (notP p)), .int .i64 (tvN (notP p)), .string ⟨#[]⟩] 23))
  replace hBA := (hBA.low hbn).low (below_alloc _ (.cells #[.int .i64 (tvK (notP p)), .int .i64 (tvN (notP p)), .string ⟨#[]⟩] 23))
  replace hBC := (hBC.low hbn).low (below_alloc _ (.cells #[.int .i64 (tvK (notP p)), .int .i64 (tvN (notP p)), .string ⟨#[]⟩] 23))
  replace hX := (hX.low hbn).low (below_alloc _ (.cells #[.int .i64 (tvK (notP p)), .int .i64 (tvN (notP p)), .string ⟨#[]⟩] 23))
  replace hY := (hY.low hbn).low (below_alloc _ (.cells #[.int .i64 (tvK (notP p)), .int .i64 (tvN (notP p)), .string ⟨#[]⟩] 23))
  have hNA := cell3_new wn (.int .i64 (tvK (notP p))) (.int .i64 (tvN (notP p))) (.string ⟨#[]⟩) 23
  replace hW := Below.next (Below.next hW hbn) (below_alloc _ (.cells #[.int .i64 (tvK (notP p)), .int .i64 (tvN (notP p)), .string ⟨#[]⟩] 23))
  replace hE := (hE.low hbn).alloc (.cells #[.int .i64 (tvK (notP p)), .int .i64 (tvN (notP p)), .string ⟨#[]⟩] 23)
  clear hbn
  generalize wn.alloc _ = u6 at hA hB hC hAB hBA hBC hX hY hNA hW hE ⊢
  generalize wn.heap.size = NA at hNA ⊢
  obtain ⟨zB, c0B, c1B, c2B, -⟩ := id hB
  go_wp2_with fail
  refine (not_tv _ HQ.out).mono ?_
  rintro e wn ⟨rfl, hbn⟩
  clear zB c0B c1B c2B
  go_upto_region 9 with (fail)
  replace hA := (hA.low hbn).low (below_alloc _ (.cells #[.int .i64 (tvK (notP q)), .int .i64 (tvN (notP q)), .string ⟨#[]⟩] 23))
  replace hB := (hB.low hbn).low (below_alloc _ (.cells #[.int .i64 (tvK (notP q)), .int .i64 (tvN (notP q)), .string ⟨#[]⟩] 23))
  replace hC := (hC.low hbn).low (below_alloc _ (.cells #[.int .i64 (tvK (notP q)), .int .i64 (tvN (notP q)), .string ⟨#[]⟩] 23))
  replace hAB := (hAB.low hbn).low (below_alloc _ (.cells #[.int .i64 (tvK (notP q)), .int .i64 (tvN (notP q)), .string ⟨#[]⟩] 23))
  replace hBA := (hBA.low hbn).low (below_alloc _ (.cells #[.int .i64 (tvK (notP q)), .int .i64 (tvN (notP q)), .string ⟨#[]⟩] 23))
  replace hBC := (hBC.low hbn).low (below_alloc _ (.cells #[.int .i64 (tvK (notP q)), .int .i64 (tvN (notP q)), .string ⟨#[]⟩] 23))
  replace hX := (hX.low hbn).low (below_alloc _ (.cells #[.int .i64 (tvK (notP q)), .int .i64 (tvN (notP q)), .string ⟨#[]⟩] 23))
  replace hY := (hY.low hbn).low (below_alloc _ (.cells #[.int .i64 (tvK (notP q)), .int .i64 (tvN (notP q)), .string ⟨#[]⟩] 23))
  replace hNA := (hNA.low hbn).low (below_alloc _ (.cells #[.int .i64 (tvK (notP q)), .int .i64 (tvN (notP q)), .string ⟨#[]⟩] 23))
  have hNB := cell3_new wn (.int .i64 (tvK (notP q))) (.int .i64 (tvN (notP q))) (.string ⟨#[]⟩) 23
  replace hW := Below.next (Below.next hW hbn) (below_alloc _ (.cells #[.int .i64 (tvK (notP q)), .int .i64 (tvN (notP q)), .string ⟨#[]⟩] 23))
  replace hE := (hE.low hbn).alloc (.cells #[.int .i64 (tvK (notP q)), .int .i64 (tvN (notP q)), .string ⟨#[]⟩] 23)
  clear hbn
  generalize wn.alloc _ = u7 at hA hB hC hAB hBA hBC hX hY hNA hNB hW hE ⊢
  generalize wn.heap.size = NB at hNB ⊢
  obtain ⟨zNA, c0NA, c1NA, c2NA, -⟩ := id hNA
  obtain ⟨zNB, c0NB, c1NB, c2NB, -⟩ := id hNB
  go_wp2_with fail
  refine (or_tv _ hE hlO (tvNot HP.out) (tvNot HQ.out)).mono ?_
  rintro e wn ⟨rfl, hbn⟩
  clear zNA c0NA c1NA c2NA zNB c0NB c1NB c2NB
  go_upto_region 10 with (fail)
  replace hA := (hA.low hbn).low (below_alloc _ (.cells #[.int .i64 (tvK (orP (notP p) (notP q))), .int .i64 (tvN (orP (notP p) (notP q))), .string ⟨#[]⟩] 23))
  replace hB := (hB.low hbn).low (below_alloc _ (.cells #[.int .i64 (tvK (orP (notP p) (notP q))), .int .i64 (tvN (orP (notP p) (notP q))), .string ⟨#[]⟩] 23))
  replace hC := (hC.low hbn).low (below_alloc _ (.cells #[.int .i64 (tvK (orP (notP p) (notP q))), .int .i64 (tvN (orP (notP p) (notP q))), .string ⟨#[]⟩] 23))
  replace hAB := (hAB.low hbn).low (below_alloc _ (.cells #[.int .i64 (tvK (orP (notP p) (notP q))), .int .i64 (tvN (orP (notP p) (notP q))), .string ⟨#[]⟩] 23))
  replace hBA := (hBA.low hbn).low (below_alloc _ (.cells #[.int .i64 (tvK (orP (notP p) (notP q))), .int .i64 (tvN (orP (notP p) (notP q))), .string ⟨#[]⟩] 23))
  replace hBC := (hBC.low hbn).low (below_alloc _ (.cells #[.int .i64 (tvK (orP (notP p) (notP q))), .int .i64 (tvN (orP (notP p) (notP q))), .string ⟨#[]⟩] 23))
  replace hX := (hX.low hbn).low (below_alloc _ (.cells #[.int .i64 (tvK (orP (notP p) (notP q))), .int .i64 (tvN (orP (notP p) (notP q))), .string ⟨#[]⟩] 23))
  replace hY := (hY.low hbn).low (below_alloc _ (.cells #[.int .i64 (tvK (orP (notP p) (notP q))), .int .i64 (tvN (orP (notP p) (notP q))), .string ⟨#[]⟩] 23))
  replace hNA := (hNA.low hbn).low (below_alloc _ (.cells #[.int .i64 (tvK (orP (notP p) (notP q))), .int .i64 (tvN (orP (notP p) (notP q))), .string ⟨#[]⟩] 23))
  replace hNB := (hNB.low hbn).low (below_alloc _ (.cells #[.int .i64 (tvK (orP (notP p) (notP q))), .int .i64 (tvN (orP (notP p) (notP q))), .string ⟨#[]⟩] 23))
  have hOR := cell3_new wn (.int .i64 (tvK (orP (notP p) (notP q)))) (.int .i64 (tvN (orP (notP p) (notP q)))) (.string ⟨#[]⟩) 23
  replace hW := Below.next (Below.next hW hbn) (below_alloc _ (.cells #[.int .i64 (tvK (orP (notP p) (notP q))), .int .i64 (tvN (orP (notP p) (notP q))), .string ⟨#[]⟩] 23))
  replace hE := (hE.low hbn).alloc (.cells #[.int .i64 (tvK (orP (notP p) (notP q))), .int .i64 (tvN (orP (notP p) (notP q))), .string ⟨#[]⟩] 23)
  clear hbn
  generalize wn.alloc _ = u8 at hA hB hC hAB hBA hBC hX hY hNA hNB hOR hW hE ⊢
  generalize wn.heap.size = OR at hOR ⊢
  obtain ⟨zOR, c0OR, c1OR, c2OR, -⟩ := id hOR
  go_wp2_with fail
  refine (not_tv _ (tvOr (tvNot HP.out) (tvNot HQ.out))).mono ?_
  rintro e wn ⟨rfl, hbn⟩
  rw [dual_law HP.out HQ.out]
  clear zOR c0OR c1OR c2OR
  go_upto_region 11 with (fail)
  replace hA := (hA.low hbn).low (below_alloc _ (.cells #[.int .i64 (tvK (andP p q)), .int .i64 (tvN (andP p q)), .string ⟨#[]⟩] 23))
  replace hB := (hB.low hbn).low (below_alloc _ (.cells #[.int .i64 (tvK (andP p q)), .int .i64 (tvN (andP p q)), .string ⟨#[]⟩] 23))
  replace hC := (hC.low hbn).low (below_alloc _ (.cells #[.int .i64 (tvK (andP p q)), .int .i64 (tvN (andP p q)), .string ⟨#[]⟩] 23))
  replace hAB := (hAB.low hbn).low (below_alloc _ (.cells #[.int .i64 (tvK (andP p q)), .int .i64 (tvN (andP p q)), .string ⟨#[]⟩] 23))
  replace hBA := (hBA.low hbn).low (below_alloc _ (.cells #[.int .i64 (tvK (andP p q)), .int .i64 (tvN (andP p q)), .string ⟨#[]⟩] 23))
  replace hBC := (hBC.low hbn).low (below_alloc _ (.cells #[.int .i64 (tvK (andP p q)), .int .i64 (tvN (andP p q)), .string ⟨#[]⟩] 23))
  replace hX := (hX.low hbn).low (below_alloc _ (.cells #[.int .i64 (tvK (andP p q)), .int .i64 (tvN (andP p q)), .string ⟨#[]⟩] 23))
  replace hY := (hY.low hbn).low (below_alloc _ (.cells #[.int .i64 (tvK (andP p q)), .int .i64 (tvN (andP p q)), .string ⟨#[]⟩] 23))
  replace hNA := (hNA.low hbn).low (below_alloc _ (.cells #[.int .i64 (tvK (andP p q)), .int .i64 (tvN (andP p q)), .string ⟨#[]⟩] 23))
  replace hNB := (hNB.low hbn).low (below_alloc _ (.cells #[.int .i64 (tvK (andP p q)), .int .i64 (tvN (andP p q)), .string ⟨#[]⟩] 23))
  replace hOR := (hOR.low hbn).low (below_alloc _ (.cells #[.int .i64 (tvK (andP p q)), .int .i64 (tvN (andP p q)), .string ⟨#[]⟩] 23))
  have hDU := cell3_new wn (.int .i64 (tvK (andP p q))) (.int .i64 (tvN (andP p q))) (.string ⟨#[]⟩) 23
  replace hW := Below.next (Below.next hW hbn) (below_alloc _ (.cells #[.int .i64 (tvK (andP p q)), .int .i64 (tvN (andP p q)), .string ⟨#[]⟩] 23))
  replace hE := (hE.low hbn).alloc (.cells #[.int .i64 (tvK (andP p q)), .int .i64 (tvN (andP p q)), .string ⟨#[]⟩] 23)
  clear hbn
  generalize wn.alloc _ = u9 at hA hB hC hAB hBA hBC hX hY hNA hNB hOR hDU hW hE ⊢
  generalize wn.heap.size = DU at hDU ⊢
  obtain ⟨zB, c0B, c1B, c2B, -⟩ := id hB
  obtain ⟨zC, c0C, c1C, c2C, -⟩ := id hC
  go_wp2_with fail
  refine (or_tv _ hE hlO HQ.out HR.out).mono ?_
  rintro e wn ⟨rfl, hbn⟩
  clear zB c0B c1B c2B zC c0C c1C c2C
  go_upto_region 12 with (fail)
  replace hA := (hA.low hbn).low (below_alloc _ (.cells #[.int .i64 (tvK (orP q r)), .int .i64 (tvN (orP q r)), .string ⟨#[]⟩] 23))
  replace hB := (hB.low hbn).low (below_alloc _ (.cells #[.int .i64 (tvK (orP q r)), .int .i64 (tvN (orP q r)), .string ⟨#[]⟩] 23))
  replace hC := (hC.low hbn).low (below_alloc _ (.cells #[.int .i64 (tvK (orP q r)), .int .i64 (tvN (orP q r)), .string ⟨#[]⟩] 23))
  replace hAB := (hAB.low hbn).low (below_alloc _ (.cells #[.int .i64 (tvK (orP q r)), .int .i64 (tvN (orP q r)), .string ⟨#[]⟩] 23))
  replace hBA := (hBA.low hbn).low (below_alloc _ (.cells #[.int .i64 (tvK (orP q r)), .int .i64 (tvN (orP q r)), .string ⟨#[]⟩] 23))
  replace hBC := (hBC.low hbn).low (below_alloc _ (.cells #[.int .i64 (tvK (orP q r)), .int .i64 (tvN (orP q r)), .string ⟨#[]⟩] 23))
  replace hX := (hX.low hbn).low (below_alloc _ (.cells #[.int .i64 (tvK (orP q r)), .int .i64 (tvN (orP q r)), .string ⟨#[]⟩] 23))
  replace hY := (hY.low hbn).low (below_alloc _ (.cells #[.int .i64 (tvK (orP q r)), .int .i64 (tvN (orP q r)), .string ⟨#[]⟩] 23))
  replace hNA := (hNA.low hbn).low (below_alloc _ (.cells #[.int .i64 (tvK (orP q r)), .int .i64 (tvN (orP q r)), .string ⟨#[]⟩] 23))
  replace hNB := (hNB.low hbn).low (below_alloc _ (.cells #[.int .i64 (tvK (orP q r)), .int .i64 (tvN (orP q r)), .string ⟨#[]⟩] 23))
  replace hOR := (hOR.low hbn).low (below_alloc _ (.cells #[.int .i64 (tvK (orP q r)), .int .i64 (tvN (orP q r)), .string ⟨#[]⟩] 23))
  replace hDU := (hDU.low hbn).low (below_alloc _ (.cells #[.int .i64 (tvK (orP q r)), .int .i64 (tvN (orP q r)), .string ⟨#[]⟩] 23))
  have hBO := cell3_new wn (.int .i64 (tvK (orP q r))) (.int .i64 (tvN (orP q r))) (.string ⟨#[]⟩) 23
  replace hW := Below.next (Below.next hW hbn) (below_alloc _ (.cells #[.int .i64 (tvK (orP q r)), .int .i64 (tvN (orP q r)), .string ⟨#[]⟩] 23))
  replace hE := (hE.low hbn).alloc (.cells #[.int .i64 (tvK (orP q r)), .int .i64 (tvN (orP q r)), .string ⟨#[]⟩] 23)
  clear hbn
  generalize wn.alloc _ = u10 at hA hB hC hAB hBA hBC hX hY hNA hNB hOR hDU hBO hW hE ⊢
  generalize wn.heap.size = BO at hBO ⊢
  obtain ⟨zA, c0A, c1A, c2A, -⟩ := id hA
  obtain ⟨zBO, c0BO, c1BO, c2BO, -⟩ := id hBO
  go_wp2_with fail
  refine (and_tv _ hE hlA HP.out (tvOr HQ.out HR.out)).mono ?_
  rintro e wn ⟨rfl, hbn⟩
  clear zA c0A c1A c2A zBO c0BO c1BO c2BO
  go_upto_region 13 with (fail)
  replace hA := (hA.low hbn).low (below_alloc _ (.cells #[.int .i64 (tvK (andP p (orP q r))), .int .i64 (tvN (andP p (orP q r))), .string ⟨#[]⟩] 23))
  replace hB := (hB.low hbn).low (below_alloc _ (.cells #[.int .i64 (tvK (andP p (orP q r))), .int .i64 (tvN (andP p (orP q r))), .string ⟨#[]⟩] 23))
  replace hC := (hC.low hbn).low (below_alloc _ (.cells #[.int .i64 (tvK (andP p (orP q r))), .int .i64 (tvN (andP p (orP q r))), .string ⟨#[]⟩] 23))
  replace hAB := (hAB.low hbn).low (below_alloc _ (.cells #[.int .i64 (tvK (andP p (orP q r))), .int .i64 (tvN (andP p (orP q r))), .string ⟨#[]⟩] 23))
  replace hBA := (hBA.low hbn).low (below_alloc _ (.cells #[.int .i64 (tvK (andP p (orP q r))), .int .i64 (tvN (andP p (orP q r))), .string ⟨#[]⟩] 23))
  replace hBC := (hBC.low hbn).low (below_alloc _ (.cells #[.int .i64 (tvK (andP p (orP q r))), .int .i64 (tvN (andP p (orP q r))), .string ⟨#[]⟩] 23))
  replace hX := (hX.low hbn).low (below_alloc _ (.cells #[.int .i64 (tvK (andP p (orP q r))), .int .i64 (tvN (andP p (orP q r))), .string ⟨#[]⟩] 23))
  replace hY := (hY.low hbn).low (below_alloc _ (.cells #[.int .i64 (tvK (andP p (orP q r))), .int .i64 (tvN (andP p (orP q r))), .string ⟨#[]⟩] 23))
  replace hNA := (hNA.low hbn).low (below_alloc _ (.cells #[.int .i64 (tvK (andP p (orP q r))), .int .i64 (tvN (andP p (orP q r))), .string ⟨#[]⟩] 23))
  replace hNB := (hNB.low hbn).low (below_alloc _ (.cells #[.int .i64 (tvK (andP p (orP q r))), .int .i64 (tvN (andP p (orP q r))), .string ⟨#[]⟩] 23))
  replace hOR := (hOR.low hbn).low (below_alloc _ (.cells #[.int .i64 (tvK (andP p (orP q r))), .int .i64 (tvN (andP p (orP q r))), .string ⟨#[]⟩] 23))
  replace hDU := (hDU.low hbn).low (below_alloc _ (.cells #[.int .i64 (tvK (andP p (orP q r))), .int .i64 (tvN (andP p (orP q r))), .string ⟨#[]⟩] 23))
  replace hBO := (hBO.low hbn).low (below_alloc _ (.cells #[.int .i64 (tvK (andP p (orP q r))), .int .i64 (tvN (andP p (orP q r))), .string ⟨#[]⟩] 23))
  have hLE := cell3_new wn (.int .i64 (tvK (andP p (orP q r)))) (.int .i64 (tvN (andP p (orP q r)))) (.string ⟨#[]⟩) 23
  replace hW := Below.next (Below.next hW hbn) (below_alloc _ (.cells #[.int .i64 (tvK (andP p (orP q r))), .int .i64 (tvN (andP p (orP q r))), .string ⟨#[]⟩] 23))
  replace hE := (hE.low hbn).alloc (.cells #[.int .i64 (tvK (andP p (orP q r))), .int .i64 (tvN (andP p (orP q r))), .string ⟨#[]⟩] 23)
  clear hbn
  generalize wn.alloc _ = u11 at hA hB hC hAB hBA hBC hX hY hNA hNB hOR hDU hBO hLE hW hE ⊢
  generalize wn.heap.size = LE at hLE ⊢
  obtain ⟨zA, c0A, c1A, c2A, -⟩ := id hA
  obtain ⟨zC, c0C, c1C, c2C, -⟩ := id hC
  go_wp2_with fail
  refine (and_tv _ hE hlA HP.out HR.out).mono ?_
  rintro e wn ⟨rfl, hbn⟩
  clear zA c0A c1A c2A zC c0C c1C c2C
  go_upto_region 14 with (fail)
  replace hA := (hA.low hbn).low (below_alloc _ (.cells #[.int .i64 (tvK (andP p r)), .int .i64 (tvN (andP p r)), .string ⟨#[]⟩] 23))
  replace hB := (hB.low hbn).low (below_alloc _ (.cells #[.int .i64 (tvK (andP p r)), .int .i64 (tvN (andP p r)), .string ⟨#[]⟩] 23))
  replace hC := (hC.low hbn).low (below_alloc _ (.cells #[.int .i64 (tvK (andP p r)), .int .i64 (tvN (andP p r)), .string ⟨#[]⟩] 23))
  replace hAB := (hAB.low hbn).low (below_alloc _ (.cells #[.int .i64 (tvK (andP p r)), .int .i64 (tvN (andP p r)), .string ⟨#[]⟩] 23))
  replace hBA := (hBA.low hbn).low (below_alloc _ (.cells #[.int .i64 (tvK (andP p r)), .int .i64 (tvN (andP p r)), .string ⟨#[]⟩] 23))
  replace hBC := (hBC.low hbn).low (below_alloc _ (.cells #[.int .i64 (tvK (andP p r)), .int .i64 (tvN (andP p r)), .string ⟨#[]⟩] 23))
  replace hX := (hX.low hbn).low (below_alloc _ (.cells #[.int .i64 (tvK (andP p r)), .int .i64 (tvN (andP p r)), .string ⟨#[]⟩] 23))
  replace hY := (hY.low hbn).low (below_alloc _ (.cells #[.int .i64 (tvK (andP p r)), .int .i64 (tvN (andP p r)), .string ⟨#[]⟩] 23))
  replace hNA := (hNA.low hbn).low (below_alloc _ (.cells #[.int .i64 (tvK (andP p r)), .int .i64 (tvN (andP p r)), .string ⟨#[]⟩] 23))
  replace hNB := (hNB.low hbn).low (below_alloc _ (.cells #[.int .i64 (tvK (andP p r)), .int .i64 (tvN (andP p r)), .string ⟨#[]⟩] 23))
  replace hOR := (hOR.low hbn).low (below_alloc _ (.cells #[.int .i64 (tvK (andP p r)), .int .i64 (tvN (andP p r)), .string ⟨#[]⟩] 23))
  replace hDU := (hDU.low hbn).low (below_alloc _ (.cells #[.int .i64 (tvK (andP p r)), .int .i64 (tvN (andP p r)), .string ⟨#[]⟩] 23))
  replace hBO := (hBO.low hbn).low (below_alloc _ (.cells #[.int .i64 (tvK (andP p r)), .int .i64 (tvN (andP p r)), .string ⟨#[]⟩] 23))
  replace hLE := (hLE.low hbn).low (below_alloc _ (.cells #[.int .i64 (tvK (andP p r)), .int .i64 (tvN (andP p r)), .string ⟨#[]⟩] 23))
  have hAC := cell3_new wn (.int .i64 (tvK (andP p r))) (.int .i64 (tvN (andP p r))) (.string ⟨#[]⟩) 23
  replace hW := Below.next (Below.next hW hbn) (below_alloc _ (.cells #[.int .i64 (tvK (andP p r)), .int .i64 (tvN (andP p r)), .string ⟨#[]⟩] 23))
  replace hE := (hE.low hbn).alloc (.cells #[.int .i64 (tvK (andP p r)), .int .i64 (tvN (andP p r)), .string ⟨#[]⟩] 23)
  clear hbn
  generalize wn.alloc _ = u12 at hA hB hC hAB hBA hBC hX hY hNA hNB hOR hDU hBO hLE hAC hW hE ⊢
  generalize wn.heap.size = AC at hAC ⊢
  obtain ⟨zAB, c0AB, c1AB, c2AB, -⟩ := id hAB
  obtain ⟨zAC, c0AC, c1AC, c2AC, -⟩ := id hAC
  go_wp2_with fail
  refine (or_tv _ hE hlO (tvAnd HP.out HQ.out) (tvAnd HP.out HR.out)).mono ?_
  rintro e wn ⟨rfl, hbn⟩
  rw [dist_law HP.out HQ.out HR.out]
  clear zAB c0AB c1AB c2AB zAC c0AC c1AC c2AC
  go_upto_region 15 with (fail)
  replace hA := (hA.low hbn).low (below_alloc _ (.cells #[.int .i64 (tvK (andP p (orP q r))), .int .i64 (tvN (andP p (orP q r))), .string ⟨#[]⟩] 23))
  replace hB := (hB.low hbn).low (below_alloc _ (.cells #[.int .i64 (tvK (andP p (orP q r))), .int .i64 (tvN (andP p (orP q r))), .string ⟨#[]⟩] 23))
  replace hC := (hC.low hbn).low (below_alloc _ (.cells #[.int .i64 (tvK (andP p (orP q r))), .int .i64 (tvN (andP p (orP q r))), .string ⟨#[]⟩] 23))
  replace hAB := (hAB.low hbn).low (below_alloc _ (.cells #[.int .i64 (tvK (andP p (orP q r))), .int .i64 (tvN (andP p (orP q r))), .string ⟨#[]⟩] 23))
  replace hBA := (hBA.low hbn).low (below_alloc _ (.cells #[.int .i64 (tvK (andP p (orP q r))), .int .i64 (tvN (andP p (orP q r))), .string ⟨#[]⟩] 23))
  replace hBC := (hBC.low hbn).low (below_alloc _ (.cells #[.int .i64 (tvK (andP p (orP q r))), .int .i64 (tvN (andP p (orP q r))), .string ⟨#[]⟩] 23))
  replace hX := (hX.low hbn).low (below_alloc _ (.cells #[.int .i64 (tvK (andP p (orP q r))), .int .i64 (tvN (andP p (orP q r))), .string ⟨#[]⟩] 23))
  replace hY := (hY.low hbn).low (below_alloc _ (.cells #[.int .i64 (tvK (andP p (orP q r))), .int .i64 (tvN (andP p (orP q r))), .string ⟨#[]⟩] 23))
  replace hNA := (hNA.low hbn).low (below_alloc _ (.cells #[.int .i64 (tvK (andP p (orP q r))), .int .i64 (tvN (andP p (orP q r))), .string ⟨#[]⟩] 23))
  replace hNB := (hNB.low hbn).low (below_alloc _ (.cells #[.int .i64 (tvK (andP p (orP q r))), .int .i64 (tvN (andP p (orP q r))), .string ⟨#[]⟩] 23))
  replace hOR := (hOR.low hbn).low (below_alloc _ (.cells #[.int .i64 (tvK (andP p (orP q r))), .int .i64 (tvN (andP p (orP q r))), .string ⟨#[]⟩] 23))
  replace hDU := (hDU.low hbn).low (below_alloc _ (.cells #[.int .i64 (tvK (andP p (orP q r))), .int .i64 (tvN (andP p (orP q r))), .string ⟨#[]⟩] 23))
  replace hBO := (hBO.low hbn).low (below_alloc _ (.cells #[.int .i64 (tvK (andP p (orP q r))), .int .i64 (tvN (andP p (orP q r))), .string ⟨#[]⟩] 23))
  replace hLE := (hLE.low hbn).low (below_alloc _ (.cells #[.int .i64 (tvK (andP p (orP q r))), .int .i64 (tvN (andP p (orP q r))), .string ⟨#[]⟩] 23))
  replace hAC := (hAC.low hbn).low (below_alloc _ (.cells #[.int .i64 (tvK (andP p (orP q r))), .int .i64 (tvN (andP p (orP q r))), .string ⟨#[]⟩] 23))
  have hRI := cell3_new wn (.int .i64 (tvK (andP p (orP q r)))) (.int .i64 (tvN (andP p (orP q r)))) (.string ⟨#[]⟩) 23
  replace hW := Below.next (Below.next hW hbn) (below_alloc _ (.cells #[.int .i64 (tvK (andP p (orP q r))), .int .i64 (tvN (andP p (orP q r))), .string ⟨#[]⟩] 23))
  replace hE := (hE.low hbn).alloc (.cells #[.int .i64 (tvK (andP p (orP q r))), .int .i64 (tvN (andP p (orP q r))), .string ⟨#[]⟩] 23)
  clear hbn
  generalize wn.alloc _ = u13 at hA hB hC hAB hBA hBC hX hY hNA hNB hOR hDU hBO hLE hAC hRI hW hE ⊢
  generalize wn.heap.size = RI at hRI ⊢
  obtain ⟨zNA, c0NA, c1NA, c2NA, -⟩ := id hNA
  go_wp2_with fail
  refine (not_tv _ (tvNot HP.out)).mono ?_
  rintro e wn ⟨rfl, hbn⟩
  rw [twice_law HP.out]
  clear zNA c0NA c1NA c2NA
  go_upto_region 16 with (fail)
  replace hA := (hA.low hbn).low (below_alloc _ (.cells #[.int .i64 (tvK p), .int .i64 (tvN p), .string ⟨#[]⟩] 23))
  replace hB := (hB.low hbn).low (below_alloc _ (.cells #[.int .i64 (tvK p), .int .i64 (tvN p), .string ⟨#[]⟩] 23))
  replace hC := (hC.low hbn).low (below_alloc _ (.cells #[.int .i64 (tvK p), .int .i64 (tvN p), .string ⟨#[]⟩] 23))
  replace hAB := (hAB.low hbn).low (below_alloc _ (.cells #[.int .i64 (tvK p), .int .i64 (tvN p), .string ⟨#[]⟩] 23))
  replace hBA := (hBA.low hbn).low (below_alloc _ (.cells #[.int .i64 (tvK p), .int .i64 (tvN p), .string ⟨#[]⟩] 23))
  replace hBC := (hBC.low hbn).low (below_alloc _ (.cells #[.int .i64 (tvK p), .int .i64 (tvN p), .string ⟨#[]⟩] 23))
  replace hX := (hX.low hbn).low (below_alloc _ (.cells #[.int .i64 (tvK p), .int .i64 (tvN p), .string ⟨#[]⟩] 23))
  replace hY := (hY.low hbn).low (below_alloc _ (.cells #[.int .i64 (tvK p), .int .i64 (tvN p), .string ⟨#[]⟩] 23))
  replace hNA := (hNA.low hbn).low (below_alloc _ (.cells #[.int .i64 (tvK p), .int .i64 (tvN p), .string ⟨#[]⟩] 23))
  replace hNB := (hNB.low hbn).low (below_alloc _ (.cells #[.int .i64 (tvK p), .int .i64 (tvN p), .string ⟨#[]⟩] 23))
  replace hOR := (hOR.low hbn).low (below_alloc _ (.cells #[.int .i64 (tvK p), .int .i64 (tvN p), .string ⟨#[]⟩] 23))
  replace hDU := (hDU.low hbn).low (below_alloc _ (.cells #[.int .i64 (tvK p), .int .i64 (tvN p), .string ⟨#[]⟩] 23))
  replace hBO := (hBO.low hbn).low (below_alloc _ (.cells #[.int .i64 (tvK p), .int .i64 (tvN p), .string ⟨#[]⟩] 23))
  replace hLE := (hLE.low hbn).low (below_alloc _ (.cells #[.int .i64 (tvK p), .int .i64 (tvN p), .string ⟨#[]⟩] 23))
  replace hAC := (hAC.low hbn).low (below_alloc _ (.cells #[.int .i64 (tvK p), .int .i64 (tvN p), .string ⟨#[]⟩] 23))
  replace hRI := (hRI.low hbn).low (below_alloc _ (.cells #[.int .i64 (tvK p), .int .i64 (tvN p), .string ⟨#[]⟩] 23))
  have hNN := cell3_new wn (.int .i64 (tvK p)) (.int .i64 (tvN p)) (.string ⟨#[]⟩) 23
  replace hW := Below.next (Below.next hW hbn) (below_alloc _ (.cells #[.int .i64 (tvK p), .int .i64 (tvN p), .string ⟨#[]⟩] 23))
  replace hE := (hE.low hbn).alloc (.cells #[.int .i64 (tvK p), .int .i64 (tvN p), .string ⟨#[]⟩] 23)
  clear hbn
  generalize wn.alloc _ = u14 at hA hB hC hAB hBA hBC hX hY hNA hNB hOR hDU hBO hLE hAC hRI hNN hW hE ⊢
  generalize wn.heap.size = NN at hNN ⊢
  clear hB hC hBC hNA hNB hOR hBO hAC
  obtain ⟨zA, c0A, c1A, c2A, -⟩ := id hA
  obtain ⟨zAB, c0AB, c1AB, c2AB, -⟩ := id hAB
  obtain ⟨zBA, c0BA, c1BA, c2BA, -⟩ := id hBA
  obtain ⟨zX, c0X, c1X, c2X, -⟩ := id hX
  obtain ⟨zY, c0Y, c1Y, c2Y, -⟩ := id hY
  obtain ⟨zDU, c0DU, c1DU, c2DU, -⟩ := id hDU
  obtain ⟨zLE, c0LE, c1LE, c2LE, -⟩ := id hLE
  obtain ⟨zRI, c0RI, c1RI, c2RI, -⟩ := id hRI
  obtain ⟨zNN, c0NN, c1NN, c2NN, -⟩ := id hNN
  go_wp2_with fail
  refine (known2_any _ hE hlA).mono ?_
  rintro e wn ⟨rfl, hbn⟩
  go_wp2
  go_ret
  exact ⟨rfl, Below.next hW hbn⟩
end Go.Proofs.YtlnjdgmolmeklaaDoor
