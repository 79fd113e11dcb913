/-
  Several texts in one.
-/
import Derived.Test.YtgaihglploedaaaDoorPk37
import Derived.Test.YtgaihglploedaaaDoorPk39
import Derived.Test.YtgaihglploedaaaDoorPk27
import Derived.Deep.CutRange
/-
  What a table holds behind Apply: plain facts. The state of the law KeysApplies.
-/
namespace Go.Proofs.YtgaihglploedaaaDoor
set_option maxRecDepth 100000
open Go.RowKit
variable {ls : List Nat}

theorem changeofT_any (b : Nat) (w : World) (h8b : 3 ≤ b) (ht : TapeAt w b) (hE : Env ls w) (hlw : 1 ∈ ls) (T : Tab) (a : Addr) (hpc : T.pc = some a)
    (HT : ∀ v, StepT b w v → TabAt v T) (hval : T.valid = true) (hR : T.R.length ≤ 40) (hab : a.block ≠ b) (haw : a.block < w.heap.size) :
    Calls Tryd.prog 48 #[.pointer (some ⟨b, 0, none⟩), .agg #[.string T.nm, .slice T.pc T.n T.cc, .int .i64 T.nx, .slice T.pr T.R.length T.cr]] w (ChangeOfPost b w) := by
  obtain ⟨nm, pc, n, cc, f, nx, pr, cr, R⟩ := T
  dsimp only at hpc hR
  subst hpc
  exact changeof_any b w h8b ht hE hlw nm a n cc f nx pr cr R HT hval hR hab haw
/-- The values of the row id behind the first j updates, one after another. -/
def lastU (U : List PRow) (id : Int) (l : List Val) : Nat → List Val
  | 0 => l
  | j + 1 => if (pAt U j).1 = id then (pAt U j).2.2 else lastU U id l j
theorem applyE_zero {nm : ByteArray} {n : Nat} {f : Nat → Col} {nx : Int} {R : List TRow} {I : List (List Val)} {D : List Int} {U : List PRow} (h : applyE nm n f nx R I D U = 0) : validT nm n f nx R = true ∧ validC n R I D U = true ∧ (keptR D U R).length + I.length ≤ 100 := by
  unfold applyE at h
  split at h
  · cases h
  · rename_i h1
    have h1 := Bool.not_eq_false _ ▸ h1
    rw [Bool.and_eq_true] at h1
    refine ⟨h1.1, h1.2, ?_⟩
    split at h
    · rename_i h2; exact absurd h h2
    · split at h
      · rename_i h2; exact absurd h h2
      · split at h
        · cases h
        · rename_i h2
          omega
theorem pairs_up {n : Nat} {R : List TRow} {D : List Int} {U : List PRow} (h : ∀ i, i < U.length → UpdOK n R D U i) : ∀ i, i < U.length → ∀ j, j < i → (pAt U j).1 < (pAt U i).1 := by
  intro i
  induction i with
  | zero => intro _ j hj; omega
  | succ i ih =>
    intro hi j hj
    have h1 := (h (i + 1) hi).2.2.1 (Nat.succ_pos _)
    rw [Nat.add_sub_cancel] at h1
    by_cases hji : j = i
    · subst hji; exact h1
    · have := ih (by omega) j (by omega)
      omega
theorem lastU_none {U : List PRow} {id : Int} {l : List Val} : ∀ j, (∀ i, i < j → (pAt U i).1 ≠ id) → lastU U id l j = l := by
  intro j
  induction j with
  | zero => intro _; rfl
  | succ j ih =>
    intro h
    show (if (pAt U j).1 = id then _ else _) = _
    rw [if_neg (h j (Nat.lt_succ_self j))]
    exact ih fun i hi => h i (Nat.lt_succ_of_lt hi)
theorem lastU_hit {U : List PRow} {id : Int} {l : List Val} {k : Nat} (hp : (pAt U k).1 = id) : ∀ j, k < j → (∀ i, i < j → k < i → (pAt U i).1 ≠ id) → lastU U id l j = (pAt U k).2.2 := by
  intro j
  induction j with
  | zero => intro h; omega
  | succ j ih =>
    intro hk h
    show (if (pAt U j).1 = id then _ else _) = _
    by_cases hj : k = j
    · subst hj
      rw [if_pos hp]
    · rw [if_neg (h j (Nat.lt_succ_self j) (by omega))]
      exact ih (by omega) fun i hi => h i (Nat.lt_succ_of_lt hi)
theorem lastU_newV {n : Nat} {R : List TRow} {D : List Int} {U : List PRow} (h : ∀ i, i < U.length → UpdOK n R D U i) (id : Int) (l : List Val) : lastU U id l U.length = newV U (id, l) := by
  have hup := pairs_up h
  unfold newV
  cases hf : U.find? fun p => decide (p.1 = id) with
  | none =>
    refine lastU_none _ fun i hi he => ?_
    have := List.find?_eq_none.1 hf _ (pAt_mem hi)
    simp [he] at this
  | some p =>
    have hm := List.mem_of_find?_eq_some hf
    have hp : p.1 = id := by have := List.find?_some hf; simpa using this
    obtain ⟨k, hk, he⟩ := List.getElem_of_mem hm
    have hpk : pAt U k = p := by rw [pAt_get hk]; exact he
    rw [lastU_hit (k := k) (by rw [hpk]; exact hp) U.length hk fun i hi hki he2 => by have := hup i hi k hki; rw [hpk] at this; omega, hpk]
theorem getR_app {id : Int} {R S : List TRow} : getR id (R ++ S) = (getR id R).or (getR id S) := by
  unfold getR
  rw [List.find?_append]
  cases R.find? fun r => decide (r.1 = id) <;> rfl
theorem getR_kept {f : Nat → Col} {n : Nat} {nx : Int} {R : List TRow} {D : List Int} {U : List PRow} (h : ∀ i, i < R.length → RowOK f n nx R i) {k : Nat} (hk : k < R.length) :
    getR (tAt R k).1 (keptR D U R) = if (tAt R k).1 ∈ D then none else some (newV U (tAt R k)) := by
  have hg := get_row h hk
  unfold getR at hg ⊢
  unfold keptR
  rw [List.find?_map, List.find?_filter]
  by_cases hd : (tAt R k).1 ∈ D
  · rw [if_pos hd]
    have : R.find? (fun a => decide ((!decide (a.1 ∈ D)) = true ∧ ((fun r : TRow => decide (r.1 = (tAt R k).1)) ∘ fun r => (r.1, newV U r)) a = true)) = none := by
      rw [List.find?_eq_none]
      intro x _ hx
      simp only [Function.comp, Bool.not_eq_true', decide_eq_true_eq, decide_eq_false_iff_not] at hx
      exact hx.1 (hx.2 ▸ hd)
    rw [this]; rfl
  · rw [if_neg hd]
    have : (fun a : TRow => decide ((!decide (a.1 ∈ D)) = true ∧ ((fun r : TRow => decide (r.1 = (tAt R k).1)) ∘ fun r => (r.1, newV U r)) a = true)) = fun r => decide (r.1 = (tAt R k).1) := by
      funext r
      simp only [Function.comp, Bool.not_eq_true', decide_eq_true_eq, decide_eq_false_iff_not]
      by_cases hr : r.1 = (tAt R k).1
      · simp [hr, hd]
      · simp [hr]
    rw [this]
    cases hf : R.find? fun r => decide (r.1 = (tAt R k).1) with
    | none => rw [hf] at hg; cases hg
    | some r =>
      rw [hf] at hg
      have h1 : r.1 = (tAt R k).1 := by have := List.find?_some hf; simpa using this
      have h2 : r.2 = (tAt R k).2 := Option.some.inj hg
      have : r = tAt R k := Prod.ext h1 h2
      subst this
      rfl
theorem getR_come {nx : Int} {I : List (List Val)} {id : Int} : getR id (comeR nx I) = if nx ≤ id ∧ id < nx + I.length then some (rAt I (id - nx).toNat) else none := by
  induction I generalizing nx with
  | nil =>
    rw [if_neg (by rintro ⟨h1, h2⟩; rw [List.length_nil] at h2; omega)]
    rfl
  | cons l I ih =>
    unfold getR at ih ⊢
    show ((((nx, l) :: comeR (nx + 1) I).find? fun r => decide (r.1 = id)).map (·.2)) = _
    by_cases he : nx = id
    · subst he
      rw [List.find?_cons_of_pos (by simp), if_pos (by rw [List.length_cons]; omega)]
      simp [rAt]
    · rw [List.find?_cons_of_neg (by simpa using he), ih]
      by_cases hi : nx + 1 ≤ id ∧ id < nx + 1 + I.length
      · rw [if_pos hi, if_pos (by rw [List.length_cons]; omega)]
        have : (id - nx).toNat = (id - (nx + 1)).toNat + 1 := by omega
        rw [this]
        simp [rAt]
      · rw [if_neg hi, if_neg (by rw [List.length_cons]; omega)]
theorem getR_low {f : Nat → Col} {n : Nat} {nx : Int} {R : List TRow} {D : List Int} {U : List PRow} (h : ∀ i, i < R.length → RowOK f n nx R i) {id : Int} (hid : nx ≤ id) : getR id (keptR D U R) = none := by
  unfold getR
  rw [Option.map_eq_none_iff, List.find?_eq_none]
  intro x hx
  unfold keptR at hx
  obtain ⟨r, hr, rfl⟩ := List.mem_map.1 hx
  obtain ⟨i, hi, he⟩ := List.getElem_of_mem (List.mem_filter.1 hr).1
  have := (h i hi).2.1
  rw [tAt_get hi, he] at this
  simp; omega
/-- What Get answers of a row behind Apply. -/
theorem getO_old {f : Nat → Col} {n : Nat} {nx : Int} {R : List TRow} {I : List (List Val)} {D : List Int} {U : List PRow} (h : ∀ i, i < R.length → RowOK f n nx R i) {k : Nat} (hk : k < R.length) :
    getO (tAt R k).1 (afterR nx R I D U) = if (tAt R k).1 ∈ D then ([], false) else (newV U (tAt R k), true) := by
  have hc : getR (tAt R k).1 (comeR nx I) = none := by rw [getR_come, if_neg (by have := (h k hk).2.1; omega)]
  unfold getO afterR
  rw [getR_app, getR_kept h hk, hc]
  by_cases hd : (tAt R k).1 ∈ D
  · rw [if_pos hd, if_pos hd]; rfl
  · rw [if_neg hd, if_neg hd]; rfl
theorem getO_new {f : Nat → Col} {n : Nat} {nx : Int} {R : List TRow} {I : List (List Val)} {D : List Int} {U : List PRow} (h : ∀ i, i < R.length → RowOK f n nx R i) {i : Nat} (hi : i < I.length) :
    getO (nx + i) (afterR nx R I D U) = (rAt I i, true) := by
  unfold getO afterR
  rw [getR_app, getR_low h (by omega), getR_come, if_pos (by omega)]
  have : (nx + i - nx).toNat = i := by omega
  rw [this]; rfl
theorem after_len {f : Nat → Col} {n : Nat} {nx : Int} {R : List TRow} {I : List (List Val)} {D : List Int} {U : List PRow} (h : ∀ i, i < R.length → RowOK f n nx R i) (hv : validC n R I D U = true) : (afterR nx R I D U).length + D.length = R.length + I.length := by
  have := kept_len h hv
  unfold afterR
  rw [List.length_append, comeR_length]
  omega
/-- The state of the law behind Apply. -/
structure ApA (w : World) (B Q E : Nat) (T S : Tab) (C : Chg) (v : World) : Prop where
  t : TabAt v T
  s : TabAt v S
  c : ChgAt v C
  x : Cell4 v B (.string T.nm) (.slice T.pc T.n T.cc) (.int .i64 T.nx) (.slice T.pr T.R.length T.cr)
  y : Cell3 v Q (.slice C.pi C.I.length C.ci) (.slice C.pd C.D.length C.cd) (.slice C.pu C.U.length C.cu)
  z : Cell4 v E (.string S.nm) (.slice S.pc S.n S.cc) (.int .i64 S.nx) (.slice S.pr S.R.length S.cr)
  bel : Below w.heap.size w v
theorem ApA.low {w u v : World} {B Q E : Nat} {T S : Tab} {C : Chg} (h : ApA w B Q E T S C u) (hb : Below u.heap.size u v) : ApA w B Q E T S C v :=
  ⟨h.t.low hb, h.s.low hb, h.c.low hb, h.x.low hb, h.y.low hb, h.z.low hb, below_next h.bel hb⟩
theorem applyT_any (T : Tab) (C : Chg) (w : World) (hT : TabAt w T) (hC : ChgAt w C) :
    Calls Tryd.prog 51 #[.agg #[.string T.nm, .slice T.pc T.n T.cc, .int .i64 T.nx, .slice T.pr T.R.length T.cr], .agg #[.slice C.pi C.I.length C.ci, .slice C.pd C.D.length C.cd, .slice C.pu C.U.length C.cu]] w (ApplyFree T C w) :=
  kapply_free T.nm T.pc T.n T.cc T.f T.nx T.pr T.cr T.R C.pi C.ci C.I C.pd C.cd C.D C.pu C.cu C.U w hT hC
/-- Get, its answer named. -/
theorem getS_any (S : Tab) (id : Int) (w : World) (hT : TabAt w S) {l : List Val} {o : Bool} (hg : getO id S.R = (l, o)) :
    Calls Tryd.prog 52 #[.agg #[.string S.nm, .slice S.pc S.n S.cc, .int .i64 S.nx, .slice S.pr S.R.length S.cr], .int .i64 id] w fun e w' => ∃ (p : Option Addr) (cap : Nat), e = .returned (.tuple #[.slice p l.length cap, .bool o]) ∧ RowAt w' p l ∧ l.length * 32 ≤ 140737488355328 ∧ Below w.heap.size w w' :=
  (rget_any S id w hT).mono fun _ _ ⟨p, cap, he, hr, hl, hb⟩ => by
    rw [hg] at he hr hl
    exact ⟨p, cap, he, hr, hl, hb⟩
end Go.Proofs.YtgaihglploedaaaDoor
/-
  The law KeysApplies, walked.
-/
namespace Go.Proofs.YtgaihglploedaaaDoor
set_option maxRecDepth 100000
open Go.RowKit
variable {ls : List Nat}

theorem wsNm_size7 {k : Nat} (hk : k < 3) : (wsNm k).size ≤ 9223372036854775807 := by
  obtain rfl | rfl | rfl : k = 0 ∨ k = 1 ∨ k = 2 := by omega
  all_goals decide
set_option maxHeartbeats 16000000 in
theorem applies_walk (w : World) (p : Option Addr) (len cap : Nat) (hl : len ≤ cap) (hm : len ≤ 9223372036854775807) (h : IntsAt w p len) (hE : Env ls w) (hlw : 1 ∈ ls) :
    Calls Tryd.prog 11 #[.slice p len cap] w fun e w' => e = .returned (.bool true) ∧ Below w.heap.size w w' := by
  have HI := Lib.hid h
  have HE := Lib.hid hE
  have hz8 := hE.size
  clear h hE
  go_enter Tryd.func11, Tryd.ntmps11
  go_wp2_with fail
  refine (new_any _ p len cap hl hm HI.out).mono ?_
  rintro e w1 ⟨b, rfl, hb0, ht, hb1⟩
  have HB1 := Lib.hid hb1
  have HE1 := Lib.hid (HE.out.low hb1)
  have h8b : 3 ≤ b := by omega
  clear HI HE hb1
  go_wp2_with fail
  refine (table_any b _ ht).mono ?_
  rintro e w2 ⟨k, rfl, hk, ht2, hs2⟩
  have HB2 := Lib.hid (HB1.out.trans (hs2.below (B := w.heap.size) (by omega) HB1.out.size))
  have HE2 := Lib.hid (HE1.out.step hs2 h8b)
  have HT2 := Lib.hid ht2
  clear HB1 HE1 ht ht2 hs2
  go_wp2_with fail
  refine (schemaK_any k _).mono ?_
  rintro e w3 ⟨Z, rfl, hZ, hZl, hb3⟩
  have HB3 := Lib.hid (below_next HB2.out hb3)
  have HE3 := Lib.hid (HE2.out.low hb3)
  have hbl := HT2.out.lt
  have HT3 := Lib.hid (HT2.out.keep (fun k hk => hb3.block k (by omega)) hb3.size)
  have HZ := Lib.hid hZ
  have hZb : Z ≠ b := by omega
  have hZ3 : Z < w3.heap.size := by obtain ⟨c, o, he, hc⟩ := hZ.ptr (by have := schemaOK_range (ws_valid k); omega); cases he; exact hc
  clear HB2 HE2 HT2 hZ hb3
  go_wp2_with fail
  refine (tableof_any b _ h8b HT3.out HE3.out hlw (wsNm k) ⟨Z, 0, none⟩ (wsN k) (wsN k) 7 (wsF k) (by decide) (wsNm_size7 hk) HZ.out hZb hZ3 (ws_valid k)).mono ?_
  rintro e w4 ⟨T, rfl, hnm, hpc, hn, hcc, hf, hlen, hval, hat, ht4, hs4⟩
  have HB4 := Lib.hid (HB3.out.trans (hs4.below (B := w.heap.size) (by omega) HB3.out.size))
  have HE4 := Lib.hid (HE3.out.step hs4 h8b)
  have HAT := Lib.hid hat
  have HVAL := Lib.hid hval
  have hZ4 : Z < w4.heap.size := Nat.lt_of_lt_of_le hZ3 hs4.size
  have HT4 := Lib.hid ht4
  have HPC := Lib.hid hpc
  clear HB3 HE3 HT3 HZ hat hval hs4 ht4 hnm hpc hn hcc hf
  unfold Tab.v
  have HB5 := Lib.hid (below_new HB4.out (.cells #[.string T.nm, .slice T.pc T.n T.cc, .int .i64 T.nx, .slice T.pr T.R.length T.cr] 51))
  have HT5 := Lib.hid (HT4.out.alloc (.cells #[.string T.nm, .slice T.pc T.n T.cc, .int .i64 T.nx, .slice T.pr T.R.length T.cr] 51))
  have HE5 := Lib.hid (HE4.out.alloc (.cells #[.string T.nm, .slice T.pc T.n T.cc, .int .i64 T.nx, .slice T.pr T.R.length T.cr] 51))
  have HS5 := Lib.hid ((StepT.refl b w4).alloc (.cells #[.string T.nm, .slice T.pc T.n T.cc, .int .i64 T.nx, .slice T.pr T.R.length T.cr] 51))
  have HX5 := Lib.hid (cell4_new w4 (.string T.nm) (.slice T.pc T.n T.cc) (.int .i64 T.nx) (.slice T.pr T.R.length T.cr) 51)
  have hBb : w4.heap.size ≠ b := by have := HT4.out.lt; omega
  have hZ5 : Z < (w4.alloc (.cells #[.string T.nm, .slice T.pc T.n T.cc, .int .i64 T.nx, .slice T.pr T.R.length T.cr] 51)).heap.size := Nat.lt_of_lt_of_le hZ4 HS5.out.size
  clear HB4 HE4 HT4
  go_upto_region 3 with (fail)
  generalize World.alloc _ _ = w5 at HB5 HT5 HE5 HS5 HX5 hZ5 ⊢
  generalize w4.heap.size = B at HX5 hBb ⊢
  obtain ⟨xl, x0, x1, x2, x3, -⟩ := HX5.out
  go_wp2_with fail
  refine (changeofT_any b _ h8b HT5.out HE5.out hlw T ⟨Z, 0, none⟩ HPC.out (fun v hv => HAT.out v (HS5.out.trans hv)) HVAL.out (by omega) hZb hZ5).mono ?_
  rintro e w6 ⟨C, rfl, hcat, ht6, hs6, hI, hD, hU⟩
  have HB6 := Lib.hid (HB5.out.trans (hs6.below (B := w.heap.size) (by omega) HB5.out.size))
  have HX6 := Lib.hid (HX5.out.step hs6 hBb)
  have HA6 := Lib.hid (HAT.out w6 (HS5.out.trans hs6))
  have HC6 := Lib.hid (hcat w6 (StepT.refl _ _))
  clear HPC HB5 HT5 HE5 HX5 hs6 ht6 hcat HAT HS5 xl x0 x1 x2 x3 hZ5 hZ4 hZ3 hZb hZl hbl
  unfold Chg.v
  have hbn := below_alloc w6 (.cells #[.slice C.pi C.I.length C.ci, .slice C.pd C.D.length C.cd, .slice C.pu C.U.length C.cu] 79)
  have HB7 := Lib.hid (below_next HB6.out hbn)
  have HX7 := Lib.hid (HX6.out.low hbn)
  have HA7 := Lib.hid (HA6.out.low hbn)
  have HC7 := Lib.hid (HC6.out.low hbn)
  have HY7 := Lib.hid (cell3_new w6 (.slice C.pi C.I.length C.ci) (.slice C.pd C.D.length C.cd) (.slice C.pu C.U.length C.cu) 79)
  clear HB6 HX6 HA6 HC6 hbn
  go_upto_region 4 with (fail)
  generalize World.alloc _ _ = w7 at HB7 HX7 HA7 HC7 HY7 ⊢
  generalize w6.heap.size = Q at HY7 ⊢
  obtain ⟨xl, x0, x1, x2, x3, -⟩ := HX7.out
  obtain ⟨yl, y0, y1, y2, -⟩ := HY7.out
  go_wp2_with fail
  refine (applyT_any T C _ HA7.out HC7.out).mono ?_
  rintro e w8 ⟨S, rfl, hfree, hb8, hcase⟩
  have HS8 := Lib.hid hfree.at
  have HB8 := Lib.hid (below_next HB7.out hb8)
  have HX8 := Lib.hid (HX7.out.low hb8)
  have HA8 := Lib.hid (HA7.out.low hb8)
  have HC8 := Lib.hid (HC7.out.low hb8)
  have HY8 := Lib.hid (HY7.out.low hb8)
  clear HB7 HX7 HA7 HC7 HY7 hb8 hfree xl x0 x1 x2 x3 yl y0 y1 y2
  unfold Tab.v
  have hbn := below_alloc w8 (.cells #[.string S.nm, .slice S.pc S.n S.cc, .int .i64 S.nx, .slice S.pr S.R.length S.cr] 51)
  have HW : Hid (ApA w B Q w8.heap.size T S C (w8.alloc (.cells #[.string S.nm, .slice S.pc S.n S.cc, .int .i64 S.nx, .slice S.pr S.R.length S.cr] 51))) :=
    Lib.hid ⟨HA8.out.low hbn, HS8.out.low hbn, HC8.out.low hbn, HX8.out.low hbn, HY8.out.low hbn, cell4_new w8 _ _ _ _ _, below_next HB8.out hbn⟩
  clear HB8 HX8 HA8 HC8 HY8 HS8 hbn
  obtain ⟨ee, hee⟩ : ∃ x, applyE T.nm T.n T.f T.nx T.R C.I C.D C.U = x := ⟨_, rfl⟩
  rw [hee] at hcase ⊢
  go_upto_region 5 with (fail)
  generalize World.alloc _ _ = w9 at HW ⊢
  generalize w8.heap.size = E at HW ⊢
  rcases hcase with ⟨he0, -, -, -, hSnx, hSR⟩ | ⟨he0, -⟩
  · subst he0
    obtain ⟨hvt, hvc, hsum⟩ := applyE_zero hee
    obtain ⟨-, -, hnx1, hnx2, hrows, -⟩ := validT_parts hvt
    have HROWS := Lib.hid hrows
    have HVC := Lib.hid hvc
    have HUP := Lib.hid (validC_parts hvc).2.1
    clear hvt hvc hrows hee hsum
    have HSR := Lib.hid hSR
    have HSN := Lib.hid hSnx
    clear hSR hSnx
    obtain ⟨xl, x0, x1, x2, x3, -⟩ := HW.out.x
    obtain ⟨pr, hpr⟩ : ∃ x, T.pr = x := ⟨_, rfl⟩
    rw [hpr] at x3
    have HPR := Lib.hid hpr
    clear hpr
    go_upto_region 7 with (fail)
    go_wp2_with fail
    go_loopw [44] (fun i v => ∃ k : Nat, k ≤ T.R.length ∧ i = .int .i64 k ∧ ApA w B Q E T S C v) (fun i _ => T.R.length - (intOf i).toNat)
    case atStart => exact ⟨0, Nat.zero_le _, rfl, HW.out⟩
    clear HW x0 x1 x2 x3 xl
    case round =>
      obtain ⟨r, hr, rfl, hw⟩ := hrel
      have HW := Lib.hid hw
      clear hw
      by_cases hlt : r < T.R.length
      · have hltd : decide ((r : Int) < T.R.length) = true := decide_eq_true (by omega)
        obtain ⟨c, o, q, cp, hp, hc, h0, h1, hq, hs, -⟩ := HW.out.t.rows r hlt
        rw [HPR.out] at hp
        subst hp
        have hg := getO_old (I := C.I) (D := C.D) (U := C.U) HROWS.out hlt
        rw [← HSR.out] at hg
        obtain ⟨⟨id, l⟩, hrow⟩ : ∃ x, tAt T.R r = x := ⟨_, rfl⟩
        rw [hrow] at hg h0 h1 hq hs
        dsimp only at hg h0 h1 hq hs
        clear hrow
        have HG := Lib.hid hg
        have HZ := Lib.hid hs
        have hbn := below_alloc wr (.cells #[.int .i64 id, .slice q l.length cp] 68)
        have HW1 := Lib.hid (HW.out.low hbn)
        have HX1 := Lib.hid (cell2_new wr (.int .i64 id) (.slice q l.length cp) 68)
        have HQ1 := Lib.hid (hq.low hbn)
        clear HW hbn hg hs hq
        go_upto_region 10 with (fail)
        clear h0 h1 hc
        generalize World.alloc _ _ = W1 at HW1 HX1 HQ1 ⊢
        generalize wr.heap.size = X at HX1 ⊢
        obtain ⟨rl, r0, r1, -⟩ := HX1.out
        obtain ⟨yl, y0, y1, y2, -⟩ := HW1.out.y
        obtain ⟨pd, hpd⟩ : ∃ x, C.pd = x := ⟨_, rfl⟩
        rw [hpd] at y1
        have HPD := Lib.hid hpd
        obtain ⟨pu, hpu⟩ : ∃ x, C.pu = x := ⟨_, rfl⟩
        rw [hpu] at y2
        have HPU := Lib.hid hpu
        clear hpd hpu
        go_wp2_with fail
        go_loopw [11, 53] (fun s11 s53 v => ∃ (j : Nat) (kb : Bool), j ≤ C.D.length ∧ s53 = .int .i64 j ∧ s11 = .bool kb ∧ (kb = true ↔ ∀ i, i < j → iAt C.D i ≠ id) ∧ W1 = v) (fun _ i _ => C.D.length - (intOf i).toNat)
        case atStart => exact ⟨0, true, Nat.zero_le _, rfl, rfl, ⟨fun _ i hi => absurd hi (Nat.not_lt_zero _), fun _ => rfl⟩, rfl⟩
        case round =>
          obtain ⟨j, kb, hj, rfl, rfl, hkb, rfl⟩ := hrel
          have HKB := Lib.hid hkb
          clear hkb
          by_cases hjl : j < C.D.length
          · have hjd : decide ((j : Int) < C.D.length) = true := decide_eq_true (by omega)
            obtain ⟨c', o', hp', hc', hcell⟩ := HW1.out.c.del j hjl
            rw [HPD.out] at hp'
            subst hp'
            cases kb
            · go_wp2
              go_roundw
              case rel => exact ⟨j + 1, false, by omega, by go_num, rfl, ⟨fun h => (by cases h), fun h => HKB.out.2 fun i hi => h i (Nat.lt_succ_of_lt hi)⟩, (by first | rfl | trivial)⟩
              case measure => simp [intOf]; omega
            · by_cases hd : iAt C.D j = id
              · have hdd : (iAt C.D j != id) = false := by simp [hd]
                have HD := Lib.hid hd
                clear hd
                go_wp2
                go_roundw
                case rel => exact ⟨j + 1, false, by omega, by go_num, rfl, ⟨fun h => (by cases h), fun h => absurd HD.out (h j (Nat.lt_succ_self j))⟩, (by first | rfl | trivial)⟩
                case measure => simp [intOf]; omega
              · have hdd : (iAt C.D j != id) = true := bne_iff_ne.2 hd
                have HD := Lib.hid hd
                clear hd
                go_wp2
                go_roundw
                case rel => exact ⟨j + 1, true, by omega, by go_num, rfl, ⟨fun _ i hi => (by
                  by_cases hij : i = j
                  · subst hij; exact HD.out
                  · exact HKB.out.1 rfl i (by omega)), fun _ => rfl⟩, (by first | rfl | trivial)⟩
                case measure => simp [intOf]; omega
          · have hjd : decide ((j : Int) < C.D.length) = false := decide_eq_false (by omega)
            obtain rfl : j = C.D.length := by omega
            have HK : Hid (kb = true ↔ id ∉ C.D) := Lib.hid (by
              rw [HKB.out, mem_iAt]
              constructor
              · rintro h ⟨i, hi, he⟩
                exact h i hi he
              · intro h i hi he
                exact h ⟨i, hi, he⟩)
            clear HKB
            go_wp2_with fail
            go_loopw [10, 68] (fun s10 s68 v => ∃ (j : Nat) (p : Option Addr) (c : Nat), j ≤ C.U.length ∧ s68 = .int .i64 j ∧ s10 = .slice p (lastU C.U id l j).length c ∧ RowAt v p (lastU C.U id l j) ∧ (lastU C.U id l j).length * 32 ≤ 140737488355328 ∧ ApA w B Q E T S C v ∧ Cell2 v X (.int .i64 id) (.slice q l.length cp)) (fun _ i _ => C.U.length - (intOf i).toNat)
            case atStart => exact ⟨0, q, cp, Nat.zero_le _, rfl, rfl, HQ1.out, HZ.out, HW1.out, HX1.out⟩
            clear HW1 HX1 HQ1 yl y0 y1 y2 rl r0 r1
            case round =>
              obtain ⟨j, p3, c3, hj, rfl, rfl, hq3, hz3, hw, hx⟩ := hrel
              have HW := Lib.hid hw
              have HX := Lib.hid hx
              have HQ3 := Lib.hid hq3
              have HZ3 := Lib.hid hz3
              clear hw hx hq3 hz3
              by_cases hjl : j < C.U.length
              · have hjd : decide ((j : Int) < C.U.length) = true := decide_eq_true (by omega)
                obtain ⟨c', o', q1, cq1, q2, cr2, hp', hc', k0, k1, k2, hr1, hr2, hz1, hz2, -, -⟩ := HW.out.c.upd j hjl
                rw [HPU.out] at hp'
                subst hp'
                have hbn := below_alloc wr (.cells #[.int .i64 (pAt C.U j).1, .slice q1 (pAt C.U j).2.1.length cq1, .slice q2 (pAt C.U j).2.2.length cr2] 86)
                have HW2 := Lib.hid (HW.out.low hbn)
                have HX2 := Lib.hid (HX.out.low hbn)
                have HQ2 := Lib.hid (HQ3.out.low hbn)
                have HR2 := Lib.hid (hr2.low hbn)
                have HZ2 := Lib.hid hz2
                have HP2 := Lib.hid (cell3_new wr (.int .i64 (pAt C.U j).1) (.slice q1 (pAt C.U j).2.1.length cq1) (.slice q2 (pAt C.U j).2.2.length cr2) 86)
                clear HW HX HQ3 hr1 hr2 hz1 hz2 hbn
                go_upto_region 19 with (fail)
                clear k0 k1 k2 hc'
                generalize World.alloc _ _ = W2 at HW2 HX2 HQ2 HR2 HP2 ⊢
                generalize wr.heap.size = Y at HP2 ⊢
                obtain ⟨pl, p0, p1, p2, -⟩ := HP2.out
                obtain ⟨rl, r0, r1, -⟩ := HX2.out
                by_cases hd : (pAt C.U j).1 = id
                · have hdd : ((pAt C.U j).1 == id) = true := beq_iff_eq.2 hd
                  have HE1 : Hid (lastU C.U id l (j + 1) = (pAt C.U j).2.2) := Lib.hid (if_pos hd)
                  clear hd
                  go_wp2
                  go_roundw
                  case rel => exact ⟨j + 1, q2, cr2, by omega, by go_num, by rw [HE1.out], by rw [HE1.out]; exact HR2.out, by rw [HE1.out]; exact HZ2.out, HW2.out, HX2.out⟩
                  case measure => simp [intOf]; omega
                · have hdd : ((pAt C.U j).1 == id) = false := beq_eq_false_iff_ne.2 hd
                  have HE1 : Hid (lastU C.U id l (j + 1) = lastU C.U id l j) := Lib.hid (if_neg hd)
                  clear hd
                  go_wp2
                  go_roundw
                  case rel => exact ⟨j + 1, p3, c3, by omega, by go_num, by rw [HE1.out], by rw [HE1.out]; exact HQ2.out, by rw [HE1.out]; exact HZ3.out, HW2.out, HX2.out⟩
                  case measure => simp [intOf]; omega
              · have hjd : decide ((j : Int) < C.U.length) = false := decide_eq_false (by omega)
                obtain rfl : j = C.U.length := by omega
                rw [lastU_newV HUP.out]
                have HQN := Lib.hid (by have := HQ3.out; rw [lastU_newV HUP.out] at this; exact this : RowAt wr p3 (newV C.U (id, l)))
                have HZN := Lib.hid (by have := HZ3.out; rw [lastU_newV HUP.out] at this; exact this : (newV C.U (id, l)).length * 32 ≤ 140737488355328)
                clear HQ3 HZ3
                obtain ⟨zl, z0, z1, z2, z3, -⟩ := HW.out.z
                obtain ⟨rl, r0, r1, -⟩ := HX.out
                by_cases hd : id ∈ C.D
                · obtain rfl : kb = false := by
                    cases kb
                    · rfl
                    · exact absurd hd (HK.out.1 rfl)
                  have HG2 : Hid (getO id S.R = ([], false)) := Lib.hid (by rw [HG.out, if_pos hd])
                  clear hd
                  go_wp2_with fail
                  refine (getS_any S id _ HW.out.s HG2.out).mono ?_
                  rintro e wg ⟨pg, cg, rfl, -, -, hbg⟩
                  have HWG := Lib.hid (HW.out.low hbg)
                  clear hbg
                  go_wp2
                  go_roundw
                  case rel => exact ⟨r + 1, by omega, by go_num, HWG.out⟩
                  case measure => simp [intOf]; omega
                · obtain rfl : kb = true := HK.out.2 hd
                  have HG2 : Hid (getO id S.R = (newV C.U (id, l), true)) := Lib.hid (by rw [HG.out, if_neg hd])
                  clear hd
                  go_wp2_with fail
                  refine (getS_any S id _ HW.out.s HG2.out).mono ?_
                  rintro e wg ⟨pg, cg, rfl, hrg, hzg, hbg⟩
                  have HWG := Lib.hid (HW.out.low hbg)
                  have HRG := Lib.hid hrg
                  have HRN := Lib.hid (HQN.out.low hbg)
                  clear hbg hrg hzg
                  go_wp2_with fail
                  refine (rcomparerows_any pg p3 (newV C.U (id, l)) (newV C.U (id, l)) cg c3 _ (by have := HZN.out; omega) (by have := HZN.out; omega) HRG.out HRN.out).mono ?_
                  rintro e wh ⟨rfl, hbh⟩
                  rw [cmpRow_self]
                  have HWH := Lib.hid (HWG.out.low hbh)
                  clear hbh
                  go_wp2
                  go_roundw
                  case rel => exact ⟨r + 1, by omega, by go_num, HWH.out⟩
                  case measure => simp [intOf]; omega
      · have hltd : decide ((r : Int) < T.R.length) = false := decide_eq_false (by omega)
        obtain rfl : r = T.R.length := by omega
        have hlp := HW.out.s.len
        obtain ⟨yl, y0, y1, y2, -⟩ := HW.out.y
        obtain ⟨pi, hpi⟩ : ∃ x, C.pi = x := ⟨_, rfl⟩
        rw [hpi] at y0
        have HPI := Lib.hid hpi
        clear hpi hlp
        go_upto_region 26 with (fail)
        go_wp2_with fail
        go_loopw [103] (fun i v => ∃ j : Nat, j ≤ C.I.length ∧ i = .int .i64 j ∧ ApA w B Q E T S C v) (fun i _ => C.I.length - (intOf i).toNat)
        case atStart => exact ⟨0, Nat.zero_le _, rfl, HW.out⟩
        clear HW yl y0 y1 y2
        case round =>
          obtain ⟨j, hj, rfl, hw⟩ := hrel
          have HW := Lib.hid hw
          clear hw
          by_cases hjl : j < C.I.length
          · have hjd : decide ((j : Int) < C.I.length) = true := decide_eq_true (by omega)
            obtain ⟨c', o', q, cp, hp', hc', k0, hq, hz, -⟩ := HW.out.c.ins j hjl
            rw [HPI.out] at hp'
            subst hp'
            have HQ := Lib.hid hq
            have HZ := Lib.hid hz
            have HG : Hid (getO (T.nx + j) S.R = (rAt C.I j, true)) := Lib.hid (by rw [HSR.out]; exact getO_new HROWS.out hjl)
            clear hq hz
            go_upto_region 29 with (fail)
            clear k0 hc'
            obtain ⟨xl, x0, x1, x2, x3, -⟩ := HW.out.x
            obtain ⟨zl, z0, z1, z2, z3, -⟩ := HW.out.z
            have hnj : T.nx + (j : Int) ≤ 2147483668 := by omega
            go_wp2_with fail
            refine (getS_any S (T.nx + j) _ HW.out.s HG.out).mono ?_
            rintro e wg ⟨pg, cg, rfl, hrg, hzg, hbg⟩
            have HWG := Lib.hid (HW.out.low hbg)
            have HRG := Lib.hid hrg
            have HRN := Lib.hid (HQ.out.low hbg)
            clear hbg hrg hzg HW
            go_wp2_with fail
            refine (rcomparerows_any pg q (rAt C.I j) (rAt C.I j) cg cp _ (by have := HZ.out; omega) (by have := HZ.out; omega) HRG.out HRN.out).mono ?_
            rintro e wh ⟨rfl, hbh⟩
            rw [cmpRow_self]
            have HWH := Lib.hid (HWG.out.low hbh)
            clear hbh HWG
            go_wp2
            go_roundw
            case rel => exact ⟨j + 1, by omega, by go_num, HWH.out⟩
            case measure => simp [intOf]; omega
          · have hjd : decide ((j : Int) < C.I.length) = false := decide_eq_false (by omega)
            obtain rfl : j = C.I.length := by omega
            obtain ⟨xl, x0, x1, x2, x3, -⟩ := HW.out.x
            obtain ⟨yl, y0, y1, y2, -⟩ := HW.out.y
            obtain ⟨zl, z0, z1, z2, z3, -⟩ := HW.out.z
            have hal := after_len (I := C.I) HROWS.out HVC.out
            rw [← HSR.out] at hal
            have hsum : ((S.R.length : Nat) : Int) = (T.R.length : Int) - (C.D.length : Int) + (C.I.length : Int) := by omega
            have hbe : ((S.R.length : Int) == (T.R.length : Int) - (C.D.length : Int) + (C.I.length : Int)) = true := beq_iff_eq.2 hsum
            have hbn : (S.nx == T.nx + (C.I.length : Int)) = true := beq_iff_eq.2 HSN.out
            have hle : (C.D.length : Int) ≤ 40 := by omega
            have hli : (C.I.length : Int) ≤ 20 := by omega
            have hlt2 : (T.R.length : Int) ≤ 7 := by omega
            clear hal hsum
            go_wp2_with fail
            refine (known7_any _).mono ?_
            rintro e wb ⟨rfl, hb⟩
            have HBB := Lib.hid (below_next HW.out.bel hb)
            clear HW hb
            go_wp2
            go_ret
            exact ⟨rfl, HBB.out⟩
  · have hne : (ee != 0) = true := bne_iff_ne.2 he0
    go_wp2_with fail
    refine (known7_any _).mono ?_
    rintro e wb ⟨rfl, hb⟩
    have HBB := Lib.hid (below_next HW.out.bel hb)
    go_wp2
    go_ret
    exact ⟨rfl, HBB.out⟩
end Go.Proofs.YtgaihglploedaaaDoor
