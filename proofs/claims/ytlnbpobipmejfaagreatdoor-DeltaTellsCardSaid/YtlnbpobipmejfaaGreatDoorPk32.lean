/-
  Several texts in one.
-/
import Derived.Test.YtlnbpobipmejfaaGreatDoorPk31
import Derived.Test.YtlnbpobipmejfaaGreatDoorPk25
import Derived.Test.YtlnbpobipmejfaaGreatDoorPk27
import Derived.Test.YtlnbpobipmejfaaGreatDoorPk12
/-
  alike of the law: Valid and Apply of a change, both ways; the table behind a change is valid.
-/
namespace Go.Proofs.YtlnbpobipmejfaaGreatDoor
set_option maxRecDepth 100000
open Go.RowKit
variable {ls : List Nat}

theorem fitsL_all {f : Nat → Col} {n : Nat} {L : List (List Val)} (h : fitsL f n L = 0) : ∀ l ∈ L, fitsRow f n l = 0 := by
  induction L with
  | nil => intro l hl; cases hl
  | cons x L ih =>
    have h' : (if fitsRow f n x = 0 then fitsL f n L else fitsRow f n x) = 0 := h
    by_cases hx : fitsRow f n x = 0
    · rw [if_pos hx] at h'
      intro l hl
      rcases List.mem_cons.1 hl with rfl | hl
      · exact hx
      · exact ih h' l hl
    · rw [if_neg hx] at h'
      exact absurd h' hx
theorem come_all {nx : Int} {I : List (List Val)} : ∀ r ∈ comeR nx I, nx ≤ r.1 ∧ r.1 < nx + I.length ∧ r.2 ∈ I := by
  induction I generalizing nx with
  | nil => intro r hr; cases hr
  | cons l I ih =>
    intro r hr
    rw [List.length_cons]
    rcases List.mem_cons.1 hr with rfl | hr
    · exact ⟨Int.le_refl _, by show nx < _; omega, List.mem_cons_self⟩
    · obtain ⟨h1, h2, h3⟩ := ih r hr
      exact ⟨by omega, by omega, List.mem_cons_of_mem _ h3⟩
theorem come_up {nx : Int} {I : List (List Val)} : ((comeR nx I).map (·.1)).Pairwise (· < ·) := by
  induction I generalizing nx with
  | nil => exact List.Pairwise.nil
  | cons l I ih =>
    show (nx :: (comeR (nx + 1) I).map (·.1)).Pairwise (· < ·)
    refine List.Pairwise.cons (fun a ha => ?_) ih
    obtain ⟨r, hr, rfl⟩ := List.mem_map.1 ha
    have := (come_all r hr).1
    omega
theorem kept_up {R : List TRow} {D : List Int} {U : List PRow} (h : (R.map (·.1)).Pairwise (· < ·)) : ((keptR D U R).map (·.1)).Pairwise (· < ·) := by
  unfold keptR
  rw [List.map_map]
  exact h.sublist (List.Sublist.map _ List.filter_sublist)
theorem newV_fits {f : Nat → Col} {n : Nat} {U : List PRow} {r : TRow} (hU : ∀ p ∈ U, fitsRow f n p.2.2 = 0) (hr : fitsRow f n r.2 = 0) : fitsRow f n (newV U r) = 0 := by
  unfold newV
  cases hf : U.find? fun p => decide (p.1 = r.1) with
  | none => exact hr
  | some p => exact hU p (List.mem_of_find?_eq_some hf)
theorem rowsOK_up {f : Nat → Col} {n : Nat} {nx : Int} {R : List TRow} (h : (R.map (·.1)).Pairwise (· < ·)) (ha : ∀ r ∈ R, 1 ≤ r.1 ∧ r.1 < nx ∧ fitsRow f n r.2 = 0) : ∀ i, i < R.length → RowOK f n nx R i := by
  intro i hi
  obtain ⟨h1, h2, h3⟩ := ha _ (tAt_mem hi)
  refine ⟨h1, h2, fun h0 => ?_, h3⟩
  rw [List.pairwise_iff_getElem] at h
  have := h (i - 1) i (by rw [List.length_map]; omega) (by rw [List.length_map]; exact hi) (by omega)
  rw [List.getElem_map, List.getElem_map] at this
  rw [tAt_get hi, tAt_get (show i - 1 < R.length by omega)]
  exact this
theorem applyE_parts {nm : ByteArray} {n : Nat} {f : Nat → Col} {nx : Int} {R : List TRow} {I : List (List Val)} {D : List Int} {U : List PRow} (h : applyE nm n f nx R I D U = 0) :
    validT nm n f nx R = true ∧ fitsL f n (U.map (·.2.2)) = 0 ∧ fitsL f n I = 0 ∧ ¬ (100 < (keptR D U R).length + I.length ∨ 2147483648 - nx < I.length) ∧ dupR (findKey f n) (afterR nx R I D U) = false := by
  unfold applyE at h
  split at h
  · cases h
  · rename_i h1
    have h1 := Bool.not_eq_false _ ▸ h1
    rw [Bool.and_eq_true] at h1
    split at h
    · rename_i h2; exact absurd h h2
    · rename_i h2
      split at h
      · rename_i h3; exact absurd h h3
      · rename_i h3
        split at h
        · cases h
        · rename_i h4
          split at h
          · cases h
          · rename_i h5
            exact ⟨h1.1, Classical.not_not.1 h2, Classical.not_not.1 h3, h4, by simpa using h5⟩
/-- The table behind a change is valid. -/
theorem after_valid {nm : ByteArray} {n : Nat} {f : Nat → Col} {nx : Int} {R : List TRow} {I : List (List Val)} {D : List Int} {U : List PRow} (h : applyE nm n f nx R I D U = 0) : validT nm n f (nx + I.length) (afterR nx R I D U) = true := by
  obtain ⟨hv, hu, hi, hl, hd⟩ := applyE_parts h
  obtain ⟨hso, hR, hn1, hn2, hrows, -⟩ := validT_parts hv
  have hU := fitsL_all hu
  have hI := fitsL_all hi
  have hlen : (afterR nx R I D U).length = (keptR D U R).length + I.length := by unfold afterR; rw [List.length_append, comeR_length]
  have hall : ∀ r ∈ keptR D U R, 1 ≤ r.1 ∧ r.1 < nx ∧ fitsRow f n r.2 = 0 := by
    intro r hr
    unfold keptR at hr
    obtain ⟨x, hx, rfl⟩ := List.mem_map.1 hr
    obtain ⟨k, hk, he⟩ := List.getElem_of_mem (List.mem_filter.1 hx).1
    obtain ⟨h1, h2, -, h4⟩ := hrows k hk
    rw [tAt_get hk, he] at h1 h2 h4
    exact ⟨h1, h2, newV_fits (fun p hp => hU _ (List.mem_map.2 ⟨p, hp, rfl⟩)) h4⟩
  rw [validT_dup hso ⟨by omega, by omega, by omega⟩ ?_, hd]
  · rfl
  · refine rowsOK_up ?_ ?_
    · unfold afterR
      rw [List.map_append, List.pairwise_append]
      refine ⟨kept_up (rows_up hrows), come_up, fun a ha b hb => ?_⟩
      obtain ⟨r, hr, rfl⟩ := List.mem_map.1 ha
      obtain ⟨s, hs, rfl⟩ := List.mem_map.1 hb
      have := (hall r hr).2.1
      have := (come_all s hs).1
      omega
    · intro r hr
      unfold afterR at hr
      rcases List.mem_append.1 hr with hr | hr
      · obtain ⟨h1, h2, h3⟩ := hall r hr
        exact ⟨h1, by omega, h3⟩
      · obtain ⟨h1, h2, h3⟩ := come_all r hr
        exact ⟨by omega, h2, hI _ h3⟩
end Go.Proofs.YtlnbpobipmejfaaGreatDoor
/-
  Plain: behind changes every row that is new has a number from the elder table's next one on.
-/
namespace Go.Proofs.YtlnbpobipmejfaaGreatDoor
set_option maxRecDepth 100000
open Go.RowKit
variable {ls : List Nat}

/-- Each row of B has the number of a row of A, or one from nx on. -/
def NewR (nx : Int) (A B : List TRow) : Prop := ∀ r ∈ B, (∃ a ∈ A, a.1 = r.1) ∨ nx ≤ r.1
section
variable {A B C : List TRow} {nx ny : Int}
theorem NewR.refl (nx : Int) (A : List TRow) : NewR nx A A := fun r hr => .inl ⟨r, hr, rfl⟩
theorem NewR.trans (h : NewR nx A B) (k : NewR ny B C) (hn : nx ≤ ny) : NewR nx A C := fun r hr => by
  rcases k r hr with ⟨x, hx, he⟩ | hk
  · rcases h x hx with ⟨y, hy, hf⟩ | hh
    · exact .inl ⟨y, hy, hf.trans he⟩
    · exact .inr (by omega)
  · exact .inr (by omega)
theorem newR_after (nx : Int) (A : List TRow) (I : List (List Val)) (D : List Int) (U : List PRow) : NewR nx A (afterR nx A I D U) := fun r hr => by
  rcases List.mem_append.1 hr with hr | hr
  · obtain ⟨a, ha, rfl⟩ := List.mem_map.1 hr
    exact .inl ⟨a, (List.mem_filter.1 ha).1, rfl⟩
  · exact .inr (come_all r hr).1
theorem getR_isSome {id : Int} (h : ∃ a ∈ A, a.1 = id) : (getR id A).isSome = true := by
  obtain ⟨a, ha, he⟩ := h
  unfold getR
  rw [Option.isSome_map, List.find?_isSome]
  exact ⟨a, ha, decide_eq_true he⟩
theorem newB_of (h : NewR nx A B) : newB nx A B = true := by
  unfold newB
  rw [List.all_eq_true]
  intro r hr
  rw [Bool.or_eq_true, decide_eq_true_eq]
  rcases h r hr with h | h
  · exact .inl (getR_isSome h)
  · exact .inr h
end
end Go.Proofs.YtlnbpobipmejfaaGreatDoor
/-
  The state of a law that draws tables: tables with room for their rows, wherever their columns lie; Apply over it.
-/
namespace Go.Proofs.YtlnbpobipmejfaaGreatDoor
set_option maxRecDepth 100000
open Go.RowKit
variable {ls : List Nat}

/-- A table that the tape leaves as it is, valid and with room for its rows. -/
structure Td (b : Nat) (u : World) (T : Tab) : Prop where
  all : ∀ v, StepT b u v → TabAt v T
  val : T.valid = true
  nms : T.nm.size ≤ 9223372036854775807
  pb : ∀ a, T.pc = some a → a.block ≠ b
  cap : T.R.length ≤ T.cr
/-- A turned table. -/
structure Ts (b : Nat) (u : World) (T : Tab) : Prop where
  all : ∀ v, StepT b u v → TabAt v T
  cap : T.R.length ≤ T.cr
section
variable {b : Nat} {w u v : World} {T : Tab} {C : Chg}
theorem Td.step (h : Td b u T) (hs : StepT b u v) : Td b v T := ⟨fun x hx => h.all x (hs.trans hx), h.val, h.nms, h.pb, h.cap⟩
theorem Td.low (h : Td b u T) (hb : Below u.heap.size u v) : Td b v T := h.step (step_low hb)
theorem Td.at (h : Td b u T) : TabAt u T := h.all u (StepT.refl b u)
theorem Td.sok (h : Td b u T) : schemaOK T.nm T.n T.f = true := (validT_parts h.val).1
theorem Td.ptr (h : Td b u T) : ∃ c o, T.pc = some ⟨c, o, none⟩ ∧ c < u.heap.size := h.at.cols.ptr (by have := schemaOK_range h.sok; omega)
theorem Td.turned (h : Td b u T) : Ts b u T := ⟨h.all, h.cap⟩
theorem Ts.step (h : Ts b u T) (hs : StepT b u v) : Ts b v T := ⟨fun x hx => h.all x (hs.trans hx), h.cap⟩
theorem Ts.low (h : Ts b u T) (hb : Below u.heap.size u v) : Ts b v T := h.step (step_low hb)
theorem Ts.at (h : Ts b u T) : TabAt u T := h.all u (StepT.refl b u)
theorem Wd.tableOfD (h : Wd ls b w u) (hlw : 0 ∈ ls) {k Z : Nat} (hS : Sch b k Z u) (m : Nat) (hm : m ≤ 20) :
    Calls Tryz.prog 6 #[.pointer (some ⟨b, 0, none⟩), schV (wsNm k) (some ⟨Z, 0, none⟩) (wsN k) (wsN k), .int .i64 m] u fun e v => ∃ T : Tab, e = .returned (.agg #[.string T.nm, .slice T.pc T.n T.cc, .int .i64 T.nx, .slice T.pr T.R.length T.cr]) ∧ Td b v T ∧ T.nm = wsNm k ∧ T.n = wsN k ∧ T.f = wsF k ∧ T.R.length ≤ m ∧ Wd ls b w v ∧ StepT b u v :=
  (tableofc_any b u h.g h.tape h.env hlw (wsNm k) ⟨Z, 0, none⟩ (wsN k) (wsN k) m (wsF k) hm (wsNm_size8 k) hS.cols hS.zb hS.z (ws_valid k)).mono fun _ _ ⟨T, he, h1, h2, h3, h4, h5, h6, h7, h8, ht, hs, hc⟩ =>
    ⟨T, he, ⟨h8, h7, by rw [h1]; exact wsNm_size8 k, fun a ha => by rw [h2] at ha; cases ha; exact hS.zb, hc⟩, h1, h3, h5, h6, h.step hs ht, hs⟩
theorem Wd.tableOfDT (h : Wd ls b w u) (hlw : 0 ∈ ls) (t : Td b u T) (m : Nat) (hm : m ≤ 20) :
    Calls Tryz.prog 6 #[.pointer (some ⟨b, 0, none⟩), .agg #[.string T.nm, .slice T.pc T.n T.cc], .int .i64 m] u fun e v => ∃ S : Tab, e = .returned (.agg #[.string S.nm, .slice S.pc S.n S.cc, .int .i64 S.nx, .slice S.pr S.R.length S.cr]) ∧ Td b v S ∧ S.nm = T.nm ∧ S.n = T.n ∧ S.f = T.f ∧ S.R.length ≤ m ∧ Wd ls b w v ∧ StepT b u v := by
  obtain ⟨c, o, hp, hc⟩ := t.ptr
  have hC : ColsAt u T.pc T.n T.f := t.at.cols
  have hx := tableofc_any b u h.g h.tape h.env hlw T.nm ⟨c, o, none⟩ T.n T.cc m T.f hm t.nms (by rw [← hp]; exact hC) (t.pb _ hp) hc t.sok
  rw [← hp] at hx
  exact hx.mono fun _ _ ⟨S, he, h1, h2, h3, h4, h5, h6, h7, h8, ht, hs, hc⟩ =>
    ⟨S, he, ⟨h8, h7, by rw [h1]; exact t.nms, fun a ha => t.pb a (hp.trans (h2.symm.trans ha)), hc⟩, h1, h3, h5, h6, h.step hs ht, hs⟩
theorem Wd.changeOfD (h : Wd ls b w u) (hlw : 0 ∈ ls) (t : Td b u T) (hR : T.R.length ≤ 40) :
    Calls Tryz.prog 34 #[.pointer (some ⟨b, 0, none⟩), .agg #[.string T.nm, .slice T.pc T.n T.cc, .int .i64 T.nx, .slice T.pr T.R.length T.cr]] u fun e v => ∃ C : Chg, e = .returned (.agg #[.slice C.pi C.I.length C.ci, .slice C.pd C.D.length C.cd, .slice C.pu C.U.length C.cu]) ∧ Cb b v C ∧ Wd ls b w v ∧ StepT b u v := by
  obtain ⟨c, o, hp, hc⟩ := t.ptr
  exact (changeofT_any b u h.g h.tape h.env hlw T ⟨c, o, none⟩ hp t.all t.val hR (t.pb _ hp) hc).mono fun _ _ ⟨C, he, h1, ht, hs, h2, h3, h4⟩ => ⟨C, he, ⟨h1, h2, h3, h4⟩, h.step hs ht, hs⟩
theorem after_length (nx : Int) (R : List TRow) (I : List (List Val)) (D : List Int) (U : List PRow) : (afterR nx R I D U).length ≤ R.length + I.length := by
  unfold afterR keptR
  rw [List.length_append, List.length_map, comeR_length]
  have := List.length_filter_le (fun r : TRow => !decide (r.1 ∈ D)) R
  omega
/-- The table behind a change that succeeds. -/
structure Nx (b : Nat) (T S : Tab) (m : Nat) (v : World) : Prop where
  tab : Td b v S
  nm : S.nm = T.nm
  n : S.n = T.n
  f : S.f = T.f
  nx : T.nx ≤ S.nx
  len : S.R.length ≤ T.R.length + m
  new : NewR T.nx T.R S.R
theorem Nx.step {S : Tab} {m : Nat} (h : Nx b T S m u) (hs : StepT b u v) : Nx b T S m v := ⟨h.tab.step hs, h.nm, h.n, h.f, h.nx, h.len, h.new⟩
theorem Nx.low {S : Tab} {m : Nat} (h : Nx b T S m u) (hb : Below u.heap.size u v) : Nx b T S m v := h.step (step_low hb)
theorem Nx.trans {S V : Tab} {m j : Nat} (h : Nx b T S m u) (k : Nx b S V j v) : Nx b T V (m + j) v := ⟨k.tab, k.nm.trans h.nm, k.n.trans h.n, k.f.trans h.f, Int.le_trans h.nx k.nx, by have := h.len; have := k.len; omega, h.new.trans k.new h.nx⟩
theorem Wd.applyD (h : Wd ls b w u) (t : Td b u T) (c : Cb b u C) :
    Calls Tryz.prog 33 #[.agg #[.string T.nm, .slice T.pc T.n T.cc, .int .i64 T.nx, .slice T.pr T.R.length T.cr], .agg #[.slice C.pi C.I.length C.ci, .slice C.pd C.D.length C.cd, .slice C.pu C.U.length C.cu]] u fun e v => ∃ (S : Tab) (E : Int), e = .returned (.tuple #[.agg #[.string S.nm, .slice S.pc S.n S.cc, .int .i64 S.nx, .slice S.pr S.R.length S.cr], .int .i64 E]) ∧ Wd ls b w v ∧ Below u.heap.size u v ∧ (E = 0 → ∀ x, v.heap.size ≤ x.heap.size → (∀ k, u.heap.size ≤ k → k < v.heap.size → x.heap[k]? = v.heap[k]?) → Nx b T S 3 x) :=
  (rapplyc_any T C u t.at c.at).mono fun _ v ⟨S, ⟨he, hS, hb, hr⟩, hc, hfr, hpc⟩ => by
    have hbz : b < u.heap.size := h.tape.lt
    rcases hr with ⟨h0, h1, h2, h3, h4, h5⟩ | ⟨h0, -⟩
    · obtain ⟨nm, pc, n, cc, f, nx, pr, cr, R⟩ := S
      dsimp only at h1 h2 h3 h4 h5 hc hpc
      subst h1 h2 h5 h4
      refine ⟨⟨T.nm, pc, T.n, cc, T.f, T.nx + C.I.length, pr, cr, afterR T.nx T.R C.I C.D C.U⟩, _, he, h.low hb, hb, fun _ y hz hk => ⟨⟨fun x hx => ?_, after_valid h0, t.nms, fun a ha => ?_, hc⟩, rfl, rfl, rfl, by dsimp only; omega, ?_, newR_after _ _ _ _ _⟩⟩
      · obtain ⟨g1, g2, g3, g4, g5, g6, g7⟩ := hfr x (Nat.le_trans hz hx.size) (fun k hk1 hk2 => (hx.block k (Nat.lt_of_lt_of_le hk2 hz) (by omega)).trans (hk k hk1 hk2))
        exact ⟨g1, g2, g3.congr fun i hi => (h3 i hi).symm, g4, g5, g6, g7⟩
      · have := hpc a ha
        omega
      · have := after_length T.nx T.R C.I C.D C.U
        have := c.i
        dsimp only
        omega
    · exact ⟨S, _, he, h.low hb, hb, fun h => absurd h h0⟩
end
end Go.Proofs.YtlnbpobipmejfaaGreatDoor
