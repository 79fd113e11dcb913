/-
  Several texts in one.
-/
import Derived.Test.YtpkbliifcdopgaaDoorPk24
import Derived.Test.YtpkbliifcdopgaaDoorPk26
import Derived.Test.YtpkbliifcdopgaaDoorPk16
import Derived.Test.YtpkbliifcdopgaaDoorPk19
import Derived.Test.YtpkbliifcdopgaaDoorPk20
import Derived.MapKept
import Derived.Carry
import Derived.Test.YtpkbliifcdopgaaDoorPk12
import Derived.Test.YtpkbliifcdopgaaDoorPk10
/-
  What a table holds behind Apply: plain facts. The state of the law KeysApplies.
-/
namespace Go.Proofs.YtpkbliifcdopgaaDoor
set_option maxRecDepth 100000
open Go.RowKit
variable {ls : List Nat}

/-- The values of the row id behind the first j updates, one after another. -/
def lastU (U : List PRow) (id : Int) (l : List Val) : Nat → List Val
  | 0 => l
  | j + 1 => if (pAt U j).1 = id then (pAt U j).2.2 else lastU U id l j
theorem applyE_zero {nm : ByteArray} {n : Nat} {f : Nat → Col} {nx : Int} {R : List TRow} {I : List (List Val)} {D : List Int} {U : List PRow} (h : applyE nm n f nx R I D U = 0) : validT nm n f nx R = true ∧ validC n R I D U = true ∧ (keptR D U R).length + I.length ≤ 100 := by
  unfold applyE at h
  split at h
  · cases h
  · rename_i h1
    have h1 := Bool.not_eq_false _ ▸ h1
    rw [Bool.and_eq_true] at h1
    refine ⟨h1.1, h1.2, ?_⟩
    split at h
    · rename_i h2; exact absurd h h2
    · split at h
      · rename_i h2; exact absurd h h2
      · split at h
        · cases h
        · rename_i h2
          omega
theorem pairs_up {n : Nat} {R : List TRow} {D : List Int} {U : List PRow} (h : ∀ i, i < U.length → UpdOK n R D U i) : ∀ i, i < U.length → ∀ j, j < i → (pAt U j).1 < (pAt U i).1 := by
  intro i
  induction i with
  | zero => intro _ j hj; omega
  | succ i ih =>
    intro hi j hj
    have h1 := (h (i + 1) hi).2.2.1 (Nat.succ_pos _)
    rw [Nat.add_sub_cancel] at h1
    by_cases hji : j = i
    · subst hji; exact h1
    · have := ih (by omega) j (by omega)
      omega
theorem lastU_none {U : List PRow} {id : Int} {l : List Val} : ∀ j, (∀ i, i < j → (pAt U i).1 ≠ id) → lastU U id l j = l := by
  intro j
  induction j with
  | zero => intro _; rfl
  | succ j ih =>
    intro h
    show (if (pAt U j).1 = id then _ else _) = _
    rw [if_neg (h j (Nat.lt_succ_self j))]
    exact ih fun i hi => h i (Nat.lt_succ_of_lt hi)
theorem lastU_hit {U : List PRow} {id : Int} {l : List Val} {k : Nat} (hp : (pAt U k).1 = id) : ∀ j, k < j → (∀ i, i < j → k < i → (pAt U i).1 ≠ id) → lastU U id l j = (pAt U k).2.2 := by
  intro j
  induction j with
  | zero => intro h; omega
  | succ j ih =>
    intro hk h
    show (if (pAt U j).1 = id then _ else _) = _
    by_cases hj : k = j
    · subst hj
      rw [if_pos hp]
    · rw [if_neg (h j (Nat.lt_succ_self j) (by omega))]
      exact ih (by omega) fun i hi => h i (Nat.lt_succ_of_lt hi)
theorem lastU_newV {n : Nat} {R : List TRow} {D : List Int} {U : List PRow} (h : ∀ i, i < U.length → UpdOK n R D U i) (id : Int) (l : List Val) : lastU U id l U.length = newV U (id, l) := by
  have hup := pairs_up h
  unfold newV
  cases hf : U.find? fun p => decide (p.1 = id) with
  | none =>
    refine lastU_none _ fun i hi he => ?_
    have := List.find?_eq_none.1 hf _ (pAt_mem hi)
    simp [he] at this
  | some p =>
    have hm := List.mem_of_find?_eq_some hf
    have hp : p.1 = id := by have := List.find?_some hf; simpa using this
    obtain ⟨k, hk, he⟩ := List.getElem_of_mem hm
    have hpk : pAt U k = p := by rw [pAt_get hk]; exact he
    rw [lastU_hit (k := k) (by rw [hpk]; exact hp) U.length hk fun i hi hki he2 => by have := hup i hi k hki; rw [hpk] at this; omega, hpk]
theorem getR_app {id : Int} {R S : List TRow} : getR id (R ++ S) = (getR id R).or (getR id S) := by
  unfold getR
  rw [List.find?_append]
  cases R.find? fun r => decide (r.1 = id) <;> rfl
theorem getR_kept {f : Nat → Col} {n : Nat} {nx : Int} {R : List TRow} {D : List Int} {U : List PRow} (h : ∀ i, i < R.length → RowOK f n nx R i) {k : Nat} (hk : k < R.length) :
    getR (tAt R k).1 (keptR D U R) = if (tAt R k).1 ∈ D then none else some (newV U (tAt R k)) := by
  have hg := get_row h hk
  unfold getR at hg ⊢
  unfold keptR
  rw [List.find?_map, List.find?_filter]
  by_cases hd : (tAt R k).1 ∈ D
  · rw [if_pos hd]
    have : R.find? (fun a => decide ((!decide (a.1 ∈ D)) = true ∧ ((fun r : TRow => decide (r.1 = (tAt R k).1)) ∘ fun r => (r.1, newV U r)) a = true)) = none := by
      rw [List.find?_eq_none]
      intro x _ hx
      simp only [Function.comp, Bool.not_eq_true', decide_eq_true_eq, decide_eq_false_iff_not] at hx
      exact hx.1 (hx.2 ▸ hd)
    rw [this]; rfl
  · rw [if_neg hd]
    have : (fun a : TRow => decide ((!decide (a.1 ∈ D)) = true ∧ ((fun r : TRow => decide (r.1 = (tAt R k).1)) ∘ fun r => (r.1, newV U r)) a = true)) = fun r => decide (r.1 = (tAt R k).1) := by
      funext r
      simp only [Function.comp, Bool.not_eq_true', decide_eq_true_eq, decide_eq_false_iff_not]
      by_cases hr : r.1 = (tAt R k).1
      · simp [hr, hd]
      · simp [hr]
    rw [this]
    cases hf : R.find? fun r => decide (r.1 = (tAt R k).1) with
    | none => rw [hf] at hg; cases hg
    | some r =>
      rw [hf] at hg
      have h1 : r.1 = (tAt R k).1 := by have := List.find?_some hf; simpa using this
      have h2 : r.2 = (tAt R k).2 := Option.some.inj hg
      have : r = tAt R k := Prod.ext h1 h2
      subst this
      rfl
theorem getR_come {nx : Int} {I : List (List Val)} {id : Int} : getR id (comeR nx I) = if nx ≤ id ∧ id < nx + I.length then some (rAt I (id - nx).toNat) else none := by
  induction I generalizing nx with
  | nil =>
    rw [if_neg (by rintro ⟨h1, h2⟩; rw [List.length_nil] at h2; omega)]
    rfl
  | cons l I ih =>
    unfold getR at ih ⊢
    show ((((nx, l) :: comeR (nx + 1) I).find? fun r => decide (r.1 = id)).map (·.2)) = _
    by_cases he : nx = id
    · subst he
      rw [List.find?_cons_of_pos (by simp), if_pos (by rw [List.length_cons]; omega)]
      simp [rAt]
    · rw [List.find?_cons_of_neg (by simpa using he), ih]
      by_cases hi : nx + 1 ≤ id ∧ id < nx + 1 + I.length
      · rw [if_pos hi, if_pos (by rw [List.length_cons]; omega)]
        have : (id - nx).toNat = (id - (nx + 1)).toNat + 1 := by omega
        rw [this]
        simp [rAt]
      · rw [if_neg hi, if_neg (by rw [List.length_cons]; omega)]
theorem getR_low {f : Nat → Col} {n : Nat} {nx : Int} {R : List TRow} {D : List Int} {U : List PRow} (h : ∀ i, i < R.length → RowOK f n nx R i) {id : Int} (hid : nx ≤ id) : getR id (keptR D U R) = none := by
  unfold getR
  rw [Option.map_eq_none_iff, List.find?_eq_none]
  intro x hx
  unfold keptR at hx
  obtain ⟨r, hr, rfl⟩ := List.mem_map.1 hx
  obtain ⟨i, hi, he⟩ := List.getElem_of_mem (List.mem_filter.1 hr).1
  have := (h i hi).2.1
  rw [tAt_get hi, he] at this
  simp; omega
/-- What Get answers of a row behind Apply. -/
theorem getO_old {f : Nat → Col} {n : Nat} {nx : Int} {R : List TRow} {I : List (List Val)} {D : List Int} {U : List PRow} (h : ∀ i, i < R.length → RowOK f n nx R i) {k : Nat} (hk : k < R.length) :
    getO (tAt R k).1 (afterR nx R I D U) = if (tAt R k).1 ∈ D then ([], false) else (newV U (tAt R k), true) := by
  have hc : getR (tAt R k).1 (comeR nx I) = none := by rw [getR_come, if_neg (by have := (h k hk).2.1; omega)]
  unfold getO afterR
  rw [getR_app, getR_kept h hk, hc]
  by_cases hd : (tAt R k).1 ∈ D
  · rw [if_pos hd, if_pos hd]; rfl
  · rw [if_neg hd, if_neg hd]; rfl
theorem getO_new {f : Nat → Col} {n : Nat} {nx : Int} {R : List TRow} {I : List (List Val)} {D : List Int} {U : List PRow} (h : ∀ i, i < R.length → RowOK f n nx R i) {i : Nat} (hi : i < I.length) :
    getO (nx + i) (afterR nx R I D U) = (rAt I i, true) := by
  unfold getO afterR
  rw [getR_app, getR_low h (by omega), getR_come, if_pos (by omega)]
  have : (nx + i - nx).toNat = i := by omega
  rw [this]; rfl
theorem after_len {f : Nat → Col} {n : Nat} {nx : Int} {R : List TRow} {I : List (List Val)} {D : List Int} {U : List PRow} (h : ∀ i, i < R.length → RowOK f n nx R i) (hv : validC n R I D U = true) : (afterR nx R I D U).length + D.length = R.length + I.length := by
  have := kept_len h hv
  unfold afterR
  rw [List.length_append, comeR_length]
  omega
/-- The state of the law behind Apply. -/
structure ApA (w : World) (B Q E : Nat) (T S : Tab) (C : Chg) (v : World) : Prop where
  t : TabAt v T
  s : TabAt v S
  c : ChgAt v C
  x : Cell4 v B (.string T.nm) (.slice T.pc T.n T.cc) (.int .i64 T.nx) (.slice T.pr T.R.length T.cr)
  y : Cell3 v Q (.slice C.pi C.I.length C.ci) (.slice C.pd C.D.length C.cd) (.slice C.pu C.U.length C.cu)
  z : Cell4 v E (.string S.nm) (.slice S.pc S.n S.cc) (.int .i64 S.nx) (.slice S.pr S.R.length S.cr)
  bel : Below w.heap.size w v
theorem ApA.low {w u v : World} {B Q E : Nat} {T S : Tab} {C : Chg} (h : ApA w B Q E T S C u) (hb : Below u.heap.size u v) : ApA w B Q E T S C v :=
  ⟨h.t.low hb, h.s.low hb, h.c.low hb, h.x.low hb, h.y.low hb, h.z.low hb, below_next h.bel hb⟩
theorem changeofT_any (b : Nat) (w : World) (h8b : 2 ≤ b) (ht : TapeAt w b) (hE : Env ls w) (hlw : 0 ∈ ls) (T : Tab) (a : Addr) (hpc : T.pc = some a)
    (HT : ∀ v, StepT b w v → TabAt v T) (hval : T.valid = true) (hR : T.R.length ≤ 40) (hab : a.block ≠ b) (haw : a.block < w.heap.size) :
    Calls Tryd.prog 12 #[.pointer (some ⟨b, 0, none⟩), .agg #[.string T.nm, .slice T.pc T.n T.cc, .int .i64 T.nx, .slice T.pr T.R.length T.cr]] w (ChangeOfPost b w) := by
  obtain ⟨nm, pc, n, cc, f, nx, pr, cr, R⟩ := T
  dsimp only at hpc hR
  subst hpc
  exact changeof_any b w h8b ht hE hlw nm a n cc f nx pr cr R HT hval hR hab haw
theorem applyT_any (T : Tab) (C : Chg) (w : World) (hT : TabAt w T) (hC : ChgAt w C) :
    Calls Tryd.prog 28 #[.agg #[.string T.nm, .slice T.pc T.n T.cc, .int .i64 T.nx, .slice T.pr T.R.length T.cr], .agg #[.slice C.pi C.I.length C.ci, .slice C.pd C.D.length C.cd, .slice C.pu C.U.length C.cu]] w (ApplyFree T C w) :=
  kapply_free T.nm T.pc T.n T.cc T.f T.nx T.pr T.cr T.R C.pi C.ci C.I C.pd C.cd C.D C.pu C.cu C.U w hT hC
/-- Get, its answer named. -/
theorem getS_any (S : Tab) (id : Int) (w : World) (hT : TabAt w S) {l : List Val} {o : Bool} (hg : getO id S.R = (l, o)) :
    Calls Tryd.prog 45 #[.agg #[.string S.nm, .slice S.pc S.n S.cc, .int .i64 S.nx, .slice S.pr S.R.length S.cr], .int .i64 id] w fun e w' => ∃ (p : Option Addr) (cap : Nat), e = .returned (.tuple #[.slice p l.length cap, .bool o]) ∧ RowAt w' p l ∧ l.length * 32 ≤ 140737488355328 ∧ Below w.heap.size w w' :=
  (rget_any S id w hT).mono fun _ _ ⟨p, cap, he, hr, hl, hb⟩ => by
    rw [hg] at he hr hl
    exact ⟨p, cap, he, hr, hl, hb⟩
end Go.Proofs.YtpkbliifcdopgaaDoor
/-
  The state of a law that draws tables: its tape, the package's words, the memory before the law; the world's calls over it.
-/
namespace Go.Proofs.YtpkbliifcdopgaaDoor
set_option maxRecDepth 100000
open Go.RowKit
variable {ls : List Nat}

structure Wd (ls : List Nat) (b : Nat) (w u : World) : Prop where
  tape : TapeAt u b
  env : Env ls u
  bel : Below w.heap.size w u
  lo : w.heap.size ≤ b
  g : 2 ≤ b
section
variable {b Z : Nat} {w u v : World} {T : Tab}
theorem Wd.step (h : Wd ls b w u) (hs : StepT b u v) (ht : TapeAt v b) : Wd ls b w v := ⟨ht, h.env.step hs h.g, h.bel.trans (hs.below h.lo h.bel.size), h.lo, h.g⟩
theorem Wd.low (h : Wd ls b w u) (hb : Below u.heap.size u v) : Wd ls b w v := h.step (step_low hb) (h.tape.below hb)
theorem Wd.alloc (h : Wd ls b w u) (o : Obj) : Wd ls b w (u.alloc o) := h.low (below_alloc u o)
theorem wd_new (hE : Env ls u) (hB : Below w.heap.size w u) (p : Option Addr) (len cap : Nat) (hl : len ≤ cap) (hm : len ≤ 9223372036854775807) (h : IntsAt u p len) :
    Calls Tryd.prog 8 #[.slice p len cap] u fun e v => ∃ b : Nat, e = .returned (.pointer (some ⟨b, 0, none⟩)) ∧ u.heap.size ≤ b ∧ Wd ls b w v ∧ Below u.heap.size u v :=
  (new_any u p len cap hl hm h).mono fun _ _ ⟨b, he, hb0, ht, hb1⟩ => ⟨b, he, hb0, ⟨ht, hE.low hb1, below_next hB hb1, Nat.le_trans hB.size hb0, Nat.le_trans hE.size hb0⟩, hb1⟩
theorem Wd.table (h : Wd ls b w u) :
    Calls Tryd.prog 11 #[.pointer (some ⟨b, 0, none⟩)] u fun e v => ∃ k : Nat, e = .returned (.string (wsNm k)) ∧ k < 3 ∧ Wd ls b w v ∧ StepT b u v :=
  (table_any b u h.tape).mono fun _ _ ⟨k, he, hk, ht, hs⟩ => ⟨k, he, hk, h.step hs ht, hs⟩
theorem wsNm_size8 (k : Nat) : (wsNm k).size ≤ 9223372036854775807 := by
  match k with
  | 0 => decide
  | 1 => decide
  | k + 2 => show (ByteArray.mk #[108, 111, 103]).size ≤ _; decide
/-- The columns of a schema of the world lie in a block. -/
structure Sch (b k Z : Nat) (u : World) : Prop where
  cols : ColsAt u (some ⟨Z, 0, none⟩) (wsN k) (wsF k)
  zb : Z ≠ b
  z : Z < u.heap.size
theorem Wd.schema (h : Wd ls b w u) (k : Nat) :
    Calls Tryd.prog 10 #[.string (wsNm k)] u fun e v => ∃ Z : Nat, e = .returned (schV (wsNm k) (some ⟨Z, 0, none⟩) (wsN k) (wsN k)) ∧ Sch b k Z v ∧ Wd ls b w v ∧ Below u.heap.size u v :=
  (schemaK_any k u).mono fun _ v ⟨Z, he, hZ, hZl, hb⟩ => ⟨Z, he, ⟨hZ, (by have := h.tape.lt; omega), (by
    obtain ⟨c, o, he, hc⟩ := hZ.ptr (by have := schemaOK_range (ws_valid k); omega)
    cases he
    exact hc)⟩, h.low hb, hb⟩
/-- A table that was drawn: it lies in every world that the tape may lead to. -/
structure Tb (b Z : Nat) (u : World) (T : Tab) : Prop where
  all : ∀ v, StepT b u v → TabAt v T
  pc : T.pc = some ⟨Z, 0, none⟩
  val : T.valid = true
  len : T.R.length ≤ 40
  nms : T.nm.size ≤ 9223372036854775807
  zb : Z ≠ b
  z : Z < u.heap.size
theorem Tb.step (h : Tb b Z u T) (hs : StepT b u v) : Tb b Z v T := ⟨fun x hx => h.all x (hs.trans hx), h.pc, h.val, h.len, h.nms, h.zb, Nat.lt_of_lt_of_le h.z hs.size⟩
theorem Tb.low (h : Tb b Z u T) (hb : Below u.heap.size u v) : Tb b Z v T := h.step (step_low hb)
theorem Tb.at (h : Tb b Z u T) : TabAt u T := h.all u (StepT.refl b u)
theorem Tb.sok (h : Tb b Z u T) : schemaOK T.nm T.n T.f = true := (validT_parts h.val).1
theorem Wd.tableOf (h : Wd ls b w u) (hlw : 0 ∈ ls) {k : Nat} (hS : Sch b k Z u) (m : Nat) (hm : m ≤ 20) :
    Calls Tryd.prog 9 #[.pointer (some ⟨b, 0, none⟩), schV (wsNm k) (some ⟨Z, 0, none⟩) (wsN k) (wsN k), .int .i64 m] u fun e v => ∃ T : Tab, e = .returned (.agg #[.string T.nm, .slice T.pc T.n T.cc, .int .i64 T.nx, .slice T.pr T.R.length T.cr]) ∧ Tb b Z v T ∧ T.nm = wsNm k ∧ T.n = wsN k ∧ T.f = wsF k ∧ T.R.length ≤ m ∧ Wd ls b w v ∧ StepT b u v :=
  (tableof_any b u h.g h.tape h.env hlw (wsNm k) ⟨Z, 0, none⟩ (wsN k) (wsN k) m (wsF k) hm (wsNm_size8 k) hS.cols hS.zb hS.z (ws_valid k)).mono fun _ _ ⟨T, he, h1, h2, h3, h4, h5, h6, h7, h8, ht, hs⟩ =>
    ⟨T, he, ⟨h8, h2, h7, Nat.le_trans h6 (Nat.le_trans hm (by decide)), by rw [h1]; exact wsNm_size8 k, hS.zb, Nat.lt_of_lt_of_le hS.z hs.size⟩, h1, h3, h5, h6, h.step hs ht, hs⟩
theorem Wd.tableOfT (h : Wd ls b w u) (hlw : 0 ∈ ls) (t : Tb b Z u T) (m : Nat) (hm : m ≤ 20) :
    Calls Tryd.prog 9 #[.pointer (some ⟨b, 0, none⟩), .agg #[.string T.nm, .slice T.pc T.n T.cc], .int .i64 m] u fun e v => ∃ S : Tab, e = .returned (.agg #[.string S.nm, .slice S.pc S.n S.cc, .int .i64 S.nx, .slice S.pr S.R.length S.cr]) ∧ Tb b Z v S ∧ S.nm = T.nm ∧ S.n = T.n ∧ S.f = T.f ∧ S.R.length ≤ m ∧ Wd ls b w v ∧ StepT b u v := by
  have hC : ColsAt u T.pc T.n T.f := t.at.cols
  have hx := tableof_any b u h.g h.tape h.env hlw T.nm ⟨Z, 0, none⟩ T.n T.cc m T.f hm t.nms (by rw [← t.pc]; exact hC) t.zb t.z t.sok
  rw [← t.pc] at hx
  exact hx.mono fun _ _ ⟨S, he, h1, h2, h3, h4, h5, h6, h7, h8, ht, hs⟩ =>
    ⟨S, he, ⟨h8, h2, h7, Nat.le_trans h6 (Nat.le_trans hm (by decide)), by rw [h1]; exact t.nms, t.zb, Nat.lt_of_lt_of_le t.z hs.size⟩, h1, h3, h5, h6, h.step hs ht, hs⟩
/-- A change that was drawn. -/
structure Cb (b : Nat) (u : World) (C : Chg) : Prop where
  all : ∀ v, StepT b u v → ChgAt v C
  i : C.I.length ≤ 3
  d : C.D.length ≤ 40
  u : C.U.length ≤ 40
theorem Cb.step {C : Chg} (h : Cb b u C) (hs : StepT b u v) : Cb b v C := ⟨fun x hx => h.all x (hs.trans hx), h.i, h.d, h.u⟩
theorem Cb.low {C : Chg} (h : Cb b u C) (hb : Below u.heap.size u v) : Cb b v C := h.step (step_low hb)
theorem Cb.at {C : Chg} (h : Cb b u C) : ChgAt u C := h.all u (StepT.refl b u)
theorem Wd.changeOf (h : Wd ls b w u) (hlw : 0 ∈ ls) (t : Tb b Z u T) :
    Calls Tryd.prog 12 #[.pointer (some ⟨b, 0, none⟩), .agg #[.string T.nm, .slice T.pc T.n T.cc, .int .i64 T.nx, .slice T.pr T.R.length T.cr]] u fun e v => ∃ C : Chg, e = .returned (.agg #[.slice C.pi C.I.length C.ci, .slice C.pd C.D.length C.cd, .slice C.pu C.U.length C.cu]) ∧ Cb b v C ∧ Wd ls b w v ∧ StepT b u v :=
  (changeofT_any b u h.g h.tape h.env hlw T ⟨Z, 0, none⟩ t.pc t.all t.val t.len t.zb t.z).mono fun _ _ ⟨C, he, h1, ht, hs, h2, h3, h4⟩ => ⟨C, he, ⟨h1, h2, h3, h4⟩, h.step hs ht, hs⟩
theorem Wd.spoiledT (h : Wd ls b w u) (hlw : 0 ∈ ls) (t : Tb b Z u T) (h20 : T.R.length ≤ 20) :
    Calls Tryd.prog 15 #[.pointer (some ⟨b, 0, none⟩), .agg #[.string T.nm, .slice T.pc T.n T.cc, .int .i64 T.nx, .slice T.pr T.R.length T.cr]] u fun e v => ∃ S : Tab, e = .returned (.agg #[.string S.nm, .slice S.pc S.n S.cc, .int .i64 S.nx, .slice S.pr S.R.length S.cr]) ∧ TabAt v S ∧ Wd ls b w v ∧ StepT b u v :=
  (spoiledt_any b u h.g h.tape h.env hlw T.nm T.pc T.n T.cc T.f T.nx T.pr T.cr T.R t.nms t.all t.val h20 (fun a ha => by rw [t.pc] at ha; cases ha; exact t.zb)).mono fun _ _ ⟨S, he, h1, ht, hs⟩ => ⟨S, he, h1 _ (StepT.refl b _), h.step hs ht, hs⟩
end
end Go.Proofs.YtpkbliifcdopgaaDoor
/-
  A map from whole numbers to truths that the call makes: what it holds, by the list of its keys.
-/
namespace Go.Proofs.YtpkbliifcdopgaaDoor
set_option maxRecDepth 100000
open Go.RowKit
variable {ls : List Nat}

theorem find_int (x : Int) : ∀ (es : List MapEntry) (S : List Int) (i : Nat), es.map (·.key) = S.map (Value.int .i64) → (∀ e ∈ es, e.val = .bool true) →
    (x ∉ S ∧ Instr.findNow (.int .i64) (.int .i64 x) es i = some none) ∨ (x ∈ S ∧ ∃ j, Instr.findNow (.int .i64) (.int .i64 x) es i = some (some (j, .bool true)))
  | [], S, i, hk, hv => by
    have : S = [] := by cases S with
      | nil => rfl
      | cons x S => simp at hk
    subst this
    exact .inl ⟨by simp, rfl⟩
  | e :: es, S, i, hk, hv => by
    cases S with
    | nil => simp at hk
    | cons y S =>
      rw [List.map_cons, List.map_cons] at hk
      injection hk with hk1 hk2
      have hs : Instr.sameNow (.int .i64) (.int .i64 x) e.key = some (x == y) := by rw [hk1]; simp [Instr.sameNow]
      by_cases hx : x = y
      · rw [beq_iff_eq.2 hx] at hs
        refine .inr ⟨by rw [hx]; exact List.mem_cons_self, i, ?_⟩
        have hev := hv e List.mem_cons_self
        simp [Instr.findNow, hs, hev]
      · rw [beq_eq_false_iff_ne.2 hx] at hs
        have hrun : Instr.findNow (.int .i64) (.int .i64 x) (e :: es) i = Instr.findNow (.int .i64) (.int .i64 x) es (i + 1) := by simp [Instr.findNow, hs]
        rcases find_int x es S (i + 1) hk2 (fun y hy => hv y (List.mem_cons_of_mem _ hy)) with ⟨h1, h2⟩ | ⟨h1, j, h2⟩
        · exact .inl ⟨by simp [hx, h1], by rw [hrun, h2]⟩
        · exact .inr ⟨List.mem_cons_of_mem _ h1, j, by rw [hrun, h2]⟩
theorem check_int (em : Bool) (x : Int) (w : World) : (Instr.checkKey em 10000 3 (.int .i64 x)).run Tryd.prog w = .ok () w := MapKept.run_checkKey Tryd.underlying3 (show MapKept.IsKey (.int .i64) (.int .i64 x) from rfl) em 9999
/-- Block b is a map whose keys are S, all with true. -/
def SeenI (w : World) (b : Nat) (S : List Int) : Prop := ∃ (es : Array MapEntry) (clock : Nat), w.heap[b]? = some (.map es clock) ∧ es.toList.map (·.key) = S.map (Value.int .i64) ∧ ∀ e ∈ es.toList, e.val = .bool true
theorem SeenI.new (w : World) : SeenI (w.alloc (.map #[] 0)) w.heap.size [] := ⟨#[], 0, by show (w.heap.push _)[w.heap.size]? = _; simp, rfl, fun e he => by simp at he⟩
theorem SeenI.lt {w : World} {b : Nat} {S : List Int} (h : SeenI w b S) : b < w.heap.size := by
  obtain ⟨es, clock, hb, -⟩ := h
  exact (Array.getElem?_eq_some_iff.1 hb).1
theorem SeenI.low {u v : World} {b : Nat} {S : List Int} (h : SeenI u b S) (hb : Below u.heap.size u v) : SeenI v b S := by
  obtain ⟨es, clock, h0, h1, h2⟩ := h
  exact ⟨es, clock, by rw [hb.block b (Array.getElem?_eq_some_iff.1 h0).1]; exact h0, h1, h2⟩
theorem SeenI.look {w : World} {b : Nat} {S : List Int} (h : SeenI w b S) (x : Int) (t : TypeId) (ht : Tryd.prog.underlying t = some (.map 3 4)) : (Instr.lookup t (.map (some b)) (.int .i64 x) false).run Tryd.prog w = .ok (.bool (decide (x ∈ S))) w := by
  obtain ⟨es, clock, hb, hk, hv⟩ := h
  have hz : (zeroValue 4).run Tryd.prog w = .ok (.bool false) w := by go_simp
  rcases find_int x es.toList S 0 hk hv with ⟨h1, h2⟩ | ⟨h1, j, h2⟩
  · have hf := MapKept.run_findKey (w := w) Tryd.underlying3 h2
    rw [decide_eq_false h1]
    simp [Instr.lookup, run_underlying ht, MapKept.run_getObj_map hb, check_int, hf, hz, Result.andThen]
  · have hf := MapKept.run_findKey (w := w) Tryd.underlying3 h2
    rw [decide_eq_true h1]
    simp [Instr.lookup, run_underlying ht, MapKept.run_getObj_map hb, check_int, hf, Result.andThen]
theorem SeenI.put {w : World} {b : Nat} {S : List Int} (h : SeenI w b S) (x : Int) (hn : x ∉ S) (t : TypeId) (ht : Tryd.prog.underlying t = some (.map 3 4)) :
    ∃ w', (Instr.mapUpdate t (.map (some b)) (.int .i64 x) (.bool true)).run Tryd.prog w = .ok () w' ∧ SeenI w' b (S ++ [x]) ∧ w.grownBy w' (some b) := by
  obtain ⟨es, clock, hb, hk, hv⟩ := h
  rcases find_int x es.toList S 0 hk hv with ⟨h1, h2⟩ | ⟨h1, -⟩
  · have hf := MapKept.run_findKey (w := w) Tryd.underlying3 h2
    refine ⟨{ w with heap := w.heap.setIfInBounds b (.map (es.push { key := .int .i64 x, val := .bool true, born := clock }) (clock + 1)) }, ?_, ?_, ?_⟩
    · simp [Instr.mapUpdate, run_underlying ht, MapKept.run_getObj_map hb, check_int, hf, MapKept.run_setObj_map _ hb, Result.andThen]
    · refine ⟨es.push { key := .int .i64 x, val := .bool true, born := clock }, clock + 1, ?_, ?_, ?_⟩
      · have := (Array.getElem?_eq_some_iff.1 hb).1
        simp [this]
      · simp [hk]
      · intro e he
        simp at he
        rcases he with he | rfl
        · exact hv e (by simpa using he)
        · rfl
    · refine ⟨rfl, rfl, rfl, by simp, fun k _ hne => ?_⟩
      have : b ≠ k := fun e => hne (by rw [e])
      simp [this]
  · exact absurd h1 hn
end Go.Proofs.YtpkbliifcdopgaaDoor
/-
  The reference of package keys: Valid.
-/
namespace Go.Proofs.YtpkbliifcdopgaaDoor
set_option maxRecDepth 100000
open Go.RowKit
variable {ls : List Nat}

theorem take_i {D : List Int} {k : Nat} (h : k < D.length) : D.take (k + 1) = D.take k ++ [iAt D k] := by rw [iAt_get h]; exact (List.take_append_getElem h).symm
theorem asc_i {D : List Int} {k : Nat} (h : ∀ j, j < k → 0 < j → iAt D (j - 1) < iAt D j) : ∀ i j, i < j → j < k → iAt D i < iAt D j := by
  intro i j hij
  induction j with
  | zero => intro _; omega
  | succ j ih =>
    intro hj
    have h1 := h (j + 1) hj (by omega)
    rw [Nat.add_sub_cancel] at h1
    by_cases he : i = j
    · subst he; exact h1
    · have := ih (by omega) (by omega); omega
theorem new_i {D : List Int} {k : Nat} (hk : k < D.length) (h : ∀ j, j < k + 1 → 0 < j → iAt D (j - 1) < iAt D j) : iAt D k ∉ D.take k := fun hm => by
  obtain ⟨i, hi, he⟩ := List.getElem_of_mem hm
  rw [List.length_take] at hi
  have h1 := asc_i h i k (by omega) (by omega)
  rw [List.getElem_take] at he
  rw [iAt_get (by omega : i < D.length), he] at h1
  omega
theorem wpList_put_seenI {w : World} {ops : Array Oper} {rest : List Oper} {o : Oper} {a : Act} {Q : Exit → Act → World → Prop} (hg : o.guard = none) (m x y : Operand) (t : TypeId) (hop : o.op = Op.mapUpdate t m x y) (ht : Tryd.prog.underlying t = some (.map 3 4))
    (b : Nat) (S : List Int) (hm : a.eval m = .map (some b)) (hs : SeenI w b S) (v : Int) (hx : a.eval x = .int .i64 v) (hy : a.eval y = .bool true) (hn : v ∉ S) (h : ∀ w', SeenI w' b (S ++ [v]) → w.grownBy w' (some b) → wpList Tryd.prog ops Q rest (a.put o.dst undef) w') : wpList Tryd.prog ops Q (o :: rest) a w := by
  refine wpList_plain hg fun K' hK' => ?_
  obtain ⟨w', hrun, h1, h2⟩ := hs.put v hn t ht
  unfold Oper.wp
  simp [execOp, hop, hm, hx, hy, hrun, Result.andThen]
  exact hK' _ _ (h w' h1 h2)
theorem Cell3.grown {u v : World} {X : Nat} {x y z : Value} {row : Option Nat} (h : Cell3 u X x y z) (hg : u.grownBy v row) (hr : ∀ k, row = some k → X < k) : Cell3 v X x y z := by
  obtain ⟨hl, c0, c1, c2, fz⟩ := h
  have hb := hg.block X hl (fun e => by have := hr X e.symm; omega)
  exact ⟨Nat.lt_of_lt_of_le hl hg.size, by rw [World.cell?_of_block (w := u) hb]; exact c0, by rw [World.cell?_of_block (w := u) hb]; exact c1, by rw [World.cell?_of_block (w := u) hb]; exact c2, fun o => by rw [World.frozen?_of_block (w := u) hb]; exact fz o⟩
/-- What Valid has while it looks at a change. -/
structure ChgW (w : World) (nm : ByteArray) (pc : Option Addr) (n cc : Nat) (nx : Int) (pr : Option Addr) (m cr : Nat) (pi : Option Addr) (mi ci : Nat) (pd : Option Addr) (md cd : Nat) (pu : Option Addr) (mu cu : Nat) (M : Nat) (S : List Int) (v : World) : Prop where
  tab : Cell4 v w.heap.size (.string nm) (.slice pc n cc) (.int .i64 nx) (.slice pr m cr)
  chg : Cell3 v (w.heap.size + 1) (.slice pi mi ci) (.slice pd md cd) (.slice pu mu cu)
  map : SeenI v M S
  bel : Below w.heap.size w v
  hM : w.heap.size + 2 ≤ M
section
variable {w u v : World} {nm : ByteArray} {pc : Option Addr} {n cc : Nat} {nx : Int} {pr : Option Addr} {m cr : Nat} {pi : Option Addr} {mi ci : Nat} {pd : Option Addr} {md cd : Nat} {pu : Option Addr} {mu cu : Nat} {M : Nat} {S : List Int}
theorem ChgW.low (h : ChgW w nm pc n cc nx pr m cr pi mi ci pd md cd pu mu cu M S u) (hb : Below u.heap.size u v) : ChgW w nm pc n cc nx pr m cr pi mi ci pd md cd pu mu cu M S v :=
  ⟨h.tab.low hb, h.chg.low hb, h.map.low hb, below_next h.bel hb, h.hM⟩
theorem ChgW.put {x : Int} (h : ChgW w nm pc n cc nx pr m cr pi mi ci pd md cd pu mu cu M S u) (hs : SeenI v M (S ++ [x])) (hg : u.grownBy v (some M)) : ChgW w nm pc n cc nx pr m cr pi mi ci pd md cd pu mu cu M (S ++ [x]) v := by
  have hM := h.hM
  exact ⟨h.tab.grown hg (fun k hk => by cases hk; omega), h.chg.grown hg (fun k hk => by cases hk; omega), hs, h.bel.grown hg h.bel.size (fun k hk => by cases hk; omega), hM⟩
end
theorem rtv_any (nm : ByteArray) (pc : Option Addr) (n cc : Nat) (f : Nat → Col) (nx : Int) (pr : Option Addr) (cr : Nat) (R : List TRow) (w : World) (h : TabAt w ⟨nm, pc, n, cc, f, nx, pr, cr, R⟩) {b : Bool} (hv : validT nm n f nx R = b) :
    Calls Tryd.prog 40 #[.agg #[.string nm, .slice pc n cc, .int .i64 nx, .slice pr R.length cr]] w fun e w' => e = .returned (.bool b) ∧ Below w.heap.size w w' :=
  (rtvalid_any ⟨nm, pc, n, cc, f, nx, pr, cr, R⟩ w h).mono fun _ _ ⟨he, hb⟩ => ⟨by rw [he]; unfold Tab.valid; dsimp only; rw [hv], hb⟩
theorem rgt_any (nm : ByteArray) (pc : Option Addr) (n cc : Nat) (f : Nat → Col) (nx : Int) (pr : Option Addr) (cr : Nat) (R : List TRow) (id : Int) (w : World) (h : TabAt w ⟨nm, pc, n, cc, f, nx, pr, cr, R⟩) {l : List Val} {b : Bool} (hg : getO id R = (l, b)) :
    Calls Tryd.prog 45 #[.agg #[.string nm, .slice pc n cc, .int .i64 nx, .slice pr R.length cr], .int .i64 id] w fun e w' => ∃ (p : Option Addr) (cap : Nat), e = .returned (.tuple #[.slice p l.length cap, .bool b]) ∧ RowAt w' p l ∧ l.length * 32 ≤ 140737488355328 ∧ Below w.heap.size w w' :=
  (rget_any ⟨nm, pc, n, cc, f, nx, pr, cr, R⟩ id w h).mono fun _ _ ⟨p, c, he, hr, hs, hb⟩ => ⟨p, c, by rw [he]; dsimp only; rw [hg], by have := hr; dsimp only at this; rw [hg] at this; exact this, by have := hs; dsimp only at this; rw [hg] at this; exact this, hb⟩
set_option maxHeartbeats 8000000 in
theorem rcvalid_any (T : Tab) (C : Chg) (w : World) (hT : TabAt w T) (hC : ChgAt w C) :
    Calls Tryd.prog 38 #[T.v, C.v] w fun e w' => e = .returned (.bool (T.valid && validC T.n T.R C.I C.D C.U)) ∧ Below w.heap.size w w' := by
  obtain ⟨nm, pc, n, cc, f, nx, pr, cr, R⟩ := T
  obtain ⟨pi, ci, I, pd, cd, D, pu, cu, U⟩ := C
  unfold Tab.v Chg.v Tab.valid
  dsimp only at *
  have HT := Lib.hid hT
  have HC := Lib.hid hC
  have hn63 := hT.n
  have hR63 := hT.len
  have hI63 := hC.inl
  have hD63 := hC.dl
  have hU63 := hC.ul
  dsimp only at hn63 hR63 hI63 hD63 hU63
  have hb0 : Below w.heap.size w ((w.alloc (.cells #[.string nm, .slice pc n cc, .int .i64 nx, .slice pr R.length cr] 27)).alloc (.cells #[.slice pi I.length ci, .slice pd D.length cd, .slice pu U.length cu] 32)) := below_new (below_new (Below.refl _ _) _) _
  have HX := Lib.hid ((cell4_new w (.string nm) (.slice pc n cc) (.int .i64 nx) (.slice pr R.length cr) 27).low (below_alloc _ (.cells #[.slice pi I.length ci, .slice pd D.length cd, .slice pu U.length cu] 32)))
  have HY := Lib.hid ((cell3_new (w.alloc (.cells #[.string nm, .slice pc n cc, .int .i64 nx, .slice pr R.length cr] 27)) (.slice pi I.length ci) (.slice pd D.length cd) (.slice pu U.length cu) 32).at (size_alloc _ _))
  have HB0 := Lib.hid hb0
  have HT0 := Lib.hid (hT.low hb0)
  clear hT hC hb0
  obtain ⟨vb, hvb⟩ : ∃ b, validT nm n f nx R = b := ⟨_, rfl⟩
  rw [hvb]
  obtain ⟨res, hres⟩ : ∃ r, (vb && validC n R I D U) = r := ⟨_, rfl⟩
  rw [hres]
  go_enter Tryd.func38, Tryd.ntmps38
  go_upto_region 1 with (fail)
  generalize World.alloc _ _ = W0 at HX HY HB0 HT0 ⊢
  obtain ⟨hxl, x0, x1, x2, x3, -⟩ := HX.out
  go_wp2_with fail
  refine (rtv_any nm pc n cc f nx pr cr R _ HT0.out hvb).mono ?_
  rintro e w1 ⟨rfl, hb1⟩
  have HX1 := Lib.hid (HX.out.low hb1)
  have HY1 := Lib.hid (HY.out.low hb1)
  have HB1 := Lib.hid (below_next HB0.out hb1)
  clear HX HY HB0 HT0 hb1 hxl x0 x1 x2 x3 hvb
  cases vb
  · have HRES := Lib.hid hres
    clear hres
    go_wp2
    go_ret
    exact ⟨ret_b (by rw [← HRES.out]; rfl), HB1.out⟩
  · have HRES : Hid (validC n R I D U = res) := Lib.hid (by rw [← hres]; rfl)
    clear hres
    obtain ⟨hxl, x0, x1, x2, x3, -⟩ := HX1.out
    have HS0 := Lib.hid (SeenI.new w1)
    have hmk := run_makeMap (P := Tryd.prog) (w := w1) 110
    have HW : Hid (ChgW w nm pc n cc nx pr R.length cr pi I.length ci pd D.length cd pu U.length cu w1.heap.size [] (w1.alloc (.map #[] 0))) := Lib.hid ⟨HX1.out.low (below_alloc _ _), HY1.out.low (below_alloc _ _), HS0.out, below_new HB1.out _, HY1.out.lt⟩
    clear HX1 HY1 HB1 HS0
    go_upto_region 5 with (fail)
    generalize w1.alloc (.map #[] 0) = W1 at HW ⊢
    generalize hM : w1.heap.size = M at HW ⊢
    clear hM hmk hxl x0 x1 x2 x3
    obtain ⟨hyl, y0, y1, y2, -⟩ := HW.out.chg
    go_wp2_with fail
    go_loopw [28] (fun i v => ∃ k : Nat, k ≤ D.length ∧ i = .int .i64 k ∧ (∀ j, j < k → DelOK R D j) ∧ ChgW w nm pc n cc nx pr R.length cr pi I.length ci pd D.length cd pu U.length cu M (D.take k) v) (fun i _ => D.length - (intOf i).toNat)
    case atStart => exact ⟨0, Nat.zero_le _, rfl, fun j hj => by omega, HW.out⟩
    clear HW hyl y0 y1 y2
    case round =>
      obtain ⟨k, hk, rfl, hok, hw⟩ := hrel
      have HOK := Lib.hid hok
      have HW := Lib.hid hw
      clear hok hw
      by_cases hlt : k < D.length
      · have hlt' : decide ((k : Int) < D.length) = true := decide_eq_true (by omega)
        obtain ⟨c, o, hp, hc, h0⟩ := (HC.out.low HW.out.bel).del k hlt
        dsimp only at hp h0
        subst hp
        have HPREV : Hid (0 < k → wr.cell? ⟨c, o + (k - 1), none⟩ = some (.int .i64 (iAt D (k - 1)))) := Lib.hid (by
          intro h0k
          obtain ⟨c', o', he, hc', h0'⟩ := (HC.out.low HW.out.bel).del (k - 1) (by show k - 1 < D.length; omega)
          cases he
          exact h0')
        obtain ⟨hxl, x0, x1, x2, x3, -⟩ := HW.out.tab
        obtain ⟨gl, gb, hget⟩ : ∃ l b, getO (iAt D k) R = (l, b) := ⟨_, _, rfl⟩
        have HGET := Lib.hid hget
        clear hget
        go_wp2_with fail
        refine (rgt_any nm pc n cc f nx pr cr R _ _ (HT.out.low HW.out.bel) HGET.out).mono ?_
        rintro e w2 ⟨gp, gc, rfl, -, -, hb2⟩
        have HW2 := Lib.hid (HW.out.low hb2)
        have HPREV2 : Hid (0 < k → w2.cell? ⟨c, o + (k - 1), none⟩ = some (.int .i64 (iAt D (k - 1)))) := Lib.hid (fun h0k => by rw [hb2.cell (by exact hc)]; exact HPREV.out h0k)
        have hcl : c < w2.heap.size := Nat.lt_of_lt_of_le hc hb2.size
        clear HW HPREV hb2 hc h0 hxl x0 x1 x2 x3
        obtain ⟨hyl, y0, y1, y2, -⟩ := HW2.out.chg
        cases gb
        · have HV : Hid (validC n R I D U = false) := Lib.hid (validC_del hlt (fun h => by have := h.1; rw [HGET.out] at this; cases this))
          go_wp2
          go_ret
          exact ⟨ret_b (by rw [← HRES.out, HV.out]), HW2.out.bel⟩
        · by_cases h3 : 0 < k
          · have e3 : decide ((0 : Int) < (k : Int)) = true := decide_eq_true (by omega)
            have e3n : decide (0 < k) = true := decide_eq_true h3
            have hp := HPREV2.out h3
            have hw1 : IntKind.i64.wrap ((k : Int) - 1) = (k : Int) - 1 := i64w (by omega) (by omega)
            have ht1 : ((k : Int) - 1).toNat = k - 1 := by omega
            have hlo : (1 : Int) ≤ (k : Int) := by omega
            have hhi : (k : Int) - 1 < (D.length : Int) := by omega
            by_cases h4 : iAt D k ≤ iAt D (k - 1)
            · have e4 : decide (iAt D k ≤ iAt D (k - 1)) = true := decide_eq_true h4
              have HV : Hid (validC n R I D U = false) := Lib.hid (validC_del hlt (fun h => by have := h.2 h3; omega))
              go_wp2
              go_ret
              exact ⟨ret_b (by rw [← HRES.out, HV.out]), HW2.out.bel⟩
            · have e4 : decide (iAt D k ≤ iAt D (k - 1)) = false := decide_eq_false h4
              have HDO : Hid (DelOK R D k) := Lib.hid ⟨by rw [HGET.out], fun _ => by omega⟩
              have HNS : Hid (iAt D k ∉ D.take k) := Lib.hid (new_i hlt (fun j hj hj0 => by
                by_cases he : j = k
                · subst he; exact HDO.out.2 hj0
                · exact (HOK.out j (by omega)).2 hj0))
              have HTK := Lib.hid (take_i hlt)
              go_wp2_with (at_mapUpdate; refine wpList_put_seenI rfl (.tmp 55) (.tmp 56) (.const (.bool true)) 110 rfl Tryd.underlying110 M _ rfl HW2.out.map (iAt D k) (by rfl) rfl HNS.out ?_; intro w5 hs5 hg5; (have HW5 := Lib.hid (HW2.out.put hs5 hg5)); clear hs5 hg5)
              go_roundw
              case rel => exact ⟨k + 1, by omega, by go_num, all_succ HOK.out HDO.out, by rw [HTK.out]; exact HW5.out⟩
              case measure => simp [intOf]; omega
          · have e3 : decide ((0 : Int) < (k : Int)) = false := decide_eq_false (by omega)
            have e3n : decide (0 < k) = false := decide_eq_false h3
            have HDO : Hid (DelOK R D k) := Lib.hid ⟨by rw [HGET.out], fun h => absurd h h3⟩
            have HNS : Hid (iAt D k ∉ D.take k) := Lib.hid (by obtain rfl : k = 0 := (by omega); simp)
            have HTK := Lib.hid (take_i hlt)
            go_wp2_with (at_mapUpdate; refine wpList_put_seenI rfl (.tmp 55) (.tmp 56) (.const (.bool true)) 110 rfl Tryd.underlying110 M _ rfl HW2.out.map (iAt D k) (by rfl) rfl HNS.out ?_; intro w5 hs5 hg5; (have HW5 := Lib.hid (HW2.out.put hs5 hg5)); clear hs5 hg5)
            go_roundw
            case rel => exact ⟨k + 1, by omega, by go_num, all_succ HOK.out HDO.out, by rw [HTK.out]; exact HW5.out⟩
            case measure => simp [intOf]; omega
      · have hlt' : decide ((k : Int) < D.length) = false := decide_eq_false (by omega)
        obtain rfl : k = D.length := by omega
        have HW1 : Hid (ChgW w nm pc n cc nx pr R.length cr pi I.length ci pd D.length cd pu U.length cu M D wr) := Lib.hid (by have := HW.out; rw [List.take_length] at this; exact this)
        clear HW
        have HDEL := Lib.hid HOK.out
        clear HOK
        obtain ⟨hyl, y0, y1, y2, -⟩ := HW1.out.chg
        go_wp2_with fail
        go_loopw [61] (fun i v => ∃ k : Nat, k ≤ U.length ∧ i = .int .i64 k ∧ (∀ j, j < k → UpdOK n R D U j) ∧ ChgW w nm pc n cc nx pr R.length cr pi I.length ci pd D.length cd pu U.length cu M D v) (fun i _ => U.length - (intOf i).toNat)
        case atStart => exact ⟨0, Nat.zero_le _, rfl, fun j hj => by omega, HW1.out⟩
        clear HW1 hyl y0 y1 y2
        case round =>
          generalize wr = wo at *
          obtain ⟨k, hk, rfl, hok, hw⟩ := hrel
          have HOK := Lib.hid hok
          have HW := Lib.hid hw
          clear hok hw
          by_cases hlt : k < U.length
          · have hlt' : decide ((k : Int) < U.length) = true := decide_eq_true (by omega)
            obtain ⟨c, o, q, cq, r, cw, hp, hc, h0, h1, h2, hro, -, hso, -, -, -⟩ := (HC.out.low HW.out.bel).upd k hlt
            dsimp only at hp h0 h1 h2 hro hso
            subst hp
            have hbn := below_alloc wo (.cells #[.int .i64 (pAt U k).1, .slice q (pAt U k).2.1.length cq, .slice r (pAt U k).2.2.length cw] 69)
            have HPREV : Hid (0 < k → wo.cell? ⟨c, o + (k - 1) * 3, none⟩ = some (.int .i64 (pAt U (k - 1)).1)) := Lib.hid (by
              intro h0k
              obtain ⟨c', o', q', cq', r', cw', he, hc', h0', -⟩ := (HC.out.low HW.out.bel).upd (k - 1) (by show k - 1 < U.length; omega)
              cases he
              exact h0')
            have HPREV2 : Hid (0 < k → (wo.alloc (.cells #[.int .i64 (pAt U k).1, .slice q (pAt U k).2.1.length cq, .slice r (pAt U k).2.2.length cw] 69)).cell? ⟨c, o + (k - 1) * 3, none⟩ = some (.int .i64 (pAt U (k - 1)).1)) := Lib.hid (fun h0k => by rw [hbn.cell (by exact hc)]; exact HPREV.out h0k)
            have HW2 := Lib.hid (HW.out.low hbn)
            have HRO := Lib.hid (hro.low hbn)
            have HP2 := Lib.hid (cell3_new wo (.int .i64 (pAt U k).1) (.slice q (pAt U k).2.1.length cq) (.slice r (pAt U k).2.2.length cw) 69)
            have hcl2 := Nat.lt_of_lt_of_le hc hbn.size
            have HOL : Hid ((pAt U k).2.1.length ≤ 9223372036854775807) := Lib.hid (by omega)
            clear HPREV hro hso HW hbn
            go_upto_region 16 with (fail)
            clear h0 h1 h2 hc
            generalize World.alloc _ _ = W2 at HPREV2 HW2 HRO HP2 hcl2 ⊢
            generalize wo.heap.size = P at HP2 ⊢
            obtain ⟨hxl, x0, x1, x2, x3, -⟩ := HW2.out.tab
            obtain ⟨hpl, p0, p1, p2, -⟩ := HP2.out
            obtain ⟨gl, gb, hget⟩ : ∃ l b, getO (pAt U k).1 R = (l, b) := ⟨_, _, rfl⟩
            have HGET := Lib.hid hget
            clear hget
            go_wp2_with fail
            refine (rgt_any nm pc n cc f nx pr cr R _ _ (HT.out.low HW2.out.bel) HGET.out).mono ?_
            rintro e w3 ⟨gp, gc, rfl, hgr, hgs, hb3⟩
            have HW3 := Lib.hid (HW2.out.low hb3)
            have HP3 := Lib.hid (HP2.out.low hb3)
            have HRO3 := Lib.hid (HRO.out.low hb3)
            have HGR := Lib.hid hgr
            have HGL : Hid (gl.length ≤ 9223372036854775807) := Lib.hid (by omega)
            have HPREV3 : Hid (0 < k → w3.cell? ⟨c, o + (k - 1) * 3, none⟩ = some (.int .i64 (pAt U (k - 1)).1)) := Lib.hid (fun h0k => by rw [hb3.cell (by exact hcl2)]; exact HPREV2.out h0k)
            have hcl := Nat.lt_of_lt_of_le hcl2 hb3.size
            clear HW2 HP2 HRO HPREV2 hgr hgs hb3 hcl2 hxl x0 x1 x2 x3 hpl p0 p1 p2
            go_upto_region 17 with (fail)
            obtain ⟨hyl, y0, y1, y2, -⟩ := HW3.out.chg
            obtain ⟨hpl, p0, p1, p2, -⟩ := HP3.out
            cases gb
            · have HV : Hid (validC n R I D U = false) := Lib.hid (validC_upd hlt (fun h => by have := h.1; rw [HGET.out] at this; cases this))
              go_quiet (fail)
              go_wp2
              go_ret
              exact ⟨ret_b (by rw [← HRES.out, HV.out]), drewN_low HW3.out.bel _⟩
            · have l0 := lowW_cell (a := ⟨w.heap.size + 1, 0, none⟩) hyl y0
              have l1 := lowW_cell (a := ⟨w.heap.size + 1, 1, none⟩) hyl y1
              have l2 := lowW_cell (a := ⟨w.heap.size + 1, 2, none⟩) hyl y2
              have m0 := lowW_cell (a := ⟨P, 0, none⟩) hpl p0
              have m1 := lowW_cell (a := ⟨P, 1, none⟩) hpl p1
              have m2 := lowW_cell (a := ⟨P, 2, none⟩) hpl p2
              have hlook : ∀ d os, (Instr.lookup 110 (.map (some M)) (.int .i64 (pAt U k).1) false).run Tryd.prog (lowW w3 d os) = .ok (.bool (decide ((pAt U k).1 ∈ D))) (lowW w3 d os) := fun d os => (HW3.out.map.low (lowW_low w3 d os)).look _ _ Tryd.underlying110
              clear hyl y0 y1 y2 hpl p0 p1 p2
              by_cases hm : (pAt U k).1 ∈ D
              · rw [decide_eq_true hm] at hlook
                have HV : Hid (validC n R I D U = false) := Lib.hid (validC_upd hlt (fun h => h.2.1 hm))
                refine wp_region_low (by kernel_rfl) (by kernel_rfl) ?_
                repeat (refine wq_step (fun K hK => ?_); go_simp; first | (refine hK _ ?_; clear hK K) | (apply Exists.intro; refine ⟨fun _ => ?_, hK _ ?_⟩; (go_at_call 47; exact Calls.low_of (rcomparerows_any gp q gl (pAt U k).2.1 gc cq _ HGL.out HOL.out (HGR.out.low (lowW_low _ _ _)) (HRO3.out.low (lowW_low _ _ _)))); clear hK K))
                refine wq_nil ?_
                rintro _ ⟨⟨d3, os3⟩, rfl⟩
                dsimp only
                have HW4 := Lib.hid (HW3.out.low (lowW_low w3 d3 os3))
                clear  l0 l1 l2 m0 m1 m2 hlook
                generalize lowW w3 d3 os3 = w4 at HW4 ⊢
                go_wp2
                go_ret
                exact ⟨ret_b (by rw [← HRES.out, HV.out]), HW4.out.bel⟩
              · rw [decide_eq_false hm] at hlook
                by_cases h3 : 0 < k
                · have e3 : decide ((0 : Int) < (k : Int)) = true := decide_eq_true (by omega)
                  have e3n : decide (0 < k) = true := decide_eq_true h3
                  have lp := lowW_cell (a := ⟨c, o + (k - 1) * 3, none⟩) hcl (HPREV3.out h3)
                  have hw1 : IntKind.i64.wrap ((k : Int) - 1) = (k : Int) - 1 := i64w (by omega) (by omega)
                  have ht1 : ((k : Int) - 1).toNat = k - 1 := by omega
                  have hlo : (1 : Int) ≤ (k : Int) := by omega
                  have hhi : (k : Int) - 1 < (U.length : Int) := by omega
                  by_cases h4 : (pAt U k).1 ≤ (pAt U (k - 1)).1
                  · have e4 : decide ((pAt U k).1 ≤ (pAt U (k - 1)).1) = true := decide_eq_true h4
                    have HV : Hid (validC n R I D U = false) := Lib.hid (validC_upd hlt (fun h => by have := h.2.2.1 h3; omega))
                    refine wp_region_low (by kernel_rfl) (by kernel_rfl) ?_
                    repeat (refine wq_step (fun K hK => ?_); go_simp; first | (refine hK _ ?_; clear hK K) | (apply Exists.intro; refine ⟨fun _ => ?_, hK _ ?_⟩; (go_at_call 47; exact Calls.low_of (rcomparerows_any gp q gl (pAt U k).2.1 gc cq _ HGL.out HOL.out (HGR.out.low (lowW_low _ _ _)) (HRO3.out.low (lowW_low _ _ _)))); clear hK K))
                    refine wq_nil ?_
                    rintro _ ⟨⟨d3, os3⟩, rfl⟩
                    dsimp only
                    have HW4 := Lib.hid (HW3.out.low (lowW_low w3 d3 os3))
                    clear lp l0 l1 l2 m0 m1 m2 hlook
                    generalize lowW w3 d3 os3 = w4 at HW4 ⊢
                    go_wp2
                    go_ret
                    exact ⟨ret_b (by rw [← HRES.out, HV.out]), HW4.out.bel⟩
                  · have e4 : decide ((pAt U k).1 ≤ (pAt U (k - 1)).1) = false := decide_eq_false h4
                    cases hz : (cmpRow gl (pAt U k).2.1 != 0)
                    · cases hz2 : (((pAt U k).2.2.length : Int) != (n : Int))
                      · have HUO : Hid (UpdOK n R D U k) := Lib.hid ⟨by rw [HGET.out], hm, fun _ => by omega, by rw [HGET.out]; exact (cmpRow_zero _ _).1 (bne_eq_false_iff_eq.1 hz), by have := bne_eq_false_iff_eq.1 hz2; omega⟩
                        refine wp_region_low (by kernel_rfl) (by kernel_rfl) ?_
                        repeat (refine wq_step (fun K hK => ?_); go_simp; first | (refine hK _ ?_; clear hK K) | (apply Exists.intro; refine ⟨fun _ => ?_, hK _ ?_⟩; (go_at_call 47; exact Calls.low_of (rcomparerows_any gp q gl (pAt U k).2.1 gc cq _ HGL.out HOL.out (HGR.out.low (lowW_low _ _ _)) (HRO3.out.low (lowW_low _ _ _)))); clear hK K))
                        refine wq_nil ?_
                        rintro _ ⟨⟨d3, os3⟩, rfl⟩
                        dsimp only
                        have HW4 := Lib.hid (HW3.out.low (lowW_low w3 d3 os3))
                        clear lp l0 l1 l2 m0 m1 m2 hlook
                        generalize lowW w3 d3 os3 = w4 at HW4 ⊢
                        go_wp2
                        go_roundw
                        case rel => exact ⟨k + 1, by omega, by go_num, all_succ HOK.out HUO.out, HW4.out⟩
                        case measure => simp [intOf]; omega
                      · have HV : Hid (validC n R I D U = false) := Lib.hid (validC_upd hlt (fun h => by have := h.2.2.2.2; have := bne_iff_ne.1 hz2; omega))
                        refine wp_region_low (by kernel_rfl) (by kernel_rfl) ?_
                        repeat (refine wq_step (fun K hK => ?_); go_simp; first | (refine hK _ ?_; clear hK K) | (apply Exists.intro; refine ⟨fun _ => ?_, hK _ ?_⟩; (go_at_call 47; exact Calls.low_of (rcomparerows_any gp q gl (pAt U k).2.1 gc cq _ HGL.out HOL.out (HGR.out.low (lowW_low _ _ _)) (HRO3.out.low (lowW_low _ _ _)))); clear hK K))
                        refine wq_nil ?_
                        rintro _ ⟨⟨d3, os3⟩, rfl⟩
                        dsimp only
                        have HW4 := Lib.hid (HW3.out.low (lowW_low w3 d3 os3))
                        clear lp l0 l1 l2 m0 m1 m2 hlook
                        generalize lowW w3 d3 os3 = w4 at HW4 ⊢
                        go_wp2
                        go_ret
                        exact ⟨ret_b (by rw [← HRES.out, HV.out]), HW4.out.bel⟩
                    · have HV : Hid (validC n R I D U = false) := Lib.hid (validC_upd hlt (fun h => by have := h.2.2.2.1; rw [HGET.out] at this; exact bne_iff_ne.1 hz ((cmpRow_zero _ _).2 this)))
                      refine wp_region_low (by kernel_rfl) (by kernel_rfl) ?_
                      repeat (refine wq_step (fun K hK => ?_); go_simp; first | (refine hK _ ?_; clear hK K) | (apply Exists.intro; refine ⟨fun _ => ?_, hK _ ?_⟩; (go_at_call 47; exact Calls.low_of (rcomparerows_any gp q gl (pAt U k).2.1 gc cq _ HGL.out HOL.out (HGR.out.low (lowW_low _ _ _)) (HRO3.out.low (lowW_low _ _ _)))); clear hK K))
                      refine wq_nil ?_
                      rintro _ ⟨⟨d3, os3⟩, rfl⟩
                      dsimp only
                      have HW4 := Lib.hid (HW3.out.low (lowW_low w3 d3 os3))
                      clear lp l0 l1 l2 m0 m1 m2 hlook
                      generalize lowW w3 d3 os3 = w4 at HW4 ⊢
                      go_wp2
                      go_ret
                      exact ⟨ret_b (by rw [← HRES.out, HV.out]), HW4.out.bel⟩
                · have e3 : decide ((0 : Int) < (k : Int)) = false := decide_eq_false (by omega)
                  have e3n : decide (0 < k) = false := decide_eq_false h3
                  cases hz : (cmpRow gl (pAt U k).2.1 != 0)
                  · cases hz2 : (((pAt U k).2.2.length : Int) != (n : Int))
                    · have HUO : Hid (UpdOK n R D U k) := Lib.hid ⟨by rw [HGET.out], hm, fun h => absurd h h3, by rw [HGET.out]; exact (cmpRow_zero _ _).1 (bne_eq_false_iff_eq.1 hz), by have := bne_eq_false_iff_eq.1 hz2; omega⟩
                      refine wp_region_low (by kernel_rfl) (by kernel_rfl) ?_
                      repeat (refine wq_step (fun K hK => ?_); go_simp; first | (refine hK _ ?_; clear hK K) | (apply Exists.intro; refine ⟨fun _ => ?_, hK _ ?_⟩; (go_at_call 47; exact Calls.low_of (rcomparerows_any gp q gl (pAt U k).2.1 gc cq _ HGL.out HOL.out (HGR.out.low (lowW_low _ _ _)) (HRO3.out.low (lowW_low _ _ _)))); clear hK K))
                      refine wq_nil ?_
                      rintro _ ⟨⟨d3, os3⟩, rfl⟩
                      dsimp only
                      have HW4 := Lib.hid (HW3.out.low (lowW_low w3 d3 os3))
                      clear  l0 l1 l2 m0 m1 m2 hlook
                      generalize lowW w3 d3 os3 = w4 at HW4 ⊢
                      go_wp2
                      go_roundw
                      case rel => exact ⟨k + 1, by omega, by go_num, all_succ HOK.out HUO.out, HW4.out⟩
                      case measure => simp [intOf]; omega
                    · have HV : Hid (validC n R I D U = false) := Lib.hid (validC_upd hlt (fun h => by have := h.2.2.2.2; have := bne_iff_ne.1 hz2; omega))
                      refine wp_region_low (by kernel_rfl) (by kernel_rfl) ?_
                      repeat (refine wq_step (fun K hK => ?_); go_simp; first | (refine hK _ ?_; clear hK K) | (apply Exists.intro; refine ⟨fun _ => ?_, hK _ ?_⟩; (go_at_call 47; exact Calls.low_of (rcomparerows_any gp q gl (pAt U k).2.1 gc cq _ HGL.out HOL.out (HGR.out.low (lowW_low _ _ _)) (HRO3.out.low (lowW_low _ _ _)))); clear hK K))
                      refine wq_nil ?_
                      rintro _ ⟨⟨d3, os3⟩, rfl⟩
                      dsimp only
                      have HW4 := Lib.hid (HW3.out.low (lowW_low w3 d3 os3))
                      clear  l0 l1 l2 m0 m1 m2 hlook
                      generalize lowW w3 d3 os3 = w4 at HW4 ⊢
                      go_wp2
                      go_ret
                      exact ⟨ret_b (by rw [← HRES.out, HV.out]), HW4.out.bel⟩
                  · have HV : Hid (validC n R I D U = false) := Lib.hid (validC_upd hlt (fun h => by have := h.2.2.2.1; rw [HGET.out] at this; exact bne_iff_ne.1 hz ((cmpRow_zero _ _).2 this)))
                    refine wp_region_low (by kernel_rfl) (by kernel_rfl) ?_
                    repeat (refine wq_step (fun K hK => ?_); go_simp; first | (refine hK _ ?_; clear hK K) | (apply Exists.intro; refine ⟨fun _ => ?_, hK _ ?_⟩; (go_at_call 47; exact Calls.low_of (rcomparerows_any gp q gl (pAt U k).2.1 gc cq _ HGL.out HOL.out (HGR.out.low (lowW_low _ _ _)) (HRO3.out.low (lowW_low _ _ _)))); clear hK K))
                    refine wq_nil ?_
                    rintro _ ⟨⟨d3, os3⟩, rfl⟩
                    dsimp only
                    have HW4 := Lib.hid (HW3.out.low (lowW_low w3 d3 os3))
                    clear  l0 l1 l2 m0 m1 m2 hlook
                    generalize lowW w3 d3 os3 = w4 at HW4 ⊢
                    go_wp2
                    go_ret
                    exact ⟨ret_b (by rw [← HRES.out, HV.out]), HW4.out.bel⟩
          · have hlt' : decide ((k : Int) < U.length) = false := decide_eq_false (by omega)
            obtain rfl : k = U.length := by omega
            have HUPD := Lib.hid HOK.out
            clear HOK
            obtain ⟨hyl, y0, y1, y2, -⟩ := HW.out.chg
            go_wp2_with fail
            go_loopw [115] (fun i v => ∃ k : Nat, k ≤ I.length ∧ i = .int .i64 k ∧ (∀ j, j < k → (rAt I j).length = n) ∧ ChgW w nm pc n cc nx pr R.length cr pi I.length ci pd D.length cd pu U.length cu M D v) (fun i _ => I.length - (intOf i).toNat)
            case atStart => exact ⟨0, Nat.zero_le _, rfl, fun j hj => by omega, HW.out⟩
            clear HW hyl y0 y1 y2
            case round =>
              obtain ⟨k, hk, rfl, hok, hw⟩ := hrel
              have HOK := Lib.hid hok
              have HW := Lib.hid hw
              clear hok hw
              by_cases hlt : k < I.length
              · have hlt' : decide ((k : Int) < I.length) = true := decide_eq_true (by omega)
                obtain ⟨c, o, q, cp, hp, hc, h0, hr, hs, hq⟩ := (HC.out.low HW.out.bel).ins k hlt
                dsimp only at hp h0 hs
                subst hp
                clear hr hq
                cases hz : (((rAt I k).length : Int) != (n : Int))
                · have HE : Hid ((rAt I k).length = n) := Lib.hid (by have := bne_eq_false_iff_eq.1 hz; omega)
                  go_wp2
                  go_roundw
                  case rel => exact ⟨k + 1, by omega, by go_num, all_succ HOK.out HE.out, HW.out⟩
                  case measure => simp [intOf]; omega
                · have HV : Hid (validC n R I D U = false) := Lib.hid (validC_ins hlt (fun h => by have := bne_iff_ne.1 hz; omega))
                  go_wp2
                  go_ret
                  exact ⟨ret_b (by rw [← HRES.out, HV.out]), HW.out.bel⟩
              · have hlt' : decide ((k : Int) < I.length) = false := decide_eq_false (by omega)
                obtain rfl : k = I.length := by omega
                have HV : Hid (validC n R I D U = true) := Lib.hid (validC_yes HDEL.out HUPD.out HOK.out)
                go_wp2
                go_ret
                exact ⟨ret_b (by rw [← HRES.out, HV.out]), HW.out.bel⟩
end Go.Proofs.YtpkbliifcdopgaaDoor
