/-
  Several texts in one.
-/
import Derived.Test.YtlnbpobipmejfaaGreatDoorPk41
import Derived.Test.YtlnbpobipmejfaaGreatDoorPk09
import Derived.Deep.Strs
import Derived.Test.YtlnbpobipmejfaaGreatDoorPk20
import Derived.Test.YtlnbpobipmejfaaGreatDoorPk33
/-
  Arguments opened: a row with a number, a table.
-/
namespace Go.Proofs.YtlnbpobipmejfaaGreatDoor
set_option maxRecDepth 100000
open Go.ChangeShapes Go.WideShapes Go.ChangeAt Go.RowKit

section
variable {H : Type} {enc : TypeId × Value → H} {W : World} {v : Value} {d : DataW H} {p : List MemPlace}
theorem list_two {l : List Value} (h : l.length = 2) : ∃ a b, l = [a, b] := by
  match l, h with
  | [a, b], _ => exact ⟨a, b, rfl⟩
theorem weights_el {P : Program} {t e : TypeId} {elems spare : List (DataW H)} {x : DataW H} (hu : P.underlying t = some (.slice e)) (hx : x ∈ elems) (hw : ∀ n ∈ (DataW.slice elems spare).weights P t, n ≤ reachBytes) : ∀ n ∈ x.weights P e, n ≤ reachBytes := by
  intro n hn
  refine hw n ?_
  simp only [DataW.weights, hu]
  refine List.mem_cons_of_mem _ (List.mem_append_left _ ?_)
  clear hw
  induction elems with
  | nil => cases hx
  | cons y r ih =>
    simp only [DataW.weightsAll]
    rcases List.mem_cons.1 hx with rfl | hx
    · exact List.mem_append_left _ hn
    · exact List.mem_append_right _ (ih hx)
set_option maxRecDepth 100000 in
/-- A slice of rows with numbers. -/
theorem open_trows {t : Nat} {v : Value} {y : DataW H × List MemPlace} (h : DataW.trod enc Tryz.prog W 0 (fun _ => true) true t 22 [v] = some y) (hw : ∀ n ∈ y.1.weights Tryz.prog 22, n ≤ reachBytes) :
    ∃ (a : Option Addr) (R : List TRow) (cap : Nat), v = .slice a R.length cap ∧ R.length ≤ cap ∧ R.length ≤ 9223372036854775807 ∧ TRowsAt W a R ∧ ∀ r ∈ R, ValsSized r.2 := by
  have c2 : Tryz.prog.cellsOf 58 = 2 := by kernel_rfl
  rcases Deep.open_slice Tryz.underlying22 h with ⟨hcs, hx⟩ | ⟨a, len, cap, m, n, D, Pl, hcs, hb, hl, hm, hmm, hx, hi⟩
  · simp only [List.cons.injEq, and_true] at hcs
    subst hcs
    exact ⟨none, [], 0, rfl, Nat.le_refl _, by decide, fun i hi => by simp at hi, fun r hr => by cases hr⟩
  · simp only [List.cons.injEq, and_true] at hcs
    subst hcs
    rw [if_pos rfl] at hmm
    have hd := (Prod.mk.inj hx).1
    have hone : ∀ i, i < len → ∃ x : Int × Option Addr × Nat × List Val, W.cell? ((a.add (i * 2)).add 0) = some (.int .i64 x.1) ∧ W.cell? ((a.add (i * 2)).add 1) = some (.slice x.2.1 x.2.2.2.length x.2.2.1) ∧ RowAt W x.2.1 x.2.2.2 ∧ ValsSized x.2.2.2 ∧ x.2.2.2.length * 32 ≤ 140737488355328 ∧ (x.2.1 = none → x.2.2.2 = [] ∧ x.2.2.1 = 0) := by
      intro i hi'
      obtain ⟨cs', hc, ht'⟩ := hi i (by omega)
      rw [c2] at hc
      obtain ⟨_, hcl, hat⟩ := World.cells?_some hc
      have hwi : ∀ n ∈ (D i).weights Tryz.prog 58, n ≤ reachBytes :=
        weights_el Tryz.underlying22 (x := D i) (elems := (List.range len).map D) (spare := (List.range (m - len)).map fun j => D (len + j)) (List.mem_map.2 ⟨i, List.mem_range.2 hi', rfl⟩) (by rw [← hd]; exact hw)
      obtain ⟨y0, y1, m', hxx, _, h0, h1⟩ := trod_struct2 Tryz.underlying58 ht'
      have hDi : D i = .agg [y0.1, y1.1] := (Prod.mk.inj hxx).1
      have ci : Tryz.prog.cellsOf 3 = 1 := by kernel_rfl
      have cj : Tryz.prog.cellsOf 56 = 1 := by kernel_rfl
      obtain ⟨u0, u1, rfl⟩ := list_two hcl
      have h0 : DataW.trod enc Tryz.prog W 0 (fun _ => true) true m' 3 (([u0, u1].drop 0).take (Tryz.prog.cellsOf 3)) = some y0 := h0
      have h1 : DataW.trod enc Tryz.prog W 0 (fun _ => true) true m' 56 (([u0, u1].drop 1).take (Tryz.prog.cellsOf 56)) = some y1 := h1
      rw [ci] at h0
      rw [cj] at h1
      simp only [List.drop_zero, List.drop_succ_cons, List.take_succ_cons, List.take_zero] at h0 h1
      obtain ⟨k, e0, -, -⟩ := DataW.trod_int Tryz.underlying3 h0
      obtain ⟨q, l, cp, rfl, -, -, h3, h4, h5, h6⟩ := open_row_at h1
      simp only [List.cons.injEq, and_true] at e0
      subst e0
      refine ⟨(k, q, cp, l), by rw [hat 0 (by omega)]; rfl, by rw [hat 1 (by omega)]; rfl, h3, h4, h6 fun n hn => hwi n ?_, h5⟩
      rw [hDi]
      simp only [DataW.weights, Tryz.underlying58]
      simp only [DataW.weightsEach, List.map]
      exact List.mem_append_right _ (List.mem_append_left _ hn)
    haveI : Inhabited (Int × Option Addr × Nat × List Val) := ⟨(0, none, 0, [])⟩
    obtain ⟨f, hf'⟩ := exists_fun hone
    obtain ⟨c, o, sp⟩ := a
    have hlen : ((List.range len).map fun i => ((f i).1, (f i).2.2.2)).length = len := by simp
    have er : ∀ i, i < len → tAt ((List.range len).map fun i => ((f i).1, (f i).2.2.2)) i = ((f i).1, (f i).2.2.2) := fun i hi' => by rw [tAt_get (by rw [hlen]; exact hi')]; simp
    refine ⟨some ⟨c, o, sp⟩, (List.range len).map fun i => ((f i).1, (f i).2.2.2), cap, by rw [hlen], by rw [hlen]; exact hl, by rw [hlen]; unfold maxLen at hm; omega, fun i hi' => ?_, fun r hr => ?_⟩
    · rw [hlen] at hi'
      have hsp : sp = none := by
        obtain ⟨h0, -⟩ := hf' 0 (by omega)
        simpa [Addr.add] using World.cell?_spot h0
      subst hsp
      have ha : ∀ x y, ((⟨c, o, none⟩ : Addr).add x).add y = ⟨c, o + x + y, none⟩ := by
        intro x y
        unfold Addr.add
        split <;> split <;> simp_all
      obtain ⟨h0, h1, h2, -, h4, h5⟩ := hf' i hi'
      rw [ha] at h0 h1
      rw [er i hi']
      exact ⟨c, o, (f i).2.1, (f i).2.2.1, rfl, World.block_lt_of_cell? W _ h0, h0, h1, h2, h4, h5⟩
    · obtain ⟨i, hi', rfl⟩ := List.mem_map.1 hr
      exact (hf' i (List.mem_range.1 hi')).2.2.2.1
set_option maxRecDepth 100000 in
/-- An argument that is a table. -/
theorem open_tablec (hv : ∃ b, Value.okWide Tryz.prog W .any b 34 v) (h : DataW.Trod enc Tryz.prog W 0 (fun _ => true) true 34 v d p) (hw : ∀ n ∈ d.weights Tryz.prog 34, n ≤ reachBytes) :
    ∃ T : Tab, v = .agg #[.string T.nm, .slice T.pc T.n T.cc, .int .i64 T.nx, .slice T.pr T.R.length T.cr] ∧ T.R.length ≤ 9223372036854775807 ∧ T.R.length ≤ T.cr ∧ (T.R.length ≤ 1000 → TabAt W T) := by
  obtain ⟨b, hv⟩ := hv
  obtain ⟨cs, rfl, hsz⟩ := okWide_struct Tryz.underlying34 hv
  have hsz : cs.size = 4 := hsz.trans (by kernel_rfl)
  obtain ⟨c0, c1, c2, c3, rfl⟩ := Joins.array4 hsz
  obtain ⟨fuel, hf⟩ := h
  obtain ⟨y0, y1, y2, m, hx, _, j0, j1, j2⟩ := Go.Deep.trod_struct3 Tryz.underlying34 hf
  have hd : d = .agg [y0.1, y1.1, y2.1] := (Prod.mk.inj hx).1
  have cs : Tryz.prog.cellsOf 28 = 2 := by kernel_rfl
  have ci : Tryz.prog.cellsOf 3 = 1 := by kernel_rfl
  have cr : Tryz.prog.cellsOf 22 = 1 := by kernel_rfl
  have ct : Tryz.prog.cellsOf 9 = 1 := by kernel_rfl
  have cc : Tryz.prog.cellsOf 26 = 1 := by kernel_rfl
  have h0 : DataW.trod enc Tryz.prog W 0 (fun _ => true) true m 28 (([c0, c1, c2, c3].drop 0).take (Tryz.prog.cellsOf 28)) = some y0 := j0
  have h1 : DataW.trod enc Tryz.prog W 0 (fun _ => true) true m 3 (([c0, c1, c2, c3].drop 2).take (Tryz.prog.cellsOf 3)) = some y1 := j1
  have h2 : DataW.trod enc Tryz.prog W 0 (fun _ => true) true m 22 (([c0, c1, c2, c3].drop 3).take (Tryz.prog.cellsOf 22)) = some y2 := j2
  clear j0 j1 j2 hf hv
  rw [cs] at h0
  rw [ci] at h1
  rw [cr] at h2
  simp only [List.drop_zero, List.drop_succ_cons, List.take_succ_cons, List.take_zero] at h0 h1 h2
  obtain ⟨z0, z1, m', -, _, j0, j1⟩ := trod_struct2 Tryz.underlying28 h0
  have g0 : DataW.trod enc Tryz.prog W 0 (fun _ => true) true m' 9 (([c0, c1].drop 0).take (Tryz.prog.cellsOf 9)) = some z0 := j0
  have g1 : DataW.trod enc Tryz.prog W 0 (fun _ => true) true m' 26 (([c0, c1].drop 1).take (Tryz.prog.cellsOf 26)) = some z1 := j1
  clear j0 j1 h0
  rw [ct] at g0
  rw [cc] at g1
  simp only [List.drop_zero, List.drop_succ_cons, List.take_succ_cons, List.take_zero] at g0 g1
  obtain ⟨s, e0, -, ws⟩ := DataW.trod_string Tryz.underlying9 g0
  obtain ⟨a, n, cap, f, rfl, -, hn, hC⟩ := open_cols g1
  obtain ⟨k, e2, -, wk⟩ := DataW.trod_int Tryz.underlying3 h1
  obtain ⟨q, R, cp, rfl, hP, hR, hT, hS⟩ := open_trows h2 fun n hn => hw n (by
    rw [hd]
    simp only [DataW.weights, Tryz.underlying34]
    simp only [DataW.weightsEach, List.map]
    exact List.mem_append_right _ (List.mem_append_right _ (List.mem_append_left _ hn)))
  simp only [List.cons.injEq, and_true] at e0 e2
  subst e0 e2
  exact ⟨⟨s, a, n, cap, f, k, q, cp, R⟩, rfl, hR, hP, fun h => ⟨ws, hn, hC, hT, h, hS, (bounds_i64 wk).2⟩⟩
/-- An argument that is a table, part by part. -/
theorem open_table (hv : ∃ b, Value.okWide Tryz.prog W .any b 34 v) (h : DataW.Trod enc Tryz.prog W 0 (fun _ => true) true 34 v d p) (hw : ∀ n ∈ d.weights Tryz.prog 34, n ≤ reachBytes) :
    ∃ (nm : ByteArray) (a : Option Addr) (n cap : Nat) (f : Nat → Col) (nx : Int) (q : Option Addr) (cr : Nat) (R : List TRow), v = .agg #[.string nm, .slice a n cap, .int .i64 nx, .slice q R.length cr] ∧ R.length ≤ 9223372036854775807 ∧ (R.length ≤ 1000 → TabAt W ⟨nm, a, n, cap, f, nx, q, cr, R⟩) := by
  obtain ⟨T, h1, h2, -, h3⟩ := open_tablec hv h hw
  exact ⟨T.nm, T.pc, T.n, T.cc, T.f, T.nx, T.pr, T.cr, T.R, h1, h2, h3⟩
end
end Go.Proofs.YtlnbpobipmejfaaGreatDoor
/-
  Arguments opened: a list of numbers, of pairs of rows, a change.
-/
namespace Go.Proofs.YtlnbpobipmejfaaGreatDoor
set_option maxRecDepth 100000
open Go.ChangeShapes Go.WideShapes Go.ChangeAt Go.RowKit

section
variable {H : Type} {enc : TypeId × Value → H} {W : World} {v : Value} {d : DataW H} {p : List MemPlace}
theorem addr_add (c o i : Nat) : (⟨c, o, none⟩ : Addr).add i = ⟨c, o + i, none⟩ := by unfold Addr.add; split <;> simp_all
theorem addr_add2 (c o x y : Nat) : ((⟨c, o, none⟩ : Addr).add x).add y = ⟨c, o + x + y, none⟩ := by rw [addr_add, addr_add]
theorem spot_of {a : Addr} {x : Value} (h : W.cell? (a.add 0) = some x) : ∃ c o, a = ⟨c, o, none⟩ := by
  obtain ⟨c, o, sp⟩ := a
  have hsp : sp = none := by simpa [Addr.add] using World.cell?_spot h
  subst hsp
  exact ⟨c, o, rfl⟩
set_option maxRecDepth 100000 in
/-- A slice of pairs. -/
theorem open_pairs {t : Nat} {v : Value} {y : DataW H × List MemPlace} (h : DataW.trod enc Tryz.prog W 0 (fun _ => true) true t 23 [v] = some y) (hw : ∀ n ∈ y.1.weights Tryz.prog 23, n ≤ reachBytes) :
    ∃ (a : Option Addr) (U : List PRow) (cap : Nat), v = .slice a U.length cap ∧ U.length ≤ cap ∧ U.length ≤ 9223372036854775807 ∧ PairsAt W a U ∧ (∀ r ∈ U, ValsSized r.2.1) ∧ ∀ r ∈ U, ValsSized r.2.2 := by
  have c2 : Tryz.prog.cellsOf 75 = 3 := by kernel_rfl
  rcases Deep.open_slice Tryz.underlying23 h with ⟨hcs, hx⟩ | ⟨a, len, cap, m, n, D, Pl, hcs, hb, hl, hm, hmm, hx, hi⟩
  · simp only [List.cons.injEq, and_true] at hcs
    subst hcs
    exact ⟨none, [], 0, rfl, Nat.le_refl _, by decide, fun i hi => (by simp at hi), fun r hr => (by cases hr), fun r hr => (by cases hr)⟩
  · simp only [List.cons.injEq, and_true] at hcs
    subst hcs
    rw [if_pos rfl] at hmm
    have hd := (Prod.mk.inj hx).1
    have hone : ∀ i, i < len → ∃ x : Int × (Option Addr × Nat × List Val) × Option Addr × Nat × List Val, W.cell? ((a.add (i * 3)).add 0) = some (.int .i64 x.1) ∧ W.cell? ((a.add (i * 3)).add 1) = some (.slice x.2.1.1 x.2.1.2.2.length x.2.1.2.1) ∧ W.cell? ((a.add (i * 3)).add 2) = some (.slice x.2.2.1 x.2.2.2.2.length x.2.2.2.1)
        ∧ (RowAt W x.2.1.1 x.2.1.2.2 ∧ ValsSized x.2.1.2.2 ∧ x.2.1.2.2.length * 32 ≤ 140737488355328 ∧ (x.2.1.1 = none → x.2.1.2.2 = [] ∧ x.2.1.2.1 = 0)) ∧ (RowAt W x.2.2.1 x.2.2.2.2 ∧ ValsSized x.2.2.2.2 ∧ x.2.2.2.2.length * 32 ≤ 140737488355328 ∧ (x.2.2.1 = none → x.2.2.2.2 = [] ∧ x.2.2.2.1 = 0)) := by
      intro i hi'
      obtain ⟨cs', hc, ht'⟩ := hi i (by omega)
      rw [c2] at hc
      obtain ⟨_, hcl, hat⟩ := World.cells?_some hc
      have hwi : ∀ n ∈ (D i).weights Tryz.prog 75, n ≤ reachBytes :=
        weights_el Tryz.underlying23 (x := D i) (elems := (List.range len).map D) (spare := (List.range (m - len)).map fun j => D (len + j)) (List.mem_map.2 ⟨i, List.mem_range.2 hi', rfl⟩) (by rw [← hd]; exact hw)
      obtain ⟨y0, y1, y2, m', hxx, _, h0, h1, h2⟩ := Go.Deep.trod_struct3 Tryz.underlying75 ht'
      have hDi : D i = .agg [y0.1, y1.1, y2.1] := (Prod.mk.inj hxx).1
      have ci : Tryz.prog.cellsOf 3 = 1 := by kernel_rfl
      have cj : Tryz.prog.cellsOf 56 = 1 := by kernel_rfl
      obtain ⟨u0, u1, u2, rfl⟩ := list_three hcl
      have h0 : DataW.trod enc Tryz.prog W 0 (fun _ => true) true m' 3 (([u0, u1, u2].drop 0).take (Tryz.prog.cellsOf 3)) = some y0 := h0
      have h1 : DataW.trod enc Tryz.prog W 0 (fun _ => true) true m' 56 (([u0, u1, u2].drop 1).take (Tryz.prog.cellsOf 56)) = some y1 := h1
      have h2 : DataW.trod enc Tryz.prog W 0 (fun _ => true) true m' 56 (([u0, u1, u2].drop 2).take (Tryz.prog.cellsOf 56)) = some y2 := h2
      rw [ci] at h0
      rw [cj] at h1 h2
      simp only [List.drop_zero, List.drop_succ_cons, List.take_succ_cons, List.take_zero] at h0 h1 h2
      obtain ⟨k, e0, -, -⟩ := DataW.trod_int Tryz.underlying3 h0
      obtain ⟨q, l, cp, rfl, -, -, h3, h4, h5, h6⟩ := open_row_at h1
      obtain ⟨q', l', cp', rfl, -, -, h3', h4', h5', h6'⟩ := open_row_at h2
      simp only [List.cons.injEq, and_true] at e0
      subst e0
      refine ⟨(k, (q, cp, l), (q', cp', l')), by rw [hat 0 (by omega)]; rfl, by rw [hat 1 (by omega)]; rfl, by rw [hat 2 (by omega)]; rfl, ⟨h3, h4, h6 fun n hn => hwi n ?_, h5⟩, ⟨h3', h4', h6' fun n hn => hwi n ?_, h5'⟩⟩
      · rw [hDi]
        simp only [DataW.weights, Tryz.underlying75]
        simp only [DataW.weightsEach, List.map]
        exact List.mem_append_right _ (List.mem_append_left _ hn)
      · rw [hDi]
        simp only [DataW.weights, Tryz.underlying75]
        simp only [DataW.weightsEach, List.map]
        exact List.mem_append_right _ (List.mem_append_right _ (List.mem_append_left _ hn))
    haveI : Inhabited (Int × (Option Addr × Nat × List Val) × Option Addr × Nat × List Val) := ⟨(0, (none, 0, []), none, 0, [])⟩
    obtain ⟨f, hf'⟩ := exists_fun hone
    have hlen : ((List.range len).map fun i => ((f i).1, (f i).2.1.2.2, (f i).2.2.2.2)).length = len := by simp
    have er : ∀ i, i < len → pAt ((List.range len).map fun i => ((f i).1, (f i).2.1.2.2, (f i).2.2.2.2)) i = ((f i).1, (f i).2.1.2.2, (f i).2.2.2.2) := fun i hi' => by rw [pAt_get (by rw [hlen]; exact hi')]; simp
    refine ⟨some a, (List.range len).map fun i => ((f i).1, (f i).2.1.2.2, (f i).2.2.2.2), cap, by rw [hlen], by rw [hlen]; exact hl, by rw [hlen]; unfold maxLen at hm; omega, fun i hi' => ?_, fun r hr => ?_, fun r hr => ?_⟩
    · rw [hlen] at hi'
      obtain ⟨c, o, rfl⟩ := spot_of (W := W) (a := a) (by have h0 := (hf' 0 (by omega)).1; rw [Nat.zero_mul] at h0; have e : (a.add 0).add 0 = a.add 0 := by cases a with | mk b o s => cases s <;> simp [Addr.add]
                                                          rw [e] at h0; exact h0)
      obtain ⟨h0, h1, h2, h3, h4⟩ := hf' i hi'
      rw [addr_add2] at h0 h1 h2
      rw [er i hi']
      exact ⟨c, o, (f i).2.1.1, (f i).2.1.2.1, (f i).2.2.1, (f i).2.2.2.1, rfl, World.block_lt_of_cell? W _ h0, h0, h1, h2, h3.1, h4.1, h3.2.2.1, h4.2.2.1, h3.2.2.2, h4.2.2.2⟩
    · obtain ⟨i, hi', rfl⟩ := List.mem_map.1 hr
      exact (hf' i (List.mem_range.1 hi')).2.2.2.1.2.1
    · obtain ⟨i, hi', rfl⟩ := List.mem_map.1 hr
      exact (hf' i (List.mem_range.1 hi')).2.2.2.2.2.1
set_option maxRecDepth 100000 in
/-- A slice of rows. -/
theorem open_rows_in {t : Nat} {v : Value} {y : DataW H × List MemPlace} (h : DataW.trod enc Tryz.prog W 0 (fun _ => true) true t 43 [v] = some y) (hw : ∀ n ∈ y.1.weights Tryz.prog 43, n ≤ reachBytes) :
    ∃ (a : Option Addr) (L : List (List Val)) (cap : Nat), v = .slice a L.length cap ∧ L.length ≤ cap ∧ L.length ≤ 9223372036854775807 ∧ RowsAt W a L ∧ ∀ l ∈ L, ValsSized l := by
  rcases Deep.open_slice1 Tryz.underlying43 (by kernel_rfl) h with ⟨hcs, hx⟩ | ⟨a, len, cap, m, n, V, D, Pl, hcs, hb, hl, hm, hmm, hx, hi⟩
  · simp only [List.cons.injEq, and_true] at hcs
    subst hcs
    exact ⟨none, [], 0, rfl, Nat.le_refl _, by decide, fun i hi => (by simp at hi), fun r hr => (by cases hr)⟩
  · simp only [List.cons.injEq, and_true] at hcs
    subst hcs
    rw [if_pos rfl] at hmm
    have hd := (Prod.mk.inj hx).1
    have hone : ∀ i, i < len → ∃ x : Option Addr × Nat × List Val, V i = .slice x.1 x.2.2.length x.2.1 ∧ RowAt W x.1 x.2.2 ∧ ValsSized x.2.2 ∧ x.2.2.length * 32 ≤ 140737488355328 ∧ (x.1 = none → x.2.2 = [] ∧ x.2.1 = 0) := by
      intro i hi'
      obtain ⟨-, ht⟩ := hi i (by omega)
      obtain ⟨q, l, cp, e0, -, -, h3, h4, h5, h6⟩ := open_row_at ht
      refine ⟨(q, cp, l), e0, h3, h4, h6 ?_, h5⟩
      refine weights_el Tryz.underlying43 (x := D i) (elems := (List.range len).map D) (spare := (List.range (m - len)).map fun j => D (len + j)) (List.mem_map.2 ⟨i, List.mem_range.2 hi', rfl⟩) ?_
      rw [← hd]
      exact hw
    haveI : Inhabited (Option Addr × Nat × List Val) := ⟨(none, 0, [])⟩
    obtain ⟨f, hf'⟩ := exists_fun hone
    have hlen : ((List.range len).map fun i => (f i).2.2).length = len := by simp
    refine ⟨some a, (List.range len).map fun i => (f i).2.2, cap, by rw [hlen], by rw [hlen]; exact hl, by rw [hlen]; unfold maxLen at hm; omega, fun i hi' => ?_, fun r hr => ?_⟩
    · rw [hlen] at hi'
      obtain ⟨c, o, rfl⟩ := spot_of (hi 0 (by omega)).1
      obtain ⟨h0, -⟩ := hi i (by omega)
      obtain ⟨e0, h1, -, h2, h3⟩ := hf' i hi'
      have er : rAt ((List.range len).map fun i => (f i).2.2) i = (f i).2.2 := by rw [rAt_get (by rw [hlen]; exact hi')]; simp
      rw [addr_add, e0] at h0
      rw [er]
      exact ⟨c, o, (f i).1, (f i).2.1, rfl, World.block_lt_of_cell? W _ h0, h0, h1, h2, h3⟩
    · obtain ⟨i, hi', rfl⟩ := List.mem_map.1 hr
      exact (hf' i (List.mem_range.1 hi')).2.2.1
/-- A slice of numbers. -/
theorem open_ids {t : Nat} {v : Value} {y : DataW H × List MemPlace} (h : DataW.trod enc Tryz.prog W 0 (fun _ => true) true t 29 [v] = some y) :
    ∃ (a : Option Addr) (D : List Int) (cap : Nat), v = .slice a D.length cap ∧ D.length ≤ cap ∧ D.length ≤ 9223372036854775807 ∧ NumAt W a D := by
  rcases open_ints Tryz.underlying29 Tryz.underlying3 (by kernel_rfl) h with ⟨hcs, hx⟩ | ⟨a, len, cap, zs, hcs, _, hl, hm, hz, hx, hcell, hwz⟩
  · simp only [List.cons.injEq, and_true] at hcs
    subst hcs
    exact ⟨none, [], 0, rfl, Nat.le_refl _, by decide, fun i hi => by simp at hi⟩
  · simp only [List.cons.injEq, and_true] at hcs
    subst hcs
    rw [if_pos rfl] at hz
    have hlen : ((List.range len).map fun i => zs.getD i 0).length = len := by simp
    refine ⟨some a, (List.range len).map fun i => zs.getD i 0, cap, by rw [hlen], by rw [hlen]; exact hl, by rw [hlen]; unfold maxLen at hm; omega, fun i hi' => ?_⟩
    rw [hlen] at hi'
    obtain ⟨c, o, rfl⟩ := spot_of (hcell 0 (by omega))
    have h0 := hcell i (by omega)
    have er : iAt ((List.range len).map fun i => zs.getD i 0) i = zs.getD i 0 := by rw [iAt_get (by rw [hlen]; exact hi')]; simp
    rw [addr_add] at h0
    rw [er]
    exact ⟨c, o, rfl, World.block_lt_of_cell? W _ h0, h0⟩
set_option maxRecDepth 100000 in
/-- An argument that is a change. -/
theorem open_change (hv : ∃ b, Value.okWide Tryz.prog W .any b 80 v) (h : DataW.Trod enc Tryz.prog W 0 (fun _ => true) true 80 v d p) (hw : ∀ n ∈ d.weights Tryz.prog 80, n ≤ reachBytes) :
    ∃ C : Chg, v = .agg #[.slice C.pi C.I.length C.ci, .slice C.pd C.D.length C.cd, .slice C.pu C.U.length C.cu] ∧ C.I.length ≤ 9223372036854775807 ∧ (C.I.length ≤ 1000 → ChgAt W C) := by
  obtain ⟨b, hv⟩ := hv
  obtain ⟨cs, rfl, hsz⟩ := okWide_struct Tryz.underlying80 hv
  have hsz : cs.size = 3 := hsz.trans (by kernel_rfl)
  obtain ⟨c0, c1, c2, rfl⟩ := Joins.array3 hsz
  obtain ⟨fuel, hf⟩ := h
  obtain ⟨y0, y1, y2, m, hx, _, j0, j1, j2⟩ := Go.Deep.trod_struct3 Tryz.underlying80 hf
  have hd : d = .agg [y0.1, y1.1, y2.1] := (Prod.mk.inj hx).1
  have ca : Tryz.prog.cellsOf 43 = 1 := by kernel_rfl
  have ci : Tryz.prog.cellsOf 29 = 1 := by kernel_rfl
  have cp : Tryz.prog.cellsOf 23 = 1 := by kernel_rfl
  have h0 : DataW.trod enc Tryz.prog W 0 (fun _ => true) true m 43 (([c0, c1, c2].drop 0).take (Tryz.prog.cellsOf 43)) = some y0 := j0
  have h1 : DataW.trod enc Tryz.prog W 0 (fun _ => true) true m 29 (([c0, c1, c2].drop 1).take (Tryz.prog.cellsOf 29)) = some y1 := j1
  have h2 : DataW.trod enc Tryz.prog W 0 (fun _ => true) true m 23 (([c0, c1, c2].drop 2).take (Tryz.prog.cellsOf 23)) = some y2 := j2
  clear j0 j1 j2 hf hv
  rw [ca] at h0
  rw [ci] at h1
  rw [cp] at h2
  simp only [List.drop_zero, List.drop_succ_cons, List.take_succ_cons, List.take_zero] at h0 h1 h2
  have hws : ∀ n, (n ∈ y0.1.weights Tryz.prog 43 ∨ n ∈ y2.1.weights Tryz.prog 23) → n ≤ reachBytes := fun n hn => hw n (by
    rw [hd]
    simp only [DataW.weights, Tryz.underlying80]
    simp only [DataW.weightsEach, List.map]
    rcases hn with hn | hn
    · exact List.mem_append_left _ hn
    · exact List.mem_append_right _ (List.mem_append_right _ (List.mem_append_left _ hn)))
  obtain ⟨pi, I, ci', rfl, -, hI, hi1, hi2⟩ := open_rows_in h0 fun n hn => hws n (.inl hn)
  obtain ⟨pd, D, cd', rfl, hD1, hD2, hD3⟩ := open_ids h1
  obtain ⟨pu, U, cu', rfl, hU1, hU2, hU3, -, hU4⟩ := open_pairs h2 fun n hn => hws n (.inr hn)
  exact ⟨⟨pi, ci', I, pd, cd', D, pu, cu', U⟩, rfl, hI, fun h => ⟨hi1, hD3, hU3, h, hD2, hU2, hi2, hU4, hD1, hU1⟩⟩
end
end Go.Proofs.YtlnbpobipmejfaaGreatDoor
/-
  Arguments opened: a difference of tables.
-/
namespace Go.Proofs.YtlnbpobipmejfaaGreatDoor
set_option maxRecDepth 100000
open Go.ChangeShapes Go.WideShapes Go.ChangeAt Go.RowKit

section
variable {H : Type} {enc : TypeId × Value → H} {W : World} {v : Value} {d : DataW H} {p : List MemPlace}
theorem bytes_trow : Tryz.prog.bytesOf 58 = 32 := by kernel_rfl
/-- A list of rows is shorter than what memory can hold. -/
theorem trows_short {t : Nat} {v : Value} {y : DataW H × List MemPlace} (h : DataW.trod enc Tryz.prog W 0 (fun _ => true) true t 22 [v] = some y) (hw : ∀ n ∈ y.1.weights Tryz.prog 22, n ≤ reachBytes) :
    ∃ (a : Option Addr) (len cap : Nat), v = .slice a len cap ∧ len * 32 ≤ 140737488355328 := by
  rcases Deep.open_slice Tryz.underlying22 h with ⟨hcs, hx⟩ | ⟨a, len, cap, m, n, D, Pl, hcs, hb, hl, hm, hmm, hx, hi⟩
  · simp only [List.cons.injEq, and_true] at hcs
    exact ⟨none, 0, 0, hcs, by decide⟩
  · simp only [List.cons.injEq, and_true] at hcs
    rw [if_pos rfl] at hmm
    refine ⟨some a, len, cap, hcs, ?_⟩
    have := hw (cap * 32) (by
      rw [hx]
      simp only [DataW.weights, Tryz.underlying22, List.length_map, List.length_range, bytes_trow]
      rw [show len + (m - len) = cap by omega]
      exact List.mem_cons_self)
    simp only [reachBytes] at this
    omega
set_option maxRecDepth 100000 in
/-- An argument that is a difference. -/
theorem open_delta (hv : ∃ b, Value.okWide Tryz.prog W .any b 25 v) (h : DataW.Trod enc Tryz.prog W 0 (fun _ => true) true 25 v d p) (hw : ∀ n ∈ d.weights Tryz.prog 25, n ≤ reachBytes) :
    ∃ E : Dlt, v = .agg #[.string E.nm, .slice E.pi E.I.length E.ci, .slice E.pd E.D.length E.cd, .slice E.pu E.U.length E.cu] ∧ E.I.length ≤ 9223372036854775807 ∧ E.D.length ≤ 17592186044415 ∧ (E.I.length ≤ 1000 → DltAt W E) := by
  obtain ⟨b, hv⟩ := hv
  obtain ⟨cs, rfl, hsz⟩ := okWide_struct Tryz.underlying25 hv
  have hsz : cs.size = 4 := hsz.trans (by kernel_rfl)
  obtain ⟨c0, c1, c2, c3, rfl⟩ := Joins.array4 hsz
  obtain ⟨fuel, hf⟩ := h
  obtain ⟨y0, y1, y2, y3, m, hx, _, j0, j1, j2, j3⟩ := Go.Joins.trod_struct4 Tryz.underlying25 hf
  have hd : d = .agg [y0.1, y1.1, y2.1, y3.1] := (Prod.mk.inj hx).1
  have ct : Tryz.prog.cellsOf 9 = 1 := by kernel_rfl
  have cr : Tryz.prog.cellsOf 22 = 1 := by kernel_rfl
  have cp : Tryz.prog.cellsOf 23 = 1 := by kernel_rfl
  have h0 : DataW.trod enc Tryz.prog W 0 (fun _ => true) true m 9 (([c0, c1, c2, c3].drop 0).take (Tryz.prog.cellsOf 9)) = some y0 := j0
  have h1 : DataW.trod enc Tryz.prog W 0 (fun _ => true) true m 22 (([c0, c1, c2, c3].drop 1).take (Tryz.prog.cellsOf 22)) = some y1 := j1
  have h2 : DataW.trod enc Tryz.prog W 0 (fun _ => true) true m 22 (([c0, c1, c2, c3].drop 2).take (Tryz.prog.cellsOf 22)) = some y2 := j2
  have h3 : DataW.trod enc Tryz.prog W 0 (fun _ => true) true m 23 (([c0, c1, c2, c3].drop 3).take (Tryz.prog.cellsOf 23)) = some y3 := j3
  clear j0 j1 j2 j3 hf hv
  rw [ct] at h0
  rw [cr] at h1 h2
  rw [cp] at h3
  simp only [List.drop_zero, List.drop_succ_cons, List.take_succ_cons, List.take_zero] at h0 h1 h2 h3
  have hws : ∀ n, (n ∈ y1.1.weights Tryz.prog 22 ∨ n ∈ y2.1.weights Tryz.prog 22 ∨ n ∈ y3.1.weights Tryz.prog 23) → n ≤ reachBytes := fun n hn => hw n (by
    rw [hd]
    simp only [DataW.weights, Tryz.underlying25]
    simp only [DataW.weightsEach, List.map]
    rcases hn with hn | hn | hn
    · exact List.mem_append_right _ (List.mem_append_left _ hn)
    · exact List.mem_append_right _ (List.mem_append_right _ (List.mem_append_left _ hn))
    · exact List.mem_append_right _ (List.mem_append_right _ (List.mem_append_right _ (List.mem_append_left _ hn))))
  obtain ⟨s, e0, -, ws⟩ := DataW.trod_string Tryz.underlying9 h0
  obtain ⟨pi, I, ci, rfl, hI1, hI2, hI3, hI4⟩ := open_trows h1 fun n hn => hws n (.inl hn)
  obtain ⟨pd, D, cd, rfl, hD1, hD2, hD3, hD4⟩ := open_trows h2 fun n hn => hws n (.inr (.inl hn))
  have hDs : D.length ≤ 17592186044415 := by
    obtain ⟨a', len', cap', e', hle⟩ := trows_short h2 fun n hn => hws n (.inr (.inl hn))
    injection e' with _ e' _
    omega
  obtain ⟨pu, U, cu, rfl, hU1, hU2, hU3, hU4, hU5⟩ := open_pairs h3 fun n hn => hws n (.inr (.inr hn))
  simp only [List.cons.injEq, and_true] at e0
  subst e0
  exact ⟨⟨s, pi, ci, I, pd, cd, D, pu, cu, U⟩, rfl, hI2, hDs, fun h => ⟨ws, hI3, hD3, hU3, h, hD2, hU2, hI4, hD4, hU4, hU5, hI1, hD1, hU1⟩⟩
end
end Go.Proofs.YtlnbpobipmejfaaGreatDoor
/-
  Arguments opened: a difference and a schema, with the bounds that memory sets.
-/
namespace Go.Proofs.YtlnbpobipmejfaaGreatDoor
set_option maxRecDepth 100000
open Go.ChangeShapes Go.WideShapes Go.ChangeAt Go.RowKit

section
variable {H : Type} {enc : TypeId × Value → H} {W : World} {v : Value} {d : DataW H} {p : List MemPlace}
theorem bytes_pair : Tryz.prog.bytesOf 75 = 56 := by kernel_rfl
/-- A list of pairs is shorter than what memory can hold. -/
theorem pairs_short {t : Nat} {v : Value} {y : DataW H × List MemPlace} (h : DataW.trod enc Tryz.prog W 0 (fun _ => true) true t 23 [v] = some y) (hw : ∀ n ∈ y.1.weights Tryz.prog 23, n ≤ reachBytes) :
    ∃ (a : Option Addr) (len cap : Nat), v = .slice a len cap ∧ len * 56 ≤ 140737488355328 := by
  rcases Deep.open_slice Tryz.underlying23 h with ⟨hcs, hx⟩ | ⟨a, len, cap, m, n, D, Pl, hcs, hb, hl, hm, hmm, hx, hi⟩
  · simp only [List.cons.injEq, and_true] at hcs
    exact ⟨none, 0, 0, hcs, by decide⟩
  · simp only [List.cons.injEq, and_true] at hcs
    rw [if_pos rfl] at hmm
    refine ⟨some a, len, cap, hcs, ?_⟩
    have := hw (cap * 56) (by
      rw [hx]
      simp only [DataW.weights, Tryz.underlying23, List.length_map, List.length_range, bytes_pair]
      rw [show len + (m - len) = cap by omega]
      exact List.mem_cons_self)
    simp only [reachBytes] at this
    omega
set_option maxRecDepth 100000 in
/-- An argument that is a difference. -/
theorem open_delta3 (hv : ∃ b, Value.okWide Tryz.prog W .any b 25 v) (h : DataW.Trod enc Tryz.prog W 0 (fun _ => true) true 25 v d p) (hw : ∀ n ∈ d.weights Tryz.prog 25, n ≤ reachBytes) :
    ∃ E : Dlt, v = .agg #[.string E.nm, .slice E.pi E.I.length E.ci, .slice E.pd E.D.length E.cd, .slice E.pu E.U.length E.cu] ∧ E.I.length ≤ 17592186044415 ∧ E.D.length ≤ 17592186044415 ∧ E.U.length ≤ 17592186044415 ∧ (E.I.length ≤ 1000 → DltAt W E) := by
  obtain ⟨b, hv⟩ := hv
  obtain ⟨cs, rfl, hsz⟩ := okWide_struct Tryz.underlying25 hv
  have hsz : cs.size = 4 := hsz.trans (by kernel_rfl)
  obtain ⟨c0, c1, c2, c3, rfl⟩ := Joins.array4 hsz
  obtain ⟨fuel, hf⟩ := h
  obtain ⟨y0, y1, y2, y3, m, hx, _, j0, j1, j2, j3⟩ := Go.Joins.trod_struct4 Tryz.underlying25 hf
  have hd : d = .agg [y0.1, y1.1, y2.1, y3.1] := (Prod.mk.inj hx).1
  have ct : Tryz.prog.cellsOf 9 = 1 := by kernel_rfl
  have cr : Tryz.prog.cellsOf 22 = 1 := by kernel_rfl
  have cp : Tryz.prog.cellsOf 23 = 1 := by kernel_rfl
  have h0 : DataW.trod enc Tryz.prog W 0 (fun _ => true) true m 9 (([c0, c1, c2, c3].drop 0).take (Tryz.prog.cellsOf 9)) = some y0 := j0
  have h1 : DataW.trod enc Tryz.prog W 0 (fun _ => true) true m 22 (([c0, c1, c2, c3].drop 1).take (Tryz.prog.cellsOf 22)) = some y1 := j1
  have h2 : DataW.trod enc Tryz.prog W 0 (fun _ => true) true m 22 (([c0, c1, c2, c3].drop 2).take (Tryz.prog.cellsOf 22)) = some y2 := j2
  have h3 : DataW.trod enc Tryz.prog W 0 (fun _ => true) true m 23 (([c0, c1, c2, c3].drop 3).take (Tryz.prog.cellsOf 23)) = some y3 := j3
  clear j0 j1 j2 j3 hf hv
  rw [ct] at h0
  rw [cr] at h1 h2
  rw [cp] at h3
  simp only [List.drop_zero, List.drop_succ_cons, List.take_succ_cons, List.take_zero] at h0 h1 h2 h3
  have hws : ∀ n, (n ∈ y1.1.weights Tryz.prog 22 ∨ n ∈ y2.1.weights Tryz.prog 22 ∨ n ∈ y3.1.weights Tryz.prog 23) → n ≤ reachBytes := fun n hn => hw n (by
    rw [hd]
    simp only [DataW.weights, Tryz.underlying25]
    simp only [DataW.weightsEach, List.map]
    rcases hn with hn | hn | hn
    · exact List.mem_append_right _ (List.mem_append_left _ hn)
    · exact List.mem_append_right _ (List.mem_append_right _ (List.mem_append_left _ hn))
    · exact List.mem_append_right _ (List.mem_append_right _ (List.mem_append_right _ (List.mem_append_left _ hn))))
  obtain ⟨s, e0, -, ws⟩ := DataW.trod_string Tryz.underlying9 h0
  obtain ⟨pi, I, ci, rfl, hI1, hI2, hI3, hI4⟩ := open_trows h1 fun n hn => hws n (.inl hn)
  obtain ⟨pd, D, cd, rfl, hD1, hD2, hD3, hD4⟩ := open_trows h2 fun n hn => hws n (.inr (.inl hn))
  have hDs : D.length ≤ 17592186044415 := by
    obtain ⟨a', len', cap', e', hle⟩ := trows_short h2 fun n hn => hws n (.inr (.inl hn))
    injection e' with _ e' _
    omega
  have hIs : I.length ≤ 17592186044415 := by
    obtain ⟨a', len', cap', e', hle⟩ := trows_short h1 fun n hn => hws n (.inl hn)
    injection e' with _ e' _
    omega
  obtain ⟨pu, U, cu, rfl, hU1, hU2, hU3, hU4, hU5⟩ := open_pairs h3 fun n hn => hws n (.inr (.inr hn))
  have hUs : U.length ≤ 17592186044415 := by
    obtain ⟨a', len', cap', e', hle⟩ := pairs_short h3 fun n hn => hws n (.inr (.inr hn))
    injection e' with _ e' _
    omega
  simp only [List.cons.injEq, and_true] at e0
  subst e0
  exact ⟨⟨s, pi, ci, I, pd, cd, D, pu, cu, U⟩, rfl, hIs, hDs, hUs, fun h => ⟨ws, hI3, hD3, hU3, h, hD2, hU2, hI4, hD4, hU4, hU5, hI1, hD1, hU1⟩⟩
theorem bytes_col : Tryz.prog.bytesOf 63 = 32 := by kernel_rfl
/-- A list of columns is shorter than what memory can hold. -/
theorem cols_short {t : Nat} {v : Value} {y : DataW H × List MemPlace} (h : DataW.trod enc Tryz.prog W 0 (fun _ => true) true t 26 [v] = some y) (hw : ∀ n ∈ y.1.weights Tryz.prog 26, n ≤ reachBytes) :
    ∃ (a : Option Addr) (len cap : Nat), v = .slice a len cap ∧ len * 32 ≤ 140737488355328 := by
  rcases Deep.open_slice Tryz.underlying26 h with ⟨hcs, hx⟩ | ⟨a, len, cap, m, n, D, Pl, hcs, hb, hl, hm, hmm, hx, hi⟩
  · simp only [List.cons.injEq, and_true] at hcs
    exact ⟨none, 0, 0, hcs, by decide⟩
  · simp only [List.cons.injEq, and_true] at hcs
    rw [if_pos rfl] at hmm
    refine ⟨some a, len, cap, hcs, ?_⟩
    have := hw (cap * 32) (by
      rw [hx]
      simp only [DataW.weights, Tryz.underlying26, List.length_map, List.length_range, bytes_col]
      rw [show len + (m - len) = cap by omega]
      exact List.mem_cons_self)
    simp only [reachBytes] at this
    omega
/-- An argument that is a schema. -/
theorem open_schemac (hv : ∃ b, Value.okWide Tryz.prog W .any b 28 v) (h : DataW.Trod enc Tryz.prog W 0 (fun _ => true) true 28 v d p) (hw : ∀ n ∈ d.weights Tryz.prog 28, n ≤ reachBytes) :
    ∃ (nm : ByteArray) (a : Option Addr) (n cap : Nat) (f : Nat → Col), v = schV nm a n cap ∧ n * 32 ≤ 140737488355328 ∧ ColsAt W a n f := by
  obtain ⟨b, hv⟩ := hv
  obtain ⟨c0, c1, y0, y1, m, rfl, hd, rfl, hy0, hy1⟩ := Joins.open_agg2 Tryz.underlying28 (by kernel_rfl) (by kernel_rfl) hv h
  obtain ⟨s, e0, -, ws⟩ := DataW.trod_string Tryz.underlying9 hy0
  simp only [List.cons.injEq, and_true] at e0
  subst e0
  have hws : ∀ n, n ∈ y1.1.weights Tryz.prog 26 → n ≤ reachBytes := fun n hn => hw n (by
    rw [hd]
    simp only [DataW.weights, Tryz.underlying28]
    simp only [DataW.weightsEach, List.map]
    exact List.mem_append_right _ (List.mem_append_left _ hn))
  obtain ⟨a', len', cap', e', hle⟩ := cols_short hy1 hws
  obtain ⟨a, n, cap, f, he, h1, h2, h3⟩ := open_cols hy1
  have hn : n = len' := by
    rw [he] at e'
    injection e'
  subst he
  exact ⟨s, a, n, cap, f, rfl, by rw [hn]; exact hle, h3⟩
end
end Go.Proofs.YtlnbpobipmejfaaGreatDoor
