/-
  Several texts in one.
-/
import Derived.Test.YtgaihglploedaaaDoorPk13
import Derived.Test.YtgaihglploedaaaDoorPk17
import Derived.Deep.Strs
/-
  Arguments opened: a row with a number, a table.
-/
namespace Go.Proofs.YtgaihglploedaaaDoor
set_option maxRecDepth 100000
open Go.ChangeShapes Go.WideShapes Go.ChangeAt Go.RowKit

section
variable {H : Type} {enc : TypeId × Value → H} {W : World} {v : Value} {d : DataW H} {p : List MemPlace}
theorem list_two {l : List Value} (h : l.length = 2) : ∃ a b, l = [a, b] := by
  match l, h with
  | [a, b], _ => exact ⟨a, b, rfl⟩
theorem weights_el {P : Program} {t e : TypeId} {elems spare : List (DataW H)} {x : DataW H} (hu : P.underlying t = some (.slice e)) (hx : x ∈ elems) (hw : ∀ n ∈ (DataW.slice elems spare).weights P t, n ≤ reachBytes) : ∀ n ∈ x.weights P e, n ≤ reachBytes := by
  intro n hn
  refine hw n ?_
  simp only [DataW.weights, hu]
  refine List.mem_cons_of_mem _ (List.mem_append_left _ ?_)
  clear hw
  induction elems with
  | nil => cases hx
  | cons y r ih =>
    simp only [DataW.weightsAll]
    rcases List.mem_cons.1 hx with rfl | hx
    · exact List.mem_append_left _ hn
    · exact List.mem_append_right _ (ih hx)
set_option maxRecDepth 100000 in
/-- A slice of rows with numbers. -/
theorem open_trows {t : Nat} {v : Value} {y : DataW H × List MemPlace} (h : DataW.trod enc Tryd.prog W 0 (fun _ => true) true t 49 [v] = some y) (hw : ∀ n ∈ y.1.weights Tryd.prog 49, n ≤ reachBytes) :
    ∃ (a : Option Addr) (R : List TRow) (cap : Nat), v = .slice a R.length cap ∧ R.length ≤ cap ∧ R.length ≤ 9223372036854775807 ∧ TRowsAt W a R ∧ ∀ r ∈ R, ValsSized r.2 := by
  have c2 : Tryd.prog.cellsOf 68 = 2 := by kernel_rfl
  rcases Deep.open_slice Tryd.underlying49 h with ⟨hcs, hx⟩ | ⟨a, len, cap, m, n, D, Pl, hcs, hb, hl, hm, hmm, hx, hi⟩
  · simp only [List.cons.injEq, and_true] at hcs
    subst hcs
    exact ⟨none, [], 0, rfl, Nat.le_refl _, by decide, fun i hi => by simp at hi, fun r hr => by cases hr⟩
  · simp only [List.cons.injEq, and_true] at hcs
    subst hcs
    rw [if_pos rfl] at hmm
    have hd := (Prod.mk.inj hx).1
    have hone : ∀ i, i < len → ∃ x : Int × Option Addr × Nat × List Val, W.cell? ((a.add (i * 2)).add 0) = some (.int .i64 x.1) ∧ W.cell? ((a.add (i * 2)).add 1) = some (.slice x.2.1 x.2.2.2.length x.2.2.1) ∧ RowAt W x.2.1 x.2.2.2 ∧ ValsSized x.2.2.2 ∧ x.2.2.2.length * 32 ≤ 140737488355328 ∧ (x.2.1 = none → x.2.2.2 = [] ∧ x.2.2.1 = 0) := by
      intro i hi'
      obtain ⟨cs', hc, ht'⟩ := hi i (by omega)
      rw [c2] at hc
      obtain ⟨_, hcl, hat⟩ := World.cells?_some hc
      have hwi : ∀ n ∈ (D i).weights Tryd.prog 68, n ≤ reachBytes :=
        weights_el Tryd.underlying49 (x := D i) (elems := (List.range len).map D) (spare := (List.range (m - len)).map fun j => D (len + j)) (List.mem_map.2 ⟨i, List.mem_range.2 hi', rfl⟩) (by rw [← hd]; exact hw)
      obtain ⟨y0, y1, m', hxx, _, h0, h1⟩ := trod_struct2 Tryd.underlying68 ht'
      have hDi : D i = .agg [y0.1, y1.1] := (Prod.mk.inj hxx).1
      have ci : Tryd.prog.cellsOf 3 = 1 := by kernel_rfl
      have cj : Tryd.prog.cellsOf 25 = 1 := by kernel_rfl
      obtain ⟨u0, u1, rfl⟩ := list_two hcl
      have h0 : DataW.trod enc Tryd.prog W 0 (fun _ => true) true m' 3 (([u0, u1].drop 0).take (Tryd.prog.cellsOf 3)) = some y0 := h0
      have h1 : DataW.trod enc Tryd.prog W 0 (fun _ => true) true m' 25 (([u0, u1].drop 1).take (Tryd.prog.cellsOf 25)) = some y1 := h1
      rw [ci] at h0
      rw [cj] at h1
      simp only [List.drop_zero, List.drop_succ_cons, List.take_succ_cons, List.take_zero] at h0 h1
      obtain ⟨k, e0, -, -⟩ := DataW.trod_int Tryd.underlying3 h0
      obtain ⟨q, l, cp, rfl, -, -, h3, h4, h5, h6⟩ := open_row_at h1
      simp only [List.cons.injEq, and_true] at e0
      subst e0
      refine ⟨(k, q, cp, l), by rw [hat 0 (by omega)]; rfl, by rw [hat 1 (by omega)]; rfl, h3, h4, h6 fun n hn => hwi n ?_, h5⟩
      rw [hDi]
      simp only [DataW.weights, Tryd.underlying68]
      simp only [DataW.weightsEach, List.map]
      exact List.mem_append_right _ (List.mem_append_left _ hn)
    haveI : Inhabited (Int × Option Addr × Nat × List Val) := ⟨(0, none, 0, [])⟩
    obtain ⟨f, hf'⟩ := exists_fun hone
    obtain ⟨c, o, sp⟩ := a
    have hlen : ((List.range len).map fun i => ((f i).1, (f i).2.2.2)).length = len := by simp
    have er : ∀ i, i < len → tAt ((List.range len).map fun i => ((f i).1, (f i).2.2.2)) i = ((f i).1, (f i).2.2.2) := fun i hi' => by rw [tAt_get (by rw [hlen]; exact hi')]; simp
    refine ⟨some ⟨c, o, sp⟩, (List.range len).map fun i => ((f i).1, (f i).2.2.2), cap, by rw [hlen], by rw [hlen]; exact hl, by rw [hlen]; unfold maxLen at hm; omega, fun i hi' => ?_, fun r hr => ?_⟩
    · rw [hlen] at hi'
      have hsp : sp = none := by
        obtain ⟨h0, -⟩ := hf' 0 (by omega)
        simpa [Addr.add] using World.cell?_spot h0
      subst hsp
      have ha : ∀ x y, ((⟨c, o, none⟩ : Addr).add x).add y = ⟨c, o + x + y, none⟩ := by
        intro x y
        unfold Addr.add
        split <;> split <;> simp_all
      obtain ⟨h0, h1, h2, -, h4, h5⟩ := hf' i hi'
      rw [ha] at h0 h1
      rw [er i hi']
      exact ⟨c, o, (f i).2.1, (f i).2.2.1, rfl, World.block_lt_of_cell? W _ h0, h0, h1, h2, h4, h5⟩
    · obtain ⟨i, hi', rfl⟩ := List.mem_map.1 hr
      exact (hf' i (List.mem_range.1 hi')).2.2.2.1
set_option maxRecDepth 100000 in
/-- An argument that is a table. -/
theorem open_tablec (hv : ∃ b, Value.okWide Tryd.prog W .any b 51 v) (h : DataW.Trod enc Tryd.prog W 0 (fun _ => true) true 51 v d p) (hw : ∀ n ∈ d.weights Tryd.prog 51, n ≤ reachBytes) :
    ∃ T : Tab, v = .agg #[.string T.nm, .slice T.pc T.n T.cc, .int .i64 T.nx, .slice T.pr T.R.length T.cr] ∧ T.R.length ≤ 9223372036854775807 ∧ T.R.length ≤ T.cr ∧ (T.R.length ≤ 1000 → TabAt W T) := by
  obtain ⟨b, hv⟩ := hv
  obtain ⟨cs, rfl, hsz⟩ := okWide_struct Tryd.underlying51 hv
  have hsz : cs.size = 4 := hsz.trans (by kernel_rfl)
  obtain ⟨c0, c1, c2, c3, rfl⟩ := Joins.array4 hsz
  obtain ⟨fuel, hf⟩ := h
  obtain ⟨y0, y1, y2, m, hx, _, j0, j1, j2⟩ := Go.Deep.trod_struct3 Tryd.underlying51 hf
  have hd : d = .agg [y0.1, y1.1, y2.1] := (Prod.mk.inj hx).1
  have cs : Tryd.prog.cellsOf 24 = 2 := by kernel_rfl
  have ci : Tryd.prog.cellsOf 3 = 1 := by kernel_rfl
  have cr : Tryd.prog.cellsOf 49 = 1 := by kernel_rfl
  have ct : Tryd.prog.cellsOf 9 = 1 := by kernel_rfl
  have cc : Tryd.prog.cellsOf 22 = 1 := by kernel_rfl
  have h0 : DataW.trod enc Tryd.prog W 0 (fun _ => true) true m 24 (([c0, c1, c2, c3].drop 0).take (Tryd.prog.cellsOf 24)) = some y0 := j0
  have h1 : DataW.trod enc Tryd.prog W 0 (fun _ => true) true m 3 (([c0, c1, c2, c3].drop 2).take (Tryd.prog.cellsOf 3)) = some y1 := j1
  have h2 : DataW.trod enc Tryd.prog W 0 (fun _ => true) true m 49 (([c0, c1, c2, c3].drop 3).take (Tryd.prog.cellsOf 49)) = some y2 := j2
  clear j0 j1 j2 hf hv
  rw [cs] at h0
  rw [ci] at h1
  rw [cr] at h2
  simp only [List.drop_zero, List.drop_succ_cons, List.take_succ_cons, List.take_zero] at h0 h1 h2
  obtain ⟨z0, z1, m', -, _, j0, j1⟩ := trod_struct2 Tryd.underlying24 h0
  have g0 : DataW.trod enc Tryd.prog W 0 (fun _ => true) true m' 9 (([c0, c1].drop 0).take (Tryd.prog.cellsOf 9)) = some z0 := j0
  have g1 : DataW.trod enc Tryd.prog W 0 (fun _ => true) true m' 22 (([c0, c1].drop 1).take (Tryd.prog.cellsOf 22)) = some z1 := j1
  clear j0 j1 h0
  rw [ct] at g0
  rw [cc] at g1
  simp only [List.drop_zero, List.drop_succ_cons, List.take_succ_cons, List.take_zero] at g0 g1
  obtain ⟨s, e0, -, ws⟩ := DataW.trod_string Tryd.underlying9 g0
  obtain ⟨a, n, cap, f, rfl, -, hn, hC⟩ := open_cols g1
  obtain ⟨k, e2, -, wk⟩ := DataW.trod_int Tryd.underlying3 h1
  obtain ⟨q, R, cp, rfl, hP, hR, hT, hS⟩ := open_trows h2 fun n hn => hw n (by
    rw [hd]
    simp only [DataW.weights, Tryd.underlying51]
    simp only [DataW.weightsEach, List.map]
    exact List.mem_append_right _ (List.mem_append_right _ (List.mem_append_left _ hn)))
  simp only [List.cons.injEq, and_true] at e0 e2
  subst e0 e2
  exact ⟨⟨s, a, n, cap, f, k, q, cp, R⟩, rfl, hR, hP, fun h => ⟨ws, hn, hC, hT, h, hS, (bounds_i64 wk).2⟩⟩
/-- An argument that is a table, part by part. -/
theorem open_table (hv : ∃ b, Value.okWide Tryd.prog W .any b 51 v) (h : DataW.Trod enc Tryd.prog W 0 (fun _ => true) true 51 v d p) (hw : ∀ n ∈ d.weights Tryd.prog 51, n ≤ reachBytes) :
    ∃ (nm : ByteArray) (a : Option Addr) (n cap : Nat) (f : Nat → Col) (nx : Int) (q : Option Addr) (cr : Nat) (R : List TRow), v = .agg #[.string nm, .slice a n cap, .int .i64 nx, .slice q R.length cr] ∧ R.length ≤ 9223372036854775807 ∧ (R.length ≤ 1000 → TabAt W ⟨nm, a, n, cap, f, nx, q, cr, R⟩) := by
  obtain ⟨T, h1, h2, -, h3⟩ := open_tablec hv h hw
  exact ⟨T.nm, T.pc, T.n, T.cc, T.f, T.nx, T.pr, T.cr, T.R, h1, h2, h3⟩
end
end Go.Proofs.YtgaihglploedaaaDoor
