/-
  Several texts in one.
-/
import Derived.Test.YtgaihglploedaaaDoorPk33
import Derived.Test.YtgaihglploedaaaDoorPk34
/-
  Arguments opened: a list of numbers, of pairs of rows, a change.
-/
namespace Go.Proofs.YtgaihglploedaaaDoor
set_option maxRecDepth 100000
open Go.ChangeShapes Go.WideShapes Go.ChangeAt Go.RowKit

section
variable {H : Type} {enc : TypeId × Value → H} {W : World} {v : Value} {d : DataW H} {p : List MemPlace}
theorem addr_add (c o i : Nat) : (⟨c, o, none⟩ : Addr).add i = ⟨c, o + i, none⟩ := by unfold Addr.add; split <;> simp_all
theorem addr_add2 (c o x y : Nat) : ((⟨c, o, none⟩ : Addr).add x).add y = ⟨c, o + x + y, none⟩ := by rw [addr_add, addr_add]
theorem spot_of {a : Addr} {x : Value} (h : W.cell? (a.add 0) = some x) : ∃ c o, a = ⟨c, o, none⟩ := by
  obtain ⟨c, o, sp⟩ := a
  have hsp : sp = none := by simpa [Addr.add] using World.cell?_spot h
  subst hsp
  exact ⟨c, o, rfl⟩
set_option maxRecDepth 100000 in
/-- A slice of pairs. -/
theorem open_pairs {t : Nat} {v : Value} {y : DataW H × List MemPlace} (h : DataW.trod enc Tryd.prog W 0 (fun _ => true) true t 77 [v] = some y) (hw : ∀ n ∈ y.1.weights Tryd.prog 77, n ≤ reachBytes) :
    ∃ (a : Option Addr) (U : List PRow) (cap : Nat), v = .slice a U.length cap ∧ U.length ≤ cap ∧ U.length ≤ 9223372036854775807 ∧ PairsAt W a U ∧ (∀ r ∈ U, ValsSized r.2.1) ∧ ∀ r ∈ U, ValsSized r.2.2 := by
  have c2 : Tryd.prog.cellsOf 86 = 3 := by kernel_rfl
  rcases Deep.open_slice Tryd.underlying77 h with ⟨hcs, hx⟩ | ⟨a, len, cap, m, n, D, Pl, hcs, hb, hl, hm, hmm, hx, hi⟩
  · simp only [List.cons.injEq, and_true] at hcs
    subst hcs
    exact ⟨none, [], 0, rfl, Nat.le_refl _, by decide, fun i hi => (by simp at hi), fun r hr => (by cases hr), fun r hr => (by cases hr)⟩
  · simp only [List.cons.injEq, and_true] at hcs
    subst hcs
    rw [if_pos rfl] at hmm
    have hd := (Prod.mk.inj hx).1
    have hone : ∀ i, i < len → ∃ x : Int × (Option Addr × Nat × List Val) × Option Addr × Nat × List Val, W.cell? ((a.add (i * 3)).add 0) = some (.int .i64 x.1) ∧ W.cell? ((a.add (i * 3)).add 1) = some (.slice x.2.1.1 x.2.1.2.2.length x.2.1.2.1) ∧ W.cell? ((a.add (i * 3)).add 2) = some (.slice x.2.2.1 x.2.2.2.2.length x.2.2.2.1)
        ∧ (RowAt W x.2.1.1 x.2.1.2.2 ∧ ValsSized x.2.1.2.2 ∧ x.2.1.2.2.length * 32 ≤ 140737488355328 ∧ (x.2.1.1 = none → x.2.1.2.2 = [] ∧ x.2.1.2.1 = 0)) ∧ (RowAt W x.2.2.1 x.2.2.2.2 ∧ ValsSized x.2.2.2.2 ∧ x.2.2.2.2.length * 32 ≤ 140737488355328 ∧ (x.2.2.1 = none → x.2.2.2.2 = [] ∧ x.2.2.2.1 = 0)) := by
      intro i hi'
      obtain ⟨cs', hc, ht'⟩ := hi i (by omega)
      rw [c2] at hc
      obtain ⟨_, hcl, hat⟩ := World.cells?_some hc
      have hwi : ∀ n ∈ (D i).weights Tryd.prog 86, n ≤ reachBytes :=
        weights_el Tryd.underlying77 (x := D i) (elems := (List.range len).map D) (spare := (List.range (m - len)).map fun j => D (len + j)) (List.mem_map.2 ⟨i, List.mem_range.2 hi', rfl⟩) (by rw [← hd]; exact hw)
      obtain ⟨y0, y1, y2, m', hxx, _, h0, h1, h2⟩ := Go.Deep.trod_struct3 Tryd.underlying86 ht'
      have hDi : D i = .agg [y0.1, y1.1, y2.1] := (Prod.mk.inj hxx).1
      have ci : Tryd.prog.cellsOf 3 = 1 := by kernel_rfl
      have cj : Tryd.prog.cellsOf 25 = 1 := by kernel_rfl
      obtain ⟨u0, u1, u2, rfl⟩ := list_three hcl
      have h0 : DataW.trod enc Tryd.prog W 0 (fun _ => true) true m' 3 (([u0, u1, u2].drop 0).take (Tryd.prog.cellsOf 3)) = some y0 := h0
      have h1 : DataW.trod enc Tryd.prog W 0 (fun _ => true) true m' 25 (([u0, u1, u2].drop 1).take (Tryd.prog.cellsOf 25)) = some y1 := h1
      have h2 : DataW.trod enc Tryd.prog W 0 (fun _ => true) true m' 25 (([u0, u1, u2].drop 2).take (Tryd.prog.cellsOf 25)) = some y2 := h2
      rw [ci] at h0
      rw [cj] at h1 h2
      simp only [List.drop_zero, List.drop_succ_cons, List.take_succ_cons, List.take_zero] at h0 h1 h2
      obtain ⟨k, e0, -, -⟩ := DataW.trod_int Tryd.underlying3 h0
      obtain ⟨q, l, cp, rfl, -, -, h3, h4, h5, h6⟩ := open_row_at h1
      obtain ⟨q', l', cp', rfl, -, -, h3', h4', h5', h6'⟩ := open_row_at h2
      simp only [List.cons.injEq, and_true] at e0
      subst e0
      refine ⟨(k, (q, cp, l), (q', cp', l')), by rw [hat 0 (by omega)]; rfl, by rw [hat 1 (by omega)]; rfl, by rw [hat 2 (by omega)]; rfl, ⟨h3, h4, h6 fun n hn => hwi n ?_, h5⟩, ⟨h3', h4', h6' fun n hn => hwi n ?_, h5'⟩⟩
      · rw [hDi]
        simp only [DataW.weights, Tryd.underlying86]
        simp only [DataW.weightsEach, List.map]
        exact List.mem_append_right _ (List.mem_append_left _ hn)
      · rw [hDi]
        simp only [DataW.weights, Tryd.underlying86]
        simp only [DataW.weightsEach, List.map]
        exact List.mem_append_right _ (List.mem_append_right _ (List.mem_append_left _ hn))
    haveI : Inhabited (Int × (Option Addr × Nat × List Val) × Option Addr × Nat × List Val) := ⟨(0, (none, 0, []), none, 0, [])⟩
    obtain ⟨f, hf'⟩ := exists_fun hone
    have hlen : ((List.range len).map fun i => ((f i).1, (f i).2.1.2.2, (f i).2.2.2.2)).length = len := by simp
    have er : ∀ i, i < len → pAt ((List.range len).map fun i => ((f i).1, (f i).2.1.2.2, (f i).2.2.2.2)) i = ((f i).1, (f i).2.1.2.2, (f i).2.2.2.2) := fun i hi' => by rw [pAt_get (by rw [hlen]; exact hi')]; simp
    refine ⟨some a, (List.range len).map fun i => ((f i).1, (f i).2.1.2.2, (f i).2.2.2.2), cap, by rw [hlen], by rw [hlen]; exact hl, by rw [hlen]; unfold maxLen at hm; omega, fun i hi' => ?_, fun r hr => ?_, fun r hr => ?_⟩
    · rw [hlen] at hi'
      obtain ⟨c, o, rfl⟩ := spot_of (W := W) (a := a) (by have h0 := (hf' 0 (by omega)).1; rw [Nat.zero_mul] at h0; have e : (a.add 0).add 0 = a.add 0 := by cases a with | mk b o s => cases s <;> simp [Addr.add]
                                                          rw [e] at h0; exact h0)
      obtain ⟨h0, h1, h2, h3, h4⟩ := hf' i hi'
      rw [addr_add2] at h0 h1 h2
      rw [er i hi']
      exact ⟨c, o, (f i).2.1.1, (f i).2.1.2.1, (f i).2.2.1, (f i).2.2.2.1, rfl, World.block_lt_of_cell? W _ h0, h0, h1, h2, h3.1, h4.1, h3.2.2.1, h4.2.2.1, h3.2.2.2, h4.2.2.2⟩
    · obtain ⟨i, hi', rfl⟩ := List.mem_map.1 hr
      exact (hf' i (List.mem_range.1 hi')).2.2.2.1.2.1
    · obtain ⟨i, hi', rfl⟩ := List.mem_map.1 hr
      exact (hf' i (List.mem_range.1 hi')).2.2.2.2.2.1
set_option maxRecDepth 100000 in
/-- A slice of rows. -/
theorem open_rows_in {t : Nat} {v : Value} {y : DataW H × List MemPlace} (h : DataW.trod enc Tryd.prog W 0 (fun _ => true) true t 39 [v] = some y) (hw : ∀ n ∈ y.1.weights Tryd.prog 39, n ≤ reachBytes) :
    ∃ (a : Option Addr) (L : List (List Val)) (cap : Nat), v = .slice a L.length cap ∧ L.length ≤ cap ∧ L.length ≤ 9223372036854775807 ∧ RowsAt W a L ∧ ∀ l ∈ L, ValsSized l := by
  rcases Deep.open_slice1 Tryd.underlying39 (by kernel_rfl) h with ⟨hcs, hx⟩ | ⟨a, len, cap, m, n, V, D, Pl, hcs, hb, hl, hm, hmm, hx, hi⟩
  · simp only [List.cons.injEq, and_true] at hcs
    subst hcs
    exact ⟨none, [], 0, rfl, Nat.le_refl _, by decide, fun i hi => (by simp at hi), fun r hr => (by cases hr)⟩
  · simp only [List.cons.injEq, and_true] at hcs
    subst hcs
    rw [if_pos rfl] at hmm
    have hd := (Prod.mk.inj hx).1
    have hone : ∀ i, i < len → ∃ x : Option Addr × Nat × List Val, V i = .slice x.1 x.2.2.length x.2.1 ∧ RowAt W x.1 x.2.2 ∧ ValsSized x.2.2 ∧ x.2.2.length * 32 ≤ 140737488355328 ∧ (x.1 = none → x.2.2 = [] ∧ x.2.1 = 0) := by
      intro i hi'
      obtain ⟨-, ht⟩ := hi i (by omega)
      obtain ⟨q, l, cp, e0, -, -, h3, h4, h5, h6⟩ := open_row_at ht
      refine ⟨(q, cp, l), e0, h3, h4, h6 ?_, h5⟩
      refine weights_el Tryd.underlying39 (x := D i) (elems := (List.range len).map D) (spare := (List.range (m - len)).map fun j => D (len + j)) (List.mem_map.2 ⟨i, List.mem_range.2 hi', rfl⟩) ?_
      rw [← hd]
      exact hw
    haveI : Inhabited (Option Addr × Nat × List Val) := ⟨(none, 0, [])⟩
    obtain ⟨f, hf'⟩ := exists_fun hone
    have hlen : ((List.range len).map fun i => (f i).2.2).length = len := by simp
    refine ⟨some a, (List.range len).map fun i => (f i).2.2, cap, by rw [hlen], by rw [hlen]; exact hl, by rw [hlen]; unfold maxLen at hm; omega, fun i hi' => ?_, fun r hr => ?_⟩
    · rw [hlen] at hi'
      obtain ⟨c, o, rfl⟩ := spot_of (hi 0 (by omega)).1
      obtain ⟨h0, -⟩ := hi i (by omega)
      obtain ⟨e0, h1, -, h2, h3⟩ := hf' i hi'
      have er : rAt ((List.range len).map fun i => (f i).2.2) i = (f i).2.2 := by rw [rAt_get (by rw [hlen]; exact hi')]; simp
      rw [addr_add, e0] at h0
      rw [er]
      exact ⟨c, o, (f i).1, (f i).2.1, rfl, World.block_lt_of_cell? W _ h0, h0, h1, h2, h3⟩
    · obtain ⟨i, hi', rfl⟩ := List.mem_map.1 hr
      exact (hf' i (List.mem_range.1 hi')).2.2.1
/-- A slice of numbers. -/
theorem open_ids {t : Nat} {v : Value} {y : DataW H × List MemPlace} (h : DataW.trod enc Tryd.prog W 0 (fun _ => true) true t 26 [v] = some y) :
    ∃ (a : Option Addr) (D : List Int) (cap : Nat), v = .slice a D.length cap ∧ D.length ≤ cap ∧ D.length ≤ 9223372036854775807 ∧ NumAt W a D := by
  rcases open_ints Tryd.underlying26 Tryd.underlying3 (by kernel_rfl) h with ⟨hcs, hx⟩ | ⟨a, len, cap, zs, hcs, _, hl, hm, hz, hx, hcell, hwz⟩
  · simp only [List.cons.injEq, and_true] at hcs
    subst hcs
    exact ⟨none, [], 0, rfl, Nat.le_refl _, by decide, fun i hi => by simp at hi⟩
  · simp only [List.cons.injEq, and_true] at hcs
    subst hcs
    rw [if_pos rfl] at hz
    have hlen : ((List.range len).map fun i => zs.getD i 0).length = len := by simp
    refine ⟨some a, (List.range len).map fun i => zs.getD i 0, cap, by rw [hlen], by rw [hlen]; exact hl, by rw [hlen]; unfold maxLen at hm; omega, fun i hi' => ?_⟩
    rw [hlen] at hi'
    obtain ⟨c, o, rfl⟩ := spot_of (hcell 0 (by omega))
    have h0 := hcell i (by omega)
    have er : iAt ((List.range len).map fun i => zs.getD i 0) i = zs.getD i 0 := by rw [iAt_get (by rw [hlen]; exact hi')]; simp
    rw [addr_add] at h0
    rw [er]
    exact ⟨c, o, rfl, World.block_lt_of_cell? W _ h0, h0⟩
set_option maxRecDepth 100000 in
/-- An argument that is a change. -/
theorem open_change (hv : ∃ b, Value.okWide Tryd.prog W .any b 79 v) (h : DataW.Trod enc Tryd.prog W 0 (fun _ => true) true 79 v d p) (hw : ∀ n ∈ d.weights Tryd.prog 79, n ≤ reachBytes) :
    ∃ C : Chg, v = .agg #[.slice C.pi C.I.length C.ci, .slice C.pd C.D.length C.cd, .slice C.pu C.U.length C.cu] ∧ C.I.length ≤ 9223372036854775807 ∧ (C.I.length ≤ 1000 → ChgAt W C) := by
  obtain ⟨b, hv⟩ := hv
  obtain ⟨cs, rfl, hsz⟩ := okWide_struct Tryd.underlying79 hv
  have hsz : cs.size = 3 := hsz.trans (by kernel_rfl)
  obtain ⟨c0, c1, c2, rfl⟩ := Joins.array3 hsz
  obtain ⟨fuel, hf⟩ := h
  obtain ⟨y0, y1, y2, m, hx, _, j0, j1, j2⟩ := Go.Deep.trod_struct3 Tryd.underlying79 hf
  have hd : d = .agg [y0.1, y1.1, y2.1] := (Prod.mk.inj hx).1
  have ca : Tryd.prog.cellsOf 39 = 1 := by kernel_rfl
  have ci : Tryd.prog.cellsOf 26 = 1 := by kernel_rfl
  have cp : Tryd.prog.cellsOf 77 = 1 := by kernel_rfl
  have h0 : DataW.trod enc Tryd.prog W 0 (fun _ => true) true m 39 (([c0, c1, c2].drop 0).take (Tryd.prog.cellsOf 39)) = some y0 := j0
  have h1 : DataW.trod enc Tryd.prog W 0 (fun _ => true) true m 26 (([c0, c1, c2].drop 1).take (Tryd.prog.cellsOf 26)) = some y1 := j1
  have h2 : DataW.trod enc Tryd.prog W 0 (fun _ => true) true m 77 (([c0, c1, c2].drop 2).take (Tryd.prog.cellsOf 77)) = some y2 := j2
  clear j0 j1 j2 hf hv
  rw [ca] at h0
  rw [ci] at h1
  rw [cp] at h2
  simp only [List.drop_zero, List.drop_succ_cons, List.take_succ_cons, List.take_zero] at h0 h1 h2
  have hws : ∀ n, (n ∈ y0.1.weights Tryd.prog 39 ∨ n ∈ y2.1.weights Tryd.prog 77) → n ≤ reachBytes := fun n hn => hw n (by
    rw [hd]
    simp only [DataW.weights, Tryd.underlying79]
    simp only [DataW.weightsEach, List.map]
    rcases hn with hn | hn
    · exact List.mem_append_left _ hn
    · exact List.mem_append_right _ (List.mem_append_right _ (List.mem_append_left _ hn)))
  obtain ⟨pi, I, ci', rfl, -, hI, hi1, hi2⟩ := open_rows_in h0 fun n hn => hws n (.inl hn)
  obtain ⟨pd, D, cd', rfl, hD1, hD2, hD3⟩ := open_ids h1
  obtain ⟨pu, U, cu', rfl, hU1, hU2, hU3, -, hU4⟩ := open_pairs h2 fun n hn => hws n (.inr hn)
  exact ⟨⟨pi, ci', I, pd, cd', D, pu, cu', U⟩, rfl, hI, fun h => ⟨hi1, hD3, hU3, h, hD2, hU2, hi2, hU4, hD1, hU1⟩⟩
end
end Go.Proofs.YtgaihglploedaaaDoor
