/-
  Several texts in one.
-/
import Derived.Test.YtgaihglploedaaaDoorPk02
import Derived.Test.YtgaihglploedaaaDoorPk07
import Derived.Deep.Fields
import Derived.Test.YtgaihglploedaaaDoorPk12
import Derived.Test.YtgaihglploedaaaDoorPk04
import Derived.SizedLaws
/-
  Arguments opened: a column, a schema.
-/
namespace Go.Proofs.YtgaihglploedaaaDoor
set_option maxRecDepth 100000
open Go.ChangeShapes Go.WideShapes Go.ChangeAt Go.RowKit

theorem list_four {l : List Value} (h : l.length = 4) : ∃ a b c d, l = [a, b, c, d] := by
  match l, h with
  | [a, b, c, d], _ => exact ⟨a, b, c, d, rfl⟩
theorem exists_fun {A : Type} [Inhabited A] {P : Nat → A → Prop} {n : Nat} (h : ∀ i, i < n → ∃ x, P i x) : ∃ f : Nat → A, ∀ i, i < n → P i (f i) :=
  ⟨fun i => if hi : i < n then (h i hi).choose else default, fun i hi => by simp only [dif_pos hi]; exact (h i hi).choose_spec⟩
section
variable {H : Type} {enc : TypeId × Value → H} {W : World} {v : Value} {d : DataW H} {p : List MemPlace}
/-- An argument that is a column. -/
theorem open_col (hv : ∃ b, Value.okWide Tryd.prog W .any b 75 v) (h : DataW.Trod enc Tryd.prog W 0 (fun _ => true) true 75 v d p) :
    ∃ c : Col, v = colV c ∧ c.nm.size ≤ 9223372036854775807 := by
  obtain ⟨b, hv⟩ := hv
  obtain ⟨c0, c1, c2, c3, y0, y1, y2, y3, m, rfl, rfl, rfl, hy0, hy1, hy2, hy3⟩ := Joins.open_agg4 Tryd.underlying75 (by kernel_rfl) (by kernel_rfl) hv h
  obtain ⟨s, e0, rfl, ws⟩ := DataW.trod_string Tryd.underlying9 hy0
  obtain ⟨k, e1, rfl, wk⟩ := DataW.trod_int Tryd.underlying3 hy1
  obtain ⟨n, e2, rfl⟩ := DataW.trod_bool Tryd.underlying4 hy2
  obtain ⟨q, e3, rfl⟩ := DataW.trod_bool Tryd.underlying4 hy3
  simp only [List.cons.injEq, and_true] at e0 e1 e2 e3
  subst e0 e1 e2 e3
  exact ⟨⟨s, k, n, q⟩, rfl, ws⟩
set_option maxRecDepth 100000 in
theorem open_cols {t : Nat} {v : Value} {y : DataW H × List MemPlace} (h : DataW.trod enc Tryd.prog W 0 (fun _ => true) true t 22 [v] = some y) :
    ∃ (a : Option Addr) (n cap : Nat) (f : Nat → Col), v = .slice a n cap ∧ n ≤ cap ∧ n ≤ 9223372036854775807 ∧ ColsAt W a n f := by
  have c4 : Tryd.prog.cellsOf 75 = 4 := by kernel_rfl
  rcases Deep.open_slice Tryd.underlying22 h with ⟨hcs, hx⟩ | ⟨a, len, cap, m, n, D, Pl, hcs, hb, hl, hm, hmm, hx, hi⟩
  · simp only [List.cons.injEq, and_true] at hcs
    subst hcs
    exact ⟨none, 0, 0, fun _ => default, rfl, Nat.le_refl _, by decide, fun i hi => by omega⟩
  · simp only [List.cons.injEq, and_true] at hcs
    subst hcs
    rw [if_pos rfl] at hmm
    have hone : ∀ i, i < len → ∃ x : Col, x.nm.size ≤ 9223372036854775807 ∧ W.cell? ((a.add (i * 4)).add 0) = some (.string x.nm) ∧ W.cell? ((a.add (i * 4)).add 1) = some (.int .i64 x.ty) ∧ W.cell? ((a.add (i * 4)).add 2) = some (.bool x.nn) ∧ W.cell? ((a.add (i * 4)).add 3) = some (.bool x.key) := by
      intro i hi'
      obtain ⟨cs', hc, ht'⟩ := hi i (by omega)
      rw [c4] at hc
      obtain ⟨_, hcl, hat⟩ := World.cells?_some hc
      obtain ⟨xs, m', _, _, _, hxl, hf⟩ := DataW.trod_struct Tryd.underlying75 ht'
      have ci : Tryd.prog.cellsOf 3 = 1 := by kernel_rfl
      have cj : Tryd.prog.cellsOf 4 = 1 := by kernel_rfl
      have ck : Tryd.prog.cellsOf 9 = 1 := by kernel_rfl
      obtain ⟨u0, u1, u2, u3, rfl⟩ := list_four hcl
      have h0 : DataW.trod enc Tryd.prog W 0 (fun _ => true) true m' 9 (([u0, u1, u2, u3].drop 0).take (Tryd.prog.cellsOf 9)) = xs[0]? := hf 0 _ rfl
      have h1 : DataW.trod enc Tryd.prog W 0 (fun _ => true) true m' 3 (([u0, u1, u2, u3].drop 1).take (Tryd.prog.cellsOf 3)) = xs[1]? := hf 1 _ rfl
      have h2 : DataW.trod enc Tryd.prog W 0 (fun _ => true) true m' 4 (([u0, u1, u2, u3].drop 2).take (Tryd.prog.cellsOf 4)) = xs[2]? := hf 2 _ rfl
      have h3 : DataW.trod enc Tryd.prog W 0 (fun _ => true) true m' 4 (([u0, u1, u2, u3].drop 3).take (Tryd.prog.cellsOf 4)) = xs[3]? := hf 3 _ rfl
      rw [ck] at h0
      rw [ci] at h1
      rw [cj] at h2 h3
      simp only [List.drop_zero, List.drop_succ_cons, List.take_succ_cons, List.take_zero] at h0 h1 h2 h3
      have hl4 : xs.length = 4 := hxl
      rw [List.getElem?_eq_getElem (by omega)] at h0 h1 h2 h3
      obtain ⟨s, e0, -, ws⟩ := DataW.trod_string Tryd.underlying9 h0
      obtain ⟨k, e1, -, -⟩ := DataW.trod_int Tryd.underlying3 h1
      obtain ⟨q, e2, -⟩ := DataW.trod_bool Tryd.underlying4 h2
      obtain ⟨r, e3, -⟩ := DataW.trod_bool Tryd.underlying4 h3
      simp only [List.cons.injEq, and_true] at e0 e1 e2 e3
      subst e0 e1 e2 e3
      exact ⟨⟨s, k, q, r⟩, ws, by rw [hat 0 (by omega)]; rfl, by rw [hat 1 (by omega)]; rfl, by rw [hat 2 (by omega)]; rfl, by rw [hat 3 (by omega)]; rfl⟩
    obtain ⟨f, hf⟩ := exists_fun hone
    obtain ⟨c, o, sp⟩ := a
    refine ⟨some ⟨c, o, sp⟩, len, cap, f, rfl, hl, by unfold maxLen at hm; omega, fun i hi' => ?_⟩
    have hsp : sp = none := by
      obtain ⟨-, h0, -⟩ := hf 0 (by omega)
      simpa [Addr.add] using World.cell?_spot h0
    subst hsp
    have ha : ∀ x y, ((⟨c, o, none⟩ : Addr).add x).add y = ⟨c, o + x + y, none⟩ := by
      intro x y
      unfold Addr.add
      split <;> split <;> simp_all
    obtain ⟨hs, h0, h1, h2, h3⟩ := hf i hi'
    rw [ha] at h0 h1 h2 h3
    exact ⟨c, o, rfl, World.block_lt_of_cell? W _ h0, hs, h0, h1, h2, h3⟩
/-- An argument that is a schema. -/
theorem open_schema (hv : ∃ b, Value.okWide Tryd.prog W .any b 24 v) (h : DataW.Trod enc Tryd.prog W 0 (fun _ => true) true 24 v d p) :
    ∃ (nm : ByteArray) (a : Option Addr) (n cap : Nat) (f : Nat → Col), v = schV nm a n cap ∧ nm.size ≤ 9223372036854775807 ∧ n ≤ cap ∧ n ≤ 9223372036854775807 ∧ ColsAt W a n f := by
  obtain ⟨b, hv⟩ := hv
  obtain ⟨c0, c1, y0, y1, m, rfl, rfl, rfl, hy0, hy1⟩ := Joins.open_agg2 Tryd.underlying24 (by kernel_rfl) (by kernel_rfl) hv h
  obtain ⟨s, e0, rfl, ws⟩ := DataW.trod_string Tryd.underlying9 hy0
  simp only [List.cons.injEq, and_true] at e0
  subst e0
  obtain ⟨a, n, cap, f, rfl, h1, h2, h3⟩ := open_cols hy1
  exact ⟨s, a, n, cap, f, rfl, ws, h1, h2, h3⟩
end
end Go.Proofs.YtgaihglploedaaaDoor
/-
  Arguments opened: a row (with what its texts can be), a list of rows.
-/
namespace Go.Proofs.YtgaihglploedaaaDoor
set_option maxRecDepth 100000
open Go.ChangeShapes Go.WideShapes Go.ChangeAt Go.RowKit

section
variable {H : Type} {enc : TypeId × Value → H} {W : World} {v : Value} {d : DataW H} {p : List MemPlace}
theorem bytes_val : Tryd.prog.bytesOf 34 = 32 := by kernel_rfl
set_option maxRecDepth 100000 in
theorem open_row_at {t : Nat} {v : Value} {y : DataW H × List MemPlace} (h : DataW.trod enc Tryd.prog W 0 (fun _ => true) true t 25 [v] = some y) :
    ∃ (a : Option Addr) (l : List Val) (cap : Nat), v = .slice a l.length cap ∧ l.length ≤ cap ∧ l.length ≤ 9223372036854775807 ∧ RowAt W a l ∧ ValsSized l ∧ (a = none → l = [] ∧ cap = 0) ∧ ((∀ n ∈ y.1.weights Tryd.prog 25, n ≤ reachBytes) → l.length * 32 ≤ 140737488355328) := by
  have c3 : Tryd.prog.cellsOf 34 = 3 := by kernel_rfl
  rcases Deep.open_slice Tryd.underlying25 h with ⟨hcs, hx⟩ | ⟨a, len, cap, m, n, D, Pl, hcs, hb, hl, hm, hmm, hx, hi⟩
  · simp only [List.cons.injEq, and_true] at hcs
    subst hcs
    exact ⟨none, [], 0, rfl, Nat.le_refl _, by decide, fun i hi => by simp at hi, fun i hi => by simp at hi, fun _ => ⟨rfl, rfl⟩, fun _ => by simp⟩
  · simp only [List.cons.injEq, and_true] at hcs
    subst hcs
    rw [if_pos rfl] at hmm
    have hone : ∀ i, i < len → ∃ x : Val, x.2.2.size ≤ 9223372036854775807 ∧ W.cell? ((a.add (i * 3)).add 0) = some (.int .i64 x.1) ∧ W.cell? ((a.add (i * 3)).add 1) = some (.int .i64 x.2.1) ∧ W.cell? ((a.add (i * 3)).add 2) = some (.string x.2.2) := by
      intro i hi'
      obtain ⟨cs', hc, ht'⟩ := hi i (by omega)
      rw [c3] at hc
      obtain ⟨_, hcl, hat⟩ := World.cells?_some hc
      obtain ⟨xs, m', _, _, _, hxl, hf⟩ := DataW.trod_struct Tryd.underlying34 ht'
      have ci : Tryd.prog.cellsOf 3 = 1 := by kernel_rfl
      have cj : Tryd.prog.cellsOf 2 = 1 := by kernel_rfl
      have ck : Tryd.prog.cellsOf 9 = 1 := by kernel_rfl
      obtain ⟨u0, u1, u2, rfl⟩ := list_three hcl
      have h0 : DataW.trod enc Tryd.prog W 0 (fun _ => true) true m' 3 (([u0, u1, u2].drop 0).take (Tryd.prog.cellsOf 3)) = xs[0]? := hf 0 _ rfl
      have h1 : DataW.trod enc Tryd.prog W 0 (fun _ => true) true m' 2 (([u0, u1, u2].drop 1).take (Tryd.prog.cellsOf 2)) = xs[1]? := hf 1 _ rfl
      have h2 : DataW.trod enc Tryd.prog W 0 (fun _ => true) true m' 9 (([u0, u1, u2].drop 2).take (Tryd.prog.cellsOf 9)) = xs[2]? := hf 2 _ rfl
      rw [ci] at h0
      rw [cj] at h1
      rw [ck] at h2
      simp only [List.drop_zero, List.drop_succ_cons, List.take_succ_cons, List.take_zero] at h0 h1 h2
      have hl3 : xs.length = 3 := hxl
      rw [List.getElem?_eq_getElem (by omega)] at h0 h1 h2
      obtain ⟨k, e0, -, -⟩ := DataW.trod_int Tryd.underlying3 h0
      obtain ⟨n, e1, -, -⟩ := DataW.trod_int Tryd.underlying2 h1
      obtain ⟨s, e2, -, ws⟩ := DataW.trod_string Tryd.underlying9 h2
      simp only [List.cons.injEq, and_true] at e0 e1 e2
      subst e0 e1 e2
      exact ⟨(k, n, s), ws, by rw [hat 0 (by omega)]; rfl, by rw [hat 1 (by omega)]; rfl, by rw [hat 2 (by omega)]; rfl⟩
    obtain ⟨l, hll, hl'⟩ := exists_list hone
    subst hll
    obtain ⟨c, o, sp⟩ := a
    refine ⟨some ⟨c, o, sp⟩, l, cap, rfl, hl, by unfold maxLen at hm; omega, fun i hi' => ?_, fun i hi' => (hl' i hi').1, (fun h => by cases h), fun hw => ?_⟩
    · have hsp : sp = none := by
        obtain ⟨-, h0, -, -⟩ := hl' 0 (by omega)
        simpa [Addr.add] using World.cell?_spot h0
      subst hsp
      have ha : ∀ x y, ((⟨c, o, none⟩ : Addr).add x).add y = ⟨c, o + x + y, none⟩ := by
        intro x y
        unfold Addr.add
        split <;> split <;> simp_all
      obtain ⟨-, h0, h1, h2⟩ := hl' i hi'
      rw [ha] at h0 h1 h2
      exact ⟨c, o, rfl, World.block_lt_of_cell? W _ h0, h0, h1, h2⟩
    · have := hw (cap * 32) (by
        rw [hx]
        simp only [DataW.weights, Tryd.underlying25, List.length_map, List.length_range, bytes_val]
        rw [show l.length + (m - l.length) = cap by omega]
        exact List.mem_cons_self)
      unfold reachBytes at this
      omega
/-- An argument that is a row. -/
theorem open_row (hv : ∃ b, Value.okWide Tryd.prog W .any b 25 v) (h : DataW.Trod enc Tryd.prog W 0 (fun _ => true) true 25 v d p) :
    ∃ (a : Option Addr) (l : List Val) (cap : Nat), v = .slice a l.length cap ∧ l.length ≤ cap ∧ l.length ≤ 9223372036854775807 ∧ RowAt W a l ∧ ValsSized l := by
  obtain ⟨b, hv⟩ := hv
  obtain ⟨a0, len, cap, rfl⟩ := okWide_slice Tryd.underlying25 hv
  obtain ⟨fuel, hf⟩ := h
  obtain ⟨a, l, c, h0, h1, h2, h3, h4, -, -⟩ := open_row_at (v := .slice a0 len cap) (show DataW.trod enc Tryd.prog W 0 (fun _ => true) true fuel 25 [.slice a0 len cap] = some (d, p) from hf)
  exact ⟨a, l, c, h0, h1, h2, h3, h4⟩
theorem weights_elem {P : Program} {t e : TypeId} {elems spare : List (DataW H)} {x : DataW H} (hu : P.underlying t = some (.slice e)) (hx : x ∈ elems) (hw : ∀ n ∈ (DataW.slice elems spare).weights P t, n ≤ reachBytes) : ∀ n ∈ x.weights P e, n ≤ reachBytes := by
  intro n hn
  refine hw n ?_
  simp only [DataW.weights, hu]
  refine List.mem_cons_of_mem _ (List.mem_append_left _ ?_)
  clear hw
  induction elems with
  | nil => cases hx
  | cons y r ih =>
    simp only [DataW.weightsAll]
    rcases List.mem_cons.1 hx with rfl | hx
    · exact List.mem_append_left _ hn
    · exact List.mem_append_right _ (ih hx)
set_option maxRecDepth 100000 in
/-- An argument that is a list of rows. -/
theorem open_rows (hv : ∃ b, Value.okWide Tryd.prog W .any b 39 v) (h : DataW.Trod enc Tryd.prog W 0 (fun _ => true) true 39 v d p) (hw : ∀ n ∈ d.weights Tryd.prog 39, n ≤ reachBytes) :
    ∃ (a : Option Addr) (L : List (List Val)) (cap : Nat), v = .slice a L.length cap ∧ L.length ≤ cap ∧ L.length ≤ 9223372036854775807 ∧ RowsAt W a L := by
  obtain ⟨b, hv⟩ := hv
  obtain ⟨a0, len, cap, rfl⟩ := okWide_slice Tryd.underlying39 hv
  obtain ⟨fuel, hf⟩ := h
  rcases Deep.open_slice1 Tryd.underlying39 (by kernel_rfl) hf with ⟨hcs, hx⟩ | ⟨a, len', cap', m, n, V, D, Pl, hcs, hb, hl, hm, hmm, hx, hi⟩
  · simp only [Value.cells, List.cons.injEq, and_true, Value.slice.injEq] at hcs
    obtain ⟨rfl, rfl, rfl⟩ := hcs
    exact ⟨none, [], 0, rfl, Nat.le_refl _, by decide, fun i hi => by simp at hi⟩
  · simp only [Value.cells, List.cons.injEq, and_true, Value.slice.injEq] at hcs
    obtain ⟨rfl, rfl, rfl⟩ := hcs
    rw [if_pos rfl] at hmm
    have hd := (Prod.mk.inj hx).1
    have hone : ∀ i, i < len → ∃ x : Option Addr × Nat × List Val, V i = .slice x.1 x.2.2.length x.2.1 ∧ RowAt W x.1 x.2.2 ∧ x.2.2.length * 32 ≤ 140737488355328 ∧ (x.1 = none → x.2.2 = [] ∧ x.2.1 = 0) := by
      intro i hi'
      obtain ⟨-, ht⟩ := hi i (by omega)
      obtain ⟨q, l, cp, e0, -, -, h3, -, h5, h6⟩ := open_row_at ht
      refine ⟨(q, cp, l), e0, h3, h6 ?_, h5⟩
      refine weights_elem Tryd.underlying39 (x := D i) (elems := (List.range len).map D) (spare := (List.range (m - len)).map fun j => D (len + j)) (List.mem_map.2 ⟨i, List.mem_range.2 hi', rfl⟩) ?_
      rw [← hd]
      exact hw
    haveI : Inhabited (Option Addr × Nat × List Val) := ⟨(none, 0, [])⟩
    obtain ⟨f, hf'⟩ := exists_fun hone
    obtain ⟨c, o, sp⟩ := a
    have hlen : ((List.range len).map fun i => (f i).2.2).length = len := by simp
    refine ⟨some ⟨c, o, sp⟩, (List.range len).map fun i => (f i).2.2, cap, by rw [hlen], by rw [hlen]; exact hl, by rw [hlen]; unfold maxLen at hm; omega, fun i hi' => ?_⟩
    rw [hlen] at hi'
    have hsp : sp = none := by
      obtain ⟨h0, -⟩ := hi 0 (by omega)
      simpa [Addr.add] using World.cell?_spot h0
    subst hsp
    have ha : (⟨c, o, none⟩ : Addr).add i = ⟨c, o + i, none⟩ := by
      unfold Addr.add
      split <;> simp_all
    obtain ⟨h0, -⟩ := hi i (by omega)
    obtain ⟨e0, h1, h2, h3⟩ := hf' i hi'
    have er : rAt ((List.range len).map fun i => (f i).2.2) i = (f i).2.2 := by rw [rAt_get (by rw [hlen]; exact hi')]; simp
    rw [ha, e0] at h0
    rw [er]
    exact ⟨c, o, (f i).1, (f i).2.1, rfl, World.block_lt_of_cell? W _ h0, h0, h1, h2, h3⟩
end
end Go.Proofs.YtgaihglploedaaaDoor
