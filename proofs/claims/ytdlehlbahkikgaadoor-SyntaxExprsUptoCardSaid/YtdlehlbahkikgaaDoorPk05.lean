/-
  Several texts in one.
-/
import Derived.Test.YtdlehlbahkikgaaDoorPk04
import Derived.Test.YtdlehlbahkikgaaDoorPk02
import Derived.Deep.Strs
import Derived.Test.YtdlehlbahkikgaaDoorRows
import Derived.Deep.QuietTactic
/-
  An argument that is an expression, opened: a tree in memory.
-/
namespace Go.Proofs.YtdlehlbahkikgaaDoor
set_option maxRecDepth 100000
open Go.ChangeShapes Go.WideShapes Go.ChangeAt Go.RowKit

section
variable {H : Type} {enc : TypeId × Value → H} {W : World} {v : Value} {d : DataW H} {p : List MemPlace}
/-- The cells of an expression. -/
def exL (e : Ex) : List Value := [.int .i64 e.k, .int .i64 e.op, .bool e.no, .int .i64 e.vk, .int .i64 e.vi, .string e.vt, .string e.tb, .string e.nm, .slice e.pa e.args.length e.ca, .slice e.ps e.sub.length e.cs]
def quL (q : Qu) : List Value := [.bool q.st, .slice q.pi q.items.length q.ci, .string q.fr, .slice q.pw q.wh.length q.cw]
theorem list_ten {l : List Value} (h : l.length = 10) : ∃ a b c d e f g i j k, l = [a, b, c, d, e, f, g, i, j, k] := by
  match l, h with
  | [a, b, c, d, e, f, g, i, j, k], _ => exact ⟨a, b, c, d, e, f, g, i, j, k, rfl⟩
theorem list_four {l : List Value} (h : l.length = 4) : ∃ a b c d, l = [a, b, c, d] := by
  match l, h with
  | [a, b, c, d], _ => exact ⟨a, b, c, d, rfl⟩
theorem list_some {α : Type} {P : Nat → α → Prop} {n : Nat} (h : ∀ i, i < n → ∃ x, P i x) : ∃ l : List α, l.length = n ∧ ∀ i (hi : i < l.length), P i l[i] := by
  induction n with
  | zero => exact ⟨[], rfl, fun i hi => by simp at hi⟩
  | succ n ih =>
    obtain ⟨l, hl, hP⟩ := ih fun i hi => h i (by omega)
    obtain ⟨x, hx⟩ := h n (by omega)
    refine ⟨l ++ [x], by simp [hl], fun i hi => ?_⟩
    rw [List.length_append, List.length_singleton] at hi
    by_cases hin : i < l.length
    · rw [List.getElem_append_left hin]; exact hP i hin
    · obtain rfl : i = l.length := by omega
      rw [List.getElem_append_right (Nat.le_refl _)]
      simpa [hl] using hx
theorem add_add (c o x y : Nat) : ((⟨c, o, none⟩ : Addr).add x).add y = ⟨c, o + x + y, none⟩ := by
  unfold Addr.add
  split <;> split <;> simp_all
/-- A slice whose elements have m cells, each read as something. -/
theorem open_list {α : Type} {e t : TypeId} {f m : Nat} {v : Value} {y : DataW H × List MemPlace} {Q : α → List Value → Prop} (hu : Tryd.prog.underlying t = some (.slice e)) (hc : Tryd.prog.cellsOf e = m) (hm : 0 < m)
    (hQ : ∀ f' cs y, f' < f → DataW.trod enc Tryd.prog W 0 (fun _ => true) true f' e cs = some y → ∃ x, Q x cs) (h : DataW.trod enc Tryd.prog W 0 (fun _ => true) true f t [v] = some y) :
    ∃ (a : Option Addr) (l : List α) (cap : Nat), v = .slice a l.length cap ∧ l.length ≤ cap ∧ l.length ≤ 9223372036854775807 ∧ ∀ i (hi : i < l.length), ∃ c o cs, a = some ⟨c, o, none⟩ ∧ c < W.heap.size ∧ cs.length = m ∧ (∀ j, j < m → W.cell? ⟨c, o + i * m + j, none⟩ = cs[j]?) ∧ Q l[i] cs := by
  rcases DataW.trod_slice hu h with ⟨hcs, -⟩ | ⟨a, len, cap, elems, rest, n, hf, hcs, -, -, hl, hcap, hlen, hel, -, -⟩
  · simp only [List.cons.injEq, and_true] at hcs
    subst hcs
    exact ⟨none, [], 0, rfl, Nat.le_refl _, Nat.zero_le _, fun i hi => by simp at hi⟩
  · simp only [List.cons.injEq, and_true] at hcs
    subst hcs
    have hone : ∀ i, i < len → ∃ x : α, ∃ cs, cs.length = m ∧ (∀ j, j < m → W.cell? ((a.add (i * m)).add j) = cs[j]?) ∧ Q x cs := by
      intro i hi
      have h1 := hel i hi
      rw [List.getElem?_eq_getElem (by omega), Option.bind_eq_some_iff] at h1
      obtain ⟨cs, hcs, ht⟩ := h1
      rw [hc] at hcs
      obtain ⟨_, hcl, hat⟩ := World.cells?_some hcs
      obtain ⟨x, hx⟩ := hQ n cs _ (by omega) ht
      refine ⟨x, cs, hcl, fun j hj => ?_, hx⟩
      exact hat j (by omega)
    obtain ⟨l, hll, hP⟩ := list_some hone
    refine ⟨some a, l, cap, by rw [hll], by omega, by unfold maxLen at hcap; omega, fun i hi => ?_⟩
    obtain ⟨cs, h1, h2, h3⟩ := hP i hi
    obtain ⟨c, o, sp⟩ := a
    have h0 := h2 0 hm
    rw [List.getElem?_eq_getElem (by omega)] at h0
    obtain rfl : sp = none := by
      obtain ⟨cs', g1, g2, -⟩ := hP 0 (by omega)
      have g0 := g2 0 hm
      rw [List.getElem?_eq_getElem (by omega), Nat.zero_mul] at g0
      have := World.cell?_spot g0
      simpa [Addr.add] using this
    refine ⟨c, o, cs, rfl, ?_, h1, fun j hj => ?_, h3⟩
    · rw [add_add] at h0
      exact World.block_lt_of_cell? W _ h0
    · rw [← add_add]; exact h2 j hj
theorem exC_of {c o : Nat} {e : Ex} {cs : List Value} (h : ∀ j, j < 10 → W.cell? ⟨c, o + j, none⟩ = cs[j]?) (he : cs = exL e) : ExC W c o e := by
  subst he
  exact ⟨h 0 (by decide), h 1 (by decide), h 2 (by decide), h 3 (by decide), h 4 (by decide), h 5 (by decide), h 6 (by decide), h 7 (by decide), h 8 (by decide), h 9 (by decide)⟩
theorem quC_of {c o : Nat} {e : Qu} {cs : List Value} (h : ∀ j, j < 4 → W.cell? ⟨c, o + j, none⟩ = cs[j]?) (he : cs = quL e) : QuC W c o e := by
  subst he
  exact ⟨h 0 (by decide), h 1 (by decide), h 2 (by decide), h 3 (by decide)⟩
theorem qAt_get {l : List Qu} {i : Nat} (h : i < l.length) : qAt l i = l[i] := by
  unfold qAt; rw [List.getD, List.getElem?_eq_getElem h]; rfl
/-- A slice of expressions, a slice of queries. -/
theorem open_exs {f d : Nat} {v : Value} {y : DataW H × List MemPlace} (ih : ∀ f' cs y, f' < f → DataW.trod enc Tryd.prog W 0 (fun _ => true) true f' 30 cs = some y → ∃ E, cs = exL E ∧ ExAt (fun _ => True) W d E)
    (h : DataW.trod enc Tryd.prog W 0 (fun _ => true) true f 27 [v] = some y) :
    ∃ (a : Option Addr) (l : List Ex) (cap : Nat), v = .slice a l.length cap ∧ l.length ≤ cap ∧ l.length ≤ 9223372036854775807 ∧ LAt (fun _ => True) W (ExAt (fun _ => True) W d) a l := by
  obtain ⟨a, l, cap, hv, hc, hm, hl⟩ := open_list (Q := fun E cs => cs = exL E ∧ ExAt (fun _ => True) W d E) Tryd.underlying27 (show Tryd.prog.cellsOf 30 = 10 by kernel_rfl) (by decide) ih h
  refine ⟨a, l, cap, hv, hc, hm, fun i hi => ?_⟩
  obtain ⟨c, o, cs, h1, h2, -, h4, h5, h6⟩ := hl i hi
  rw [eAt_get hi]
  exact ⟨c, o, h1, h2, trivial, exC_of h4 h5, h6⟩
theorem open_qus {f d : Nat} {v : Value} {y : DataW H × List MemPlace} (ih : ∀ f' cs y, f' < f → DataW.trod enc Tryd.prog W 0 (fun _ => true) true f' 34 cs = some y → ∃ q, cs = quL q ∧ QuIn (fun _ => True) W (ExAt (fun _ => True) W d) q)
    (h : DataW.trod enc Tryd.prog W 0 (fun _ => true) true f 28 [v] = some y) :
    ∃ (a : Option Addr) (l : List Qu) (cap : Nat), v = .slice a l.length cap ∧ l.length ≤ cap ∧ l.length ≤ 9223372036854775807 ∧ QAt (fun _ => True) W (ExAt (fun _ => True) W d) a l := by
  obtain ⟨a, l, cap, hv, hc, hm, hl⟩ := open_list (Q := fun q cs => cs = quL q ∧ QuIn (fun _ => True) W (ExAt (fun _ => True) W d) q) Tryd.underlying28 (show Tryd.prog.cellsOf 34 = 4 by kernel_rfl) (by decide) ih h
  refine ⟨a, l, cap, hv, hc, hm, fun i hi => ?_⟩
  obtain ⟨c, o, cs, h1, h2, -, h4, h5, h6⟩ := hl i hi
  rw [qAt_get hi]
  exact ⟨c, o, h1, h2, trivial, quC_of h4 h5, h6⟩
set_option maxRecDepth 100000 in
theorem open_qu {f d : Nat} {cs : List Value} {y : DataW H × List MemPlace} (ih : ∀ f' cs y, f' < f → DataW.trod enc Tryd.prog W 0 (fun _ => true) true f' 30 cs = some y → ∃ E, cs = exL E ∧ ExAt (fun _ => True) W d E)
    (h : DataW.trod enc Tryd.prog W 0 (fun _ => true) true f 34 cs = some y) : ∃ q, cs = quL q ∧ QuIn (fun _ => True) W (ExAt (fun _ => True) W d) q := by
  obtain ⟨xs, n, rfl, -, hl, hlen, hf⟩ := DataW.trod_struct Tryd.underlying34 h
  rw [show Tryd.prog.cellsOf 34 = 4 by kernel_rfl] at hl
  obtain ⟨v0, v1, v2, v3, rfl⟩ := list_four hl
  have hz : xs.length = 4 := hlen
  have b1 : Tryd.prog.cellsOf 4 = 1 := by kernel_rfl
  have b2 : Tryd.prog.cellsOf 27 = 1 := by kernel_rfl
  have b3 : Tryd.prog.cellsOf 9 = 1 := by kernel_rfl
  have g0 : DataW.trod enc Tryd.prog W 0 (fun _ => true) true n 4 (([v0, v1, v2, v3].drop 0).take (Tryd.prog.cellsOf 4)) = xs[0]? := hf 0 _ rfl
  have g1 : DataW.trod enc Tryd.prog W 0 (fun _ => true) true n 27 (([v0, v1, v2, v3].drop 1).take (Tryd.prog.cellsOf 27)) = xs[1]? := hf 1 _ rfl
  have g2 : DataW.trod enc Tryd.prog W 0 (fun _ => true) true n 9 (([v0, v1, v2, v3].drop 2).take (Tryd.prog.cellsOf 9)) = xs[2]? := hf 2 _ rfl
  have g3 : DataW.trod enc Tryd.prog W 0 (fun _ => true) true n 27 (([v0, v1, v2, v3].drop 3).take (Tryd.prog.cellsOf 27)) = xs[3]? := hf 3 _ rfl
  clear hf
  rw [b1, List.getElem?_eq_getElem (by omega)] at g0
  rw [b2, List.getElem?_eq_getElem (by omega)] at g1
  rw [b3, List.getElem?_eq_getElem (by omega)] at g2
  rw [b2, List.getElem?_eq_getElem (by omega)] at g3
  simp only [List.drop_zero, List.drop_succ_cons, List.take_succ_cons, List.take_zero] at g0 g1 g2 g3
  obtain ⟨s, e0, -⟩ := DataW.trod_bool Tryd.underlying4 g0
  obtain ⟨pi, items, ci, rfl, -, m1, hi⟩ := open_exs (fun f' cs y hf => ih f' cs y (by omega)) g1
  obtain ⟨fr, e2, -, w2⟩ := DataW.trod_string Tryd.underlying9 g2
  obtain ⟨pw, wh, cw, rfl, -, m3, hw⟩ := open_exs (fun f' cs y hf => ih f' cs y (by omega)) g3
  simp only [List.cons.injEq, and_true] at e0 e2
  subst e0 e2
  exact ⟨⟨s, pi, ci, items, fr, pw, cw, wh⟩, rfl, w2, m1, m3, hi, hw⟩
set_option maxRecDepth 100000 in
/-- An expression that was read is a tree in memory. -/
theorem open_tree : ∀ (f : Nat) (cs : List Value) (y : DataW H × List MemPlace), DataW.trod enc Tryd.prog W 0 (fun _ => true) true f 30 cs = some y → ∃ E, cs = exL E ∧ ExAt (fun _ => True) W f E := by
  intro f
  induction f using Nat.strongRecOn with
  | ind f ih =>
    intro cs y h
    obtain ⟨xs, n, rfl, -, hl, hlen, hf⟩ := DataW.trod_struct Tryd.underlying30 h
    rw [show Tryd.prog.cellsOf 30 = 10 by kernel_rfl] at hl
    obtain ⟨v0, v1, v2, v3, v4, v5, v6, v7, v8, v9, rfl⟩ := list_ten hl
    have hz : xs.length = 8 := hlen
    have b1 : Tryd.prog.cellsOf 3 = 1 := by kernel_rfl
    have b2 : Tryd.prog.cellsOf 4 = 1 := by kernel_rfl
    have b3 : Tryd.prog.cellsOf 26 = 3 := by kernel_rfl
    have b4 : Tryd.prog.cellsOf 9 = 1 := by kernel_rfl
    have b5 : Tryd.prog.cellsOf 27 = 1 := by kernel_rfl
    have b6 : Tryd.prog.cellsOf 28 = 1 := by kernel_rfl
    have b7 : Tryd.prog.cellsOf 2 = 1 := by kernel_rfl
    have g0 : DataW.trod enc Tryd.prog W 0 (fun _ => true) true n 3 (([v0, v1, v2, v3, v4, v5, v6, v7, v8, v9].drop 0).take (Tryd.prog.cellsOf 3)) = xs[0]? := hf 0 _ rfl
    have g1 : DataW.trod enc Tryd.prog W 0 (fun _ => true) true n 3 (([v0, v1, v2, v3, v4, v5, v6, v7, v8, v9].drop 1).take (Tryd.prog.cellsOf 3)) = xs[1]? := hf 1 _ rfl
    have g2 : DataW.trod enc Tryd.prog W 0 (fun _ => true) true n 4 (([v0, v1, v2, v3, v4, v5, v6, v7, v8, v9].drop 2).take (Tryd.prog.cellsOf 4)) = xs[2]? := hf 2 _ rfl
    have g3 : DataW.trod enc Tryd.prog W 0 (fun _ => true) true n 26 (([v0, v1, v2, v3, v4, v5, v6, v7, v8, v9].drop 3).take (Tryd.prog.cellsOf 26)) = xs[3]? := hf 3 _ rfl
    have g4 : DataW.trod enc Tryd.prog W 0 (fun _ => true) true n 9 (([v0, v1, v2, v3, v4, v5, v6, v7, v8, v9].drop 6).take (Tryd.prog.cellsOf 9)) = xs[4]? := hf 4 _ rfl
    have g5 : DataW.trod enc Tryd.prog W 0 (fun _ => true) true n 9 (([v0, v1, v2, v3, v4, v5, v6, v7, v8, v9].drop 7).take (Tryd.prog.cellsOf 9)) = xs[5]? := hf 5 _ rfl
    have g6 : DataW.trod enc Tryd.prog W 0 (fun _ => true) true n 27 (([v0, v1, v2, v3, v4, v5, v6, v7, v8, v9].drop 8).take (Tryd.prog.cellsOf 27)) = xs[6]? := hf 6 _ rfl
    have g7 : DataW.trod enc Tryd.prog W 0 (fun _ => true) true n 28 (([v0, v1, v2, v3, v4, v5, v6, v7, v8, v9].drop 9).take (Tryd.prog.cellsOf 28)) = xs[7]? := hf 7 _ rfl
    clear hf
    rw [b1, List.getElem?_eq_getElem (by omega)] at g0 g1
    rw [b2, List.getElem?_eq_getElem (by omega)] at g2
    rw [b3, List.getElem?_eq_getElem (by omega)] at g3
    rw [b4, List.getElem?_eq_getElem (by omega)] at g4 g5
    rw [b5, List.getElem?_eq_getElem (by omega)] at g6
    rw [b6, List.getElem?_eq_getElem (by omega)] at g7
    simp only [List.drop_zero, List.drop_succ_cons, List.take_succ_cons, List.take_zero] at g0 g1 g2 g3 g4 g5 g6 g7
    obtain ⟨k, e0, -, -⟩ := DataW.trod_int Tryd.underlying3 g0
    obtain ⟨op, e1, -, -⟩ := DataW.trod_int Tryd.underlying3 g1
    obtain ⟨no, e2, -⟩ := DataW.trod_bool Tryd.underlying4 g2
    obtain ⟨z0, z1, z2, n', -, -, j0, j1, j2⟩ := Go.Deep.trod_struct3 Tryd.underlying26 g3
    have j0 : DataW.trod enc Tryd.prog W 0 (fun _ => true) true n' 3 (([v3, v4, v5].drop 0).take (Tryd.prog.cellsOf 3)) = some z0 := j0
    have j1 : DataW.trod enc Tryd.prog W 0 (fun _ => true) true n' 2 (([v3, v4, v5].drop 1).take (Tryd.prog.cellsOf 2)) = some z1 := j1
    have j2 : DataW.trod enc Tryd.prog W 0 (fun _ => true) true n' 9 (([v3, v4, v5].drop 2).take (Tryd.prog.cellsOf 9)) = some z2 := j2
    rw [b1] at j0
    rw [b7] at j1
    rw [b4] at j2
    simp only [List.drop_zero, List.drop_succ_cons, List.take_succ_cons, List.take_zero] at j0 j1 j2
    obtain ⟨vk, e3, -, -⟩ := DataW.trod_int Tryd.underlying3 j0
    obtain ⟨vi, e4, -, -⟩ := DataW.trod_int Tryd.underlying2 j1
    obtain ⟨vt, e5, -, w5⟩ := DataW.trod_string Tryd.underlying9 j2
    obtain ⟨tb, e6, -, w6⟩ := DataW.trod_string Tryd.underlying9 g4
    obtain ⟨nm, e7, -, w7⟩ := DataW.trod_string Tryd.underlying9 g5
    have ihn : ∀ f' cs y, f' < n → DataW.trod enc Tryd.prog W 0 (fun _ => true) true f' 30 cs = some y → ∃ E, cs = exL E ∧ ExAt (fun _ => True) W n E := fun f' cs y hf ht => by
      obtain ⟨E, h1, h2⟩ := ih f' (by omega) cs y ht
      exact ⟨E, h1, h2.upto (by omega)⟩
    obtain ⟨pa, args, ca, rfl, -, m6, ha⟩ := open_exs ihn g6
    obtain ⟨ps, sub, cs, rfl, -, m7, hs⟩ := open_qus (fun f' cs y hf ht => open_qu (d := n) (fun f2 cs y hf2 => ihn f2 cs y (by omega)) ht) g7
    simp only [List.cons.injEq, and_true] at e0 e1 e2 e3 e4 e5 e6 e7
    subst e0 e1 e2 e3 e4 e5 e6 e7
    exact ⟨.mk k op no vk vi vt tb nm pa ca args ps cs sub, rfl, ⟨w5, w6, w7, m6, m7, ha, hs⟩⟩
/-- An argument that is an expression. -/
theorem open_expr (hv : ∃ b, Value.okWide Tryd.prog W .any b 30 v) (h : DataW.Trod enc Tryd.prog W 0 (fun _ => true) true 30 v d p) :
    ∃ (E : Ex) (D : Nat), v = exV E ∧ ExAt (fun _ => True) W D E := by
  obtain ⟨b, hv⟩ := hv
  obtain ⟨cs, rfl, hsz⟩ := okWide_struct Tryd.underlying30 hv
  obtain ⟨fuel, hf⟩ := h
  obtain ⟨E, h1, h2⟩ := open_tree fuel _ _ hf
  refine ⟨E, fuel, ?_, h2⟩
  obtain ⟨cs⟩ := cs
  have : cs = exL E := h1
  rw [this]; rfl
end
end Go.Proofs.YtdlehlbahkikgaaDoor
/-
  An argument that is an expression, opened: a tree in memory whose depth is at most the datum's bulk.
-/
namespace Go.Proofs.YtdlehlbahkikgaaDoor
set_option maxRecDepth 100000
open Go.ChangeShapes Go.WideShapes Go.ChangeAt Go.RowKit

section
variable {H : Type} {enc : TypeId × Value → H} {W : World} {v : Value} {d : DataW H} {p : List MemPlace}
theorem bulk_mem {l : List (DataW H)} {x : DataW H} (h : x ∈ l) : Rows.uptoBulk x ≤ Rows.uptoBulkAll l := by
  induction l with
  | nil => cases h
  | cons a l ih =>
    rw [Rows.uptoBulkAll]
    rcases List.mem_cons.1 h with rfl | h
    · omega
    · have := ih h; omega
theorem bulk_elem {y : DataW H × List MemPlace} {elems rest : List (DataW H × List MemPlace)} {pl : List MemPlace} (hy : y = (.slice (elems.map (·.1)) (rest.map (·.1)), pl)) {x : DataW H × List MemPlace} (h : x ∈ elems) : Rows.uptoBulk x.1 < Rows.uptoBulk y.1 := by
  rw [hy]
  have := bulk_mem (List.mem_map_of_mem (f := (·.1)) h)
  simp only [Rows.uptoBulk]
  omega
theorem bulk_part {y : DataW H × List MemPlace} {xs : List (DataW H × List MemPlace)} {pl : List MemPlace} (hy : y = (.agg (xs.map (·.1)), pl)) {x : DataW H × List MemPlace} {i : Nat} (h : xs[i]? = some x) : Rows.uptoBulk x.1 ≤ Rows.uptoBulkAll (xs.map (·.1)) ∧ Rows.uptoBulk y.1 = Rows.uptoBulkAll (xs.map (·.1)) + 1 := by
  rw [hy]
  exact ⟨bulk_mem (List.mem_map_of_mem (f := (·.1)) (List.mem_of_getElem? h)), by simp only [Rows.uptoBulk]⟩
/-- A slice whose elements have m cells, each read as something. -/
theorem open_listB {α : Type} {e t : TypeId} {f m : Nat} {v : Value} {y : DataW H × List MemPlace} {Q : α → List Value → Prop} (hu : Tryd.prog.underlying t = some (.slice e)) (hc : Tryd.prog.cellsOf e = m) (hm : 0 < m)
    (hQ : ∀ f' cs y', f' < f → Rows.uptoBulk y'.1 < Rows.uptoBulk y.1 → DataW.trod enc Tryd.prog W 0 (fun _ => true) true f' e cs = some y' → ∃ x, Q x cs) (h : DataW.trod enc Tryd.prog W 0 (fun _ => true) true f t [v] = some y) :
    ∃ (a : Option Addr) (l : List α) (cap : Nat), v = .slice a l.length cap ∧ l.length ≤ cap ∧ l.length ≤ 9223372036854775807 ∧ ∀ i (hi : i < l.length), ∃ c o cs, a = some ⟨c, o, none⟩ ∧ c < W.heap.size ∧ cs.length = m ∧ (∀ j, j < m → W.cell? ⟨c, o + i * m + j, none⟩ = cs[j]?) ∧ Q l[i] cs := by
  rcases DataW.trod_slice hu h with ⟨hcs, -⟩ | ⟨a, len, cap, elems, rest, n, hf, hcs, hy, -, hl, hcap, hlen, hel, -, -⟩
  · simp only [List.cons.injEq, and_true] at hcs
    subst hcs
    exact ⟨none, [], 0, rfl, Nat.le_refl _, Nat.zero_le _, fun i hi => by simp at hi⟩
  · simp only [List.cons.injEq, and_true] at hcs
    subst hcs
    have hone : ∀ i, i < len → ∃ x : α, ∃ cs, cs.length = m ∧ (∀ j, j < m → W.cell? ((a.add (i * m)).add j) = cs[j]?) ∧ Q x cs := by
      intro i hi
      have h1 := hel i hi
      rw [List.getElem?_eq_getElem (by omega), Option.bind_eq_some_iff] at h1
      obtain ⟨cs, hcs, ht⟩ := h1
      rw [hc] at hcs
      obtain ⟨_, hcl, hat⟩ := World.cells?_some hcs
      obtain ⟨x, hx⟩ := hQ n cs _ (by omega) (bulk_elem hy (List.getElem_mem _)) ht
      refine ⟨x, cs, hcl, fun j hj => ?_, hx⟩
      exact hat j (by omega)
    obtain ⟨l, hll, hP⟩ := list_some hone
    refine ⟨some a, l, cap, by rw [hll], by omega, by unfold maxLen at hcap; omega, fun i hi => ?_⟩
    obtain ⟨cs, h1, h2, h3⟩ := hP i hi
    obtain ⟨c, o, sp⟩ := a
    have h0 := h2 0 hm
    rw [List.getElem?_eq_getElem (by omega)] at h0
    obtain rfl : sp = none := by
      obtain ⟨cs', g1, g2, -⟩ := hP 0 (by omega)
      have g0 := g2 0 hm
      rw [List.getElem?_eq_getElem (by omega), Nat.zero_mul] at g0
      have := World.cell?_spot g0
      simpa [Addr.add] using this
    refine ⟨c, o, cs, rfl, ?_, h1, fun j hj => ?_, h3⟩
    · rw [add_add] at h0
      exact World.block_lt_of_cell? W _ h0
    · rw [← add_add]; exact h2 j hj
/-- A slice of expressions, a slice of queries. -/
theorem open_exsB {f : Nat} {v : Value} {y : DataW H × List MemPlace} (ih : ∀ f' cs y', f' < f → Rows.uptoBulk y'.1 < Rows.uptoBulk y.1 → DataW.trod enc Tryd.prog W 0 (fun _ => true) true f' 30 cs = some y' → ∃ E, cs = exL E ∧ ExAt (fun _ => True) W (Rows.uptoBulk y'.1) E)
    (h : DataW.trod enc Tryd.prog W 0 (fun _ => true) true f 27 [v] = some y) :
    ∃ (a : Option Addr) (l : List Ex) (cap : Nat), v = .slice a l.length cap ∧ l.length ≤ cap ∧ l.length ≤ 9223372036854775807 ∧ LAt (fun _ => True) W (ExAt (fun _ => True) W (Rows.uptoBulk y.1)) a l := by
  obtain ⟨a, l, cap, hv, hc, hm, hl⟩ := open_listB (y := y) (Q := fun E cs => cs = exL E ∧ ExAt (fun _ => True) W (Rows.uptoBulk y.1) E) Tryd.underlying27 (show Tryd.prog.cellsOf 30 = 10 by kernel_rfl) (by decide) (fun f' cs y' hf hb ht => by
    obtain ⟨E, h1, h2⟩ := ih f' cs y' hf hb ht
    exact ⟨E, h1, h2.upto (by omega)⟩) h
  refine ⟨a, l, cap, hv, hc, hm, fun i hi => ?_⟩
  obtain ⟨c, o, cs, h1, h2, -, h4, h5, h6⟩ := hl i hi
  rw [eAt_get hi]
  exact ⟨c, o, h1, h2, trivial, exC_of h4 h5, h6⟩
theorem QuIn.upto {N : Nat → Prop} {w : World} {d D : Nat} {q : Qu} (h : QuIn N w (ExAt N w d) q) (hd : d ≤ D) : QuIn N w (ExAt N w D) q := h.keep (Nat.le_refl _) (fun _ _ hn => ⟨rfl, hn⟩) fun _ hx => hx.upto hd
theorem open_qusB {f : Nat} {v : Value} {y : DataW H × List MemPlace} (ih : ∀ f' cs y', f' < f → Rows.uptoBulk y'.1 < Rows.uptoBulk y.1 → DataW.trod enc Tryd.prog W 0 (fun _ => true) true f' 34 cs = some y' → ∃ q, cs = quL q ∧ QuIn (fun _ => True) W (ExAt (fun _ => True) W (Rows.uptoBulk y'.1)) q)
    (h : DataW.trod enc Tryd.prog W 0 (fun _ => true) true f 28 [v] = some y) :
    ∃ (a : Option Addr) (l : List Qu) (cap : Nat), v = .slice a l.length cap ∧ l.length ≤ cap ∧ l.length ≤ 9223372036854775807 ∧ QAt (fun _ => True) W (ExAt (fun _ => True) W (Rows.uptoBulk y.1)) a l := by
  obtain ⟨a, l, cap, hv, hc, hm, hl⟩ := open_listB (y := y) (Q := fun q cs => cs = quL q ∧ QuIn (fun _ => True) W (ExAt (fun _ => True) W (Rows.uptoBulk y.1)) q) Tryd.underlying28 (show Tryd.prog.cellsOf 34 = 4 by kernel_rfl) (by decide) (fun f' cs y' hf hb ht => by
    obtain ⟨q, h1, h2⟩ := ih f' cs y' hf hb ht
    exact ⟨q, h1, h2.upto (by omega)⟩) h
  refine ⟨a, l, cap, hv, hc, hm, fun i hi => ?_⟩
  obtain ⟨c, o, cs, h1, h2, -, h4, h5, h6⟩ := hl i hi
  rw [qAt_get hi]
  exact ⟨c, o, h1, h2, trivial, quC_of h4 h5, h6⟩
set_option maxRecDepth 100000 in
theorem open_quB {f : Nat} {cs : List Value} {y : DataW H × List MemPlace} (ih : ∀ f' cs y', f' < f → Rows.uptoBulk y'.1 < Rows.uptoBulk y.1 → DataW.trod enc Tryd.prog W 0 (fun _ => true) true f' 30 cs = some y' → ∃ E, cs = exL E ∧ ExAt (fun _ => True) W (Rows.uptoBulk y'.1) E)
    (h : DataW.trod enc Tryd.prog W 0 (fun _ => true) true f 34 cs = some y) : ∃ q, cs = quL q ∧ QuIn (fun _ => True) W (ExAt (fun _ => True) W (Rows.uptoBulk y.1)) q := by
  obtain ⟨xs, n, rfl, hy, hl, hlen, hf⟩ := DataW.trod_struct Tryd.underlying34 h
  rw [show Tryd.prog.cellsOf 34 = 4 by kernel_rfl] at hl
  obtain ⟨v0, v1, v2, v3, rfl⟩ := list_four hl
  have hz : xs.length = 4 := hlen
  have b1 : Tryd.prog.cellsOf 4 = 1 := by kernel_rfl
  have b2 : Tryd.prog.cellsOf 27 = 1 := by kernel_rfl
  have b3 : Tryd.prog.cellsOf 9 = 1 := by kernel_rfl
  have g0 : DataW.trod enc Tryd.prog W 0 (fun _ => true) true n 4 (([v0, v1, v2, v3].drop 0).take (Tryd.prog.cellsOf 4)) = xs[0]? := hf 0 _ rfl
  have g1 : DataW.trod enc Tryd.prog W 0 (fun _ => true) true n 27 (([v0, v1, v2, v3].drop 1).take (Tryd.prog.cellsOf 27)) = xs[1]? := hf 1 _ rfl
  have g2 : DataW.trod enc Tryd.prog W 0 (fun _ => true) true n 9 (([v0, v1, v2, v3].drop 2).take (Tryd.prog.cellsOf 9)) = xs[2]? := hf 2 _ rfl
  have g3 : DataW.trod enc Tryd.prog W 0 (fun _ => true) true n 27 (([v0, v1, v2, v3].drop 3).take (Tryd.prog.cellsOf 27)) = xs[3]? := hf 3 _ rfl
  clear hf
  rw [b1, List.getElem?_eq_getElem (by omega)] at g0
  rw [b2, List.getElem?_eq_getElem (by omega)] at g1
  rw [b3, List.getElem?_eq_getElem (by omega)] at g2
  rw [b2, List.getElem?_eq_getElem (by omega)] at g3
  simp only [List.drop_zero, List.drop_succ_cons, List.take_succ_cons, List.take_zero] at g0 g1 g2 g3
  obtain ⟨s, e0, -⟩ := DataW.trod_bool Tryd.underlying4 g0
  obtain ⟨p1, p0⟩ := bulk_part hy (List.getElem?_eq_getElem (show 1 < xs.length by omega))
  obtain ⟨p3, -⟩ := bulk_part hy (List.getElem?_eq_getElem (show 3 < xs.length by omega))
  obtain ⟨pi, items, ci, rfl, -, m1, hi⟩ := open_exsB (fun f' cs y' hf hb => ih f' cs y' (by omega) (by omega)) g1
  obtain ⟨fr, e2, -, w2⟩ := DataW.trod_string Tryd.underlying9 g2
  obtain ⟨pw, wh, cw, rfl, -, m3, hw⟩ := open_exsB (fun f' cs y' hf hb => ih f' cs y' (by omega) (by omega)) g3
  simp only [List.cons.injEq, and_true] at e0 e2
  subst e0 e2
  exact ⟨⟨s, pi, ci, items, fr, pw, cw, wh⟩, rfl, w2, m1, m3, hi.more (by omega), hw.more (by omega)⟩
set_option maxRecDepth 100000 in
/-- An expression that was read is a tree in memory. -/
theorem open_treeB : ∀ (f : Nat) (cs : List Value) (y : DataW H × List MemPlace), DataW.trod enc Tryd.prog W 0 (fun _ => true) true f 30 cs = some y → ∃ E, cs = exL E ∧ ExAt (fun _ => True) W (Rows.uptoBulk y.1) E := by
  intro f
  induction f using Nat.strongRecOn with
  | ind f ih =>
    intro cs y h
    obtain ⟨xs, n, rfl, hy, hl, hlen, hf⟩ := DataW.trod_struct Tryd.underlying30 h
    rw [show Tryd.prog.cellsOf 30 = 10 by kernel_rfl] at hl
    obtain ⟨v0, v1, v2, v3, v4, v5, v6, v7, v8, v9, rfl⟩ := list_ten hl
    have hz : xs.length = 8 := hlen
    have b1 : Tryd.prog.cellsOf 3 = 1 := by kernel_rfl
    have b2 : Tryd.prog.cellsOf 4 = 1 := by kernel_rfl
    have b3 : Tryd.prog.cellsOf 26 = 3 := by kernel_rfl
    have b4 : Tryd.prog.cellsOf 9 = 1 := by kernel_rfl
    have b5 : Tryd.prog.cellsOf 27 = 1 := by kernel_rfl
    have b6 : Tryd.prog.cellsOf 28 = 1 := by kernel_rfl
    have b7 : Tryd.prog.cellsOf 2 = 1 := by kernel_rfl
    have g0 : DataW.trod enc Tryd.prog W 0 (fun _ => true) true n 3 (([v0, v1, v2, v3, v4, v5, v6, v7, v8, v9].drop 0).take (Tryd.prog.cellsOf 3)) = xs[0]? := hf 0 _ rfl
    have g1 : DataW.trod enc Tryd.prog W 0 (fun _ => true) true n 3 (([v0, v1, v2, v3, v4, v5, v6, v7, v8, v9].drop 1).take (Tryd.prog.cellsOf 3)) = xs[1]? := hf 1 _ rfl
    have g2 : DataW.trod enc Tryd.prog W 0 (fun _ => true) true n 4 (([v0, v1, v2, v3, v4, v5, v6, v7, v8, v9].drop 2).take (Tryd.prog.cellsOf 4)) = xs[2]? := hf 2 _ rfl
    have g3 : DataW.trod enc Tryd.prog W 0 (fun _ => true) true n 26 (([v0, v1, v2, v3, v4, v5, v6, v7, v8, v9].drop 3).take (Tryd.prog.cellsOf 26)) = xs[3]? := hf 3 _ rfl
    have g4 : DataW.trod enc Tryd.prog W 0 (fun _ => true) true n 9 (([v0, v1, v2, v3, v4, v5, v6, v7, v8, v9].drop 6).take (Tryd.prog.cellsOf 9)) = xs[4]? := hf 4 _ rfl
    have g5 : DataW.trod enc Tryd.prog W 0 (fun _ => true) true n 9 (([v0, v1, v2, v3, v4, v5, v6, v7, v8, v9].drop 7).take (Tryd.prog.cellsOf 9)) = xs[5]? := hf 5 _ rfl
    have g6 : DataW.trod enc Tryd.prog W 0 (fun _ => true) true n 27 (([v0, v1, v2, v3, v4, v5, v6, v7, v8, v9].drop 8).take (Tryd.prog.cellsOf 27)) = xs[6]? := hf 6 _ rfl
    have g7 : DataW.trod enc Tryd.prog W 0 (fun _ => true) true n 28 (([v0, v1, v2, v3, v4, v5, v6, v7, v8, v9].drop 9).take (Tryd.prog.cellsOf 28)) = xs[7]? := hf 7 _ rfl
    clear hf
    rw [b1, List.getElem?_eq_getElem (by omega)] at g0 g1
    rw [b2, List.getElem?_eq_getElem (by omega)] at g2
    rw [b3, List.getElem?_eq_getElem (by omega)] at g3
    rw [b4, List.getElem?_eq_getElem (by omega)] at g4 g5
    rw [b5, List.getElem?_eq_getElem (by omega)] at g6
    rw [b6, List.getElem?_eq_getElem (by omega)] at g7
    simp only [List.drop_zero, List.drop_succ_cons, List.take_succ_cons, List.take_zero] at g0 g1 g2 g3 g4 g5 g6 g7
    obtain ⟨k, e0, -, -⟩ := DataW.trod_int Tryd.underlying3 g0
    obtain ⟨op, e1, -, -⟩ := DataW.trod_int Tryd.underlying3 g1
    obtain ⟨no, e2, -⟩ := DataW.trod_bool Tryd.underlying4 g2
    obtain ⟨z0, z1, z2, n', -, -, j0, j1, j2⟩ := Go.Deep.trod_struct3 Tryd.underlying26 g3
    have j0 : DataW.trod enc Tryd.prog W 0 (fun _ => true) true n' 3 (([v3, v4, v5].drop 0).take (Tryd.prog.cellsOf 3)) = some z0 := j0
    have j1 : DataW.trod enc Tryd.prog W 0 (fun _ => true) true n' 2 (([v3, v4, v5].drop 1).take (Tryd.prog.cellsOf 2)) = some z1 := j1
    have j2 : DataW.trod enc Tryd.prog W 0 (fun _ => true) true n' 9 (([v3, v4, v5].drop 2).take (Tryd.prog.cellsOf 9)) = some z2 := j2
    rw [b1] at j0
    rw [b7] at j1
    rw [b4] at j2
    simp only [List.drop_zero, List.drop_succ_cons, List.take_succ_cons, List.take_zero] at j0 j1 j2
    obtain ⟨vk, e3, -, -⟩ := DataW.trod_int Tryd.underlying3 j0
    obtain ⟨vi, e4, -, -⟩ := DataW.trod_int Tryd.underlying2 j1
    obtain ⟨vt, e5, -, w5⟩ := DataW.trod_string Tryd.underlying9 j2
    obtain ⟨tb, e6, -, w6⟩ := DataW.trod_string Tryd.underlying9 g4
    obtain ⟨nm, e7, -, w7⟩ := DataW.trod_string Tryd.underlying9 g5
    obtain ⟨p6, p0⟩ := bulk_part hy (List.getElem?_eq_getElem (show 6 < xs.length by omega))
    obtain ⟨p7, -⟩ := bulk_part hy (List.getElem?_eq_getElem (show 7 < xs.length by omega))
    obtain ⟨pa, args, ca, rfl, -, m6, ha⟩ := open_exsB (fun f' cs y' hf _ => ih f' (by omega) cs y') g6
    obtain ⟨ps, sub, cs, rfl, -, m7, hs⟩ := open_qusB (fun f' cs y' hf _ => open_quB (fun f2 cs2 y2 hf2 _ => ih f2 (by omega) cs2 y2)) g7
    simp only [List.cons.injEq, and_true] at e0 e1 e2 e3 e4 e5 e6 e7
    subst e0 e1 e2 e3 e4 e5 e6 e7
    rw [p0]
    exact ⟨.mk k op no vk vi vt tb nm pa ca args ps cs sub, rfl, ⟨w5, w6, w7, m6, m7, ha.more p6, hs.more p7⟩⟩
/-- An argument that is an expression. -/
theorem open_exprB (hv : ∃ b, Value.okWide Tryd.prog W .any b 30 v) (h : DataW.Trod enc Tryd.prog W 0 (fun _ => true) true 30 v d p) :
    ∃ E : Ex, v = exV E ∧ ExAt (fun _ => True) W (Rows.uptoBulk d) E := by
  obtain ⟨b, hv⟩ := hv
  obtain ⟨cs, rfl, hsz⟩ := okWide_struct Tryd.underlying30 hv
  obtain ⟨fuel, hf⟩ := h
  obtain ⟨E, h1, h2⟩ := open_treeB fuel _ _ hf
  refine ⟨E, ?_, h2⟩
  obtain ⟨cs⟩ := cs
  have : cs = exL E := h1
  rw [this]; rfl
end
end Go.Proofs.YtdlehlbahkikgaaDoor
/-
  How tightly expressions bind: bindingOf, Precedence, validOperator, inParentheses of package syntax.
-/
namespace Go.Proofs.YtdlehlbahkikgaaDoor
set_option maxRecDepth 100000
open Go.RowKit
variable {ls : List Nat}

/-- The least precedences of the arguments, as package syntax has them. -/
def plA (k op : Int) : Int := if k = 3 then 3 else if k = 4 then 7 else if k = 6 ∨ k = 7 then 5 else if k = 5 then (if op = 1 then 1 else if op = 2 then 2 else if 3 ≤ op ∧ op ≤ 10 then 5 else if 11 ≤ op ∧ op ≤ 13 then 6 else 0) else 0
def plB (k op : Int) : Int := if k = 7 then 5 else if k = 5 then (if op = 1 then 2 else if op = 2 then 3 else if 3 ≤ op ∧ op ≤ 8 then 5 else if 9 ≤ op ∧ op ≤ 10 then 6 else if 11 ≤ op ∧ op ≤ 13 then 7 else 0) else 0
def plC (k : Int) : Int := if k = 7 then 5 else 0
theorem validOp_yes (op : Int) (h1 : 1 ≤ op) (h2 : op ≤ 13) (w : World) : Calls Tryd.prog 34 #[.int .i64 op] w fun e w' => e = .returned (.bool true) ∧ w = w' := by
  go_enter Tryd.func34, Tryd.ntmps34
  go_wp2
  go_ret
  exact ⟨rfl, rfl⟩
theorem validOp_no (op : Int) (h : op < 1 ∨ 13 < op) (w : World) : Calls Tryd.prog 34 #[.int .i64 op] w fun e w' => e = .returned (.bool false) ∧ w = w' := by
  by_cases h1 : 1 ≤ op
  · have h2 : 13 < op := by omega
    clear h
    go_enter Tryd.func34, Tryd.ntmps34
    go_wp2
    have e2 : decide (op ≤ 13) = false := decide_eq_false (by omega)
    go_ret
    exact ⟨ret_bool e2, rfl⟩
  · clear h
    go_enter Tryd.func34, Tryd.ntmps34
    go_wp2
    go_ret
    exact ⟨rfl, rfl⟩
theorem validOp_any (op : Int) (w : World) : Calls Tryd.prog 34 #[.int .i64 op] w fun e w' => e = .returned (.bool (decide (1 ≤ op ∧ op ≤ 13))) ∧ w = w' := by
  by_cases h : 1 ≤ op ∧ op ≤ 13
  · rw [decide_eq_true h]; exact validOp_yes op h.1 h.2 w
  · rw [decide_eq_false h]; exact validOp_no op (by omega) w
abbrev bndV (k op : Int) : Value := .agg #[.int .i64 (prec k op), .int .i64 (plA k op), .int .i64 (plB k op), .int .i64 (plC k)]
theorem ret_bnd {a b c d k op : Int} (h : (a, b, c, d) = (prec k op, plA k op, plB k op, plC k)) : Ending.returned (.agg #[.int .i64 a, .int .i64 b, .int .i64 c, .int .i64 d]) = .returned (bndV k op) := by
  simp only [Prod.mk.injEq] at h
  obtain ⟨rfl, rfl, rfl, rfl⟩ := h; rfl
theorem oper_cells {w : World} (hE : Env ls w) (hm : 1 ∈ ls) (i : Nat) (hi : i < 14) (a b : Obj) :
    ((w.alloc a).alloc b).cell? ⟨1, i * 4 + 0, none⟩ = some (.int .i64 ((operL.getD i []).getD 0 0)) ∧ ((w.alloc a).alloc b).cell? ⟨1, i * 4 + 1, none⟩ = some (.int .i64 ((operL.getD i []).getD 1 0))
    ∧ ((w.alloc a).alloc b).cell? ⟨1, i * 4 + 2, none⟩ = some (.int .i64 ((operL.getD i []).getD 2 0)) ∧ ((w.alloc a).alloc b).cell? ⟨1, i * 4 + 3, none⟩ = some (.int .i64 ((operL.getD i []).getD 3 0)) := by
  have hE2 := (hE.alloc a).alloc b
  exact ⟨hE2.opers hm i 0 hi (by decide), hE2.opers hm i 1 hi (by decide), hE2.opers hm i 2 hi (by decide), hE2.opers hm i 3 hi (by decide)⟩
theorem below_two (w : World) (a b : Obj) : Below w.heap.size w ((w.alloc a).alloc b) := below_new (below_new (Below.refl _ _) _) _
--CASES
set_option maxHeartbeats 1000000 in
theorem binding_o1 (vk vi : Int) (no : Bool) (vt tb nm : ByteArray) (p q : Option Addr) (n c n' c' : Nat) (w : World) (hE : Env ls w) (hm : 1 ∈ ls) :
    Calls Tryd.prog 22 #[.agg #[.int .i64 5, .int .i64 1, .bool no, .int .i64 vk, .int .i64 vi, .string vt, .string tb, .string nm, .slice p n c, .slice q n' c']] w fun e w' => e = .returned (bndV 5 1) ∧ Below w.heap.size w w' := by
  obtain ⟨d0, d1, d2, d3⟩ := oper_cells hE hm 1 (by decide) (.cells #[.int .i64 5, .int .i64 1, .bool no, .int .i64 vk, .int .i64 vi, .string vt, .string tb, .string nm, .slice p n c, .slice q n' c'] 30) (.cells #[.int .i64 0, .int .i64 0, .int .i64 0, .int .i64 0] 52)
  have c0 : ((w.alloc (.cells #[.int .i64 5, .int .i64 1, .bool no, .int .i64 vk, .int .i64 vi, .string vt, .string tb, .string nm, .slice p n c, .slice q n' c'] 30)).alloc (.cells #[.int .i64 0, .int .i64 0, .int .i64 0, .int .i64 0] 52)).cell? ⟨1, 4, none⟩ = some (.int .i64 1) := d0
  have c1 : ((w.alloc (.cells #[.int .i64 5, .int .i64 1, .bool no, .int .i64 vk, .int .i64 vi, .string vt, .string tb, .string nm, .slice p n c, .slice q n' c'] 30)).alloc (.cells #[.int .i64 0, .int .i64 0, .int .i64 0, .int .i64 0] 52)).cell? ⟨1, 5, none⟩ = some (.int .i64 1) := d1
  have c2 : ((w.alloc (.cells #[.int .i64 5, .int .i64 1, .bool no, .int .i64 vk, .int .i64 vi, .string vt, .string tb, .string nm, .slice p n c, .slice q n' c'] 30)).alloc (.cells #[.int .i64 0, .int .i64 0, .int .i64 0, .int .i64 0] 52)).cell? ⟨1, 6, none⟩ = some (.int .i64 2) := d2
  have c3 : ((w.alloc (.cells #[.int .i64 5, .int .i64 1, .bool no, .int .i64 vk, .int .i64 vi, .string vt, .string tb, .string nm, .slice p n c, .slice q n' c'] 30)).alloc (.cells #[.int .i64 0, .int .i64 0, .int .i64 0, .int .i64 0] 52)).cell? ⟨1, 7, none⟩ = some (.int .i64 0) := d3
  clear hE d0 d1 d2 d3
  go_enter Tryd.func22, Tryd.ntmps22
  go_wp2_with (go_at_call 34; refine (validOp_yes _ (by decide) (by decide) _).mono ?_; rintro e w' ⟨rfl, rfl⟩)
  exact bodyPost_ret (v := .agg #[.int .i64 1, .int .i64 1, .int .i64 2, .int .i64 0]) (by simp [results, Tryd.results22, go_sem]) rfl ⟨ret_bnd rfl, below_two _ _ _⟩
set_option maxHeartbeats 1000000 in
theorem binding_o2 (vk vi : Int) (no : Bool) (vt tb nm : ByteArray) (p q : Option Addr) (n c n' c' : Nat) (w : World) (hE : Env ls w) (hm : 1 ∈ ls) :
    Calls Tryd.prog 22 #[.agg #[.int .i64 5, .int .i64 2, .bool no, .int .i64 vk, .int .i64 vi, .string vt, .string tb, .string nm, .slice p n c, .slice q n' c']] w fun e w' => e = .returned (bndV 5 2) ∧ Below w.heap.size w w' := by
  obtain ⟨d0, d1, d2, d3⟩ := oper_cells hE hm 2 (by decide) (.cells #[.int .i64 5, .int .i64 2, .bool no, .int .i64 vk, .int .i64 vi, .string vt, .string tb, .string nm, .slice p n c, .slice q n' c'] 30) (.cells #[.int .i64 0, .int .i64 0, .int .i64 0, .int .i64 0] 52)
  have c0 : ((w.alloc (.cells #[.int .i64 5, .int .i64 2, .bool no, .int .i64 vk, .int .i64 vi, .string vt, .string tb, .string nm, .slice p n c, .slice q n' c'] 30)).alloc (.cells #[.int .i64 0, .int .i64 0, .int .i64 0, .int .i64 0] 52)).cell? ⟨1, 8, none⟩ = some (.int .i64 2) := d0
  have c1 : ((w.alloc (.cells #[.int .i64 5, .int .i64 2, .bool no, .int .i64 vk, .int .i64 vi, .string vt, .string tb, .string nm, .slice p n c, .slice q n' c'] 30)).alloc (.cells #[.int .i64 0, .int .i64 0, .int .i64 0, .int .i64 0] 52)).cell? ⟨1, 9, none⟩ = some (.int .i64 2) := d1
  have c2 : ((w.alloc (.cells #[.int .i64 5, .int .i64 2, .bool no, .int .i64 vk, .int .i64 vi, .string vt, .string tb, .string nm, .slice p n c, .slice q n' c'] 30)).alloc (.cells #[.int .i64 0, .int .i64 0, .int .i64 0, .int .i64 0] 52)).cell? ⟨1, 10, none⟩ = some (.int .i64 3) := d2
  have c3 : ((w.alloc (.cells #[.int .i64 5, .int .i64 2, .bool no, .int .i64 vk, .int .i64 vi, .string vt, .string tb, .string nm, .slice p n c, .slice q n' c'] 30)).alloc (.cells #[.int .i64 0, .int .i64 0, .int .i64 0, .int .i64 0] 52)).cell? ⟨1, 11, none⟩ = some (.int .i64 0) := d3
  clear hE d0 d1 d2 d3
  go_enter Tryd.func22, Tryd.ntmps22
  go_wp2_with (go_at_call 34; refine (validOp_yes _ (by decide) (by decide) _).mono ?_; rintro e w' ⟨rfl, rfl⟩)
  exact bodyPost_ret (v := .agg #[.int .i64 2, .int .i64 2, .int .i64 3, .int .i64 0]) (by simp [results, Tryd.results22, go_sem]) rfl ⟨ret_bnd rfl, below_two _ _ _⟩
set_option maxHeartbeats 1000000 in
theorem binding_o3 (vk vi : Int) (no : Bool) (vt tb nm : ByteArray) (p q : Option Addr) (n c n' c' : Nat) (w : World) (hE : Env ls w) (hm : 1 ∈ ls) :
    Calls Tryd.prog 22 #[.agg #[.int .i64 5, .int .i64 3, .bool no, .int .i64 vk, .int .i64 vi, .string vt, .string tb, .string nm, .slice p n c, .slice q n' c']] w fun e w' => e = .returned (bndV 5 3) ∧ Below w.heap.size w w' := by
  obtain ⟨d0, d1, d2, d3⟩ := oper_cells hE hm 3 (by decide) (.cells #[.int .i64 5, .int .i64 3, .bool no, .int .i64 vk, .int .i64 vi, .string vt, .string tb, .string nm, .slice p n c, .slice q n' c'] 30) (.cells #[.int .i64 0, .int .i64 0, .int .i64 0, .int .i64 0] 52)
  have c0 : ((w.alloc (.cells #[.int .i64 5, .int .i64 3, .bool no, .int .i64 vk, .int .i64 vi, .string vt, .string tb, .string nm, .slice p n c, .slice q n' c'] 30)).alloc (.cells #[.int .i64 0, .int .i64 0, .int .i64 0, .int .i64 0] 52)).cell? ⟨1, 12, none⟩ = some (.int .i64 4) := d0
  have c1 : ((w.alloc (.cells #[.int .i64 5, .int .i64 3, .bool no, .int .i64 vk, .int .i64 vi, .string vt, .string tb, .string nm, .slice p n c, .slice q n' c'] 30)).alloc (.cells #[.int .i64 0, .int .i64 0, .int .i64 0, .int .i64 0] 52)).cell? ⟨1, 13, none⟩ = some (.int .i64 5) := d1
  have c2 : ((w.alloc (.cells #[.int .i64 5, .int .i64 3, .bool no, .int .i64 vk, .int .i64 vi, .string vt, .string tb, .string nm, .slice p n c, .slice q n' c'] 30)).alloc (.cells #[.int .i64 0, .int .i64 0, .int .i64 0, .int .i64 0] 52)).cell? ⟨1, 14, none⟩ = some (.int .i64 5) := d2
  have c3 : ((w.alloc (.cells #[.int .i64 5, .int .i64 3, .bool no, .int .i64 vk, .int .i64 vi, .string vt, .string tb, .string nm, .slice p n c, .slice q n' c'] 30)).alloc (.cells #[.int .i64 0, .int .i64 0, .int .i64 0, .int .i64 0] 52)).cell? ⟨1, 15, none⟩ = some (.int .i64 0) := d3
  clear hE d0 d1 d2 d3
  go_enter Tryd.func22, Tryd.ntmps22
  go_wp2_with (go_at_call 34; refine (validOp_yes _ (by decide) (by decide) _).mono ?_; rintro e w' ⟨rfl, rfl⟩)
  exact bodyPost_ret (v := .agg #[.int .i64 4, .int .i64 5, .int .i64 5, .int .i64 0]) (by simp [results, Tryd.results22, go_sem]) rfl ⟨ret_bnd rfl, below_two _ _ _⟩
set_option maxHeartbeats 1000000 in
theorem binding_o4 (vk vi : Int) (no : Bool) (vt tb nm : ByteArray) (p q : Option Addr) (n c n' c' : Nat) (w : World) (hE : Env ls w) (hm : 1 ∈ ls) :
    Calls Tryd.prog 22 #[.agg #[.int .i64 5, .int .i64 4, .bool no, .int .i64 vk, .int .i64 vi, .string vt, .string tb, .string nm, .slice p n c, .slice q n' c']] w fun e w' => e = .returned (bndV 5 4) ∧ Below w.heap.size w w' := by
  obtain ⟨d0, d1, d2, d3⟩ := oper_cells hE hm 4 (by decide) (.cells #[.int .i64 5, .int .i64 4, .bool no, .int .i64 vk, .int .i64 vi, .string vt, .string tb, .string nm, .slice p n c, .slice q n' c'] 30) (.cells #[.int .i64 0, .int .i64 0, .int .i64 0, .int .i64 0] 52)
  have c0 : ((w.alloc (.cells #[.int .i64 5, .int .i64 4, .bool no, .int .i64 vk, .int .i64 vi, .string vt, .string tb, .string nm, .slice p n c, .slice q n' c'] 30)).alloc (.cells #[.int .i64 0, .int .i64 0, .int .i64 0, .int .i64 0] 52)).cell? ⟨1, 16, none⟩ = some (.int .i64 4) := d0
  have c1 : ((w.alloc (.cells #[.int .i64 5, .int .i64 4, .bool no, .int .i64 vk, .int .i64 vi, .string vt, .string tb, .string nm, .slice p n c, .slice q n' c'] 30)).alloc (.cells #[.int .i64 0, .int .i64 0, .int .i64 0, .int .i64 0] 52)).cell? ⟨1, 17, none⟩ = some (.int .i64 5) := d1
  have c2 : ((w.alloc (.cells #[.int .i64 5, .int .i64 4, .bool no, .int .i64 vk, .int .i64 vi, .string vt, .string tb, .string nm, .slice p n c, .slice q n' c'] 30)).alloc (.cells #[.int .i64 0, .int .i64 0, .int .i64 0, .int .i64 0] 52)).cell? ⟨1, 18, none⟩ = some (.int .i64 5) := d2
  have c3 : ((w.alloc (.cells #[.int .i64 5, .int .i64 4, .bool no, .int .i64 vk, .int .i64 vi, .string vt, .string tb, .string nm, .slice p n c, .slice q n' c'] 30)).alloc (.cells #[.int .i64 0, .int .i64 0, .int .i64 0, .int .i64 0] 52)).cell? ⟨1, 19, none⟩ = some (.int .i64 0) := d3
  clear hE d0 d1 d2 d3
  go_enter Tryd.func22, Tryd.ntmps22
  go_wp2_with (go_at_call 34; refine (validOp_yes _ (by decide) (by decide) _).mono ?_; rintro e w' ⟨rfl, rfl⟩)
  exact bodyPost_ret (v := .agg #[.int .i64 4, .int .i64 5, .int .i64 5, .int .i64 0]) (by simp [results, Tryd.results22, go_sem]) rfl ⟨ret_bnd rfl, below_two _ _ _⟩
set_option maxHeartbeats 1000000 in
theorem binding_o5 (vk vi : Int) (no : Bool) (vt tb nm : ByteArray) (p q : Option Addr) (n c n' c' : Nat) (w : World) (hE : Env ls w) (hm : 1 ∈ ls) :
    Calls Tryd.prog 22 #[.agg #[.int .i64 5, .int .i64 5, .bool no, .int .i64 vk, .int .i64 vi, .string vt, .string tb, .string nm, .slice p n c, .slice q n' c']] w fun e w' => e = .returned (bndV 5 5) ∧ Below w.heap.size w w' := by
  obtain ⟨d0, d1, d2, d3⟩ := oper_cells hE hm 5 (by decide) (.cells #[.int .i64 5, .int .i64 5, .bool no, .int .i64 vk, .int .i64 vi, .string vt, .string tb, .string nm, .slice p n c, .slice q n' c'] 30) (.cells #[.int .i64 0, .int .i64 0, .int .i64 0, .int .i64 0] 52)
  have c0 : ((w.alloc (.cells #[.int .i64 5, .int .i64 5, .bool no, .int .i64 vk, .int .i64 vi, .string vt, .string tb, .string nm, .slice p n c, .slice q n' c'] 30)).alloc (.cells #[.int .i64 0, .int .i64 0, .int .i64 0, .int .i64 0] 52)).cell? ⟨1, 20, none⟩ = some (.int .i64 4) := d0
  have c1 : ((w.alloc (.cells #[.int .i64 5, .int .i64 5, .bool no, .int .i64 vk, .int .i64 vi, .string vt, .string tb, .string nm, .slice p n c, .slice q n' c'] 30)).alloc (.cells #[.int .i64 0, .int .i64 0, .int .i64 0, .int .i64 0] 52)).cell? ⟨1, 21, none⟩ = some (.int .i64 5) := d1
  have c2 : ((w.alloc (.cells #[.int .i64 5, .int .i64 5, .bool no, .int .i64 vk, .int .i64 vi, .string vt, .string tb, .string nm, .slice p n c, .slice q n' c'] 30)).alloc (.cells #[.int .i64 0, .int .i64 0, .int .i64 0, .int .i64 0] 52)).cell? ⟨1, 22, none⟩ = some (.int .i64 5) := d2
  have c3 : ((w.alloc (.cells #[.int .i64 5, .int .i64 5, .bool no, .int .i64 vk, .int .i64 vi, .string vt, .string tb, .string nm, .slice p n c, .slice q n' c'] 30)).alloc (.cells #[.int .i64 0, .int .i64 0, .int .i64 0, .int .i64 0] 52)).cell? ⟨1, 23, none⟩ = some (.int .i64 0) := d3
  clear hE d0 d1 d2 d3
  go_enter Tryd.func22, Tryd.ntmps22
  go_wp2_with (go_at_call 34; refine (validOp_yes _ (by decide) (by decide) _).mono ?_; rintro e w' ⟨rfl, rfl⟩)
  exact bodyPost_ret (v := .agg #[.int .i64 4, .int .i64 5, .int .i64 5, .int .i64 0]) (by simp [results, Tryd.results22, go_sem]) rfl ⟨ret_bnd rfl, below_two _ _ _⟩
set_option maxHeartbeats 1000000 in
theorem binding_o6 (vk vi : Int) (no : Bool) (vt tb nm : ByteArray) (p q : Option Addr) (n c n' c' : Nat) (w : World) (hE : Env ls w) (hm : 1 ∈ ls) :
    Calls Tryd.prog 22 #[.agg #[.int .i64 5, .int .i64 6, .bool no, .int .i64 vk, .int .i64 vi, .string vt, .string tb, .string nm, .slice p n c, .slice q n' c']] w fun e w' => e = .returned (bndV 5 6) ∧ Below w.heap.size w w' := by
  obtain ⟨d0, d1, d2, d3⟩ := oper_cells hE hm 6 (by decide) (.cells #[.int .i64 5, .int .i64 6, .bool no, .int .i64 vk, .int .i64 vi, .string vt, .string tb, .string nm, .slice p n c, .slice q n' c'] 30) (.cells #[.int .i64 0, .int .i64 0, .int .i64 0, .int .i64 0] 52)
  have c0 : ((w.alloc (.cells #[.int .i64 5, .int .i64 6, .bool no, .int .i64 vk, .int .i64 vi, .string vt, .string tb, .string nm, .slice p n c, .slice q n' c'] 30)).alloc (.cells #[.int .i64 0, .int .i64 0, .int .i64 0, .int .i64 0] 52)).cell? ⟨1, 24, none⟩ = some (.int .i64 4) := d0
  have c1 : ((w.alloc (.cells #[.int .i64 5, .int .i64 6, .bool no, .int .i64 vk, .int .i64 vi, .string vt, .string tb, .string nm, .slice p n c, .slice q n' c'] 30)).alloc (.cells #[.int .i64 0, .int .i64 0, .int .i64 0, .int .i64 0] 52)).cell? ⟨1, 25, none⟩ = some (.int .i64 5) := d1
  have c2 : ((w.alloc (.cells #[.int .i64 5, .int .i64 6, .bool no, .int .i64 vk, .int .i64 vi, .string vt, .string tb, .string nm, .slice p n c, .slice q n' c'] 30)).alloc (.cells #[.int .i64 0, .int .i64 0, .int .i64 0, .int .i64 0] 52)).cell? ⟨1, 26, none⟩ = some (.int .i64 5) := d2
  have c3 : ((w.alloc (.cells #[.int .i64 5, .int .i64 6, .bool no, .int .i64 vk, .int .i64 vi, .string vt, .string tb, .string nm, .slice p n c, .slice q n' c'] 30)).alloc (.cells #[.int .i64 0, .int .i64 0, .int .i64 0, .int .i64 0] 52)).cell? ⟨1, 27, none⟩ = some (.int .i64 0) := d3
  clear hE d0 d1 d2 d3
  go_enter Tryd.func22, Tryd.ntmps22
  go_wp2_with (go_at_call 34; refine (validOp_yes _ (by decide) (by decide) _).mono ?_; rintro e w' ⟨rfl, rfl⟩)
  exact bodyPost_ret (v := .agg #[.int .i64 4, .int .i64 5, .int .i64 5, .int .i64 0]) (by simp [results, Tryd.results22, go_sem]) rfl ⟨ret_bnd rfl, below_two _ _ _⟩
set_option maxHeartbeats 1000000 in
theorem binding_o7 (vk vi : Int) (no : Bool) (vt tb nm : ByteArray) (p q : Option Addr) (n c n' c' : Nat) (w : World) (hE : Env ls w) (hm : 1 ∈ ls) :
    Calls Tryd.prog 22 #[.agg #[.int .i64 5, .int .i64 7, .bool no, .int .i64 vk, .int .i64 vi, .string vt, .string tb, .string nm, .slice p n c, .slice q n' c']] w fun e w' => e = .returned (bndV 5 7) ∧ Below w.heap.size w w' := by
  obtain ⟨d0, d1, d2, d3⟩ := oper_cells hE hm 7 (by decide) (.cells #[.int .i64 5, .int .i64 7, .bool no, .int .i64 vk, .int .i64 vi, .string vt, .string tb, .string nm, .slice p n c, .slice q n' c'] 30) (.cells #[.int .i64 0, .int .i64 0, .int .i64 0, .int .i64 0] 52)
  have c0 : ((w.alloc (.cells #[.int .i64 5, .int .i64 7, .bool no, .int .i64 vk, .int .i64 vi, .string vt, .string tb, .string nm, .slice p n c, .slice q n' c'] 30)).alloc (.cells #[.int .i64 0, .int .i64 0, .int .i64 0, .int .i64 0] 52)).cell? ⟨1, 28, none⟩ = some (.int .i64 4) := d0
  have c1 : ((w.alloc (.cells #[.int .i64 5, .int .i64 7, .bool no, .int .i64 vk, .int .i64 vi, .string vt, .string tb, .string nm, .slice p n c, .slice q n' c'] 30)).alloc (.cells #[.int .i64 0, .int .i64 0, .int .i64 0, .int .i64 0] 52)).cell? ⟨1, 29, none⟩ = some (.int .i64 5) := d1
  have c2 : ((w.alloc (.cells #[.int .i64 5, .int .i64 7, .bool no, .int .i64 vk, .int .i64 vi, .string vt, .string tb, .string nm, .slice p n c, .slice q n' c'] 30)).alloc (.cells #[.int .i64 0, .int .i64 0, .int .i64 0, .int .i64 0] 52)).cell? ⟨1, 30, none⟩ = some (.int .i64 5) := d2
  have c3 : ((w.alloc (.cells #[.int .i64 5, .int .i64 7, .bool no, .int .i64 vk, .int .i64 vi, .string vt, .string tb, .string nm, .slice p n c, .slice q n' c'] 30)).alloc (.cells #[.int .i64 0, .int .i64 0, .int .i64 0, .int .i64 0] 52)).cell? ⟨1, 31, none⟩ = some (.int .i64 0) := d3
  clear hE d0 d1 d2 d3
  go_enter Tryd.func22, Tryd.ntmps22
  go_wp2_with (go_at_call 34; refine (validOp_yes _ (by decide) (by decide) _).mono ?_; rintro e w' ⟨rfl, rfl⟩)
  exact bodyPost_ret (v := .agg #[.int .i64 4, .int .i64 5, .int .i64 5, .int .i64 0]) (by simp [results, Tryd.results22, go_sem]) rfl ⟨ret_bnd rfl, below_two _ _ _⟩
set_option maxHeartbeats 1000000 in
theorem binding_o8 (vk vi : Int) (no : Bool) (vt tb nm : ByteArray) (p q : Option Addr) (n c n' c' : Nat) (w : World) (hE : Env ls w) (hm : 1 ∈ ls) :
    Calls Tryd.prog 22 #[.agg #[.int .i64 5, .int .i64 8, .bool no, .int .i64 vk, .int .i64 vi, .string vt, .string tb, .string nm, .slice p n c, .slice q n' c']] w fun e w' => e = .returned (bndV 5 8) ∧ Below w.heap.size w w' := by
  obtain ⟨d0, d1, d2, d3⟩ := oper_cells hE hm 8 (by decide) (.cells #[.int .i64 5, .int .i64 8, .bool no, .int .i64 vk, .int .i64 vi, .string vt, .string tb, .string nm, .slice p n c, .slice q n' c'] 30) (.cells #[.int .i64 0, .int .i64 0, .int .i64 0, .int .i64 0] 52)
  have c0 : ((w.alloc (.cells #[.int .i64 5, .int .i64 8, .bool no, .int .i64 vk, .int .i64 vi, .string vt, .string tb, .string nm, .slice p n c, .slice q n' c'] 30)).alloc (.cells #[.int .i64 0, .int .i64 0, .int .i64 0, .int .i64 0] 52)).cell? ⟨1, 32, none⟩ = some (.int .i64 4) := d0
  have c1 : ((w.alloc (.cells #[.int .i64 5, .int .i64 8, .bool no, .int .i64 vk, .int .i64 vi, .string vt, .string tb, .string nm, .slice p n c, .slice q n' c'] 30)).alloc (.cells #[.int .i64 0, .int .i64 0, .int .i64 0, .int .i64 0] 52)).cell? ⟨1, 33, none⟩ = some (.int .i64 5) := d1
  have c2 : ((w.alloc (.cells #[.int .i64 5, .int .i64 8, .bool no, .int .i64 vk, .int .i64 vi, .string vt, .string tb, .string nm, .slice p n c, .slice q n' c'] 30)).alloc (.cells #[.int .i64 0, .int .i64 0, .int .i64 0, .int .i64 0] 52)).cell? ⟨1, 34, none⟩ = some (.int .i64 5) := d2
  have c3 : ((w.alloc (.cells #[.int .i64 5, .int .i64 8, .bool no, .int .i64 vk, .int .i64 vi, .string vt, .string tb, .string nm, .slice p n c, .slice q n' c'] 30)).alloc (.cells #[.int .i64 0, .int .i64 0, .int .i64 0, .int .i64 0] 52)).cell? ⟨1, 35, none⟩ = some (.int .i64 0) := d3
  clear hE d0 d1 d2 d3
  go_enter Tryd.func22, Tryd.ntmps22
  go_wp2_with (go_at_call 34; refine (validOp_yes _ (by decide) (by decide) _).mono ?_; rintro e w' ⟨rfl, rfl⟩)
  exact bodyPost_ret (v := .agg #[.int .i64 4, .int .i64 5, .int .i64 5, .int .i64 0]) (by simp [results, Tryd.results22, go_sem]) rfl ⟨ret_bnd rfl, below_two _ _ _⟩
set_option maxHeartbeats 1000000 in
theorem binding_o9 (vk vi : Int) (no : Bool) (vt tb nm : ByteArray) (p q : Option Addr) (n c n' c' : Nat) (w : World) (hE : Env ls w) (hm : 1 ∈ ls) :
    Calls Tryd.prog 22 #[.agg #[.int .i64 5, .int .i64 9, .bool no, .int .i64 vk, .int .i64 vi, .string vt, .string tb, .string nm, .slice p n c, .slice q n' c']] w fun e w' => e = .returned (bndV 5 9) ∧ Below w.heap.size w w' := by
  obtain ⟨d0, d1, d2, d3⟩ := oper_cells hE hm 9 (by decide) (.cells #[.int .i64 5, .int .i64 9, .bool no, .int .i64 vk, .int .i64 vi, .string vt, .string tb, .string nm, .slice p n c, .slice q n' c'] 30) (.cells #[.int .i64 0, .int .i64 0, .int .i64 0, .int .i64 0] 52)
  have c0 : ((w.alloc (.cells #[.int .i64 5, .int .i64 9, .bool no, .int .i64 vk, .int .i64 vi, .string vt, .string tb, .string nm, .slice p n c, .slice q n' c'] 30)).alloc (.cells #[.int .i64 0, .int .i64 0, .int .i64 0, .int .i64 0] 52)).cell? ⟨1, 36, none⟩ = some (.int .i64 5) := d0
  have c1 : ((w.alloc (.cells #[.int .i64 5, .int .i64 9, .bool no, .int .i64 vk, .int .i64 vi, .string vt, .string tb, .string nm, .slice p n c, .slice q n' c'] 30)).alloc (.cells #[.int .i64 0, .int .i64 0, .int .i64 0, .int .i64 0] 52)).cell? ⟨1, 37, none⟩ = some (.int .i64 5) := d1
  have c2 : ((w.alloc (.cells #[.int .i64 5, .int .i64 9, .bool no, .int .i64 vk, .int .i64 vi, .string vt, .string tb, .string nm, .slice p n c, .slice q n' c'] 30)).alloc (.cells #[.int .i64 0, .int .i64 0, .int .i64 0, .int .i64 0] 52)).cell? ⟨1, 38, none⟩ = some (.int .i64 6) := d2
  have c3 : ((w.alloc (.cells #[.int .i64 5, .int .i64 9, .bool no, .int .i64 vk, .int .i64 vi, .string vt, .string tb, .string nm, .slice p n c, .slice q n' c'] 30)).alloc (.cells #[.int .i64 0, .int .i64 0, .int .i64 0, .int .i64 0] 52)).cell? ⟨1, 39, none⟩ = some (.int .i64 0) := d3
  clear hE d0 d1 d2 d3
  go_enter Tryd.func22, Tryd.ntmps22
  go_wp2_with (go_at_call 34; refine (validOp_yes _ (by decide) (by decide) _).mono ?_; rintro e w' ⟨rfl, rfl⟩)
  exact bodyPost_ret (v := .agg #[.int .i64 5, .int .i64 5, .int .i64 6, .int .i64 0]) (by simp [results, Tryd.results22, go_sem]) rfl ⟨ret_bnd rfl, below_two _ _ _⟩
set_option maxHeartbeats 1000000 in
theorem binding_o10 (vk vi : Int) (no : Bool) (vt tb nm : ByteArray) (p q : Option Addr) (n c n' c' : Nat) (w : World) (hE : Env ls w) (hm : 1 ∈ ls) :
    Calls Tryd.prog 22 #[.agg #[.int .i64 5, .int .i64 10, .bool no, .int .i64 vk, .int .i64 vi, .string vt, .string tb, .string nm, .slice p n c, .slice q n' c']] w fun e w' => e = .returned (bndV 5 10) ∧ Below w.heap.size w w' := by
  obtain ⟨d0, d1, d2, d3⟩ := oper_cells hE hm 10 (by decide) (.cells #[.int .i64 5, .int .i64 10, .bool no, .int .i64 vk, .int .i64 vi, .string vt, .string tb, .string nm, .slice p n c, .slice q n' c'] 30) (.cells #[.int .i64 0, .int .i64 0, .int .i64 0, .int .i64 0] 52)
  have c0 : ((w.alloc (.cells #[.int .i64 5, .int .i64 10, .bool no, .int .i64 vk, .int .i64 vi, .string vt, .string tb, .string nm, .slice p n c, .slice q n' c'] 30)).alloc (.cells #[.int .i64 0, .int .i64 0, .int .i64 0, .int .i64 0] 52)).cell? ⟨1, 40, none⟩ = some (.int .i64 5) := d0
  have c1 : ((w.alloc (.cells #[.int .i64 5, .int .i64 10, .bool no, .int .i64 vk, .int .i64 vi, .string vt, .string tb, .string nm, .slice p n c, .slice q n' c'] 30)).alloc (.cells #[.int .i64 0, .int .i64 0, .int .i64 0, .int .i64 0] 52)).cell? ⟨1, 41, none⟩ = some (.int .i64 5) := d1
  have c2 : ((w.alloc (.cells #[.int .i64 5, .int .i64 10, .bool no, .int .i64 vk, .int .i64 vi, .string vt, .string tb, .string nm, .slice p n c, .slice q n' c'] 30)).alloc (.cells #[.int .i64 0, .int .i64 0, .int .i64 0, .int .i64 0] 52)).cell? ⟨1, 42, none⟩ = some (.int .i64 6) := d2
  have c3 : ((w.alloc (.cells #[.int .i64 5, .int .i64 10, .bool no, .int .i64 vk, .int .i64 vi, .string vt, .string tb, .string nm, .slice p n c, .slice q n' c'] 30)).alloc (.cells #[.int .i64 0, .int .i64 0, .int .i64 0, .int .i64 0] 52)).cell? ⟨1, 43, none⟩ = some (.int .i64 0) := d3
  clear hE d0 d1 d2 d3
  go_enter Tryd.func22, Tryd.ntmps22
  go_wp2_with (go_at_call 34; refine (validOp_yes _ (by decide) (by decide) _).mono ?_; rintro e w' ⟨rfl, rfl⟩)
  exact bodyPost_ret (v := .agg #[.int .i64 5, .int .i64 5, .int .i64 6, .int .i64 0]) (by simp [results, Tryd.results22, go_sem]) rfl ⟨ret_bnd rfl, below_two _ _ _⟩
set_option maxHeartbeats 1000000 in
theorem binding_o11 (vk vi : Int) (no : Bool) (vt tb nm : ByteArray) (p q : Option Addr) (n c n' c' : Nat) (w : World) (hE : Env ls w) (hm : 1 ∈ ls) :
    Calls Tryd.prog 22 #[.agg #[.int .i64 5, .int .i64 11, .bool no, .int .i64 vk, .int .i64 vi, .string vt, .string tb, .string nm, .slice p n c, .slice q n' c']] w fun e w' => e = .returned (bndV 5 11) ∧ Below w.heap.size w w' := by
  obtain ⟨d0, d1, d2, d3⟩ := oper_cells hE hm 11 (by decide) (.cells #[.int .i64 5, .int .i64 11, .bool no, .int .i64 vk, .int .i64 vi, .string vt, .string tb, .string nm, .slice p n c, .slice q n' c'] 30) (.cells #[.int .i64 0, .int .i64 0, .int .i64 0, .int .i64 0] 52)
  have c0 : ((w.alloc (.cells #[.int .i64 5, .int .i64 11, .bool no, .int .i64 vk, .int .i64 vi, .string vt, .string tb, .string nm, .slice p n c, .slice q n' c'] 30)).alloc (.cells #[.int .i64 0, .int .i64 0, .int .i64 0, .int .i64 0] 52)).cell? ⟨1, 44, none⟩ = some (.int .i64 6) := d0
  have c1 : ((w.alloc (.cells #[.int .i64 5, .int .i64 11, .bool no, .int .i64 vk, .int .i64 vi, .string vt, .string tb, .string nm, .slice p n c, .slice q n' c'] 30)).alloc (.cells #[.int .i64 0, .int .i64 0, .int .i64 0, .int .i64 0] 52)).cell? ⟨1, 45, none⟩ = some (.int .i64 6) := d1
  have c2 : ((w.alloc (.cells #[.int .i64 5, .int .i64 11, .bool no, .int .i64 vk, .int .i64 vi, .string vt, .string tb, .string nm, .slice p n c, .slice q n' c'] 30)).alloc (.cells #[.int .i64 0, .int .i64 0, .int .i64 0, .int .i64 0] 52)).cell? ⟨1, 46, none⟩ = some (.int .i64 7) := d2
  have c3 : ((w.alloc (.cells #[.int .i64 5, .int .i64 11, .bool no, .int .i64 vk, .int .i64 vi, .string vt, .string tb, .string nm, .slice p n c, .slice q n' c'] 30)).alloc (.cells #[.int .i64 0, .int .i64 0, .int .i64 0, .int .i64 0] 52)).cell? ⟨1, 47, none⟩ = some (.int .i64 0) := d3
  clear hE d0 d1 d2 d3
  go_enter Tryd.func22, Tryd.ntmps22
  go_wp2_with (go_at_call 34; refine (validOp_yes _ (by decide) (by decide) _).mono ?_; rintro e w' ⟨rfl, rfl⟩)
  exact bodyPost_ret (v := .agg #[.int .i64 6, .int .i64 6, .int .i64 7, .int .i64 0]) (by simp [results, Tryd.results22, go_sem]) rfl ⟨ret_bnd rfl, below_two _ _ _⟩
set_option maxHeartbeats 1000000 in
theorem binding_o12 (vk vi : Int) (no : Bool) (vt tb nm : ByteArray) (p q : Option Addr) (n c n' c' : Nat) (w : World) (hE : Env ls w) (hm : 1 ∈ ls) :
    Calls Tryd.prog 22 #[.agg #[.int .i64 5, .int .i64 12, .bool no, .int .i64 vk, .int .i64 vi, .string vt, .string tb, .string nm, .slice p n c, .slice q n' c']] w fun e w' => e = .returned (bndV 5 12) ∧ Below w.heap.size w w' := by
  obtain ⟨d0, d1, d2, d3⟩ := oper_cells hE hm 12 (by decide) (.cells #[.int .i64 5, .int .i64 12, .bool no, .int .i64 vk, .int .i64 vi, .string vt, .string tb, .string nm, .slice p n c, .slice q n' c'] 30) (.cells #[.int .i64 0, .int .i64 0, .int .i64 0, .int .i64 0] 52)
  have c0 : ((w.alloc (.cells #[.int .i64 5, .int .i64 12, .bool no, .int .i64 vk, .int .i64 vi, .string vt, .string tb, .string nm, .slice p n c, .slice q n' c'] 30)).alloc (.cells #[.int .i64 0, .int .i64 0, .int .i64 0, .int .i64 0] 52)).cell? ⟨1, 48, none⟩ = some (.int .i64 6) := d0
  have c1 : ((w.alloc (.cells #[.int .i64 5, .int .i64 12, .bool no, .int .i64 vk, .int .i64 vi, .string vt, .string tb, .string nm, .slice p n c, .slice q n' c'] 30)).alloc (.cells #[.int .i64 0, .int .i64 0, .int .i64 0, .int .i64 0] 52)).cell? ⟨1, 49, none⟩ = some (.int .i64 6) := d1
  have c2 : ((w.alloc (.cells #[.int .i64 5, .int .i64 12, .bool no, .int .i64 vk, .int .i64 vi, .string vt, .string tb, .string nm, .slice p n c, .slice q n' c'] 30)).alloc (.cells #[.int .i64 0, .int .i64 0, .int .i64 0, .int .i64 0] 52)).cell? ⟨1, 50, none⟩ = some (.int .i64 7) := d2
  have c3 : ((w.alloc (.cells #[.int .i64 5, .int .i64 12, .bool no, .int .i64 vk, .int .i64 vi, .string vt, .string tb, .string nm, .slice p n c, .slice q n' c'] 30)).alloc (.cells #[.int .i64 0, .int .i64 0, .int .i64 0, .int .i64 0] 52)).cell? ⟨1, 51, none⟩ = some (.int .i64 0) := d3
  clear hE d0 d1 d2 d3
  go_enter Tryd.func22, Tryd.ntmps22
  go_wp2_with (go_at_call 34; refine (validOp_yes _ (by decide) (by decide) _).mono ?_; rintro e w' ⟨rfl, rfl⟩)
  exact bodyPost_ret (v := .agg #[.int .i64 6, .int .i64 6, .int .i64 7, .int .i64 0]) (by simp [results, Tryd.results22, go_sem]) rfl ⟨ret_bnd rfl, below_two _ _ _⟩
set_option maxHeartbeats 1000000 in
theorem binding_o13 (vk vi : Int) (no : Bool) (vt tb nm : ByteArray) (p q : Option Addr) (n c n' c' : Nat) (w : World) (hE : Env ls w) (hm : 1 ∈ ls) :
    Calls Tryd.prog 22 #[.agg #[.int .i64 5, .int .i64 13, .bool no, .int .i64 vk, .int .i64 vi, .string vt, .string tb, .string nm, .slice p n c, .slice q n' c']] w fun e w' => e = .returned (bndV 5 13) ∧ Below w.heap.size w w' := by
  obtain ⟨d0, d1, d2, d3⟩ := oper_cells hE hm 13 (by decide) (.cells #[.int .i64 5, .int .i64 13, .bool no, .int .i64 vk, .int .i64 vi, .string vt, .string tb, .string nm, .slice p n c, .slice q n' c'] 30) (.cells #[.int .i64 0, .int .i64 0, .int .i64 0, .int .i64 0] 52)
  have c0 : ((w.alloc (.cells #[.int .i64 5, .int .i64 13, .bool no, .int .i64 vk, .int .i64 vi, .string vt, .string tb, .string nm, .slice p n c, .slice q n' c'] 30)).alloc (.cells #[.int .i64 0, .int .i64 0, .int .i64 0, .int .i64 0] 52)).cell? ⟨1, 52, none⟩ = some (.int .i64 6) := d0
  have c1 : ((w.alloc (.cells #[.int .i64 5, .int .i64 13, .bool no, .int .i64 vk, .int .i64 vi, .string vt, .string tb, .string nm, .slice p n c, .slice q n' c'] 30)).alloc (.cells #[.int .i64 0, .int .i64 0, .int .i64 0, .int .i64 0] 52)).cell? ⟨1, 53, none⟩ = some (.int .i64 6) := d1
  have c2 : ((w.alloc (.cells #[.int .i64 5, .int .i64 13, .bool no, .int .i64 vk, .int .i64 vi, .string vt, .string tb, .string nm, .slice p n c, .slice q n' c'] 30)).alloc (.cells #[.int .i64 0, .int .i64 0, .int .i64 0, .int .i64 0] 52)).cell? ⟨1, 54, none⟩ = some (.int .i64 7) := d2
  have c3 : ((w.alloc (.cells #[.int .i64 5, .int .i64 13, .bool no, .int .i64 vk, .int .i64 vi, .string vt, .string tb, .string nm, .slice p n c, .slice q n' c'] 30)).alloc (.cells #[.int .i64 0, .int .i64 0, .int .i64 0, .int .i64 0] 52)).cell? ⟨1, 55, none⟩ = some (.int .i64 0) := d3
  clear hE d0 d1 d2 d3
  go_enter Tryd.func22, Tryd.ntmps22
  go_wp2_with (go_at_call 34; refine (validOp_yes _ (by decide) (by decide) _).mono ?_; rintro e w' ⟨rfl, rfl⟩)
  exact bodyPost_ret (v := .agg #[.int .i64 6, .int .i64 6, .int .i64 7, .int .i64 0]) (by simp [results, Tryd.results22, go_sem]) rfl ⟨ret_bnd rfl, below_two _ _ _⟩
set_option maxHeartbeats 1000000 in
theorem binding_k3 (op : Int) (vk vi : Int) (no : Bool) (vt tb nm : ByteArray) (p q : Option Addr) (n c n' c' : Nat) (w : World) :
    Calls Tryd.prog 22 #[.agg #[.int .i64 3, .int .i64 op, .bool no, .int .i64 vk, .int .i64 vi, .string vt, .string tb, .string nm, .slice p n c, .slice q n' c']] w fun e w' => e = .returned (bndV 3 op) ∧ Below w.heap.size w w' := by
  go_enter Tryd.func22, Tryd.ntmps22
  go_wp2
  exact bodyPost_ret (v := .agg #[.int .i64 3, .int .i64 3, .int .i64 0, .int .i64 0]) (by simp [results, Tryd.results22, go_sem]) rfl ⟨ret_bnd rfl, below_two _ _ _⟩
set_option maxHeartbeats 1000000 in
theorem binding_k4 (op : Int) (vk vi : Int) (no : Bool) (vt tb nm : ByteArray) (p q : Option Addr) (n c n' c' : Nat) (w : World) :
    Calls Tryd.prog 22 #[.agg #[.int .i64 4, .int .i64 op, .bool no, .int .i64 vk, .int .i64 vi, .string vt, .string tb, .string nm, .slice p n c, .slice q n' c']] w fun e w' => e = .returned (bndV 4 op) ∧ Below w.heap.size w w' := by
  go_enter Tryd.func22, Tryd.ntmps22
  go_wp2
  exact bodyPost_ret (v := .agg #[.int .i64 7, .int .i64 7, .int .i64 0, .int .i64 0]) (by simp [results, Tryd.results22, go_sem]) rfl ⟨ret_bnd rfl, below_two _ _ _⟩
set_option maxHeartbeats 1000000 in
theorem binding_k6 (op : Int) (vk vi : Int) (no : Bool) (vt tb nm : ByteArray) (p q : Option Addr) (n c n' c' : Nat) (w : World) :
    Calls Tryd.prog 22 #[.agg #[.int .i64 6, .int .i64 op, .bool no, .int .i64 vk, .int .i64 vi, .string vt, .string tb, .string nm, .slice p n c, .slice q n' c']] w fun e w' => e = .returned (bndV 6 op) ∧ Below w.heap.size w w' := by
  go_enter Tryd.func22, Tryd.ntmps22
  go_wp2
  exact bodyPost_ret (v := .agg #[.int .i64 4, .int .i64 5, .int .i64 0, .int .i64 0]) (by simp [results, Tryd.results22, go_sem]) rfl ⟨ret_bnd rfl, below_two _ _ _⟩
set_option maxHeartbeats 1000000 in
theorem binding_k7 (op : Int) (vk vi : Int) (no : Bool) (vt tb nm : ByteArray) (p q : Option Addr) (n c n' c' : Nat) (w : World) :
    Calls Tryd.prog 22 #[.agg #[.int .i64 7, .int .i64 op, .bool no, .int .i64 vk, .int .i64 vi, .string vt, .string tb, .string nm, .slice p n c, .slice q n' c']] w fun e w' => e = .returned (bndV 7 op) ∧ Below w.heap.size w w' := by
  go_enter Tryd.func22, Tryd.ntmps22
  go_wp2
  exact bodyPost_ret (v := .agg #[.int .i64 4, .int .i64 5, .int .i64 5, .int .i64 5]) (by simp [results, Tryd.results22, go_sem]) rfl ⟨ret_bnd rfl, below_two _ _ _⟩
set_option maxHeartbeats 1000000 in
theorem binding_bad (op : Int) (h : op < 1 ∨ 13 < op) (vk vi : Int) (no : Bool) (vt tb nm : ByteArray) (p q : Option Addr) (n c n' c' : Nat) (w : World) :
    Calls Tryd.prog 22 #[.agg #[.int .i64 5, .int .i64 op, .bool no, .int .i64 vk, .int .i64 vi, .string vt, .string tb, .string nm, .slice p n c, .slice q n' c']] w fun e w' => e = .returned (bndV 5 op) ∧ Below w.heap.size w w' := by
  have h0 : (8, 0, 0, 0) = (prec 5 op, plA 5 op, plB 5 op, plC 5) := by
    have e1 : ¬ op = 1 := by omega
    have e2 : ¬ op = 2 := by omega
    have e3 : ¬ (3 ≤ op ∧ op ≤ 8) := by omega
    have e4 : ¬ (op = 9 ∨ op = 10) := by omega
    have e5 : ¬ (11 ≤ op ∧ op ≤ 13) := by omega
    have e6 : ¬ (3 ≤ op ∧ op ≤ 10) := by omega
    have e7 : ¬ (9 ≤ op ∧ op ≤ 10) := by omega
    simp [prec, plA, plB, plC, e1, e2, e3, e4, e5, e6, e7]
  have H0 := Lib.hid h0
  clear h0
  go_enter Tryd.func22, Tryd.ntmps22
  go_wp2_with (go_at_call 34; refine (validOp_no _ h _).mono ?_; rintro e w' ⟨rfl, rfl⟩)
  exact bodyPost_ret (v := .agg #[.int .i64 8, .int .i64 0, .int .i64 0, .int .i64 0]) (by simp [results, Tryd.results22, go_sem]) rfl ⟨ret_bnd H0.out, below_two _ _ _⟩
set_option maxHeartbeats 1000000 in
theorem binding_other (k op : Int) (h3 : k ≠ 3) (h4 : k ≠ 4) (h5 : k ≠ 5) (h6 : k ≠ 6) (h7 : k ≠ 7) (vk vi : Int) (no : Bool) (vt tb nm : ByteArray) (p q : Option Addr) (n c n' c' : Nat) (w : World) :
    Calls Tryd.prog 22 #[.agg #[.int .i64 k, .int .i64 op, .bool no, .int .i64 vk, .int .i64 vi, .string vt, .string tb, .string nm, .slice p n c, .slice q n' c']] w fun e w' => e = .returned (bndV k op) ∧ Below w.heap.size w w' := by
  have h0 : (8, 0, 0, 0) = (prec k op, plA k op, plB k op, plC k) := by simp [prec, plA, plB, plC, h3, h4, h5, h6, h7]
  have H0 := Lib.hid h0
  have e3 : (k == 3) = false := beq_eq_false_iff_ne.2 h3
  have e4 : (k == 4) = false := beq_eq_false_iff_ne.2 h4
  have e5 : (k == 5) = false := beq_eq_false_iff_ne.2 h5
  have e6 : (k == 6) = false := beq_eq_false_iff_ne.2 h6
  have e7 : (k == 7) = false := beq_eq_false_iff_ne.2 h7
  clear h0 h3 h4 h5 h6 h7
  go_enter Tryd.func22, Tryd.ntmps22
  go_wp2
  exact bodyPost_ret (v := .agg #[.int .i64 8, .int .i64 0, .int .i64 0, .int .i64 0]) (by simp [results, Tryd.results22, go_sem]) rfl ⟨ret_bnd H0.out, below_two _ _ _⟩
theorem binding_any (k op : Int) (vk vi : Int) (no : Bool) (vt tb nm : ByteArray) (p q : Option Addr) (n c n' c' : Nat) (w : World) (hE : Env ls w) (hm : 1 ∈ ls) :
    Calls Tryd.prog 22 #[.agg #[.int .i64 k, .int .i64 op, .bool no, .int .i64 vk, .int .i64 vi, .string vt, .string tb, .string nm, .slice p n c, .slice q n' c']] w fun e w' => e = .returned (bndV k op) ∧ Below w.heap.size w w' := by
  by_cases h3 : k = 3
  · subst h3; exact binding_k3 op vk vi no vt tb nm p q n c n' c' w
  by_cases h4 : k = 4
  · subst h4; exact binding_k4 op vk vi no vt tb nm p q n c n' c' w
  by_cases h6 : k = 6
  · subst h6; exact binding_k6 op vk vi no vt tb nm p q n c n' c' w
  by_cases h7 : k = 7
  · subst h7; exact binding_k7 op vk vi no vt tb nm p q n c n' c' w
  by_cases h5 : k = 5
  · subst h5
    by_cases h : op < 1 ∨ 13 < op
    · exact binding_bad op h vk vi no vt tb nm p q n c n' c' w
    · have ho : op = 1 ∨ op = 2 ∨ op = 3 ∨ op = 4 ∨ op = 5 ∨ op = 6 ∨ op = 7 ∨ op = 8 ∨ op = 9 ∨ op = 10 ∨ op = 11 ∨ op = 12 ∨ op = 13 := by omega
      rcases ho with rfl | rfl | rfl | rfl | rfl | rfl | rfl | rfl | rfl | rfl | rfl | rfl | rfl
      · exact binding_o1 vk vi no vt tb nm p q n c n' c' w hE hm
      · exact binding_o2 vk vi no vt tb nm p q n c n' c' w hE hm
      · exact binding_o3 vk vi no vt tb nm p q n c n' c' w hE hm
      · exact binding_o4 vk vi no vt tb nm p q n c n' c' w hE hm
      · exact binding_o5 vk vi no vt tb nm p q n c n' c' w hE hm
      · exact binding_o6 vk vi no vt tb nm p q n c n' c' w hE hm
      · exact binding_o7 vk vi no vt tb nm p q n c n' c' w hE hm
      · exact binding_o8 vk vi no vt tb nm p q n c n' c' w hE hm
      · exact binding_o9 vk vi no vt tb nm p q n c n' c' w hE hm
      · exact binding_o10 vk vi no vt tb nm p q n c n' c' w hE hm
      · exact binding_o11 vk vi no vt tb nm p q n c n' c' w hE hm
      · exact binding_o12 vk vi no vt tb nm p q n c n' c' w hE hm
      · exact binding_o13 vk vi no vt tb nm p q n c n' c' w hE hm
  exact binding_other k op h3 h4 h5 h6 h7 vk vi no vt tb nm p q n c n' c' w
--ENDCASES
end Go.Proofs.YtdlehlbahkikgaaDoor
/-
  A drawn region with guards, whose calls make memory: it is walked once, in the text's order, over the worlds in which nothing old is turned.
-/
namespace Go.Proofs.YtdlehlbahkikgaaDoor
set_option maxRecDepth 100000
open Go.RowKit

/-- How far such a world is from W: its draws, the blocks behind. -/
structure LowBy where
  d : Nat
  os : Array Obj
  deriving Inhabited
def lowW (W : World) (d : Nat) (os : Array Obj) : World := { W with drawn := d, heap := W.heap ++ os }
theorem lowW_low (W : World) (d : Nat) (os : Array Obj) : Below W.heap.size W (lowW W d os) :=
  ⟨rfl, rfl, rfl, by show W.heap.size ≤ (W.heap ++ os).size; simp, fun k hk => by show (W.heap ++ os)[k]? = _; rw [Array.getElem?_append_left hk]⟩
theorem low_eq {W w' : World} (h : Below W.heap.size W w') : ∃ p : LowBy, w' = lowW W p.d p.os := by
  refine ⟨⟨w'.drawn, w'.heap.extract W.heap.size w'.heap.size⟩, ?_⟩
  have hh : W.heap ++ w'.heap.extract W.heap.size w'.heap.size = w'.heap := by
    apply Array.ext_getElem?
    intro i
    have hs := h.size
    by_cases hi : i < W.heap.size
    · rw [Array.getElem?_append_left hi, h.block i hi]
    · rw [Array.getElem?_append_right (by omega), Array.getElem?_extract]
      by_cases hj : i < w'.heap.size
      · rw [if_pos (by omega), show W.heap.size + (i - W.heap.size) = i by omega]
      · rw [if_neg (by omega), Array.getElem?_eq_none (by omega)]
  have h1 := h.os
  have h2 := h.tape
  have h3 := h.output
  cases W
  cases w'
  simp only [lowW] at *
  subst h1 h2 h3
  rw [hh]
theorem lowW_cell {W : World} {a : Addr} {v : Value} (hb : a.block < W.heap.size) (h : W.cell? a = some v) (d : Nat) (os : Array Obj) : (lowW W d os).cell? a = some v := by rw [(lowW_low W d os).cell hb]; exact h
/-- The walk over the class; it does not unfold by itself (a chain of operations that are not wanted is unfolded at every look). -/
@[irreducible] def wq (P : Program) (ops : Array Oper) (C : World → Prop) (Q : Act → Prop) (l : List Oper) (a : Act) : Prop := wpQuiet P ops C Q l a
theorem wq_nil {P : Program} {ops : Array Oper} {C : World → Prop} {Q : Act → Prop} {a : Act} (h : Q a) : wq P ops C Q [] a := by unfold wq; exact h
theorem wq_step {P : Program} {ops : Array Oper} {C : World → Prop} {Q : Act → Prop} {a : Act} {o : Oper} {rest : List Oper}
    (h : ∀ K : Act → Prop, (∀ a, wq P ops C Q rest a → K a) → if Region.wanted o (yielded ops a.tmps) then o.quiet P a C K else K (a.put o.dst undef)) : wq P ops C Q (o :: rest) a := by
  unfold wq at h ⊢
  exact wpQuiet_step h
theorem wp_region_low {P : Program} {id : Nat} {Q : Exit → Act → World → Prop} {a : Act} {w : World} {l : List Oper} (hm : P.follows .mixedOrders = true) (hB : Region.lexB .any l.toArray = true)
    (h : wq P l.toArray (fun w' => ∃ p : LowBy, w' = lowW w p.d p.os) (fun a' => ∀ w', (∃ p : LowBy, w' = lowW w p.d p.os) → Q .normal a' w') l a) : (Code.region id l.toArray true).wp P Q a w := by
  unfold wq at h
  exact wp_region_quiet (C := fun w' => ∃ p : LowBy, w' = lowW w p.d p.os) hm hB ⟨⟨w.drawn + 1, #[]⟩, by simp [lowW]⟩ (by simpa using h)
/-- A callee's contract, met in a world of the class. -/
theorem Calls.low_of {P : Program} {f : FuncId} {args : Array Value} {W : World} {d : Nat} {os : Array Obj} {v : Value}
    (h : Calls P f args (lowW W d os) fun e w' => e = .returned v ∧ Below (lowW W d os).heap.size (lowW W d os) w') : Calls P f args (lowW W d os) fun e w'' => e = .returned v ∧ ∃ p : LowBy, w'' = lowW W p.d p.os :=
  h.mono fun _ _ ⟨he, hb⟩ => ⟨he, low_eq ((lowW_low W d os).trans (hb.mono (lowW_low W d os).size))⟩
end Go.Proofs.YtdlehlbahkikgaaDoor
