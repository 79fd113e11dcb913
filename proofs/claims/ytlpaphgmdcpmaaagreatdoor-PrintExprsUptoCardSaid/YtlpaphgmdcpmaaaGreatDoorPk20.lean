/-
  Several texts in one.
-/
import Derived.Test.YtlpaphgmdcpmaaaGreatDoorPk19
import Derived.Test.YtlpaphgmdcpmaaaGreatDoorPk01
import Derived.Test.YtlpaphgmdcpmaaaGreatDoorPk15
import Derived.Test.YtlpaphgmdcpmaaaGreatDoorPk03
import Derived.Test.YtlpaphgmdcpmaaaGreatDoorPk06
import Derived.OwnWalk
import Derived.Laws.AppendOwn
/-
  An argument that is an expression, opened: a tree in memory whose depth and whose nodes are at most the datum's bulk.
-/
namespace Go.Proofs.YtlpaphgmdcpmaaaGreatDoor
set_option maxRecDepth 100000
open Go.ChangeShapes Go.WideShapes Go.ChangeAt Go.RowKit

theorem sumE_le (n : Ex → Nat) : ∀ (l : List Ex) (bs : List Nat), l.length = bs.length → (∀ i (h : i < l.length) (h2 : i < bs.length), n l[i] ≤ bs[i]) → sumE n l ≤ bs.sum
  | [], _, _, _ => Nat.zero_le _
  | e :: l, [], h, _ => by simp at h
  | e :: l, b :: bs, h, hP => by
    have h1 := hP 0 (by simp) (by simp)
    have h2 := sumE_le n l bs (by simpa using h) fun i hi hi2 => hP (i + 1) (by simpa using hi) (by simpa using hi2)
    simp only [List.getElem_cons_zero] at h1
    show n e + sumE n l ≤ _
    rw [List.sum_cons]; omega
theorem sumU_le (n : Qu → Nat) : ∀ (l : List Qu) (bs : List Nat), l.length = bs.length → (∀ i (h : i < l.length) (h2 : i < bs.length), n l[i] ≤ bs[i]) → sumU n l ≤ bs.sum
  | [], _, _, _ => Nat.zero_le _
  | e :: l, [], h, _ => by simp at h
  | e :: l, b :: bs, h, hP => by
    have h1 := hP 0 (by simp) (by simp)
    have h2 := sumU_le n l bs (by simpa using h) fun i hi hi2 => hP (i + 1) (by simpa using hi) (by simpa using hi2)
    simp only [List.getElem_cons_zero] at h1
    show n e + sumU n l ≤ _
    rw [List.sum_cons]; omega
section
variable {H : Type} {enc : TypeId × Value → H} {W : World} {v : Value} {d : DataW H} {p : List MemPlace}
theorem bulk_all (l : List (DataW H × List MemPlace)) : Rows.uptoBulkAll (l.map (·.1)) = (l.map fun x => Rows.uptoBulk x.1).sum := by
  induction l with
  | nil => rfl
  | cons a l ih => simp only [List.map_cons, Rows.uptoBulkAll, List.sum_cons, ih]
theorem bulk_two {l : List (DataW H × List MemPlace)} {x y : DataW H × List MemPlace} : ∀ {i j : Nat}, i < j → l[i]? = some x → l[j]? = some y → Rows.uptoBulk x.1 + Rows.uptoBulk y.1 ≤ Rows.uptoBulkAll (l.map (·.1)) := by
  induction l with
  | nil => intro i j _ h; simp at h
  | cons a l ih =>
    intro i j hij h1 h2
    rw [List.map_cons, Rows.uptoBulkAll]
    cases j with
    | zero => omega
    | succ j =>
      rw [List.getElem?_cons_succ] at h2
      cases i with
      | zero =>
        rw [List.getElem?_cons_zero] at h1
        obtain rfl := Option.some.inj h1
        have := bulk_mem (List.mem_map_of_mem (f := (·.1)) (List.mem_of_getElem? h2))
        omega
      | succ i =>
        rw [List.getElem?_cons_succ] at h1
        have := ih (by omega) h1 h2
        omega
theorem bulk_pos : ∀ d : DataW H, 1 ≤ Rows.uptoBulk d
  | .lit (.string _) => by simp only [Rows.uptoBulk]; omega
  | .lit (.int ..) | .lit (.bool _) | .lit (.float ..) | .lit .nil => by simp only [Rows.uptoBulk]; omega
  | .nil | .ptr _ | .slice .. | .agg _ | .iface .. | .map _ | .held _ => by simp only [Rows.uptoBulk]; omega
/-- A slice whose elements have m cells, each read as something. -/
theorem open_listN {α : Type} {e t : TypeId} {f m : Nat} {v : Value} {y : DataW H × List MemPlace} {Q : α → List Value → Nat → Prop} (hu : Tryz.prog.underlying t = some (.slice e)) (hc : Tryz.prog.cellsOf e = m) (hm : 0 < m)
    (hQ : ∀ f' cs y', f' < f → Rows.uptoBulk y'.1 < Rows.uptoBulk y.1 → DataW.trod enc Tryz.prog W 0 (fun _ => true) true f' e cs = some y' → ∃ x, Q x cs (Rows.uptoBulk y'.1)) (h : DataW.trod enc Tryz.prog W 0 (fun _ => true) true f t [v] = some y) :
    ∃ (a : Option Addr) (l : List α) (cap : Nat) (bs : List Nat), l.length = bs.length ∧ bs.sum + 1 ≤ Rows.uptoBulk y.1 ∧ v = .slice a l.length cap ∧ l.length ≤ cap ∧ l.length ≤ 9223372036854775807 ∧ ∀ i (hi : i < l.length), ∃ c o cs, a = some ⟨c, o, none⟩ ∧ c < W.heap.size ∧ cs.length = m ∧ (∀ j, j < m → W.cell? ⟨c, o + i * m + j, none⟩ = cs[j]?) ∧ ∀ h2 : i < bs.length, Q l[i] cs bs[i] := by
  rcases DataW.trod_slice hu h with ⟨hcs, -⟩ | ⟨a, len, cap, elems, rest, n, hf, hcs, hy, -, hl, hcap, hlen, hel, -, -⟩
  · simp only [List.cons.injEq, and_true] at hcs
    subst hcs
    exact ⟨none, [], 0, [], rfl, bulk_pos _, rfl, Nat.le_refl _, Nat.zero_le _, fun i hi => by simp at hi⟩
  · simp only [List.cons.injEq, and_true] at hcs
    subst hcs
    have hone : ∀ i, i < len → ∃ x : α, ∃ cs, cs.length = m ∧ (∀ j, j < m → W.cell? ((a.add (i * m)).add j) = cs[j]?) ∧ ∀ h2 : i < elems.length, Q x cs (Rows.uptoBulk elems[i].1) := by
      intro i hi
      have h1 := hel i hi
      rw [List.getElem?_eq_getElem (by omega), Option.bind_eq_some_iff] at h1
      obtain ⟨cs, hcs, ht⟩ := h1
      rw [hc] at hcs
      obtain ⟨_, hcl, hat⟩ := World.cells?_some hcs
      obtain ⟨x, hx⟩ := hQ n cs _ (by omega) (bulk_elem hy (List.getElem_mem _)) ht
      refine ⟨x, cs, hcl, fun j hj => ?_, fun _ => hx⟩
      exact hat j (by omega)
    obtain ⟨l, hll, hP⟩ := list_some hone
    refine ⟨some a, l, cap, elems.map fun x => Rows.uptoBulk x.1, by rw [List.length_map]; omega, ?_, by rw [hll], by omega, by unfold maxLen at hcap; omega, fun i hi => ?_⟩
    · rw [hy, ← bulk_all]; simp only [Rows.uptoBulk]; omega
    obtain ⟨cs, h1, h2, h3⟩ := hP i hi
    obtain ⟨c, o, sp⟩ := a
    have h0 := h2 0 hm
    rw [List.getElem?_eq_getElem (by omega)] at h0
    obtain rfl : sp = none := by
      obtain ⟨cs', g1, g2, -⟩ := hP 0 (by omega)
      have g0 := g2 0 hm
      rw [List.getElem?_eq_getElem (by omega), Nat.zero_mul] at g0
      have := World.cell?_spot g0
      simpa [Addr.add] using this
    refine ⟨c, o, cs, rfl, ?_, h1, fun j hj => ?_, fun hh => by rw [List.getElem_map]; exact h3 (by simpa using hh)⟩
    · rw [add_add] at h0
      exact World.block_lt_of_cell? W _ h0
    · rw [← add_add]; exact h2 j hj
/-- A slice of expressions, a slice of queries. -/
theorem open_exsN {f : Nat} {v : Value} {y : DataW H × List MemPlace} (ih : ∀ f' cs y', f' < f → Rows.uptoBulk y'.1 < Rows.uptoBulk y.1 → DataW.trod enc Tryz.prog W 0 (fun _ => true) true f' 27 cs = some y' → ∃ E, cs = exL E ∧ ExAt (fun _ => True) W (Rows.uptoBulk y'.1) E ∧ ∀ D, nN D E ≤ Rows.uptoBulk y'.1)
    (h : DataW.trod enc Tryz.prog W 0 (fun _ => true) true f 24 [v] = some y) :
    ∃ (a : Option Addr) (l : List Ex) (cap : Nat), v = .slice a l.length cap ∧ l.length ≤ cap ∧ l.length ≤ 9223372036854775807 ∧ LAt (fun _ => True) W (ExAt (fun _ => True) W (Rows.uptoBulk y.1)) a l ∧ ∀ D, sumE (nN D) l + 1 ≤ Rows.uptoBulk y.1 := by
  obtain ⟨a, l, cap, bs, hbl, hbs, hv, hc, hm, hl⟩ := open_listN (y := y) (Q := fun E cs b => cs = exL E ∧ ExAt (fun _ => True) W (Rows.uptoBulk y.1) E ∧ ∀ D, nN D E ≤ b) Tryz.underlying24 (show Tryz.prog.cellsOf 27 = 10 by kernel_rfl) (by decide) (fun f' cs y' hf hb ht => by
    obtain ⟨E, h1, h2, h3⟩ := ih f' cs y' hf hb ht
    exact ⟨E, h1, h2.upto (by omega), h3⟩) h
  refine ⟨a, l, cap, hv, hc, hm, fun i hi => ?_, fun D => ?_⟩
  rotate_left
  · have := sumE_le (nN D) l bs hbl fun i hi hi2 => by
      obtain ⟨c, o, cs, -, -, -, -, h5⟩ := hl i hi
      exact (h5 hi2).2.2 D
    omega
  obtain ⟨c, o, cs, h1, h2, -, h4, h5⟩ := hl i hi
  obtain ⟨h5, h6, -⟩ := h5 (by omega)
  rw [eAt_get hi]
  exact ⟨c, o, h1, h2, trivial, exC_of h4 h5, h6⟩
theorem open_qusN {f : Nat} {v : Value} {y : DataW H × List MemPlace} (ih : ∀ f' cs y', f' < f → Rows.uptoBulk y'.1 < Rows.uptoBulk y.1 → DataW.trod enc Tryz.prog W 0 (fun _ => true) true f' 53 cs = some y' → ∃ q, cs = quL q ∧ QuIn (fun _ => True) W (ExAt (fun _ => True) W (Rows.uptoBulk y'.1)) q ∧ ∀ D, nQu (nN D) q ≤ Rows.uptoBulk y'.1)
    (h : DataW.trod enc Tryz.prog W 0 (fun _ => true) true f 25 [v] = some y) :
    ∃ (a : Option Addr) (l : List Qu) (cap : Nat), v = .slice a l.length cap ∧ l.length ≤ cap ∧ l.length ≤ 9223372036854775807 ∧ QAt (fun _ => True) W (ExAt (fun _ => True) W (Rows.uptoBulk y.1)) a l ∧ ∀ D, sumU (nQu (nN D)) l + 1 ≤ Rows.uptoBulk y.1 := by
  obtain ⟨a, l, cap, bs, hbl, hbs, hv, hc, hm, hl⟩ := open_listN (y := y) (Q := fun q cs b => cs = quL q ∧ QuIn (fun _ => True) W (ExAt (fun _ => True) W (Rows.uptoBulk y.1)) q ∧ ∀ D, nQu (nN D) q ≤ b) Tryz.underlying25 (show Tryz.prog.cellsOf 53 = 4 by kernel_rfl) (by decide) (fun f' cs y' hf hb ht => by
    obtain ⟨q, h1, h2, h3⟩ := ih f' cs y' hf hb ht
    exact ⟨q, h1, h2.upto (by omega), h3⟩) h
  refine ⟨a, l, cap, hv, hc, hm, fun i hi => ?_, fun D => ?_⟩
  rotate_left
  · have := sumU_le (nQu (nN D)) l bs hbl fun i hi hi2 => by
      obtain ⟨c, o, cs, -, -, -, -, h5⟩ := hl i hi
      exact (h5 hi2).2.2 D
    omega
  obtain ⟨c, o, cs, h1, h2, -, h4, h5⟩ := hl i hi
  obtain ⟨h5, h6, -⟩ := h5 (by omega)
  rw [qAt_get hi]
  exact ⟨c, o, h1, h2, trivial, quC_of h4 h5, h6⟩
set_option maxRecDepth 100000 in
theorem open_quN {f : Nat} {cs : List Value} {y : DataW H × List MemPlace} (ih : ∀ f' cs y', f' < f → Rows.uptoBulk y'.1 < Rows.uptoBulk y.1 → DataW.trod enc Tryz.prog W 0 (fun _ => true) true f' 27 cs = some y' → ∃ E, cs = exL E ∧ ExAt (fun _ => True) W (Rows.uptoBulk y'.1) E ∧ ∀ D, nN D E ≤ Rows.uptoBulk y'.1)
    (h : DataW.trod enc Tryz.prog W 0 (fun _ => true) true f 53 cs = some y) : ∃ q, cs = quL q ∧ QuIn (fun _ => True) W (ExAt (fun _ => True) W (Rows.uptoBulk y.1)) q ∧ ∀ D, nQu (nN D) q ≤ Rows.uptoBulk y.1 := by
  obtain ⟨xs, n, rfl, hy, hl, hlen, hf⟩ := DataW.trod_struct Tryz.underlying53 h
  rw [show Tryz.prog.cellsOf 53 = 4 by kernel_rfl] at hl
  obtain ⟨v0, v1, v2, v3, rfl⟩ := list_four hl
  have hz : xs.length = 4 := hlen
  have b1 : Tryz.prog.cellsOf 4 = 1 := by kernel_rfl
  have b2 : Tryz.prog.cellsOf 24 = 1 := by kernel_rfl
  have b3 : Tryz.prog.cellsOf 9 = 1 := by kernel_rfl
  have g0 : DataW.trod enc Tryz.prog W 0 (fun _ => true) true n 4 (([v0, v1, v2, v3].drop 0).take (Tryz.prog.cellsOf 4)) = xs[0]? := hf 0 _ rfl
  have g1 : DataW.trod enc Tryz.prog W 0 (fun _ => true) true n 24 (([v0, v1, v2, v3].drop 1).take (Tryz.prog.cellsOf 24)) = xs[1]? := hf 1 _ rfl
  have g2 : DataW.trod enc Tryz.prog W 0 (fun _ => true) true n 9 (([v0, v1, v2, v3].drop 2).take (Tryz.prog.cellsOf 9)) = xs[2]? := hf 2 _ rfl
  have g3 : DataW.trod enc Tryz.prog W 0 (fun _ => true) true n 24 (([v0, v1, v2, v3].drop 3).take (Tryz.prog.cellsOf 24)) = xs[3]? := hf 3 _ rfl
  clear hf
  rw [b1, List.getElem?_eq_getElem (by omega)] at g0
  rw [b2, List.getElem?_eq_getElem (by omega)] at g1
  rw [b3, List.getElem?_eq_getElem (by omega)] at g2
  rw [b2, List.getElem?_eq_getElem (by omega)] at g3
  simp only [List.drop_zero, List.drop_succ_cons, List.take_succ_cons, List.take_zero] at g0 g1 g2 g3
  obtain ⟨s, e0, -⟩ := DataW.trod_bool Tryz.underlying4 g0
  obtain ⟨p1, p0⟩ := bulk_part hy (List.getElem?_eq_getElem (show 1 < xs.length by omega))
  obtain ⟨p3, -⟩ := bulk_part hy (List.getElem?_eq_getElem (show 3 < xs.length by omega))
  have p13 := bulk_two (show 1 < 3 by decide) (List.getElem?_eq_getElem (show 1 < xs.length by omega)) (List.getElem?_eq_getElem (show 3 < xs.length by omega))
  obtain ⟨pi, items, ci, rfl, -, m1, hi, n1⟩ := open_exsN (fun f' cs y' hf hb => ih f' cs y' (by omega) (by omega)) g1
  obtain ⟨fr, e2, -, w2⟩ := DataW.trod_string Tryz.underlying9 g2
  obtain ⟨pw, wh, cw, rfl, -, m3, hw, n3⟩ := open_exsN (fun f' cs y' hf hb => ih f' cs y' (by omega) (by omega)) g3
  simp only [List.cons.injEq, and_true] at e0 e2
  subst e0 e2
  refine ⟨⟨s, pi, ci, items, fr, pw, cw, wh⟩, rfl, ⟨w2, m1, m3, hi.more (by omega), hw.more (by omega)⟩, fun D => ?_⟩
  have q1 := n1 D
  have q3 := n3 D
  show 1 + sumE (nN D) items + sumE (nN D) wh ≤ _
  omega
set_option maxRecDepth 100000 in
/-- An expression that was read is a tree in memory. -/
theorem open_treeN : ∀ (f : Nat) (cs : List Value) (y : DataW H × List MemPlace), DataW.trod enc Tryz.prog W 0 (fun _ => true) true f 27 cs = some y → ∃ E, cs = exL E ∧ ExAt (fun _ => True) W (Rows.uptoBulk y.1) E ∧ ∀ D, nN D E ≤ Rows.uptoBulk y.1 := by
  intro f
  induction f using Nat.strongRecOn with
  | ind f ih =>
    intro cs y h
    obtain ⟨xs, n, rfl, hy, hl, hlen, hf⟩ := DataW.trod_struct Tryz.underlying27 h
    rw [show Tryz.prog.cellsOf 27 = 10 by kernel_rfl] at hl
    obtain ⟨v0, v1, v2, v3, v4, v5, v6, v7, v8, v9, rfl⟩ := list_ten hl
    have hz : xs.length = 8 := hlen
    have b1 : Tryz.prog.cellsOf 3 = 1 := by kernel_rfl
    have b2 : Tryz.prog.cellsOf 4 = 1 := by kernel_rfl
    have b3 : Tryz.prog.cellsOf 23 = 3 := by kernel_rfl
    have b4 : Tryz.prog.cellsOf 9 = 1 := by kernel_rfl
    have b5 : Tryz.prog.cellsOf 24 = 1 := by kernel_rfl
    have b6 : Tryz.prog.cellsOf 25 = 1 := by kernel_rfl
    have b7 : Tryz.prog.cellsOf 2 = 1 := by kernel_rfl
    have g0 : DataW.trod enc Tryz.prog W 0 (fun _ => true) true n 3 (([v0, v1, v2, v3, v4, v5, v6, v7, v8, v9].drop 0).take (Tryz.prog.cellsOf 3)) = xs[0]? := hf 0 _ rfl
    have g1 : DataW.trod enc Tryz.prog W 0 (fun _ => true) true n 3 (([v0, v1, v2, v3, v4, v5, v6, v7, v8, v9].drop 1).take (Tryz.prog.cellsOf 3)) = xs[1]? := hf 1 _ rfl
    have g2 : DataW.trod enc Tryz.prog W 0 (fun _ => true) true n 4 (([v0, v1, v2, v3, v4, v5, v6, v7, v8, v9].drop 2).take (Tryz.prog.cellsOf 4)) = xs[2]? := hf 2 _ rfl
    have g3 : DataW.trod enc Tryz.prog W 0 (fun _ => true) true n 23 (([v0, v1, v2, v3, v4, v5, v6, v7, v8, v9].drop 3).take (Tryz.prog.cellsOf 23)) = xs[3]? := hf 3 _ rfl
    have g4 : DataW.trod enc Tryz.prog W 0 (fun _ => true) true n 9 (([v0, v1, v2, v3, v4, v5, v6, v7, v8, v9].drop 6).take (Tryz.prog.cellsOf 9)) = xs[4]? := hf 4 _ rfl
    have g5 : DataW.trod enc Tryz.prog W 0 (fun _ => true) true n 9 (([v0, v1, v2, v3, v4, v5, v6, v7, v8, v9].drop 7).take (Tryz.prog.cellsOf 9)) = xs[5]? := hf 5 _ rfl
    have g6 : DataW.trod enc Tryz.prog W 0 (fun _ => true) true n 24 (([v0, v1, v2, v3, v4, v5, v6, v7, v8, v9].drop 8).take (Tryz.prog.cellsOf 24)) = xs[6]? := hf 6 _ rfl
    have g7 : DataW.trod enc Tryz.prog W 0 (fun _ => true) true n 25 (([v0, v1, v2, v3, v4, v5, v6, v7, v8, v9].drop 9).take (Tryz.prog.cellsOf 25)) = xs[7]? := hf 7 _ rfl
    clear hf
    rw [b1, List.getElem?_eq_getElem (by omega)] at g0 g1
    rw [b2, List.getElem?_eq_getElem (by omega)] at g2
    rw [b3, List.getElem?_eq_getElem (by omega)] at g3
    rw [b4, List.getElem?_eq_getElem (by omega)] at g4 g5
    rw [b5, List.getElem?_eq_getElem (by omega)] at g6
    rw [b6, List.getElem?_eq_getElem (by omega)] at g7
    simp only [List.drop_zero, List.drop_succ_cons, List.take_succ_cons, List.take_zero] at g0 g1 g2 g3 g4 g5 g6 g7
    obtain ⟨k, e0, -, -⟩ := DataW.trod_int Tryz.underlying3 g0
    obtain ⟨op, e1, -, -⟩ := DataW.trod_int Tryz.underlying3 g1
    obtain ⟨no, e2, -⟩ := DataW.trod_bool Tryz.underlying4 g2
    obtain ⟨z0, z1, z2, n', -, -, j0, j1, j2⟩ := Go.Deep.trod_struct3 Tryz.underlying23 g3
    have j0 : DataW.trod enc Tryz.prog W 0 (fun _ => true) true n' 3 (([v3, v4, v5].drop 0).take (Tryz.prog.cellsOf 3)) = some z0 := j0
    have j1 : DataW.trod enc Tryz.prog W 0 (fun _ => true) true n' 2 (([v3, v4, v5].drop 1).take (Tryz.prog.cellsOf 2)) = some z1 := j1
    have j2 : DataW.trod enc Tryz.prog W 0 (fun _ => true) true n' 9 (([v3, v4, v5].drop 2).take (Tryz.prog.cellsOf 9)) = some z2 := j2
    rw [b1] at j0
    rw [b7] at j1
    rw [b4] at j2
    simp only [List.drop_zero, List.drop_succ_cons, List.take_succ_cons, List.take_zero] at j0 j1 j2
    obtain ⟨vk, e3, -, -⟩ := DataW.trod_int Tryz.underlying3 j0
    obtain ⟨vi, e4, -, w4⟩ := DataW.trod_int Tryz.underlying2 j1
    obtain ⟨vt, e5, -, w5⟩ := DataW.trod_string Tryz.underlying9 j2
    obtain ⟨tb, e6, -, w6⟩ := DataW.trod_string Tryz.underlying9 g4
    obtain ⟨nm, e7, -, w7⟩ := DataW.trod_string Tryz.underlying9 g5
    obtain ⟨p6, p0⟩ := bulk_part hy (List.getElem?_eq_getElem (show 6 < xs.length by omega))
    obtain ⟨p7, -⟩ := bulk_part hy (List.getElem?_eq_getElem (show 7 < xs.length by omega))
    have p67 := bulk_two (show 6 < 7 by decide) (List.getElem?_eq_getElem (show 6 < xs.length by omega)) (List.getElem?_eq_getElem (show 7 < xs.length by omega))
    obtain ⟨pa, args, ca, rfl, -, m6, ha, n6⟩ := open_exsN (fun f' cs y' hf _ => ih f' (by omega) cs y') g6
    obtain ⟨ps, sub, cs, rfl, -, m7, hs, n7⟩ := open_qusN (fun f' cs y' hf _ => open_quN (fun f2 cs2 y2 hf2 _ => ih f2 (by omega) cs2 y2)) g7
    simp only [List.cons.injEq, and_true] at e0 e1 e2 e3 e4 e5 e6 e7
    subst e0 e1 e2 e3 e4 e5 e6 e7
    rw [p0]
    refine ⟨.mk k op no vk vi vt tb nm pa ca args ps cs sub, rfl, ⟨w5, w6, w7, m6, m7, ha.more p6, hs.more p7, bounds_i64 w4⟩, fun D => ?_⟩
    cases D with
    | zero => exact Nat.zero_le _
    | succ D =>
      have q6 := n6 D
      have q7 := n7 D
      show 1 + sumE (nN D) args + sumU (nQu (nN D)) sub ≤ _
      omega
/-- An argument that is an expression. -/
theorem open_exprN (hv : ∃ b, Value.okWide Tryz.prog W .any b 27 v) (h : DataW.Trod enc Tryz.prog W 0 (fun _ => true) true 27 v d p) :
    ∃ E : Ex, v = exV E ∧ ExAt (fun _ => True) W (Rows.uptoBulk d) E ∧ ∀ D, nN D E ≤ Rows.uptoBulk d := by
  obtain ⟨b, hv⟩ := hv
  obtain ⟨cs, rfl, hsz⟩ := okWide_struct Tryz.underlying27 hv
  obtain ⟨fuel, hf⟩ := h
  obtain ⟨E, h1, h2, h3⟩ := open_treeN fuel _ _ hf
  refine ⟨E, ?_, h2, h3⟩
  obtain ⟨cs⟩ := cs
  have : cs = exL E := h1
  rw [this]; rfl
end
end Go.Proofs.YtlpaphgmdcpmaaaGreatDoor
/-
  Names: what the tape's Name gives; the words of the program, one by one.
-/
namespace Go.Proofs.YtlpaphgmdcpmaaaGreatDoor
set_option maxRecDepth 100000
open Go.RowKit
variable {ls : List Nat}

def NamePost (b : Nat) (w : World) (e : Ending) (w' : World) : Prop := ∃ i : Nat, e = .returned (.string (nameS i)) ∧ i < 8 ∧ TapeAt w' b ∧ StepT b w w'
set_option maxHeartbeats 400000 in
theorem name_any (b : Nat) (w : World) (hb : 13 ≤ b) (ht : TapeAt w b) (hE : Env ls w) (hm : 0 ∈ ls) :
    Calls Tryz.prog 15 #[.pointer (some ⟨b, 0, none⟩)] w (NamePost b w) := by
  go_enter Tryz.func15, Tryz.ntmps15
  go_wp2_with fail
  refine (next_any b _ _ (by omega) (by omega) ht).mono ?_
  rintro e w' ⟨r, rfl, hr0, hr1, ht1, hs1⟩
  have HS := Lib.hid hs1
  have HT := Lib.hid ht1
  obtain ⟨i, rfl⟩ : ∃ i : Nat, r = i := ⟨r.toNat, by omega⟩
  have hc := (hE.step hs1 hb).names hm i (by omega)
  clear hs1 ht1
  go_wp2
  go_ret
  exact ⟨i, rfl, by omega, HT.out, HS.out⟩
theorem name_all {P : ByteArray → Prop} (h : ∀ i : Fin 8, P (nameS i)) (i : Nat) (hi : i < 8) : P (nameS i) := h ⟨i, hi⟩
end Go.Proofs.YtlpaphgmdcpmaaaGreatDoor
/-
  Expressions of the tape: columns, literals; what AnyExpr keeps while it draws.
-/
namespace Go.Proofs.YtlpaphgmdcpmaaaGreatDoor
set_option maxRecDepth 100000
open Go.RowKit
variable {ls : List Nat}

theorem info_expr : (Tryz.prog.info? 27).map (fun i => (i.zero, i.size, i.bytes)) = some (some (.agg #[.int .i64 0, .int .i64 0, .bool false, .int .i64 0, .int .i64 0, .string ⟨#[]⟩, .string ⟨#[]⟩, .string ⟨#[]⟩, .slice none 0 0, .slice none 0 0]), 10, 136) := by kernel_rfl
theorem col_any (tb nm : ByteArray) (w : World) : Calls Tryz.prog 14 #[.string tb, .string nm] w fun e w' => e = .returned (exV (colEx tb nm)) ∧ Below w.heap.size w w' := by
  go_enter Tryz.func14, Tryz.ntmps14
  go_wp2
  exact bodyPost_ret (v := exV (colEx tb nm)) (by simp [results, Tryz.results14, go_sem, exV, colEx, Ex.mk_k, Ex.mk_op, Ex.mk_no, Ex.mk_vk, Ex.mk_vi, Ex.mk_vt, Ex.mk_tb, Ex.mk_nm, Ex.mk_pa, Ex.mk_ca, Ex.mk_args, Ex.mk_ps, Ex.mk_cs, Ex.mk_sub]) rfl ⟨rfl, below_alloc _ _⟩
theorem lit_any (k n : Int) (s : ByteArray) (w : World) : Calls Tryz.prog 17 #[.agg #[.int .i64 k, .int .i64 n, .string s]] w fun e w' => e = .returned (exV (litEx k n s)) ∧ Below w.heap.size w w' := by
  go_enter Tryz.func17, Tryz.ntmps17
  go_wp2
  exact bodyPost_ret (v := exV (litEx k n s)) (by simp [results, Tryz.results17, go_sem, exV, litEx, Ex.mk_k, Ex.mk_op, Ex.mk_no, Ex.mk_vk, Ex.mk_vi, Ex.mk_vt, Ex.mk_tb, Ex.mk_nm, Ex.mk_pa, Ex.mk_ca, Ex.mk_args, Ex.mk_ps, Ex.mk_cs, Ex.mk_sub]) rfl ⟨rfl, below_new (below_alloc _ _) _⟩
theorem col_agg (tb nm : ByteArray) (w : World) : Calls Tryz.prog 14 #[.string tb, .string nm] w fun e w' => e = .returned (.agg #[.int .i64 2, .int .i64 0, .bool false, .int .i64 0, .int .i64 0, .string ⟨#[]⟩, .string tb, .string nm, .slice none 0 0, .slice none 0 0]) ∧ Below w.heap.size w w' := col_any tb nm w
theorem lit_agg (k n : Int) (s : ByteArray) (w : World) : Calls Tryz.prog 17 #[.agg #[.int .i64 k, .int .i64 n, .string s]] w fun e w' => e = .returned (.agg #[.int .i64 1, .int .i64 0, .bool false, .int .i64 k, .int .i64 n, .string s, .string ⟨#[]⟩, .string ⟨#[]⟩, .slice none 0 0, .slice none 0 0]) ∧ Below w.heap.size w w' := lit_any k n s w
/-- What AnyExpr keeps: the tape, the box of its result. -/
structure AnW (b : Nat) (w u : World) : Prop where
  tape : TapeAt u b
  step : StepT b w u
  res : ExB u w.heap.size ex0
  lt : b < w.heap.size
theorem AnW.next {b : Nat} {w u v : World} (h : AnW b w u) (hs : StepT b u v) (ht : TapeAt v b) : AnW b w v :=
  ⟨ht, h.step.trans hs, h.res.step hs (by have := h.lt; omega), h.lt⟩
theorem AnW.low {b : Nat} {w u v : World} (h : AnW b w u) (hb : Below u.heap.size u v) : AnW b w v := h.next (StepT.of_below hb) (h.tape.below hb)
/-- All but block X is as it was. -/
structure ButX (X : Nat) (u v : World) : Prop where
  os : v.os = u.os
  tape : v.tape = u.tape
  output : v.output = u.output
  size : v.heap.size = u.heap.size
  block : ∀ k, k ≠ X → v.heap[k]? = u.heap[k]?
theorem ButX.refl (X : Nat) (u : World) : ButX X u u := ⟨rfl, rfl, rfl, rfl, fun _ _ => rfl⟩
theorem ButX.set {X : Nat} {u v : World} (h : ButX X u v) (o : Nat) (f : Option Nat) (y : Value) : ButX X u (v.setCell ⟨X, o, f⟩ y) :=
  ⟨h.os, h.tape, h.output, by simpa [World.setCell] using h.size, fun k hk => (Below.heap_setCell _ _ _ _ hk).trans (h.block k hk)⟩
theorem ButX.drew {X : Nat} {u v : World} (h : ButX X u v) : ButX X u v.drew := ⟨h.os, h.tape, h.output, h.size, h.block⟩
theorem StepT.but {b X : Nat} {w u v : World} (h : StepT b w u) (hb : ButX X u v) (hX : w.heap.size ≤ X) : StepT b w v :=
  ⟨hb.os.trans h.os, hb.tape.trans h.tape, hb.output.trans h.output, by rw [hb.size]; exact h.size, fun k hk hkb => (hb.block k (by omega)).trans (h.block k hk hkb)⟩
theorem TapeAt.but {b X : Nat} {u v : World} (h : TapeAt u b) (hb : ButX X u v) (hX : b < X) : TapeAt v b := h.keep (fun k hk => hb.block k (by omega)) (by rw [hb.size]; exact Nat.le_refl _)
theorem ExB.but {X Y : Nat} {u v : World} {e : Ex} (h : ExB u Y e) (hb : ButX X u v) (hn : Y ≠ X) : ExB v Y e := h.keep (by rw [hb.size]; exact Nat.le_refl _) (hb.block Y hn)
theorem ExAt.but {N M : Nat → Prop} {X d : Nat} {u v : World} {e : Ex} (h : ExAt N u d e) (hb : ButX X u v) (hN : ∀ c, c < u.heap.size → N c → c ≠ X ∧ M c) : ExAt M v d e :=
  ExAt.keep (by rw [hb.size]; exact Nat.le_refl _) (fun c hc hn => ⟨hb.block c (hN c hc hn).1, (hN c hc hn).2⟩) d e h
theorem LAt.but {N M : Nat → Prop} {X d : Nat} {u v : World} {p : Option Addr} {l : List Ex} (h : LAt N u (ExAt N u d) p l) (hb : ButX X u v) (hN : ∀ c, c < u.heap.size → N c → c ≠ X ∧ M c) : LAt M v (ExAt M v d) p l :=
  LAt.keep h (by rw [hb.size]; exact Nat.le_refl _) (fun c hc hn => ⟨hb.block c (hN c hc hn).1, (hN c hc hn).2⟩) fun _ hx => hx.but hb hN
theorem QAt.but {N M : Nat → Prop} {X d : Nat} {u v : World} {p : Option Addr} {l : List Qu} (h : QAt N u (ExAt N u d) p l) (hb : ButX X u v) (hN : ∀ c, c < u.heap.size → N c → c ≠ X ∧ M c) : QAt M v (ExAt M v d) p l :=
  QAt.keep h (by rw [hb.size]; exact Nat.le_refl _) (fun c hc hn => ⟨hb.block c (hN c hc hn).1, (hN c hc hn).2⟩) fun _ hx => hx.but hb hN
theorem AnW.but {b X : Nat} {w u v : World} (h : AnW b w u) (hb : ButX X u v) (hX : w.heap.size < X) : AnW b w v :=
  ⟨h.tape.but hb (by have := h.lt; omega), h.step.but hb (by omega), h.res.but hb (by omega), h.lt⟩
theorem Env.but {X : Nat} {u v : World} (h : Env ls u) (hb : ButX X u v) (hX : 13 ≤ X) : Env ls v := h.keep (by rw [hb.size]; exact Nat.le_refl _) (fun k hk => hb.block k (by omega))
/-- The ten cells of a box are set. -/
theorem set_ten {u : World} {X : Nat} {a : Ex} (h : ExB u X a) (v0 v1 v2 v3 v4 v5 v6 v7 v8 v9 : Value) : ((((((((((u.setCell ⟨X, 0, none⟩ v0).setCell ⟨X, 1, none⟩ v1).setCell ⟨X, 2, none⟩ v2).setCell ⟨X, 3, none⟩ v3).setCell ⟨X, 4, none⟩ v4).setCell ⟨X, 5, none⟩ v5).setCell ⟨X, 6, none⟩ v6).setCell ⟨X, 7, none⟩ v7).setCell ⟨X, 8, none⟩ v8).setCell ⟨X, 9, none⟩ v9).cell? ⟨X, 0, none⟩ = some v0 ∧ ((((((((((u.setCell ⟨X, 0, none⟩ v0).setCell ⟨X, 1, none⟩ v1).setCell ⟨X, 2, none⟩ v2).setCell ⟨X, 3, none⟩ v3).setCell ⟨X, 4, none⟩ v4).setCell ⟨X, 5, none⟩ v5).setCell ⟨X, 6, none⟩ v6).setCell ⟨X, 7, none⟩ v7).setCell ⟨X, 8, none⟩ v8).setCell ⟨X, 9, none⟩ v9).cell? ⟨X, 1, none⟩ = some v1 ∧ ((((((((((u.setCell ⟨X, 0, none⟩ v0).setCell ⟨X, 1, none⟩ v1).setCell ⟨X, 2, none⟩ v2).setCell ⟨X, 3, none⟩ v3).setCell ⟨X, 4, none⟩ v4).setCell ⟨X, 5, none⟩ v5).setCell ⟨X, 6, none⟩ v6).setCell ⟨X, 7, none⟩ v7).setCell ⟨X, 8, none⟩ v8).setCell ⟨X, 9, none⟩ v9).cell? ⟨X, 2, none⟩ = some v2 ∧ ((((((((((u.setCell ⟨X, 0, none⟩ v0).setCell ⟨X, 1, none⟩ v1).setCell ⟨X, 2, none⟩ v2).setCell ⟨X, 3, none⟩ v3).setCell ⟨X, 4, none⟩ v4).setCell ⟨X, 5, none⟩ v5).setCell ⟨X, 6, none⟩ v6).setCell ⟨X, 7, none⟩ v7).setCell ⟨X, 8, none⟩ v8).setCell ⟨X, 9, none⟩ v9).cell? ⟨X, 3, none⟩ = some v3 ∧ ((((((((((u.setCell ⟨X, 0, none⟩ v0).setCell ⟨X, 1, none⟩ v1).setCell ⟨X, 2, none⟩ v2).setCell ⟨X, 3, none⟩ v3).setCell ⟨X, 4, none⟩ v4).setCell ⟨X, 5, none⟩ v5).setCell ⟨X, 6, none⟩ v6).setCell ⟨X, 7, none⟩ v7).setCell ⟨X, 8, none⟩ v8).setCell ⟨X, 9, none⟩ v9).cell? ⟨X, 4, none⟩ = some v4 ∧ ((((((((((u.setCell ⟨X, 0, none⟩ v0).setCell ⟨X, 1, none⟩ v1).setCell ⟨X, 2, none⟩ v2).setCell ⟨X, 3, none⟩ v3).setCell ⟨X, 4, none⟩ v4).setCell ⟨X, 5, none⟩ v5).setCell ⟨X, 6, none⟩ v6).setCell ⟨X, 7, none⟩ v7).setCell ⟨X, 8, none⟩ v8).setCell ⟨X, 9, none⟩ v9).cell? ⟨X, 5, none⟩ = some v5 ∧ ((((((((((u.setCell ⟨X, 0, none⟩ v0).setCell ⟨X, 1, none⟩ v1).setCell ⟨X, 2, none⟩ v2).setCell ⟨X, 3, none⟩ v3).setCell ⟨X, 4, none⟩ v4).setCell ⟨X, 5, none⟩ v5).setCell ⟨X, 6, none⟩ v6).setCell ⟨X, 7, none⟩ v7).setCell ⟨X, 8, none⟩ v8).setCell ⟨X, 9, none⟩ v9).cell? ⟨X, 6, none⟩ = some v6 ∧ ((((((((((u.setCell ⟨X, 0, none⟩ v0).setCell ⟨X, 1, none⟩ v1).setCell ⟨X, 2, none⟩ v2).setCell ⟨X, 3, none⟩ v3).setCell ⟨X, 4, none⟩ v4).setCell ⟨X, 5, none⟩ v5).setCell ⟨X, 6, none⟩ v6).setCell ⟨X, 7, none⟩ v7).setCell ⟨X, 8, none⟩ v8).setCell ⟨X, 9, none⟩ v9).cell? ⟨X, 7, none⟩ = some v7 ∧ ((((((((((u.setCell ⟨X, 0, none⟩ v0).setCell ⟨X, 1, none⟩ v1).setCell ⟨X, 2, none⟩ v2).setCell ⟨X, 3, none⟩ v3).setCell ⟨X, 4, none⟩ v4).setCell ⟨X, 5, none⟩ v5).setCell ⟨X, 6, none⟩ v6).setCell ⟨X, 7, none⟩ v7).setCell ⟨X, 8, none⟩ v8).setCell ⟨X, 9, none⟩ v9).cell? ⟨X, 8, none⟩ = some v8 ∧ ((((((((((u.setCell ⟨X, 0, none⟩ v0).setCell ⟨X, 1, none⟩ v1).setCell ⟨X, 2, none⟩ v2).setCell ⟨X, 3, none⟩ v3).setCell ⟨X, 4, none⟩ v4).setCell ⟨X, 5, none⟩ v5).setCell ⟨X, 6, none⟩ v6).setCell ⟨X, 7, none⟩ v7).setCell ⟨X, 8, none⟩ v8).setCell ⟨X, 9, none⟩ v9).cell? ⟨X, 9, none⟩ = some v9 := by
  obtain ⟨hl, c0, c1, c2, c3, c4, c5, c6, c7, c8, c9, fz⟩ := h
  refine ⟨?_, ?_, ?_, ?_, ?_, ?_, ?_, ?_, ?_, ?_⟩
  all_goals go_simp
theorem but_ten (u : World) (X : Nat) (v0 v1 v2 v3 v4 v5 v6 v7 v8 v9 : Value) : ButX X u ((((((((((u.setCell ⟨X, 0, none⟩ v0).setCell ⟨X, 1, none⟩ v1).setCell ⟨X, 2, none⟩ v2).setCell ⟨X, 3, none⟩ v3).setCell ⟨X, 4, none⟩ v4).setCell ⟨X, 5, none⟩ v5).setCell ⟨X, 6, none⟩ v6).setCell ⟨X, 7, none⟩ v7).setCell ⟨X, 8, none⟩ v8).setCell ⟨X, 9, none⟩ v9) :=
  ((((((((((ButX.refl X u).set _ _ _).set _ _ _).set _ _ _).set _ _ _).set _ _ _).set _ _ _).set _ _ _).set _ _ _).set _ _ _).set _ _ _
theorem Cell3.step3 {u v : World} {X b : Nat} {x y z : Value} (h : Cell3 u X x y z) (hs : StepT b u v) (hn : X ≠ b) : Cell3 v X x y z :=
  ⟨Nat.lt_of_lt_of_le h.lt hs.size, by rw [hs.cell (by exact h.lt) (by exact hn)]; exact h.c0, by rw [hs.cell (by exact h.lt) (by exact hn)]; exact h.c1, by rw [hs.cell (by exact h.lt) (by exact hn)]; exact h.c2, fun o => by rw [hs.frozen (by exact h.lt) (by exact hn)]; exact h.fz o⟩
/-- What AnyExpr gives: a well-formed tree of at most D storeys. -/
def AExPost (b D : Nat) (w : World) (e : Ending) (w' : World) : Prop := ∃ E : Ex, e = .returned (exV E) ∧ ExAt (fun c => w.heap.size < c) w' D E ∧ vE D E = true ∧ TapeAt w' b ∧ StepT b w w'
/-- A leaf. -/
theorem ExAt.leaf (N : Nat → Prop) (w : World) (D : Nat) (k op : Int) (no : Bool) (vk vi : Int) {vt tb nm : ByteArray} (h1 : vt.size ≤ 9223372036854775807) (h2 : tb.size ≤ 9223372036854775807) (h3 : nm.size ≤ 9223372036854775807) (h4 : I64 vi := by exact i64_zero) : ExAt N w (D + 1) (.mk k op no vk vi vt tb nm none 0 [] none 0 []) :=
  ⟨h1, h2, h3, Nat.zero_le _, Nat.zero_le _, LAt.nil _ _ _ _, QAt.nil _ _ _ _, h4⟩
theorem IsVal.i64 {k n : Int} {s : ByteArray} (h : IsVal k n s) : I64 n := by
  rcases h with ⟨rfl, rfl, rfl⟩ | ⟨rfl, hn, rfl⟩ | ⟨rfl, h0, h1, rfl⟩ | ⟨rfl, rfl, hs⟩
  · exact i64_zero
  · unfold IsNum at hn; exact ⟨by omega, by omega⟩
  · exact ⟨by omega, by omega⟩
  · exact i64_zero
theorem names_fine : ∀ i : Fin 8, nameOK (nameS i) = true ∧ (nameS i).size ≤ 9223372036854775807 := by decide +kernel
def qualL : List (List UInt8) := [[78, 69, 87], [79, 76, 68], [73, 78, 83, 69, 82, 84, 69, 68], [116], [117]]
def qualS (i : Nat) : ByteArray := ⟨(qualL.getD i []).toArray⟩
theorem quals_fine : ∀ i : Fin 5, qualB (qualS i) = true ∧ (qualS i).size ≤ 9223372036854775807 := by decide +kernel
def srcL : List (List UInt8) := [[116], [117], [108, 111, 103], [73, 78, 83, 69, 82, 84, 69, 68], [68, 69, 76, 69, 84, 69, 68]]
def srcS (i : Nat) : ByteArray := ⟨(srcL.getD i []).toArray⟩
theorem srcs_fine : ∀ i : Fin 5, srcB (srcS i) = true ∧ (srcS i).size ≤ 9223372036854775807 := by decide +kernel
theorem qual_none : qualB ⟨#[]⟩ = true := by decide +kernel
theorem qual_at {u v : World} {b : Nat} {t : TypeId} (hs : StepT b (u.alloc (.cells #[.string ⟨#[78, 69, 87]⟩, .string ⟨#[79, 76, 68]⟩, .string ⟨#[73, 78, 83, 69, 82, 84, 69, 68]⟩, .string ⟨#[116]⟩, .string ⟨#[117]⟩] t)) v) (hb : b < u.heap.size) {i : Nat} (hi : i < 5) : v.cell? ⟨u.heap.size, i, none⟩ = some (.string (qualS i)) ∧ u.heap.size < v.heap.size := by
  have hz := hs.size
  rw [size_alloc] at hz
  refine ⟨?_, by omega⟩
  rw [hs.cell (by rw [size_alloc]; exact Nat.lt_succ_self _) (by show u.heap.size ≠ b; omega)]
  have h5 : i = 0 ∨ i = 1 ∨ i = 2 ∨ i = 3 ∨ i = 4 := by omega
  rcases h5 with rfl | rfl | rfl | rfl | rfl
  all_goals (go_simp; rfl)
theorem src_at {u v : World} {b : Nat} {t : TypeId} (hs : StepT b (u.alloc (.cells #[.string ⟨#[116]⟩, .string ⟨#[117]⟩, .string ⟨#[108, 111, 103]⟩, .string ⟨#[73, 78, 83, 69, 82, 84, 69, 68]⟩, .string ⟨#[68, 69, 76, 69, 84, 69, 68]⟩] t)) v) (hb : b < u.heap.size) {i : Nat} (hi : i < 5) : v.cell? ⟨u.heap.size, i, none⟩ = some (.string (srcS i)) ∧ u.heap.size < v.heap.size := by
  have hz := hs.size
  rw [size_alloc] at hz
  refine ⟨?_, by omega⟩
  rw [hs.cell (by rw [size_alloc]; exact Nat.lt_succ_self _) (by show u.heap.size ≠ b; omega)]
  have h5 : i = 0 ∨ i = 1 ∨ i = 2 ∨ i = 3 ∨ i = 4 := by omega
  rcases h5 with rfl | rfl | rfl | rfl | rfl
  all_goals (go_simp; rfl)
end Go.Proofs.YtlpaphgmdcpmaaaGreatDoor
/-
  What AnyExpr keeps while it makes an expression with arguments or a query.
-/
namespace Go.Proofs.YtlpaphgmdcpmaaaGreatDoor
set_option maxRecDepth 100000
open Go.RowKit
variable {ls : List Nat}

/-- An expression without arguments, as yet. -/
abbrev bareEx (kd op : Int) (no : Bool) (ps : Option Addr) (cs : Nat) (sub : List Qu) : Ex := .mk kd op no 0 0 ⟨#[]⟩ ⟨#[]⟩ ⟨#[]⟩ none 0 [] ps cs sub
/-- Behind the switch over kinds: the expression in the box X wants m arguments. -/
structure SwAt (b X D : Nat) (w : World) (kd : Int) (m : Nat) (op : Int) (no : Bool) (ps : Option Addr) (cs : Nat) (sub : List Qu) (u : World) : Prop where
  an : AnW b w u
  box : ExB u X (bareEx kd op no ps cs sub)
  xw : w.heap.size < X
  subs : QAt (fun c => X < c) u (ExAt (fun c => X < c) u D) ps sub
  lens : sub.length ≤ 1
  m3 : m ≤ 3
  good : ∀ pa ca args, args.length = m → (∀ a ∈ args, vE D a = true) → vOf (vE D) (.mk kd op no 0 0 ⟨#[]⟩ ⟨#[]⟩ ⟨#[]⟩ pa ca args ps cs sub) = true
theorem good_args {D : Nat} {kd op : Int} {no : Bool} {m : Nat} (h1 : 3 ≤ kd) (h2 : kd ≤ 7) (hm : m = argN kd) (hop : kd = 5 → 1 ≤ op ∧ op ≤ 13) (hop0 : kd ≠ 5 → op = 0) (hno : kd ≠ 6 → no = false) :
    ∀ pa ca args, args.length = m → (∀ a ∈ args, vE D a = true) → vOf (vE D) (.mk kd op no 0 0 ⟨#[]⟩ ⟨#[]⟩ ⟨#[]⟩ pa ca args none 0 []) = true :=
  fun _ _ _ hl hV => vOf_args h1 h2 (hl.trans hm) hop hop0 hno hV
theorem good_sub {D : Nat} {kd : Int} {ps : Option Addr} {cs : Nat} {q : Qu} (h1 : 8 ≤ kd) (h2 : kd ≤ 12) (hq : quB (vE D) kd q = true) :
    ∀ pa ca args, args.length = 0 → (∀ a ∈ args, vE D a = true) → vOf (vE D) (.mk kd 0 false 0 0 ⟨#[]⟩ ⟨#[]⟩ ⟨#[]⟩ pa ca args ps cs [q]) = true := by
  intro pa ca args hl _
  obtain rfl := List.eq_nil_of_length_eq_zero hl
  refine vOf_iff.2 ⟨by show 1 ≤ kd; omega, h2, by show 0 = argN kd; unfold argN; rw [if_neg (by omega), if_neg (by omega), if_neg (by omega)], by show 1 = subN kd; unfold subN; rw [if_pos ⟨h1, h2⟩], fun h => by have h : kd = 5 := h; omega, fun _ => rfl, fun _ => rfl, fun h => by have h : kd = 1 := h; omega, fun h => by have h : kd = 2 := h; omega,
    fun _ _ => ⟨plain_none rfl rfl rfl rfl rfl, (fun a ha => by cases ha), fun q' hq' => by obtain rfl := List.mem_singleton.1 hq'; exact hq⟩⟩
/-- A cell of a box is set. -/
theorem ExB.setOp {u : World} {X : Nat} {kd op : Int} {no : Bool} {ps : Option Addr} {cs : Nat} {sub : List Qu} (h : ExB u X (bareEx kd op no ps cs sub)) (op' : Int) : ExB (u.setCell ⟨X, 1, none⟩ (.int .i64 op')) X (bareEx kd op' no ps cs sub) := by
  obtain ⟨hl, c0, c1, c2, c3, c4, c5, c6, c7, c8, c9, fz⟩ := h
  refine ⟨by simpa [World.setCell] using hl, ?_, ?_, ?_, ?_, ?_, ?_, ?_, ?_, ?_, ?_, fun o => by rw [World.frozen?_setCell]; exact fz o⟩
  all_goals simp only [Ex.mk_k, Ex.mk_op, Ex.mk_no, Ex.mk_vk, Ex.mk_vi, Ex.mk_vt, Ex.mk_tb, Ex.mk_nm, Ex.mk_pa, Ex.mk_ca, Ex.mk_args, Ex.mk_ps, Ex.mk_cs, Ex.mk_sub] at *
  all_goals go_simp
theorem ExB.setNo {u : World} {X : Nat} {kd op : Int} {no : Bool} {ps : Option Addr} {cs : Nat} {sub : List Qu} (h : ExB u X (bareEx kd op no ps cs sub)) (no' : Bool) : ExB (u.setCell ⟨X, 2, none⟩ (.bool no')) X (bareEx kd op no' ps cs sub) := by
  obtain ⟨hl, c0, c1, c2, c3, c4, c5, c6, c7, c8, c9, fz⟩ := h
  refine ⟨by simpa [World.setCell] using hl, ?_, ?_, ?_, ?_, ?_, ?_, ?_, ?_, ?_, ?_, fun o => by rw [World.frozen?_setCell]; exact fz o⟩
  all_goals simp only [Ex.mk_k, Ex.mk_op, Ex.mk_no, Ex.mk_vk, Ex.mk_vi, Ex.mk_vt, Ex.mk_tb, Ex.mk_nm, Ex.mk_pa, Ex.mk_ca, Ex.mk_args, Ex.mk_ps, Ex.mk_cs, Ex.mk_sub] at *
  all_goals go_simp
theorem ExB.setSub {u : World} {X : Nat} {kd op : Int} {no : Bool} {ps : Option Addr} {cs : Nat} {sub : List Qu} (h : ExB u X (bareEx kd op no ps cs sub)) (p : Option Addr) (c : Nat) (q : Qu) : ExB (u.setCell ⟨X, 9, none⟩ (.slice p 1 c)) X (bareEx kd op no p c [q]) := by
  obtain ⟨hl, c0, c1, c2, c3, c4, c5, c6, c7, c8, c9, fz⟩ := h
  refine ⟨by simpa [World.setCell] using hl, ?_, ?_, ?_, ?_, ?_, ?_, ?_, ?_, ?_, ?_, fun o => by rw [World.frozen?_setCell]; exact fz o⟩
  all_goals simp only [Ex.mk_k, Ex.mk_op, Ex.mk_no, Ex.mk_vk, Ex.mk_vi, Ex.mk_vt, Ex.mk_tb, Ex.mk_nm, Ex.mk_pa, Ex.mk_ca, Ex.mk_args, Ex.mk_ps, Ex.mk_cs, Ex.mk_sub, List.length_singleton] at *
  all_goals go_simp
/-- A query that is made in the box Y. -/
structure QbAt (b X Y D : Nat) (w : World) (kd : Int) (fr : ByteArray) (pi : Option Addr) (ci : Nat) (items : List Ex) (pw : Option Addr) (cw : Nat) (wh : List Ex) (u : World) : Prop where
  an : AnW b w u
  box : ExB u X (bareEx kd 0 false none 0 [])
  xw : w.heap.size < X
  qb : QuBx u Y ⟨kd == 8, pi, ci, items, fr, pw, cw, wh⟩
  yx : X < Y
  frs : fr.size ≤ 9223372036854775807
  its : LAt (fun c => Y < c) u (ExAt (fun c => Y < c) u D) pi items
  whs : LAt (fun c => Y < c) u (ExAt (fun c => Y < c) u D) pw wh
theorem QbAt.next {b X Y D : Nat} {w u v : World} {kd : Int} {fr : ByteArray} {pi : Option Addr} {ci : Nat} {items : List Ex} {pw : Option Addr} {cw : Nat} {wh : List Ex} (h : QbAt b X Y D w kd fr pi ci items pw cw wh u) (hs : StepT b u v) (ht : TapeAt v b) : QbAt b X Y D w kd fr pi ci items pw cw wh v := by
  have hlt := h.an.lt
  have := h.xw
  have := h.yx
  exact ⟨h.an.next hs ht, h.box.step hs (by omega), h.xw, h.qb.step hs (by omega), h.yx, h.frs, h.its.step hs (fun c hc => by omega), h.whs.step hs (fun c hc => by omega)⟩
/-- A literal list of one expression. -/
theorem one_ex {N : Nat → Prop} {u : World} {D : Nat} {E : Ex} (h : ExAt N u D E) (hN : N u.heap.size) (t : TypeId) :
    LAt N (u.alloc (.cells #[.int .i64 E.k, .int .i64 E.op, .bool E.no, .int .i64 E.vk, .int .i64 E.vi, .string E.vt, .string E.tb, .string E.nm, .slice E.pa E.args.length E.ca, .slice E.ps E.sub.length E.cs] t)) (ExAt N (u.alloc (.cells #[.int .i64 E.k, .int .i64 E.op, .bool E.no, .int .i64 E.vk, .int .i64 E.vi, .string E.vt, .string E.tb, .string E.nm, .slice E.pa E.args.length E.ca, .slice E.ps E.sub.length E.cs] t)) D) (some ⟨u.heap.size, 0, none⟩) [E] := by
  intro i hi
  have hi0 : i = 0 := by simpa using hi
  subst hi0
  obtain ⟨hl, c0, c1, c2, c3, c4, c5, c6, c7, c8, c9, -⟩ := ExB.new u E t
  exact ⟨u.heap.size, 0, rfl, hl, hN, ⟨c0, c1, c2, c3, c4, c5, c6, c7, c8, c9⟩, h.low (below_alloc _ _)⟩
theorem QbAt.items {b X Y D : Nat} {w u : World} {kd : Int} {fr : ByteArray} {pi : Option Addr} {ci : Nat} {items : List Ex} {pw : Option Addr} {cw : Nat} {wh : List Ex} (h : QbAt b X Y D w kd fr pi ci items pw cw wh u) {E : Ex} (hE : ExAt (fun c => Y < c) u D E) (t : TypeId) :
    QbAt b X Y D w kd fr (some ⟨u.heap.size, 0, none⟩) 1 [E] pw cw wh ((u.setCell ⟨Y, 1, none⟩ (.slice (some ⟨u.heap.size, 0, none⟩) 1 1)).alloc (.cells #[.int .i64 E.k, .int .i64 E.op, .bool E.no, .int .i64 E.vk, .int .i64 E.vi, .string E.vt, .string E.tb, .string E.nm, .slice E.pa E.args.length E.ca, .slice E.ps E.sub.length E.cs] t)) := by
  rw [← World.setCell_alloc_past _ _ _ _ h.qb.lt]
  have hb := below_alloc u (.cells #[.int .i64 E.k, .int .i64 E.op, .bool E.no, .int .i64 E.vk, .int .i64 E.vi, .string E.vt, .string E.tb, .string E.nm, .slice E.pa E.args.length E.ca, .slice E.ps E.sub.length E.cs] t)
  have hone := one_ex hE h.qb.lt t
  have hq := h.qb.low hb
  have h2 := h.next (StepT.of_below hb) (h.an.tape.below hb)
  generalize u.alloc (.cells #[.int .i64 E.k, .int .i64 E.op, .bool E.no, .int .i64 E.vk, .int .i64 E.vi, .string E.vt, .string E.tb, .string E.nm, .slice E.pa E.args.length E.ca, .slice E.ps E.sub.length E.cs] t) = v at *
  generalize u.heap.size = Z at *
  have hx := (ButX.refl Y v).set 1 none (.slice (some ⟨Z, 0, none⟩) 1 1)
  have := h.xw
  have := h.yx
  have hN : ∀ c, c < v.heap.size → Y < c → c ≠ Y ∧ Y < c := fun c _ hc => ⟨by omega, hc⟩
  refine ⟨h2.an.but hx (by omega), h2.box.but hx (by omega), h.xw, ?_, h.yx, h.frs, hone.but hx hN, h2.whs.but hx hN⟩
  obtain ⟨hl, c0, c1, c2, c3, fz⟩ := hq
  refine ⟨by simpa [World.setCell] using hl, ?_, ?_, ?_, ?_, fun o => by rw [World.frozen?_setCell]; exact fz o⟩
  all_goals simp only [List.length_singleton] at *
  all_goals go_simp
theorem QbAt.wheres {b X Y D : Nat} {w u : World} {kd : Int} {fr : ByteArray} {pi : Option Addr} {ci : Nat} {items : List Ex} {pw : Option Addr} {cw : Nat} {wh : List Ex} (h : QbAt b X Y D w kd fr pi ci items pw cw wh u) {E : Ex} (hE : ExAt (fun c => Y < c) u D E) (t : TypeId) :
    QbAt b X Y D w kd fr pi ci items (some ⟨u.heap.size, 0, none⟩) 1 [E] ((u.setCell ⟨Y, 3, none⟩ (.slice (some ⟨u.heap.size, 0, none⟩) 1 1)).alloc (.cells #[.int .i64 E.k, .int .i64 E.op, .bool E.no, .int .i64 E.vk, .int .i64 E.vi, .string E.vt, .string E.tb, .string E.nm, .slice E.pa E.args.length E.ca, .slice E.ps E.sub.length E.cs] t)) := by
  rw [← World.setCell_alloc_past _ _ _ _ h.qb.lt]
  have hb := below_alloc u (.cells #[.int .i64 E.k, .int .i64 E.op, .bool E.no, .int .i64 E.vk, .int .i64 E.vi, .string E.vt, .string E.tb, .string E.nm, .slice E.pa E.args.length E.ca, .slice E.ps E.sub.length E.cs] t)
  have hone := one_ex hE h.qb.lt t
  have hq := h.qb.low hb
  have h2 := h.next (StepT.of_below hb) (h.an.tape.below hb)
  generalize u.alloc (.cells #[.int .i64 E.k, .int .i64 E.op, .bool E.no, .int .i64 E.vk, .int .i64 E.vi, .string E.vt, .string E.tb, .string E.nm, .slice E.pa E.args.length E.ca, .slice E.ps E.sub.length E.cs] t) = v at *
  generalize u.heap.size = Z at *
  have hx := (ButX.refl Y v).set 3 none (.slice (some ⟨Z, 0, none⟩) 1 1)
  have := h.xw
  have := h.yx
  have hN : ∀ c, c < v.heap.size → Y < c → c ≠ Y ∧ Y < c := fun c _ hc => ⟨by omega, hc⟩
  refine ⟨h2.an.but hx (by omega), h2.box.but hx (by omega), h.xw, ?_, h.yx, h.frs, h2.its.but hx hN, hone.but hx hN⟩
  obtain ⟨hl, c0, c1, c2, c3, fz⟩ := hq
  refine ⟨by simpa [World.setCell] using hl, ?_, ?_, ?_, ?_, fun o => by rw [World.frozen?_setCell]; exact fz o⟩
  all_goals simp only [List.length_singleton] at *
  all_goals go_simp
/-- The query is put into the expression. -/
theorem QbAt.put {b X Y D : Nat} {w u : World} {kd : Int} {fr : ByteArray} {pi : Option Addr} {ci : Nat} {items : List Ex} {pw : Option Addr} {cw : Nat} {wh : List Ex} (h : QbAt b X Y D w kd fr pi ci items pw cw wh u) (h8 : 8 ≤ kd) (h12 : kd ≤ 12) (hli : items.length = itemN kd) (hlw : wh.length ≤ 1) (hfr : srcB fr = true) (hVi : ∀ a ∈ items, vE D a = true) (hVw : ∀ a ∈ wh, vE D a = true) (t : TypeId) :
    SwAt b X D w kd 0 0 false (some ⟨u.heap.size, 0, none⟩) 1 [⟨kd == 8, pi, ci, items, fr, pw, cw, wh⟩] ((u.setCell ⟨X, 9, none⟩ (.slice (some ⟨u.heap.size, 0, none⟩) 1 1)).alloc (.cells #[.bool (kd == 8), .slice pi items.length ci, .string fr, .slice pw wh.length cw] t)) := by
  rw [← World.setCell_alloc_past _ _ _ _ h.box.lt]
  have hb := below_alloc u (.cells #[.bool (kd == 8), .slice pi items.length ci, .string fr, .slice pw wh.length cw] t)
  obtain ⟨hl, c0, c1, c2, c3, -⟩ := QuBx.new u ⟨kd == 8, pi, ci, items, fr, pw, cw, wh⟩ t
  have h2 := h.next (StepT.of_below hb) (h.an.tape.below hb)
  have hZ : Y < u.heap.size := h.qb.lt
  simp only at hl c0 c1 c2 c3
  generalize u.alloc (.cells #[.bool (kd == 8), .slice pi items.length ci, .string fr, .slice pw wh.length cw] t) = v at *
  generalize u.heap.size = Z at *
  have hx := (ButX.refl X v).set 9 none (.slice (some ⟨Z, 0, none⟩) 1 1)
  have := h.xw
  have hyx := h.yx
  have hN : ∀ c, c < v.heap.size → Y < c → c ≠ X ∧ X < c := fun c _ hc => ⟨by omega, by omega⟩
  refine ⟨h2.an.but hx (by omega), h2.box.setSub _ _ _, h.xw, ?_, Nat.le_refl _, Nat.zero_le _, good_sub h8 h12 (quB_mk (by rfl) hli hlw hfr hVi hVw)⟩
  intro i hi
  have hi0 : i = 0 := by simpa using hi
  subst hi0
  refine ⟨Z, 0, rfl, by rw [hx.size]; exact hl, by omega, QuC.keep (u := v) ⟨c0, c1, c2, c3⟩ (hx.block Z (by omega)), ⟨h.frs, ?_, ?_, h2.its.but hx hN, h2.whs.but hx hN⟩⟩
  · show items.length ≤ _; rw [hli]; unfold itemN; split <;> omega
  · show wh.length ≤ _; omega
end Go.Proofs.YtlpaphgmdcpmaaaGreatDoor
