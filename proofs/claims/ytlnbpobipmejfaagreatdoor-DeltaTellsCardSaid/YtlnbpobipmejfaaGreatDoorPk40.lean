/-
  Several texts in one.
-/
import Derived.Test.YtlnbpobipmejfaaGreatDoorPk39
import Derived.Test.YtlnbpobipmejfaaGreatDoorPk33
import Derived.Test.YtlnbpobipmejfaaGreatDoorPk32
import Derived.Test.YtlnbpobipmejfaaGreatDoorPk23
import Derived.Deep.RegionLaw
/-
  spoiled of the law of package delta, the plain part: rows of a difference in memory as values; a difference with one of its lists turned.
-/
namespace Go.Proofs.YtlnbpobipmejfaaGreatDoor
set_option maxRecDepth 100000
open Go.RowKit
variable {ls : List Nat}

/-- The rows of a difference that the tape leaves alone, as values. -/
theorem trows_list {b : Nat} {w : World} {pi : Option Addr} {I : List TRow} (HP : ∀ v, StepT b w v → TRowsAt v pi I) : ∀ m, m ≤ I.length → ∃ G : List GRow, G.length = m ∧ tabR G = I.take m ∧
    (∀ v, StepT b w v → ∀ g ∈ G, Holds v (g.2.1, g.2.2)) ∧
    (∀ v, StepT b w v → ∀ i (hi : i < G.length), ∃ c o, pi = some ⟨c, o, none⟩ ∧ v.cell? ⟨c, o + i * 2, none⟩ = some (.int .i64 G[i].1) ∧ v.cell? ⟨c, o + i * 2 + 1, none⟩ = some G[i].2.1) := by
  intro m
  induction m with
  | zero => intro _; exact ⟨[], rfl, rfl, fun _ _ x hx => (by cases hx), fun _ _ i hi => (by simp at hi)⟩
  | succ m ih =>
    intro hm
    obtain ⟨P, hP, hU, hG, hC⟩ := ih (by omega)
    have hmU : m < I.length := by omega
    obtain ⟨c, o, q, cq, hp, hc, h0, h1, -, hl1, hq⟩ := HP w (StepT.refl b w) m hmU
    subst hp
    have hcb : c ≠ b := fun e => by
      subst e
      obtain ⟨c', o', q', cq', hp', -, k0, -⟩ := HP _ (bare_step c w) m hmU
      cases hp'
      exact bare_cell k0
    have hrow : ∀ v, StepT b w v → RowAt v q (tAt I m).2 := fun v hv => by
      obtain ⟨c', o', q', cq', hp', -, -, k1, hr1, -⟩ := HP v hv m hmU
      cases hp'
      rw [hv.cell (by exact hc) (by exact hcb), h1] at k1
      injection k1 with k1
      injection k1 with e1
      subst e1
      exact hr1
    refine ⟨P ++ [((tAt I m).1, .slice q (tAt I m).2.length cq, (tAt I m).2)], by rw [List.length_append, hP]; rfl, ?_, ?_, ?_⟩
    · rw [tabR_append, hU, take_trow hmU]
      rfl
    · intro v hv x hx
      rcases List.mem_append.1 hx with hx | hx
      · exact hG v hv x hx
      · obtain rfl := List.mem_singleton.1 hx
        exact ⟨q, cq, rfl, hrow v hv, hl1, hq⟩
    · intro v hv i hi
      by_cases him : i < P.length
      · obtain ⟨c', o', hp', k0, k1⟩ := hC v hv i him
        rw [List.getElem_append_left him]
        exact ⟨c', o', hp', k0, k1⟩
      · have : i = m := by rw [List.length_append, hP] at hi; simp at hi; omega
        subst this
        rw [List.getElem_append_right (by omega)]
        simp only [hP, Nat.sub_self, List.getElem_cons_zero]
        exact ⟨c, o, rfl, by rw [hv.cell (by exact hc) (by exact hcb)]; exact h0, by rw [hv.cell (by exact hc) (by exact hcb)]; exact h1⟩
theorem tcells_get (G : List GRow) (i : Nat) (h : i < G.length) : (tcells G)[i * 2]? = some (.int .i64 G[i].1) ∧ (tcells G)[i * 2 + 1]? = some G[i].2.1 := by
  have := tcells_at G i h
  unfold grAt at this
  rw [List.getD, List.getElem?_eq_getElem h] at this
  exact this
theorem trows_news {v : World} {pi : Option Addr} {G : List GRow} (h : ∀ i (hi : i < G.length), ∃ c o, pi = some ⟨c, o, none⟩ ∧ v.cell? ⟨c, o + i * 2, none⟩ = some (.int .i64 G[i].1) ∧ v.cell? ⟨c, o + i * 2 + 1, none⟩ = some G[i].2.1) (ad : Addr) (hp : pi = some ad) :
    ∀ j y, (tcells G)[j]? = some y → v.cell? (ad.add j) = some y := by
  intro j y hj
  have hlt := (List.getElem?_eq_some_iff.1 hj).1
  rw [tcells_length] at hlt
  obtain ⟨i, k, hk, rfl⟩ : ∃ i k, k < 2 ∧ j = i * 2 + k := ⟨j / 2, j % 2, Nat.mod_lt _ (by decide), by omega⟩
  have hi : i < G.length := by omega
  obtain ⟨c, o, hpu, k0, k1⟩ := h i hi
  rw [hp] at hpu
  cases hpu
  obtain ⟨e0, e1⟩ := tcells_get G i hi
  have hadd : ∀ m, (⟨c, o, none⟩ : Addr).add m = ⟨c, o + m, none⟩ := fun m => by unfold Addr.add; split <;> simp_all
  rw [hadd]
  obtain rfl | rfl : k = 0 ∨ k = 1 := by omega
  · rw [Nat.add_zero] at hj ⊢
    rw [e0] at hj
    rw [k0]; exact hj
  · rw [e1] at hj
    rw [← Nat.add_assoc, k1]; exact hj
theorem trows_nil {v : World} {pi : Option Addr} {G : List GRow} (h : ∀ i (hi : i < G.length), ∃ c o, pi = some ⟨c, o, none⟩ ∧ v.cell? ⟨c, o + i * 2, none⟩ = some (.int .i64 G[i].1) ∧ v.cell? ⟨c, o + i * 2 + 1, none⟩ = some G[i].2.1) (hp : pi = none) : tcells G = [] := by
  cases G with
  | nil => rfl
  | cons x G => obtain ⟨c, o, hp', -⟩ := h 0 (Nat.succ_pos _); rw [hp] at hp'; cases hp'
theorem tcells_one {v : World} {G : List GRow} (h : ∀ g ∈ G, Holds v (g.2.1, g.2.2)) : ∀ y ∈ tcells G, y.oneCell' = true := by
  intro y hy
  unfold tcells at hy
  obtain ⟨x, hx, hy⟩ := List.mem_flatMap.1 hy
  simp only [List.mem_cons, List.not_mem_nil, or_false] at hy
  rcases hy with rfl | rfl
  · rfl
  · exact (h x hx).one
theorem trowsAt_own {base : Nat} {v : World} {p : Option Addr} {n c : Nat} {G : List GRow} (h : v.ownsRow base 58 2 (.slice p n c) G.length (tcells G)) (hG : ∀ g ∈ G, Holds v (g.2.1, g.2.2)) : TRowsAt v p (tabR G) := by
  intro i hi
  have hi' : i < G.length := by rw [tabR_length] at hi; exact hi
  obtain ⟨q, cq, hx, hr, hl, hq⟩ := hG _ (List.getElem_mem hi')
  obtain ⟨e0, e1⟩ := tcells_get G i hi'
  obtain ⟨b, hp, hc, k0⟩ := own_cell h e0
  obtain ⟨b', hp', -, k1⟩ := own_cell h e1
  rw [hp] at hp'
  cases hp'
  have e : tAt (tabR G) i = (G[i].1, G[i].2.2) := by
    rw [tabR_at hi']
    unfold grAt
    rw [List.getD, List.getElem?_eq_getElem hi']; rfl
  rw [e]
  exact ⟨b, 0, q, cq, hp, hc, k0, by rw [Nat.add_assoc, ← hx]; exact k1, hr, hl, hq⟩
theorem towns_empty (w : World) : (w.alloc (.cells #[] 58)).ownsRow w.heap.size 58 2 (.slice (some ⟨w.heap.size, 0, none⟩) 0 0) 0 (tcells []) := by
  refine ⟨rfl, Or.inr ⟨w.heap.size, 0, #[], rfl, Nat.le_refl _, ?_, Nat.le_refl _, by decide, rfl, rfl⟩⟩
  show (w.heap.push _)[w.heap.size]? = _
  simp
theorem towns_one (w : World) (id : Int) : (w.alloc (.cells #[.int .i64 id, .slice none 0 0] 58)).ownsRow w.heap.size 58 2 (.slice (some ⟨w.heap.size, 0, none⟩) 1 1) 1 (tcells [(id, .slice none 0 0, [])]) := by
  refine ⟨rfl, Or.inr ⟨w.heap.size, 1, #[.int .i64 id, .slice none 0 0], rfl, Nat.le_refl _, ?_, Nat.le_refl _, by decide, rfl, rfl⟩⟩
  show (w.heap.push _)[w.heap.size]? = _
  simp
/-- Two zero values. -/
def zz2 : List Val := [(0, 0, ⟨#[]⟩), (0, 0, ⟨#[]⟩)]
theorem zz2_sized : ValsSized zz2 := fun i hi => by
  have : i = 0 ∨ i = 1 := by have : i < 2 := hi; omega
  rcases this with rfl | rfl <;> decide
theorem holds_zz2 (w : World) : Holds (w.alloc (.cells #[.int .i64 0, .int .i64 0, .string ⟨#[]⟩, .int .i64 0, .int .i64 0, .string ⟨#[]⟩] 55)) (.slice (some ⟨w.heap.size, 0, none⟩) 2 2, zz2) := by
  refine ⟨some ⟨w.heap.size, 0, none⟩, 2, rfl, fun i hi => ?_, (by show 2 * 32 ≤ 140737488355328; omega), fun e => by cases e⟩
  have hlt : w.heap.size < (w.alloc (.cells #[.int .i64 0, .int .i64 0, .string ⟨#[]⟩, .int .i64 0, .int .i64 0, .string ⟨#[]⟩] 55)).heap.size := by rw [size_alloc]; exact Nat.lt_succ_self _
  have : i = 0 ∨ i = 1 := by have : i < 2 := hi; omega
  rcases this with rfl | rfl
  · exact ⟨w.heap.size, 0, rfl, hlt, by go_simp; rfl, by go_simp; rfl, by go_simp; rfl⟩
  · exact ⟨w.heap.size, 0, rfl, hlt, by go_simp; rfl, by go_simp; rfl, by go_simp; rfl⟩
section
variable {base n4 c4 : Nat} {W : World} {E : Dlt} {p4 : Option Addr}
theorem dlt_nm {nm : ByteArray} (h : DltAt W E) (hn : nm.size ≤ 9223372036854775807) : DltAt W ⟨nm, E.pi, E.ci, E.I, E.pd, E.cd, E.D, E.pu, E.cu, E.U⟩ :=
  ⟨hn, h.ins, h.del, h.upd, h.il, h.dl, h.ul, h.isz, h.dsz, h.osz, h.usz, h.icap, h.dcap, h.ucap⟩
theorem dlt_ins {G : List GRow} (h : DltAt W E) (ho : W.ownsRow base 58 2 (.slice p4 n4 c4) G.length (tcells G)) (hG : ∀ g ∈ G, Holds W (g.2.1, g.2.2) ∧ ValsSized g.2.2) (hl : G.length ≤ 1000) :
    DltAt W ⟨E.nm, p4, c4, tabR G, E.pd, E.cd, E.D, E.pu, E.cu, E.U⟩ :=
  ⟨h.name, trowsAt_own ho fun g hg => (hG g hg).1, h.del, h.upd, by dsimp only; rw [tabR_length]; exact hl, h.dl, h.ul, fun r hr => by
    obtain ⟨g, hg, rfl⟩ := List.mem_map.1 hr
    exact (hG g hg).2, h.dsz, h.osz, h.usz, by dsimp only; rw [tabR_length]; exact (own_len ho).2, h.dcap, h.ucap⟩
theorem dlt_del {G : List GRow} (h : DltAt W E) (ho : W.ownsRow base 58 2 (.slice p4 n4 c4) G.length (tcells G)) (hG : ∀ g ∈ G, Holds W (g.2.1, g.2.2) ∧ ValsSized g.2.2) (hl : G.length ≤ 1000) :
    DltAt W ⟨E.nm, E.pi, E.ci, E.I, p4, c4, tabR G, E.pu, E.cu, E.U⟩ :=
  ⟨h.name, h.ins, trowsAt_own ho fun g hg => (hG g hg).1, h.upd, h.il, by dsimp only; rw [tabR_length]; omega, h.ul, h.isz, fun r hr => by
    obtain ⟨g, hg, rfl⟩ := List.mem_map.1 hr
    exact (hG g hg).2, h.osz, h.usz, h.icap, by dsimp only; rw [tabR_length]; exact (own_len ho).2, h.ucap⟩
theorem dlt_upd {P : List GPair} (h : DltAt W E) (ho : W.ownsRow base 75 3 (.slice p4 n4 c4) P.length (pcells P)) (hG : ∀ x ∈ P, (Holds W x.2.1 ∧ Holds W x.2.2) ∧ ValsSized x.2.1.2 ∧ ValsSized x.2.2.2) (hl : P.length ≤ 1000) :
    DltAt W ⟨E.nm, E.pi, E.ci, E.I, E.pd, E.cd, E.D, p4, c4, P.map unP⟩ :=
  ⟨h.name, h.ins, h.del, pairsAt_own ho fun x hx => (hG x hx).1, h.il, h.dl, by dsimp only; rw [List.length_map]; omega, h.isz, h.dsz, fun p hp => by
    obtain ⟨x, hx, rfl⟩ := List.mem_map.1 hp
    exact (hG x hx).2.1, fun p hp => by
    obtain ⟨x, hx, rfl⟩ := List.mem_map.1 hp
    exact (hG x hx).2.2, h.icap, h.dcap, by dsimp only; rw [List.length_map]; exact (own_len ho).2⟩
end
end Go.Proofs.YtlnbpobipmejfaaGreatDoor
/-
  Plain: the rows of a table, with what the difference to a later state takes, changes and brings, are the rows of that state.
-/
namespace Go.Proofs.YtlnbpobipmejfaaGreatDoor
set_option maxRecDepth 100000
open Go.RowKit
variable {ls : List Nat}

/-- The numbers of the rows go up. -/
def Asc (R : List TRow) : Prop := (R.map (·.1)).Pairwise (· < ·)
section
variable {A B L M R : List TRow} {nx : Int}
theorem Asc.tail {r : TRow} (h : Asc (r :: R)) : Asc R := (List.pairwise_cons.1 h).2
theorem Asc.head {r : TRow} (h : Asc (r :: R)) : ∀ x ∈ R, r.1 < x.1 := fun x hx => (List.pairwise_cons.1 h).1 x.1 (List.mem_map.2 ⟨x, hx, rfl⟩)
theorem asc_ext : ∀ {L M : List TRow}, Asc L → Asc M → (∀ r, r ∈ L ↔ r ∈ M) → L = M
  | [], [], _, _, _ => rfl
  | [], m :: M, _, _, h => by have := (h m).2 List.mem_cons_self; cases this
  | l :: L, [], _, _, h => by have := (h l).1 List.mem_cons_self; cases this
  | l :: L, m :: M, hL, hM, h => by
    have hlm : l = m := by
      rcases List.mem_cons.1 ((h l).1 List.mem_cons_self) with h1 | h1
      · exact h1
      · rcases List.mem_cons.1 ((h m).2 List.mem_cons_self) with h2 | h2
        · exact h2.symm
        · have a := hM.head l h1
          have b := hL.head m h2
          omega
    subst hlm
    rw [asc_ext (L := L) (M := M) hL.tail hM.tail fun r => ⟨fun hr => by
      rcases List.mem_cons.1 ((h r).1 (List.mem_cons_of_mem _ hr)) with h1 | h1
      · subst h1; have := hL.head r hr; omega
      · exact h1, fun hr => by
      rcases List.mem_cons.1 ((h r).2 (List.mem_cons_of_mem _ hr)) with h1 | h1
      · subst h1; have := hM.head r hr; omega
      · exact h1⟩]
theorem getR_cons {id : Int} {r : TRow} : getR id (r :: R) = if r.1 = id then some r.2 else getR id R := by
  unfold getR
  rw [List.find?_cons]
  by_cases h : r.1 = id
  · simp [h]
  · simp [h]
theorem getR_in : ∀ {R : List TRow}, Asc R → ∀ r ∈ R, getR r.1 R = some r.2
  | [], _, r, hr => by cases hr
  | x :: R, h, r, hr => by
    rw [getR_cons]
    rcases List.mem_cons.1 hr with rfl | hr
    · rw [if_pos rfl]
    · rw [if_neg (by have := h.head r hr; omega)]
      exact getR_in h.tail r hr
theorem newV_upd (hA : Asc A) (hB : Asc B) {a : TRow} (ha : a ∈ A) {l : List Val} (hl : getR a.1 B = some l) : newV (updR A B) a = l := by
  unfold newV
  cases hf : (updR A B).find? fun p => decide (p.1 = a.1) with
  | some p =>
    have hp := List.mem_of_find?_eq_some hf
    have hp1 : p.1 = a.1 := by
      have h9 := List.find?_some hf
      exact of_decide_eq_true h9
    obtain ⟨r, hr, hu⟩ := List.mem_filterMap.1 hp
    unfold updP at hu
    cases hg : getR r.1 A with
    | none => rw [hg] at hu; cases hu
    | some l0 =>
      rw [hg] at hu
      dsimp only at hu
      split at hu
      · cases hu
      · obtain rfl := Option.some.inj hu
        have h1 := getR_in hB r hr
        have hp2 : r.1 = a.1 := hp1
        rw [hp2, hl] at h1
        exact (Option.some.inj h1).symm
  | none =>
    have hno := List.find?_eq_none.1 hf
    have hb := getR_mem hl
    have hg := getR_in hA a ha
    by_cases he : a.2 = l
    · exact he
    · exfalso
      have hu : updP A (a.1, l) = some (a.1, a.2, l) := by unfold updP; dsimp only; rw [hg]; dsimp only; rw [if_neg he]
      have := hno _ (List.mem_filterMap.2 ⟨_, hb, hu⟩)
      simp at this
theorem diff_leads (hA : Asc A) (hB : Asc B) (hlt : ∀ a ∈ A, a.1 < nx) (hn : NewR nx A B) : keptR ((delR A B).map (·.1)) (updR A B) A ++ insR A B = B := by
  have hdel : ∀ a ∈ A, (a.1 ∈ (delR A B).map (·.1) ↔ getR a.1 B = none) := fun a ha => ⟨fun h => by
    obtain ⟨x, hx, he⟩ := List.mem_map.1 h
    have h2 := (List.mem_filter.1 hx).2
    rw [← he]
    exact Option.isNone_iff_eq_none.1 h2, fun h => List.mem_map.2 ⟨a, List.mem_filter.2 ⟨ha, by rw [h]; rfl⟩, rfl⟩⟩
  refine asc_ext ?_ hB fun r => ⟨fun hr => ?_, fun hr => ?_⟩
  · unfold Asc
    rw [List.map_append]
    refine List.pairwise_append.2 ⟨kept_up hA, ?_, fun x hx y hy => ?_⟩
    · exact hB.sublist (List.Sublist.map _ List.filter_sublist)
    · obtain ⟨k, hk, rfl⟩ := List.mem_map.1 hx
      obtain ⟨i, hi, rfl⟩ := List.mem_map.1 hy
      obtain ⟨a, ha, rfl⟩ := List.mem_map.1 hk
      have h1 := hlt a (List.mem_filter.1 ha).1
      obtain ⟨hib, hin⟩ := List.mem_filter.1 hi
      rcases hn i hib with h2 | h2
      · have h3 := getR_isSome h2
        rw [Option.isNone_iff_eq_none.1 hin] at h3
        cases h3
      · show a.1 < i.1
        omega
  · rcases List.mem_append.1 hr with hr | hr
    · obtain ⟨a, ha, rfl⟩ := List.mem_map.1 hr
      obtain ⟨ha, hd⟩ := List.mem_filter.1 ha
      cases hg : getR a.1 B with
      | none => have := (hdel a ha).2 hg; simp [this] at hd
      | some l =>
        rw [newV_upd hA hB ha hg]
        exact getR_mem hg
    · exact (List.mem_filter.1 hr).1
  · cases hg : getR r.1 A with
    | none => exact List.mem_append_right _ (List.mem_filter.2 ⟨hr, by rw [hg]; rfl⟩)
    | some l =>
      refine List.mem_append_left _ (List.mem_map.2 ⟨(r.1, l), List.mem_filter.2 ⟨getR_mem hg, ?_⟩, ?_⟩)
      · have hb := getR_in hB r hr
        have : ¬ (r.1, l).1 ∈ (delR A B).map (·.1) := fun h => by
          have := (hdel (r.1, l) (getR_mem hg)).1 h
          dsimp only at this
          rw [hb] at this
          cases this
        simpa using this
      · show (r.1, newV (updR A B) (r.1, l)) = r
        rw [newV_upd hA hB (getR_mem hg) (getR_in hB r hr)]
theorem diff_self (hA : Asc A) : insR A A = [] ∧ delR A A = [] ∧ updR A A = [] := by
  have h : A.filter (fun r => (getR r.1 A).isNone) = [] := List.filter_eq_nil_iff.2 fun r hr => by rw [getR_in hA r hr]; simp
  refine ⟨h, h, ?_⟩
  unfold updR
  refine List.filterMap_eq_nil_iff.2 fun r hr => ?_
  unfold updP
  rw [getR_in hA r hr]
  dsimp only
  rw [if_pos rfl]
end
end Go.Proofs.YtlnbpobipmejfaaGreatDoor
/-
  Plain: what Apply of package delta computes; the difference to a later state can be applied.
-/
namespace Go.Proofs.YtlnbpobipmejfaaGreatDoor
set_option maxRecDepth 100000
open Go.RowKit
variable {ls : List Nat}

/-- The next number behind rows that are added, or none where a number was given before. -/
def addN : Int → List TRow → Option Int
  | nx, [] => some nx
  | nx, r :: I => if r.1 < nx then none else addN (wrap64 (r.1 + 1)) I
/-- Are these rows in the table, with their values? -/
def holdB (A D : List TRow) : Bool := D.all fun r => (getO r.1 A).2 && decide ((getO r.1 A).1 = r.2)
section
variable {A B I : List TRow} {nx M : Int} {n : Nat} {f : Nat → Col}
theorem addN_fine (h1 : ∀ r ∈ I, nx ≤ r.1 ∧ r.1 < M) (hI : Asc I) (h0 : 1 ≤ nx) (hM : nx ≤ M) (h2 : M ≤ 2147483648) : ∃ m, addN nx I = some m ∧ nx ≤ m ∧ m ≤ M ∧ ∀ r ∈ I, r.1 < m := by
  induction I generalizing nx with
  | nil => exact ⟨nx, rfl, Int.le_refl _, hM, fun r hr => by cases hr⟩
  | cons r I ih =>
    obtain ⟨ha, hb⟩ := h1 r List.mem_cons_self
    have hw : wrap64 (r.1 + 1) = r.1 + 1 := by unfold wrap64; omega
    obtain ⟨m, e, g1, g2, g3⟩ := ih (nx := r.1 + 1) (fun x hx => ⟨by have := hI.head x hx; omega, (h1 x (List.mem_cons_of_mem _ hx)).2⟩) hI.tail (by omega) (by omega)
    refine ⟨m, ?_, by omega, g2, fun x hx => ?_⟩
    · show (if r.1 < nx then none else addN (wrap64 (r.1 + 1)) I) = _
      rw [if_neg (by omega), hw, e]
    · rcases List.mem_cons.1 hx with rfl | hx
      · omega
      · exact g3 x hx
theorem updR_ids : ((updR A B).map (·.1)).Sublist (B.map (·.1)) := by
  unfold updR
  induction B with
  | nil => exact List.Sublist.slnil
  | cons r B ih =>
    cases hu : updP A r with
    | none => rw [List.filterMap_cons_none hu]; exact List.Sublist.cons _ ih
    | some u =>
      rw [List.filterMap_cons_some hu, List.map_cons, List.map_cons]
      have he : u.1 = r.1 := by
        unfold updP at hu
        split at hu
        · split at hu
          · cases hu
          · obtain rfl := Option.some.inj hu; rfl
        · cases hu
      rw [he]
      exact List.Sublist.cons_cons _ ih
theorem lead_agree (hA : Asc A) (hB : Asc B) : Agree A ((delR A B).map (·.1)) (updR A B) :=
  ⟨hA.sublist (List.Sublist.map _ List.filter_sublist), fun d hd => by
      obtain ⟨x, hx, rfl⟩ := List.mem_map.1 hd
      exact List.mem_map.2 ⟨x, (List.mem_filter.1 hx).1, rfl⟩,
    hB.sublist updR_ids, fun u hu => (updR_mem hu).1, fun u hu hd => by
      obtain ⟨x, hx, he⟩ := List.mem_map.1 hd
      have h2 := (List.mem_filter.1 hx).2
      rw [he, getR_in hB _ (updR_mem hu).2.1] at h2
      cases h2⟩
theorem fits_of {R : List TRow} (h : ∀ i, i < R.length → RowOK f n nx R i) {r : TRow} (hr : r ∈ R) : fitsRow f n r.2 = 0 ∧ 1 ≤ r.1 ∧ r.1 < nx := by
  obtain ⟨i, hi, rfl⟩ := List.getElem_of_mem hr
  obtain ⟨h1, h2, -, h4⟩ := h i hi
  rw [tAt_get hi] at h1 h2 h4
  exact ⟨h4, h1, h2⟩
theorem lead_hold (hA : ∀ i, i < A.length → RowOK f n nx A i) : holdB A (delR A B) = true := by
  unfold holdB
  rw [List.all_eq_true]
  intro r hr
  obtain ⟨h1, h2⟩ := (getO_iff hA r.1 r.2).2 (List.mem_filter.1 hr).1
  rw [h1, h2]
  simp
end
end Go.Proofs.YtlnbpobipmejfaaGreatDoor
/-
  add of package delta: rows put at the end of a table in a box.
-/
namespace Go.Proofs.YtlnbpobipmejfaaGreatDoor
set_option maxRecDepth 100000
open Go.RowKit
variable {ls : List Nat}

end Go.Proofs.YtlnbpobipmejfaaGreatDoor
