/-
  Facts about differences of bags; append of rows to a row of the call's own.
-/
import Derived.Test.YtlgagibmndbimaaDoorKnownTuple
namespace Go.Proofs.YtlgagibmndbimaaDoor
open Go.RowKit
variable {ls : List Nat}

theorem minR_nil_iff (A B : List (List Val)) : minR A B = [] ↔ ∀ r, A.count r ≤ B.count r := by
  constructor
  · intro h r
    have := minR_count A B r
    rw [h] at this
    simp at this
    omega
  · intro h
    rw [List.eq_nil_iff_forall_not_mem]
    intro r hr
    have h1 := List.count_pos_iff.2 hr
    have h2 := minR_count A B r
    have h3 := h r
    omega
theorem same_iff_minR (A B : List (List Val)) : srt A = srt B ↔ ((minR A B).length = 0 ∧ (minR B A).length = 0) := by
  rw [srt_eq_iff, List.perm_iff_count, List.length_eq_zero_iff, List.length_eq_zero_iff, minR_nil_iff, minR_nil_iff]
  exact ⟨fun h => ⟨fun r => Nat.le_of_eq (h r), fun r => Nat.le_of_eq (h r).symm⟩, fun h r => Nat.le_antisymm (h.1 r) (h.2 r)⟩
theorem minR_len (A B : List (List Val)) : A.length + (minR B A).length = B.length + (minR A B).length := by
  have h : (A ++ minR B A).Perm (B ++ minR A B) := List.perm_iff_count.2 fun r => by
    rw [List.count_append, List.count_append, minR_count, minR_count]
    omega
  simpa using h.length_eq
theorem minR_le (A B : List (List Val)) : (minR A B).length ≤ A.length := by
  have := (mrg_sub (srt A) (srt B)).length_le
  rw [srt_length] at this
  exact this
theorem Grid.rows2 {u : World} {base : Nat} {vo : Value} {G : List (Value × List Val)} (h : Grid u base vo G) : Rows2 u base vo G :=
  ⟨h.1, fun x hx => ⟨(h.2 x hx).1, by have := (h.2 x hx).2; omega⟩⟩
/-- Heads of rows. -/
def HeadsAt (u : World) (xs : List Value) (L : List (List Val)) : Prop :=
  xs.length = L.length ∧ ∀ i, i < L.length → ∃ (q : Option Addr) (cp : Nat), xs[i]? = some (.slice q (rAt L i).length cp) ∧ RowAt u q (rAt L i) ∧ (rAt L i).length * 32 ≤ 140737488355328 ∧ (q = none → rAt L i = [] ∧ cp = 0)
theorem HeadsAt.low {u v : World} {xs : List Value} {L : List (List Val)} (h : HeadsAt u xs L) (hb : Below u.heap.size u v) : HeadsAt v xs L :=
  ⟨h.1, fun i hi => by obtain ⟨q, cp, h0, h1, h2, h3⟩ := h.2 i hi; exact ⟨q, cp, h0, h1.low hb, h2, h3⟩⟩
theorem HeadsAt.one {u : World} {xs : List Value} {L : List (List Val)} (h : HeadsAt u xs L) : ∀ v ∈ xs, v.oneCell' = true := by
  intro v hv
  obtain ⟨i, hi, rfl⟩ := List.getElem_of_mem hv
  obtain ⟨q, cp, h0, -⟩ := h.2 i (h.1 ▸ hi)
  rw [List.getElem?_eq_getElem hi] at h0
  rw [Option.some.inj h0]
  rfl
theorem HeadsAt.nil (u : World) : HeadsAt u [] [] := ⟨rfl, fun i hi => by simp at hi⟩
theorem rAt_left {A B : List (List Val)} {i : Nat} (h : i < A.length) : rAt (A ++ B) i = rAt A i := by unfold rAt; rw [List.getD, List.getElem?_append_left h]; rfl
theorem rAt_right {A B : List (List Val)} {i : Nat} (h : A.length ≤ i) : rAt (A ++ B) i = rAt B (i - A.length) := by unfold rAt; rw [List.getD, List.getElem?_append_right h]; rfl
theorem HeadsAt.append {u : World} {xs ys : List Value} {A B : List (List Val)} (h : HeadsAt u xs A) (k : HeadsAt u ys B) : HeadsAt u (xs ++ ys) (A ++ B) := by
  refine ⟨by rw [List.length_append, List.length_append, h.1, k.1], fun i hi => ?_⟩
  rw [List.length_append] at hi
  by_cases hl : i < A.length
  · rw [rAt_left hl, List.getElem?_append_left (by rw [h.1]; exact hl)]
    exact h.2 i hl
  · rw [rAt_right (by omega), List.getElem?_append_right (by rw [h.1]; omega), h.1]
    exact k.2 (i - A.length) (by omega)
theorem Rows2.heads {u : World} {base : Nat} {vo : Value} {G : List (Value × List Val)} (h : Rows2 u base vo G) : HeadsAt u (G.map (·.1)) (G.map (·.2)) := by
  refine ⟨by rw [List.length_map, List.length_map], fun i hi => ?_⟩
  rw [List.length_map] at hi
  have hmem : gAt G i ∈ G := gAt_mem hi
  obtain ⟨hown, hlen⟩ := h.2 _ hmem
  obtain ⟨hv, hr, hn⟩ := owned_shape hown
  rw [gAt_row hi] at hv hr hn hlen
  refine ⟨_, _, ?_, hr, hlen, hn⟩
  rw [← hv, List.getElem?_map, List.getElem?_eq_getElem hi]
  simp [gAt, hi]
/-- The cells of a row of the call's own. -/
theorem own_src {u : World} {base n : Nat} {e : TypeId} {v : Value} {xs : List Value} (h : u.ownsRow base e 1 v n xs) :
    v = .slice (rowP v) n (rowC v) ∧ (∀ ad, rowP v = some ad → ∀ j x, xs[j]? = some x → u.cell? (ad.add j) = some x) ∧ (rowP v = none → n = 0 ∧ xs = [] ∧ rowC v = 0) := by
  have hl := h.1
  rcases h.2 with ⟨rfl, h0⟩ | ⟨g, cap', cur, rfl, hg, hh, hcap, hm, hcur, htake⟩
  · refine ⟨by rw [h0]; rfl, (fun ad h => by cases h), fun _ => ⟨h0, List.eq_nil_of_length_eq_zero (by omega), rfl⟩⟩
  · refine ⟨rfl, fun ad had j x hj => ?_, fun h => by cases h⟩
    obtain rfl := Option.some.inj had
    have hj' : cur.toList[j]? = some x := by
      rw [← htake, List.getElem?_take] at hj
      split at hj
      · exact hj
      · cases hj
    rw [show (⟨g, 0, none⟩ : Addr).add j = ⟨g, j, none⟩ from by simp [Addr.add]; omega]
    simp [World.cell?, hh]
    simpa using hj'
theorem rows_of_heads {u : World} {base n : Nat} {v : Value} {xs : List Value} {L : List (List Val)} (h : u.ownsRow base 25 1 v n xs) (hH : HeadsAt u xs L) : RowsAt u (rowP v) L := by
  intro i hi
  obtain ⟨q, cp, h0, h1, h2, h3⟩ := hH.2 i hi
  obtain ⟨-, hs, hn⟩ := own_src h
  rcases h.2 with ⟨rfl, hz⟩ | ⟨g, cap', cur, rfl, hg, hh, hcap, hm, hcur, htake⟩
  · have := hn rfl; rw [this.2.1] at h0; simp at h0
  · exact ⟨g, 0, q, cp, rfl, (Array.getElem?_eq_some_iff.1 hh).1, by have := hs _ rfl i _ h0; rw [show (⟨g, 0, none⟩ : Addr).add i = ⟨g, 0 + i, none⟩ from by simp [Addr.add]; omega] at this; exact this, h1, h2, h3⟩
theorem wpList_append_heads {w : World} {ops : Array Oper} {rest : List Oper} {o : Oper} {a : Act} {Q : Exit → Act → World → Prop} (hgd : o.guard = none) (s x : Operand)
    (ho : o.op = .call { callee := .builtin .append, args := #[s, x], argTypes := #[39, 39] })
    (base : Nat) (v : Value) (n : Nat) (xs : List Value) (hs : a.eval s = v) (hown : w.ownsRow base 25 1 v n xs)
    (base' : Nat) (vx : Value) (m : Nat) (ys : List Value) (hx : a.eval x = vx) (hsrc : w.ownsRow base' 25 1 vx m ys) (h1 : ∀ u ∈ ys, u.oneCell' = true) (hsum : (n + m) * 24 ≤ 140737488355328) (hbase : base ≤ w.heap.size)
    (h : ∀ v' w', w'.ownsRow base 25 1 v' (n + m) (xs ++ ys) → w.grownBy w' v.ownBlock → wpList Tryd.prog ops Q rest (a.put o.dst v') w') : wpList Tryd.prog ops Q (o :: rest) a w := by
  obtain ⟨i0, hi, hz0, hz1, hz2⟩ := info_parts info_row
  obtain ⟨hv, hsr, hn⟩ := own_src hsrc
  have hl := hsrc.1
  rw [hv] at hx
  cases hp : rowP vx with
  | none =>
    obtain ⟨rfl, rfl, hc⟩ := hn hp
    rw [hp, hc] at hx
    refine wpList_append_own_none hgd s x 39 ho base 25 i0 1 Tryd.underlying39 hi v n xs hs hown hx ?_
    exact h v w (by simpa using hown) (World.grownBy.refl w _)
  | some ad =>
    rw [hp] at hx
    refine wpList_append_own w hgd s x 39 ho base 25 i0 _ 1 24 Tryd.underlying39 hi hz0 hz1 hz2 rfl (by decide) v n xs hs hown ad m (rowC vx) ys hx hl (hsr ad hp) h1 (by unfold maxLen; omega) hsum hbase ?_
    intro v' w' h1 h2 _
    exact h v' w' h1 h2
theorem owns_none (w : World) : (w.alloc (.cells #[] 25)).ownsRow w.heap.size 25 1 (.slice (some ⟨w.heap.size, 0, none⟩) 0 0) 0 [] := by
  refine ⟨rfl, Or.inr ⟨w.heap.size, 0, #[], rfl, Nat.le_refl _, ?_, Nat.le_refl _, by decide, rfl, rfl⟩⟩
  show (w.heap.push _)[w.heap.size]? = _
  simp
/-- A list of rows in a row of the call's own. -/
structure BagAt (u : World) (base : Nat) (v : Value) (xs : List Value) (L : List (List Val)) : Prop where
  own : u.ownsRow base 25 1 v L.length xs
  heads : HeadsAt u xs L
theorem BagAt.low {u v : World} {base : Nat} {x : Value} {xs : List Value} {L : List (List Val)} (h : BagAt u base x xs L) (hb : Below u.heap.size u v) : BagAt v base x xs L := ⟨owns_below h.own hb, h.heads.low hb⟩
theorem BagAt.rows {u : World} {base : Nat} {x : Value} {xs : List Value} {L : List (List Val)} (h : BagAt u base x xs L) : RowsAt u (rowP x) L := rows_of_heads h.own h.heads
theorem BagAt.shape {u : World} {base : Nat} {x : Value} {xs : List Value} {L : List (List Val)} (h : BagAt u base x xs L) : ∃ p c, x = .slice p L.length c := ⟨_, _, (own_src h.own).1⟩
theorem Grid.bag {u : World} {base : Nat} {vo : Value} {G : List (Value × List Val)} (h : Grid u base vo G) : BagAt u base vo (G.map (·.1)) (G.map (·.2)) := ⟨by rw [List.length_map]; exact h.1, h.rows2.heads⟩
end Go.Proofs.YtlgagibmndbimaaDoor
