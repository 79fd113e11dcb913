/-
  Several texts in one.
-/
import Derived.Test.YtecghiflbnhceaaDoorPk09
import Derived.Deep.QuietTactic
import Derived.BigQuiet
import Derived.Deep.RegionHeld3
import Derived.Test.YtecghiflbnhceaaDoorPk08
/-
  Minus of the reference.
-/
namespace Go.Proofs.YtecghiflbnhceaaDoor
set_option maxRecDepth 100000
open Go.RowKit
variable {ls : List Nat}

theorem mrg_skip {t u : List Val} {x y : List (List Val)} (h : cmpRow u t < 0) : mrg (t :: x) (u :: y) = mrg (t :: x) y := by
  rw [mrg, mrg, List.dropWhile_cons, if_pos (by simpa using h)]
theorem mrg_hit {t u : List Val} {x y : List (List Val)} (h : cmpRow u t = 0) : mrg (t :: x) (u :: y) = mrg x y := by
  rw [mrg, List.dropWhile_cons, if_neg (by simp; omega)]
  simp only [if_pos h]
theorem mrg_keep {t u : List Val} {x y : List (List Val)} (h : ¬ cmpRow u t < 0) (h0 : ¬ cmpRow u t = 0) : mrg (t :: x) (u :: y) = t :: mrg x (u :: y) := by
  rw [mrg, List.dropWhile_cons, if_neg (by simpa using h)]
  simp only [if_neg h0]
theorem mrg_end {t : List Val} {x : List (List Val)} : mrg (t :: x) [] = t :: mrg x [] := by rw [mrg]; rfl

theorem gAt_mem {G : List (Value × List Val)} {i : Nat} (hi : i < G.length) : gAt G i ∈ G := by unfold gAt; rw [List.getD, List.getElem?_eq_getElem hi]; exact List.getElem_mem hi
theorem own_size {u : World} {base n size : Nat} {e : TypeId} {v : Value} {xs : List Value} (h : u.ownsRow base e size v n xs) : ∀ k, v.ownBlock = some k → k < u.heap.size := fun k hk => (h.lt k hk).2

end Go.Proofs.YtecghiflbnhceaaDoor
/-
  SameTuples of the world.
-/
namespace Go.Proofs.YtecghiflbnhceaaDoor
set_option maxRecDepth 100000
open Go.RowKit
variable {ls : List Nat}

theorem below_drewN {B : Nat} {a w : World} (h : Below B a w) (n : Nat) : Below B a (w.drewN n) := ⟨h.os, h.tape, h.output, h.size, h.block⟩
theorem neq_val (k n : Int) (s : ByteArray) (k' n' : Int) (s' : ByteArray) (w : World) :
    (binOp .neq 26 (.agg #[.int .i64 k, .int .i64 n, .string s]) (.agg #[.int .i64 k', .int .i64 n', .string s'])).run Tryd.prog w = .ok (.bool (!sameV k n s k' n' s')) w := by
  go_simp
  unfold sameV
  by_cases h1 : k = k'
  · by_cases h2 : n = n'
    · by_cases h3 : s = s'
      · simp [h1, h2, h3]
      · have h4 : ¬ s.toList = s'.toList := fun h => h3 (WideShapes.bytes_inj (by rw [ByteArray.toList_eq, ByteArray.toList_eq] at h; exact h))
        simp [h1, h2, h3, h4]
    · simp [h1, h2]
  · simp [h1]
theorem ext_vals {a b : List Val} (hl : a.length = b.length) (h : ∀ i, i < a.length → vAt a i = vAt b i) : a = b := by
  apply List.ext_getElem hl
  intro i h1 h2
  have := h i h1
  unfold vAt at this
  rw [List.getD, List.getD, List.getElem?_eq_getElem h1, List.getElem?_eq_getElem h2] at this
  exact this
theorem same_vals {x y : Val} : sameV x.1 x.2.1 x.2.2 y.1 y.2.1 y.2.2 = true ↔ x = y := by
  rw [sameV_iff]
  obtain ⟨a, b, c⟩ := x
  obtain ⟨a', b', c'⟩ := y
  simp

end Go.Proofs.YtecghiflbnhceaaDoor
/-
  The sanity check of the statements about tuples holds, if the program's functions do what the contracts say.
-/
namespace Go.Proofs.YtecghiflbnhceaaDoor
set_option maxRecDepth 100000
open Go.RowKit
variable {ls : List Nat}

end Go.Proofs.YtecghiflbnhceaaDoor
/-
  Facts about differences of bags; append of rows to a row of the call's own.
-/
namespace Go.Proofs.YtecghiflbnhceaaDoor
set_option maxRecDepth 100000
open Go.RowKit
variable {ls : List Nat}

theorem minR_nil_iff (A B : List (List Val)) : minR A B = [] ↔ ∀ r, A.count r ≤ B.count r := by
  constructor
  · intro h r
    have := minR_count A B r
    rw [h] at this
    simp at this
    omega
  · intro h
    rw [List.eq_nil_iff_forall_not_mem]
    intro r hr
    have h1 := List.count_pos_iff.2 hr
    have h2 := minR_count A B r
    have h3 := h r
    omega
theorem same_iff_minR (A B : List (List Val)) : srt A = srt B ↔ ((minR A B).length = 0 ∧ (minR B A).length = 0) := by
  rw [srt_eq_iff, List.perm_iff_count, List.length_eq_zero_iff, List.length_eq_zero_iff, minR_nil_iff, minR_nil_iff]
  exact ⟨fun h => ⟨fun r => Nat.le_of_eq (h r), fun r => Nat.le_of_eq (h r).symm⟩, fun h r => Nat.le_antisymm (h.1 r) (h.2 r)⟩
theorem minR_len (A B : List (List Val)) : A.length + (minR B A).length = B.length + (minR A B).length := by
  have h : (A ++ minR B A).Perm (B ++ minR A B) := List.perm_iff_count.2 fun r => by
    rw [List.count_append, List.count_append, minR_count, minR_count]
    omega
  simpa using h.length_eq
theorem minR_le (A B : List (List Val)) : (minR A B).length ≤ A.length := by
  have := (mrg_sub (srt A) (srt B)).length_le
  rw [srt_length] at this
  exact this
/-- Heads of rows. -/
def HeadsAt (u : World) (xs : List Value) (L : List (List Val)) : Prop :=
  xs.length = L.length ∧ ∀ i, i < L.length → ∃ (q : Option Addr) (cp : Nat), xs[i]? = some (.slice q (rAt L i).length cp) ∧ RowAt u q (rAt L i) ∧ (rAt L i).length * 32 ≤ 140737488355328 ∧ (q = none → rAt L i = [] ∧ cp = 0)
theorem HeadsAt.low {u v : World} {xs : List Value} {L : List (List Val)} (h : HeadsAt u xs L) (hb : Below u.heap.size u v) : HeadsAt v xs L :=
  ⟨h.1, fun i hi => by obtain ⟨q, cp, h0, h1, h2, h3⟩ := h.2 i hi; exact ⟨q, cp, h0, h1.low hb, h2, h3⟩⟩
theorem HeadsAt.one {u : World} {xs : List Value} {L : List (List Val)} (h : HeadsAt u xs L) : ∀ v ∈ xs, v.oneCell' = true := by
  intro v hv
  obtain ⟨i, hi, rfl⟩ := List.getElem_of_mem hv
  obtain ⟨q, cp, h0, -⟩ := h.2 i (h.1 ▸ hi)
  rw [List.getElem?_eq_getElem hi] at h0
  rw [Option.some.inj h0]
  rfl
theorem HeadsAt.nil (u : World) : HeadsAt u [] [] := ⟨rfl, fun i hi => by simp at hi⟩
theorem rAt_left {A B : List (List Val)} {i : Nat} (h : i < A.length) : rAt (A ++ B) i = rAt A i := by unfold rAt; rw [List.getD, List.getElem?_append_left h]; rfl
theorem rAt_right {A B : List (List Val)} {i : Nat} (h : A.length ≤ i) : rAt (A ++ B) i = rAt B (i - A.length) := by unfold rAt; rw [List.getD, List.getElem?_append_right h]; rfl
theorem HeadsAt.append {u : World} {xs ys : List Value} {A B : List (List Val)} (h : HeadsAt u xs A) (k : HeadsAt u ys B) : HeadsAt u (xs ++ ys) (A ++ B) := by
  refine ⟨by rw [List.length_append, List.length_append, h.1, k.1], fun i hi => ?_⟩
  rw [List.length_append] at hi
  by_cases hl : i < A.length
  · rw [rAt_left hl, List.getElem?_append_left (by rw [h.1]; exact hl)]
    exact h.2 i hl
  · rw [rAt_right (by omega), List.getElem?_append_right (by rw [h.1]; omega), h.1]
    exact k.2 (i - A.length) (by omega)
/-- The cells of a row of the call's own. -/
theorem own_src {u : World} {base n : Nat} {e : TypeId} {v : Value} {xs : List Value} (h : u.ownsRow base e 1 v n xs) :
    v = .slice (rowP v) n (rowC v) ∧ (∀ ad, rowP v = some ad → ∀ j x, xs[j]? = some x → u.cell? (ad.add j) = some x) ∧ (rowP v = none → n = 0 ∧ xs = [] ∧ rowC v = 0) := by
  have hl := h.1
  rcases h.2 with ⟨rfl, h0⟩ | ⟨g, cap', cur, rfl, hg, hh, hcap, hm, hcur, htake⟩
  · refine ⟨by rw [h0]; rfl, (fun ad h => by cases h), fun _ => ⟨h0, List.eq_nil_of_length_eq_zero (by omega), rfl⟩⟩
  · refine ⟨rfl, fun ad had j x hj => ?_, fun h => by cases h⟩
    obtain rfl := Option.some.inj had
    have hj' : cur.toList[j]? = some x := by
      rw [← htake, List.getElem?_take] at hj
      split at hj
      · exact hj
      · cases hj
    rw [show (⟨g, 0, none⟩ : Addr).add j = ⟨g, j, none⟩ from by simp [Addr.add]; omega]
    simp [World.cell?, hh]
    simpa using hj'
end Go.Proofs.YtecghiflbnhceaaDoor
