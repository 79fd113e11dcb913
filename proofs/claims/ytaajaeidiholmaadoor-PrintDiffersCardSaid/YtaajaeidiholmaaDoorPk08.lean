/-
  Several texts in one.
-/
import Derived.Test.YtaajaeidiholmaaDoorPk07
import Derived.Deep.RegionLaw
import Derived.Deep.AppendLies
import Derived.Lib.SmallJoins
import Derived.Deep.RegionHeld3
import Derived.Deep.QuietTactic
import Derived.BigQuiet
/-
  Sort of the reference.
-/
namespace Go.Proofs.YtaajaeidiholmaaDoor
set_option maxRecDepth 100000
open Go.RowKit
variable {ls : List Nat}

theorem InRow.base {u : World} {b b' : Nat} {x : Value × List Val} (h : InRow u b x) (hb : b' ≤ b) : InRow u b' x := ⟨owns_base h.1 hb, h.2⟩
end Go.Proofs.YtaajaeidiholmaaDoor
/-
  SameBag and Minus of the reference.
-/
namespace Go.Proofs.YtaajaeidiholmaaDoor
set_option maxRecDepth 100000
open Go.RowKit
variable {ls : List Nat}

theorem ext_rows {A B : List (List Val)} (hl : A.length = B.length) (h : ∀ i, i < A.length → rAt A i = rAt B i) : A = B := by
  apply List.ext_getElem hl
  intro i h1 h2
  have := h i h1
  rw [rAt_get h1, rAt_get h2] at this
  exact this
end Go.Proofs.YtaajaeidiholmaaDoor
/-
  Minus of the reference.
-/
namespace Go.Proofs.YtaajaeidiholmaaDoor
set_option maxRecDepth 100000
open Go.RowKit
variable {ls : List Nat}

theorem mrg_skip {t u : List Val} {x y : List (List Val)} (h : cmpRow u t < 0) : mrg (t :: x) (u :: y) = mrg (t :: x) y := by
  rw [mrg, mrg, List.dropWhile_cons, if_pos (by simpa using h)]
theorem mrg_hit {t u : List Val} {x y : List (List Val)} (h : cmpRow u t = 0) : mrg (t :: x) (u :: y) = mrg x y := by
  rw [mrg, List.dropWhile_cons, if_neg (by simp; omega)]
  simp only [if_pos h]
theorem mrg_keep {t u : List Val} {x y : List (List Val)} (h : ¬ cmpRow u t < 0) (h0 : ¬ cmpRow u t = 0) : mrg (t :: x) (u :: y) = t :: mrg x (u :: y) := by
  rw [mrg, List.dropWhile_cons, if_neg (by simpa using h)]
  simp only [if_neg h0]
theorem mrg_end {t : List Val} {x : List (List Val)} : mrg (t :: x) [] = t :: mrg x [] := by rw [mrg]; rfl

theorem gAt_mem {G : List (Value × List Val)} {i : Nat} (hi : i < G.length) : gAt G i ∈ G := by unfold gAt; rw [List.getD, List.getElem?_eq_getElem hi]; exact List.getElem_mem hi
theorem own_size {u : World} {base n size : Nat} {e : TypeId} {v : Value} {xs : List Value} (h : u.ownsRow base e size v n xs) : ∀ k, v.ownBlock = some k → k < u.heap.size := fun k hk => (h.lt k hk).2

end Go.Proofs.YtaajaeidiholmaaDoor
/-
  SameTuples of the world.
-/
namespace Go.Proofs.YtaajaeidiholmaaDoor
set_option maxRecDepth 100000
open Go.RowKit
variable {ls : List Nat}

theorem below_drewN {B : Nat} {a w : World} (h : Below B a w) (n : Nat) : Below B a (w.drewN n) := ⟨h.os, h.tape, h.output, h.size, h.block⟩
theorem neq_val (k n : Int) (s : ByteArray) (k' n' : Int) (s' : ByteArray) (w : World) :
    (binOp .neq 26 (.agg #[.int .i64 k, .int .i64 n, .string s]) (.agg #[.int .i64 k', .int .i64 n', .string s'])).run Tryd.prog w = .ok (.bool (!sameV k n s k' n' s')) w := by
  go_simp
  unfold sameV
  by_cases h1 : k = k'
  · by_cases h2 : n = n'
    · by_cases h3 : s = s'
      · simp [h1, h2, h3]
      · have h4 : ¬ s.toList = s'.toList := fun h => h3 (WideShapes.bytes_inj (by rw [ByteArray.toList_eq, ByteArray.toList_eq] at h; exact h))
        simp [h1, h2, h3, h4]
    · simp [h1, h2]
  · simp [h1]
theorem ext_vals {a b : List Val} (hl : a.length = b.length) (h : ∀ i, i < a.length → vAt a i = vAt b i) : a = b := by
  apply List.ext_getElem hl
  intro i h1 h2
  have := h i h1
  unfold vAt at this
  rw [List.getD, List.getD, List.getElem?_eq_getElem h1, List.getElem?_eq_getElem h2] at this
  exact this
theorem same_vals {x y : Val} : sameV x.1 x.2.1 x.2.2 y.1 y.2.1 y.2.2 = true ↔ x = y := by
  rw [sameV_iff]
  obtain ⟨a, b, c⟩ := x
  obtain ⟨a', b', c'⟩ := y
  simp

end Go.Proofs.YtaajaeidiholmaaDoor
