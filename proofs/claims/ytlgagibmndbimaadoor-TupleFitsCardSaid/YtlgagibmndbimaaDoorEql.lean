/-
  Equality of values.
-/
import Derived.Test.YtlgagibmndbimaaDoorEnv
namespace Go.Proofs.YtlgagibmndbimaaDoor
open Go.RowKit

/-- Are two values the same? -/
def sameV (k n : Int) (s : ByteArray) (k' n' : Int) (s' : ByteArray) : Bool := decide (k = k' ∧ n = n' ∧ s = s')
theorem sameV_iff {k n : Int} {s : ByteArray} {k' n' : Int} {s' : ByteArray} : sameV k n s k' n' s' = true ↔ k = k' ∧ n = n' ∧ s = s' := by unfold sameV; simp

theorem eql_val (k n : Int) (s : ByteArray) (k' n' : Int) (s' : ByteArray) (w : World) :
    (binOp .eql 34 (.agg #[.int .i64 k, .int .i64 n, .string s]) (.agg #[.int .i64 k', .int .i64 n', .string s'])).run Tryd.prog w = .ok (.bool (sameV k n s k' n' s')) w := by
  go_simp
  unfold sameV
  by_cases h1 : k = k'
  · by_cases h2 : n = n'
    · by_cases h3 : s = s'
      · simp [h1, h2, h3]
      · have h4 : ¬ s.toList = s'.toList := fun h => h3 (WideShapes.bytes_inj (by rw [ByteArray.toList_eq, ByteArray.toList_eq] at h; exact h))
        simp [h1, h2, h3, h4]
    · simp [h1, h2]
  · simp [h1]

end Go.Proofs.YtlgagibmndbimaaDoor
