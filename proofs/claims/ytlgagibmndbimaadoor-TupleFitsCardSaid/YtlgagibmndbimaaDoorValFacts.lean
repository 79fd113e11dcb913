/-
  The values of the tape are valid, and short.
-/
import Derived.Test.YtlgagibmndbimaaDoorVals
import Derived.Test.YtlgagibmndbimaaDoorValid
namespace Go.Proofs.YtlgagibmndbimaaDoor
open Go.RowKit

theorem IsVal.valid {k n : Int} {s : ByteArray} (h : IsVal k n s) : validB k n s = true := by
  rcases h with ⟨rfl, rfl, rfl⟩ | ⟨rfl, -, rfl⟩ | ⟨rfl, h0, h1, rfl⟩ | ⟨rfl, rfl, hs⟩
  · simp [validB]
  · simp [validB]
  · have : n = 0 ∨ n = 1 := by omega
    simp [validB]; exact this
  · rw [validB_text]
    rcases hs with rfl | rfl | rfl | rfl | rfl | rfl <;> decide
theorem IsVal.size {k n : Int} {s : ByteArray} (h : IsVal k n s) : s.size ≤ 64 := by
  rcases h with ⟨-, -, rfl⟩ | ⟨-, -, rfl⟩ | ⟨-, -, -, rfl⟩ | ⟨-, -, hs⟩
  · decide
  · decide
  · decide
  · rcases hs with rfl | rfl | rfl | rfl | rfl | rfl <;> decide
theorem IsVal.range {k n : Int} {s : ByteArray} (h : IsVal k n s) : -9223372036854775808 ≤ n ∧ n ≤ 9223372036854775807 := by
  rcases h with ⟨-, rfl, -⟩ | ⟨-, hn, -⟩ | ⟨-, h0, h1, -⟩ | ⟨-, rfl, -⟩
  · decide
  · unfold IsNum at hn; omega
  · omega
  · decide
end Go.Proofs.YtlgagibmndbimaaDoor
