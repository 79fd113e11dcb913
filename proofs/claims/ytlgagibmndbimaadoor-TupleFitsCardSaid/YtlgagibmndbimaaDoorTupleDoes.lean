/-
  What package tuple does: the contracts that the walks of the statements ask for.
-/
import Derived.Test.YtlgagibmndbimaaDoorTupleMinus
import Derived.Test.YtlgagibmndbimaaDoorKnownTuple
namespace Go.Proofs.YtlgagibmndbimaaDoor
open Go.RowKit
theorem tuple_does : TupleDoes := ⟨sort_any, samebag_any, count_any, minus_any⟩
end Go.Proofs.YtlgagibmndbimaaDoor
