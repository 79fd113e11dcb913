/-
  Several texts in one.
-/
import Derived.Test.YtidgfmjbfcgfiaaDoorPk13
import Derived.Test.YtidgfmjbfcgfiaaDoorPk15
import Derived.Test.YtidgfmjbfcgfiaaDoorPk17
import Derived.Test.YtidgfmjbfcgfiaaDoorPk18
/-
  What package table does: the contracts of the landed code.
-/
namespace Go.Proofs.YtidgfmjbfcgfiaaDoor
set_option maxRecDepth 100000
open Go.RowKit

theorem table_does : TableDoes := ⟨tvalid_any, tnew_any, get_any, bag_any, look_any, dup_any⟩
end Go.Proofs.YtidgfmjbfcgfiaaDoor
