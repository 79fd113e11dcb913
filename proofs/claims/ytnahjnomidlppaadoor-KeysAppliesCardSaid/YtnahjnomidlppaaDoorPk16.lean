/-
  Several texts in one.
-/
import Derived.Test.YtnahjnomidlppaaDoorPk01
/-
  Names: what the tape's Name gives; the words of the program, one by one.
-/
namespace Go.Proofs.YtnahjnomidlppaaDoor
set_option maxRecDepth 100000
open Go.RowKit
variable {ls : List Nat}

end Go.Proofs.YtnahjnomidlppaaDoor
