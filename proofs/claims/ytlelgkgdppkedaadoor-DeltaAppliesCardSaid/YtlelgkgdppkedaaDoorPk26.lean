/-
  Several texts in one.
-/
import Derived.Test.YtlelgkgdppkedaaDoorPk25
import Derived.Test.YtlelgkgdppkedaaDoorPk12
/-
  Changes of the table u with two rows (plain).
-/
namespace Go.Proofs.YtlelgkgdppkedaaDoor
set_option maxRecDepth 100000
open Go.RowKit
variable {ls : List Nat}

end Go.Proofs.YtlelgkgdppkedaaDoor
/-
  What the operations of a call of Apply leave, slot by slot.
-/
namespace Go.Proofs.YtlelgkgdppkedaaDoor
set_option maxRecDepth 100000
open Go.RowKit
variable {ls : List Nat}

end Go.Proofs.YtlelgkgdppkedaaDoor
/-
  The law texts of package keys: known.
-/
namespace Go.Proofs.YtlelgkgdppkedaaDoor
set_option maxRecDepth 100000
open Go.RowKit
variable {ls : List Nat}

end Go.Proofs.YtlelgkgdppkedaaDoor
