/-
  Several texts in one.
-/
import Derived.Test.YtlelgkgdppkedaaGreatDoorPk25
import Derived.Test.YtlelgkgdppkedaaGreatDoorPk12
/-
  Changes of the table u with two rows (plain).
-/
namespace Go.Proofs.YtlelgkgdppkedaaGreatDoor
set_option maxRecDepth 100000
open Go.RowKit
variable {ls : List Nat}

end Go.Proofs.YtlelgkgdppkedaaGreatDoor
/-
  What the operations of a call of Apply leave, slot by slot.
-/
namespace Go.Proofs.YtlelgkgdppkedaaGreatDoor
set_option maxRecDepth 100000
open Go.RowKit
variable {ls : List Nat}

end Go.Proofs.YtlelgkgdppkedaaGreatDoor
/-
  The law texts of package keys: known.
-/
namespace Go.Proofs.YtlelgkgdppkedaaGreatDoor
set_option maxRecDepth 100000
open Go.RowKit
variable {ls : List Nat}

end Go.Proofs.YtlelgkgdppkedaaGreatDoor
