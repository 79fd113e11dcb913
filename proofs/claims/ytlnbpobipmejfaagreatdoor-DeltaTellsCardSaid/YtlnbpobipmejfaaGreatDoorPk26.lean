/-
  Several texts in one.
-/
import Derived.Test.YtlnbpobipmejfaaGreatDoorPk25
import Derived.Test.YtlnbpobipmejfaaGreatDoorPk12
/-
  Changes of the table u with two rows (plain).
-/
namespace Go.Proofs.YtlnbpobipmejfaaGreatDoor
set_option maxRecDepth 100000
open Go.RowKit
variable {ls : List Nat}

end Go.Proofs.YtlnbpobipmejfaaGreatDoor
/-
  What the operations of a call of Apply leave, slot by slot.
-/
namespace Go.Proofs.YtlnbpobipmejfaaGreatDoor
set_option maxRecDepth 100000
open Go.RowKit
variable {ls : List Nat}

end Go.Proofs.YtlnbpobipmejfaaGreatDoor
/-
  The law texts of package keys: known.
-/
namespace Go.Proofs.YtlnbpobipmejfaaGreatDoor
set_option maxRecDepth 100000
open Go.RowKit
variable {ls : List Nat}

end Go.Proofs.YtlnbpobipmejfaaGreatDoor
