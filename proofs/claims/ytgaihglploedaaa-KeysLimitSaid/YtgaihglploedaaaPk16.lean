/-
  Several texts in one.
-/
import Derived.Test.YtgaihglploedaaaPk02
/-
  Names: what the tape's Name gives; the words of the program, one by one.
-/
namespace Go.Proofs.Ytgaihglploedaaa
set_option maxRecDepth 100000
open Go.RowKit
variable {ls : List Nat}

end Go.Proofs.Ytgaihglploedaaa
