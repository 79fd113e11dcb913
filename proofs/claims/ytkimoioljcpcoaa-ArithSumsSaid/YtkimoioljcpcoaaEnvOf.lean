/-
  The listed variables give the environment.
-/
import Derived.Test.YtkimoioljcpcoaaClose
import Derived.Shelf.Vars
namespace Go.Proofs.Ytkimoioljcpcoaa
open Go.ChangeShapes Go.WideShapes Go.ChangeAt Go.RowKit


end Go.Proofs.Ytkimoioljcpcoaa
