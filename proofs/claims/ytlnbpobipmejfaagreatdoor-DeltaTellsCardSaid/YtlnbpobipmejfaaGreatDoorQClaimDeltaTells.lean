/-
  Several texts in one.
-/
import Derived.Test.YtlnbpobipmejfaaGreatDoorPk02
import Derived.SizedLaws
import Derived.Test.YtlnbpobipmejfaaGreatDoorPk41
import Derived.Test.YtlnbpobipmejfaaGreatDoorPk42
import Derived.Test.YtlnbpobipmejfaaGreatDoorCards
import Derived.Test.YtlnbpobipmejfaaGreatDoorTie
/-
  DeltaTells returns true for every difference, schema, list of numbers and event, and leaves them as they were: Empty, Rows, Changed and Bags answer as the reference. No condition.
-/
namespace Go.Proofs.YtlnbpobipmejfaaGreatDoor.deltaTells
set_option maxRecDepth 100000
open Go.ChangeShapes Go.WideShapes Go.ChangeAt Go.RowKit

theorem plain (f : FuncId) (fn : Func) (hf : Tryz.pinned.checked.prog.funcNamed "triggerstore/triggerstorelaw8.DeltaTells" = some f) (hfn : Tryz.pinned.checked.prog.funcs[f]? = some fn) :
    false = Tryz.pinned.checked.prog.looks [] ∧ ∀ (j : Nat) t, fn.params[j]? = some t → Tryz.pinned.checked.prog.wantsStandIn t = false := by
  obtain rfl : f = 3 := Option.some.inj ((show Tryz.prog.funcNamed "triggerstore/triggerstorelaw8.DeltaTells" = some 3 by kernel_rfl).symm.trans hf) |>.symm
  obtain rfl : fn = Tryz.f3 := (Option.some.inj (Tryz.func3.symm.trans hfn)).symm
  refine ⟨by kernel_rfl, fun j t ht => ?_⟩
  rw [Tryz.params3] at ht
  have hm : t ∈ [25, 28, 29, 3] := by simpa using Array.mem_of_getElem? ht
  have hall : ([25, 28, 29, 3].all fun u => !Tryz.prog.wantsStandIn u) = true := by kernel_rfl
  exact (show Tryz.prog.wantsStandIn t = false by simpa using List.all_eq_true.1 hall t hm)

end Go.Proofs.YtlnbpobipmejfaaGreatDoor.deltaTells
