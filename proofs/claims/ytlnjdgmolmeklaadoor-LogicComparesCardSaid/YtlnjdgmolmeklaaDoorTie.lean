/-
  DERIVED. GIVEN WITH THE SEED: THE PROGRAM's TIES (one call each: nine closed facts by the kernel) AND EACH ROW's TIE, after the 31st guide's Derived/Test/Toyas{Tie, Card}.lean. No idea stands in it: it is a product of the set-up. Laid BY PROGRAM, IN A SANDBOX (cutbox-door.mjs). By AI agents, Wed Nov 11 2026. No macro, syntax, notation, axiom, sorry.
-/
import Derived.Test.YtlnjdgmolmeklaaDoorRows
import Derived.LaidByTextLater
import Derived.SevenTiedAt
import Derived.LaidSub
import Derived.LaidOnce
namespace Go.Proofs.YtlnjdgmolmeklaaDoor
open Go
set_option maxRecDepth 100000
theorem seatTie1 : Tryd.prog.laidByTextLater [("triggerstore/triggerstoreworld.words", Rows.laid_triggerstore_triggerstoreworld_words), ("triggerstore/logic.andTable", Rows.laid_triggerstore_logic_andTable), ("triggerstore/logic.orTable", Rows.laid_triggerstore_logic_orTable)] [.data, .data, .data] true :=
  Program.laidByTextLater_by_one 30 8 10 (by kernel_rfl) (by kernel_rfl) (by kernel_rfl) (by kernel_rfl) (by kernel_rfl) (by kernel_rfl) (fun _ _ => by kernel_rfl)
theorem noOwnUnsafe : Tryd.pinned.checked.prog.headLifts.contains "ownunsafe" = false := by kernel_rfl
theorem tie : Tryd.prog.laidByTextLater [("triggerstore/triggerstoreworld.words", Rows.laid_triggerstore_triggerstoreworld_words), ("triggerstore/logic.andTable", Rows.laid_triggerstore_logic_andTable), ("triggerstore/logic.orTable", Rows.laid_triggerstore_logic_orTable)] [.data, .data, .data] true :=
  Program.laidByTextLater.sub seatTie1 ["triggerstore/triggerstoreworld.words", "triggerstore/logic.andTable", "triggerstore/logic.orTable"] (by kernel_rfl) (by kernel_rfl)
theorem logicForms_row_tie : Rows.logicFormsRow.laidByTextAt .later Tryd.pinned [.data, .data, .data] true :=
  OpenClaim.laidByTextAt_later rfl rfl tie noOwnUnsafe
theorem tie2 : Tryd.prog.laidByTextLater [("triggerstore/logic.andTable", Rows.laid_triggerstore_logic_andTable), ("triggerstore/logic.orTable", Rows.laid_triggerstore_logic_orTable)] [.data, .data] true :=
  Program.laidByTextLater.sub seatTie1 ["triggerstore/logic.andTable", "triggerstore/logic.orTable"] (by kernel_rfl) (by kernel_rfl)
theorem logicLaws_row_tie : Rows.logicLawsRow.laidByTextAt .later Tryd.pinned [.data, .data] true :=
  OpenClaim.laidByTextAt_later rfl rfl tie2 noOwnUnsafe
theorem tie3 : Tryd.prog.laidByTextLater [("triggerstore/triggerstoreworld.words", Rows.laid_triggerstore_triggerstoreworld_words), ("triggerstore/logic.andTable", Rows.laid_triggerstore_logic_andTable)] [.data, .data] true :=
  Program.laidByTextLater.sub seatTie1 ["triggerstore/triggerstoreworld.words", "triggerstore/logic.andTable"] (by kernel_rfl) (by kernel_rfl)
theorem logicCompares_row_tie : Rows.logicComparesRow.laidByTextAt .later Tryd.pinned [.data, .data] true :=
  OpenClaim.laidByTextAt_later rfl rfl tie3 noOwnUnsafe
theorem logicFormsUpto_row_tie : Rows.logicFormsUptoRow.laidByTextAt .later Tryd.pinned [.data, .data, .data] true :=
  OpenClaim.laidByTextAt_later rfl rfl tie noOwnUnsafe
theorem logicLawsUpto_row_tie : Rows.logicLawsUptoRow.laidByTextAt .later Tryd.pinned [.data, .data] true :=
  OpenClaim.laidByTextAt_later rfl rfl tie2 noOwnUnsafe
theorem logicComparesUpto_row_tie : Rows.logicComparesUptoRow.laidByTextAt .later Tryd.pinned [.data, .data] true :=
  OpenClaim.laidByTextAt_later rfl rfl tie3 noOwnUnsafe
end Go.Proofs.YtlnjdgmolmeklaaDoor
