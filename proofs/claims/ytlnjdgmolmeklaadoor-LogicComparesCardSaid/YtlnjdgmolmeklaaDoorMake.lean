/-
  Words, Number, Truth of the program.
-/
import Derived.Test.YtlnjdgmolmeklaaDoorValid
import Derived.Test.YtlnjdgmolmeklaaDoorEnv
namespace Go.Proofs.YtlnjdgmolmeklaaDoor
open Go.RowKit

/-- What Words gives. -/
def wordsN (s : ByteArray) : Int := if textOK s.data.toList then 3 else 0
def wordsS (s : ByteArray) : ByteArray := if textOK s.data.toList then s else ⟨#[]⟩

set_option maxHeartbeats 400000 in
theorem truth_any (b : Bool) (w : World) :
    Calls Tryd.prog 41 #[.bool b] w fun e w' => e = .returned (.agg #[.int .i64 2, .int .i64 (if b then 1 else 0), .string ⟨#[]⟩]) ∧ Below w.heap.size w w' := by
  cases b
  · go_enter Tryd.func41, Tryd.ntmps41
    go_wp2
    exact bodyPost_ret (v := .agg #[.int .i64 2, .int .i64 0, .string ⟨#[]⟩]) (by simp [results, Tryd.results41, go_sem]) rfl ⟨rfl, ((Below.refl _ _).alloc (Nat.le_refl _) _).alloc (by simp) _⟩
  · go_enter Tryd.func41, Tryd.ntmps41
    go_wp2
    exact bodyPost_ret (v := .agg #[.int .i64 2, .int .i64 1, .string ⟨#[]⟩]) (by simp [results, Tryd.results41, go_sem]) rfl ⟨rfl, ((Below.refl _ _).alloc (Nat.le_refl _) _).alloc (by simp) _⟩
end Go.Proofs.YtlnjdgmolmeklaaDoor
