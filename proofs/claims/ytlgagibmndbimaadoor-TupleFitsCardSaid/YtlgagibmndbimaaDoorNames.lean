/-
  Names: what the tape's Name gives; the words of the program, one by one.
-/
import Derived.Test.YtlgagibmndbimaaDoorEnv
namespace Go.Proofs.YtlgagibmndbimaaDoor
open Go.RowKit
variable {ls : List Nat}

def NamePost (b : Nat) (w : World) (e : Ending) (w' : World) : Prop := ∃ i : Nat, e = .returned (.string (nameS i)) ∧ i < 8 ∧ TapeAt w' b ∧ StepT b w w'
set_option maxHeartbeats 400000 in
theorem name_any (b : Nat) (w : World) (hb : 3 ≤ b) (ht : TapeAt w b) (hE : Env ls w) (hm : 0 ∈ ls) :
    Calls Tryd.prog 26 #[.pointer (some ⟨b, 0, none⟩)] w (NamePost b w) := by
  go_enter Tryd.func26, Tryd.ntmps26
  go_wp2_with fail
  refine (next_any b _ _ (by omega) (by omega) ht).mono ?_
  rintro e w' ⟨r, rfl, hr0, hr1, ht1, hs1⟩
  have HS := Lib.hid hs1
  have HT := Lib.hid ht1
  obtain ⟨i, rfl⟩ : ∃ i : Nat, r = i := ⟨r.toNat, by omega⟩
  have hc := (hE.step hs1 hb).names hm i (by omega)
  clear hs1 ht1
  go_wp2
  go_ret
  exact ⟨i, rfl, by omega, HT.out, HS.out⟩
theorem name_all {P : ByteArray → Prop} (h : ∀ i : Fin 8, P (nameS i)) (i : Nat) (hi : i < 8) : P (nameS i) := h ⟨i, hi⟩
end Go.Proofs.YtlgagibmndbimaaDoor
