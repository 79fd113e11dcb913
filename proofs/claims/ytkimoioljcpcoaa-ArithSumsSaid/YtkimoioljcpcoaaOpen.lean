/-
  Arguments, opened: lists of numbers, values, texts.
-/
import Derived.Test.YtkimoioljcpcoaaEnvOf
import Derived.Lib.SmallJoins
import Derived.Deep.Slices
namespace Go.Proofs.Ytkimoioljcpcoaa
open Go.ChangeShapes Go.WideShapes Go.ChangeAt Go.RowKit

section
variable {H : Type} {enc : TypeId × Value → H} {W : World} {v : Value} {d : DataW H} {p : List MemPlace}
/-- An argument of type []int: what the tape's helpers ask. -/
theorem open_tape (hv : ∃ b, Value.okWide Try.prog W .any b 22 v) (h : DataW.Trod enc Try.prog W 0 (fun _ => true) true 22 v d p) :
    ∃ (a : Option Addr) (len cap : Nat), v = .slice a len cap ∧ len ≤ cap ∧ len ≤ 9223372036854775807 ∧ IntsAt W a len := by
  obtain ⟨b, hv⟩ := hv
  obtain ⟨a0, len, cap, rfl⟩ := okWide_slice Try.underlying22 hv
  obtain ⟨fuel, hf⟩ := h
  rcases open_ints Try.underlying22 Try.underlying3 (by kernel_rfl) hf with ⟨hcs, hx⟩ | ⟨a, len', cap', zs, hcs, _, hl, hm, hz, hx, hcell, hwz⟩
  · simp only [Value.cells, List.cons.injEq, and_true, Value.slice.injEq] at hcs
    obtain ⟨rfl, rfl, rfl⟩ := hcs
    exact ⟨none, 0, 0, rfl, Nat.le_refl _, by decide, fun i hi => by omega⟩
  · simp only [Value.cells, List.cons.injEq, and_true, Value.slice.injEq] at hcs
    obtain ⟨rfl, rfl, rfl⟩ := hcs
    refine ⟨some a, len, cap, rfl, hl, by unfold maxLen at hm; omega, fun i hi => ?_⟩
    rw [if_pos rfl] at hz
    obtain ⟨c, o, rfl, hc⟩ := ints_at hcell (by omega)
    have hi' : i < zs.length := by omega
    have hci := hc i hi'
    have hw := hwz (zs.getD i 0) (by rw [List.getD, List.getElem?_eq_getElem hi']; exact List.getElem_mem hi')
    exact ⟨c, o, _, rfl, World.block_lt_of_cell? W _ hci, hci, (bounds_i64 hw).1, (bounds_i64 hw).2⟩
end
end Go.Proofs.Ytkimoioljcpcoaa
