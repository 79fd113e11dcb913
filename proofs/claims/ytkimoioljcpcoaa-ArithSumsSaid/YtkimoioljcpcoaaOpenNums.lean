/-
  An argument that is a list of numbers of 64 bits, opened.
-/
import Derived.Test.YtkimoioljcpcoaaOpen
import Derived.Test.YtkimoioljcpcoaaWide
import Derived.SizedLaws
namespace Go.Proofs.Ytkimoioljcpcoaa
open Go.ChangeShapes Go.WideShapes Go.ChangeAt Go.RowKit

theorem bytes_num : Try.prog.bytesOf 2 = 8 := by kernel_rfl
theorem open_nums {H : Type} {enc : TypeId × Value → H} {W : World} {v : Value} {d : DataW H} {p : List MemPlace} (hv : ∃ b, Value.okWide Try.prog W .any b 27 v) (h : DataW.Trod enc Try.prog W 0 (fun _ => true) true 27 v d p) :
    ∃ (a : Option Addr) (n cap : Nat) (f : Nat → Int), v = .slice a n cap ∧ NumsAt W a f n ∧ (n = 0 ∨ ∃ el sp, d = .slice el sp ∧ n ≤ el.length + sp.length) := by
  obtain ⟨b, hv⟩ := hv
  obtain ⟨a0, len, cap, rfl⟩ := okWide_slice Try.underlying27 hv
  obtain ⟨fuel, hf⟩ := h
  rcases open_ints Try.underlying27 Try.underlying2 (by kernel_rfl) hf with ⟨hcs, hx⟩ | ⟨a, len', cap', zs, hcs, _, hl, hm, hz, hx, hcell, hwz⟩
  · simp only [Value.cells, List.cons.injEq, and_true, Value.slice.injEq] at hcs
    obtain ⟨rfl, rfl, rfl⟩ := hcs
    exact ⟨none, 0, 0, fun _ => 0, rfl, fun i hi => by omega, .inl rfl⟩
  · simp only [Value.cells, List.cons.injEq, and_true, Value.slice.injEq] at hcs
    obtain ⟨rfl, rfl, rfl⟩ := hcs
    rw [if_pos rfl] at hz
    refine ⟨some a, len, cap, fun i => zs.getD i 0, rfl, fun i hi => ?_, ?_⟩
    · obtain ⟨c, o, rfl, hc⟩ := ints_at hcell (by omega)
      have hi' : i < zs.length := by omega
      have hw := hwz (zs.getD i 0) (by rw [List.getD, List.getElem?_eq_getElem hi']; exact List.getElem_mem hi')
      exact ⟨c, o, rfl, hc i hi', (bounds_i64 hw).1, (bounds_i64 hw).2⟩
    · refine .inr ⟨_, _, (Prod.mk.inj hx).1, ?_⟩
      simp [lits]
      omega
end Go.Proofs.Ytkimoioljcpcoaa
