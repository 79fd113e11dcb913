/-
  THE VALUES OF THE TAPE: Typed, Value, New.
-/
import Derived.Test.YtkimoioljcpcoaaTape
namespace Go.Proofs.Ytkimoioljcpcoaa
open Go.RowKit

/-- An argument that is a slice of ints. -/
def IntsAt (w : World) (p : Option Addr) (len : Nat) : Prop :=
  ∀ i, i < len → ∃ (c o : Nat) (z : Int), p = some ⟨c, o, none⟩ ∧ c < w.heap.size ∧ w.cell? ⟨c, o + i, none⟩ = some (.int .i64 z) ∧ -9223372036854775808 ≤ z ∧ z ≤ 9223372036854775807

def NewPost (w : World) (e : Ending) (w' : World) : Prop := ∃ b : Nat, e = .returned (.pointer (some ⟨b, 0, none⟩)) ∧ w.heap.size ≤ b ∧ TapeAt w' b ∧ Below w.heap.size w w'

theorem tape_new {w : World} {p : Option Addr} {len cap : Nat} (hl : len ≤ 500) (h : IntsAt w p len) :
    TapeAt (w.alloc (.cells #[.slice p len cap, .int .i64 0] 39)) w.heap.size := by
  refine ⟨p, len, cap, 0, Nat.zero_le _, hl, ?_, ?_, ?_, by simp, fun i hi => ?_⟩
  · go_simp
  · go_simp
  · go_simp
  · obtain ⟨c, o, z, hp, hc, hz, hz1⟩ := h i hi
    exact ⟨c, o, z, hp, hc, by rw [World.cell?_of_block (w := w) (Below.heap_alloc _ _ _ hc)]; exact hz, hz1⟩

set_option maxHeartbeats 400000 in
theorem new_any (w : World) (p : Option Addr) (len cap : Nat) (hl : len ≤ cap) (hm : len ≤ 9223372036854775807) (h : IntsAt w p len) :
    Calls Try.prog 7 #[.slice p len cap] w (NewPost w) := by
  by_cases hc : 500 < len
  · obtain ⟨c, o, z, rfl, -⟩ := h 0 (by omega)
    have HI := Lib.hid h
    clear h
    go_enter Try.func7, Try.ntmps7
    go_wp2
    go_ret
    exact ⟨_, rfl, Nat.le_refl _, tape_new (Nat.le_refl _) (fun i hi => HI.out i (by omega)), (Below.refl _ _).alloc (Nat.le_refl _) _⟩
  · go_enter Try.func7, Try.ntmps7
    go_wp2
    go_ret
    exact ⟨_, rfl, Nat.le_refl _, tape_new (by omega) h, (Below.refl _ _).alloc (Nat.le_refl _) _⟩
end Go.Proofs.Ytkimoioljcpcoaa
