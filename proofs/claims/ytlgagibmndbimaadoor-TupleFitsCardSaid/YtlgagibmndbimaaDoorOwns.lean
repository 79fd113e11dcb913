/-
  Rows that a call owns, behind calls that turn other blocks.
-/
import Derived.Test.YtlgagibmndbimaaDoorTape
import Derived.OwnWalk
import Derived.Laws.AppendOwnNone
namespace Go.Proofs.YtlgagibmndbimaaDoor
open Go.RowKit

theorem i64w {z : Int} (h : -9223372036854775808 ≤ z) (h2 : z ≤ 9223372036854775807) : IntKind.i64.wrap z = z := by rw [IntKind.wrap_i64]; omega
theorem owns_block {w : World} {base n size : Nat} {e : TypeId} {v : Value} {xs : List Value} (h : w.ownsRow base e size v n xs) : ∀ k, v.ownBlock = some k → base ≤ k := by
  intro k hk
  rcases h.2 with ⟨rfl, -⟩ | ⟨g, cap, cur, rfl, hg, -⟩
  · cases hk
  · obtain rfl := Option.some.inj hk; exact hg
theorem owns_keep {w w' : World} {base n size : Nat} {e : TypeId} {v : Value} {xs : List Value} (h : w.ownsRow base e size v n xs) (hk : ∀ k, v.ownBlock = some k → w'.heap[k]? = w.heap[k]?) : w'.ownsRow base e size v n xs := by
  refine ⟨h.1, ?_⟩
  rcases h.2 with h2 | ⟨g, cap, cur, rfl, hg, hh, r⟩
  · exact Or.inl h2
  · exact Or.inr ⟨g, cap, cur, rfl, hg, by rw [hk g rfl]; exact hh, r⟩
theorem owns_lt {w : World} {base n size : Nat} {e : TypeId} {v : Value} {xs : List Value} (h : w.ownsRow base e size v n xs) : ∀ k, v.ownBlock = some k → k < w.heap.size := by
  intro k hk
  rcases h.2 with ⟨rfl, -⟩ | ⟨g, cap, cur, rfl, hg, hh, -⟩
  · cases hk
  · obtain rfl := Option.some.inj hk; exact (Array.getElem?_eq_some_iff.1 hh).1
theorem owns_base {w : World} {base base' n size : Nat} {e : TypeId} {v : Value} {xs : List Value} (h : w.ownsRow base e size v n xs) (hb : base' ≤ base) : w.ownsRow base' e size v n xs := by
  refine ⟨h.1, ?_⟩
  rcases h.2 with h2 | ⟨g, cap, cur, rfl, hg, r⟩
  · exact Or.inl h2
  · exact Or.inr ⟨g, cap, cur, rfl, Nat.le_trans hb hg, r⟩
theorem owns_step {w w' : World} {b base n size : Nat} {e : TypeId} {v : Value} {xs : List Value} (h : w.ownsRow base e size v n xs) (hb : b < base) (hs : StepT b w w') : w'.ownsRow base e size v n xs :=
  owns_keep h fun k hk => hs.block k (owns_lt h k hk) (by have := owns_block h k hk; omega)
/-- Two rows of different types lie in different blocks. -/
theorem owns_apart {w : World} {base base' n n' size size' : Nat} {e e' : TypeId} {v v' : Value} {xs xs' : List Value} (h : w.ownsRow base e size v n xs) (h' : w.ownsRow base' e' size' v' n' xs') (he : e ≠ e') (k : Nat) (hk : v.ownBlock = some k) : v'.ownBlock ≠ some k := by
  intro hk'
  rcases h.2 with ⟨rfl, -⟩ | ⟨g, cap, cur, rfl, hg, hh, -⟩
  · cases hk
  · rcases h'.2 with ⟨rfl, -⟩ | ⟨g', cap', cur', rfl, hg', hh', -⟩
    · cases hk'
    · obtain rfl := Option.some.inj hk
      have hgg : g' = g := Option.some.inj hk'
      rw [hgg] at hh'
      have hh2 := hh.symm.trans hh'
      injection hh2 with hh2
      injection hh2 with _ h2 _
      exact he h2

theorem step_grown {b : Nat} {u v : World} {row : Option Nat} (hg : u.grownBy v row) (hr : ∀ k, row = some k → u.heap.size ≤ k ∨ k = b) : StepT b u v :=
  ⟨hg.os, hg.tape, hg.output, hg.size, fun k hk hb => hg.block k hk (by intro he; rcases hr k he.symm with h | h <;> omega)⟩
/-- Behind a growth of a row that the call has made since u0. -/
theorem step_grown_from {b : Nat} {u0 u v : World} {row : Option Nat} (h : StepT b u0 u) (hg : u.grownBy v row) (hr : ∀ k, row = some k → u0.heap.size ≤ k) : StepT b u0 v :=
  ⟨hg.os.trans h.os, hg.tape.trans h.tape, hg.output.trans h.output, Nat.le_trans h.size hg.size, fun k hk hb => (hg.block k (Nat.lt_of_lt_of_le hk h.size) (by intro he; have := hr k he.symm; omega)).trans (h.block k hk hb)⟩
theorem TapeAt.grown {b : Nat} {u v : World} {row : Option Nat} (h : TapeAt u b) (hg : u.grownBy v row) (hr : ∀ k, row = some k → b < k) : TapeAt v b :=
  h.keep (fun k hk => hg.block k (Nat.lt_of_le_of_lt hk h.lt) (by intro he; have := hr k he.symm; omega)) hg.size
end Go.Proofs.YtlgagibmndbimaaDoor
