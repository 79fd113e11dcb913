/-
  Several texts in one.
-/
import Derived.Test.YtlnbpobipmejfaaGreatDoorPk04
/-
  The capacity of a slice of the call's own.
-/
namespace Go.Proofs.YtlnbpobipmejfaaGreatDoor
set_option maxRecDepth 100000
open Go.RowKit

theorem owns_cap {u : World} {base n : Nat} {e : TypeId} {p : Option Addr} {s m cap : Nat} {xs : List Value} (h : u.ownsRow base e s (.slice p m cap) n xs) : m = n ∧ n ≤ cap := by
  rcases h.2 with ⟨hv, h0⟩ | ⟨g, cap', cur, hv, hg, hh, hcap, -⟩
  · injection hv with h1 h2 h3
    omega
  · injection hv with h1 h2 h3
    omega
end Go.Proofs.YtlnbpobipmejfaaGreatDoor
