/-
  Several texts in one.
-/
import Derived.Test.YtlnbpobipmejfaaGreatDoorPk20
import Derived.Test.YtlnbpobipmejfaaGreatDoorPk21
import Derived.Deep.RegionHeld3
import Derived.Deep.CutBlock
import Derived.Test.YtlnbpobipmejfaaGreatDoorPk16
import Derived.Deep.RegionLaw
/-
  Package keys: validWidths, fits, hasRoom.
-/
namespace Go.Proofs.YtlnbpobipmejfaaGreatDoor
set_option maxRecDepth 100000
open Go.RowKit
variable {ls : List Nat}

end Go.Proofs.YtlnbpobipmejfaaGreatDoor
/-
  Package keys: remaining (the loop over the rows).
-/
namespace Go.Proofs.YtlnbpobipmejfaaGreatDoor
set_option maxRecDepth 100000
open Go.RowKit
variable {ls : List Nat}

end Go.Proofs.YtlnbpobipmejfaaGreatDoor
/-
  Package keys: Valid.
-/
namespace Go.Proofs.YtlnbpobipmejfaaGreatDoor
set_option maxRecDepth 100000
open Go.RowKit
variable {ls : List Nat}

end Go.Proofs.YtlnbpobipmejfaaGreatDoor
/-
  Package clone: copies of rows.
-/
namespace Go.Proofs.YtlnbpobipmejfaaGreatDoor
set_option maxRecDepth 100000
open Go.RowKit
variable {ls : List Nat}

theorem InRow.keep2 {u v : World} {base : Nat} {x : Value × List Val} (h : InRow u base x) (hk : ∀ k, base ≤ k → k < u.heap.size → v.heap[k]? = u.heap[k]?) : InRow v base x :=
  ⟨owns_keep h.1 fun k hk' => hk k (owns_block h.1 k hk') (owns_lt h.1 k hk'), h.2⟩
/-- What a copy of a row gives. -/
def CopyRowPost (id : Int) (t : List Val) (w : World) (e : Ending) (w' : World) : Prop := ∃ v : Value, e = .returned (.agg #[.int .i64 id, v]) ∧ InRow w' w.heap.size (v, t) ∧ Below w.heap.size w w'
theorem cell2_row (w : World) (id : Int) (y : Value) : Cell2 (w.alloc (.cells #[.int .i64 id, y] 58)) w.heap.size (.int .i64 id) y := cell2_new w _ _ _
theorem cell2_put (u : World) {X : Nat} {a b : Value} (h : Cell2 u X a b) (x y : Value) : Cell2 ((u.setCell ⟨X, 0, none⟩ x).setCell ⟨X, 1, none⟩ y) X x y := by
  obtain ⟨hl, c0, c1, fz⟩ := h
  refine ⟨by simpa [World.setCell] using hl, ?_, ?_, fun o => ?_⟩
  · go_simp
  · go_simp
  · rw [World.frozen?_setCell, World.frozen?_setCell]; exact fz o
set_option maxHeartbeats 1000000 in
theorem dcopy_any (t : List Val) (q : Option Addr) (cp : Nat) (w : World) (hr : RowAt w q t) (hz : t.length * 32 ≤ 140737488355328) (hn : q = none → t = [] ∧ cp = 0) :
    Calls Tryz.prog 59 #[.slice q t.length cp] w (CopyPost t w) := by
  have hown0 : w.ownsRow w.heap.size 55 3 (.slice none 0 0) 0 (vcells []) := ⟨rfl, Or.inl ⟨rfl, rfl⟩⟩
  have HO := Lib.hid hown0
  have HR := Lib.hid hr
  clear hown0 hr
  go_enter Tryz.func59, Tryz.ntmps59
  go_wp2_with (at_builtin; refine wpList_append_vals rfl _ (.tmp 3) rfl w.heap.size _ 0 [] rfl HO.out q t cp rfl HR.out hn (by omega) (Nat.le_refl _) ?_; intro v2 w2 hown2 hgr2)
  go_ret
  rw [Nat.zero_add, List.nil_append] at hown2
  exact ⟨_, rfl, ⟨hown2, hz⟩, grown_below (Below.refl _ _) (Nat.le_refl _) hgr2 (fun k hk => by cases hk)⟩
end Go.Proofs.YtlnbpobipmejfaaGreatDoor
