/-
  Several texts in one.
-/
import Derived.Test.YtlnbpobipmejfaaGreatDoorPk20
import Derived.Test.YtlnbpobipmejfaaGreatDoorPk21
import Derived.Deep.RegionHeld3
import Derived.Deep.CutBlock
import Derived.Test.YtlnbpobipmejfaaGreatDoorPk16
import Derived.Deep.RegionLaw
/-
  Package keys: validWidths, fits, hasRoom.
-/
namespace Go.Proofs.YtlnbpobipmejfaaGreatDoor
set_option maxRecDepth 100000
open Go.RowKit
variable {ls : List Nat}

end Go.Proofs.YtlnbpobipmejfaaGreatDoor
/-
  Package keys: remaining (the loop over the rows).
-/
namespace Go.Proofs.YtlnbpobipmejfaaGreatDoor
set_option maxRecDepth 100000
open Go.RowKit
variable {ls : List Nat}

end Go.Proofs.YtlnbpobipmejfaaGreatDoor
/-
  Package keys: Valid.
-/
namespace Go.Proofs.YtlnbpobipmejfaaGreatDoor
set_option maxRecDepth 100000
open Go.RowKit
variable {ls : List Nat}

end Go.Proofs.YtlnbpobipmejfaaGreatDoor
/-
  Package clone: copies of rows.
-/
namespace Go.Proofs.YtlnbpobipmejfaaGreatDoor
set_option maxRecDepth 100000
open Go.RowKit
variable {ls : List Nat}

theorem InRow.keep2 {u v : World} {base : Nat} {x : Value × List Val} (h : InRow u base x) (hk : ∀ k, base ≤ k → k < u.heap.size → v.heap[k]? = u.heap[k]?) : InRow v base x :=
  ⟨owns_keep h.1 fun k hk' => hk k (owns_block h.1 k hk') (owns_lt h.1 k hk'), h.2⟩
/-- What a copy of a row gives. -/
def CopyRowPost (id : Int) (t : List Val) (w : World) (e : Ending) (w' : World) : Prop := ∃ v : Value, e = .returned (.agg #[.int .i64 id, v]) ∧ InRow w' w.heap.size (v, t) ∧ Below w.heap.size w w'
theorem cell2_row (w : World) (id : Int) (y : Value) : Cell2 (w.alloc (.cells #[.int .i64 id, y] 58)) w.heap.size (.int .i64 id) y := cell2_new w _ _ _
theorem cell2_put (u : World) {X : Nat} {a b : Value} (h : Cell2 u X a b) (x y : Value) : Cell2 ((u.setCell ⟨X, 0, none⟩ x).setCell ⟨X, 1, none⟩ y) X x y := by
  obtain ⟨hl, c0, c1, fz⟩ := h
  refine ⟨by simpa [World.setCell] using hl, ?_, ?_, fun o => ?_⟩
  · go_simp
  · go_simp
  · rw [World.frozen?_setCell, World.frozen?_setCell]; exact fz o
set_option maxHeartbeats 1000000 in
theorem dcopy_any (t : List Val) (q : Option Addr) (cp : Nat) (w : World) (hr : RowAt w q t) (hz : t.length * 32 ≤ 140737488355328) (hn : q = none → t = [] ∧ cp = 0) :
    Calls Tryz.prog 59 #[.slice q t.length cp] w (CopyPost t w) := by
  have hown0 : w.ownsRow w.heap.size 55 3 (.slice none 0 0) 0 (vcells []) := ⟨rfl, Or.inl ⟨rfl, rfl⟩⟩
  have HO := Lib.hid hown0
  have HR := Lib.hid hr
  clear hown0 hr
  go_enter Tryz.func59, Tryz.ntmps59
  go_wp2_with (at_builtin; refine wpList_append_vals rfl _ (.tmp 3) rfl w.heap.size _ 0 [] rfl HO.out q t cp rfl HR.out hn (by omega) (Nat.le_refl _) ?_; intro v2 w2 hown2 hgr2)
  go_ret
  rw [Nat.zero_add, List.nil_append] at hown2
  exact ⟨_, rfl, ⟨hown2, hz⟩, grown_below (Below.refl _ _) (Nat.le_refl _) hgr2 (fun k hk => by cases hk)⟩
set_option maxHeartbeats 2000000 in
theorem dcopyrow_any (id : Int) (t : List Val) (q : Option Addr) (cp : Nat) (w : World) (hr : RowAt w q t) (hz : t.length * 32 ≤ 140737488355328) (hn : q = none → t = [] ∧ cp = 0) :
    Calls Tryz.prog 67 #[.agg #[.int .i64 id, .slice q t.length cp]] w (CopyRowPost id t w) := by
  have HX := Lib.hid ((cell2_row w id (.slice q t.length cp)).low (below_alloc _ (.cells #[.int .i64 0, .slice none 0 0] 58)))
  have hy := cell2_row (w.alloc (.cells #[.int .i64 id, .slice q t.length cp] 58)) 0 (.slice none 0 0)
  rw [size_alloc] at hy
  have HY := Lib.hid hy
  have hb0 := below_new (below_new (Below.refl w.heap.size w) (.cells #[.int .i64 id, .slice q t.length cp] 58)) (.cells #[.int .i64 0, .slice none 0 0] 58)
  have HB := Lib.hid hb0
  have HR := Lib.hid (hr.low hb0)
  have HN := Lib.hid hn
  clear hy hb0 hr hn
  go_enter Tryz.func67, Tryz.ntmps67
  go_upto_region 1 with (fail)
  generalize World.alloc _ _ = W1 at HX HY HB HR ⊢
  obtain ⟨xl, x0, x1, -⟩ := HX.out
  have HRD := Lib.hid (HR.out.low (Below.refl W1.heap.size W1).drew)
  have HXD := Lib.hid (HX.out.low (Below.refl W1.heap.size W1).drew)
  have HYD := Lib.hid (HY.out.low (Below.refl W1.heap.size W1).drew)
  have HBD := Lib.hid (below_next HB.out (Below.refl W1.heap.size W1).drew)
  go_region_law (first
    | (go_simp; go_at_call 59; refine (dcopy_any t q cp _ HRD.out hz HN.out).mono ?_; rintro e w3 ⟨v3, rfl, hin, hb3⟩; obtain ⟨p3, c3, e3⟩ := InRow.ex hin; subst e3; (have HIN := Lib.hid hin); (have HB3 := Lib.hid hb3); obtain ⟨zl, z0, z1, -⟩ := HXD.out.low hb3; obtain ⟨yl, y0, y1, yf⟩ := HYD.out.low hb3; clear hin hb3))
  all_goals
    go_wp2
    have hz0 : w.heap.size + 1 < W1.heap.size := HY.out.lt
    have HS := cell2_put w3 (HYD.out.low HB3.out) (.int .i64 id) (.slice p3 t.length c3)
    obtain ⟨-, s0, s1, -⟩ := HS
    exact bodyPost_ret (v := .agg #[.int .i64 id, .slice p3 t.length c3]) (by simp [results, Tryz.results67, go_sem, s0, s1]) rfl
      ⟨_, rfl, (HIN.out.base (show w.heap.size + 2 ≤ W1.drew.heap.size from by show w.heap.size + 2 ≤ W1.heap.size; omega)).keep2 (fun k h1 _ => by rw [Below.heap_setCell _ _ _ _ (show k ≠ w.heap.size + 1 by omega), Below.heap_setCell _ _ _ _ (show k ≠ w.heap.size + 1 by omega)]) |>.base (by omega),
        ((below_next HBD.out HB3.out).setCell (by show w.heap.size ≤ w.heap.size + 1; omega) _).setCell (by show w.heap.size ≤ w.heap.size + 1; omega) _⟩
end Go.Proofs.YtlnbpobipmejfaaGreatDoor
