/-
  Several texts in one.
-/
import Derived.Test.YtecghiflbnhceaaDoorPk11
import Derived.Test.YtecghiflbnhceaaDoorPk07
import Derived.Test.YtecghiflbnhceaaDoorPk10
import Derived.Deep.QuietTactic
import Derived.BigQuiet
import Derived.Test.YtecghiflbnhceaaDoorPk12
import Derived.Test.YtecghiflbnhceaaDoorPk04
/-
  Tables: Get, Bag, Lookup of the reference.
-/
namespace Go.Proofs.YtecghiflbnhceaaDoor
set_option maxRecDepth 100000
open Go.RowKit
variable {ls : List Nat}

def getO (id : Int) (R : List TRow) : List Val × Bool := match getR id R with | some l => (l, true) | none => ([], false)
theorem getO_hit {id : Int} {R : List TRow} {i : Nat} (h : i < R.length) (hp : (tAt R i).1 = id) (hn : ∀ j, j < i → (tAt R j).1 ≠ id) : getO id R = ((tAt R i).2, true) := by unfold getO; rw [getR_hit h hp hn]
theorem getO_none {id : Int} {R : List TRow} (hn : ∀ j, j < R.length → (tAt R j).1 ≠ id) : getO id R = ([], false) := by unfold getO; rw [getR_none hn]
def lookO (k : Int) (key : Val) (R : List TRow) : Int × Bool := match lookR k key R with | some i => (i, true) | none => (0, false)
theorem lookO_hit {k : Int} {key : Val} {R : List TRow} {i : Nat} (h : i < R.length) (hp : keyV k (tAt R i).2 = some key) (hn : ∀ j, j < i → keyV k (tAt R j).2 ≠ some key) : lookO k key R = ((tAt R i).1, true) := by unfold lookO; rw [lookR_hit h hp hn]
theorem lookO_none {k : Int} {key : Val} {R : List TRow} (hn : ∀ j, j < R.length → keyV k (tAt R j).2 ≠ some key) : lookO k key R = (0, false) := by unfold lookO; rw [lookR_none hn]
def GetPost (id : Int) (R : List TRow) (w : World) (e : Ending) (w' : World) : Prop := ∃ (p : Option Addr) (cap : Nat), e = .returned (.tuple #[.slice p (getO id R).1.length cap, .bool (getO id R).2]) ∧ RowAt w' p (getO id R).1 ∧ (getO id R).1.length * 32 ≤ 140737488355328 ∧ Below w.heap.size w w'

theorem heads_add {u : World} {xs : List Value} {L : List (List Val)} {l : List Val} {q : Option Addr} {cp : Nat} (h : HeadsAt u xs L) (hr : RowAt u q l) (hs : l.length * 32 ≤ 140737488355328) (hn : q = none → l = [] ∧ cp = 0) : HeadsAt u (xs ++ [.slice q l.length cp]) (L ++ [l]) := by
  refine h.append ⟨rfl, fun i hi => ?_⟩
  have h0 : i = 0 := by simpa using hi
  subst h0
  exact ⟨q, cp, rfl, hr, hs, hn⟩
theorem bag_take {R : List TRow} {k : Nat} (h : k < R.length) : (R.take (k + 1)).map (·.2) = (R.take k).map (·.2) ++ [(tAt R k).2] := by rw [take_trow h, List.map_append]; rfl
end Go.Proofs.YtecghiflbnhceaaDoor
/-
  Tables: Lookup of the reference.
-/
namespace Go.Proofs.YtecghiflbnhceaaDoor
set_option maxRecDepth 100000
open Go.RowKit
variable {ls : List Nat}

theorem row2_new (w : World) (x y : Value) (t : TypeId) : (w.alloc (.cells #[x, y] t)).cell? ⟨w.heap.size, 0, none⟩ = some x ∧ (w.alloc (.cells #[x, y] t)).cell? ⟨w.heap.size, 1, none⟩ = some y := by
  constructor <;> go_simp
theorem keyV_ne {k : Nat} {l : List Val} {key : Val} (h : k < l.length) (hs : sameV (vAt l k).1 (vAt l k).2.1 (vAt l k).2.2 key.1 key.2.1 key.2.2 = false) : keyV k l ≠ some key := by
  rw [keyV_some h]
  intro he
  have e := Option.some.inj he
  rw [← e, same_vals.2 rfl] at hs
  cases hs
theorem keyV_eq {k : Nat} {l : List Val} {key : Val} (h : k < l.length) (hs : sameV (vAt l k).1 (vAt l k).2.1 (vAt l k).2.2 key.1 key.2.1 key.2.2 = true) : keyV k l = some key := by
  rw [keyV_some h, same_vals.1 hs]
theorem drewN_low {B : Nat} {a w : World} (h : Below B a w) (n : Nat) : Below B a (w.drewN n) := ⟨h.os, h.tape, h.output, h.size, h.block⟩
end Go.Proofs.YtecghiflbnhceaaDoor
/-
  Tables: Duplicate of the reference.
-/
namespace Go.Proofs.YtecghiflbnhceaaDoor
set_option maxRecDepth 100000
open Go.RowKit
variable {ls : List Nat}

theorem wpList_look_seen {w : World} {ops : Array Oper} {rest : List Oper} {o : Oper} {a : Act} {Q : Exit → Act → World → Prop} (hg : o.guard = none) (m x : Operand) (t : TypeId) (hop : o.op = Op.lookup t m x false) (ht : Tryd.prog.underlying t = some (.map 26 4))
    (b : Nat) (S : List Val) (hm : a.eval m = .map (some b)) (hs : SeenAt w b S) (v : Val) (hx : a.eval x = valV v) (h : wpList Tryd.prog ops Q rest (a.put o.dst (.bool (seenB v S))) w) : wpList Tryd.prog ops Q (o :: rest) a w := by
  refine wpList_plain hg fun K' hK' => ?_
  have hrun := hs.look v t ht
  unfold Oper.wp
  simp [execOp, hop, hm, hx, hrun, Result.andThen]
  exact hK' _ _ h
theorem wpList_put_seen {w : World} {ops : Array Oper} {rest : List Oper} {o : Oper} {a : Act} {Q : Exit → Act → World → Prop} (hg : o.guard = none) (m x y : Operand) (t : TypeId) (hop : o.op = Op.mapUpdate t m x y) (ht : Tryd.prog.underlying t = some (.map 26 4))
    (b : Nat) (S : List Val) (hm : a.eval m = .map (some b)) (hs : SeenAt w b S) (v : Val) (hx : a.eval x = valV v) (hy : a.eval y = .bool true) (hn : v ∉ S) (h : ∀ w', SeenAt w' b (S ++ [v]) → w.grownBy w' (some b) → wpList Tryd.prog ops Q rest (a.put o.dst undef) w') : wpList Tryd.prog ops Q (o :: rest) a w := by
  refine wpList_plain hg fun K' hK' => ?_
  obtain ⟨w', hrun, h1, h2⟩ := hs.put v hn t ht
  unfold Oper.wp
  simp [execOp, hop, hm, hx, hy, hrun, Result.andThen]
  exact hK' _ _ (h w' h1 h2)
theorem size_map (w : World) : (w.alloc (.map #[] 0)).heap.size = w.heap.size + 1 := by simp
end Go.Proofs.YtecghiflbnhceaaDoor
/-
  Valid of schemas, of the program and of the reference.
-/
namespace Go.Proofs.YtecghiflbnhceaaDoor
set_option maxRecDepth 100000
open Go.RowKit
variable {ls : List Nat}

end Go.Proofs.YtecghiflbnhceaaDoor
