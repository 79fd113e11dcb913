/-
  Several texts in one.
-/
import Derived.Test.YtlpaphgmdcpmaaaGreatDoorPk11
import Derived.Test.YtlpaphgmdcpmaaaGreatDoorPk04
import Derived.Deep.QuietTactic
/-
  Tables: Duplicate of the reference.
-/
namespace Go.Proofs.YtlpaphgmdcpmaaaGreatDoor
set_option maxRecDepth 100000
open Go.RowKit
variable {ls : List Nat}

theorem wpList_look_seen {w : World} {ops : Array Oper} {rest : List Oper} {o : Oper} {a : Act} {Q : Exit → Act → World → Prop} (hg : o.guard = none) (m x : Operand) (t : TypeId) (hop : o.op = Op.lookup t m x false) (ht : Tryz.prog.underlying t = some (.map 23 4))
    (b : Nat) (S : List Val) (hm : a.eval m = .map (some b)) (hs : SeenAt w b S) (v : Val) (hx : a.eval x = valV v) (h : wpList Tryz.prog ops Q rest (a.put o.dst (.bool (seenB v S))) w) : wpList Tryz.prog ops Q (o :: rest) a w := by
  refine wpList_plain hg fun K' hK' => ?_
  have hrun := hs.look v t ht
  unfold Oper.wp
  simp [execOp, hop, hm, hx, hrun, Result.andThen]
  exact hK' _ _ h
theorem wpList_put_seen {w : World} {ops : Array Oper} {rest : List Oper} {o : Oper} {a : Act} {Q : Exit → Act → World → Prop} (hg : o.guard = none) (m x y : Operand) (t : TypeId) (hop : o.op = Op.mapUpdate t m x y) (ht : Tryz.prog.underlying t = some (.map 23 4))
    (b : Nat) (S : List Val) (hm : a.eval m = .map (some b)) (hs : SeenAt w b S) (v : Val) (hx : a.eval x = valV v) (hy : a.eval y = .bool true) (hn : v ∉ S) (h : ∀ w', SeenAt w' b (S ++ [v]) → w.grownBy w' (some b) → wpList Tryz.prog ops Q rest (a.put o.dst undef) w') : wpList Tryz.prog ops Q (o :: rest) a w := by
  refine wpList_plain hg fun K' hK' => ?_
  obtain ⟨w', hrun, h1, h2⟩ := hs.put v hn t ht
  unfold Oper.wp
  simp [execOp, hop, hm, hx, hy, hrun, Result.andThen]
  exact hK' _ _ (h w' h1 h2)
theorem size_map (w : World) : (w.alloc (.map #[] 0)).heap.size = w.heap.size + 1 := by simp
end Go.Proofs.YtlpaphgmdcpmaaaGreatDoor
/-
  Valid of schemas, of the program and of the reference.
-/
namespace Go.Proofs.YtlpaphgmdcpmaaaGreatDoor
set_option maxRecDepth 100000
open Go.RowKit
variable {ls : List Nat}

theorem validName_eq {s : ByteArray} {b : Bool} (hs : s.size ≤ 9223372036854775807) (h : nameOK s = b) (w : World) : Calls Tryz.prog 37 #[.string s] w fun e w' => e = .returned (.bool b) ∧ Below w.heap.size w w' := by
  subst h; exact validName_any s w hs
theorem rvalidName_eq {s : ByteArray} {b : Bool} (hs : s.size ≤ 9223372036854775807) (h : nameOK s = b) (w : World) : Calls Tryz.prog 57 #[.string s] w fun e w' => e = .returned (.bool b) ∧ w = w' := by
  subst h; exact rvalidName_any s w hs
end Go.Proofs.YtlpaphgmdcpmaaaGreatDoor
/-
  Valid of schemas, of the reference.
-/
namespace Go.Proofs.YtlpaphgmdcpmaaaGreatDoor
set_option maxRecDepth 100000
open Go.RowKit
variable {ls : List Nat}

theorem rvname_eq {s : ByteArray} {b : Bool} (hs : s.size ≤ 9223372036854775807) (h : nameOK s = b) (w : World) : Calls Tryz.prog 57 #[.string s] w fun e w' => e = .returned (.bool b) ∧ w' = w := (rvalidName_eq hs h w).mono fun _ _ he => ⟨he.1, he.2.symm⟩
theorem keysN_succ (f : Nat → Col) (k : Nat) : keysN f (k + 1) = keysN f k + if (f k).key then 1 else 0 := rfl
theorem keys_yes {f : Nat → Col} {k : Nat} (h : (f k).key = true) : ((keysN f k : Nat) : Int) + 1 = ((keysN f (k + 1) : Nat) : Int) := by rw [keysN_succ, h]; simp
theorem keys_no {f : Nat → Col} {k : Nat} (h : (f k).key = false) : ((keysN f k : Nat) : Int) = ((keysN f (k + 1) : Nat) : Int) := by rw [keysN_succ, h]; simp

end Go.Proofs.YtlpaphgmdcpmaaaGreatDoor
/-
  A drawn region with guards, whose calls make memory: it is walked once, in the text's order, over the worlds in which nothing old is turned.
-/
namespace Go.Proofs.YtlpaphgmdcpmaaaGreatDoor
set_option maxRecDepth 100000
open Go.RowKit

/-- How far such a world is from W: its draws, the blocks behind. -/
structure LowBy where
  d : Nat
  os : Array Obj
  deriving Inhabited
def lowW (W : World) (d : Nat) (os : Array Obj) : World := { W with drawn := d, heap := W.heap ++ os }
theorem lowW_low (W : World) (d : Nat) (os : Array Obj) : Below W.heap.size W (lowW W d os) :=
  ⟨rfl, rfl, rfl, by show W.heap.size ≤ (W.heap ++ os).size; simp, fun k hk => by show (W.heap ++ os)[k]? = _; rw [Array.getElem?_append_left hk]⟩
theorem low_eq {W w' : World} (h : Below W.heap.size W w') : ∃ p : LowBy, w' = lowW W p.d p.os := by
  refine ⟨⟨w'.drawn, w'.heap.extract W.heap.size w'.heap.size⟩, ?_⟩
  have hh : W.heap ++ w'.heap.extract W.heap.size w'.heap.size = w'.heap := by
    apply Array.ext_getElem?
    intro i
    have hs := h.size
    by_cases hi : i < W.heap.size
    · rw [Array.getElem?_append_left hi, h.block i hi]
    · rw [Array.getElem?_append_right (by omega), Array.getElem?_extract]
      by_cases hj : i < w'.heap.size
      · rw [if_pos (by omega), show W.heap.size + (i - W.heap.size) = i by omega]
      · rw [if_neg (by omega), Array.getElem?_eq_none (by omega)]
  have h1 := h.os
  have h2 := h.tape
  have h3 := h.output
  cases W
  cases w'
  simp only [lowW] at *
  subst h1 h2 h3
  rw [hh]
theorem lowW_cell {W : World} {a : Addr} {v : Value} (hb : a.block < W.heap.size) (h : W.cell? a = some v) (d : Nat) (os : Array Obj) : (lowW W d os).cell? a = some v := by rw [(lowW_low W d os).cell hb]; exact h
/-- The walk over the class; it does not unfold by itself (a chain of operations that are not wanted is unfolded at every look). -/
@[irreducible] def wq (P : Program) (ops : Array Oper) (C : World → Prop) (Q : Act → Prop) (l : List Oper) (a : Act) : Prop := wpQuiet P ops C Q l a
theorem wq_nil {P : Program} {ops : Array Oper} {C : World → Prop} {Q : Act → Prop} {a : Act} (h : Q a) : wq P ops C Q [] a := by unfold wq; exact h
theorem wq_step {P : Program} {ops : Array Oper} {C : World → Prop} {Q : Act → Prop} {a : Act} {o : Oper} {rest : List Oper}
    (h : ∀ K : Act → Prop, (∀ a, wq P ops C Q rest a → K a) → if Region.wanted o (yielded ops a.tmps) then o.quiet P a C K else K (a.put o.dst undef)) : wq P ops C Q (o :: rest) a := by
  unfold wq at h ⊢
  exact wpQuiet_step h
theorem wp_region_low {P : Program} {id : Nat} {Q : Exit → Act → World → Prop} {a : Act} {w : World} {l : List Oper} (hm : P.follows .mixedOrders = true) (hB : Region.lexB .any l.toArray = true)
    (h : wq P l.toArray (fun w' => ∃ p : LowBy, w' = lowW w p.d p.os) (fun a' => ∀ w', (∃ p : LowBy, w' = lowW w p.d p.os) → Q .normal a' w') l a) : (Code.region id l.toArray true).wp P Q a w := by
  unfold wq at h
  exact wp_region_quiet (C := fun w' => ∃ p : LowBy, w' = lowW w p.d p.os) hm hB ⟨⟨w.drawn + 1, #[]⟩, by simp [lowW]⟩ (by simpa using h)
/-- A callee's contract, met in a world of the class. -/
theorem Calls.low_of {P : Program} {f : FuncId} {args : Array Value} {W : World} {d : Nat} {os : Array Obj} {v : Value}
    (h : Calls P f args (lowW W d os) fun e w' => e = .returned v ∧ Below (lowW W d os).heap.size (lowW W d os) w') : Calls P f args (lowW W d os) fun e w'' => e = .returned v ∧ ∃ p : LowBy, w'' = lowW W p.d p.os :=
  h.mono fun _ _ ⟨he, hb⟩ => ⟨he, low_eq ((lowW_low W d os).trans (hb.mono (lowW_low W d os).size))⟩
end Go.Proofs.YtlpaphgmdcpmaaaGreatDoor
