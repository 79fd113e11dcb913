/-
  Several texts in one.
-/
import Derived.Test.YtlnbpobipmejfaaGreatDoorPk20
import Derived.MapKept
import Derived.Carry
/-
  A map from whole numbers to truths that the call makes: what it holds, by the list of its keys.
-/
namespace Go.Proofs.YtlnbpobipmejfaaGreatDoor
set_option maxRecDepth 100000
open Go.RowKit
variable {ls : List Nat}

theorem find_int (x : Int) : ∀ (es : List MapEntry) (S : List Int) (i : Nat), es.map (·.key) = S.map (Value.int .i64) → (∀ e ∈ es, e.val = .bool true) →
    (x ∉ S ∧ Instr.findNow (.int .i64) (.int .i64 x) es i = some none) ∨ (x ∈ S ∧ ∃ j, Instr.findNow (.int .i64) (.int .i64 x) es i = some (some (j, .bool true)))
  | [], S, i, hk, hv => by
    have : S = [] := by cases S with
      | nil => rfl
      | cons x S => simp at hk
    subst this
    exact .inl ⟨by simp, rfl⟩
  | e :: es, S, i, hk, hv => by
    cases S with
    | nil => simp at hk
    | cons y S =>
      rw [List.map_cons, List.map_cons] at hk
      injection hk with hk1 hk2
      have hs : Instr.sameNow (.int .i64) (.int .i64 x) e.key = some (x == y) := by rw [hk1]; simp [Instr.sameNow]
      by_cases hx : x = y
      · rw [beq_iff_eq.2 hx] at hs
        refine .inr ⟨by rw [hx]; exact List.mem_cons_self, i, ?_⟩
        have hev := hv e List.mem_cons_self
        simp [Instr.findNow, hs, hev]
      · rw [beq_eq_false_iff_ne.2 hx] at hs
        have hrun : Instr.findNow (.int .i64) (.int .i64 x) (e :: es) i = Instr.findNow (.int .i64) (.int .i64 x) es (i + 1) := by simp [Instr.findNow, hs]
        rcases find_int x es S (i + 1) hk2 (fun y hy => hv y (List.mem_cons_of_mem _ hy)) with ⟨h1, h2⟩ | ⟨h1, j, h2⟩
        · exact .inl ⟨by simp [hx, h1], by rw [hrun, h2]⟩
        · exact .inr ⟨List.mem_cons_of_mem _ h1, j, by rw [hrun, h2]⟩
theorem check_int (em : Bool) (x : Int) (w : World) : (Instr.checkKey em 10000 3 (.int .i64 x)).run Tryz.prog w = .ok () w := MapKept.run_checkKey Tryz.underlying3 (show MapKept.IsKey (.int .i64) (.int .i64 x) from rfl) em 9999
/-- Block b is a map whose keys are S, all with true. -/
def SeenI (w : World) (b : Nat) (S : List Int) : Prop := ∃ (es : Array MapEntry) (clock : Nat), w.heap[b]? = some (.map es clock) ∧ es.toList.map (·.key) = S.map (Value.int .i64) ∧ ∀ e ∈ es.toList, e.val = .bool true
theorem SeenI.new (w : World) : SeenI (w.alloc (.map #[] 0)) w.heap.size [] := ⟨#[], 0, by show (w.heap.push _)[w.heap.size]? = _; simp, rfl, fun e he => by simp at he⟩
theorem SeenI.lt {w : World} {b : Nat} {S : List Int} (h : SeenI w b S) : b < w.heap.size := by
  obtain ⟨es, clock, hb, -⟩ := h
  exact (Array.getElem?_eq_some_iff.1 hb).1
theorem SeenI.low {u v : World} {b : Nat} {S : List Int} (h : SeenI u b S) (hb : Below u.heap.size u v) : SeenI v b S := by
  obtain ⟨es, clock, h0, h1, h2⟩ := h
  exact ⟨es, clock, by rw [hb.block b (Array.getElem?_eq_some_iff.1 h0).1]; exact h0, h1, h2⟩
theorem SeenI.look {w : World} {b : Nat} {S : List Int} (h : SeenI w b S) (x : Int) (t : TypeId) (ht : Tryz.prog.underlying t = some (.map 3 4)) : (Instr.lookup t (.map (some b)) (.int .i64 x) false).run Tryz.prog w = .ok (.bool (decide (x ∈ S))) w := by
  obtain ⟨es, clock, hb, hk, hv⟩ := h
  have hz : (zeroValue 4).run Tryz.prog w = .ok (.bool false) w := by go_simp
  rcases find_int x es.toList S 0 hk hv with ⟨h1, h2⟩ | ⟨h1, j, h2⟩
  · have hf := MapKept.run_findKey (w := w) Tryz.underlying3 h2
    rw [decide_eq_false h1]
    simp [Instr.lookup, run_underlying ht, MapKept.run_getObj_map hb, check_int, hf, hz, Result.andThen]
  · have hf := MapKept.run_findKey (w := w) Tryz.underlying3 h2
    rw [decide_eq_true h1]
    simp [Instr.lookup, run_underlying ht, MapKept.run_getObj_map hb, check_int, hf, Result.andThen]
theorem SeenI.put {w : World} {b : Nat} {S : List Int} (h : SeenI w b S) (x : Int) (hn : x ∉ S) (t : TypeId) (ht : Tryz.prog.underlying t = some (.map 3 4)) :
    ∃ w', (Instr.mapUpdate t (.map (some b)) (.int .i64 x) (.bool true)).run Tryz.prog w = .ok () w' ∧ SeenI w' b (S ++ [x]) ∧ w.grownBy w' (some b) := by
  obtain ⟨es, clock, hb, hk, hv⟩ := h
  rcases find_int x es.toList S 0 hk hv with ⟨h1, h2⟩ | ⟨h1, -⟩
  · have hf := MapKept.run_findKey (w := w) Tryz.underlying3 h2
    refine ⟨{ w with heap := w.heap.setIfInBounds b (.map (es.push { key := .int .i64 x, val := .bool true, born := clock }) (clock + 1)) }, ?_, ?_, ?_⟩
    · simp [Instr.mapUpdate, run_underlying ht, MapKept.run_getObj_map hb, check_int, hf, MapKept.run_setObj_map _ hb, Result.andThen]
    · refine ⟨es.push { key := .int .i64 x, val := .bool true, born := clock }, clock + 1, ?_, ?_, ?_⟩
      · have := (Array.getElem?_eq_some_iff.1 hb).1
        simp [this]
      · simp [hk]
      · intro e he
        simp at he
        rcases he with he | rfl
        · exact hv e (by simpa using he)
        · rfl
    · refine ⟨rfl, rfl, rfl, by simp, fun k _ hne => ?_⟩
      have : b ≠ k := fun e => hne (by rw [e])
      simp [this]
  · exact absurd h1 hn
end Go.Proofs.YtlnbpobipmejfaaGreatDoor
