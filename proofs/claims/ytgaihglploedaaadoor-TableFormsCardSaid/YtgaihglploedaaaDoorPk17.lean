/-
  Several texts in one.
-/
import Derived.Test.YtgaihglploedaaaDoorPk08
import Derived.Test.YtgaihglploedaaaDoorPk12
import Derived.Test.YtgaihglploedaaaDoorPk03
import Derived.MapKept
import Derived.ChangeKeysEq
import Derived.Carry
import Derived.Deep.QuietTactic
import Derived.BigQuiet
/-
  Tables, as plain lists; what Valid, Get, Lookup, Duplicate compute. Tables in memory.
-/
namespace Go.Proofs.YtgaihglploedaaaDoor
set_option maxRecDepth 100000
open Go.RowKit
variable {ls : List Nat}

/-- A row with its number. -/
abbrev TRow := Int × List Val
def tAt (R : List TRow) (i : Nat) : TRow := R.getD i (0, [])
theorem tAt_get {R : List TRow} {i : Nat} (h : i < R.length) : tAt R i = R[i] := by unfold tAt; rw [List.getD, List.getElem?_eq_getElem h]; rfl
theorem tAt_mem {R : List TRow} {i : Nat} (h : i < R.length) : tAt R i ∈ R := by rw [tAt_get h]; exact List.getElem_mem h
theorem take_trow {R : List TRow} {i : Nat} (h : i < R.length) : R.take (i + 1) = R.take i ++ [tAt R i] := by rw [tAt_get h]; exact (List.take_append_getElem h).symm
theorem drop_trow {R : List TRow} {i : Nat} (h : i < R.length) : R.drop i = tAt R i :: R.drop (i + 1) := by rw [tAt_get h]; exact List.drop_eq_getElem_cons h
theorem tAt_left {A B : List TRow} {i : Nat} (h : i < A.length) : tAt (A ++ B) i = tAt A i := by unfold tAt; rw [List.getD, List.getElem?_append_left h]; rfl
theorem tAt_last (A : List TRow) (x : TRow) : tAt (A ++ [x]) A.length = x := by unfold tAt; simp

/-- The value in the key column. -/
def keyV (k : Int) (l : List Val) : Option Val := if 0 ≤ k ∧ k < l.length then some (vAt l k.toNat) else none
theorem keyV_some {k : Nat} {l : List Val} (h : k < l.length) : keyV k l = some (vAt l k) := by unfold keyV; rw [if_pos ⟨by omega, by omega⟩]; rfl
theorem keyV_long {k : Nat} {l : List Val} (h : l.length ≤ k) : keyV k l = none := by unfold keyV; rw [if_neg (by omega)]
theorem keyV_neg {k : Int} {l : List Val} (h : k < 0) : keyV k l = none := by unfold keyV; rw [if_neg (by omega)]
def keysR (k : Int) (R : List TRow) : List Val := R.filterMap fun r => keyV k r.2
/-- Do two rows have the same key? -/
def dupR (k : Int) (R : List TRow) : Bool := !decide (keysR k R).Nodup
def lookR (k : Int) (key : Val) (R : List TRow) : Option Int := (R.find? fun r => decide (keyV k r.2 = some key)).map (·.1)
def getR (id : Int) (R : List TRow) : Option (List Val) := (R.find? fun r => decide (r.1 = id)).map (·.2)

theorem keysR_take {k : Int} {R : List TRow} {i : Nat} (h : i < R.length) : keysR k (R.take (i + 1)) = keysR k (R.take i) ++ (keyV k (tAt R i).2).toList := by
  unfold keysR
  rw [take_trow h, List.filterMap_append]
  cases hk : keyV k (tAt R i).2 with
  | none => rw [List.filterMap_cons_none (by exact hk)]; rfl
  | some v => rw [List.filterMap_cons_some (by exact hk)]; rfl
theorem keysR_sub {k : Int} {R : List TRow} {i : Nat} : (keysR k (R.take i)).Sublist (keysR k R) := (List.take_sublist i R).filterMap _
theorem dupR_no {k : Int} {R : List TRow} (h : (keysR k R).Nodup) : dupR k R = false := by unfold dupR; rw [decide_eq_true h]; rfl
theorem dupR_yes {k : Int} {R : List TRow} {i : Nat} {v : Val} (h : i < R.length) (hv : keyV k (tAt R i).2 = some v) (hm : v ∈ keysR k (R.take i)) : dupR k R = true := by
  unfold dupR
  rw [decide_eq_false]
  · rfl
  · intro hn
    have h1 := hn.sublist (keysR_sub (i := i + 1))
    rw [keysR_take h, hv, List.nodup_append] at h1
    exact h1.2.2 v hm v (by simp) rfl
theorem dupR_neg {k : Int} {R : List TRow} (h : k < 0) : dupR k R = false := by
  apply dupR_no
  unfold keysR
  rw [List.filterMap_eq_nil_iff.2 fun r _ => keyV_neg h]
  exact List.nodup_nil
theorem nodup_step {k : Int} {R : List TRow} {i : Nat} {v : Val} (h : i < R.length) (hv : keyV k (tAt R i).2 = some v) (hn : (keysR k (R.take i)).Nodup) (hm : v ∉ keysR k (R.take i)) : (keysR k (R.take (i + 1))).Nodup := by
  rw [keysR_take h, hv]
  simp only [Option.toList_some]
  rw [List.nodup_append]
  refine ⟨hn, by simp, fun a ha b hb => ?_⟩
  obtain rfl := List.mem_singleton.1 hb
  exact fun e => hm (e ▸ ha)
theorem keysR_none {k : Int} {R : List TRow} {i : Nat} (h : i < R.length) (hv : keyV k (tAt R i).2 = none) : keysR k (R.take (i + 1)) = keysR k (R.take i) := by
  rw [keysR_take h, hv]; simp

theorem find_hit {α : Type} {P : α → Bool} {R : List α} {i : Nat} (h : i < R.length) (hp : P R[i] = true) (hn : ∀ j (hj : j < i), P (R[j]'(by omega)) = false) : R.find? P = some R[i] := by
  rw [List.find?_eq_some_iff_getElem]
  exact ⟨hp, i, h, rfl, fun j hj => by rw [hn j hj]; rfl⟩
theorem find_none {α : Type} {P : α → Bool} {R : List α} (hn : ∀ j (hj : j < R.length), P R[j] = false) : R.find? P = none := by
  rw [List.find?_eq_none]
  intro x hx
  obtain ⟨j, hj, rfl⟩ := List.getElem_of_mem hx
  rw [hn j hj]
  decide
theorem getR_hit {id : Int} {R : List TRow} {i : Nat} (h : i < R.length) (hp : (tAt R i).1 = id) (hn : ∀ j, j < i → (tAt R j).1 ≠ id) : getR id R = some (tAt R i).2 := by
  unfold getR
  rw [find_hit (P := fun r : TRow => decide (r.1 = id)) h (by rw [← tAt_get h]; exact decide_eq_true hp) (fun j hj => by rw [← tAt_get (by omega)]; exact decide_eq_false (hn j hj)), tAt_get h]
  rfl
theorem getR_none {id : Int} {R : List TRow} (hn : ∀ j, j < R.length → (tAt R j).1 ≠ id) : getR id R = none := by
  unfold getR
  rw [find_none (P := fun r : TRow => decide (r.1 = id)) (fun j hj => by rw [← tAt_get hj]; exact decide_eq_false (hn j hj))]
  rfl
theorem lookR_hit {k : Int} {key : Val} {R : List TRow} {i : Nat} (h : i < R.length) (hp : keyV k (tAt R i).2 = some key) (hn : ∀ j, j < i → keyV k (tAt R j).2 ≠ some key) : lookR k key R = some (tAt R i).1 := by
  unfold lookR
  rw [find_hit (P := fun r : TRow => decide (keyV k r.2 = some key)) h (by rw [← tAt_get h]; exact decide_eq_true hp) (fun j hj => by rw [← tAt_get (by omega)]; exact decide_eq_false (hn j hj)), tAt_get h]
  rfl
theorem lookR_none {k : Int} {key : Val} {R : List TRow} (hn : ∀ j, j < R.length → keyV k (tAt R j).2 ≠ some key) : lookR k key R = none := by
  unfold lookR
  rw [find_none (P := fun r : TRow => decide (keyV k r.2 = some key)) (fun j hj => by rw [← tAt_get hj]; exact decide_eq_false (hn j hj))]
  rfl

/-- Row i of a table is right. -/
def RowOK (f : Nat → Col) (n : Nat) (nx : Int) (R : List TRow) (i : Nat) : Prop :=
  1 ≤ (tAt R i).1 ∧ (tAt R i).1 < nx ∧ (0 < i → (tAt R (i - 1)).1 < (tAt R i).1) ∧ fitsRow f n (tAt R i).2 = 0
instance (f : Nat → Col) (n : Nat) (nx : Int) (R : List TRow) (i : Nat) : Decidable (RowOK f n nx R i) := by unfold RowOK; infer_instance
/-- Is a table valid? -/
def validT (nm : ByteArray) (n : Nat) (f : Nat → Col) (nx : Int) (R : List TRow) : Bool :=
  schemaOK nm n f && decide (R.length ≤ 100 ∧ 1 ≤ nx ∧ nx ≤ 2147483648) && decide (∀ i, i < R.length → RowOK f n nx R i) && !dupR (findKey f n) R
theorem validT_schema {nm : ByteArray} {n : Nat} {f : Nat → Col} {nx : Int} {R : List TRow} (h : schemaOK nm n f = false) : validT nm n f nx R = false := by unfold validT; rw [h]; rfl
theorem validT_head {nm : ByteArray} {n : Nat} {f : Nat → Col} {nx : Int} {R : List TRow} (h : ¬ (R.length ≤ 100 ∧ 1 ≤ nx ∧ nx ≤ 2147483648)) : validT nm n f nx R = false := by unfold validT; rw [decide_eq_false h, Bool.and_false]; rfl
theorem validT_row {nm : ByteArray} {n : Nat} {f : Nat → Col} {nx : Int} {R : List TRow} {i : Nat} (hi : i < R.length) (h : ¬ RowOK f n nx R i) : validT nm n f nx R = false := by
  unfold validT; rw [decide_eq_false (p := ∀ i, i < R.length → RowOK f n nx R i) (fun hc => h (hc i hi)), Bool.and_false]; rfl
theorem validT_dup {nm : ByteArray} {n : Nat} {f : Nat → Col} {nx : Int} {R : List TRow} (h : schemaOK nm n f = true) (h2 : R.length ≤ 100 ∧ 1 ≤ nx ∧ nx ≤ 2147483648) (h3 : ∀ i, i < R.length → RowOK f n nx R i) : validT nm n f nx R = !dupR (findKey f n) R := by
  unfold validT; rw [h, decide_eq_true h2, decide_eq_true h3]; rfl

/-- A slice of rows with numbers. -/
def TRowsAt (w : World) (p : Option Addr) (R : List TRow) : Prop :=
  ∀ i, i < R.length → ∃ (c o : Nat) (q : Option Addr) (cp : Nat), p = some ⟨c, o, none⟩ ∧ c < w.heap.size ∧ w.cell? ⟨c, o + i * 2, none⟩ = some (.int .i64 (tAt R i).1) ∧ w.cell? ⟨c, o + i * 2 + 1, none⟩ = some (.slice q (tAt R i).2.length cp) ∧ RowAt w q (tAt R i).2 ∧ (tAt R i).2.length * 32 ≤ 140737488355328 ∧ (q = none → (tAt R i).2 = [] ∧ cp = 0)
theorem TRowsAt.low {u v : World} {p : Option Addr} {R : List TRow} (h : TRowsAt u p R) (hb : Below u.heap.size u v) : TRowsAt v p R := by
  intro i hi
  obtain ⟨c, o, q, cp, hp, hc, h0, h1, hr, hs, hn⟩ := h i hi
  exact ⟨c, o, q, cp, hp, Nat.lt_of_lt_of_le hc hb.size, by rw [hb.cell (by exact hc)]; exact h0, by rw [hb.cell (by exact hc)]; exact h1, hr.low hb, hs, hn⟩
theorem TRowsAt.nil (w : World) (p : Option Addr) : TRowsAt w p [] := fun i hi => by simp at hi

/-- A table, as it lies in memory. -/
structure Tab where
  nm : ByteArray
  pc : Option Addr
  n : Nat
  cc : Nat
  f : Nat → Col
  nx : Int
  pr : Option Addr
  cr : Nat
  R : List TRow
def Tab.v (T : Tab) : Value := .agg #[.string T.nm, .slice T.pc T.n T.cc, .int .i64 T.nx, .slice T.pr T.R.length T.cr]
structure TabAt (w : World) (T : Tab) : Prop where
  name : T.nm.size ≤ 9223372036854775807
  n : T.n ≤ 9223372036854775807
  cols : ColsAt w T.pc T.n T.f
  rows : TRowsAt w T.pr T.R
  len : T.R.length ≤ 1000
  sized : ∀ r ∈ T.R, ValsSized r.2
  nxr : T.nx ≤ 9223372036854775807
theorem TabAt.low {u v : World} {T : Tab} (h : TabAt u T) (hb : Below u.heap.size u v) : TabAt v T := ⟨h.name, h.n, h.cols.low hb, h.rows.low hb, h.len, h.sized, h.nxr⟩
theorem TabAt.new {u : World} {T : Tab} (h : TabAt u T) (o : Obj) : TabAt (u.alloc o) T := h.low (below_alloc _ _)
def Tab.valid (T : Tab) : Bool := validT T.nm T.n T.f T.nx T.R
def Tab.key (T : Tab) : Int := findKey T.f T.n
end Go.Proofs.YtgaihglploedaaaDoor
/-
  A map from values to truths that the call makes: what it holds, by the list of its keys.
-/
namespace Go.Proofs.YtgaihglploedaaaDoor
set_option maxRecDepth 100000
open Go.RowKit
variable {ls : List Nat}

def valV (v : Val) : Value := .agg #[.int .i64 v.1, .int .i64 v.2.1, .string v.2.2]
theorem same_dec (a b : Val) : sameV a.1 a.2.1 a.2.2 b.1 b.2.1 b.2.2 = decide (a = b) := by
  by_cases h : a = b
  · rw [decide_eq_true h, same_vals.2 h]
  · rw [decide_eq_false h, Bool.eq_false_iff]
    exact fun hc => h (same_vals.1 hc)
theorem check_val (em : Bool) (v : Val) (w : World) : (Instr.checkKey em 10000 34 (valV v)).run Tryd.prog w = .ok () w := by
  unfold valV
  rw [show (10000 : Nat) = 9998 + 1 + 1 from rfl, Instr.checkKey]
  simp only [Sem.run_bind, run_underlying Tryd.underlying34, Result.andThen]
  have c0 : ∀ x : Int, (Instr.checkKey em (9998 + 1) 3 (.int .i64 x)).run Tryd.prog w = .ok () w := fun x => MapKept.run_checkKey Tryd.underlying3 (show MapKept.IsKey (.int .i64) (.int .i64 x) from rfl) em 9998
  have c1 : ∀ x : Int, (Instr.checkKey em (9998 + 1) 2 (.int .i64 x)).run Tryd.prog w = .ok () w := fun x => MapKept.run_checkKey Tryd.underlying2 (show MapKept.IsKey (.int .i64) (.int .i64 x) from rfl) em 9998
  have c2 : ∀ x : ByteArray, (Instr.checkKey em (9998 + 1) 9 (.string x)).run Tryd.prog w = .ok () w := fun x => MapKept.run_checkKey Tryd.underlying9 (show MapKept.IsKey .string (.string x) from trivial) em 9998
  have p0 : (part 3 #[.int .i64 v.1, .int .i64 v.2.1, .string v.2.2] 0).run Tryd.prog w = .ok (.int .i64 v.1) w := run_part_plain w (by kernel_rfl) rfl
  have p1 : (part 2 #[.int .i64 v.1, .int .i64 v.2.1, .string v.2.2] 1).run Tryd.prog w = .ok (.int .i64 v.2.1) w := run_part_plain w (by kernel_rfl) rfl
  have p2 : (part 9 #[.int .i64 v.1, .int .i64 v.2.1, .string v.2.2] 2).run Tryd.prog w = .ok (.string v.2.2) w := run_part_plain w (by kernel_rfl) rfl
  rw [← Array.forIn_toList]
  simp [List.forIn_cons, Sem.run_bind, p0, p1, p2, c0, c1, c2, Result.andThen]
theorem equal_val (a b : Val) (w : World) : (Op.equal 34 (valV a) (valV b)).run Tryd.prog w = .ok (decide (a = b)) w := by
  have h := eql_val a.1 a.2.1 a.2.2 b.1 b.2.1 b.2.2 w
  rw [run_eql_struct, same_dec] at h
  unfold valV Op.equal Op.maxDepth
  generalize (Op.equalIn 10000 34 _ _).run Tryd.prog w = r at h ⊢
  cases r with
  | halt _ _ => simp [Result.andThen] at h
  | ok b' w' =>
    simp only [Result.andThen, Result.ok.injEq, Value.bool.injEq] at h
    rw [h.1, h.2]
/-- A value is looked for among the keys. -/
theorem asking_val (v : Val) (w : World) : ∀ (es : List MapEntry) (S : List Val) (i : Nat), es.map (·.key) = S.map valV → (∀ e ∈ es, e.val = .bool true) →
    (v ∉ S ∧ (Instr.findAsking 34 (valV v) es i).run Tryd.prog w = .ok none w) ∨ (v ∈ S ∧ ∃ j, (Instr.findAsking 34 (valV v) es i).run Tryd.prog w = .ok (some (j, .bool true)) w)
  | [], S, i, hk, hv => by
    have : S = [] := by cases S with
      | nil => rfl
      | cons x S => simp at hk
    subst this
    exact .inl ⟨by simp, by simp [Instr.findAsking]⟩
  | e :: es, S, i, hk, hv => by
    cases S with
    | nil => simp at hk
    | cons x S =>
      rw [List.map_cons, List.map_cons] at hk
      injection hk with hk1 hk2
      have he := equal_val v x w
      rw [← hk1] at he
      by_cases hx : v = x
      · rw [decide_eq_true hx] at he
        refine .inr ⟨by rw [hx]; exact List.mem_cons_self, i, ?_⟩
        have hev := hv e List.mem_cons_self
        simp [Instr.findAsking, he, hev, Result.andThen]
      · rw [decide_eq_false hx] at he
        have hrun : (Instr.findAsking 34 (valV v) (e :: es) i).run Tryd.prog w = (Instr.findAsking 34 (valV v) es (i + 1)).run Tryd.prog w := by simp [Instr.findAsking, he, Result.andThen]
        rcases asking_val v w es S (i + 1) hk2 (fun y hy => hv y (List.mem_cons_of_mem _ hy)) with ⟨h1, h2⟩ | ⟨h1, j, h2⟩
        · exact .inl ⟨by simp [hx, h1], by rw [hrun, h2]⟩
        · exact .inr ⟨List.mem_cons_of_mem _ h1, j, by rw [hrun, h2]⟩
theorem find_val (v : Val) (w : World) (es : List MapEntry) (S : List Val) (hk : es.map (·.key) = S.map valV) (hv : ∀ e ∈ es, e.val = .bool true) :
    (v ∉ S ∧ (Instr.findKey 34 (valV v) es).run Tryd.prog w = .ok none w) ∨ (v ∈ S ∧ ∃ j, (Instr.findKey 34 (valV v) es).run Tryd.prog w = .ok (some (j, .bool true)) w) := by
  cases es with
  | nil =>
    have : S = [] := by cases S with
      | nil => rfl
      | cons x S => simp at hk
    subst this
    exact .inl ⟨by simp, by simp [Instr.findKey, Instr.findNow, run_underlying Tryd.underlying34, Result.andThen]⟩
  | cons e es =>
    have hrun : (Instr.findKey 34 (valV v) (e :: es)).run Tryd.prog w = (Instr.findAsking 34 (valV v) (e :: es) 0).run Tryd.prog w := by
      simp [Instr.findKey, Instr.findNow, Instr.sameNow, run_underlying Tryd.underlying34, Result.andThen]
    rw [hrun]
    exact asking_val v w _ S 0 hk hv

/-- Block b is a map whose keys are S, all with true. -/
def SeenAt (w : World) (b : Nat) (S : List Val) : Prop := ∃ (es : Array MapEntry) (clock : Nat), w.heap[b]? = some (.map es clock) ∧ es.toList.map (·.key) = S.map valV ∧ ∀ e ∈ es.toList, e.val = .bool true
theorem SeenAt.new (w : World) : SeenAt (w.alloc (.map #[] 0)) w.heap.size [] := ⟨#[], 0, by show (w.heap.push _)[w.heap.size]? = _; simp, rfl, fun e he => by simp at he⟩
theorem SeenAt.lt {w : World} {b : Nat} {S : List Val} (h : SeenAt w b S) : b < w.heap.size := by
  obtain ⟨es, clock, hb, -⟩ := h
  exact (Array.getElem?_eq_some_iff.1 hb).1
theorem SeenAt.low {u v : World} {b : Nat} {S : List Val} (h : SeenAt u b S) (hb : Below u.heap.size u v) : SeenAt v b S := by
  obtain ⟨es, clock, h0, h1, h2⟩ := h
  exact ⟨es, clock, by rw [hb.block b (Array.getElem?_eq_some_iff.1 h0).1]; exact h0, h1, h2⟩
def seenB (v : Val) (S : List Val) : Bool := S.any fun x => decide (x = v)
theorem seenB_iff {v : Val} {S : List Val} : seenB v S = true ↔ v ∈ S := by
  unfold seenB
  rw [List.any_eq_true]
  exact ⟨fun ⟨x, h1, h2⟩ => by have := of_decide_eq_true h2; subst this; exact h1, fun h => ⟨v, h, decide_eq_true rfl⟩⟩
theorem seenB_no {v : Val} {S : List Val} (h : v ∉ S) : seenB v S = false := by rw [Bool.eq_false_iff]; exact fun hc => h (seenB_iff.1 hc)
theorem SeenAt.look {w : World} {b : Nat} {S : List Val} (h : SeenAt w b S) (v : Val) (t : TypeId) (ht : Tryd.prog.underlying t = some (.map 34 4)) : (Instr.lookup t (.map (some b)) (valV v) false).run Tryd.prog w = .ok (.bool (seenB v S)) w := by
  obtain ⟨es, clock, hb, hk, hv⟩ := h
  have hz : (zeroValue 4).run Tryd.prog w = .ok (.bool false) w := by go_simp
  rcases find_val v w es.toList S hk hv with ⟨h1, h2⟩ | ⟨h1, j, h2⟩
  · rw [seenB_no h1]
    simp [Instr.lookup, run_underlying ht, MapKept.run_getObj_map hb, check_val, h2, hz, Result.andThen]
  · rw [seenB_iff.2 h1]
    simp [Instr.lookup, run_underlying ht, MapKept.run_getObj_map hb, check_val, h2, Result.andThen]
/-- The world with one block set. -/
theorem SeenAt.put {w : World} {b : Nat} {S : List Val} (h : SeenAt w b S) (v : Val) (hn : v ∉ S) (t : TypeId) (ht : Tryd.prog.underlying t = some (.map 34 4)) :
    ∃ w', (Instr.mapUpdate t (.map (some b)) (valV v) (.bool true)).run Tryd.prog w = .ok () w' ∧ SeenAt w' b (S ++ [v]) ∧ w.grownBy w' (some b) := by
  obtain ⟨es, clock, hb, hk, hv⟩ := h
  rcases find_val v w es.toList S hk hv with ⟨h1, h2⟩ | ⟨h1, -⟩
  · refine ⟨{ w with heap := w.heap.setIfInBounds b (.map (es.push { key := valV v, val := .bool true, born := clock }) (clock + 1)) }, ?_, ?_, ?_⟩
    · simp [Instr.mapUpdate, run_underlying ht, MapKept.run_getObj_map hb, check_val, h2, MapKept.run_setObj_map _ hb, Result.andThen]
    · refine ⟨es.push { key := valV v, val := .bool true, born := clock }, clock + 1, ?_, ?_, ?_⟩
      · have := (Array.getElem?_eq_some_iff.1 hb).1
        simp [this]
      · simp [hk]
      · intro e he
        simp at he
        rcases he with he | rfl
        · exact hv e (by simpa using he)
        · rfl
    · refine ⟨rfl, rfl, rfl, by simp, fun k _ hne => ?_⟩
      have : b ≠ k := fun e => hne (by rw [e])
      simp [this]
  · exact absurd h1 hn
end Go.Proofs.YtgaihglploedaaaDoor
/-
  Tables: Get, Bag, Lookup of the reference.
-/
namespace Go.Proofs.YtgaihglploedaaaDoor
set_option maxRecDepth 100000
open Go.RowKit
variable {ls : List Nat}

def getO (id : Int) (R : List TRow) : List Val × Bool := match getR id R with | some l => (l, true) | none => ([], false)
theorem getO_hit {id : Int} {R : List TRow} {i : Nat} (h : i < R.length) (hp : (tAt R i).1 = id) (hn : ∀ j, j < i → (tAt R j).1 ≠ id) : getO id R = ((tAt R i).2, true) := by unfold getO; rw [getR_hit h hp hn]
theorem getO_none {id : Int} {R : List TRow} (hn : ∀ j, j < R.length → (tAt R j).1 ≠ id) : getO id R = ([], false) := by unfold getO; rw [getR_none hn]
def lookO (k : Int) (key : Val) (R : List TRow) : Int × Bool := match lookR k key R with | some i => (i, true) | none => (0, false)
theorem lookO_hit {k : Int} {key : Val} {R : List TRow} {i : Nat} (h : i < R.length) (hp : keyV k (tAt R i).2 = some key) (hn : ∀ j, j < i → keyV k (tAt R j).2 ≠ some key) : lookO k key R = ((tAt R i).1, true) := by unfold lookO; rw [lookR_hit h hp hn]
theorem lookO_none {k : Int} {key : Val} {R : List TRow} (hn : ∀ j, j < R.length → keyV k (tAt R j).2 ≠ some key) : lookO k key R = (0, false) := by unfold lookO; rw [lookR_none hn]
def GetPost (id : Int) (R : List TRow) (w : World) (e : Ending) (w' : World) : Prop := ∃ (p : Option Addr) (cap : Nat), e = .returned (.tuple #[.slice p (getO id R).1.length cap, .bool (getO id R).2]) ∧ RowAt w' p (getO id R).1 ∧ (getO id R).1.length * 32 ≤ 140737488355328 ∧ Below w.heap.size w w'

set_option maxHeartbeats 1000000 in
theorem rget_any (T : Tab) (id : Int) (w : World) (hT : TabAt w T) :
    Calls Tryd.prog 52 #[T.v, .int .i64 id] w (GetPost id T.R w) := by
  obtain ⟨nm, pc, n, cc, f, nx, pr, cr, R⟩ := T
  obtain ⟨hnm, hn, hC, hR, hl, hz⟩ := hT
  unfold Tab.v GetPost
  dsimp only at *
  have HR := Lib.hid hR
  clear hC hR hz
  go_enter Tryd.func52, Tryd.ntmps52
  go_wp2_with fail
  go_loopw [11] (fun i v => ∃ k : Nat, k ≤ R.length ∧ i = .int .i64 k ∧ (∀ j, j < k → (tAt R j).1 ≠ id) ∧ Below w.heap.size w v) (fun i _ => R.length - (intOf i).toNat)
  case atStart => exact ⟨0, Nat.zero_le _, rfl, fun j hj => by omega, below_new (Below.refl _ _) _⟩
  case round =>
    obtain ⟨k, hk, rfl, ha, hb⟩ := hrel
    have HA := Lib.hid ha
    have HB := Lib.hid hb
    clear ha hb
    by_cases hlt : k < R.length
    · have hlt' : decide ((k : Int) < R.length) = true := decide_eq_true (by omega)
      obtain ⟨c, o, q, cp, rfl, hc, h0, h1, hr, hs, hqn⟩ := HR.out.low HB.out k hlt
      have HQ := Lib.hid hr
      have HN := Lib.hid hqn
      clear hr hqn
      cases he : ((tAt R k).1 == id)
      · have HE := Lib.hid (beq_eq_false_iff_ne.1 he)
        go_wp2
        go_roundw
        case rel => exact ⟨k + 1, by omega, by go_num, all_succ HA.out HE.out, below_new HB.out _⟩
        case measure => simp [intOf]; omega
      · have HE := Lib.hid (beq_iff_eq.1 he)
        go_wp2_with fail
        refine (rcopy_any (tAt R k).2 q cp _ (HQ.out.low (below_alloc _ _)) hs HN.out).mono ?_
        rintro e w2 ⟨v2, rfl, hin, hb2⟩
        obtain ⟨hv2, hr2, -⟩ := owned_shape hin.1
        have HR2 := Lib.hid hr2
        have HB2 := Lib.hid (below_next (below_new HB.out _) hb2)
        have HG := Lib.hid (getO_hit hlt HE.out HA.out)
        have HV := Lib.hid hv2
        clear hin hb2 hr2 h0 h1 hc hv2
        go_wp2
        go_ret2
        rw [HG.out]
        exact ⟨_, _, by rw [HV.out]; rfl, HR2.out, hs, HB2.out⟩
    · have hlt' : decide ((k : Int) < R.length) = false := decide_eq_false (by omega)
      obtain rfl : k = R.length := by omega
      have HG := Lib.hid (getO_none HA.out)
      go_wp2
      go_ret2
      rw [HG.out]
      exact ⟨none, 0, rfl, fun i hi => by simp at hi, by simp, HB.out⟩
theorem heads_add {u : World} {xs : List Value} {L : List (List Val)} {l : List Val} {q : Option Addr} {cp : Nat} (h : HeadsAt u xs L) (hr : RowAt u q l) (hs : l.length * 32 ≤ 140737488355328) (hn : q = none → l = [] ∧ cp = 0) : HeadsAt u (xs ++ [.slice q l.length cp]) (L ++ [l]) := by
  refine h.append ⟨rfl, fun i hi => ?_⟩
  have h0 : i = 0 := by simpa using hi
  subst h0
  exact ⟨q, cp, rfl, hr, hs, hn⟩
theorem bag_take {R : List TRow} {k : Nat} (h : k < R.length) : (R.take (k + 1)).map (·.2) = (R.take k).map (·.2) ++ [(tAt R k).2] := by rw [take_trow h, List.map_append]; rfl
theorem head_news (u : World) (o : Obj) (x : Value) : ∀ j y, ([x] : List Value)[j]? = some y → ((u.alloc o).alloc (.cells #[x] 25)).cell? ((⟨u.heap.size + 1, 0, none⟩ : Addr).add j) = some y := by
  have := one_news (u.alloc o) x
  rw [size_alloc] at this
  exact this
set_option maxHeartbeats 1000000 in
theorem rbag_any (T : Tab) (w : World) (hT : TabAt w T) :
    Calls Tryd.prog 73 #[T.v] w (SortedPost (T.R.map (·.2)) w) := by
  obtain ⟨nm, pc, n, cc, f, nx, pr, cr, R⟩ := T
  obtain ⟨hnm, hn, hC, hR, hl, hz⟩ := hT
  obtain ⟨i25, hi25, hz25, hs25, hb25⟩ := info_parts info_row
  unfold Tab.v
  dsimp only at *
  have HR := Lib.hid hR
  clear hC hR hz
  go_enter Tryd.func73, Tryd.ntmps73
  go_wp2_with fail
  go_loopw [3, 9] (fun vo i v => ∃ (k : Nat) (po : Option Addr) (co : Nat) (xs : List Value), k ≤ R.length ∧ i = .int .i64 k ∧ vo = .slice po k co ∧ v.ownsRow w.heap.size 25 1 (.slice po k co) k xs ∧ HeadsAt w xs ((R.take k).map (·.2)) ∧ Below w.heap.size w v) (fun _ i _ => R.length - (intOf i).toNat)
  case atStart => exact ⟨0, none, 0, [], Nat.zero_le _, rfl, rfl, ⟨rfl, Or.inl ⟨rfl, rfl⟩⟩, HeadsAt.nil _, below_new (Below.refl _ _) _⟩
  case round =>
    obtain ⟨k, po, co, xs, hk, rfl, rfl, ho, hg, hb⟩ := hrel
    have HO := Lib.hid ho
    have HG := Lib.hid hg
    have HB := Lib.hid hb
    clear hg hb ho
    by_cases hlt : k < R.length
    · have hlt' : decide ((k : Int) < R.length) = true := decide_eq_true (by omega)
      obtain ⟨c, o, q, cp, rfl, hc', h0', h1', hr, hs, hqn⟩ := HR.out k hlt
      have HG2 := Lib.hid (heads_add HG.out hr hs hqn)
      have hc := Nat.lt_of_lt_of_le hc' HB.out.size
      have h0 : wr.cell? ⟨c, o + k * 2, none⟩ = some (.int .i64 (tAt R k).1) := by rw [HB.out.cell (by exact hc')]; exact h0'
      have h1 : wr.cell? ⟨c, o + k * 2 + 1, none⟩ = some (.slice q (tAt R k).2.length cp) := by rw [HB.out.cell (by exact hc')]; exact h1'
      have HO7 := Lib.hid ((HO.out.alloc (.cells #[.int .i64 (tAt R k).1, .slice q (tAt R k).2.length cp] 68)).alloc (.cells #[.slice q (tAt R k).2.length cp] 25))
      have HNEW := Lib.hid (head_news wr (.cells #[.int .i64 (tAt R k).1, .slice q (tAt R k).2.length cp] 68) (.slice q (tAt R k).2.length cp))
      have HB7 := Lib.hid (below_new (below_new HB.out (.cells #[.int .i64 (tAt R k).1, .slice q (tAt R k).2.length cp] 68)) (.cells #[.slice q (tAt R k).2.length cp] 25))
      clear hr hqn h0' h1' hc' HG
      go_wp2_with (at_builtin; refine wpList_append_lies _ rfl (.tmp 13) (.tmp 16) 39 rfl w.heap.size 25 i25 _ 1 24 Tryd.underlying39 hi25 hz25 hs25 hb25 rfl (by decide) (.slice po k co) k xs (by rfl) HO7.out ⟨wr.heap.size + 1, 0, none⟩ 1 1 [.slice q (tAt R k).2.length cp] (by rfl) rfl HNEW.out (by intro u hu; obtain rfl := List.mem_singleton.1 hu; rfl) (by decide) (by unfold maxLen; omega) (by omega) HB7.out.size _ rfl ?_; intro g8 c8 w8 hown8 hgr8 hat8 hlt8; (have HO8 := Lib.hid hown8); (have HB8 := Lib.hid (HB7.out.grown hgr8 HB7.out.size (owns_block HO.out))); clear hown8 hgr8 hat8)
      go_roundw
      case rel => exact ⟨k + 1, some ⟨g8, 0, none⟩, c8, xs ++ [.slice q (tAt R k).2.length cp], by omega, by go_num, rfl, HO8.out, by rw [bag_take hlt]; exact HG2.out, HB8.out⟩
      case measure => simp [intOf]; omega
    · have hlt' : decide ((k : Int) < R.length) = false := decide_eq_false (by omega)
      obtain rfl : k = R.length := by omega
      have hrows : RowsAt wr po (R.map (·.2)) := by
        have := rows_of_heads HO.out (HG.out.low HB.out)
        rw [List.take_length] at this
        exact this
      have HRW := Lib.hid hrows
      have hsort := rsorted_any (R.map (·.2)) po co wr (by rw [List.length_map]; exact hl) hrows
      rw [List.length_map] at hsort
      clear HG hrows
      go_wp2_with fail
      refine hsort.mono ?_
      rintro e w3 ⟨p3, c3, rfl, hr3, hl3, hb3⟩
      have HR3 := Lib.hid hr3
      have HL3 := Lib.hid hl3
      have HB3 := Lib.hid (below_next HB.out hb3)
      clear hr3 hl3 hb3 hsort
      go_wp2
      go_ret
      exact ⟨p3, c3, rfl, HR3.out, HL3.out, HB3.out⟩
end Go.Proofs.YtgaihglploedaaaDoor
/-
  Tables: Lookup of the reference.
-/
namespace Go.Proofs.YtgaihglploedaaaDoor
set_option maxRecDepth 100000
open Go.RowKit
variable {ls : List Nat}

theorem row2_new (w : World) (x y : Value) (t : TypeId) : (w.alloc (.cells #[x, y] t)).cell? ⟨w.heap.size, 0, none⟩ = some x ∧ (w.alloc (.cells #[x, y] t)).cell? ⟨w.heap.size, 1, none⟩ = some y := by
  constructor <;> go_simp
theorem keyV_ne {k : Nat} {l : List Val} {key : Val} (h : k < l.length) (hs : sameV (vAt l k).1 (vAt l k).2.1 (vAt l k).2.2 key.1 key.2.1 key.2.2 = false) : keyV k l ≠ some key := by
  rw [keyV_some h]
  intro he
  have e := Option.some.inj he
  rw [← e, same_vals.2 rfl] at hs
  cases hs
theorem keyV_eq {k : Nat} {l : List Val} {key : Val} (h : k < l.length) (hs : sameV (vAt l k).1 (vAt l k).2.1 (vAt l k).2.2 key.1 key.2.1 key.2.2 = true) : keyV k l = some key := by
  rw [keyV_some h, same_vals.1 hs]
theorem drewN_low {B : Nat} {a w : World} (h : Below B a w) (n : Nat) : Below B a (w.drewN n) := ⟨h.os, h.tape, h.output, h.size, h.block⟩
set_option maxHeartbeats 2000000 in
theorem rlook_any (T : Tab) (key : Val) (w : World) (hT : TabAt w T) :
    Calls Tryd.prog 71 #[T.v, .agg #[.int .i64 key.1, .int .i64 key.2.1, .string key.2.2]] w fun e w' => e = .returned (.tuple #[.int .i64 (lookO T.key key T.R).1, .bool (lookO T.key key T.R).2]) ∧ Below w.heap.size w w' := by
  obtain ⟨nm, pc, n, cc, f, nx, pr, cr, R⟩ := T
  obtain ⟨hnm, hn, hC, hR, hl, hz⟩ := hT
  unfold Tab.v Tab.key
  dsimp only at *
  have HR := Lib.hid hR
  have hb0 : Below w.heap.size w ((w.alloc (.cells #[.string nm, .slice pc n cc, .int .i64 nx, .slice pr R.length cr] 51)).alloc (.cells #[.int .i64 key.1, .int .i64 key.2.1, .string key.2.2] 34)) := below_new (below_new (Below.refl _ _) _) _
  have HC := Lib.hid (hC.low hb0)
  have HY := Lib.hid (cell3_new (w.alloc (.cells #[.string nm, .slice pc n cc, .int .i64 nx, .slice pr R.length cr] 51)) (.int .i64 key.1) (.int .i64 key.2.1) (.string key.2.2) 34)
  have HX := Lib.hid ((cell4_new w (.string nm) (.slice pc n cc) (.int .i64 nx) (.slice pr R.length cr) 51).low (below_alloc _ (.cells #[.int .i64 key.1, .int .i64 key.2.1, .string key.2.2] 34)))
  have HB0 := Lib.hid hb0
  clear hC hR hz hb0
  obtain ⟨kk, hkk⟩ : ∃ kk, findKey f n = kk := ⟨_, rfl⟩
  rw [hkk]
  have HKK := Lib.hid hkk
  clear hkk
  go_enter Tryd.func71, Tryd.ntmps71
  go_wp2_with fail
  refine (rkeycol_any nm pc n cc f _ hn HC.out).mono ?_
  rintro e w1 ⟨rfl, hb1⟩
  have hx := HX.out.low hb1
  have hy := (HY.out.low hb1).at (size_alloc _ _)
  have HB1 := Lib.hid (below_next HB0.out hb1)
  have HY1 := Lib.hid hy
  obtain ⟨hxl, x0, x1, x2, x3, -⟩ := hx
  clear HC HX HY HB0 hb1 hy
  rw [HKK.out]
  clear HKK
  go_wp2_with fail
  go_loopw [15] (fun i v => ∃ k : Nat, k ≤ R.length ∧ i = .int .i64 k ∧ (∀ j, j < k → keyV kk (tAt R j).2 ≠ some key) ∧ Below w.heap.size w v ∧ Cell3 v (w.heap.size + 1) (.int .i64 key.1) (.int .i64 key.2.1) (.string key.2.2)) (fun i _ => R.length - (intOf i).toNat)
  case atStart => exact ⟨0, Nat.zero_le _, rfl, fun j hj => by omega, HB1.out, HY1.out⟩
  clear HB1 HY1 x0 x1 x2 x3 hxl
  case round =>
    obtain ⟨k, hk, rfl, ha, hb, hy⟩ := hrel
    have HA := Lib.hid ha
    have HB := Lib.hid hb
    have HY := Lib.hid hy
    clear ha hb hy
    by_cases hlt : k < R.length
    · have hlt' : decide ((k : Int) < R.length) = true := decide_eq_true (by omega)
      obtain ⟨c, o, q, cp, rfl, hc, h0, h1, hr, hs, hqn⟩ := HR.out.low HB.out k hlt
      have HQ := Lib.hid hr
      clear hr hqn
      go_wp2_with fail
      have hbn := below_alloc wr (.cells #[.int .i64 (tAt R k).1, .slice q (tAt R k).2.length cp] 68)
      have HB1 := Lib.hid (below_next HB.out hbn)
      have HY1 := Lib.hid (HY.out.low hbn)
      have HQ1 := Lib.hid (HQ.out.low hbn)
      obtain ⟨r0, r1⟩ := row2_new wr (.int .i64 (tAt R k).1) (.slice q (tAt R k).2.length cp) 68
      obtain ⟨hyl, y0, y1, y2, -⟩ := HY1.out
      clear HB HY HQ hbn h0 h1 hc
      generalize wr.alloc _ = W1 at HB1 HY1 HQ1 r0 r1 hyl y0 y1 y2 ⊢
      generalize wr.heap.size = X at r0 r1 ⊢
      by_cases hneg : kk < 0
      · have g1 : decide ((0 : Int) ≤ kk) = false := decide_eq_false (by omega)
        have HE := Lib.hid (keyV_neg (l := (tAt R k).2) hneg)
        go_quiet (fail)
        go_wp2
        go_roundw
        case rel => exact ⟨k + 1, by omega, by go_num, all_succ HA.out (by rw [HE.out]; exact fun h => by cases h), drewN_low HB1.out _, HY1.out.low (drewN_low (Below.refl _ _) _)⟩
        case measure => simp [intOf]; omega
      · obtain ⟨K, rfl⟩ : ∃ K : Nat, kk = K := ⟨kk.toNat, by omega⟩
        have g1 : decide ((0 : Int) ≤ (K : Int)) = true := decide_eq_true (by omega)
        by_cases hlen : K < (tAt R k).2.length
        · have g2 : decide ((K : Int) < ((tAt R k).2.length : Int)) = true := decide_eq_true (by omega)
          have hkI : (K : Int) < ((tAt R k).2.length : Int) := by omega
          obtain ⟨c2, o2, rfl, hc2, v0, v1, v2⟩ := HQ1.out K hlen
          have hq := eql_val (vAt (tAt R k).2 K).1 (vAt (tAt R k).2 K).2.1 (vAt (tAt R k).2 K).2.2 key.1 key.2.1 key.2.2
          cases hsame : sameV (vAt (tAt R k).2 K).1 (vAt (tAt R k).2 K).2.1 (vAt (tAt R k).2 K).2.2 key.1 key.2.1 key.2.2
          · have HE := Lib.hid (keyV_ne hlen hsame)
            rw [hsame] at hq
            go_quiet (fail)
            go_wp2
            go_roundw
            case rel => exact ⟨k + 1, by omega, by go_num, all_succ HA.out HE.out, drewN_low HB1.out _, HY1.out.low (drewN_low (Below.refl _ _) _)⟩
            case measure => simp [intOf]; omega
          · have HE := Lib.hid (keyV_eq hlen hsame)
            have HG := Lib.hid (lookO_hit hlt HE.out HA.out)
            rw [hsame] at hq
            go_quiet (fail)
            go_wp2
            go_ret2
            rw [HG.out]
            exact ⟨rfl, drewN_low HB1.out _⟩
        · have g2 : decide ((K : Int) < ((tAt R k).2.length : Int)) = false := decide_eq_false (by omega)
          have HE := Lib.hid (keyV_long (k := K) (l := (tAt R k).2) (by omega))
          go_quiet (fail)
          go_wp2
          go_roundw
          case rel => exact ⟨k + 1, by omega, by go_num, all_succ HA.out (by rw [HE.out]; exact fun h => by cases h), drewN_low HB1.out _, HY1.out.low (drewN_low (Below.refl _ _) _)⟩
          case measure => simp [intOf]; omega
    · have hlt' : decide ((k : Int) < R.length) = false := decide_eq_false (by omega)
      obtain rfl : k = R.length := by omega
      have HG := Lib.hid (lookO_none HA.out)
      go_wp2
      go_ret2
      rw [HG.out]
      exact ⟨rfl, HB.out⟩
end Go.Proofs.YtgaihglploedaaaDoor
