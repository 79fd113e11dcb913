/-
  Several texts in one.
-/
import Derived.Test.YtlpaphgmdcpmaaaGreatDoorPk07
import Derived.Test.YtlpaphgmdcpmaaaGreatDoorPk09
import Derived.Deep.RegionHeld3
import Derived.Test.YtlpaphgmdcpmaaaGreatDoorPk06
import Derived.OwnWalk
import Derived.Laws.AppendOwn
/-
  Fits of rows: what it answers; the reference's.
-/
namespace Go.Proofs.YtlpaphgmdcpmaaaGreatDoor
set_option maxRecDepth 100000
open Go.RowKit
variable {ls : List Nat}

def fitE (f : Nat → Col) (l : List Val) (i : Nat) : Int := fitsE (f i).ty (f i).nn (vAt l i).1 (vAt l i).2.1 (vAt l i).2.2
/-- What Fits answers for a row. -/
def fitsRow (f : Nat → Col) (n : Nat) (l : List Val) : Int := if l.length = n then (match (List.range n).find? (fun i => decide (fitE f l i ≠ 0)) with | some i => fitE f l i | none => 0) else 17
theorem fitsRow_len {f : Nat → Col} {n : Nat} {l : List Val} (h : ¬ l.length = n) : fitsRow f n l = 17 := by unfold fitsRow; rw [if_neg h]
theorem fitsRow_hit {f : Nat → Col} {n i : Nat} {l : List Val} (h : l.length = n) (hi : i < n) (he : ¬ fitE f l i = 0) (hj : ∀ j, j < i → fitE f l j = 0) : fitsRow f n l = fitE f l i := by
  unfold fitsRow
  rw [if_pos h]
  have : (List.range n).find? (fun i => decide (fitE f l i ≠ 0)) = some i := List.find?_range_eq_some.2 ⟨decide_eq_true he, List.mem_range.2 hi, fun j hji => by rw [hj j hji]; rfl⟩
  rw [this]
theorem fitsRow_ok {f : Nat → Col} {n : Nat} {l : List Val} (h : l.length = n) (hj : ∀ j, j < n → fitE f l j = 0) : fitsRow f n l = 0 := by
  unfold fitsRow
  rw [if_pos h]
  have : (List.range n).find? (fun i => decide (fitE f l i ≠ 0)) = none := List.find?_range_eq_none.2 fun j hji => by rw [hj j hji]; rfl
  rw [this]
/-- Texts of a row that Go could hold. -/
def ValsSized (l : List Val) : Prop := ∀ i, i < l.length → (vAt l i).2.2.size ≤ 9223372036854775807

theorem keepRF {W u v : World} {X c o : Nat} {a : Col} {b : Val} {k : Nat} {p q : Option Addr} {n : Nat} {f : Nat → Col} {l : List Val} {nm : ByteArray} {R : Nat} {sv : Value} (hb : Below u.heap.size u v)
    (h : u.cell? ⟨X, 0, none⟩ = some (.string a.nm) ∧ u.cell? ⟨X, 1, none⟩ = some (.int .i64 a.ty) ∧ u.cell? ⟨X, 2, none⟩ = some (.bool a.nn) ∧ u.cell? ⟨X, 3, none⟩ = some (.bool a.key) ∧ u.cell? ⟨c, o + k * 3, none⟩ = some (.int .i64 b.1) ∧ u.cell? ⟨c, o + k * 3 + 1, none⟩ = some (.int .i64 b.2.1) ∧ u.cell? ⟨c, o + k * 3 + 2, none⟩ = some (.string b.2.2) ∧ X < u.heap.size ∧ c < u.heap.size ∧ ColsAt u p n f ∧ RowAt u q l ∧ Cell2 u R (.string nm) sv ∧ Below W.heap.size W u) :
    v.cell? ⟨X, 0, none⟩ = some (.string a.nm) ∧ v.cell? ⟨X, 1, none⟩ = some (.int .i64 a.ty) ∧ v.cell? ⟨X, 2, none⟩ = some (.bool a.nn) ∧ v.cell? ⟨X, 3, none⟩ = some (.bool a.key) ∧ v.cell? ⟨c, o + k * 3, none⟩ = some (.int .i64 b.1) ∧ v.cell? ⟨c, o + k * 3 + 1, none⟩ = some (.int .i64 b.2.1) ∧ v.cell? ⟨c, o + k * 3 + 2, none⟩ = some (.string b.2.2) ∧ X < v.heap.size ∧ c < v.heap.size ∧ ColsAt v p n f ∧ RowAt v q l ∧ Cell2 v R (.string nm) sv ∧ Below W.heap.size W v := by
  obtain ⟨h0, h1, h2, h3, h4, h5, h6, hx, hc, hco, hr, h7, hB⟩ := h
  exact ⟨by rw [hb.cell (by exact hx)]; exact h0, by rw [hb.cell (by exact hx)]; exact h1, by rw [hb.cell (by exact hx)]; exact h2, by rw [hb.cell (by exact hx)]; exact h3, by rw [hb.cell (by exact hc)]; exact h4, by rw [hb.cell (by exact hc)]; exact h5, by rw [hb.cell (by exact hc)]; exact h6, Nat.lt_of_lt_of_le hx hb.size, Nat.lt_of_lt_of_le hc hb.size, hco.low hb, hr.low hb, h7.low hb, below_next hB hb⟩

end Go.Proofs.YtlpaphgmdcpmaaaGreatDoor
/-
  Tables, as plain lists; what Valid, Get, Lookup, Duplicate compute. Tables in memory.
-/
namespace Go.Proofs.YtlpaphgmdcpmaaaGreatDoor
set_option maxRecDepth 100000
open Go.RowKit
variable {ls : List Nat}

/-- A row with its number. -/
abbrev TRow := Int × List Val
def tAt (R : List TRow) (i : Nat) : TRow := R.getD i (0, [])
theorem tAt_get {R : List TRow} {i : Nat} (h : i < R.length) : tAt R i = R[i] := by unfold tAt; rw [List.getD, List.getElem?_eq_getElem h]; rfl
theorem tAt_mem {R : List TRow} {i : Nat} (h : i < R.length) : tAt R i ∈ R := by rw [tAt_get h]; exact List.getElem_mem h
theorem take_trow {R : List TRow} {i : Nat} (h : i < R.length) : R.take (i + 1) = R.take i ++ [tAt R i] := by rw [tAt_get h]; exact (List.take_append_getElem h).symm
theorem drop_trow {R : List TRow} {i : Nat} (h : i < R.length) : R.drop i = tAt R i :: R.drop (i + 1) := by rw [tAt_get h]; exact List.drop_eq_getElem_cons h
theorem tAt_left {A B : List TRow} {i : Nat} (h : i < A.length) : tAt (A ++ B) i = tAt A i := by unfold tAt; rw [List.getD, List.getElem?_append_left h]; rfl
theorem tAt_last (A : List TRow) (x : TRow) : tAt (A ++ [x]) A.length = x := by unfold tAt; simp

/-- The value in the key column. -/
def keyV (k : Int) (l : List Val) : Option Val := if 0 ≤ k ∧ k < l.length then some (vAt l k.toNat) else none
theorem keyV_some {k : Nat} {l : List Val} (h : k < l.length) : keyV k l = some (vAt l k) := by unfold keyV; rw [if_pos ⟨by omega, by omega⟩]; rfl
theorem keyV_long {k : Nat} {l : List Val} (h : l.length ≤ k) : keyV k l = none := by unfold keyV; rw [if_neg (by omega)]
theorem keyV_neg {k : Int} {l : List Val} (h : k < 0) : keyV k l = none := by unfold keyV; rw [if_neg (by omega)]
def keysR (k : Int) (R : List TRow) : List Val := R.filterMap fun r => keyV k r.2
/-- Do two rows have the same key? -/
def dupR (k : Int) (R : List TRow) : Bool := !decide (keysR k R).Nodup
def lookR (k : Int) (key : Val) (R : List TRow) : Option Int := (R.find? fun r => decide (keyV k r.2 = some key)).map (·.1)
def getR (id : Int) (R : List TRow) : Option (List Val) := (R.find? fun r => decide (r.1 = id)).map (·.2)

theorem keysR_take {k : Int} {R : List TRow} {i : Nat} (h : i < R.length) : keysR k (R.take (i + 1)) = keysR k (R.take i) ++ (keyV k (tAt R i).2).toList := by
  unfold keysR
  rw [take_trow h, List.filterMap_append]
  cases hk : keyV k (tAt R i).2 with
  | none => rw [List.filterMap_cons_none (by exact hk)]; rfl
  | some v => rw [List.filterMap_cons_some (by exact hk)]; rfl
theorem keysR_sub {k : Int} {R : List TRow} {i : Nat} : (keysR k (R.take i)).Sublist (keysR k R) := (List.take_sublist i R).filterMap _
theorem dupR_no {k : Int} {R : List TRow} (h : (keysR k R).Nodup) : dupR k R = false := by unfold dupR; rw [decide_eq_true h]; rfl
theorem dupR_yes {k : Int} {R : List TRow} {i : Nat} {v : Val} (h : i < R.length) (hv : keyV k (tAt R i).2 = some v) (hm : v ∈ keysR k (R.take i)) : dupR k R = true := by
  unfold dupR
  rw [decide_eq_false]
  · rfl
  · intro hn
    have h1 := hn.sublist (keysR_sub (i := i + 1))
    rw [keysR_take h, hv, List.nodup_append] at h1
    exact h1.2.2 v hm v (by simp) rfl
theorem dupR_neg {k : Int} {R : List TRow} (h : k < 0) : dupR k R = false := by
  apply dupR_no
  unfold keysR
  rw [List.filterMap_eq_nil_iff.2 fun r _ => keyV_neg h]
  exact List.nodup_nil
theorem nodup_step {k : Int} {R : List TRow} {i : Nat} {v : Val} (h : i < R.length) (hv : keyV k (tAt R i).2 = some v) (hn : (keysR k (R.take i)).Nodup) (hm : v ∉ keysR k (R.take i)) : (keysR k (R.take (i + 1))).Nodup := by
  rw [keysR_take h, hv]
  simp only [Option.toList_some]
  rw [List.nodup_append]
  refine ⟨hn, by simp, fun a ha b hb => ?_⟩
  obtain rfl := List.mem_singleton.1 hb
  exact fun e => hm (e ▸ ha)
theorem keysR_none {k : Int} {R : List TRow} {i : Nat} (h : i < R.length) (hv : keyV k (tAt R i).2 = none) : keysR k (R.take (i + 1)) = keysR k (R.take i) := by
  rw [keysR_take h, hv]; simp

theorem find_hit {α : Type} {P : α → Bool} {R : List α} {i : Nat} (h : i < R.length) (hp : P R[i] = true) (hn : ∀ j (hj : j < i), P (R[j]'(by omega)) = false) : R.find? P = some R[i] := by
  rw [List.find?_eq_some_iff_getElem]
  exact ⟨hp, i, h, rfl, fun j hj => by rw [hn j hj]; rfl⟩
theorem find_none {α : Type} {P : α → Bool} {R : List α} (hn : ∀ j (hj : j < R.length), P R[j] = false) : R.find? P = none := by
  rw [List.find?_eq_none]
  intro x hx
  obtain ⟨j, hj, rfl⟩ := List.getElem_of_mem hx
  rw [hn j hj]
  decide
theorem getR_hit {id : Int} {R : List TRow} {i : Nat} (h : i < R.length) (hp : (tAt R i).1 = id) (hn : ∀ j, j < i → (tAt R j).1 ≠ id) : getR id R = some (tAt R i).2 := by
  unfold getR
  rw [find_hit (P := fun r : TRow => decide (r.1 = id)) h (by rw [← tAt_get h]; exact decide_eq_true hp) (fun j hj => by rw [← tAt_get (by omega)]; exact decide_eq_false (hn j hj)), tAt_get h]
  rfl
theorem getR_none {id : Int} {R : List TRow} (hn : ∀ j, j < R.length → (tAt R j).1 ≠ id) : getR id R = none := by
  unfold getR
  rw [find_none (P := fun r : TRow => decide (r.1 = id)) (fun j hj => by rw [← tAt_get hj]; exact decide_eq_false (hn j hj))]
  rfl
theorem lookR_hit {k : Int} {key : Val} {R : List TRow} {i : Nat} (h : i < R.length) (hp : keyV k (tAt R i).2 = some key) (hn : ∀ j, j < i → keyV k (tAt R j).2 ≠ some key) : lookR k key R = some (tAt R i).1 := by
  unfold lookR
  rw [find_hit (P := fun r : TRow => decide (keyV k r.2 = some key)) h (by rw [← tAt_get h]; exact decide_eq_true hp) (fun j hj => by rw [← tAt_get (by omega)]; exact decide_eq_false (hn j hj)), tAt_get h]
  rfl
theorem lookR_none {k : Int} {key : Val} {R : List TRow} (hn : ∀ j, j < R.length → keyV k (tAt R j).2 ≠ some key) : lookR k key R = none := by
  unfold lookR
  rw [find_none (P := fun r : TRow => decide (keyV k r.2 = some key)) (fun j hj => by rw [← tAt_get hj]; exact decide_eq_false (hn j hj))]
  rfl

/-- Row i of a table is right. -/
def RowOK (f : Nat → Col) (n : Nat) (nx : Int) (R : List TRow) (i : Nat) : Prop :=
  1 ≤ (tAt R i).1 ∧ (tAt R i).1 < nx ∧ (0 < i → (tAt R (i - 1)).1 < (tAt R i).1) ∧ fitsRow f n (tAt R i).2 = 0
instance (f : Nat → Col) (n : Nat) (nx : Int) (R : List TRow) (i : Nat) : Decidable (RowOK f n nx R i) := by unfold RowOK; infer_instance
/-- Is a table valid? -/
def validT (nm : ByteArray) (n : Nat) (f : Nat → Col) (nx : Int) (R : List TRow) : Bool :=
  schemaOK nm n f && decide (R.length ≤ 100 ∧ 1 ≤ nx ∧ nx ≤ 2147483648) && decide (∀ i, i < R.length → RowOK f n nx R i) && !dupR (findKey f n) R
theorem validT_schema {nm : ByteArray} {n : Nat} {f : Nat → Col} {nx : Int} {R : List TRow} (h : schemaOK nm n f = false) : validT nm n f nx R = false := by unfold validT; rw [h]; rfl
theorem validT_head {nm : ByteArray} {n : Nat} {f : Nat → Col} {nx : Int} {R : List TRow} (h : ¬ (R.length ≤ 100 ∧ 1 ≤ nx ∧ nx ≤ 2147483648)) : validT nm n f nx R = false := by unfold validT; rw [decide_eq_false h, Bool.and_false]; rfl
theorem validT_row {nm : ByteArray} {n : Nat} {f : Nat → Col} {nx : Int} {R : List TRow} {i : Nat} (hi : i < R.length) (h : ¬ RowOK f n nx R i) : validT nm n f nx R = false := by
  unfold validT; rw [decide_eq_false (p := ∀ i, i < R.length → RowOK f n nx R i) (fun hc => h (hc i hi)), Bool.and_false]; rfl
theorem validT_dup {nm : ByteArray} {n : Nat} {f : Nat → Col} {nx : Int} {R : List TRow} (h : schemaOK nm n f = true) (h2 : R.length ≤ 100 ∧ 1 ≤ nx ∧ nx ≤ 2147483648) (h3 : ∀ i, i < R.length → RowOK f n nx R i) : validT nm n f nx R = !dupR (findKey f n) R := by
  unfold validT; rw [h, decide_eq_true h2, decide_eq_true h3]; rfl

/-- A slice of rows with numbers. -/
def TRowsAt (w : World) (p : Option Addr) (R : List TRow) : Prop :=
  ∀ i, i < R.length → ∃ (c o : Nat) (q : Option Addr) (cp : Nat), p = some ⟨c, o, none⟩ ∧ c < w.heap.size ∧ w.cell? ⟨c, o + i * 2, none⟩ = some (.int .i64 (tAt R i).1) ∧ w.cell? ⟨c, o + i * 2 + 1, none⟩ = some (.slice q (tAt R i).2.length cp) ∧ RowAt w q (tAt R i).2 ∧ (tAt R i).2.length * 32 ≤ 140737488355328 ∧ (q = none → (tAt R i).2 = [] ∧ cp = 0)
theorem TRowsAt.low {u v : World} {p : Option Addr} {R : List TRow} (h : TRowsAt u p R) (hb : Below u.heap.size u v) : TRowsAt v p R := by
  intro i hi
  obtain ⟨c, o, q, cp, hp, hc, h0, h1, hr, hs, hn⟩ := h i hi
  exact ⟨c, o, q, cp, hp, Nat.lt_of_lt_of_le hc hb.size, by rw [hb.cell (by exact hc)]; exact h0, by rw [hb.cell (by exact hc)]; exact h1, hr.low hb, hs, hn⟩
theorem TRowsAt.nil (w : World) (p : Option Addr) : TRowsAt w p [] := fun i hi => by simp at hi

/-- A table, as it lies in memory. -/
structure Tab where
  nm : ByteArray
  pc : Option Addr
  n : Nat
  cc : Nat
  f : Nat → Col
  nx : Int
  pr : Option Addr
  cr : Nat
  R : List TRow
def Tab.v (T : Tab) : Value := .agg #[.string T.nm, .slice T.pc T.n T.cc, .int .i64 T.nx, .slice T.pr T.R.length T.cr]
structure TabAt (w : World) (T : Tab) : Prop where
  name : T.nm.size ≤ 9223372036854775807
  n : T.n ≤ 9223372036854775807
  cols : ColsAt w T.pc T.n T.f
  rows : TRowsAt w T.pr T.R
  len : T.R.length ≤ 1000
  sized : ∀ r ∈ T.R, ValsSized r.2
  nxr : T.nx ≤ 9223372036854775807
theorem TabAt.low {u v : World} {T : Tab} (h : TabAt u T) (hb : Below u.heap.size u v) : TabAt v T := ⟨h.name, h.n, h.cols.low hb, h.rows.low hb, h.len, h.sized, h.nxr⟩
theorem TabAt.new {u : World} {T : Tab} (h : TabAt u T) (o : Obj) : TabAt (u.alloc o) T := h.low (below_alloc _ _)
def Tab.valid (T : Tab) : Bool := validT T.nm T.n T.f T.nx T.R
def Tab.key (T : Tab) : Int := findKey T.f T.n
end Go.Proofs.YtlpaphgmdcpmaaaGreatDoor
/-
  Rows of columns that the call owns: append; stores into them.
-/
namespace Go.Proofs.YtlpaphgmdcpmaaaGreatDoor
set_option maxRecDepth 100000
open Go.RowKit
variable {ls : List Nat}

def cAt (l : List Col) (i : Nat) : Col := l.getD i default
/-- The cells of a list of columns. -/
def ccells : List Col → List Value
  | [] => []
  | x :: l => .string x.nm :: .int .i64 x.ty :: .bool x.nn :: .bool x.key :: ccells l
theorem ccells_length (l : List Col) : (ccells l).length = l.length * 4 := by
  induction l with
  | nil => rfl
  | cons x l ih => simp only [ccells, List.length_cons, ih]; omega
theorem ccells_append (a b : List Col) : ccells (a ++ b) = ccells a ++ ccells b := by
  induction a with
  | nil => rfl
  | cons x a ih => simp only [List.cons_append, ccells, ih]
theorem ccells_at (l : List Col) : ∀ i, i < l.length → (ccells l)[i * 4]? = some (.string (cAt l i).nm) ∧ (ccells l)[i * 4 + 1]? = some (.int .i64 (cAt l i).ty) ∧ (ccells l)[i * 4 + 2]? = some (.bool (cAt l i).nn) ∧ (ccells l)[i * 4 + 3]? = some (.bool (cAt l i).key) := by
  induction l with
  | nil => intro i hi; simp at hi
  | cons x l ih =>
    intro i hi
    cases i with
    | zero => exact ⟨rfl, rfl, rfl, rfl⟩
    | succ i =>
      have h := ih i (by simpa using hi)
      have e : cAt (x :: l) (i + 1) = cAt l i := by simp [cAt]
      rw [e, Nat.succ_mul]
      exact h
theorem ccells_one (l : List Col) : ∀ u ∈ ccells l, u.oneCell' = true := by
  induction l with
  | nil => intro u hu; simp [ccells] at hu
  | cons x l ih =>
    intro u hu
    simp only [ccells, List.mem_cons] at hu
    rcases hu with rfl | rfl | rfl | rfl | hu
    · rfl
    · rfl
    · rfl
    · rfl
    · exact ih u hu
/-- Texts of columns that Go could hold. -/
def Sized (l : List Col) : Prop := ∀ i, i < l.length → (cAt l i).nm.size ≤ 9223372036854775807
theorem cAt_left {a b : List Col} {i : Nat} (h : i < a.length) : cAt (a ++ b) i = cAt a i := by unfold cAt; rw [List.getD, List.getElem?_append_left h]; rfl
theorem cAt_new {a : List Col} {c : Col} : cAt (a ++ [c]) a.length = c := by unfold cAt; rw [List.getD, List.getElem?_append_right (Nat.le_refl _)]; simp
theorem all_add {P : Nat → Col → Prop} {a : List Col} {c : Col} (h : ∀ i, i < a.length → P i (cAt a i)) (hc : P a.length c) : ∀ i, i < (a ++ [c]).length → P i (cAt (a ++ [c]) i) := by
  intro i hi
  rw [List.length_append, List.length_singleton] at hi
  by_cases hin : i < a.length
  · rw [cAt_left hin]; exact h i hin
  · obtain rfl : i = a.length := by omega
    rw [cAt_new]; exact hc
theorem Sized.add {a : List Col} {c : Col} (h : Sized a) (hc : c.nm.size ≤ 9223372036854775807) : Sized (a ++ [c]) := all_add (P := fun _ c => c.nm.size ≤ 9223372036854775807) h hc
/-- Any columns in memory, as a list. -/
theorem cols_list (n : Nat) (f : Nat → Col) : ∃ l : List Col, l.length = n ∧ ∀ i, i < n → cAt l i = f i := by
  refine ⟨(List.range n).map f, by simp, fun i hi => ?_⟩
  unfold cAt
  rw [List.getD, List.getElem?_map, List.getElem?_range hi]
  rfl
theorem ColsAt.congr {w : World} {p : Option Addr} {n : Nat} {f g : Nat → Col} (h : ColsAt w p n f) (he : ∀ i, i < n → g i = f i) : ColsAt w p n g := fun i hi => by rw [he i hi]; exact h i hi

theorem cols_of_owns {w : World} {base n : Nat} {e : TypeId} {v : Value} {l : List Col} (h : w.ownsRow base e 4 v n (ccells l)) (hs : Sized l) :
    ∃ p cap, v = .slice p n cap ∧ n = l.length ∧ ColsAt w p n (cAt l) ∧ ∀ q, p = some q → base ≤ q.block ∧ q.off = 0 ∧ ∀ o, w.frozen? ⟨q.block, o, none⟩ = false := by
  obtain ⟨hl, h⟩ := h
  rw [ccells_length] at hl
  have hn : n = l.length := by omega
  rcases h with ⟨rfl, h0⟩ | ⟨g, cap, cur, rfl, hg, hh, hcap, hm, hcur, htake⟩
  · exact ⟨none, 0, by rw [h0], hn, fun i hi => by omega, fun q hq => by cases hq⟩
  · refine ⟨_, cap, rfl, hn, fun i hi => ⟨g, 0, rfl, (Array.getElem?_eq_some_iff.1 hh).1, hs i (by omega), ?_⟩, fun q hq => ?_⟩
    · have key : ∀ j v, (ccells l)[j]? = some v → w.cell? ⟨g, 0 + j, none⟩ = some v := by
        intro j v hj
        rw [← htake] at hj
        have hj' : cur.toList[j]? = some v := by
          rw [List.getElem?_take] at hj
          split at hj
          · exact hj
          · cases hj
        simp [World.cell?, hh]
        simpa using hj'
      obtain ⟨h0, h1, h2, h3⟩ := ccells_at l i (by omega)
      exact ⟨key _ _ h0, key _ _ h1, key _ _ h2, key _ _ h3⟩
    · cases hq
      exact ⟨hg, rfl, fun o => by simp [World.frozen?, hh]⟩

theorem info_col : (Tryz.prog.info? 74).map (fun i => (i.zero, i.size, i.bytes)) = some (some (.agg #[.string ⟨#[]⟩, .int .i64 0, .bool false, .bool false]), 4, 32) := by kernel_rfl

/-- What an append asks of a source. -/
theorem news_of_cols {w : World} {a : Addr} {l : List Col} (h : ColsAt w (some a) l.length (cAt l)) : ∀ j u, (ccells l)[j]? = some u → w.cell? (a.add j) = some u := by
  intro j u hj
  have hjl : j < l.length * 4 := by
    have := (List.getElem?_eq_some_iff.1 hj).1
    rw [ccells_length] at this; exact this
  have hi : j / 4 < l.length := by omega
  obtain ⟨c, o, hc, -, -, h0, h1, h2, h3⟩ := h (j / 4) hi
  obtain rfl := Option.some.inj hc
  obtain ⟨v0, v1, v2, v3⟩ := ccells_at l (j / 4) hi
  have ha : (⟨c, o, none⟩ : Addr).add j = ⟨c, o + j, none⟩ := by unfold Addr.add; split <;> simp_all
  rw [ha]
  have hr : j % 4 = 0 ∨ j % 4 = 1 ∨ j % 4 = 2 ∨ j % 4 = 3 := by omega
  rcases hr with hr | hr | hr | hr
  · have e : j = j / 4 * 4 := by omega
    rw [e] at hj ⊢
    have e2 : j / 4 * 4 / 4 = j / 4 := by omega
    rw [v0] at hj; obtain rfl := Option.some.inj hj; exact h0
  · have e : j = j / 4 * 4 + 1 := by omega
    rw [e] at hj ⊢
    rw [v1] at hj; obtain rfl := Option.some.inj hj; exact h1
  · have e : j = j / 4 * 4 + 2 := by omega
    rw [e] at hj ⊢
    rw [v2] at hj; obtain rfl := Option.some.inj hj; exact h2
  · have e : j = j / 4 * 4 + 3 := by omega
    rw [e] at hj ⊢
    rw [v3] at hj; obtain rfl := Option.some.inj hj; exact h3

/-- append(v, xs...) of columns, v the call's own, xs not nil. -/
theorem wpList_append_cols {w : World} {ops : Array Oper} {rest : List Oper} {o : Oper} {a : Act} {Q : Exit → Act → World → Prop} (hgd : o.guard = none) (s x : Operand)
    (ho : o.op = .call { callee := .builtin .append, args := #[s, x], argTypes := #[69, 69] })
    (base : Nat) (v : Value) (n : Nat) (l : List Col) (hs : a.eval s = v) (hown : w.ownsRow base 74 4 v n (ccells l))
    (ad : Addr) (lx : List Col) (cx m : Nat) (hx : a.eval x = .slice (some ad) m cx) (hm : lx.length = m) (hrow : ColsAt w (some ad) lx.length (cAt lx)) (hsum : (n + lx.length) * 32 ≤ 140737488355328) (hbase : base ≤ w.heap.size)
    (h : ∀ v' w', w'.ownsRow base 74 4 v' (n + lx.length) (ccells (l ++ lx)) → w.grownBy w' v.ownBlock → wpList Tryz.prog ops Q rest (a.put o.dst v') w') : wpList Tryz.prog ops Q (o :: rest) a w := by
  obtain ⟨i0, hi, hz0, hz1, hz2⟩ := info_parts info_col
  subst hm
  refine wpList_append_own w hgd s x 69 ho base 74 i0 _ 4 32 Tryz.underlying69 hi hz0 hz1 hz2 rfl (by decide) v n (ccells l) hs hown ad lx.length cx (ccells lx) hx (ccells_length lx) (news_of_cols hrow) (ccells_one lx) (by unfold maxLen; omega) hsum hbase ?_
  intro v' w' h1 h2 _
  exact h v' w' (by rw [ccells_append]; exact h1) h2

theorem cowns_empty (w : World) : (w.alloc (.cells #[] 74)).ownsRow w.heap.size 74 4 (.slice (some ⟨w.heap.size, 0, none⟩) 0 0) 0 (ccells []) := by
  refine ⟨rfl, Or.inr ⟨w.heap.size, 0, #[], rfl, Nat.le_refl _, ?_, Nat.le_refl _, by decide, rfl, rfl⟩⟩
  show (w.heap.push _)[w.heap.size]? = _
  simp
theorem Cell2.grown {u v : World} {X : Nat} {x y : Value} {row : Option Nat} (h : Cell2 u X x y) (hg : u.grownBy v row) (hr : ∀ k, row = some k → X < k) : Cell2 v X x y := by
  have hb : v.heap[X]? = u.heap[X]? := hg.block X h.lt (fun e => by have := hr X e.symm; omega)
  exact ⟨Nat.lt_of_lt_of_le h.lt hg.size, by rw [World.cell?_of_block (w := u) hb]; exact h.c0, by rw [World.cell?_of_block (w := u) hb]; exact h.c1, fun o => by rw [World.frozen?_of_block (w := u) hb]; exact h.fz o⟩
theorem Cell2.step {u v : World} {X b : Nat} {x y : Value} (h : Cell2 u X x y) (hs : StepT b u v) (hn : X ≠ b) : Cell2 v X x y :=
  ⟨Nat.lt_of_lt_of_le h.lt hs.size, by rw [hs.cell (by exact h.lt) (by exact hn)]; exact h.c0, by rw [hs.cell (by exact h.lt) (by exact hn)]; exact h.c1, fun o => by rw [hs.frozen (by exact h.lt) (by exact hn)]; exact h.fz o⟩
theorem Cell4.step {u v : World} {X b : Nat} {x y z q : Value} (h : Cell4 u X x y z q) (hs : StepT b u v) (hn : X ≠ b) : Cell4 v X x y z q :=
  ⟨Nat.lt_of_lt_of_le h.lt hs.size, by rw [hs.cell (by exact h.lt) (by exact hn)]; exact h.c0, by rw [hs.cell (by exact h.lt) (by exact hn)]; exact h.c1, by rw [hs.cell (by exact h.lt) (by exact hn)]; exact h.c2, by rw [hs.cell (by exact h.lt) (by exact hn)]; exact h.c3, fun o => by rw [hs.frozen (by exact h.lt) (by exact hn)]; exact h.fz o⟩
theorem set_size (u : World) (a : Addr) (y : Value) : (u.setCell a y).heap.size = u.heap.size := by simp [World.setCell]
theorem Cell2.far {u : World} {X Z o : Nat} {a b : Value} (h : Cell2 u X a b) (hn : X ≠ Z) (y : Value) : Cell2 (u.setCell ⟨Z, o, none⟩ y) X a b := by
  have hk : (u.setCell ⟨Z, o, none⟩ y).heap[X]? = u.heap[X]? := Below.heap_setCell _ _ _ _ hn
  exact ⟨by simpa [World.setCell] using h.lt, by rw [World.cell?_of_block (w := u) hk]; exact h.c0, by rw [World.cell?_of_block (w := u) hk]; exact h.c1, fun i => by rw [World.frozen?_of_block (w := u) hk]; exact h.fz i⟩
end Go.Proofs.YtlpaphgmdcpmaaaGreatDoor
/-
  Row of the tape: a row that fits a schema.
-/
namespace Go.Proofs.YtlpaphgmdcpmaaaGreatDoor
set_option maxRecDepth 100000
open Go.RowKit
variable {ls : List Nat}

end Go.Proofs.YtlpaphgmdcpmaaaGreatDoor
