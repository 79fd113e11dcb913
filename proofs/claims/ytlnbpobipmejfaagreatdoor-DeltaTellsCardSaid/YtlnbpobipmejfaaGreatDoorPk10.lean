/-
  Several texts in one.
-/
import Derived.Test.YtlnbpobipmejfaaGreatDoorPk09
import Derived.Test.YtlnbpobipmejfaaGreatDoorPk04
import Derived.OwnWalk
import Derived.Laws.AppendOwn
import Derived.Test.YtlnbpobipmejfaaGreatDoorPk03
import Derived.Test.YtlnbpobipmejfaaGreatDoorPk08
import Derived.MapKept
import Derived.ChangeKeysEq
import Derived.Carry
/-
  Rows of columns that the call owns: append; stores into them.
-/
namespace Go.Proofs.YtlnbpobipmejfaaGreatDoor
set_option maxRecDepth 100000
open Go.RowKit
variable {ls : List Nat}

def cAt (l : List Col) (i : Nat) : Col := l.getD i default
/-- The cells of a list of columns. -/
def ccells : List Col → List Value
  | [] => []
  | x :: l => .string x.nm :: .int .i64 x.ty :: .bool x.nn :: .bool x.key :: ccells l
theorem ccells_length (l : List Col) : (ccells l).length = l.length * 4 := by
  induction l with
  | nil => rfl
  | cons x l ih => simp only [ccells, List.length_cons, ih]; omega
theorem ccells_append (a b : List Col) : ccells (a ++ b) = ccells a ++ ccells b := by
  induction a with
  | nil => rfl
  | cons x a ih => simp only [List.cons_append, ccells, ih]
theorem ccells_at (l : List Col) : ∀ i, i < l.length → (ccells l)[i * 4]? = some (.string (cAt l i).nm) ∧ (ccells l)[i * 4 + 1]? = some (.int .i64 (cAt l i).ty) ∧ (ccells l)[i * 4 + 2]? = some (.bool (cAt l i).nn) ∧ (ccells l)[i * 4 + 3]? = some (.bool (cAt l i).key) := by
  induction l with
  | nil => intro i hi; simp at hi
  | cons x l ih =>
    intro i hi
    cases i with
    | zero => exact ⟨rfl, rfl, rfl, rfl⟩
    | succ i =>
      have h := ih i (by simpa using hi)
      have e : cAt (x :: l) (i + 1) = cAt l i := by simp [cAt]
      rw [e, Nat.succ_mul]
      exact h
theorem ccells_one (l : List Col) : ∀ u ∈ ccells l, u.oneCell' = true := by
  induction l with
  | nil => intro u hu; simp [ccells] at hu
  | cons x l ih =>
    intro u hu
    simp only [ccells, List.mem_cons] at hu
    rcases hu with rfl | rfl | rfl | rfl | hu
    · rfl
    · rfl
    · rfl
    · rfl
    · exact ih u hu
/-- Texts of columns that Go could hold. -/
def Sized (l : List Col) : Prop := ∀ i, i < l.length → (cAt l i).nm.size ≤ 9223372036854775807
theorem cAt_left {a b : List Col} {i : Nat} (h : i < a.length) : cAt (a ++ b) i = cAt a i := by unfold cAt; rw [List.getD, List.getElem?_append_left h]; rfl
theorem cAt_new {a : List Col} {c : Col} : cAt (a ++ [c]) a.length = c := by unfold cAt; rw [List.getD, List.getElem?_append_right (Nat.le_refl _)]; simp
theorem all_add {P : Nat → Col → Prop} {a : List Col} {c : Col} (h : ∀ i, i < a.length → P i (cAt a i)) (hc : P a.length c) : ∀ i, i < (a ++ [c]).length → P i (cAt (a ++ [c]) i) := by
  intro i hi
  rw [List.length_append, List.length_singleton] at hi
  by_cases hin : i < a.length
  · rw [cAt_left hin]; exact h i hin
  · obtain rfl : i = a.length := by omega
    rw [cAt_new]; exact hc
theorem Sized.add {a : List Col} {c : Col} (h : Sized a) (hc : c.nm.size ≤ 9223372036854775807) : Sized (a ++ [c]) := all_add (P := fun _ c => c.nm.size ≤ 9223372036854775807) h hc
/-- Any columns in memory, as a list. -/
theorem cols_list (n : Nat) (f : Nat → Col) : ∃ l : List Col, l.length = n ∧ ∀ i, i < n → cAt l i = f i := by
  refine ⟨(List.range n).map f, by simp, fun i hi => ?_⟩
  unfold cAt
  rw [List.getD, List.getElem?_map, List.getElem?_range hi]
  rfl
theorem ColsAt.congr {w : World} {p : Option Addr} {n : Nat} {f g : Nat → Col} (h : ColsAt w p n f) (he : ∀ i, i < n → g i = f i) : ColsAt w p n g := fun i hi => by rw [he i hi]; exact h i hi

theorem cols_of_owns {w : World} {base n : Nat} {e : TypeId} {v : Value} {l : List Col} (h : w.ownsRow base e 4 v n (ccells l)) (hs : Sized l) :
    ∃ p cap, v = .slice p n cap ∧ n = l.length ∧ ColsAt w p n (cAt l) ∧ ∀ q, p = some q → base ≤ q.block ∧ q.off = 0 ∧ ∀ o, w.frozen? ⟨q.block, o, none⟩ = false := by
  obtain ⟨hl, h⟩ := h
  rw [ccells_length] at hl
  have hn : n = l.length := by omega
  rcases h with ⟨rfl, h0⟩ | ⟨g, cap, cur, rfl, hg, hh, hcap, hm, hcur, htake⟩
  · exact ⟨none, 0, by rw [h0], hn, fun i hi => by omega, fun q hq => by cases hq⟩
  · refine ⟨_, cap, rfl, hn, fun i hi => ⟨g, 0, rfl, (Array.getElem?_eq_some_iff.1 hh).1, hs i (by omega), ?_⟩, fun q hq => ?_⟩
    · have key : ∀ j v, (ccells l)[j]? = some v → w.cell? ⟨g, 0 + j, none⟩ = some v := by
        intro j v hj
        rw [← htake] at hj
        have hj' : cur.toList[j]? = some v := by
          rw [List.getElem?_take] at hj
          split at hj
          · exact hj
          · cases hj
        simp [World.cell?, hh]
        simpa using hj'
      obtain ⟨h0, h1, h2, h3⟩ := ccells_at l i (by omega)
      exact ⟨key _ _ h0, key _ _ h1, key _ _ h2, key _ _ h3⟩
    · cases hq
      exact ⟨hg, rfl, fun o => by simp [World.frozen?, hh]⟩

theorem info_col : (Tryz.prog.info? 63).map (fun i => (i.zero, i.size, i.bytes)) = some (some (.agg #[.string ⟨#[]⟩, .int .i64 0, .bool false, .bool false]), 4, 32) := by kernel_rfl

/-- What an append asks of a source. -/
theorem news_of_cols {w : World} {a : Addr} {l : List Col} (h : ColsAt w (some a) l.length (cAt l)) : ∀ j u, (ccells l)[j]? = some u → w.cell? (a.add j) = some u := by
  intro j u hj
  have hjl : j < l.length * 4 := by
    have := (List.getElem?_eq_some_iff.1 hj).1
    rw [ccells_length] at this; exact this
  have hi : j / 4 < l.length := by omega
  obtain ⟨c, o, hc, -, -, h0, h1, h2, h3⟩ := h (j / 4) hi
  obtain rfl := Option.some.inj hc
  obtain ⟨v0, v1, v2, v3⟩ := ccells_at l (j / 4) hi
  have ha : (⟨c, o, none⟩ : Addr).add j = ⟨c, o + j, none⟩ := by unfold Addr.add; split <;> simp_all
  rw [ha]
  have hr : j % 4 = 0 ∨ j % 4 = 1 ∨ j % 4 = 2 ∨ j % 4 = 3 := by omega
  rcases hr with hr | hr | hr | hr
  · have e : j = j / 4 * 4 := by omega
    rw [e] at hj ⊢
    have e2 : j / 4 * 4 / 4 = j / 4 := by omega
    rw [v0] at hj; obtain rfl := Option.some.inj hj; exact h0
  · have e : j = j / 4 * 4 + 1 := by omega
    rw [e] at hj ⊢
    rw [v1] at hj; obtain rfl := Option.some.inj hj; exact h1
  · have e : j = j / 4 * 4 + 2 := by omega
    rw [e] at hj ⊢
    rw [v2] at hj; obtain rfl := Option.some.inj hj; exact h2
  · have e : j = j / 4 * 4 + 3 := by omega
    rw [e] at hj ⊢
    rw [v3] at hj; obtain rfl := Option.some.inj hj; exact h3

/-- append(v, xs...) of columns, v the call's own, xs not nil. -/
theorem wpList_append_cols {w : World} {ops : Array Oper} {rest : List Oper} {o : Oper} {a : Act} {Q : Exit → Act → World → Prop} (hgd : o.guard = none) (s x : Operand)
    (ho : o.op = .call { callee := .builtin .append, args := #[s, x], argTypes := #[26, 26] })
    (base : Nat) (v : Value) (n : Nat) (l : List Col) (hs : a.eval s = v) (hown : w.ownsRow base 63 4 v n (ccells l))
    (ad : Addr) (lx : List Col) (cx m : Nat) (hx : a.eval x = .slice (some ad) m cx) (hm : lx.length = m) (hrow : ColsAt w (some ad) lx.length (cAt lx)) (hsum : (n + lx.length) * 32 ≤ 140737488355328) (hbase : base ≤ w.heap.size)
    (h : ∀ v' w', w'.ownsRow base 63 4 v' (n + lx.length) (ccells (l ++ lx)) → w.grownBy w' v.ownBlock → wpList Tryz.prog ops Q rest (a.put o.dst v') w') : wpList Tryz.prog ops Q (o :: rest) a w := by
  obtain ⟨i0, hi, hz0, hz1, hz2⟩ := info_parts info_col
  subst hm
  refine wpList_append_own w hgd s x 26 ho base 63 i0 _ 4 32 Tryz.underlying26 hi hz0 hz1 hz2 rfl (by decide) v n (ccells l) hs hown ad lx.length cx (ccells lx) hx (ccells_length lx) (news_of_cols hrow) (ccells_one lx) (by unfold maxLen; omega) hsum hbase ?_
  intro v' w' h1 h2 _
  exact h v' w' (by rw [ccells_append]; exact h1) h2

theorem cowns_empty (w : World) : (w.alloc (.cells #[] 63)).ownsRow w.heap.size 63 4 (.slice (some ⟨w.heap.size, 0, none⟩) 0 0) 0 (ccells []) := by
  refine ⟨rfl, Or.inr ⟨w.heap.size, 0, #[], rfl, Nat.le_refl _, ?_, Nat.le_refl _, by decide, rfl, rfl⟩⟩
  show (w.heap.push _)[w.heap.size]? = _
  simp
theorem Cell2.grown {u v : World} {X : Nat} {x y : Value} {row : Option Nat} (h : Cell2 u X x y) (hg : u.grownBy v row) (hr : ∀ k, row = some k → X < k) : Cell2 v X x y := by
  have hb : v.heap[X]? = u.heap[X]? := hg.block X h.lt (fun e => by have := hr X e.symm; omega)
  exact ⟨Nat.lt_of_lt_of_le h.lt hg.size, by rw [World.cell?_of_block (w := u) hb]; exact h.c0, by rw [World.cell?_of_block (w := u) hb]; exact h.c1, fun o => by rw [World.frozen?_of_block (w := u) hb]; exact h.fz o⟩
theorem Cell2.step {u v : World} {X b : Nat} {x y : Value} (h : Cell2 u X x y) (hs : StepT b u v) (hn : X ≠ b) : Cell2 v X x y :=
  ⟨Nat.lt_of_lt_of_le h.lt hs.size, by rw [hs.cell (by exact h.lt) (by exact hn)]; exact h.c0, by rw [hs.cell (by exact h.lt) (by exact hn)]; exact h.c1, fun o => by rw [hs.frozen (by exact h.lt) (by exact hn)]; exact h.fz o⟩
theorem Cell4.step {u v : World} {X b : Nat} {x y z q : Value} (h : Cell4 u X x y z q) (hs : StepT b u v) (hn : X ≠ b) : Cell4 v X x y z q :=
  ⟨Nat.lt_of_lt_of_le h.lt hs.size, by rw [hs.cell (by exact h.lt) (by exact hn)]; exact h.c0, by rw [hs.cell (by exact h.lt) (by exact hn)]; exact h.c1, by rw [hs.cell (by exact h.lt) (by exact hn)]; exact h.c2, by rw [hs.cell (by exact h.lt) (by exact hn)]; exact h.c3, fun o => by rw [hs.frozen (by exact h.lt) (by exact hn)]; exact h.fz o⟩
theorem set_size (u : World) (a : Addr) (y : Value) : (u.setCell a y).heap.size = u.heap.size := by simp [World.setCell]
theorem Cell2.far {u : World} {X Z o : Nat} {a b : Value} (h : Cell2 u X a b) (hn : X ≠ Z) (y : Value) : Cell2 (u.setCell ⟨Z, o, none⟩ y) X a b := by
  have hk : (u.setCell ⟨Z, o, none⟩ y).heap[X]? = u.heap[X]? := Below.heap_setCell _ _ _ _ hn
  exact ⟨by simpa [World.setCell] using h.lt, by rw [World.cell?_of_block (w := u) hk]; exact h.c0, by rw [World.cell?_of_block (w := u) hk]; exact h.c1, fun i => by rw [World.frozen?_of_block (w := u) hk]; exact h.fz i⟩
end Go.Proofs.YtlnbpobipmejfaaGreatDoor
/-
  Row of the tape: a row that fits a schema.
-/
namespace Go.Proofs.YtlnbpobipmejfaaGreatDoor
set_option maxRecDepth 100000
open Go.RowKit
variable {ls : List Nat}

set_option maxHeartbeats 400000 in
theorem small_any (b : Nat) (w : World) (ht : TapeAt w b) :
    Calls Tryz.prog 48 #[.pointer (some ⟨b, 0, none⟩)] w fun e w' => ∃ z : Int, e = .returned (.int .i64 z) ∧ -9223372036854775808 ≤ z ∧ z ≤ 9223372036854775807 ∧ TapeAt w' b ∧ StepT b w w' := by
  go_enter Tryz.func48, Tryz.ntmps48
  go_wp2_with fail
  refine (next_any b _ _ (by omega) (by omega) ht).mono ?_
  rintro e w' ⟨r, rfl, hr0, hr1, ht1, hs1⟩
  have HT := Lib.hid ht1
  have HS := Lib.hid hs1
  clear ht1 hs1
  go_wp2
  go_ret
  exact ⟨r - 3, rfl, by omega, by omega, HT.out, HS.out⟩

/-- What Row keeps in its loop. -/
structure RowW (ls : List Nat) (b : Nat) (w : World) (nm : ByteArray) (p : Option Addr) (n cap : Nat) (f : Nat → Col) (vo : Value) (l : List Val) (u : World) : Prop where
  box : Cell2 u w.heap.size (.string nm) (.slice p n cap)
  cols : ColsAt u p n f
  own : u.ownsRow (w.heap.size + 1) 55 3 vo l.length (vcells l)
  tape : TapeAt u b
  env : Env ls u
  step : StepT b w u
section
variable {b n cap V : Nat} {w u v : World} {nm : ByteArray} {p : Option Addr} {f : Nat → Col} {vo : Value} {l : List Val}
theorem RowW.next (h : RowW ls b w nm p n cap f vo l u) (hs : StepT b u v) (ht : TapeAt v b) (hlt : b < w.heap.size) (h8 : 2 ≤ b) (hp : ∀ q, p = some q → q.block ≠ b) : RowW ls b w nm p n cap f vo l v :=
  ⟨h.box.step hs (by omega), h.cols.step hs hp, owns_step h.own (by omega) hs, ht, h.env.step hs h8, h.step.trans hs⟩
theorem RowW.alloc (h : RowW ls b w nm p n cap f vo l u) (o : Obj) : RowW ls b w nm p n cap f vo l (u.alloc o) :=
  ⟨h.box.low (below_alloc _ _), h.cols.low (below_alloc _ _), h.own.alloc o, h.tape.alloc o, h.env.alloc o, h.step.alloc o⟩
/-- A store into a box that lies behind all of it. -/
theorem RowW.set (h : RowW ls b w nm p n cap f vo l u) (hlt : b < w.heap.size) (h8 : 2 ≤ b) (hV : w.heap.size < V) (hp : ∀ q, p = some q → q.block < V) (ho : ∀ k, vo.ownBlock = some k → k < V) (o : Nat) (y : Value) : RowW ls b w nm p n cap f vo l (u.setCell ⟨V, o, none⟩ y) :=
  ⟨h.box.far (by omega) _, h.cols.set (fun q hq => by have := hp q hq; show q.block ≠ V; omega) _, owns_keep h.own fun k hk => Below.heap_setCell _ _ _ _ (by have := ho k hk; show k ≠ V; omega), h.tape.setCell (show b < V by omega) _, h.env.keep (by rw [set_size]; exact Nat.le_refl _) (fun k hk => Below.heap_setCell _ _ _ _ (by show k ≠ V; omega)), h.step.set2 (by omega) _ _ _⟩
theorem RowW.add {w8 : World} {v8 : Value} {o : Obj} {x : Val} (h : RowW ls b w nm p n cap f vo l u) (hlt : b < w.heap.size) (h8 : 2 ≤ b) (hp : ∀ q, p = some q → q.block < w.heap.size) (ho : w8.ownsRow (w.heap.size + 1) 55 3 v8 (l.length + [x].length) (vcells (l ++ [x]))) (hg : (u.alloc o).grownBy w8 vo.ownBlock) : RowW ls b w nm p n cap f v8 (l ++ [x]) w8 := by
  have h7 := h.alloc o
  have hk : ∀ k, vo.ownBlock = some k → w.heap.size + 1 ≤ k := fun k hk => (h.own.lt k hk).1
  have hb : ∀ k, k < (u.alloc o).heap.size → k ≤ w.heap.size → w8.heap[k]? = (u.alloc o).heap[k]? := fun k h1 h2 => hg.block k h1 (fun e => by have := hk k e.symm; omega)
  have hws : w.heap.size < (u.alloc o).heap.size := h7.box.lt
  refine ⟨h7.box.grown hg (fun k hk' => by have := hk k hk'; omega), h7.cols.keep hg.size (fun a ha => hb _ (by have := hp a ha; omega) (by have := hp a ha; omega)), by rw [List.length_append]; exact ho, h7.tape.grown hg (fun k hk' => by have := hk k hk'; omega), h7.env.keep hg.size (fun k hk' => hb k (by omega) (by omega)), step_grown_from h7.step hg (fun k hk' => by have := hk k hk'; omega)⟩
end
theorem Cell3.step {u v : World} {X b : Nat} {x y z : Value} (h : Cell3 u X x y z) (hs : StepT b u v) (hn : X ≠ b) : Cell3 v X x y z :=
  ⟨Nat.lt_of_lt_of_le h.lt hs.size, by rw [hs.cell (by exact h.lt) (by exact hn)]; exact h.c0, by rw [hs.cell (by exact h.lt) (by exact hn)]; exact h.c1, by rw [hs.cell (by exact h.lt) (by exact hn)]; exact h.c2, fun o => by rw [hs.frozen (by exact h.lt) (by exact hn)]; exact h.fz o⟩
theorem cell3_set1 {u : World} {X : Nat} {a b c : Value} (h : Cell3 u X a b c) (y : Value) : Cell3 (u.setCell ⟨X, 1, none⟩ y) X a y c := by
  obtain ⟨hl, c0, c1, c2, fz⟩ := h
  refine ⟨by simpa [World.setCell] using hl, ?_, ?_, ?_, fun o => ?_⟩
  · go_simp
  · go_simp
  · go_simp
  · rw [World.frozen?_setCell]; exact fz o
theorem ColBox.far {u : World} {X V o : Nat} {c : Col} (h : ColBox u X c) (hn : X ≠ V) (y : Value) : ColBox (u.setCell ⟨V, o, none⟩ y) X c := by
  have hk : (u.setCell ⟨V, o, none⟩ y).heap[X]? = u.heap[X]? := Below.heap_setCell _ _ _ _ hn
  exact ⟨by rw [set_size]; exact h.1, by rw [World.cell?_of_block (w := u) hk]; exact h.2.1, by rw [World.cell?_of_block (w := u) hk]; exact h.2.2.1, by rw [World.cell?_of_block (w := u) hk]; exact h.2.2.2.1, by rw [World.cell?_of_block (w := u) hk]; exact h.2.2.2.2⟩
theorem row_one (u : World) (x : Val) (N : Nat) (hN : u.heap.size = N) : RowAt (u.alloc (.cells #[.int .i64 x.1, .int .i64 x.2.1, .string x.2.2] 55)) (some ⟨N, 0, none⟩) [x] := by
  subst hN
  intro i hi
  obtain rfl : i = 0 := by simpa using hi
  have hb := BoxAt.new u x 55
  exact ⟨u.heap.size, 0, rfl, hb.1, hb.2.1, hb.2.2.1, hb.2.2.2⟩
theorem vAt_left {a c : List Val} {i : Nat} (h : i < a.length) : vAt (a ++ c) i = vAt a i := by unfold vAt; rw [List.getD, List.getElem?_append_left h]; rfl
theorem vAt_new {a : List Val} {x : Val} : vAt (a ++ [x]) a.length = x := by unfold vAt; rw [List.getD, List.getElem?_append_right (Nat.le_refl _)]; simp
/-- The values fit, and are short. -/
def FitsAll (f : Nat → Col) (l : List Val) : Prop := ∀ i, i < l.length → fitE f l i = 0 ∧ (vAt l i).2.2.size ≤ 64
theorem FitsAll.add {f : Nat → Col} {l : List Val} {x : Val} (h : FitsAll f l) (h0 : fitsE (f l.length).ty (f l.length).nn x.1 x.2.1 x.2.2 = 0) (hs : x.2.2.size ≤ 64) : FitsAll f (l ++ [x]) := by
  intro i hi
  rw [List.length_append, List.length_singleton] at hi
  by_cases hin : i < l.length
  · unfold fitE; rw [vAt_left hin]; exact h i hin
  · obtain rfl : i = l.length := by omega
    unfold fitE; rw [vAt_new]; exact ⟨h0, hs⟩
def RowPost (b : Nat) (n : Nat) (f : Nat → Col) (w : World) (e : Ending) (w' : World) : Prop := ∃ (v : Value) (l : List Val), e = .returned v ∧ w'.ownsRow (w.heap.size + 1) 55 3 v l.length (vcells l) ∧ l.length = n ∧ FitsAll f l ∧ TapeAt w' b ∧ StepT b w w'
theorem validB_num (n : Int) : validB 1 n ⟨#[]⟩ = true := by simp [validB]
theorem validB_nil : validB 0 0 ⟨#[]⟩ = true := by simp [validB]
set_option maxRecDepth 100000 in
set_option maxHeartbeats 4000000 in
theorem row_any (b : Nat) (w : World) (h8b : 2 ≤ b) (ht : TapeAt w b) (hE : Env ls w) (hlw : 0 ∈ ls) (nm : ByteArray) (a : Addr) (n cap : Nat) (f : Nat → Col) (hn : n ≤ 100) (hC : ColsAt w (some a) n f) (hab : a.block ≠ b) (haw : a.block < w.heap.size) (hty : ∀ i, i < n → 1 ≤ (f i).ty ∧ (f i).ty ≤ 3) :
    Calls Tryz.prog 25 #[.pointer (some ⟨b, 0, none⟩), schV nm (some a) n cap] w (RowPost b n f w) := by
  unfold schV
  have hlt := ht.lt
  have hbw : b ≠ 0 := by omega
  have hp : ∀ q, some a = some q → q.block ≠ b := fun q hq => by cases hq; exact hab
  have hpw : ∀ q, some a = some q → q.block < w.heap.size := fun q hq => by cases hq; exact haw
  have HW := Lib.hid (RowW.mk (ls := ls) (b := b) (w := w) (cell2_new w (.string nm) (.slice (some a) n cap) 28) (hC.low (below_alloc _ _)) (World.ownsRow_nil _ (w.heap.size + 1) 55 3) (ht.alloc _) (hE.alloc _) ((StepT.refl b w).alloc _) : RowW ls b w nm (some a) n cap f (.slice none 0 0) [] (w.alloc (.cells #[.string nm, .slice (some a) n cap] 28)))
  clear hC ht hE
  go_enter Tryz.func25, Tryz.ntmps25
  go_wp2_with fail
  go_loopw [5, 12] (fun vo i v => ∃ (k : Nat) (l : List Val), k ≤ n ∧ l.length = k ∧ i = .int .i64 k ∧ FitsAll f l ∧ RowW ls b w nm (some a) n cap f vo l v) (fun _ i _ => n - (intOf i).toNat)
  case atStart => exact ⟨0, [], Nat.zero_le _, rfl, rfl, fun i hi => by simp at hi, HW.out⟩
  clear HW
  case round =>
    obtain ⟨k, l, hk, hlk, rfl, hfa, hw⟩ := hrel
    have HFA := Lib.hid hfa
    have HLK := Lib.hid hlk
    have HW := Lib.hid hw
    have hl100 : l.length ≤ 100 := by omega
    clear hfa hlk
    by_cases hkn : k < n
    · have hkn' : decide ((k : Int) < n) = true := decide_eq_true (by omega)
      obtain ⟨c, o, hca, hc, hsz, c0, c1, c2, c3⟩ := hw.cols k hkn
      obtain rfl := Option.some.inj hca
      obtain ⟨ht1, ht3⟩ := hty k hkn
      clear hw hca
      go_wp2_with fail
      have HX1 := Lib.hid (ColBox.new wr (f k) 63)
      have HW1 := Lib.hid (HW.out.alloc (.cells #[.string (f k).nm, .int .i64 (f k).ty, .bool (f k).nn, .bool (f k).key] 63))
      have hXb : wr.heap.size ≠ b := by have := HW.out.tape.lt; omega
      clear HW c0 c1 c2 c3 hc
      refine (typed_any b _ _ hbw HW1.out.tape (HW1.out.env.words hlw)).mono ?_
      rintro e w2 ⟨kk, nv, sv, rfl, hv, hkk, ht2, hs2⟩
      obtain rfl : kk = (f k).ty := hkk ht1 ht3
      have HX2 := Lib.hid (HX1.out.step hs2 hXb)
      have HW2 := Lib.hid (HW1.out.next hs2 ht2 hlt h8b hp)
      have hvb := hv.valid
      have hsv := hv.size
      have HVB := Lib.hid hvb
      have hcol1 : wr.heap.size < w2.heap.size := HX2.out.1
      generalize hX : wr.heap.size = X at *
      obtain ⟨-, -, x1, x2, -⟩ := HX2.out
      have HV3 := Lib.hid (cell3_new w2 (.int .i64 (f k).ty) (.int .i64 nv) (.string sv) 55)
      have HX3 := Lib.hid (HX2.out.low (below_alloc w2 (.cells #[.int .i64 (f k).ty, .int .i64 nv, .string sv] 55)))
      have HW3 := Lib.hid (HW2.out.alloc (.cells #[.int .i64 (f k).ty, .int .i64 nv, .string sv] 55))
      have hVb : w2.heap.size ≠ b := by have := HW2.out.tape.lt; omega
      have hVw : w.heap.size < w2.heap.size := HW2.out.box.lt
      have hVp : ∀ q, some (⟨c, o, none⟩ : Addr) = some q → q.block < w2.heap.size := fun q hq => by cases hq; show c < _; omega
      have hVo := fun k' hk' => (HW2.out.own.lt k' hk').2
      have hXV : X ≠ w2.heap.size := by omega
      clear x1 x2 hs2 ht2
      by_cases hty1 : (f k).ty = 1
      · have hte : ((f k).ty == 1) = true := by simp [hty1]
        have HT1 := Lib.hid hty1
        have HSV : Hid (sv = ⟨#[]⟩) := Lib.hid (by rcases hv with ⟨h1, -⟩ | ⟨-, -, h3⟩ | ⟨-, -, -, h3⟩ | ⟨h1, -⟩ <;> first | exact h3 | omega)
        clear hty1 hv
        obtain ⟨-, x0, x1, x2, x3⟩ := HX2.out
        go_wp2_with fail
        refine (tbool_any b _ _ (by omega) (by omega) HW3.out.tape).mono ?_
        rintro e w4 ⟨r9, rfl, ht4, hs4⟩
        have HW4 := Lib.hid (HW3.out.next hs4 ht4 hlt h8b hp)
        have HX4 := Lib.hid (HX3.out.step hs4 hXb)
        have HV4 := Lib.hid (HV3.out.step hs4 hVb)
        clear hs4 ht4 x0 x1 x2 x3
        cases r9
        · obtain ⟨-, x0, x1, x2, x3⟩ := HX4.out
          obtain ⟨vz, v0, v1, v2, vf⟩ := HV4.out
          go_wp2_with fail
          refine (small_any b _ HW4.out.tape).mono ?_
          rintro e w5 ⟨z, rfl, hz0, hz1, ht5, hs5⟩
          have HW5 := Lib.hid (HW4.out.next hs5 ht5 hlt h8b hp)
          have HX5 := Lib.hid (HX4.out.step hs5 hXb)
          have HV5 := Lib.hid (HV4.out.step hs5 hVb)
          clear x0 x1 x2 x3 vz v0 v1 v2 vf
          clear hs5 ht5
          have HW6 := Lib.hid (HW5.out.set hlt h8b hVw hVp hVo 1 (.int .i64 z))
          have HX6 := Lib.hid (HX5.out.far hXV (o := 1) (.int .i64 z))
          have HV6 := Lib.hid (cell3_set1 HV5.out (.int .i64 z))
          have HVB6 : Hid (validB (f k).ty z sv = true) := Lib.hid (by rw [HT1.out, HSV.out]; exact validB_num z)
          obtain ⟨-, x0, x1, x2, x3⟩ := HX5.out
          obtain ⟨vz, v0, v1, v2, vf⟩ := HV5.out
          cases hnn : (f k).nn
          · have HNN := Lib.hid hnn
            rw [hnn] at x2
            clear hnn
            go_wp2_with fail
            refine (tbool_any b _ _ (by omega) (by omega) HW6.out.tape).mono ?_
            rintro e w7 ⟨r5, rfl, ht7, hs7⟩
            clear x0 x1 x2 x3 vz v0 v1 v2 vf
            have HW7 := Lib.hid (HW6.out.next hs7 ht7 hlt h8b hp)
            have HX7 := Lib.hid (HX6.out.step hs7 hXb)
            have HV7 := Lib.hid (HV6.out.step hs7 hVb)
            clear hs7 ht7
            cases r5
            · obtain ⟨-, x0, x1, x2, x3⟩ := HX7.out
              obtain ⟨vz, v0, v1, v2, vf⟩ := HV7.out
              have HO9 := Lib.hid ((HW7.out.alloc (.cells #[.int .i64 (f k).ty, .int .i64 z, .string sv] 55)).own)
              have HROW9 := Lib.hid (row_one w7 ((f k).ty, z, sv) w7.heap.size (by first | rfl | (simp only [set_size]; done) | go_simp))
              have HZ9 : Hid (w.heap.size + 1 ≤ (w7.alloc (.cells #[.int .i64 (f k).ty, .int .i64 z, .string sv] 55)).heap.size) := Lib.hid (HW7.out.alloc (.cells #[.int .i64 (f k).ty, .int .i64 z, .string sv] 55)).box.lt
              have hone9 : l.length + 1 ≤ 101 := by omega
              go_wp2_with (at_builtin; refine wpList_append_vals rfl (.tmp 39) (.tmp 41) rfl (w.heap.size + 1) _ l.length l rfl HO9.out _ [((f k).ty, z, sv)] 1 rfl HROW9.out (by intro h; cases h) (by simp only [List.length_singleton]; omega) HZ9.out ?_; intro v8 w8 hown8 hgr8; (have HA := Lib.hid (HW7.out.add hlt h8b hpw hown8 hgr8)); clear hown8 hgr8)
              go_roundw
              case rel => exact ⟨k + 1, l ++ [((f k).ty, z, sv)], by omega, by rw [List.length_append, List.length_singleton, HLK.out], by go_num, HFA.out.add (by rw [HLK.out]; exact (by rw [HNN.out]; exact fitsE_ok HVB6.out (by omega))) (by exact hsv), HA.out⟩
              case measure => simp [intOf]; omega
            · obtain ⟨-, x0, x1, x2, x3⟩ := HX7.out
              obtain ⟨vz, v0, v1, v2, vf⟩ := HV7.out
              have HW8 := Lib.hid (((HW7.out.set hlt h8b hVw hVp hVo 0 (.int .i64 0)).set hlt h8b hVw hVp hVo 1 (.int .i64 0)).set hlt h8b hVw hVp hVo 2 (.string ⟨#[]⟩))
              have HO9 := Lib.hid ((HW8.out.alloc (.cells #[.int .i64 0, .int .i64 0, .string ⟨#[]⟩] 55)).own)
              have HROW9 := Lib.hid (row_one (((w7.setCell ⟨w2.heap.size, 0, none⟩ (.int .i64 0)).setCell ⟨w2.heap.size, 1, none⟩ (.int .i64 0)).setCell ⟨w2.heap.size, 2, none⟩ (.string ⟨#[]⟩)) (0, 0, ⟨#[]⟩) w7.heap.size (by first | rfl | (simp only [set_size]; done) | go_simp))
              have HZ9 : Hid (w.heap.size + 1 ≤ ((((w7.setCell ⟨w2.heap.size, 0, none⟩ (.int .i64 0)).setCell ⟨w2.heap.size, 1, none⟩ (.int .i64 0)).setCell ⟨w2.heap.size, 2, none⟩ (.string ⟨#[]⟩)).alloc (.cells #[.int .i64 0, .int .i64 0, .string ⟨#[]⟩] 55)).heap.size) := Lib.hid (HW8.out.alloc (.cells #[.int .i64 0, .int .i64 0, .string ⟨#[]⟩] 55)).box.lt
              have hone9 : l.length + 1 ≤ 101 := by omega
              go_wp2_with (at_builtin; refine wpList_append_vals rfl (.tmp 39) (.tmp 41) rfl (w.heap.size + 1) _ l.length l rfl HO9.out _ [(0, 0, ⟨#[]⟩)] 1 rfl HROW9.out (by intro h; cases h) (by simp only [List.length_singleton]; omega) HZ9.out ?_; intro v8 w8 hown8 hgr8; (have HA := Lib.hid (HW8.out.add hlt h8b hpw hown8 hgr8)); clear hown8 hgr8)
              go_roundw
              case rel => exact ⟨k + 1, l ++ [(0, 0, ⟨#[]⟩)], by omega, by rw [List.length_append, List.length_singleton, HLK.out], by go_num, HFA.out.add (by rw [HLK.out]; exact (by rw [HNN.out]; exact fitsE_free validB_nil)) (by decide), HA.out⟩
              case measure => simp [intOf]; omega
          · have HNN := Lib.hid hnn
            rw [hnn] at x2
            clear hnn
            have HO9 := Lib.hid ((HW6.out.alloc (.cells #[.int .i64 (f k).ty, .int .i64 z, .string sv] 55)).own)
            have HROW9 := Lib.hid (row_one (w5.setCell ⟨w2.heap.size, 1, none⟩ (.int .i64 z)) ((f k).ty, z, sv) w5.heap.size (by first | rfl | (simp only [set_size]; done) | go_simp))
            have HZ9 : Hid (w.heap.size + 1 ≤ ((w5.setCell ⟨w2.heap.size, 1, none⟩ (.int .i64 z)).alloc (.cells #[.int .i64 (f k).ty, .int .i64 z, .string sv] 55)).heap.size) := Lib.hid (HW6.out.alloc (.cells #[.int .i64 (f k).ty, .int .i64 z, .string sv] 55)).box.lt
            have hone9 : l.length + 1 ≤ 101 := by omega
            go_wp2_with (at_builtin; refine wpList_append_vals rfl (.tmp 39) (.tmp 41) rfl (w.heap.size + 1) _ l.length l rfl HO9.out _ [((f k).ty, z, sv)] 1 rfl HROW9.out (by intro h; cases h) (by simp only [List.length_singleton]; omega) HZ9.out ?_; intro v8 w8 hown8 hgr8; (have HA := Lib.hid (HW6.out.add hlt h8b hpw hown8 hgr8)); clear hown8 hgr8)
            go_roundw
            case rel => exact ⟨k + 1, l ++ [((f k).ty, z, sv)], by omega, by rw [List.length_append, List.length_singleton, HLK.out], by go_num, HFA.out.add (by rw [HLK.out]; exact (by rw [HNN.out]; exact fitsE_ok HVB6.out (by omega))) (by exact hsv), HA.out⟩
            case measure => simp [intOf]; omega
        · cases hnn : (f k).nn
          · have HNN := Lib.hid hnn
            obtain ⟨-, x0, x1, x2, x3⟩ := HX4.out
            obtain ⟨vz, v0, v1, v2, vf⟩ := HV4.out
            rw [hnn] at x2
            clear hnn
            go_wp2_with fail
            refine (tbool_any b _ _ (by omega) (by omega) HW4.out.tape).mono ?_
            rintro e w7 ⟨r5, rfl, ht7, hs7⟩
            clear x0 x1 x2 x3 vz v0 v1 v2 vf
            have HW7 := Lib.hid (HW4.out.next hs7 ht7 hlt h8b hp)
            have HX7 := Lib.hid (HX4.out.step hs7 hXb)
            have HV7 := Lib.hid (HV4.out.step hs7 hVb)
            clear hs7 ht7
            cases r5
            · obtain ⟨-, x0, x1, x2, x3⟩ := HX7.out
              obtain ⟨vz, v0, v1, v2, vf⟩ := HV7.out
              have HO9 := Lib.hid ((HW7.out.alloc (.cells #[.int .i64 (f k).ty, .int .i64 nv, .string sv] 55)).own)
              have HROW9 := Lib.hid (row_one w7 ((f k).ty, nv, sv) w7.heap.size (by first | rfl | (simp only [set_size]; done) | go_simp))
              have HZ9 : Hid (w.heap.size + 1 ≤ (w7.alloc (.cells #[.int .i64 (f k).ty, .int .i64 nv, .string sv] 55)).heap.size) := Lib.hid (HW7.out.alloc (.cells #[.int .i64 (f k).ty, .int .i64 nv, .string sv] 55)).box.lt
              have hone9 : l.length + 1 ≤ 101 := by omega
              go_wp2_with (at_builtin; refine wpList_append_vals rfl (.tmp 39) (.tmp 41) rfl (w.heap.size + 1) _ l.length l rfl HO9.out _ [((f k).ty, nv, sv)] 1 rfl HROW9.out (by intro h; cases h) (by simp only [List.length_singleton]; omega) HZ9.out ?_; intro v8 w8 hown8 hgr8; (have HA := Lib.hid (HW7.out.add hlt h8b hpw hown8 hgr8)); clear hown8 hgr8)
              go_roundw
              case rel => exact ⟨k + 1, l ++ [((f k).ty, nv, sv)], by omega, by rw [List.length_append, List.length_singleton, HLK.out], by go_num, HFA.out.add (by rw [HLK.out]; exact (by rw [HNN.out]; exact fitsE_ok (HVB.out) (by omega))) (by exact hsv), HA.out⟩
              case measure => simp [intOf]; omega
            · obtain ⟨-, x0, x1, x2, x3⟩ := HX7.out
              obtain ⟨vz, v0, v1, v2, vf⟩ := HV7.out
              have HW8 := Lib.hid (((HW7.out.set hlt h8b hVw hVp hVo 0 (.int .i64 0)).set hlt h8b hVw hVp hVo 1 (.int .i64 0)).set hlt h8b hVw hVp hVo 2 (.string ⟨#[]⟩))
              have HO9 := Lib.hid ((HW8.out.alloc (.cells #[.int .i64 0, .int .i64 0, .string ⟨#[]⟩] 55)).own)
              have HROW9 := Lib.hid (row_one (((w7.setCell ⟨w2.heap.size, 0, none⟩ (.int .i64 0)).setCell ⟨w2.heap.size, 1, none⟩ (.int .i64 0)).setCell ⟨w2.heap.size, 2, none⟩ (.string ⟨#[]⟩)) (0, 0, ⟨#[]⟩) w7.heap.size (by first | rfl | (simp only [set_size]; done) | go_simp))
              have HZ9 : Hid (w.heap.size + 1 ≤ ((((w7.setCell ⟨w2.heap.size, 0, none⟩ (.int .i64 0)).setCell ⟨w2.heap.size, 1, none⟩ (.int .i64 0)).setCell ⟨w2.heap.size, 2, none⟩ (.string ⟨#[]⟩)).alloc (.cells #[.int .i64 0, .int .i64 0, .string ⟨#[]⟩] 55)).heap.size) := Lib.hid (HW8.out.alloc (.cells #[.int .i64 0, .int .i64 0, .string ⟨#[]⟩] 55)).box.lt
              have hone9 : l.length + 1 ≤ 101 := by omega
              go_wp2_with (at_builtin; refine wpList_append_vals rfl (.tmp 39) (.tmp 41) rfl (w.heap.size + 1) _ l.length l rfl HO9.out _ [(0, 0, ⟨#[]⟩)] 1 rfl HROW9.out (by intro h; cases h) (by simp only [List.length_singleton]; omega) HZ9.out ?_; intro v8 w8 hown8 hgr8; (have HA := Lib.hid (HW8.out.add hlt h8b hpw hown8 hgr8)); clear hown8 hgr8)
              go_roundw
              case rel => exact ⟨k + 1, l ++ [(0, 0, ⟨#[]⟩)], by omega, by rw [List.length_append, List.length_singleton, HLK.out], by go_num, HFA.out.add (by rw [HLK.out]; exact (by rw [HNN.out]; exact fitsE_free validB_nil)) (by decide), HA.out⟩
              case measure => simp [intOf]; omega
          · have HNN := Lib.hid hnn
            obtain ⟨-, x0, x1, x2, x3⟩ := HX4.out
            obtain ⟨vz, v0, v1, v2, vf⟩ := HV4.out
            rw [hnn] at x2
            clear hnn
            have HO9 := Lib.hid ((HW4.out.alloc (.cells #[.int .i64 (f k).ty, .int .i64 nv, .string sv] 55)).own)
            have HROW9 := Lib.hid (row_one w4 ((f k).ty, nv, sv) w4.heap.size (by first | rfl | (simp only [set_size]; done) | go_simp))
            have HZ9 : Hid (w.heap.size + 1 ≤ (w4.alloc (.cells #[.int .i64 (f k).ty, .int .i64 nv, .string sv] 55)).heap.size) := Lib.hid (HW4.out.alloc (.cells #[.int .i64 (f k).ty, .int .i64 nv, .string sv] 55)).box.lt
            have hone9 : l.length + 1 ≤ 101 := by omega
            go_wp2_with (at_builtin; refine wpList_append_vals rfl (.tmp 39) (.tmp 41) rfl (w.heap.size + 1) _ l.length l rfl HO9.out _ [((f k).ty, nv, sv)] 1 rfl HROW9.out (by intro h; cases h) (by simp only [List.length_singleton]; omega) HZ9.out ?_; intro v8 w8 hown8 hgr8; (have HA := Lib.hid (HW4.out.add hlt h8b hpw hown8 hgr8)); clear hown8 hgr8)
            go_roundw
            case rel => exact ⟨k + 1, l ++ [((f k).ty, nv, sv)], by omega, by rw [List.length_append, List.length_singleton, HLK.out], by go_num, HFA.out.add (by rw [HLK.out]; exact (by rw [HNN.out]; exact fitsE_ok (HVB.out) (by omega))) (by exact hsv), HA.out⟩
            case measure => simp [intOf]; omega
      · have hte : ((f k).ty == 1) = false := beq_eq_false_iff_ne.2 hty1
        clear hty1 hv
        cases hnn : (f k).nn
        · have HNN := Lib.hid hnn
          obtain ⟨-, x0, x1, x2, x3⟩ := HX3.out
          obtain ⟨vz, v0, v1, v2, vf⟩ := HV3.out
          rw [hnn] at x2
          clear hnn
          go_wp2_with fail
          refine (tbool_any b _ _ (by omega) (by omega) HW3.out.tape).mono ?_
          rintro e w7 ⟨r5, rfl, ht7, hs7⟩
          clear x0 x1 x2 x3 vz v0 v1 v2 vf
          have HW7 := Lib.hid (HW3.out.next hs7 ht7 hlt h8b hp)
          have HX7 := Lib.hid (HX3.out.step hs7 hXb)
          have HV7 := Lib.hid (HV3.out.step hs7 hVb)
          clear hs7 ht7
          cases r5
          · obtain ⟨-, x0, x1, x2, x3⟩ := HX7.out
            obtain ⟨vz, v0, v1, v2, vf⟩ := HV7.out
            have HO9 := Lib.hid ((HW7.out.alloc (.cells #[.int .i64 (f k).ty, .int .i64 nv, .string sv] 55)).own)
            have HROW9 := Lib.hid (row_one w7 ((f k).ty, nv, sv) w7.heap.size (by first | rfl | (simp only [set_size]; done) | go_simp))
            have HZ9 : Hid (w.heap.size + 1 ≤ (w7.alloc (.cells #[.int .i64 (f k).ty, .int .i64 nv, .string sv] 55)).heap.size) := Lib.hid (HW7.out.alloc (.cells #[.int .i64 (f k).ty, .int .i64 nv, .string sv] 55)).box.lt
            have hone9 : l.length + 1 ≤ 101 := by omega
            go_wp2_with (at_builtin; refine wpList_append_vals rfl (.tmp 39) (.tmp 41) rfl (w.heap.size + 1) _ l.length l rfl HO9.out _ [((f k).ty, nv, sv)] 1 rfl HROW9.out (by intro h; cases h) (by simp only [List.length_singleton]; omega) HZ9.out ?_; intro v8 w8 hown8 hgr8; (have HA := Lib.hid (HW7.out.add hlt h8b hpw hown8 hgr8)); clear hown8 hgr8)
            go_roundw
            case rel => exact ⟨k + 1, l ++ [((f k).ty, nv, sv)], by omega, by rw [List.length_append, List.length_singleton, HLK.out], by go_num, HFA.out.add (by rw [HLK.out]; exact (by rw [HNN.out]; exact fitsE_ok (HVB.out) (by omega))) (by exact hsv), HA.out⟩
            case measure => simp [intOf]; omega
          · obtain ⟨-, x0, x1, x2, x3⟩ := HX7.out
            obtain ⟨vz, v0, v1, v2, vf⟩ := HV7.out
            have HW8 := Lib.hid (((HW7.out.set hlt h8b hVw hVp hVo 0 (.int .i64 0)).set hlt h8b hVw hVp hVo 1 (.int .i64 0)).set hlt h8b hVw hVp hVo 2 (.string ⟨#[]⟩))
            have HO9 := Lib.hid ((HW8.out.alloc (.cells #[.int .i64 0, .int .i64 0, .string ⟨#[]⟩] 55)).own)
            have HROW9 := Lib.hid (row_one (((w7.setCell ⟨w2.heap.size, 0, none⟩ (.int .i64 0)).setCell ⟨w2.heap.size, 1, none⟩ (.int .i64 0)).setCell ⟨w2.heap.size, 2, none⟩ (.string ⟨#[]⟩)) (0, 0, ⟨#[]⟩) w7.heap.size (by first | rfl | (simp only [set_size]; done) | go_simp))
            have HZ9 : Hid (w.heap.size + 1 ≤ ((((w7.setCell ⟨w2.heap.size, 0, none⟩ (.int .i64 0)).setCell ⟨w2.heap.size, 1, none⟩ (.int .i64 0)).setCell ⟨w2.heap.size, 2, none⟩ (.string ⟨#[]⟩)).alloc (.cells #[.int .i64 0, .int .i64 0, .string ⟨#[]⟩] 55)).heap.size) := Lib.hid (HW8.out.alloc (.cells #[.int .i64 0, .int .i64 0, .string ⟨#[]⟩] 55)).box.lt
            have hone9 : l.length + 1 ≤ 101 := by omega
            go_wp2_with (at_builtin; refine wpList_append_vals rfl (.tmp 39) (.tmp 41) rfl (w.heap.size + 1) _ l.length l rfl HO9.out _ [(0, 0, ⟨#[]⟩)] 1 rfl HROW9.out (by intro h; cases h) (by simp only [List.length_singleton]; omega) HZ9.out ?_; intro v8 w8 hown8 hgr8; (have HA := Lib.hid (HW8.out.add hlt h8b hpw hown8 hgr8)); clear hown8 hgr8)
            go_roundw
            case rel => exact ⟨k + 1, l ++ [(0, 0, ⟨#[]⟩)], by omega, by rw [List.length_append, List.length_singleton, HLK.out], by go_num, HFA.out.add (by rw [HLK.out]; exact (by rw [HNN.out]; exact fitsE_free validB_nil)) (by decide), HA.out⟩
            case measure => simp [intOf]; omega
        · have HNN := Lib.hid hnn
          obtain ⟨-, x0, x1, x2, x3⟩ := HX3.out
          obtain ⟨vz, v0, v1, v2, vf⟩ := HV3.out
          rw [hnn] at x2
          clear hnn
          have HO9 := Lib.hid ((HW3.out.alloc (.cells #[.int .i64 (f k).ty, .int .i64 nv, .string sv] 55)).own)
          have HROW9 := Lib.hid (row_one (w2.alloc (.cells #[.int .i64 (f k).ty, .int .i64 nv, .string sv] 55)) ((f k).ty, nv, sv) (w2.heap.size + 1) (by first | rfl | (simp only [set_size]; done) | go_simp))
          have HZ9 : Hid (w.heap.size + 1 ≤ ((w2.alloc (.cells #[.int .i64 (f k).ty, .int .i64 nv, .string sv] 55)).alloc (.cells #[.int .i64 (f k).ty, .int .i64 nv, .string sv] 55)).heap.size) := Lib.hid (HW3.out.alloc (.cells #[.int .i64 (f k).ty, .int .i64 nv, .string sv] 55)).box.lt
          have hone9 : l.length + 1 ≤ 101 := by omega
          go_wp2_with (at_builtin; refine wpList_append_vals rfl (.tmp 39) (.tmp 41) rfl (w.heap.size + 1) _ l.length l rfl HO9.out _ [((f k).ty, nv, sv)] 1 rfl HROW9.out (by intro h; cases h) (by simp only [List.length_singleton]; omega) HZ9.out ?_; intro v8 w8 hown8 hgr8; (have HA := Lib.hid (HW3.out.add hlt h8b hpw hown8 hgr8)); clear hown8 hgr8)
          go_roundw
          case rel => exact ⟨k + 1, l ++ [((f k).ty, nv, sv)], by omega, by rw [List.length_append, List.length_singleton, HLK.out], by go_num, HFA.out.add (by rw [HLK.out]; exact (by rw [HNN.out]; exact fitsE_ok (HVB.out) (by omega))) (by exact hsv), HA.out⟩
          case measure => simp [intOf]; omega
    · have hkn' : decide ((k : Int) < n) = false := decide_eq_false (by omega)
      obtain rfl : k = n := by omega
      clear hw
      go_wp2
      go_ret
      exact ⟨_, l, rfl, HW.out.own, HLK.out, HFA.out, HW.out.tape, HW.out.step⟩
end Go.Proofs.YtlnbpobipmejfaaGreatDoor
/-
  Rows with numbers of the call's own: their cells, append.
-/
namespace Go.Proofs.YtlnbpobipmejfaaGreatDoor
set_option maxRecDepth 100000
open Go.RowKit
variable {ls : List Nat}

/-- A row of the call's own: its number, its slice, its values. -/
abbrev GRow := Int × Value × List Val
def tcells (G : List GRow) : List Value := G.flatMap fun g => [.int .i64 g.1, g.2.1]
def tabR (G : List GRow) : List TRow := G.map fun g => (g.1, g.2.2)
theorem tcells_length (G : List GRow) : (tcells G).length = G.length * 2 := by
  induction G with
  | nil => rfl
  | cons g G ih => show (_ :: _ :: tcells G).length = _; rw [List.length_cons, List.length_cons, ih, List.length_cons]; omega
theorem tcells_append (G H : List GRow) : tcells (G ++ H) = tcells G ++ tcells H := List.flatMap_append
def grAt (G : List GRow) (i : Nat) : GRow := G.getD i (0, .slice none 0 0, [])
theorem grAt_mem {G : List GRow} {i : Nat} (h : i < G.length) : grAt G i ∈ G := by unfold grAt; rw [List.getD, List.getElem?_eq_getElem h]; exact List.getElem_mem h
theorem tabR_at {G : List GRow} {i : Nat} (h : i < G.length) : tAt (tabR G) i = ((grAt G i).1, (grAt G i).2.2) := by
  unfold tAt tabR grAt
  rw [List.getD, List.getD, List.getElem?_map, List.getElem?_eq_getElem h]
  rfl
theorem tcells_at (G : List GRow) (i : Nat) (h : i < G.length) : (tcells G)[i * 2]? = some (.int .i64 (grAt G i).1) ∧ (tcells G)[i * 2 + 1]? = some (grAt G i).2.1 := by
  induction G generalizing i with
  | nil => simp at h
  | cons g G ih =>
    have e : tcells (g :: G) = .int .i64 g.1 :: g.2.1 :: tcells G := rfl
    rw [e]
    cases i with
    | zero => exact ⟨rfl, rfl⟩
    | succ i =>
      rw [List.length_cons] at h
      have := ih i (by omega)
      rw [show (i + 1) * 2 = i * 2 + 1 + 1 by omega]
      exact this
theorem info_trow : (Tryz.prog.info? 58).map (fun i => (i.zero, i.size, i.bytes)) = some (some (.agg #[.int .i64 0, .slice none 0 0]), 2, 32) := by kernel_rfl

/-- Rows of the call's own. -/
structure TOwn (u : World) (base : Nat) (vr : Value) (G : List GRow) : Prop where
  own : u.ownsRow base 58 2 vr G.length (tcells G)
  inn : ∀ g ∈ G, InRow u base (g.2.1, g.2.2)
theorem TOwn.nil (u : World) (base : Nat) : TOwn u base (.slice none 0 0) [] := ⟨⟨rfl, Or.inl ⟨rfl, rfl⟩⟩, fun g hg => by cases hg⟩
theorem TOwn.low {u v : World} {base : Nat} {vr : Value} {G : List GRow} (h : TOwn u base vr G) (hb : Below u.heap.size u v) : TOwn v base vr G := ⟨owns_below h.own hb, fun g hg => (h.inn g hg).low hb⟩
theorem TOwn.base {u : World} {b b' : Nat} {vr : Value} {G : List GRow} (h : TOwn u b vr G) (hb : b' ≤ b) : TOwn u b' vr G := ⟨owns_base h.own hb, fun g hg => (h.inn g hg).base hb⟩
theorem TOwn.keep {u v : World} {base : Nat} {vr : Value} {G : List GRow} (h : TOwn u base vr G) (hk : ∀ k, base ≤ k → k < u.heap.size → v.heap[k]? = u.heap[k]?) : TOwn v base vr G :=
  ⟨owns_keep h.own fun k hk' => hk k (owns_block h.own k hk') (owns_lt h.own k hk'), fun g hg => ⟨owns_keep (h.inn g hg).1 fun k hk' => hk k (owns_block (h.inn g hg).1 k hk') (owns_lt (h.inn g hg).1 k hk'), (h.inn g hg).2⟩⟩
theorem TOwn.step {u v : World} {b base : Nat} {vr : Value} {G : List GRow} (h : TOwn u base vr G) (hb : b < base) (hs : StepT b u v) : TOwn v base vr G := h.keep fun k h1 h2 => hs.block k h2 (by omega)
theorem TOwn.set {u : World} {base V o : Nat} {vr : Value} {G : List GRow} (h : TOwn u base vr G) (hV : V < base) (y : Value) : TOwn (u.setCell ⟨V, o, none⟩ y) base vr G := h.keep fun k h1 _ => Below.heap_setCell _ _ _ _ (by show k ≠ V; omega)
theorem TOwn.shape {u : World} {base : Nat} {vr : Value} {G : List GRow} (h : TOwn u base vr G) : vr = .slice (rowP vr) G.length (rowC vr) := by
  rcases h.own.2 with ⟨rfl, h0⟩ | ⟨g, cap', cur, rfl, -⟩
  · rw [h0]; rfl
  · rfl
theorem TOwn.rows {u : World} {base : Nat} {vr : Value} {G : List GRow} (h : TOwn u base vr G) : TRowsAt u (rowP vr) (tabR G) := by
  intro i hi
  have hi' : i < G.length := by unfold tabR at hi; rw [List.length_map] at hi; exact hi
  rw [tabR_at hi']
  obtain ⟨hv, hr, hn⟩ := owned_shape (h.inn _ (grAt_mem hi')).1
  have hl := (h.inn _ (grAt_mem hi')).2
  rcases h.own.2 with ⟨-, h0⟩ | ⟨g, cap', cur, rfl, hg, hh, hcap, hm, hcur, htake⟩
  · omega
  · have hget : ∀ j, j < G.length * 2 → cur[j]? = (tcells G)[j]? := fun j hj => by
      rw [← htake, List.getElem?_take, if_pos hj]; simp
    obtain ⟨c0, c1⟩ := tcells_at G i hi'
    refine ⟨g, 0, _, _, rfl, (Array.getElem?_eq_some_iff.1 hh).1, ?_, ?_, hr, hl, hn⟩
    · rw [Nat.zero_add]
      simp only [World.cell?, hh]
      rw [if_neg (by simp), hget _ (by omega), c0]
    · rw [Nat.zero_add]
      simp only [World.cell?, hh]
      rw [if_neg (by simp), hget _ (by omega), c1, ← hv]
theorem tabR_length (G : List GRow) : (tabR G).length = G.length := by unfold tabR; rw [List.length_map]
theorem trow_news {w : World} {N : Nat} {id : Int} {y : Value} (h0 : w.cell? ⟨N, 0, none⟩ = some (.int .i64 id)) (h1 : w.cell? ⟨N, 1, none⟩ = some y) : ∀ j u, ([.int .i64 id, y] : List Value)[j]? = some u → w.cell? ((⟨N, 0, none⟩ : Addr).add j) = some u := by
  intro j u hj
  have hlt := (List.getElem?_eq_some_iff.1 hj).1
  have hadd : (⟨N, 0, none⟩ : Addr).add j = ⟨N, j, none⟩ := by unfold Addr.add; split <;> simp_all
  rw [hadd]
  match j, hlt with
  | 0, _ => rw [h0]; exact hj
  | 1, _ => rw [h1]; exact hj
theorem wpList_append_trow {w : World} {ops : Array Oper} {rest : List Oper} {o : Oper} {a : Act} {Q : Exit → Act → World → Prop} (hgd : o.guard = none) (s x : Operand)
    (ho : o.op = .call { callee := .builtin .append, args := #[s, x], argTypes := #[22, 22] })
    (base : Nat) (v : Value) (G : List GRow) (hs : a.eval s = v) (hown : w.ownsRow base 58 2 v G.length (tcells G))
    (N : Nat) (id : Int) (y : Value) (l : List Val) (hx : a.eval x = .slice (some ⟨N, 0, none⟩) 1 1) (h0 : w.cell? ⟨N, 0, none⟩ = some (.int .i64 id)) (h1 : w.cell? ⟨N, 1, none⟩ = some y) (hy : y.oneCell' = true) (hsum : (G.length + 1) * 32 ≤ 140737488355328) (hbase : base ≤ w.heap.size)
    (h : ∀ v' w', w'.ownsRow base 58 2 v' (G ++ [(id, y, l)]).length (tcells (G ++ [(id, y, l)])) → w.grownBy w' v.ownBlock → wpList Tryz.prog ops Q rest (a.put o.dst v') w') : wpList Tryz.prog ops Q (o :: rest) a w := by
  obtain ⟨i0, hi, hz0, hz1, hz2⟩ := info_parts info_trow
  refine wpList_append_own w hgd s x 22 ho base 58 i0 _ 2 32 Tryz.underlying22 hi hz0 hz1 hz2 rfl (by decide) v G.length (tcells G) hs hown ⟨N, 0, none⟩ 1 1 [.int .i64 id, y] hx rfl (trow_news h0 h1) (fun u hu => by
    rcases List.mem_cons.1 hu with rfl | hu
    · rfl
    · obtain rfl := List.mem_singleton.1 hu
      exact hy) (by unfold maxLen; omega) hsum hbase ?_
  intro v' w' h1 h2 _
  refine h v' w' ?_ h2
  rw [List.length_append, List.length_singleton, tcells_append]
  exact h1
theorem InRow.apartT {u v : World} {base base' n : Nat} {vo : Value} {xs : List Value} {x : Value × List Val} (h : InRow u base x) (ho : u.ownsRow base' 58 2 vo n xs) (hb : ∀ k, k < u.heap.size → vo.ownBlock ≠ some k → v.heap[k]? = u.heap[k]?) : InRow v base x :=
  ⟨owns_keep h.1 fun k hk => hb k (owns_lt h.1 k hk) (owns_apart h.1 ho (by decide) k hk), h.2⟩
theorem TOwn.push {u w8 : World} {base : Nat} {vr v8 : Value} {G : List GRow} {g : GRow} {o : Obj} (h : TOwn u base vr G) (hz : InRow u base (g.2.1, g.2.2))
    (ho : w8.ownsRow base 58 2 v8 (G ++ [g]).length (tcells (G ++ [g]))) (hg : (u.alloc o).grownBy w8 vr.ownBlock) : TOwn w8 base v8 (G ++ [g]) := by
  have h7 := h.low (below_alloc u o)
  have hz7 := hz.low (below_alloc u o)
  have hin : ∀ q, InRow (u.alloc o) base q → InRow w8 base q := fun q hq => hq.apartT h7.own fun k hk hne => hg.block k hk (fun e => hne e.symm)
  refine ⟨ho, fun q hq => ?_⟩
  rcases List.mem_append.1 hq with hq | hq
  · exact hin _ (h7.inn q hq)
  · obtain rfl := List.mem_singleton.1 hq
    exact hin _ hz7
theorem Cell4.grown {u v : World} {X : Nat} {x y z t : Value} {row : Option Nat} (h : Cell4 u X x y z t) (hg : u.grownBy v row) (hr : ∀ k, row = some k → X < k) : Cell4 v X x y z t := by
  have hb := hg.block X h.lt (fun e => by have := hr X e.symm; omega)
  exact ⟨Nat.lt_of_lt_of_le h.lt hg.size, by rw [World.cell?_of_block (w := u) hb]; exact h.c0, by rw [World.cell?_of_block (w := u) hb]; exact h.c1, by rw [World.cell?_of_block (w := u) hb]; exact h.c2, by rw [World.cell?_of_block (w := u) hb]; exact h.c3, fun o => by rw [World.frozen?_of_block (w := u) hb]; exact h.fz o⟩
theorem TOwn.ex {u : World} {base : Nat} {vr : Value} {G : List GRow} (h : TOwn u base vr G) : ∃ p c, vr = .slice p G.length c := ⟨_, _, h.shape⟩
theorem tabR_append (G H : List GRow) : tabR (G ++ H) = tabR G ++ tabR H := List.map_append
theorem TRowsAt.take {w : World} {p : Option Addr} {R : List TRow} (h : TRowsAt w p R) (m : Nat) : TRowsAt w p (R.take m) := by
  intro i hi
  rw [List.length_take] at hi
  have hi' : i < R.length := by omega
  have e : tAt (R.take m) i = tAt R i := by rw [tAt_get (by rw [List.length_take]; omega), tAt_get hi', List.getElem_take]
  rw [e]
  exact h i hi'
end Go.Proofs.YtlnbpobipmejfaaGreatDoor
/-
  A map from values to truths that the call makes: what it holds, by the list of its keys.
-/
namespace Go.Proofs.YtlnbpobipmejfaaGreatDoor
set_option maxRecDepth 100000
open Go.RowKit
variable {ls : List Nat}

def valV (v : Val) : Value := .agg #[.int .i64 v.1, .int .i64 v.2.1, .string v.2.2]
theorem same_dec (a b : Val) : sameV a.1 a.2.1 a.2.2 b.1 b.2.1 b.2.2 = decide (a = b) := by
  by_cases h : a = b
  · rw [decide_eq_true h, same_vals.2 h]
  · rw [decide_eq_false h, Bool.eq_false_iff]
    exact fun hc => h (same_vals.1 hc)
theorem check_val (em : Bool) (v : Val) (w : World) : (Instr.checkKey em 10000 55 (valV v)).run Tryz.prog w = .ok () w := by
  unfold valV
  rw [show (10000 : Nat) = 9998 + 1 + 1 from rfl, Instr.checkKey]
  simp only [Sem.run_bind, run_underlying Tryz.underlying55, Result.andThen]
  have c0 : ∀ x : Int, (Instr.checkKey em (9998 + 1) 3 (.int .i64 x)).run Tryz.prog w = .ok () w := fun x => MapKept.run_checkKey Tryz.underlying3 (show MapKept.IsKey (.int .i64) (.int .i64 x) from rfl) em 9998
  have c1 : ∀ x : Int, (Instr.checkKey em (9998 + 1) 2 (.int .i64 x)).run Tryz.prog w = .ok () w := fun x => MapKept.run_checkKey Tryz.underlying2 (show MapKept.IsKey (.int .i64) (.int .i64 x) from rfl) em 9998
  have c2 : ∀ x : ByteArray, (Instr.checkKey em (9998 + 1) 9 (.string x)).run Tryz.prog w = .ok () w := fun x => MapKept.run_checkKey Tryz.underlying9 (show MapKept.IsKey .string (.string x) from trivial) em 9998
  have p0 : (part 3 #[.int .i64 v.1, .int .i64 v.2.1, .string v.2.2] 0).run Tryz.prog w = .ok (.int .i64 v.1) w := run_part_plain w (by kernel_rfl) rfl
  have p1 : (part 2 #[.int .i64 v.1, .int .i64 v.2.1, .string v.2.2] 1).run Tryz.prog w = .ok (.int .i64 v.2.1) w := run_part_plain w (by kernel_rfl) rfl
  have p2 : (part 9 #[.int .i64 v.1, .int .i64 v.2.1, .string v.2.2] 2).run Tryz.prog w = .ok (.string v.2.2) w := run_part_plain w (by kernel_rfl) rfl
  rw [← Array.forIn_toList]
  simp [List.forIn_cons, Sem.run_bind, p0, p1, p2, c0, c1, c2, Result.andThen]
theorem equal_val (a b : Val) (w : World) : (Op.equal 55 (valV a) (valV b)).run Tryz.prog w = .ok (decide (a = b)) w := by
  have h := eql_val a.1 a.2.1 a.2.2 b.1 b.2.1 b.2.2 w
  rw [run_eql_struct, same_dec] at h
  unfold valV Op.equal Op.maxDepth
  generalize (Op.equalIn 10000 55 _ _).run Tryz.prog w = r at h ⊢
  cases r with
  | halt _ _ => simp [Result.andThen] at h
  | ok b' w' =>
    simp only [Result.andThen, Result.ok.injEq, Value.bool.injEq] at h
    rw [h.1, h.2]
/-- A value is looked for among the keys. -/
theorem asking_val (v : Val) (w : World) : ∀ (es : List MapEntry) (S : List Val) (i : Nat), es.map (·.key) = S.map valV → (∀ e ∈ es, e.val = .bool true) →
    (v ∉ S ∧ (Instr.findAsking 55 (valV v) es i).run Tryz.prog w = .ok none w) ∨ (v ∈ S ∧ ∃ j, (Instr.findAsking 55 (valV v) es i).run Tryz.prog w = .ok (some (j, .bool true)) w)
  | [], S, i, hk, hv => by
    have : S = [] := by cases S with
      | nil => rfl
      | cons x S => simp at hk
    subst this
    exact .inl ⟨by simp, by simp [Instr.findAsking]⟩
  | e :: es, S, i, hk, hv => by
    cases S with
    | nil => simp at hk
    | cons x S =>
      rw [List.map_cons, List.map_cons] at hk
      injection hk with hk1 hk2
      have he := equal_val v x w
      rw [← hk1] at he
      by_cases hx : v = x
      · rw [decide_eq_true hx] at he
        refine .inr ⟨by rw [hx]; exact List.mem_cons_self, i, ?_⟩
        have hev := hv e List.mem_cons_self
        simp [Instr.findAsking, he, hev, Result.andThen]
      · rw [decide_eq_false hx] at he
        have hrun : (Instr.findAsking 55 (valV v) (e :: es) i).run Tryz.prog w = (Instr.findAsking 55 (valV v) es (i + 1)).run Tryz.prog w := by simp [Instr.findAsking, he, Result.andThen]
        rcases asking_val v w es S (i + 1) hk2 (fun y hy => hv y (List.mem_cons_of_mem _ hy)) with ⟨h1, h2⟩ | ⟨h1, j, h2⟩
        · exact .inl ⟨by simp [hx, h1], by rw [hrun, h2]⟩
        · exact .inr ⟨List.mem_cons_of_mem _ h1, j, by rw [hrun, h2]⟩
theorem find_val (v : Val) (w : World) (es : List MapEntry) (S : List Val) (hk : es.map (·.key) = S.map valV) (hv : ∀ e ∈ es, e.val = .bool true) :
    (v ∉ S ∧ (Instr.findKey 55 (valV v) es).run Tryz.prog w = .ok none w) ∨ (v ∈ S ∧ ∃ j, (Instr.findKey 55 (valV v) es).run Tryz.prog w = .ok (some (j, .bool true)) w) := by
  cases es with
  | nil =>
    have : S = [] := by cases S with
      | nil => rfl
      | cons x S => simp at hk
    subst this
    exact .inl ⟨by simp, by simp [Instr.findKey, Instr.findNow, run_underlying Tryz.underlying55, Result.andThen]⟩
  | cons e es =>
    have hrun : (Instr.findKey 55 (valV v) (e :: es)).run Tryz.prog w = (Instr.findAsking 55 (valV v) (e :: es) 0).run Tryz.prog w := by
      simp [Instr.findKey, Instr.findNow, Instr.sameNow, run_underlying Tryz.underlying55, Result.andThen]
    rw [hrun]
    exact asking_val v w _ S 0 hk hv

/-- Block b is a map whose keys are S, all with true. -/
def SeenAt (w : World) (b : Nat) (S : List Val) : Prop := ∃ (es : Array MapEntry) (clock : Nat), w.heap[b]? = some (.map es clock) ∧ es.toList.map (·.key) = S.map valV ∧ ∀ e ∈ es.toList, e.val = .bool true
theorem SeenAt.new (w : World) : SeenAt (w.alloc (.map #[] 0)) w.heap.size [] := ⟨#[], 0, by show (w.heap.push _)[w.heap.size]? = _; simp, rfl, fun e he => by simp at he⟩
theorem SeenAt.lt {w : World} {b : Nat} {S : List Val} (h : SeenAt w b S) : b < w.heap.size := by
  obtain ⟨es, clock, hb, -⟩ := h
  exact (Array.getElem?_eq_some_iff.1 hb).1
theorem SeenAt.low {u v : World} {b : Nat} {S : List Val} (h : SeenAt u b S) (hb : Below u.heap.size u v) : SeenAt v b S := by
  obtain ⟨es, clock, h0, h1, h2⟩ := h
  exact ⟨es, clock, by rw [hb.block b (Array.getElem?_eq_some_iff.1 h0).1]; exact h0, h1, h2⟩
def seenB (v : Val) (S : List Val) : Bool := S.any fun x => decide (x = v)
theorem seenB_iff {v : Val} {S : List Val} : seenB v S = true ↔ v ∈ S := by
  unfold seenB
  rw [List.any_eq_true]
  exact ⟨fun ⟨x, h1, h2⟩ => by have := of_decide_eq_true h2; subst this; exact h1, fun h => ⟨v, h, decide_eq_true rfl⟩⟩
theorem seenB_no {v : Val} {S : List Val} (h : v ∉ S) : seenB v S = false := by rw [Bool.eq_false_iff]; exact fun hc => h (seenB_iff.1 hc)
theorem SeenAt.look {w : World} {b : Nat} {S : List Val} (h : SeenAt w b S) (v : Val) (t : TypeId) (ht : Tryz.prog.underlying t = some (.map 55 4)) : (Instr.lookup t (.map (some b)) (valV v) false).run Tryz.prog w = .ok (.bool (seenB v S)) w := by
  obtain ⟨es, clock, hb, hk, hv⟩ := h
  have hz : (zeroValue 4).run Tryz.prog w = .ok (.bool false) w := by go_simp
  rcases find_val v w es.toList S hk hv with ⟨h1, h2⟩ | ⟨h1, j, h2⟩
  · rw [seenB_no h1]
    simp [Instr.lookup, run_underlying ht, MapKept.run_getObj_map hb, check_val, h2, hz, Result.andThen]
  · rw [seenB_iff.2 h1]
    simp [Instr.lookup, run_underlying ht, MapKept.run_getObj_map hb, check_val, h2, Result.andThen]
/-- The world with one block set. -/
theorem SeenAt.put {w : World} {b : Nat} {S : List Val} (h : SeenAt w b S) (v : Val) (hn : v ∉ S) (t : TypeId) (ht : Tryz.prog.underlying t = some (.map 55 4)) :
    ∃ w', (Instr.mapUpdate t (.map (some b)) (valV v) (.bool true)).run Tryz.prog w = .ok () w' ∧ SeenAt w' b (S ++ [v]) ∧ w.grownBy w' (some b) := by
  obtain ⟨es, clock, hb, hk, hv⟩ := h
  rcases find_val v w es.toList S hk hv with ⟨h1, h2⟩ | ⟨h1, -⟩
  · refine ⟨{ w with heap := w.heap.setIfInBounds b (.map (es.push { key := valV v, val := .bool true, born := clock }) (clock + 1)) }, ?_, ?_, ?_⟩
    · simp [Instr.mapUpdate, run_underlying ht, MapKept.run_getObj_map hb, check_val, h2, MapKept.run_setObj_map _ hb, Result.andThen]
    · refine ⟨es.push { key := valV v, val := .bool true, born := clock }, clock + 1, ?_, ?_, ?_⟩
      · have := (Array.getElem?_eq_some_iff.1 hb).1
        simp [this]
      · simp [hk]
      · intro e he
        simp at he
        rcases he with he | rfl
        · exact hv e (by simpa using he)
        · rfl
    · refine ⟨rfl, rfl, rfl, by simp, fun k _ hne => ?_⟩
      have : b ≠ k := fun e => hne (by rw [e])
      simp [this]
  · exact absurd h1 hn
end Go.Proofs.YtlnbpobipmejfaaGreatDoor
