/-
  Several texts in one.
-/
import Derived.Test.YtgaihglploedaaaDoorPk12
import Derived.Test.YtgaihglploedaaaDoorPk04
import Derived.OwnWalk
import Derived.Laws.AppendOwn
import Derived.Test.YtgaihglploedaaaDoorPk01
/-
  Rows of columns that the call owns: append; stores into them.
-/
namespace Go.Proofs.YtgaihglploedaaaDoor
set_option maxRecDepth 100000
open Go.RowKit
variable {ls : List Nat}

def cAt (l : List Col) (i : Nat) : Col := l.getD i default
/-- The cells of a list of columns. -/
def ccells : List Col → List Value
  | [] => []
  | x :: l => .string x.nm :: .int .i64 x.ty :: .bool x.nn :: .bool x.key :: ccells l
theorem ccells_length (l : List Col) : (ccells l).length = l.length * 4 := by
  induction l with
  | nil => rfl
  | cons x l ih => simp only [ccells, List.length_cons, ih]; omega
theorem ccells_append (a b : List Col) : ccells (a ++ b) = ccells a ++ ccells b := by
  induction a with
  | nil => rfl
  | cons x a ih => simp only [List.cons_append, ccells, ih]
theorem ccells_at (l : List Col) : ∀ i, i < l.length → (ccells l)[i * 4]? = some (.string (cAt l i).nm) ∧ (ccells l)[i * 4 + 1]? = some (.int .i64 (cAt l i).ty) ∧ (ccells l)[i * 4 + 2]? = some (.bool (cAt l i).nn) ∧ (ccells l)[i * 4 + 3]? = some (.bool (cAt l i).key) := by
  induction l with
  | nil => intro i hi; simp at hi
  | cons x l ih =>
    intro i hi
    cases i with
    | zero => exact ⟨rfl, rfl, rfl, rfl⟩
    | succ i =>
      have h := ih i (by simpa using hi)
      have e : cAt (x :: l) (i + 1) = cAt l i := by simp [cAt]
      rw [e, Nat.succ_mul]
      exact h
theorem ccells_one (l : List Col) : ∀ u ∈ ccells l, u.oneCell' = true := by
  induction l with
  | nil => intro u hu; simp [ccells] at hu
  | cons x l ih =>
    intro u hu
    simp only [ccells, List.mem_cons] at hu
    rcases hu with rfl | rfl | rfl | rfl | hu
    · rfl
    · rfl
    · rfl
    · rfl
    · exact ih u hu
/-- Texts of columns that Go could hold. -/
def Sized (l : List Col) : Prop := ∀ i, i < l.length → (cAt l i).nm.size ≤ 9223372036854775807
theorem cAt_left {a b : List Col} {i : Nat} (h : i < a.length) : cAt (a ++ b) i = cAt a i := by unfold cAt; rw [List.getD, List.getElem?_append_left h]; rfl
theorem cAt_new {a : List Col} {c : Col} : cAt (a ++ [c]) a.length = c := by unfold cAt; rw [List.getD, List.getElem?_append_right (Nat.le_refl _)]; simp
theorem all_add {P : Nat → Col → Prop} {a : List Col} {c : Col} (h : ∀ i, i < a.length → P i (cAt a i)) (hc : P a.length c) : ∀ i, i < (a ++ [c]).length → P i (cAt (a ++ [c]) i) := by
  intro i hi
  rw [List.length_append, List.length_singleton] at hi
  by_cases hin : i < a.length
  · rw [cAt_left hin]; exact h i hin
  · obtain rfl : i = a.length := by omega
    rw [cAt_new]; exact hc
theorem Sized.add {a : List Col} {c : Col} (h : Sized a) (hc : c.nm.size ≤ 9223372036854775807) : Sized (a ++ [c]) := all_add (P := fun _ c => c.nm.size ≤ 9223372036854775807) h hc
/-- Any columns in memory, as a list. -/
theorem cols_list (n : Nat) (f : Nat → Col) : ∃ l : List Col, l.length = n ∧ ∀ i, i < n → cAt l i = f i := by
  refine ⟨(List.range n).map f, by simp, fun i hi => ?_⟩
  unfold cAt
  rw [List.getD, List.getElem?_map, List.getElem?_range hi]
  rfl
theorem ColsAt.congr {w : World} {p : Option Addr} {n : Nat} {f g : Nat → Col} (h : ColsAt w p n f) (he : ∀ i, i < n → g i = f i) : ColsAt w p n g := fun i hi => by rw [he i hi]; exact h i hi

theorem cols_of_owns {w : World} {base n : Nat} {e : TypeId} {v : Value} {l : List Col} (h : w.ownsRow base e 4 v n (ccells l)) (hs : Sized l) :
    ∃ p cap, v = .slice p n cap ∧ n = l.length ∧ ColsAt w p n (cAt l) ∧ ∀ q, p = some q → base ≤ q.block ∧ q.off = 0 ∧ ∀ o, w.frozen? ⟨q.block, o, none⟩ = false := by
  obtain ⟨hl, h⟩ := h
  rw [ccells_length] at hl
  have hn : n = l.length := by omega
  rcases h with ⟨rfl, h0⟩ | ⟨g, cap, cur, rfl, hg, hh, hcap, hm, hcur, htake⟩
  · exact ⟨none, 0, by rw [h0], hn, fun i hi => by omega, fun q hq => by cases hq⟩
  · refine ⟨_, cap, rfl, hn, fun i hi => ⟨g, 0, rfl, (Array.getElem?_eq_some_iff.1 hh).1, hs i (by omega), ?_⟩, fun q hq => ?_⟩
    · have key : ∀ j v, (ccells l)[j]? = some v → w.cell? ⟨g, 0 + j, none⟩ = some v := by
        intro j v hj
        rw [← htake] at hj
        have hj' : cur.toList[j]? = some v := by
          rw [List.getElem?_take] at hj
          split at hj
          · exact hj
          · cases hj
        simp [World.cell?, hh]
        simpa using hj'
      obtain ⟨h0, h1, h2, h3⟩ := ccells_at l i (by omega)
      exact ⟨key _ _ h0, key _ _ h1, key _ _ h2, key _ _ h3⟩
    · cases hq
      exact ⟨hg, rfl, fun o => by simp [World.frozen?, hh]⟩

theorem info_col : (Tryd.prog.info? 75).map (fun i => (i.zero, i.size, i.bytes)) = some (some (.agg #[.string ⟨#[]⟩, .int .i64 0, .bool false, .bool false]), 4, 32) := by kernel_rfl

/-- What an append asks of a source. -/
theorem news_of_cols {w : World} {a : Addr} {l : List Col} (h : ColsAt w (some a) l.length (cAt l)) : ∀ j u, (ccells l)[j]? = some u → w.cell? (a.add j) = some u := by
  intro j u hj
  have hjl : j < l.length * 4 := by
    have := (List.getElem?_eq_some_iff.1 hj).1
    rw [ccells_length] at this; exact this
  have hi : j / 4 < l.length := by omega
  obtain ⟨c, o, hc, -, -, h0, h1, h2, h3⟩ := h (j / 4) hi
  obtain rfl := Option.some.inj hc
  obtain ⟨v0, v1, v2, v3⟩ := ccells_at l (j / 4) hi
  have ha : (⟨c, o, none⟩ : Addr).add j = ⟨c, o + j, none⟩ := by unfold Addr.add; split <;> simp_all
  rw [ha]
  have hr : j % 4 = 0 ∨ j % 4 = 1 ∨ j % 4 = 2 ∨ j % 4 = 3 := by omega
  rcases hr with hr | hr | hr | hr
  · have e : j = j / 4 * 4 := by omega
    rw [e] at hj ⊢
    have e2 : j / 4 * 4 / 4 = j / 4 := by omega
    rw [v0] at hj; obtain rfl := Option.some.inj hj; exact h0
  · have e : j = j / 4 * 4 + 1 := by omega
    rw [e] at hj ⊢
    rw [v1] at hj; obtain rfl := Option.some.inj hj; exact h1
  · have e : j = j / 4 * 4 + 2 := by omega
    rw [e] at hj ⊢
    rw [v2] at hj; obtain rfl := Option.some.inj hj; exact h2
  · have e : j = j / 4 * 4 + 3 := by omega
    rw [e] at hj ⊢
    rw [v3] at hj; obtain rfl := Option.some.inj hj; exact h3

/-- append(v, xs...) of columns, v the call's own, xs not nil. -/
theorem wpList_append_cols {w : World} {ops : Array Oper} {rest : List Oper} {o : Oper} {a : Act} {Q : Exit → Act → World → Prop} (hgd : o.guard = none) (s x : Operand)
    (ho : o.op = .call { callee := .builtin .append, args := #[s, x], argTypes := #[22, 22] })
    (base : Nat) (v : Value) (n : Nat) (l : List Col) (hs : a.eval s = v) (hown : w.ownsRow base 75 4 v n (ccells l))
    (ad : Addr) (lx : List Col) (cx m : Nat) (hx : a.eval x = .slice (some ad) m cx) (hm : lx.length = m) (hrow : ColsAt w (some ad) lx.length (cAt lx)) (hsum : (n + lx.length) * 32 ≤ 140737488355328) (hbase : base ≤ w.heap.size)
    (h : ∀ v' w', w'.ownsRow base 75 4 v' (n + lx.length) (ccells (l ++ lx)) → w.grownBy w' v.ownBlock → wpList Tryd.prog ops Q rest (a.put o.dst v') w') : wpList Tryd.prog ops Q (o :: rest) a w := by
  obtain ⟨i0, hi, hz0, hz1, hz2⟩ := info_parts info_col
  subst hm
  refine wpList_append_own w hgd s x 22 ho base 75 i0 _ 4 32 Tryd.underlying22 hi hz0 hz1 hz2 rfl (by decide) v n (ccells l) hs hown ad lx.length cx (ccells lx) hx (ccells_length lx) (news_of_cols hrow) (ccells_one lx) (by unfold maxLen; omega) hsum hbase ?_
  intro v' w' h1 h2 _
  exact h v' w' (by rw [ccells_append]; exact h1) h2

theorem cowns_empty (w : World) : (w.alloc (.cells #[] 75)).ownsRow w.heap.size 75 4 (.slice (some ⟨w.heap.size, 0, none⟩) 0 0) 0 (ccells []) := by
  refine ⟨rfl, Or.inr ⟨w.heap.size, 0, #[], rfl, Nat.le_refl _, ?_, Nat.le_refl _, by decide, rfl, rfl⟩⟩
  show (w.heap.push _)[w.heap.size]? = _
  simp
theorem Cell2.grown {u v : World} {X : Nat} {x y : Value} {row : Option Nat} (h : Cell2 u X x y) (hg : u.grownBy v row) (hr : ∀ k, row = some k → X < k) : Cell2 v X x y := by
  have hb : v.heap[X]? = u.heap[X]? := hg.block X h.lt (fun e => by have := hr X e.symm; omega)
  exact ⟨Nat.lt_of_lt_of_le h.lt hg.size, by rw [World.cell?_of_block (w := u) hb]; exact h.c0, by rw [World.cell?_of_block (w := u) hb]; exact h.c1, fun o => by rw [World.frozen?_of_block (w := u) hb]; exact h.fz o⟩
theorem Cell2.step {u v : World} {X b : Nat} {x y : Value} (h : Cell2 u X x y) (hs : StepT b u v) (hn : X ≠ b) : Cell2 v X x y :=
  ⟨Nat.lt_of_lt_of_le h.lt hs.size, by rw [hs.cell (by exact h.lt) (by exact hn)]; exact h.c0, by rw [hs.cell (by exact h.lt) (by exact hn)]; exact h.c1, fun o => by rw [hs.frozen (by exact h.lt) (by exact hn)]; exact h.fz o⟩
theorem Cell4.step {u v : World} {X b : Nat} {x y z q : Value} (h : Cell4 u X x y z q) (hs : StepT b u v) (hn : X ≠ b) : Cell4 v X x y z q :=
  ⟨Nat.lt_of_lt_of_le h.lt hs.size, by rw [hs.cell (by exact h.lt) (by exact hn)]; exact h.c0, by rw [hs.cell (by exact h.lt) (by exact hn)]; exact h.c1, by rw [hs.cell (by exact h.lt) (by exact hn)]; exact h.c2, by rw [hs.cell (by exact h.lt) (by exact hn)]; exact h.c3, fun o => by rw [hs.frozen (by exact h.lt) (by exact hn)]; exact h.fz o⟩
theorem set_size (u : World) (a : Addr) (y : Value) : (u.setCell a y).heap.size = u.heap.size := by simp [World.setCell]
theorem Cell2.far {u : World} {X Z o : Nat} {a b : Value} (h : Cell2 u X a b) (hn : X ≠ Z) (y : Value) : Cell2 (u.setCell ⟨Z, o, none⟩ y) X a b := by
  have hk : (u.setCell ⟨Z, o, none⟩ y).heap[X]? = u.heap[X]? := Below.heap_setCell _ _ _ _ hn
  exact ⟨by simpa [World.setCell] using h.lt, by rw [World.cell?_of_block (w := u) hk]; exact h.c0, by rw [World.cell?_of_block (w := u) hk]; exact h.c1, fun i => by rw [World.frozen?_of_block (w := u) hk]; exact h.fz i⟩
end Go.Proofs.YtgaihglploedaaaDoor
/-
  Row of the tape: a row that fits a schema.
-/
namespace Go.Proofs.YtgaihglploedaaaDoor
set_option maxRecDepth 100000
open Go.RowKit
variable {ls : List Nat}

set_option maxHeartbeats 400000 in
theorem small_any (b : Nat) (w : World) (ht : TapeAt w b) :
    Calls Tryd.prog 38 #[.pointer (some ⟨b, 0, none⟩)] w fun e w' => ∃ z : Int, e = .returned (.int .i64 z) ∧ -9223372036854775808 ≤ z ∧ z ≤ 9223372036854775807 ∧ TapeAt w' b ∧ StepT b w w' := by
  go_enter Tryd.func38, Tryd.ntmps38
  go_wp2_with fail
  refine (next_any b _ _ (by omega) (by omega) ht).mono ?_
  rintro e w' ⟨r, rfl, hr0, hr1, ht1, hs1⟩
  have HT := Lib.hid ht1
  have HS := Lib.hid hs1
  clear ht1 hs1
  go_wp2
  go_ret
  exact ⟨r - 3, rfl, by omega, by omega, HT.out, HS.out⟩

/-- What Row keeps in its loop. -/
structure RowW (ls : List Nat) (b : Nat) (w : World) (nm : ByteArray) (p : Option Addr) (n cap : Nat) (f : Nat → Col) (vo : Value) (l : List Val) (u : World) : Prop where
  box : Cell2 u w.heap.size (.string nm) (.slice p n cap)
  cols : ColsAt u p n f
  own : u.ownsRow (w.heap.size + 1) 34 3 vo l.length (vcells l)
  tape : TapeAt u b
  env : Env ls u
  step : StepT b w u
section
variable {b n cap V : Nat} {w u v : World} {nm : ByteArray} {p : Option Addr} {f : Nat → Col} {vo : Value} {l : List Val}
theorem RowW.next (h : RowW ls b w nm p n cap f vo l u) (hs : StepT b u v) (ht : TapeAt v b) (hlt : b < w.heap.size) (h8 : 3 ≤ b) (hp : ∀ q, p = some q → q.block ≠ b) : RowW ls b w nm p n cap f vo l v :=
  ⟨h.box.step hs (by omega), h.cols.step hs hp, owns_step h.own (by omega) hs, ht, h.env.step hs h8, h.step.trans hs⟩
theorem RowW.alloc (h : RowW ls b w nm p n cap f vo l u) (o : Obj) : RowW ls b w nm p n cap f vo l (u.alloc o) :=
  ⟨h.box.low (below_alloc _ _), h.cols.low (below_alloc _ _), h.own.alloc o, h.tape.alloc o, h.env.alloc o, h.step.alloc o⟩
/-- A store into a box that lies behind all of it. -/
theorem RowW.set (h : RowW ls b w nm p n cap f vo l u) (hlt : b < w.heap.size) (h8 : 3 ≤ b) (hV : w.heap.size < V) (hp : ∀ q, p = some q → q.block < V) (ho : ∀ k, vo.ownBlock = some k → k < V) (o : Nat) (y : Value) : RowW ls b w nm p n cap f vo l (u.setCell ⟨V, o, none⟩ y) :=
  ⟨h.box.far (by omega) _, h.cols.set (fun q hq => by have := hp q hq; show q.block ≠ V; omega) _, owns_keep h.own fun k hk => Below.heap_setCell _ _ _ _ (by have := ho k hk; show k ≠ V; omega), h.tape.setCell (show b < V by omega) _, h.env.keep (by rw [set_size]; exact Nat.le_refl _) (fun k hk => Below.heap_setCell _ _ _ _ (by show k ≠ V; omega)), h.step.set2 (by omega) _ _ _⟩
theorem RowW.add {w8 : World} {v8 : Value} {o : Obj} {x : Val} (h : RowW ls b w nm p n cap f vo l u) (hlt : b < w.heap.size) (h8 : 3 ≤ b) (hp : ∀ q, p = some q → q.block < w.heap.size) (ho : w8.ownsRow (w.heap.size + 1) 34 3 v8 (l.length + [x].length) (vcells (l ++ [x]))) (hg : (u.alloc o).grownBy w8 vo.ownBlock) : RowW ls b w nm p n cap f v8 (l ++ [x]) w8 := by
  have h7 := h.alloc o
  have hk : ∀ k, vo.ownBlock = some k → w.heap.size + 1 ≤ k := fun k hk => (h.own.lt k hk).1
  have hb : ∀ k, k < (u.alloc o).heap.size → k ≤ w.heap.size → w8.heap[k]? = (u.alloc o).heap[k]? := fun k h1 h2 => hg.block k h1 (fun e => by have := hk k e.symm; omega)
  have hws : w.heap.size < (u.alloc o).heap.size := h7.box.lt
  refine ⟨h7.box.grown hg (fun k hk' => by have := hk k hk'; omega), h7.cols.keep hg.size (fun a ha => hb _ (by have := hp a ha; omega) (by have := hp a ha; omega)), by rw [List.length_append]; exact ho, h7.tape.grown hg (fun k hk' => by have := hk k hk'; omega), h7.env.keep hg.size (fun k hk' => hb k (by omega) (by omega)), step_grown_from h7.step hg (fun k hk' => by have := hk k hk'; omega)⟩
end
theorem Cell3.step {u v : World} {X b : Nat} {x y z : Value} (h : Cell3 u X x y z) (hs : StepT b u v) (hn : X ≠ b) : Cell3 v X x y z :=
  ⟨Nat.lt_of_lt_of_le h.lt hs.size, by rw [hs.cell (by exact h.lt) (by exact hn)]; exact h.c0, by rw [hs.cell (by exact h.lt) (by exact hn)]; exact h.c1, by rw [hs.cell (by exact h.lt) (by exact hn)]; exact h.c2, fun o => by rw [hs.frozen (by exact h.lt) (by exact hn)]; exact h.fz o⟩
theorem cell3_set1 {u : World} {X : Nat} {a b c : Value} (h : Cell3 u X a b c) (y : Value) : Cell3 (u.setCell ⟨X, 1, none⟩ y) X a y c := by
  obtain ⟨hl, c0, c1, c2, fz⟩ := h
  refine ⟨by simpa [World.setCell] using hl, ?_, ?_, ?_, fun o => ?_⟩
  · go_simp
  · go_simp
  · go_simp
  · rw [World.frozen?_setCell]; exact fz o
theorem ColBox.far {u : World} {X V o : Nat} {c : Col} (h : ColBox u X c) (hn : X ≠ V) (y : Value) : ColBox (u.setCell ⟨V, o, none⟩ y) X c := by
  have hk : (u.setCell ⟨V, o, none⟩ y).heap[X]? = u.heap[X]? := Below.heap_setCell _ _ _ _ hn
  exact ⟨by rw [set_size]; exact h.1, by rw [World.cell?_of_block (w := u) hk]; exact h.2.1, by rw [World.cell?_of_block (w := u) hk]; exact h.2.2.1, by rw [World.cell?_of_block (w := u) hk]; exact h.2.2.2.1, by rw [World.cell?_of_block (w := u) hk]; exact h.2.2.2.2⟩
theorem row_one (u : World) (x : Val) (N : Nat) (hN : u.heap.size = N) : RowAt (u.alloc (.cells #[.int .i64 x.1, .int .i64 x.2.1, .string x.2.2] 34)) (some ⟨N, 0, none⟩) [x] := by
  subst hN
  intro i hi
  obtain rfl : i = 0 := by simpa using hi
  have hb := BoxAt.new u x 34
  exact ⟨u.heap.size, 0, rfl, hb.1, hb.2.1, hb.2.2.1, hb.2.2.2⟩
theorem vAt_left {a c : List Val} {i : Nat} (h : i < a.length) : vAt (a ++ c) i = vAt a i := by unfold vAt; rw [List.getD, List.getElem?_append_left h]; rfl
theorem vAt_new {a : List Val} {x : Val} : vAt (a ++ [x]) a.length = x := by unfold vAt; rw [List.getD, List.getElem?_append_right (Nat.le_refl _)]; simp
/-- The values fit, and are short. -/
def FitsAll (f : Nat → Col) (l : List Val) : Prop := ∀ i, i < l.length → fitE f l i = 0 ∧ (vAt l i).2.2.size ≤ 64
theorem FitsAll.add {f : Nat → Col} {l : List Val} {x : Val} (h : FitsAll f l) (h0 : fitsE (f l.length).ty (f l.length).nn x.1 x.2.1 x.2.2 = 0) (hs : x.2.2.size ≤ 64) : FitsAll f (l ++ [x]) := by
  intro i hi
  rw [List.length_append, List.length_singleton] at hi
  by_cases hin : i < l.length
  · unfold fitE; rw [vAt_left hin]; exact h i hin
  · obtain rfl : i = l.length := by omega
    unfold fitE; rw [vAt_new]; exact ⟨h0, hs⟩
def RowPost (b : Nat) (n : Nat) (f : Nat → Col) (w : World) (e : Ending) (w' : World) : Prop := ∃ (v : Value) (l : List Val), e = .returned v ∧ w'.ownsRow (w.heap.size + 1) 34 3 v l.length (vcells l) ∧ l.length = n ∧ FitsAll f l ∧ TapeAt w' b ∧ StepT b w w'
theorem validB_num (n : Int) : validB 1 n ⟨#[]⟩ = true := by simp [validB]
theorem validB_nil : validB 0 0 ⟨#[]⟩ = true := by simp [validB]
set_option maxRecDepth 100000 in
set_option maxHeartbeats 4000000 in
theorem row_any (b : Nat) (w : World) (h8b : 3 ≤ b) (ht : TapeAt w b) (hE : Env ls w) (hlw : 1 ∈ ls) (nm : ByteArray) (a : Addr) (n cap : Nat) (f : Nat → Col) (hn : n ≤ 100) (hC : ColsAt w (some a) n f) (hab : a.block ≠ b) (haw : a.block < w.heap.size) (hty : ∀ i, i < n → 1 ≤ (f i).ty ∧ (f i).ty ≤ 3) :
    Calls Tryd.prog 14 #[.pointer (some ⟨b, 0, none⟩), schV nm (some a) n cap] w (RowPost b n f w) := by
  unfold schV
  have hlt := ht.lt
  have hbw : b ≠ 1 := by omega
  have hp : ∀ q, some a = some q → q.block ≠ b := fun q hq => by cases hq; exact hab
  have hpw : ∀ q, some a = some q → q.block < w.heap.size := fun q hq => by cases hq; exact haw
  have HW := Lib.hid (RowW.mk (ls := ls) (b := b) (w := w) (cell2_new w (.string nm) (.slice (some a) n cap) 24) (hC.low (below_alloc _ _)) (World.ownsRow_nil _ (w.heap.size + 1) 34 3) (ht.alloc _) (hE.alloc _) ((StepT.refl b w).alloc _) : RowW ls b w nm (some a) n cap f (.slice none 0 0) [] (w.alloc (.cells #[.string nm, .slice (some a) n cap] 24)))
  clear hC ht hE
  go_enter Tryd.func14, Tryd.ntmps14
  go_wp2_with fail
  go_loopw [5, 12] (fun vo i v => ∃ (k : Nat) (l : List Val), k ≤ n ∧ l.length = k ∧ i = .int .i64 k ∧ FitsAll f l ∧ RowW ls b w nm (some a) n cap f vo l v) (fun _ i _ => n - (intOf i).toNat)
  case atStart => exact ⟨0, [], Nat.zero_le _, rfl, rfl, fun i hi => by simp at hi, HW.out⟩
  clear HW
  case round =>
    obtain ⟨k, l, hk, hlk, rfl, hfa, hw⟩ := hrel
    have HFA := Lib.hid hfa
    have HLK := Lib.hid hlk
    have HW := Lib.hid hw
    have hl100 : l.length ≤ 100 := by omega
    clear hfa hlk
    by_cases hkn : k < n
    · have hkn' : decide ((k : Int) < n) = true := decide_eq_true (by omega)
      obtain ⟨c, o, hca, hc, hsz, c0, c1, c2, c3⟩ := hw.cols k hkn
      obtain rfl := Option.some.inj hca
      obtain ⟨ht1, ht3⟩ := hty k hkn
      clear hw hca
      go_wp2_with fail
      have HX1 := Lib.hid (ColBox.new wr (f k) 75)
      have HW1 := Lib.hid (HW.out.alloc (.cells #[.string (f k).nm, .int .i64 (f k).ty, .bool (f k).nn, .bool (f k).key] 75))
      have hXb : wr.heap.size ≠ b := by have := HW.out.tape.lt; omega
      clear HW c0 c1 c2 c3 hc
      refine (typed_any b _ _ hbw HW1.out.tape (HW1.out.env.words hlw)).mono ?_
      rintro e w2 ⟨kk, nv, sv, rfl, hv, hkk, ht2, hs2⟩
      obtain rfl : kk = (f k).ty := hkk ht1 ht3
      have HX2 := Lib.hid (HX1.out.step hs2 hXb)
      have HW2 := Lib.hid (HW1.out.next hs2 ht2 hlt h8b hp)
      have hvb := hv.valid
      have hsv := hv.size
      have HVB := Lib.hid hvb
      have hcol1 : wr.heap.size < w2.heap.size := HX2.out.1
      generalize hX : wr.heap.size = X at *
      obtain ⟨-, -, x1, x2, -⟩ := HX2.out
      have HV3 := Lib.hid (cell3_new w2 (.int .i64 (f k).ty) (.int .i64 nv) (.string sv) 34)
      have HX3 := Lib.hid (HX2.out.low (below_alloc w2 (.cells #[.int .i64 (f k).ty, .int .i64 nv, .string sv] 34)))
      have HW3 := Lib.hid (HW2.out.alloc (.cells #[.int .i64 (f k).ty, .int .i64 nv, .string sv] 34))
      have hVb : w2.heap.size ≠ b := by have := HW2.out.tape.lt; omega
      have hVw : w.heap.size < w2.heap.size := HW2.out.box.lt
      have hVp : ∀ q, some (⟨c, o, none⟩ : Addr) = some q → q.block < w2.heap.size := fun q hq => by cases hq; show c < _; omega
      have hVo := fun k' hk' => (HW2.out.own.lt k' hk').2
      have hXV : X ≠ w2.heap.size := by omega
      clear x1 x2 hs2 ht2
      by_cases hty1 : (f k).ty = 1
      · have hte : ((f k).ty == 1) = true := by simp [hty1]
        have HT1 := Lib.hid hty1
        have HSV : Hid (sv = ⟨#[]⟩) := Lib.hid (by rcases hv with ⟨h1, -⟩ | ⟨-, -, h3⟩ | ⟨-, -, -, h3⟩ | ⟨h1, -⟩ <;> first | exact h3 | omega)
        clear hty1 hv
        obtain ⟨-, x0, x1, x2, x3⟩ := HX2.out
        go_wp2_with fail
        refine (tbool_any b _ _ (by omega) (by omega) HW3.out.tape).mono ?_
        rintro e w4 ⟨r9, rfl, ht4, hs4⟩
        have HW4 := Lib.hid (HW3.out.next hs4 ht4 hlt h8b hp)
        have HX4 := Lib.hid (HX3.out.step hs4 hXb)
        have HV4 := Lib.hid (HV3.out.step hs4 hVb)
        clear hs4 ht4 x0 x1 x2 x3
        cases r9
        · obtain ⟨-, x0, x1, x2, x3⟩ := HX4.out
          obtain ⟨vz, v0, v1, v2, vf⟩ := HV4.out
          go_wp2_with fail
          refine (small_any b _ HW4.out.tape).mono ?_
          rintro e w5 ⟨z, rfl, hz0, hz1, ht5, hs5⟩
          have HW5 := Lib.hid (HW4.out.next hs5 ht5 hlt h8b hp)
          have HX5 := Lib.hid (HX4.out.step hs5 hXb)
          have HV5 := Lib.hid (HV4.out.step hs5 hVb)
          clear x0 x1 x2 x3 vz v0 v1 v2 vf
          clear hs5 ht5
          have HW6 := Lib.hid (HW5.out.set hlt h8b hVw hVp hVo 1 (.int .i64 z))
          have HX6 := Lib.hid (HX5.out.far hXV (o := 1) (.int .i64 z))
          have HV6 := Lib.hid (cell3_set1 HV5.out (.int .i64 z))
          have HVB6 : Hid (validB (f k).ty z sv = true) := Lib.hid (by rw [HT1.out, HSV.out]; exact validB_num z)
          obtain ⟨-, x0, x1, x2, x3⟩ := HX5.out
          obtain ⟨vz, v0, v1, v2, vf⟩ := HV5.out
          cases hnn : (f k).nn
          · have HNN := Lib.hid hnn
            rw [hnn] at x2
            clear hnn
            go_wp2_with fail
            refine (tbool_any b _ _ (by omega) (by omega) HW6.out.tape).mono ?_
            rintro e w7 ⟨r5, rfl, ht7, hs7⟩
            clear x0 x1 x2 x3 vz v0 v1 v2 vf
            have HW7 := Lib.hid (HW6.out.next hs7 ht7 hlt h8b hp)
            have HX7 := Lib.hid (HX6.out.step hs7 hXb)
            have HV7 := Lib.hid (HV6.out.step hs7 hVb)
            clear hs7 ht7
            cases r5
            · obtain ⟨-, x0, x1, x2, x3⟩ := HX7.out
              obtain ⟨vz, v0, v1, v2, vf⟩ := HV7.out
              have HO9 := Lib.hid ((HW7.out.alloc (.cells #[.int .i64 (f k).ty, .int .i64 z, .string sv] 34)).own)
              have HROW9 := Lib.hid (row_one w7 ((f k).ty, z, sv) w7.heap.size (by first | rfl | (simp only [set_size]; done) | go_simp))
              have HZ9 : Hid (w.heap.size + 1 ≤ (w7.alloc (.cells #[.int .i64 (f k).ty, .int .i64 z, .string sv] 34)).heap.size) := Lib.hid (HW7.out.alloc (.cells #[.int .i64 (f k).ty, .int .i64 z, .string sv] 34)).box.lt
              have hone9 : l.length + 1 ≤ 101 := by omega
              go_wp2_with (at_builtin; refine wpList_append_vals rfl (.tmp 39) (.tmp 41) rfl (w.heap.size + 1) _ l.length l rfl HO9.out _ [((f k).ty, z, sv)] 1 rfl HROW9.out (by intro h; cases h) (by simp only [List.length_singleton]; omega) HZ9.out ?_; intro v8 w8 hown8 hgr8; (have HA := Lib.hid (HW7.out.add hlt h8b hpw hown8 hgr8)); clear hown8 hgr8)
              go_roundw
              case rel => exact ⟨k + 1, l ++ [((f k).ty, z, sv)], by omega, by rw [List.length_append, List.length_singleton, HLK.out], by go_num, HFA.out.add (by rw [HLK.out]; exact (by rw [HNN.out]; exact fitsE_ok HVB6.out (by omega))) (by exact hsv), HA.out⟩
              case measure => simp [intOf]; omega
            · obtain ⟨-, x0, x1, x2, x3⟩ := HX7.out
              obtain ⟨vz, v0, v1, v2, vf⟩ := HV7.out
              have HW8 := Lib.hid (((HW7.out.set hlt h8b hVw hVp hVo 0 (.int .i64 0)).set hlt h8b hVw hVp hVo 1 (.int .i64 0)).set hlt h8b hVw hVp hVo 2 (.string ⟨#[]⟩))
              have HO9 := Lib.hid ((HW8.out.alloc (.cells #[.int .i64 0, .int .i64 0, .string ⟨#[]⟩] 34)).own)
              have HROW9 := Lib.hid (row_one (((w7.setCell ⟨w2.heap.size, 0, none⟩ (.int .i64 0)).setCell ⟨w2.heap.size, 1, none⟩ (.int .i64 0)).setCell ⟨w2.heap.size, 2, none⟩ (.string ⟨#[]⟩)) (0, 0, ⟨#[]⟩) w7.heap.size (by first | rfl | (simp only [set_size]; done) | go_simp))
              have HZ9 : Hid (w.heap.size + 1 ≤ ((((w7.setCell ⟨w2.heap.size, 0, none⟩ (.int .i64 0)).setCell ⟨w2.heap.size, 1, none⟩ (.int .i64 0)).setCell ⟨w2.heap.size, 2, none⟩ (.string ⟨#[]⟩)).alloc (.cells #[.int .i64 0, .int .i64 0, .string ⟨#[]⟩] 34)).heap.size) := Lib.hid (HW8.out.alloc (.cells #[.int .i64 0, .int .i64 0, .string ⟨#[]⟩] 34)).box.lt
              have hone9 : l.length + 1 ≤ 101 := by omega
              go_wp2_with (at_builtin; refine wpList_append_vals rfl (.tmp 39) (.tmp 41) rfl (w.heap.size + 1) _ l.length l rfl HO9.out _ [(0, 0, ⟨#[]⟩)] 1 rfl HROW9.out (by intro h; cases h) (by simp only [List.length_singleton]; omega) HZ9.out ?_; intro v8 w8 hown8 hgr8; (have HA := Lib.hid (HW8.out.add hlt h8b hpw hown8 hgr8)); clear hown8 hgr8)
              go_roundw
              case rel => exact ⟨k + 1, l ++ [(0, 0, ⟨#[]⟩)], by omega, by rw [List.length_append, List.length_singleton, HLK.out], by go_num, HFA.out.add (by rw [HLK.out]; exact (by rw [HNN.out]; exact fitsE_free validB_nil)) (by decide), HA.out⟩
              case measure => simp [intOf]; omega
          · have HNN := Lib.hid hnn
            rw [hnn] at x2
            clear hnn
            have HO9 := Lib.hid ((HW6.out.alloc (.cells #[.int .i64 (f k).ty, .int .i64 z, .string sv] 34)).own)
            have HROW9 := Lib.hid (row_one (w5.setCell ⟨w2.heap.size, 1, none⟩ (.int .i64 z)) ((f k).ty, z, sv) w5.heap.size (by first | rfl | (simp only [set_size]; done) | go_simp))
            have HZ9 : Hid (w.heap.size + 1 ≤ ((w5.setCell ⟨w2.heap.size, 1, none⟩ (.int .i64 z)).alloc (.cells #[.int .i64 (f k).ty, .int .i64 z, .string sv] 34)).heap.size) := Lib.hid (HW6.out.alloc (.cells #[.int .i64 (f k).ty, .int .i64 z, .string sv] 34)).box.lt
            have hone9 : l.length + 1 ≤ 101 := by omega
            go_wp2_with (at_builtin; refine wpList_append_vals rfl (.tmp 39) (.tmp 41) rfl (w.heap.size + 1) _ l.length l rfl HO9.out _ [((f k).ty, z, sv)] 1 rfl HROW9.out (by intro h; cases h) (by simp only [List.length_singleton]; omega) HZ9.out ?_; intro v8 w8 hown8 hgr8; (have HA := Lib.hid (HW6.out.add hlt h8b hpw hown8 hgr8)); clear hown8 hgr8)
            go_roundw
            case rel => exact ⟨k + 1, l ++ [((f k).ty, z, sv)], by omega, by rw [List.length_append, List.length_singleton, HLK.out], by go_num, HFA.out.add (by rw [HLK.out]; exact (by rw [HNN.out]; exact fitsE_ok HVB6.out (by omega))) (by exact hsv), HA.out⟩
            case measure => simp [intOf]; omega
        · cases hnn : (f k).nn
          · have HNN := Lib.hid hnn
            obtain ⟨-, x0, x1, x2, x3⟩ := HX4.out
            obtain ⟨vz, v0, v1, v2, vf⟩ := HV4.out
            rw [hnn] at x2
            clear hnn
            go_wp2_with fail
            refine (tbool_any b _ _ (by omega) (by omega) HW4.out.tape).mono ?_
            rintro e w7 ⟨r5, rfl, ht7, hs7⟩
            clear x0 x1 x2 x3 vz v0 v1 v2 vf
            have HW7 := Lib.hid (HW4.out.next hs7 ht7 hlt h8b hp)
            have HX7 := Lib.hid (HX4.out.step hs7 hXb)
            have HV7 := Lib.hid (HV4.out.step hs7 hVb)
            clear hs7 ht7
            cases r5
            · obtain ⟨-, x0, x1, x2, x3⟩ := HX7.out
              obtain ⟨vz, v0, v1, v2, vf⟩ := HV7.out
              have HO9 := Lib.hid ((HW7.out.alloc (.cells #[.int .i64 (f k).ty, .int .i64 nv, .string sv] 34)).own)
              have HROW9 := Lib.hid (row_one w7 ((f k).ty, nv, sv) w7.heap.size (by first | rfl | (simp only [set_size]; done) | go_simp))
              have HZ9 : Hid (w.heap.size + 1 ≤ (w7.alloc (.cells #[.int .i64 (f k).ty, .int .i64 nv, .string sv] 34)).heap.size) := Lib.hid (HW7.out.alloc (.cells #[.int .i64 (f k).ty, .int .i64 nv, .string sv] 34)).box.lt
              have hone9 : l.length + 1 ≤ 101 := by omega
              go_wp2_with (at_builtin; refine wpList_append_vals rfl (.tmp 39) (.tmp 41) rfl (w.heap.size + 1) _ l.length l rfl HO9.out _ [((f k).ty, nv, sv)] 1 rfl HROW9.out (by intro h; cases h) (by simp only [List.length_singleton]; omega) HZ9.out ?_; intro v8 w8 hown8 hgr8; (have HA := Lib.hid (HW7.out.add hlt h8b hpw hown8 hgr8)); clear hown8 hgr8)
              go_roundw
              case rel => exact ⟨k + 1, l ++ [((f k).ty, nv, sv)], by omega, by rw [List.length_append, List.length_singleton, HLK.out], by go_num, HFA.out.add (by rw [HLK.out]; exact (by rw [HNN.out]; exact fitsE_ok (HVB.out) (by omega))) (by exact hsv), HA.out⟩
              case measure => simp [intOf]; omega
            · obtain ⟨-, x0, x1, x2, x3⟩ := HX7.out
              obtain ⟨vz, v0, v1, v2, vf⟩ := HV7.out
              have HW8 := Lib.hid (((HW7.out.set hlt h8b hVw hVp hVo 0 (.int .i64 0)).set hlt h8b hVw hVp hVo 1 (.int .i64 0)).set hlt h8b hVw hVp hVo 2 (.string ⟨#[]⟩))
              have HO9 := Lib.hid ((HW8.out.alloc (.cells #[.int .i64 0, .int .i64 0, .string ⟨#[]⟩] 34)).own)
              have HROW9 := Lib.hid (row_one (((w7.setCell ⟨w2.heap.size, 0, none⟩ (.int .i64 0)).setCell ⟨w2.heap.size, 1, none⟩ (.int .i64 0)).setCell ⟨w2.heap.size, 2, none⟩ (.string ⟨#[]⟩)) (0, 0, ⟨#[]⟩) w7.heap.size (by first | rfl | (simp only [set_size]; done) | go_simp))
              have HZ9 : Hid (w.heap.size + 1 ≤ ((((w7.setCell ⟨w2.heap.size, 0, none⟩ (.int .i64 0)).setCell ⟨w2.heap.size, 1, none⟩ (.int .i64 0)).setCell ⟨w2.heap.size, 2, none⟩ (.string ⟨#[]⟩)).alloc (.cells #[.int .i64 0, .int .i64 0, .string ⟨#[]⟩] 34)).heap.size) := Lib.hid (HW8.out.alloc (.cells #[.int .i64 0, .int .i64 0, .string ⟨#[]⟩] 34)).box.lt
              have hone9 : l.length + 1 ≤ 101 := by omega
              go_wp2_with (at_builtin; refine wpList_append_vals rfl (.tmp 39) (.tmp 41) rfl (w.heap.size + 1) _ l.length l rfl HO9.out _ [(0, 0, ⟨#[]⟩)] 1 rfl HROW9.out (by intro h; cases h) (by simp only [List.length_singleton]; omega) HZ9.out ?_; intro v8 w8 hown8 hgr8; (have HA := Lib.hid (HW8.out.add hlt h8b hpw hown8 hgr8)); clear hown8 hgr8)
              go_roundw
              case rel => exact ⟨k + 1, l ++ [(0, 0, ⟨#[]⟩)], by omega, by rw [List.length_append, List.length_singleton, HLK.out], by go_num, HFA.out.add (by rw [HLK.out]; exact (by rw [HNN.out]; exact fitsE_free validB_nil)) (by decide), HA.out⟩
              case measure => simp [intOf]; omega
          · have HNN := Lib.hid hnn
            obtain ⟨-, x0, x1, x2, x3⟩ := HX4.out
            obtain ⟨vz, v0, v1, v2, vf⟩ := HV4.out
            rw [hnn] at x2
            clear hnn
            have HO9 := Lib.hid ((HW4.out.alloc (.cells #[.int .i64 (f k).ty, .int .i64 nv, .string sv] 34)).own)
            have HROW9 := Lib.hid (row_one w4 ((f k).ty, nv, sv) w4.heap.size (by first | rfl | (simp only [set_size]; done) | go_simp))
            have HZ9 : Hid (w.heap.size + 1 ≤ (w4.alloc (.cells #[.int .i64 (f k).ty, .int .i64 nv, .string sv] 34)).heap.size) := Lib.hid (HW4.out.alloc (.cells #[.int .i64 (f k).ty, .int .i64 nv, .string sv] 34)).box.lt
            have hone9 : l.length + 1 ≤ 101 := by omega
            go_wp2_with (at_builtin; refine wpList_append_vals rfl (.tmp 39) (.tmp 41) rfl (w.heap.size + 1) _ l.length l rfl HO9.out _ [((f k).ty, nv, sv)] 1 rfl HROW9.out (by intro h; cases h) (by simp only [List.length_singleton]; omega) HZ9.out ?_; intro v8 w8 hown8 hgr8; (have HA := Lib.hid (HW4.out.add hlt h8b hpw hown8 hgr8)); clear hown8 hgr8)
            go_roundw
            case rel => exact ⟨k + 1, l ++ [((f k).ty, nv, sv)], by omega, by rw [List.length_append, List.length_singleton, HLK.out], by go_num, HFA.out.add (by rw [HLK.out]; exact (by rw [HNN.out]; exact fitsE_ok (HVB.out) (by omega))) (by exact hsv), HA.out⟩
            case measure => simp [intOf]; omega
      · have hte : ((f k).ty == 1) = false := beq_eq_false_iff_ne.2 hty1
        clear hty1 hv
        cases hnn : (f k).nn
        · have HNN := Lib.hid hnn
          obtain ⟨-, x0, x1, x2, x3⟩ := HX3.out
          obtain ⟨vz, v0, v1, v2, vf⟩ := HV3.out
          rw [hnn] at x2
          clear hnn
          go_wp2_with fail
          refine (tbool_any b _ _ (by omega) (by omega) HW3.out.tape).mono ?_
          rintro e w7 ⟨r5, rfl, ht7, hs7⟩
          clear x0 x1 x2 x3 vz v0 v1 v2 vf
          have HW7 := Lib.hid (HW3.out.next hs7 ht7 hlt h8b hp)
          have HX7 := Lib.hid (HX3.out.step hs7 hXb)
          have HV7 := Lib.hid (HV3.out.step hs7 hVb)
          clear hs7 ht7
          cases r5
          · obtain ⟨-, x0, x1, x2, x3⟩ := HX7.out
            obtain ⟨vz, v0, v1, v2, vf⟩ := HV7.out
            have HO9 := Lib.hid ((HW7.out.alloc (.cells #[.int .i64 (f k).ty, .int .i64 nv, .string sv] 34)).own)
            have HROW9 := Lib.hid (row_one w7 ((f k).ty, nv, sv) w7.heap.size (by first | rfl | (simp only [set_size]; done) | go_simp))
            have HZ9 : Hid (w.heap.size + 1 ≤ (w7.alloc (.cells #[.int .i64 (f k).ty, .int .i64 nv, .string sv] 34)).heap.size) := Lib.hid (HW7.out.alloc (.cells #[.int .i64 (f k).ty, .int .i64 nv, .string sv] 34)).box.lt
            have hone9 : l.length + 1 ≤ 101 := by omega
            go_wp2_with (at_builtin; refine wpList_append_vals rfl (.tmp 39) (.tmp 41) rfl (w.heap.size + 1) _ l.length l rfl HO9.out _ [((f k).ty, nv, sv)] 1 rfl HROW9.out (by intro h; cases h) (by simp only [List.length_singleton]; omega) HZ9.out ?_; intro v8 w8 hown8 hgr8; (have HA := Lib.hid (HW7.out.add hlt h8b hpw hown8 hgr8)); clear hown8 hgr8)
            go_roundw
            case rel => exact ⟨k + 1, l ++ [((f k).ty, nv, sv)], by omega, by rw [List.length_append, List.length_singleton, HLK.out], by go_num, HFA.out.add (by rw [HLK.out]; exact (by rw [HNN.out]; exact fitsE_ok (HVB.out) (by omega))) (by exact hsv), HA.out⟩
            case measure => simp [intOf]; omega
          · obtain ⟨-, x0, x1, x2, x3⟩ := HX7.out
            obtain ⟨vz, v0, v1, v2, vf⟩ := HV7.out
            have HW8 := Lib.hid (((HW7.out.set hlt h8b hVw hVp hVo 0 (.int .i64 0)).set hlt h8b hVw hVp hVo 1 (.int .i64 0)).set hlt h8b hVw hVp hVo 2 (.string ⟨#[]⟩))
            have HO9 := Lib.hid ((HW8.out.alloc (.cells #[.int .i64 0, .int .i64 0, .string ⟨#[]⟩] 34)).own)
            have HROW9 := Lib.hid (row_one (((w7.setCell ⟨w2.heap.size, 0, none⟩ (.int .i64 0)).setCell ⟨w2.heap.size, 1, none⟩ (.int .i64 0)).setCell ⟨w2.heap.size, 2, none⟩ (.string ⟨#[]⟩)) (0, 0, ⟨#[]⟩) w7.heap.size (by first | rfl | (simp only [set_size]; done) | go_simp))
            have HZ9 : Hid (w.heap.size + 1 ≤ ((((w7.setCell ⟨w2.heap.size, 0, none⟩ (.int .i64 0)).setCell ⟨w2.heap.size, 1, none⟩ (.int .i64 0)).setCell ⟨w2.heap.size, 2, none⟩ (.string ⟨#[]⟩)).alloc (.cells #[.int .i64 0, .int .i64 0, .string ⟨#[]⟩] 34)).heap.size) := Lib.hid (HW8.out.alloc (.cells #[.int .i64 0, .int .i64 0, .string ⟨#[]⟩] 34)).box.lt
            have hone9 : l.length + 1 ≤ 101 := by omega
            go_wp2_with (at_builtin; refine wpList_append_vals rfl (.tmp 39) (.tmp 41) rfl (w.heap.size + 1) _ l.length l rfl HO9.out _ [(0, 0, ⟨#[]⟩)] 1 rfl HROW9.out (by intro h; cases h) (by simp only [List.length_singleton]; omega) HZ9.out ?_; intro v8 w8 hown8 hgr8; (have HA := Lib.hid (HW8.out.add hlt h8b hpw hown8 hgr8)); clear hown8 hgr8)
            go_roundw
            case rel => exact ⟨k + 1, l ++ [(0, 0, ⟨#[]⟩)], by omega, by rw [List.length_append, List.length_singleton, HLK.out], by go_num, HFA.out.add (by rw [HLK.out]; exact (by rw [HNN.out]; exact fitsE_free validB_nil)) (by decide), HA.out⟩
            case measure => simp [intOf]; omega
        · have HNN := Lib.hid hnn
          obtain ⟨-, x0, x1, x2, x3⟩ := HX3.out
          obtain ⟨vz, v0, v1, v2, vf⟩ := HV3.out
          rw [hnn] at x2
          clear hnn
          have HO9 := Lib.hid ((HW3.out.alloc (.cells #[.int .i64 (f k).ty, .int .i64 nv, .string sv] 34)).own)
          have HROW9 := Lib.hid (row_one (w2.alloc (.cells #[.int .i64 (f k).ty, .int .i64 nv, .string sv] 34)) ((f k).ty, nv, sv) (w2.heap.size + 1) (by first | rfl | (simp only [set_size]; done) | go_simp))
          have HZ9 : Hid (w.heap.size + 1 ≤ ((w2.alloc (.cells #[.int .i64 (f k).ty, .int .i64 nv, .string sv] 34)).alloc (.cells #[.int .i64 (f k).ty, .int .i64 nv, .string sv] 34)).heap.size) := Lib.hid (HW3.out.alloc (.cells #[.int .i64 (f k).ty, .int .i64 nv, .string sv] 34)).box.lt
          have hone9 : l.length + 1 ≤ 101 := by omega
          go_wp2_with (at_builtin; refine wpList_append_vals rfl (.tmp 39) (.tmp 41) rfl (w.heap.size + 1) _ l.length l rfl HO9.out _ [((f k).ty, nv, sv)] 1 rfl HROW9.out (by intro h; cases h) (by simp only [List.length_singleton]; omega) HZ9.out ?_; intro v8 w8 hown8 hgr8; (have HA := Lib.hid (HW3.out.add hlt h8b hpw hown8 hgr8)); clear hown8 hgr8)
          go_roundw
          case rel => exact ⟨k + 1, l ++ [((f k).ty, nv, sv)], by omega, by rw [List.length_append, List.length_singleton, HLK.out], by go_num, HFA.out.add (by rw [HLK.out]; exact (by rw [HNN.out]; exact fitsE_ok (HVB.out) (by omega))) (by exact hsv), HA.out⟩
          case measure => simp [intOf]; omega
    · have hkn' : decide ((k : Int) < n) = false := decide_eq_false (by omega)
      obtain rfl : k = n := by omega
      clear hw
      go_wp2
      go_ret
      exact ⟨_, l, rfl, HW.out.own, HLK.out, HFA.out, HW.out.tape, HW.out.step⟩
end Go.Proofs.YtgaihglploedaaaDoor
/-
  Names: what the tape's Name gives; the words of the program, one by one.
-/
namespace Go.Proofs.YtgaihglploedaaaDoor
set_option maxRecDepth 100000
open Go.RowKit
variable {ls : List Nat}

def NamePost (b : Nat) (w : World) (e : Ending) (w' : World) : Prop := ∃ i : Nat, e = .returned (.string (nameS i)) ∧ i < 8 ∧ TapeAt w' b ∧ StepT b w w'
set_option maxHeartbeats 400000 in
theorem name_any (b : Nat) (w : World) (hb : 3 ≤ b) (ht : TapeAt w b) (hE : Env ls w) (hm : 0 ∈ ls) :
    Calls Tryd.prog 53 #[.pointer (some ⟨b, 0, none⟩)] w (NamePost b w) := by
  go_enter Tryd.func53, Tryd.ntmps53
  go_wp2_with fail
  refine (next_any b _ _ (by omega) (by omega) ht).mono ?_
  rintro e w' ⟨r, rfl, hr0, hr1, ht1, hs1⟩
  have HS := Lib.hid hs1
  have HT := Lib.hid ht1
  obtain ⟨i, rfl⟩ : ∃ i : Nat, r = i := ⟨r.toNat, by omega⟩
  have hc := (hE.step hs1 hb).names hm i (by omega)
  clear hs1 ht1
  go_wp2
  go_ret
  exact ⟨i, rfl, by omega, HT.out, HS.out⟩
theorem name_all {P : ByteArray → Prop} (h : ∀ i : Fin 8, P (nameS i)) (i : Nat) (hi : i < 8) : P (nameS i) := h ⟨i, hi⟩
end Go.Proofs.YtgaihglploedaaaDoor
