/-
  Several texts in one.
-/
import Derived.Test.YtecghiflbnhceaaDoorPk11
import Derived.Test.YtecghiflbnhceaaDoorPk08
import Derived.OwnWalk
import Derived.Laws.AppendOwn
import Derived.Test.YtecghiflbnhceaaDoorPk07
import Derived.Test.YtecghiflbnhceaaDoorPk10
import Derived.MapKept
import Derived.ChangeKeysEq
import Derived.Carry
/-
  Rows of columns that the call owns: append; stores into them.
-/
namespace Go.Proofs.YtecghiflbnhceaaDoor
set_option maxRecDepth 100000
open Go.RowKit
variable {ls : List Nat}

def cAt (l : List Col) (i : Nat) : Col := l.getD i default
/-- The cells of a list of columns. -/
def ccells : List Col → List Value
  | [] => []
  | x :: l => .string x.nm :: .int .i64 x.ty :: .bool x.nn :: .bool x.key :: ccells l
theorem ccells_length (l : List Col) : (ccells l).length = l.length * 4 := by
  induction l with
  | nil => rfl
  | cons x l ih => simp only [ccells, List.length_cons, ih]; omega
theorem ccells_append (a b : List Col) : ccells (a ++ b) = ccells a ++ ccells b := by
  induction a with
  | nil => rfl
  | cons x a ih => simp only [List.cons_append, ccells, ih]
theorem ccells_at (l : List Col) : ∀ i, i < l.length → (ccells l)[i * 4]? = some (.string (cAt l i).nm) ∧ (ccells l)[i * 4 + 1]? = some (.int .i64 (cAt l i).ty) ∧ (ccells l)[i * 4 + 2]? = some (.bool (cAt l i).nn) ∧ (ccells l)[i * 4 + 3]? = some (.bool (cAt l i).key) := by
  induction l with
  | nil => intro i hi; simp at hi
  | cons x l ih =>
    intro i hi
    cases i with
    | zero => exact ⟨rfl, rfl, rfl, rfl⟩
    | succ i =>
      have h := ih i (by simpa using hi)
      have e : cAt (x :: l) (i + 1) = cAt l i := by simp [cAt]
      rw [e, Nat.succ_mul]
      exact h
theorem ccells_one (l : List Col) : ∀ u ∈ ccells l, u.oneCell' = true := by
  induction l with
  | nil => intro u hu; simp [ccells] at hu
  | cons x l ih =>
    intro u hu
    simp only [ccells, List.mem_cons] at hu
    rcases hu with rfl | rfl | rfl | rfl | hu
    · rfl
    · rfl
    · rfl
    · rfl
    · exact ih u hu
/-- Texts of columns that Go could hold. -/
def Sized (l : List Col) : Prop := ∀ i, i < l.length → (cAt l i).nm.size ≤ 9223372036854775807
theorem cAt_left {a b : List Col} {i : Nat} (h : i < a.length) : cAt (a ++ b) i = cAt a i := by unfold cAt; rw [List.getD, List.getElem?_append_left h]; rfl
theorem cAt_new {a : List Col} {c : Col} : cAt (a ++ [c]) a.length = c := by unfold cAt; rw [List.getD, List.getElem?_append_right (Nat.le_refl _)]; simp
theorem all_add {P : Nat → Col → Prop} {a : List Col} {c : Col} (h : ∀ i, i < a.length → P i (cAt a i)) (hc : P a.length c) : ∀ i, i < (a ++ [c]).length → P i (cAt (a ++ [c]) i) := by
  intro i hi
  rw [List.length_append, List.length_singleton] at hi
  by_cases hin : i < a.length
  · rw [cAt_left hin]; exact h i hin
  · obtain rfl : i = a.length := by omega
    rw [cAt_new]; exact hc
theorem Sized.add {a : List Col} {c : Col} (h : Sized a) (hc : c.nm.size ≤ 9223372036854775807) : Sized (a ++ [c]) := all_add (P := fun _ c => c.nm.size ≤ 9223372036854775807) h hc
/-- Any columns in memory, as a list. -/
theorem cols_list (n : Nat) (f : Nat → Col) : ∃ l : List Col, l.length = n ∧ ∀ i, i < n → cAt l i = f i := by
  refine ⟨(List.range n).map f, by simp, fun i hi => ?_⟩
  unfold cAt
  rw [List.getD, List.getElem?_map, List.getElem?_range hi]
  rfl
theorem ColsAt.congr {w : World} {p : Option Addr} {n : Nat} {f g : Nat → Col} (h : ColsAt w p n f) (he : ∀ i, i < n → g i = f i) : ColsAt w p n g := fun i hi => by rw [he i hi]; exact h i hi

theorem cols_of_owns {w : World} {base n : Nat} {e : TypeId} {v : Value} {l : List Col} (h : w.ownsRow base e 4 v n (ccells l)) (hs : Sized l) :
    ∃ p cap, v = .slice p n cap ∧ n = l.length ∧ ColsAt w p n (cAt l) ∧ ∀ q, p = some q → base ≤ q.block ∧ q.off = 0 ∧ ∀ o, w.frozen? ⟨q.block, o, none⟩ = false := by
  obtain ⟨hl, h⟩ := h
  rw [ccells_length] at hl
  have hn : n = l.length := by omega
  rcases h with ⟨rfl, h0⟩ | ⟨g, cap, cur, rfl, hg, hh, hcap, hm, hcur, htake⟩
  · exact ⟨none, 0, by rw [h0], hn, fun i hi => by omega, fun q hq => by cases hq⟩
  · refine ⟨_, cap, rfl, hn, fun i hi => ⟨g, 0, rfl, (Array.getElem?_eq_some_iff.1 hh).1, hs i (by omega), ?_⟩, fun q hq => ?_⟩
    · have key : ∀ j v, (ccells l)[j]? = some v → w.cell? ⟨g, 0 + j, none⟩ = some v := by
        intro j v hj
        rw [← htake] at hj
        have hj' : cur.toList[j]? = some v := by
          rw [List.getElem?_take] at hj
          split at hj
          · exact hj
          · cases hj
        simp [World.cell?, hh]
        simpa using hj'
      obtain ⟨h0, h1, h2, h3⟩ := ccells_at l i (by omega)
      exact ⟨key _ _ h0, key _ _ h1, key _ _ h2, key _ _ h3⟩
    · cases hq
      exact ⟨hg, rfl, fun o => by simp [World.frozen?, hh]⟩

/-- What an append asks of a source. -/
theorem news_of_cols {w : World} {a : Addr} {l : List Col} (h : ColsAt w (some a) l.length (cAt l)) : ∀ j u, (ccells l)[j]? = some u → w.cell? (a.add j) = some u := by
  intro j u hj
  have hjl : j < l.length * 4 := by
    have := (List.getElem?_eq_some_iff.1 hj).1
    rw [ccells_length] at this; exact this
  have hi : j / 4 < l.length := by omega
  obtain ⟨c, o, hc, -, -, h0, h1, h2, h3⟩ := h (j / 4) hi
  obtain rfl := Option.some.inj hc
  obtain ⟨v0, v1, v2, v3⟩ := ccells_at l (j / 4) hi
  have ha : (⟨c, o, none⟩ : Addr).add j = ⟨c, o + j, none⟩ := by unfold Addr.add; split <;> simp_all
  rw [ha]
  have hr : j % 4 = 0 ∨ j % 4 = 1 ∨ j % 4 = 2 ∨ j % 4 = 3 := by omega
  rcases hr with hr | hr | hr | hr
  · have e : j = j / 4 * 4 := by omega
    rw [e] at hj ⊢
    have e2 : j / 4 * 4 / 4 = j / 4 := by omega
    rw [v0] at hj; obtain rfl := Option.some.inj hj; exact h0
  · have e : j = j / 4 * 4 + 1 := by omega
    rw [e] at hj ⊢
    rw [v1] at hj; obtain rfl := Option.some.inj hj; exact h1
  · have e : j = j / 4 * 4 + 2 := by omega
    rw [e] at hj ⊢
    rw [v2] at hj; obtain rfl := Option.some.inj hj; exact h2
  · have e : j = j / 4 * 4 + 3 := by omega
    rw [e] at hj ⊢
    rw [v3] at hj; obtain rfl := Option.some.inj hj; exact h3

theorem Cell2.grown {u v : World} {X : Nat} {x y : Value} {row : Option Nat} (h : Cell2 u X x y) (hg : u.grownBy v row) (hr : ∀ k, row = some k → X < k) : Cell2 v X x y := by
  have hb : v.heap[X]? = u.heap[X]? := hg.block X h.lt (fun e => by have := hr X e.symm; omega)
  exact ⟨Nat.lt_of_lt_of_le h.lt hg.size, by rw [World.cell?_of_block (w := u) hb]; exact h.c0, by rw [World.cell?_of_block (w := u) hb]; exact h.c1, fun o => by rw [World.frozen?_of_block (w := u) hb]; exact h.fz o⟩
theorem Cell2.step {u v : World} {X b : Nat} {x y : Value} (h : Cell2 u X x y) (hs : StepT b u v) (hn : X ≠ b) : Cell2 v X x y :=
  ⟨Nat.lt_of_lt_of_le h.lt hs.size, by rw [hs.cell (by exact h.lt) (by exact hn)]; exact h.c0, by rw [hs.cell (by exact h.lt) (by exact hn)]; exact h.c1, fun o => by rw [hs.frozen (by exact h.lt) (by exact hn)]; exact h.fz o⟩
theorem Cell4.step {u v : World} {X b : Nat} {x y z q : Value} (h : Cell4 u X x y z q) (hs : StepT b u v) (hn : X ≠ b) : Cell4 v X x y z q :=
  ⟨Nat.lt_of_lt_of_le h.lt hs.size, by rw [hs.cell (by exact h.lt) (by exact hn)]; exact h.c0, by rw [hs.cell (by exact h.lt) (by exact hn)]; exact h.c1, by rw [hs.cell (by exact h.lt) (by exact hn)]; exact h.c2, by rw [hs.cell (by exact h.lt) (by exact hn)]; exact h.c3, fun o => by rw [hs.frozen (by exact h.lt) (by exact hn)]; exact h.fz o⟩
theorem set_size (u : World) (a : Addr) (y : Value) : (u.setCell a y).heap.size = u.heap.size := by simp [World.setCell]
theorem Cell2.far {u : World} {X Z o : Nat} {a b : Value} (h : Cell2 u X a b) (hn : X ≠ Z) (y : Value) : Cell2 (u.setCell ⟨Z, o, none⟩ y) X a b := by
  have hk : (u.setCell ⟨Z, o, none⟩ y).heap[X]? = u.heap[X]? := Below.heap_setCell _ _ _ _ hn
  exact ⟨by simpa [World.setCell] using h.lt, by rw [World.cell?_of_block (w := u) hk]; exact h.c0, by rw [World.cell?_of_block (w := u) hk]; exact h.c1, fun i => by rw [World.frozen?_of_block (w := u) hk]; exact h.fz i⟩
end Go.Proofs.YtecghiflbnhceaaDoor
/-
  Row of the tape: a row that fits a schema.
-/
namespace Go.Proofs.YtecghiflbnhceaaDoor
set_option maxRecDepth 100000
open Go.RowKit
variable {ls : List Nat}

end Go.Proofs.YtecghiflbnhceaaDoor
/-
  Rows with numbers of the call's own: their cells, append.
-/
namespace Go.Proofs.YtecghiflbnhceaaDoor
set_option maxRecDepth 100000
open Go.RowKit
variable {ls : List Nat}

/-- A row of the call's own: its number, its slice, its values. -/
abbrev GRow := Int × Value × List Val
def tcells (G : List GRow) : List Value := G.flatMap fun g => [.int .i64 g.1, g.2.1]
def tabR (G : List GRow) : List TRow := G.map fun g => (g.1, g.2.2)
theorem tcells_length (G : List GRow) : (tcells G).length = G.length * 2 := by
  induction G with
  | nil => rfl
  | cons g G ih => show (_ :: _ :: tcells G).length = _; rw [List.length_cons, List.length_cons, ih, List.length_cons]; omega
theorem tcells_append (G H : List GRow) : tcells (G ++ H) = tcells G ++ tcells H := List.flatMap_append
def grAt (G : List GRow) (i : Nat) : GRow := G.getD i (0, .slice none 0 0, [])
theorem grAt_mem {G : List GRow} {i : Nat} (h : i < G.length) : grAt G i ∈ G := by unfold grAt; rw [List.getD, List.getElem?_eq_getElem h]; exact List.getElem_mem h
theorem tabR_at {G : List GRow} {i : Nat} (h : i < G.length) : tAt (tabR G) i = ((grAt G i).1, (grAt G i).2.2) := by
  unfold tAt tabR grAt
  rw [List.getD, List.getD, List.getElem?_map, List.getElem?_eq_getElem h]
  rfl
theorem tcells_at (G : List GRow) (i : Nat) (h : i < G.length) : (tcells G)[i * 2]? = some (.int .i64 (grAt G i).1) ∧ (tcells G)[i * 2 + 1]? = some (grAt G i).2.1 := by
  induction G generalizing i with
  | nil => simp at h
  | cons g G ih =>
    have e : tcells (g :: G) = .int .i64 g.1 :: g.2.1 :: tcells G := rfl
    rw [e]
    cases i with
    | zero => exact ⟨rfl, rfl⟩
    | succ i =>
      rw [List.length_cons] at h
      have := ih i (by omega)
      rw [show (i + 1) * 2 = i * 2 + 1 + 1 by omega]
      exact this
theorem tabR_length (G : List GRow) : (tabR G).length = G.length := by unfold tabR; rw [List.length_map]
theorem trow_news {w : World} {N : Nat} {id : Int} {y : Value} (h0 : w.cell? ⟨N, 0, none⟩ = some (.int .i64 id)) (h1 : w.cell? ⟨N, 1, none⟩ = some y) : ∀ j u, ([.int .i64 id, y] : List Value)[j]? = some u → w.cell? ((⟨N, 0, none⟩ : Addr).add j) = some u := by
  intro j u hj
  have hlt := (List.getElem?_eq_some_iff.1 hj).1
  have hadd : (⟨N, 0, none⟩ : Addr).add j = ⟨N, j, none⟩ := by unfold Addr.add; split <;> simp_all
  rw [hadd]
  match j, hlt with
  | 0, _ => rw [h0]; exact hj
  | 1, _ => rw [h1]; exact hj
theorem Cell4.grown {u v : World} {X : Nat} {x y z t : Value} {row : Option Nat} (h : Cell4 u X x y z t) (hg : u.grownBy v row) (hr : ∀ k, row = some k → X < k) : Cell4 v X x y z t := by
  have hb := hg.block X h.lt (fun e => by have := hr X e.symm; omega)
  exact ⟨Nat.lt_of_lt_of_le h.lt hg.size, by rw [World.cell?_of_block (w := u) hb]; exact h.c0, by rw [World.cell?_of_block (w := u) hb]; exact h.c1, by rw [World.cell?_of_block (w := u) hb]; exact h.c2, by rw [World.cell?_of_block (w := u) hb]; exact h.c3, fun o => by rw [World.frozen?_of_block (w := u) hb]; exact h.fz o⟩
theorem tabR_append (G H : List GRow) : tabR (G ++ H) = tabR G ++ tabR H := List.map_append
theorem TRowsAt.take {w : World} {p : Option Addr} {R : List TRow} (h : TRowsAt w p R) (m : Nat) : TRowsAt w p (R.take m) := by
  intro i hi
  rw [List.length_take] at hi
  have hi' : i < R.length := by omega
  have e : tAt (R.take m) i = tAt R i := by rw [tAt_get (by rw [List.length_take]; omega), tAt_get hi', List.getElem_take]
  rw [e]
  exact h i hi'
end Go.Proofs.YtecghiflbnhceaaDoor
/-
  A map from values to truths that the call makes: what it holds, by the list of its keys.
-/
namespace Go.Proofs.YtecghiflbnhceaaDoor
set_option maxRecDepth 100000
open Go.RowKit
variable {ls : List Nat}

def valV (v : Val) : Value := .agg #[.int .i64 v.1, .int .i64 v.2.1, .string v.2.2]
theorem same_dec (a b : Val) : sameV a.1 a.2.1 a.2.2 b.1 b.2.1 b.2.2 = decide (a = b) := by
  by_cases h : a = b
  · rw [decide_eq_true h, same_vals.2 h]
  · rw [decide_eq_false h, Bool.eq_false_iff]
    exact fun hc => h (same_vals.1 hc)
theorem check_val (em : Bool) (v : Val) (w : World) : (Instr.checkKey em 10000 26 (valV v)).run Tryd.prog w = .ok () w := by
  unfold valV
  rw [show (10000 : Nat) = 9998 + 1 + 1 from rfl, Instr.checkKey]
  simp only [Sem.run_bind, run_underlying Tryd.underlying26, Result.andThen]
  have c0 : ∀ x : Int, (Instr.checkKey em (9998 + 1) 3 (.int .i64 x)).run Tryd.prog w = .ok () w := fun x => MapKept.run_checkKey Tryd.underlying3 (show MapKept.IsKey (.int .i64) (.int .i64 x) from rfl) em 9998
  have c1 : ∀ x : Int, (Instr.checkKey em (9998 + 1) 2 (.int .i64 x)).run Tryd.prog w = .ok () w := fun x => MapKept.run_checkKey Tryd.underlying2 (show MapKept.IsKey (.int .i64) (.int .i64 x) from rfl) em 9998
  have c2 : ∀ x : ByteArray, (Instr.checkKey em (9998 + 1) 9 (.string x)).run Tryd.prog w = .ok () w := fun x => MapKept.run_checkKey Tryd.underlying9 (show MapKept.IsKey .string (.string x) from trivial) em 9998
  have p0 : (part 3 #[.int .i64 v.1, .int .i64 v.2.1, .string v.2.2] 0).run Tryd.prog w = .ok (.int .i64 v.1) w := run_part_plain w (by kernel_rfl) rfl
  have p1 : (part 2 #[.int .i64 v.1, .int .i64 v.2.1, .string v.2.2] 1).run Tryd.prog w = .ok (.int .i64 v.2.1) w := run_part_plain w (by kernel_rfl) rfl
  have p2 : (part 9 #[.int .i64 v.1, .int .i64 v.2.1, .string v.2.2] 2).run Tryd.prog w = .ok (.string v.2.2) w := run_part_plain w (by kernel_rfl) rfl
  rw [← Array.forIn_toList]
  simp [List.forIn_cons, Sem.run_bind, p0, p1, p2, c0, c1, c2, Result.andThen]
theorem equal_val (a b : Val) (w : World) : (Op.equal 26 (valV a) (valV b)).run Tryd.prog w = .ok (decide (a = b)) w := by
  have h := eql_val a.1 a.2.1 a.2.2 b.1 b.2.1 b.2.2 w
  rw [run_eql_struct, same_dec] at h
  unfold valV Op.equal Op.maxDepth
  generalize (Op.equalIn 10000 26 _ _).run Tryd.prog w = r at h ⊢
  cases r with
  | halt _ _ => simp [Result.andThen] at h
  | ok b' w' =>
    simp only [Result.andThen, Result.ok.injEq, Value.bool.injEq] at h
    rw [h.1, h.2]
/-- A value is looked for among the keys. -/
theorem asking_val (v : Val) (w : World) : ∀ (es : List MapEntry) (S : List Val) (i : Nat), es.map (·.key) = S.map valV → (∀ e ∈ es, e.val = .bool true) →
    (v ∉ S ∧ (Instr.findAsking 26 (valV v) es i).run Tryd.prog w = .ok none w) ∨ (v ∈ S ∧ ∃ j, (Instr.findAsking 26 (valV v) es i).run Tryd.prog w = .ok (some (j, .bool true)) w)
  | [], S, i, hk, hv => by
    have : S = [] := by cases S with
      | nil => rfl
      | cons x S => simp at hk
    subst this
    exact .inl ⟨by simp, by simp [Instr.findAsking]⟩
  | e :: es, S, i, hk, hv => by
    cases S with
    | nil => simp at hk
    | cons x S =>
      rw [List.map_cons, List.map_cons] at hk
      injection hk with hk1 hk2
      have he := equal_val v x w
      rw [← hk1] at he
      by_cases hx : v = x
      · rw [decide_eq_true hx] at he
        refine .inr ⟨by rw [hx]; exact List.mem_cons_self, i, ?_⟩
        have hev := hv e List.mem_cons_self
        simp [Instr.findAsking, he, hev, Result.andThen]
      · rw [decide_eq_false hx] at he
        have hrun : (Instr.findAsking 26 (valV v) (e :: es) i).run Tryd.prog w = (Instr.findAsking 26 (valV v) es (i + 1)).run Tryd.prog w := by simp [Instr.findAsking, he, Result.andThen]
        rcases asking_val v w es S (i + 1) hk2 (fun y hy => hv y (List.mem_cons_of_mem _ hy)) with ⟨h1, h2⟩ | ⟨h1, j, h2⟩
        · exact .inl ⟨by simp [hx, h1], by rw [hrun, h2]⟩
        · exact .inr ⟨List.mem_cons_of_mem _ h1, j, by rw [hrun, h2]⟩
theorem find_val (v : Val) (w : World) (es : List MapEntry) (S : List Val) (hk : es.map (·.key) = S.map valV) (hv : ∀ e ∈ es, e.val = .bool true) :
    (v ∉ S ∧ (Instr.findKey 26 (valV v) es).run Tryd.prog w = .ok none w) ∨ (v ∈ S ∧ ∃ j, (Instr.findKey 26 (valV v) es).run Tryd.prog w = .ok (some (j, .bool true)) w) := by
  cases es with
  | nil =>
    have : S = [] := by cases S with
      | nil => rfl
      | cons x S => simp at hk
    subst this
    exact .inl ⟨by simp, by simp [Instr.findKey, Instr.findNow, run_underlying Tryd.underlying26, Result.andThen]⟩
  | cons e es =>
    have hrun : (Instr.findKey 26 (valV v) (e :: es)).run Tryd.prog w = (Instr.findAsking 26 (valV v) (e :: es) 0).run Tryd.prog w := by
      simp [Instr.findKey, Instr.findNow, Instr.sameNow, run_underlying Tryd.underlying26, Result.andThen]
    rw [hrun]
    exact asking_val v w _ S 0 hk hv

/-- Block b is a map whose keys are S, all with true. -/
def SeenAt (w : World) (b : Nat) (S : List Val) : Prop := ∃ (es : Array MapEntry) (clock : Nat), w.heap[b]? = some (.map es clock) ∧ es.toList.map (·.key) = S.map valV ∧ ∀ e ∈ es.toList, e.val = .bool true
theorem SeenAt.new (w : World) : SeenAt (w.alloc (.map #[] 0)) w.heap.size [] := ⟨#[], 0, by show (w.heap.push _)[w.heap.size]? = _; simp, rfl, fun e he => by simp at he⟩
theorem SeenAt.lt {w : World} {b : Nat} {S : List Val} (h : SeenAt w b S) : b < w.heap.size := by
  obtain ⟨es, clock, hb, -⟩ := h
  exact (Array.getElem?_eq_some_iff.1 hb).1
theorem SeenAt.low {u v : World} {b : Nat} {S : List Val} (h : SeenAt u b S) (hb : Below u.heap.size u v) : SeenAt v b S := by
  obtain ⟨es, clock, h0, h1, h2⟩ := h
  exact ⟨es, clock, by rw [hb.block b (Array.getElem?_eq_some_iff.1 h0).1]; exact h0, h1, h2⟩
def seenB (v : Val) (S : List Val) : Bool := S.any fun x => decide (x = v)
theorem seenB_iff {v : Val} {S : List Val} : seenB v S = true ↔ v ∈ S := by
  unfold seenB
  rw [List.any_eq_true]
  exact ⟨fun ⟨x, h1, h2⟩ => by have := of_decide_eq_true h2; subst this; exact h1, fun h => ⟨v, h, decide_eq_true rfl⟩⟩
theorem seenB_no {v : Val} {S : List Val} (h : v ∉ S) : seenB v S = false := by rw [Bool.eq_false_iff]; exact fun hc => h (seenB_iff.1 hc)
theorem SeenAt.look {w : World} {b : Nat} {S : List Val} (h : SeenAt w b S) (v : Val) (t : TypeId) (ht : Tryd.prog.underlying t = some (.map 26 4)) : (Instr.lookup t (.map (some b)) (valV v) false).run Tryd.prog w = .ok (.bool (seenB v S)) w := by
  obtain ⟨es, clock, hb, hk, hv⟩ := h
  have hz : (zeroValue 4).run Tryd.prog w = .ok (.bool false) w := by go_simp
  rcases find_val v w es.toList S hk hv with ⟨h1, h2⟩ | ⟨h1, j, h2⟩
  · rw [seenB_no h1]
    simp [Instr.lookup, run_underlying ht, MapKept.run_getObj_map hb, check_val, h2, hz, Result.andThen]
  · rw [seenB_iff.2 h1]
    simp [Instr.lookup, run_underlying ht, MapKept.run_getObj_map hb, check_val, h2, Result.andThen]
/-- The world with one block set. -/
theorem SeenAt.put {w : World} {b : Nat} {S : List Val} (h : SeenAt w b S) (v : Val) (hn : v ∉ S) (t : TypeId) (ht : Tryd.prog.underlying t = some (.map 26 4)) :
    ∃ w', (Instr.mapUpdate t (.map (some b)) (valV v) (.bool true)).run Tryd.prog w = .ok () w' ∧ SeenAt w' b (S ++ [v]) ∧ w.grownBy w' (some b) := by
  obtain ⟨es, clock, hb, hk, hv⟩ := h
  rcases find_val v w es.toList S hk hv with ⟨h1, h2⟩ | ⟨h1, -⟩
  · refine ⟨{ w with heap := w.heap.setIfInBounds b (.map (es.push { key := valV v, val := .bool true, born := clock }) (clock + 1)) }, ?_, ?_, ?_⟩
    · simp [Instr.mapUpdate, run_underlying ht, MapKept.run_getObj_map hb, check_val, h2, MapKept.run_setObj_map _ hb, Result.andThen]
    · refine ⟨es.push { key := valV v, val := .bool true, born := clock }, clock + 1, ?_, ?_, ?_⟩
      · have := (Array.getElem?_eq_some_iff.1 hb).1
        simp [this]
      · simp [hk]
      · intro e he
        simp at he
        rcases he with he | rfl
        · exact hv e (by simpa using he)
        · rfl
    · refine ⟨rfl, rfl, rfl, by simp, fun k _ hne => ?_⟩
      have : b ≠ k := fun e => hne (by rw [e])
      simp [this]
  · exact absurd h1 hn
end Go.Proofs.YtecghiflbnhceaaDoor
