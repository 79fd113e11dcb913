/-
  Rows that the call owns, as lists of values; value slices as arguments.
-/
import Derived.Test.YtlgagibmndbimaaDoorRowCmp
import Derived.Test.YtlgagibmndbimaaDoorOpen
import Derived.Test.YtlgagibmndbimaaDoorOwns
import Derived.OwnWalk
import Derived.Laws.AppendOwnNone
namespace Go.Proofs.YtlgagibmndbimaaDoor
open Go.ChangeShapes Go.WideShapes Go.ChangeAt Go.RowKit

/-- The cells of a list of values. -/
def vcells : List Val → List Value
  | [] => []
  | x :: l => .int .i64 x.1 :: .int .i64 x.2.1 :: .string x.2.2 :: vcells l
theorem vcells_length (l : List Val) : (vcells l).length = l.length * 3 := by
  induction l with
  | nil => rfl
  | cons x l ih => simp only [vcells, List.length_cons, ih]; omega
theorem vcells_append (a b : List Val) : vcells (a ++ b) = vcells a ++ vcells b := by
  induction a with
  | nil => rfl
  | cons x a ih => simp only [List.cons_append, vcells, ih]
theorem vcells_at (l : List Val) : ∀ i, i < l.length → (vcells l)[i * 3]? = some (.int .i64 (vAt l i).1) ∧ (vcells l)[i * 3 + 1]? = some (.int .i64 (vAt l i).2.1) ∧ (vcells l)[i * 3 + 2]? = some (.string (vAt l i).2.2) := by
  induction l with
  | nil => intro i hi; simp at hi
  | cons x l ih =>
    intro i hi
    cases i with
    | zero => exact ⟨rfl, rfl, rfl⟩
    | succ i =>
      have h := ih i (by simpa using hi)
      have e : vAt (x :: l) (i + 1) = vAt l i := by simp [vAt]
      rw [e, Nat.succ_mul]
      exact h
theorem vcells_one (l : List Val) : ∀ u ∈ vcells l, u.oneCell' = true := by
  induction l with
  | nil => intro u hu; simp [vcells] at hu
  | cons x l ih =>
    intro u hu
    simp only [vcells, List.mem_cons] at hu
    rcases hu with rfl | rfl | rfl | hu
    · rfl
    · rfl
    · rfl
    · exact ih u hu

theorem row_of_owns {w : World} {base n : Nat} {e : TypeId} {v : Value} {l : List Val} (h : w.ownsRow base e 3 v n (vcells l)) :
    ∃ p cap, v = .slice p n cap ∧ n = l.length ∧ RowAt w p l := by
  obtain ⟨hl, h⟩ := h
  rw [vcells_length] at hl
  have hn : n = l.length := by omega
  rcases h with ⟨rfl, h0⟩ | ⟨g, cap, cur, rfl, hg, hh, hcap, hm, hcur, htake⟩
  · exact ⟨none, 0, by rw [h0], hn, fun i hi => by omega⟩
  · refine ⟨_, cap, rfl, hn, fun i hi => ⟨g, 0, rfl, (Array.getElem?_eq_some_iff.1 hh).1, ?_⟩⟩
    have key : ∀ j v, (vcells l)[j]? = some v → w.cell? ⟨g, 0 + j, none⟩ = some v := by
      intro j v hj
      rw [← htake] at hj
      have hj' : cur.toList[j]? = some v := by
        rw [List.getElem?_take] at hj
        split at hj
        · exact hj
        · cases hj
      simp [World.cell?, hh]
      simpa using hj'
    obtain ⟨h0, h1, h2⟩ := vcells_at l i hi
    exact ⟨key _ _ h0, key _ _ h1, key _ _ h2⟩

theorem info_val : (Tryd.prog.info? 34).map (fun i => (i.zero, i.size, i.bytes)) = some (some (.agg #[.int .i64 0, .int .i64 0, .string ⟨#[]⟩]), 3, 32) := by kernel_rfl

/-- What an append asks of a source. -/
theorem news_of_row {w : World} {p : Option Addr} {l : List Val} (h : RowAt w p l) (a : Addr) (hp : p = some a) : ∀ j u, (vcells l)[j]? = some u → w.cell? (a.add j) = some u := by
  intro j u hj
  have hjl : j < l.length * 3 := by
    have := (List.getElem?_eq_some_iff.1 hj).1
    rw [vcells_length] at this; exact this
  have hi : j / 3 < l.length := by omega
  obtain ⟨c, o, hc, -, h0, h1, h2⟩ := h (j / 3) hi
  rw [hp] at hc
  obtain rfl := Option.some.inj hc
  obtain ⟨v0, v1, v2⟩ := vcells_at l (j / 3) hi
  have ha : (⟨c, o, none⟩ : Addr).add j = ⟨c, o + j, none⟩ := by unfold Addr.add; split <;> simp_all
  rw [ha]
  have hr : j % 3 = 0 ∨ j % 3 = 1 ∨ j % 3 = 2 := by omega
  rcases hr with hr | hr | hr
  · have e : j = j / 3 * 3 := by omega
    rw [e] at hj ⊢
    have e2 : j / 3 * 3 / 3 = j / 3 := by omega
    rw [v0] at hj; obtain rfl := Option.some.inj hj; exact h0
  · have e : j = j / 3 * 3 + 1 := by omega
    rw [e] at hj ⊢
    rw [v1] at hj; obtain rfl := Option.some.inj hj; exact h1
  · have e : j = j / 3 * 3 + 2 := by omega
    rw [e] at hj ⊢
    rw [v2] at hj; obtain rfl := Option.some.inj hj; exact h2

/-- append(v, xs...) of values, v the call's own, xs nil or not. -/
theorem wpList_append_vals {w : World} {ops : Array Oper} {rest : List Oper} {o : Oper} {a : Act} {Q : Exit → Act → World → Prop} (hgd : o.guard = none) (s x : Operand)
    (ho : o.op = .call { callee := .builtin .append, args := #[s, x], argTypes := #[25, 25] })
    (base : Nat) (v : Value) (n : Nat) (l : List Val) (hs : a.eval s = v) (hown : w.ownsRow base 34 3 v n (vcells l))
    (px : Option Addr) (lx : List Val) (cx : Nat) (hx : a.eval x = .slice px lx.length cx) (hrow : RowAt w px lx) (hnil : px = none → lx = [] ∧ cx = 0) (hsum : (n + lx.length) * 32 ≤ 140737488355328) (hbase : base ≤ w.heap.size)
    (h : ∀ v' w', w'.ownsRow base 34 3 v' (n + lx.length) (vcells (l ++ lx)) → w.grownBy w' v.ownBlock → wpList Tryd.prog ops Q rest (a.put o.dst v') w') : wpList Tryd.prog ops Q (o :: rest) a w := by
  obtain ⟨i0, hi, hz0, hz1, hz2⟩ := info_parts info_val
  cases px with
  | none =>
    obtain ⟨rfl, rfl⟩ := hnil rfl
    refine wpList_append_own_none hgd s x 25 ho base 34 i0 3 Tryd.underlying25 hi v n (vcells l) hs hown hx ?_
    exact h v w (by simpa using hown) (World.grownBy.refl w _)
  | some ad =>
    refine wpList_append_own w hgd s x 25 ho base 34 i0 _ 3 32 Tryd.underlying25 hi hz0 hz1 hz2 rfl (by decide) v n (vcells l) hs hown ad lx.length cx (vcells lx) hx (vcells_length lx) (news_of_row hrow ad rfl) (vcells_one lx) (by unfold maxLen; omega) hsum hbase ?_
    intro v' w' h1 h2 _
    exact h v' w' (by rw [vcells_append]; exact h1) h2

theorem owns_empty (w : World) : (w.alloc (.cells #[] 34)).ownsRow w.heap.size 34 3 (.slice (some ⟨w.heap.size, 0, none⟩) 0 0) 0 (vcells []) := by
  refine ⟨rfl, Or.inr ⟨w.heap.size, 0, #[], rfl, Nat.le_refl _, ?_, Nat.le_refl _, by decide, rfl, rfl⟩⟩
  show (w.heap.push _)[w.heap.size]? = _
  simp

theorem grown_below {B : Nat} {w u v : World} {row : Option Nat} (hB : Below B w u) (hz : B ≤ u.heap.size) (hg : u.grownBy v row) (hr : ∀ k, row = some k → B ≤ k) : Below B w v := hB.grown hg hz hr
theorem cmpRow_self (l : List Val) : cmpRow l l = 0 := by
  induction l with
  | nil => rfl
  | cons x l ih =>
    have h : cmpVal x x = 0 := (cmpV_zero _ _ _ _ _ _).2 ⟨rfl, rfl, rfl⟩
    rw [cmpRow, if_pos h]; exact ih

theorem bulk_one {H : Type} (d : DataW H) : 1 ≤ Rows.uptoBulk d := by
  cases d with
  | lit l => cases l <;> simp [Rows.uptoBulk]
  | _ => simp [Rows.uptoBulk]
theorem bulk_length {H : Type} (l : List (DataW H)) : l.length ≤ Rows.uptoBulkAll l := by
  induction l with
  | nil => simp [Rows.uptoBulkAll]
  | cons x r ih => have := bulk_one x; simp only [Rows.uptoBulkAll, List.length_cons]; omega
theorem bulk_slice {H : Type} (n : Nat) (elems spare : List (DataW H)) (h : elems.length = n) : n ≤ Rows.uptoBulk (.slice elems spare) := by
  have := bulk_length elems
  simp only [Rows.uptoBulk]; omega

theorem list_three {l : List Value} (h : l.length = 3) : ∃ a b c, l = [a, b, c] := by
  match l, h with
  | [a, b, c], _ => exact ⟨a, b, c, rfl⟩

theorem exists_list {P : Nat → Val → Prop} {n : Nat} (h : ∀ i, i < n → ∃ x, P i x) : ∃ l : List Val, l.length = n ∧ ∀ i, i < n → P i (vAt l i) := by
  induction n with
  | zero => exact ⟨[], rfl, fun i hi => by omega⟩
  | succ n ih =>
    obtain ⟨l, hl, hp⟩ := ih (fun i hi => h i (by omega))
    obtain ⟨x, hx⟩ := h n (by omega)
    refine ⟨l ++ [x], by simp [hl], fun i hi => ?_⟩
    by_cases hin : i < n
    · have e : vAt (l ++ [x]) i = vAt l i := by unfold vAt; rw [List.getD, List.getElem?_append_left (by omega)]; rfl
      rw [e]; exact hp i hin
    · obtain rfl : i = n := by omega
      have e : vAt (l ++ [x]) i = x := by unfold vAt; rw [List.getD, List.getElem?_append_right (by omega), hl]; simp
      rw [e]; exact hx

section
variable {H : Type} {enc : TypeId × Value → H} {W : World} {v : Value} {d : DataW H} {p : List MemPlace}
set_option maxRecDepth 100000 in
/-- An argument of type []api.Value. -/
theorem open_vals (hv : ∃ b, Value.okWide Tryd.prog W .any b 25 v) (h : DataW.Trod enc Tryd.prog W 0 (fun _ => true) true 25 v d p) :
    ∃ (a : Option Addr) (l : List Val) (cap : Nat), v = .slice a l.length cap ∧ l.length ≤ cap ∧ l.length ≤ 9223372036854775807 ∧ RowAt W a l ∧ (a = none → l = [] ∧ cap = 0) ∧ l.length ≤ Rows.uptoBulk d := by
  obtain ⟨b, hv⟩ := hv
  obtain ⟨a0, len, cap, rfl⟩ := okWide_slice Tryd.underlying25 hv
  obtain ⟨fuel, hf⟩ := h
  have c3 : Tryd.prog.cellsOf 34 = 3 := by kernel_rfl
  rcases Deep.open_slice Tryd.underlying25 hf with ⟨hcs, hx⟩ | ⟨a, len', cap', m, n, D, Pl, hcs, hb, hl, hm, hmm, hx, hi⟩
  · simp only [Value.cells, List.cons.injEq, and_true, Value.slice.injEq] at hcs
    obtain ⟨rfl, rfl, rfl⟩ := hcs
    exact ⟨none, [], 0, rfl, Nat.le_refl _, by decide, fun i hi => by simp at hi, fun _ => ⟨rfl, rfl⟩, Nat.zero_le _⟩
  · simp only [Value.cells, List.cons.injEq, and_true, Value.slice.injEq] at hcs
    obtain ⟨rfl, rfl, rfl⟩ := hcs
    rw [if_pos rfl] at hmm
    have hone : ∀ i, i < len → ∃ x : Val, W.cell? ((a.add (i * 3)).add 0) = some (.int .i64 x.1) ∧ W.cell? ((a.add (i * 3)).add 1) = some (.int .i64 x.2.1) ∧ W.cell? ((a.add (i * 3)).add 2) = some (.string x.2.2) := by
      intro i hi'
      obtain ⟨cs', hc, ht'⟩ := hi i (by omega)
      rw [c3] at hc
      obtain ⟨_, hcl, hat⟩ := World.cells?_some hc
      obtain ⟨xs, m', _, _, _, hxl, hf⟩ := DataW.trod_struct Tryd.underlying34 ht'
      have ci : Tryd.prog.cellsOf 3 = 1 := by kernel_rfl
      have cj : Tryd.prog.cellsOf 2 = 1 := by kernel_rfl
      have ck : Tryd.prog.cellsOf 9 = 1 := by kernel_rfl
      obtain ⟨u0, u1, u2, rfl⟩ := list_three hcl
      · have h0 : DataW.trod enc Tryd.prog W 0 (fun _ => true) true m' 3 (([u0, u1, u2].drop 0).take (Tryd.prog.cellsOf 3)) = xs[0]? := hf 0 _ rfl
        have h1 : DataW.trod enc Tryd.prog W 0 (fun _ => true) true m' 2 (([u0, u1, u2].drop 1).take (Tryd.prog.cellsOf 2)) = xs[1]? := hf 1 _ rfl
        have h2 : DataW.trod enc Tryd.prog W 0 (fun _ => true) true m' 9 (([u0, u1, u2].drop 2).take (Tryd.prog.cellsOf 9)) = xs[2]? := hf 2 _ rfl
        rw [ci] at h0
        rw [cj] at h1
        rw [ck] at h2
        simp only [List.drop_zero, List.drop_succ_cons, List.take_succ_cons, List.take_zero] at h0 h1 h2
        have hl3 : xs.length = 3 := hxl
        rw [List.getElem?_eq_getElem (by omega)] at h0 h1 h2
        obtain ⟨k, e0, -, -⟩ := DataW.trod_int Tryd.underlying3 h0
        obtain ⟨n, e1, -, -⟩ := DataW.trod_int Tryd.underlying2 h1
        obtain ⟨t, e2, -, -⟩ := DataW.trod_string Tryd.underlying9 h2
        simp only [List.cons.injEq, and_true] at e0 e1 e2
        subst e0 e1 e2
        exact ⟨(k, n, t), by rw [hat 0 (by omega)]; rfl, by rw [hat 1 (by omega)]; rfl, by rw [hat 2 (by omega)]; rfl⟩
    obtain ⟨l, hll, hl'⟩ := exists_list hone
    subst hll
    obtain ⟨c, o, sp⟩ := a
    have hbulk : l.length ≤ Rows.uptoBulk d := by
      rw [(Prod.mk.inj hx).1]
      exact bulk_slice _ _ _ (by simp)
    refine ⟨some ⟨c, o, sp⟩, l, cap, rfl, hl, by unfold maxLen at hm; omega, fun i hi' => ?_, (fun h => by cases h), hbulk⟩
    have hsp : sp = none := by
      obtain ⟨h0, -, -⟩ := hl' 0 (by omega)
      simpa [Addr.add] using World.cell?_spot h0
    subst hsp
    have ha : ∀ x y, ((⟨c, o, none⟩ : Addr).add x).add y = ⟨c, o + x + y, none⟩ := by
      intro x y
      unfold Addr.add
      split <;> split <;> simp_all
    obtain ⟨h0, h1, h2⟩ := hl' i hi'
    rw [ha] at h0 h1 h2
    exact ⟨c, o, rfl, World.block_lt_of_cell? W _ h0, h0, h1, h2⟩
end
end Go.Proofs.YtlgagibmndbimaaDoor
