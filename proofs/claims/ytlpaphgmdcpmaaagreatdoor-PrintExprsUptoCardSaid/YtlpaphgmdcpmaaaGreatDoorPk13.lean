/-
  Several texts in one.
-/
import Derived.Test.YtlpaphgmdcpmaaaGreatDoorPk12
import Derived.Test.YtlpaphgmdcpmaaaGreatDoorPk10
import Derived.Test.YtlpaphgmdcpmaaaGreatDoorPk11
import Derived.Deep.AppendLies
/-
  Tables: Valid and New of the reference.
-/
namespace Go.Proofs.YtlpaphgmdcpmaaaGreatDoor
set_option maxRecDepth 100000
open Go.RowKit
variable {ls : List Nat}

end Go.Proofs.YtlpaphgmdcpmaaaGreatDoor
/-
  Tables: New of the reference.
-/
namespace Go.Proofs.YtlpaphgmdcpmaaaGreatDoor
set_option maxRecDepth 100000
open Go.RowKit
variable {ls : List Nat}

/-- What New gives. -/
def TNewPost (nm : ByteArray) (n : Nat) (f : Nat → Col) (w : World) (e : Ending) (w' : World) : Prop := ∃ (T : Tab) (er : Int), e = .returned (.tuple #[T.v, .int .i64 er]) ∧ TabAt w' T ∧ T.R = [] ∧ Below w.heap.size w w' ∧
  ((schemaOK nm n f = true ∧ er = 0 ∧ T.nm = nm ∧ T.n = n ∧ (∀ i, i < n → T.f i = f i) ∧ T.nx = 1) ∨ (schemaOK nm n f = false ∧ er = 17 ∧ T.nm = ⟨#[]⟩ ∧ T.n = 0 ∧ T.nx = 0))
theorem schemaOK_range {nm : ByteArray} {n : Nat} {f : Nat → Col} (h : schemaOK nm n f = true) : 1 ≤ n ∧ n ≤ 6 := by
  unfold schemaOK at h
  simp only [Bool.and_eq_true, decide_eq_true_eq] at h
  exact h.1.2
theorem ColsAt.ptr {w : World} {p : Option Addr} {n : Nat} {f : Nat → Col} (h : ColsAt w p n f) (hn : 0 < n) : ∃ c o, p = some ⟨c, o, none⟩ ∧ c < w.heap.size := by
  obtain ⟨c, o, hp, hc, -⟩ := h 0 hn
  exact ⟨c, o, hp, hc⟩
theorem Cell4.far {u : World} {X Y : Nat} {a b c d : Value} (h : Cell4 u X a b c d) (hn : X ≠ Y) {o : Nat} (v : Value) : Cell4 (u.setCell ⟨Y, o, none⟩ v) X a b c d := by
  have hb : ∀ o', (u.setCell ⟨Y, o, none⟩ v).cell? ⟨X, o', none⟩ = u.cell? ⟨X, o', none⟩ := fun o' => World.cell?_of_block (w := u) (Below.heap_setCell _ _ _ _ hn)
  exact ⟨by simpa [World.setCell] using h.lt, by rw [hb]; exact h.c0, by rw [hb]; exact h.c1, by rw [hb]; exact h.c2, by rw [hb]; exact h.c3, fun o' => by rw [World.frozen?_setCell]; exact h.fz o'⟩
theorem Cell4.set2 {u : World} {X : Nat} {a b c d : Value} (h : Cell4 u X a b c d) (y : Value) : Cell4 (u.setCell ⟨X, 2, none⟩ y) X a b y d := by
  obtain ⟨hl, c0, c1, c2, c3, fz⟩ := h
  refine ⟨by simpa [World.setCell] using hl, ?_, ?_, ?_, ?_, fun o => ?_⟩
  · go_simp
  · go_simp
  · go_simp
  · go_simp
  · rw [World.frozen?_setCell]; exact fz o
theorem Cell4.set3 {u : World} {X : Nat} {a b c d : Value} (h : Cell4 u X a b c d) (y : Value) : Cell4 (u.setCell ⟨X, 3, none⟩ y) X a b c y := by
  obtain ⟨hl, c0, c1, c2, c3, fz⟩ := h
  refine ⟨by simpa [World.setCell] using hl, ?_, ?_, ?_, ?_, fun o => ?_⟩
  · go_simp
  · go_simp
  · go_simp
  · go_simp
  · rw [World.frozen?_setCell]; exact fz o
theorem cell4_put (u : World) {X : Nat} {a b c d : Value} (h : Cell4 u X a b c d) (x y z t : Value) : Cell4 ((((u.setCell ⟨X, 0, none⟩ x).setCell ⟨X, 1, none⟩ y).setCell ⟨X, 2, none⟩ z).setCell ⟨X, 3, none⟩ t) X x y z t := by
  obtain ⟨hl, c0, c1, c2, c3, fz⟩ := h
  refine ⟨by simpa [World.setCell] using hl, ?_, ?_, ?_, ?_, fun o => ?_⟩
  · go_simp
  · go_simp
  · go_simp
  · go_simp
  · rw [World.frozen?_setCell, World.frozen?_setCell, World.frozen?_setCell, World.frozen?_setCell]; exact fz o
def zeroTab : Tab := ⟨⟨#[]⟩, none, 0, 0, fun _ => default, 0, none, 0, []⟩
theorem zeroTab_at (w : World) : TabAt w zeroTab := ⟨by decide, by decide, (fun i hi => absurd hi (Nat.not_lt_zero _)), TRowsAt.nil _ _, by decide, fun r hr => absurd hr (List.not_mem_nil), by decide⟩
end Go.Proofs.YtlpaphgmdcpmaaaGreatDoor
/-
  Appends at a step of a region that draws its order.
-/
namespace Go.Proofs.YtlpaphgmdcpmaaaGreatDoor
set_option maxRecDepth 100000
open Go.RowKit
variable {ls : List Nat}

theorem Cell4.conj {u : World} {X : Nat} {a b c d : Value} (h : Cell4 u X a b c d) : u.cell? ⟨X, 0, none⟩ = some a ∧ u.cell? ⟨X, 1, none⟩ = some b ∧ u.cell? ⟨X, 2, none⟩ = some c ∧ u.cell? ⟨X, 3, none⟩ = some d ∧ X < u.heap.size := ⟨h.c0, h.c1, h.c2, h.c3, h.lt⟩
theorem Cell4.set0 {u : World} {X : Nat} {a b c d : Value} (h : Cell4 u X a b c d) (y : Value) : Cell4 (u.setCell ⟨X, 0, none⟩ y) X y b c d := by
  obtain ⟨hl, c0, c1, c2, c3, fz⟩ := h
  refine ⟨by simpa [World.setCell] using hl, ?_, ?_, ?_, ?_, fun o => ?_⟩
  · go_simp
  · go_simp
  · go_simp
  · go_simp
  · rw [World.frozen?_setCell]; exact fz o
theorem Cell4.set1 {u : World} {X : Nat} {a b c d : Value} (h : Cell4 u X a b c d) (y : Value) : Cell4 (u.setCell ⟨X, 1, none⟩ y) X a y c d := by
  obtain ⟨hl, c0, c1, c2, c3, fz⟩ := h
  refine ⟨by simpa [World.setCell] using hl, ?_, ?_, ?_, ?_, fun o => ?_⟩
  · go_simp
  · go_simp
  · go_simp
  · go_simp
  · rw [World.frozen?_setCell]; exact fz o
theorem InRow.ex {u : World} {base : Nat} {v : Value} {l : List Val} (h : InRow u base (v, l)) : ∃ p c, v = .slice p l.length c := ⟨_, _, (owned_shape h.1).1⟩
theorem keepCT {u v : World} {X : Nat} {x y : Value} (hb : Below u.heap.size u v) (h : u.cell? ⟨X, 0, none⟩ = some x ∧ u.cell? ⟨X, 1, none⟩ = some y ∧ X < u.heap.size) : v.cell? ⟨X, 0, none⟩ = some x ∧ v.cell? ⟨X, 1, none⟩ = some y ∧ X < v.heap.size := by
  obtain ⟨a, b, c⟩ := h
  exact ⟨by rw [hb.cell (by exact c)]; exact a, by rw [hb.cell (by exact c)]; exact b, Nat.lt_of_lt_of_le c hb.size⟩
theorem keepCG {u v : World} {X : Nat} {x y : Value} {row : Option Nat} (hg : u.grownBy v row) (hne : ∀ k, row = some k → k < X) (h : u.cell? ⟨X, 0, none⟩ = some x ∧ u.cell? ⟨X, 1, none⟩ = some y ∧ X < u.heap.size) : v.cell? ⟨X, 0, none⟩ = some x ∧ v.cell? ⟨X, 1, none⟩ = some y ∧ X < v.heap.size := by
  obtain ⟨a, b, c⟩ := h
  have hb := hg.block X c (fun e => by have := hne X e.symm; omega)
  exact ⟨by rw [World.cell?_of_block (w := u) hb]; exact a, by rw [World.cell?_of_block (w := u) hb]; exact b, Nat.lt_of_lt_of_le c hg.size⟩
theorem take_succ_tr {R : List TRow} {k : Nat} (h : k < R.length) : R.take k ++ [tAt R k] = R.take (k + 1) := by
  rw [List.take_add_one, List.getElem?_eq_getElem h, tAt_get h]; rfl
/-- At a step of a region that draws its order. -/
theorem step_of {P : Program} {ops : Array Oper} {o : Oper} {a : Act} {w : World} {K : Act → World → Prop} {Q : Exit → Act → World → Prop} {E : Prop} (hgd : o.guard = none) (h : o.wp P a w K Q) : if Region.wanted o (yielded ops a.tmps) = true then Oper.wp P o a w K Q else E := by
  rw [if_pos (by simp [Region.wanted, hgd])]
  exact h
theorem step_copy_vals {w : World} {ops : Array Oper} {o : Oper} {a : Act} {K : Act → World → Prop} {Q : Exit → Act → World → Prop} {E : Prop} (hgd : o.guard = none) (s x : Operand)
    (ho : o.op = .call { callee := .builtin .append, args := #[s, x], argTypes := #[70, 70] })
    (base : Nat) (hs : a.eval s = .slice none 0 0) (ad : Addr) (lx : List Val) (cx : Nat) (hx : a.eval x = .slice (some ad) lx.length cx) (hrow : RowAt w (some ad) lx) (hsum : lx.length * 32 ≤ 140737488355328) (hbase : base ≤ w.heap.size)
    (h : ∀ v' w', InRow w' base (v', lx) → Below w.heap.size w w' → K (a.put o.dst v') w') : if Region.wanted o (yielded ops a.tmps) = true then Oper.wp Tryz.prog o a w K Q else E := by
  obtain ⟨i0, hi, hz0, hz1, hz2⟩ := info_parts info_val
  refine step_of hgd (wp_append_own w s x 70 ho base 23 i0 _ 3 32 Tryz.underlying70 hi hz0 hz1 hz2 rfl (by decide) (.slice none 0 0) 0 (vcells []) hs ⟨rfl, Or.inl ⟨rfl, rfl⟩⟩ ad lx.length cx (vcells lx) hx (vcells_length lx) (news_of_row hrow ad rfl) (vcells_one lx) (by unfold maxLen; omega) (by omega) hbase ?_)
  intro v' w' h1 h2 _
  rw [Nat.zero_add] at h1
  exact h v' w' ⟨h1, hsum⟩ (grown_below (Below.refl _ _) (Nat.le_refl _) h2 (fun k hk => by cases hk))
theorem step_append_cols {w : World} {ops : Array Oper} {o : Oper} {a : Act} {K : Act → World → Prop} {Q : Exit → Act → World → Prop} {E : Prop} (hgd : o.guard = none) (s x : Operand)
    (ho : o.op = .call { callee := .builtin .append, args := #[s, x], argTypes := #[69, 69] })
    (base : Nat) (v : Value) (l : List Col) (hs : a.eval s = v) (hown : w.ownsRow base 74 4 v l.length (ccells l))
    (ad : Addr) (lx : List Col) (cx : Nat) (hx : a.eval x = .slice (some ad) lx.length cx) (hcol : ColsAt w (some ad) lx.length (cAt lx)) (hsum : (l.length + lx.length) * 32 ≤ 140737488355328) (hbase : base ≤ w.heap.size)
    (h : ∀ v' w', w'.ownsRow base 74 4 v' (l ++ lx).length (ccells (l ++ lx)) → w.grownBy w' v.ownBlock → K (a.put o.dst v') w') : if Region.wanted o (yielded ops a.tmps) = true then Oper.wp Tryz.prog o a w K Q else E := by
  obtain ⟨i0, hi, hz0, hz1, hz2⟩ := info_parts info_col
  refine step_of hgd (wp_append_own w s x 69 ho base 74 i0 _ 4 32 Tryz.underlying69 hi hz0 hz1 hz2 rfl (by decide) v l.length (ccells l) hs hown ad lx.length cx (ccells lx) hx (ccells_length lx) (news_of_cols hcol) (ccells_one lx) (by unfold maxLen; omega) hsum hbase ?_)
  intro v' w' h1 h2 _
  refine h v' w' ?_ h2
  rw [List.length_append, ccells_append]
  exact h1
end Go.Proofs.YtlpaphgmdcpmaaaGreatDoor
/-
  Append of another's slice, nil or not, to a row of the call's own.
-/
namespace Go.Proofs.YtlpaphgmdcpmaaaGreatDoor
set_option maxRecDepth 100000
open Go.RowKit

theorem run_append_nil7 {P : Program} {w : World} (base : Nat) (t ty e : TypeId) (i : TypeInfo) (size : Nat) (ht : P.underlying t = some (.slice e)) (hi : P.info? e = some i)
    (v : Value) (n c : Nat) (xs : List Value) (hown : w.ownsRow base e size v n xs) :
    (Builtin.append_ #[t, t] ty #[v, .slice none 0 c]).run P w = .ok v w := by
  rcases hown.2 with ⟨rfl, rfl⟩ | ⟨g, cap, cur, rfl, _, _, hnc, _⟩
  · simp [Builtin.append_, run_underlying ht, sizeOf, typeInfo, hi, Builtin.lenOf, Builtin.firstCells]
  · simp [Builtin.append_, run_underlying ht, sizeOf, typeInfo, hi, Builtin.lenOf, Builtin.firstCells, hnc, storeCells]
/-- Append of another's slice, nil or not, to a row of the call's own. -/
theorem wpList_append_any {w : World} {ops : Array Oper} {rest : List Oper} {o : Oper} {a : Act} {Q : Exit → Act → World → Prop} (hgd : o.guard = none) (s x : Operand) (t e : TypeId)
    (ho : o.op = .call { callee := .builtin .append, args := #[s, x], argTypes := #[t, t] })
    (base : Nat) (i0 : TypeInfo) (z : Value) (size bytes : Nat) (ht : Tryz.prog.underlying t = some (.slice e)) (hi : Tryz.prog.info? e = some i0) (hz0 : i0.zero = some z) (hz1 : i0.size = size) (hz2 : i0.bytes = bytes) (hzs : z.cells.size = size) (hsz : 0 < size) (v : Value) (n : Nat) (xs : List Value) (hs : a.eval s = v) (hown : w.ownsRow base e size v n xs)
    (px : Option Addr) (m cx : Nat) (ys : List Value) (hx : a.eval x = .slice px m cx) (hl : ys.length = m * size) (hsrc : ∀ ad, px = some ad → ∀ j u, ys[j]? = some u → w.cell? (ad.add j) = some u) (hnil : px = none → ys = []) (h1 : ∀ u ∈ ys, u.oneCell' = true) (h63 : n + m ≤ maxLen) (hsum : (n + m) * bytes ≤ 140737488355328) (hbase : base ≤ w.heap.size)
    (h : ∀ v' w', w'.ownsRow base e size v' (n + m) (xs ++ ys) → w.grownBy w' v.ownBlock → wpList Tryz.prog ops Q rest (a.put o.dst v') w') : wpList Tryz.prog ops Q (o :: rest) a w := by
  cases px with
  | none =>
    obtain rfl := hnil rfl
    obtain rfl : m = 0 := by
      rw [List.length_nil] at hl
      rcases Nat.mul_eq_zero.1 hl.symm with h0 | h0
      · exact h0
      · omega
    refine wpList_plain hgd fun K hK => ?_
    have hrun := run_append_nil7 (P := Tryz.prog) (w := w) base t o.type e i0 size ht hi v n cx xs hown
    unfold Oper.wp
    simp [execOp, ho, resolve, invoke, builtin, hs, hx, hrun, Result.andThen]
    exact hK _ _ (h v w (by simpa using hown) (World.grownBy.refl w _))
  | some ad =>
    refine wpList_append_own w hgd s x t ho base e i0 z size bytes ht hi hz0 hz1 hz2 hzs hsz v n xs hs hown ad m cx ys hx hl (hsrc ad rfl) h1 h63 hsum hbase ?_
    intro v' w' h1 h2 _
    exact h v' w' h1 h2
theorem step_append_any {w : World} {ops : Array Oper} {o : Oper} {a : Act} {K : Act → World → Prop} {Q : Exit → Act → World → Prop} {E : Prop} (hgd : o.guard = none) (s x : Operand) (t e : TypeId)
    (ho : o.op = .call { callee := .builtin .append, args := #[s, x], argTypes := #[t, t] })
    (base : Nat) (i0 : TypeInfo) (z : Value) (size bytes : Nat) (ht : Tryz.prog.underlying t = some (.slice e)) (hi : Tryz.prog.info? e = some i0) (hz0 : i0.zero = some z) (hz1 : i0.size = size) (hz2 : i0.bytes = bytes) (hzs : z.cells.size = size) (hsz : 0 < size) (v : Value) (n : Nat) (xs : List Value) (hs : a.eval s = v) (hown : w.ownsRow base e size v n xs)
    (px : Option Addr) (m cx : Nat) (ys : List Value) (hx : a.eval x = .slice px m cx) (hl : ys.length = m * size) (hsrc : ∀ ad, px = some ad → ∀ j u, ys[j]? = some u → w.cell? (ad.add j) = some u) (hnil : px = none → ys = []) (h1 : ∀ u ∈ ys, u.oneCell' = true) (h63 : n + m ≤ maxLen) (hsum : (n + m) * bytes ≤ 140737488355328) (hbase : base ≤ w.heap.size)
    (h : ∀ v' w', w'.ownsRow base e size v' (n + m) (xs ++ ys) → w.grownBy w' v.ownBlock → K (a.put o.dst v') w') : if Region.wanted o (yielded ops a.tmps) = true then Oper.wp Tryz.prog o a w K Q else E := by
  refine step_of hgd ?_
  cases px with
  | none =>
    obtain rfl := hnil rfl
    obtain rfl : m = 0 := by
      rw [List.length_nil] at hl
      rcases Nat.mul_eq_zero.1 hl.symm with h0 | h0
      · exact h0
      · omega
    have hrun := run_append_nil7 (P := Tryz.prog) (w := w) base t o.type e i0 size ht hi v n cx xs hown
    unfold Oper.wp
    simp [execOp, ho, resolve, invoke, builtin, hs, hx, hrun, Result.andThen]
    exact h v w (by simpa using hown) (World.grownBy.refl w _)
  | some ad =>
    refine wp_append_own w s x t ho base e i0 z size bytes ht hi hz0 hz1 hz2 hzs hsz v n xs hs hown ad m cx ys hx hl (hsrc ad rfl) h1 h63 hsum hbase ?_
    intro v' w' h1 h2 _
    exact h v' w' h1 h2
end Go.Proofs.YtlpaphgmdcpmaaaGreatDoor
