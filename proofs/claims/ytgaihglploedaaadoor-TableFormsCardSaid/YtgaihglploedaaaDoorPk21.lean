/-
  Several texts in one.
-/
import Derived.Test.YtgaihglploedaaaDoorPk17
import Derived.Test.YtgaihglploedaaaDoorPk14
import Derived.Test.YtgaihglploedaaaDoorPk19
import Derived.Deep.AppendLies
import Derived.Deep.RegionLaw
/-
  Rows with numbers of the call's own: their cells, append.
-/
namespace Go.Proofs.YtgaihglploedaaaDoor
set_option maxRecDepth 100000
open Go.RowKit
variable {ls : List Nat}

/-- A row of the call's own: its number, its slice, its values. -/
abbrev GRow := Int × Value × List Val
def tcells (G : List GRow) : List Value := G.flatMap fun g => [.int .i64 g.1, g.2.1]
def tabR (G : List GRow) : List TRow := G.map fun g => (g.1, g.2.2)
theorem tcells_length (G : List GRow) : (tcells G).length = G.length * 2 := by
  induction G with
  | nil => rfl
  | cons g G ih => show (_ :: _ :: tcells G).length = _; rw [List.length_cons, List.length_cons, ih, List.length_cons]; omega
theorem tcells_append (G H : List GRow) : tcells (G ++ H) = tcells G ++ tcells H := List.flatMap_append
def grAt (G : List GRow) (i : Nat) : GRow := G.getD i (0, .slice none 0 0, [])
theorem grAt_mem {G : List GRow} {i : Nat} (h : i < G.length) : grAt G i ∈ G := by unfold grAt; rw [List.getD, List.getElem?_eq_getElem h]; exact List.getElem_mem h
theorem tabR_at {G : List GRow} {i : Nat} (h : i < G.length) : tAt (tabR G) i = ((grAt G i).1, (grAt G i).2.2) := by
  unfold tAt tabR grAt
  rw [List.getD, List.getD, List.getElem?_map, List.getElem?_eq_getElem h]
  rfl
theorem tcells_at (G : List GRow) (i : Nat) (h : i < G.length) : (tcells G)[i * 2]? = some (.int .i64 (grAt G i).1) ∧ (tcells G)[i * 2 + 1]? = some (grAt G i).2.1 := by
  induction G generalizing i with
  | nil => simp at h
  | cons g G ih =>
    have e : tcells (g :: G) = .int .i64 g.1 :: g.2.1 :: tcells G := rfl
    rw [e]
    cases i with
    | zero => exact ⟨rfl, rfl⟩
    | succ i =>
      rw [List.length_cons] at h
      have := ih i (by omega)
      rw [show (i + 1) * 2 = i * 2 + 1 + 1 by omega]
      exact this
theorem info_trow : (Tryd.prog.info? 68).map (fun i => (i.zero, i.size, i.bytes)) = some (some (.agg #[.int .i64 0, .slice none 0 0]), 2, 32) := by kernel_rfl

/-- Rows of the call's own. -/
structure TOwn (u : World) (base : Nat) (vr : Value) (G : List GRow) : Prop where
  own : u.ownsRow base 68 2 vr G.length (tcells G)
  inn : ∀ g ∈ G, InRow u base (g.2.1, g.2.2)
theorem TOwn.nil (u : World) (base : Nat) : TOwn u base (.slice none 0 0) [] := ⟨⟨rfl, Or.inl ⟨rfl, rfl⟩⟩, fun g hg => by cases hg⟩
theorem TOwn.low {u v : World} {base : Nat} {vr : Value} {G : List GRow} (h : TOwn u base vr G) (hb : Below u.heap.size u v) : TOwn v base vr G := ⟨owns_below h.own hb, fun g hg => (h.inn g hg).low hb⟩
theorem TOwn.base {u : World} {b b' : Nat} {vr : Value} {G : List GRow} (h : TOwn u b vr G) (hb : b' ≤ b) : TOwn u b' vr G := ⟨owns_base h.own hb, fun g hg => (h.inn g hg).base hb⟩
theorem TOwn.keep {u v : World} {base : Nat} {vr : Value} {G : List GRow} (h : TOwn u base vr G) (hk : ∀ k, base ≤ k → k < u.heap.size → v.heap[k]? = u.heap[k]?) : TOwn v base vr G :=
  ⟨owns_keep h.own fun k hk' => hk k (owns_block h.own k hk') (owns_lt h.own k hk'), fun g hg => ⟨owns_keep (h.inn g hg).1 fun k hk' => hk k (owns_block (h.inn g hg).1 k hk') (owns_lt (h.inn g hg).1 k hk'), (h.inn g hg).2⟩⟩
theorem TOwn.step {u v : World} {b base : Nat} {vr : Value} {G : List GRow} (h : TOwn u base vr G) (hb : b < base) (hs : StepT b u v) : TOwn v base vr G := h.keep fun k h1 h2 => hs.block k h2 (by omega)
theorem TOwn.set {u : World} {base V o : Nat} {vr : Value} {G : List GRow} (h : TOwn u base vr G) (hV : V < base) (y : Value) : TOwn (u.setCell ⟨V, o, none⟩ y) base vr G := h.keep fun k h1 _ => Below.heap_setCell _ _ _ _ (by show k ≠ V; omega)
theorem TOwn.shape {u : World} {base : Nat} {vr : Value} {G : List GRow} (h : TOwn u base vr G) : vr = .slice (rowP vr) G.length (rowC vr) := by
  rcases h.own.2 with ⟨rfl, h0⟩ | ⟨g, cap', cur, rfl, -⟩
  · rw [h0]; rfl
  · rfl
theorem TOwn.rows {u : World} {base : Nat} {vr : Value} {G : List GRow} (h : TOwn u base vr G) : TRowsAt u (rowP vr) (tabR G) := by
  intro i hi
  have hi' : i < G.length := by unfold tabR at hi; rw [List.length_map] at hi; exact hi
  rw [tabR_at hi']
  obtain ⟨hv, hr, hn⟩ := owned_shape (h.inn _ (grAt_mem hi')).1
  have hl := (h.inn _ (grAt_mem hi')).2
  rcases h.own.2 with ⟨-, h0⟩ | ⟨g, cap', cur, rfl, hg, hh, hcap, hm, hcur, htake⟩
  · omega
  · have hget : ∀ j, j < G.length * 2 → cur[j]? = (tcells G)[j]? := fun j hj => by
      rw [← htake, List.getElem?_take, if_pos hj]; simp
    obtain ⟨c0, c1⟩ := tcells_at G i hi'
    refine ⟨g, 0, _, _, rfl, (Array.getElem?_eq_some_iff.1 hh).1, ?_, ?_, hr, hl, hn⟩
    · rw [Nat.zero_add]
      simp only [World.cell?, hh]
      rw [if_neg (by simp), hget _ (by omega), c0]
    · rw [Nat.zero_add]
      simp only [World.cell?, hh]
      rw [if_neg (by simp), hget _ (by omega), c1, ← hv]
theorem tabR_length (G : List GRow) : (tabR G).length = G.length := by unfold tabR; rw [List.length_map]
theorem trow_news {w : World} {N : Nat} {id : Int} {y : Value} (h0 : w.cell? ⟨N, 0, none⟩ = some (.int .i64 id)) (h1 : w.cell? ⟨N, 1, none⟩ = some y) : ∀ j u, ([.int .i64 id, y] : List Value)[j]? = some u → w.cell? ((⟨N, 0, none⟩ : Addr).add j) = some u := by
  intro j u hj
  have hlt := (List.getElem?_eq_some_iff.1 hj).1
  have hadd : (⟨N, 0, none⟩ : Addr).add j = ⟨N, j, none⟩ := by unfold Addr.add; split <;> simp_all
  rw [hadd]
  match j, hlt with
  | 0, _ => rw [h0]; exact hj
  | 1, _ => rw [h1]; exact hj
theorem wpList_append_trow {w : World} {ops : Array Oper} {rest : List Oper} {o : Oper} {a : Act} {Q : Exit → Act → World → Prop} (hgd : o.guard = none) (s x : Operand)
    (ho : o.op = .call { callee := .builtin .append, args := #[s, x], argTypes := #[49, 49] })
    (base : Nat) (v : Value) (G : List GRow) (hs : a.eval s = v) (hown : w.ownsRow base 68 2 v G.length (tcells G))
    (N : Nat) (id : Int) (y : Value) (l : List Val) (hx : a.eval x = .slice (some ⟨N, 0, none⟩) 1 1) (h0 : w.cell? ⟨N, 0, none⟩ = some (.int .i64 id)) (h1 : w.cell? ⟨N, 1, none⟩ = some y) (hy : y.oneCell' = true) (hsum : (G.length + 1) * 32 ≤ 140737488355328) (hbase : base ≤ w.heap.size)
    (h : ∀ v' w', w'.ownsRow base 68 2 v' (G ++ [(id, y, l)]).length (tcells (G ++ [(id, y, l)])) → w.grownBy w' v.ownBlock → wpList Tryd.prog ops Q rest (a.put o.dst v') w') : wpList Tryd.prog ops Q (o :: rest) a w := by
  obtain ⟨i0, hi, hz0, hz1, hz2⟩ := info_parts info_trow
  refine wpList_append_own w hgd s x 49 ho base 68 i0 _ 2 32 Tryd.underlying49 hi hz0 hz1 hz2 rfl (by decide) v G.length (tcells G) hs hown ⟨N, 0, none⟩ 1 1 [.int .i64 id, y] hx rfl (trow_news h0 h1) (fun u hu => by
    rcases List.mem_cons.1 hu with rfl | hu
    · rfl
    · obtain rfl := List.mem_singleton.1 hu
      exact hy) (by unfold maxLen; omega) hsum hbase ?_
  intro v' w' h1 h2 _
  refine h v' w' ?_ h2
  rw [List.length_append, List.length_singleton, tcells_append]
  exact h1
theorem InRow.apartT {u v : World} {base base' n : Nat} {vo : Value} {xs : List Value} {x : Value × List Val} (h : InRow u base x) (ho : u.ownsRow base' 68 2 vo n xs) (hb : ∀ k, k < u.heap.size → vo.ownBlock ≠ some k → v.heap[k]? = u.heap[k]?) : InRow v base x :=
  ⟨owns_keep h.1 fun k hk => hb k (owns_lt h.1 k hk) (owns_apart h.1 ho (by decide) k hk), h.2⟩
theorem TOwn.push {u w8 : World} {base : Nat} {vr v8 : Value} {G : List GRow} {g : GRow} {o : Obj} (h : TOwn u base vr G) (hz : InRow u base (g.2.1, g.2.2))
    (ho : w8.ownsRow base 68 2 v8 (G ++ [g]).length (tcells (G ++ [g]))) (hg : (u.alloc o).grownBy w8 vr.ownBlock) : TOwn w8 base v8 (G ++ [g]) := by
  have h7 := h.low (below_alloc u o)
  have hz7 := hz.low (below_alloc u o)
  have hin : ∀ q, InRow (u.alloc o) base q → InRow w8 base q := fun q hq => hq.apartT h7.own fun k hk hne => hg.block k hk (fun e => hne e.symm)
  refine ⟨ho, fun q hq => ?_⟩
  rcases List.mem_append.1 hq with hq | hq
  · exact hin _ (h7.inn q hq)
  · obtain rfl := List.mem_singleton.1 hq
    exact hin _ hz7
theorem Cell4.grown {u v : World} {X : Nat} {x y z t : Value} {row : Option Nat} (h : Cell4 u X x y z t) (hg : u.grownBy v row) (hr : ∀ k, row = some k → X < k) : Cell4 v X x y z t := by
  have hb := hg.block X h.lt (fun e => by have := hr X e.symm; omega)
  exact ⟨Nat.lt_of_lt_of_le h.lt hg.size, by rw [World.cell?_of_block (w := u) hb]; exact h.c0, by rw [World.cell?_of_block (w := u) hb]; exact h.c1, by rw [World.cell?_of_block (w := u) hb]; exact h.c2, by rw [World.cell?_of_block (w := u) hb]; exact h.c3, fun o => by rw [World.frozen?_of_block (w := u) hb]; exact h.fz o⟩
theorem TOwn.ex {u : World} {base : Nat} {vr : Value} {G : List GRow} (h : TOwn u base vr G) : ∃ p c, vr = .slice p G.length c := ⟨_, _, h.shape⟩
theorem tabR_append (G H : List GRow) : tabR (G ++ H) = tabR G ++ tabR H := List.map_append
theorem TRowsAt.take {w : World} {p : Option Addr} {R : List TRow} (h : TRowsAt w p R) (m : Nat) : TRowsAt w p (R.take m) := by
  intro i hi
  rw [List.length_take] at hi
  have hi' : i < R.length := by omega
  have e : tAt (R.take m) i = tAt R i := by rw [tAt_get (by rw [List.length_take]; omega), tAt_get hi', List.getElem_take]
  rw [e]
  exact h i hi'
end Go.Proofs.YtgaihglploedaaaDoor
/-
  Appends at a step of a region that draws its order.
-/
namespace Go.Proofs.YtgaihglploedaaaDoor
set_option maxRecDepth 100000
open Go.RowKit
variable {ls : List Nat}

theorem Cell4.conj {u : World} {X : Nat} {a b c d : Value} (h : Cell4 u X a b c d) : u.cell? ⟨X, 0, none⟩ = some a ∧ u.cell? ⟨X, 1, none⟩ = some b ∧ u.cell? ⟨X, 2, none⟩ = some c ∧ u.cell? ⟨X, 3, none⟩ = some d ∧ X < u.heap.size := ⟨h.c0, h.c1, h.c2, h.c3, h.lt⟩
theorem Cell4.set0 {u : World} {X : Nat} {a b c d : Value} (h : Cell4 u X a b c d) (y : Value) : Cell4 (u.setCell ⟨X, 0, none⟩ y) X y b c d := by
  obtain ⟨hl, c0, c1, c2, c3, fz⟩ := h
  refine ⟨by simpa [World.setCell] using hl, ?_, ?_, ?_, ?_, fun o => ?_⟩
  · go_simp
  · go_simp
  · go_simp
  · go_simp
  · rw [World.frozen?_setCell]; exact fz o
theorem Cell4.set1 {u : World} {X : Nat} {a b c d : Value} (h : Cell4 u X a b c d) (y : Value) : Cell4 (u.setCell ⟨X, 1, none⟩ y) X a y c d := by
  obtain ⟨hl, c0, c1, c2, c3, fz⟩ := h
  refine ⟨by simpa [World.setCell] using hl, ?_, ?_, ?_, ?_, fun o => ?_⟩
  · go_simp
  · go_simp
  · go_simp
  · go_simp
  · rw [World.frozen?_setCell]; exact fz o
theorem InRow.ex {u : World} {base : Nat} {v : Value} {l : List Val} (h : InRow u base (v, l)) : ∃ p c, v = .slice p l.length c := ⟨_, _, (owned_shape h.1).1⟩
theorem keepCT {u v : World} {X : Nat} {x y : Value} (hb : Below u.heap.size u v) (h : u.cell? ⟨X, 0, none⟩ = some x ∧ u.cell? ⟨X, 1, none⟩ = some y ∧ X < u.heap.size) : v.cell? ⟨X, 0, none⟩ = some x ∧ v.cell? ⟨X, 1, none⟩ = some y ∧ X < v.heap.size := by
  obtain ⟨a, b, c⟩ := h
  exact ⟨by rw [hb.cell (by exact c)]; exact a, by rw [hb.cell (by exact c)]; exact b, Nat.lt_of_lt_of_le c hb.size⟩
theorem keepCG {u v : World} {X : Nat} {x y : Value} {row : Option Nat} (hg : u.grownBy v row) (hne : ∀ k, row = some k → k < X) (h : u.cell? ⟨X, 0, none⟩ = some x ∧ u.cell? ⟨X, 1, none⟩ = some y ∧ X < u.heap.size) : v.cell? ⟨X, 0, none⟩ = some x ∧ v.cell? ⟨X, 1, none⟩ = some y ∧ X < v.heap.size := by
  obtain ⟨a, b, c⟩ := h
  have hb := hg.block X c (fun e => by have := hne X e.symm; omega)
  exact ⟨by rw [World.cell?_of_block (w := u) hb]; exact a, by rw [World.cell?_of_block (w := u) hb]; exact b, Nat.lt_of_lt_of_le c hg.size⟩
theorem take_succ_tr {R : List TRow} {k : Nat} (h : k < R.length) : R.take k ++ [tAt R k] = R.take (k + 1) := by
  rw [List.take_add_one, List.getElem?_eq_getElem h, tAt_get h]; rfl
/-- At a step of a region that draws its order. -/
theorem step_of {P : Program} {ops : Array Oper} {o : Oper} {a : Act} {w : World} {K : Act → World → Prop} {Q : Exit → Act → World → Prop} {E : Prop} (hgd : o.guard = none) (h : o.wp P a w K Q) : if Region.wanted o (yielded ops a.tmps) = true then Oper.wp P o a w K Q else E := by
  rw [if_pos (by simp [Region.wanted, hgd])]
  exact h
theorem step_copy_vals {w : World} {ops : Array Oper} {o : Oper} {a : Act} {K : Act → World → Prop} {Q : Exit → Act → World → Prop} {E : Prop} (hgd : o.guard = none) (s x : Operand)
    (ho : o.op = .call { callee := .builtin .append, args := #[s, x], argTypes := #[25, 25] })
    (base : Nat) (hs : a.eval s = .slice none 0 0) (ad : Addr) (lx : List Val) (cx : Nat) (hx : a.eval x = .slice (some ad) lx.length cx) (hrow : RowAt w (some ad) lx) (hsum : lx.length * 32 ≤ 140737488355328) (hbase : base ≤ w.heap.size)
    (h : ∀ v' w', InRow w' base (v', lx) → Below w.heap.size w w' → K (a.put o.dst v') w') : if Region.wanted o (yielded ops a.tmps) = true then Oper.wp Tryd.prog o a w K Q else E := by
  obtain ⟨i0, hi, hz0, hz1, hz2⟩ := info_parts info_val
  refine step_of hgd (wp_append_own w s x 25 ho base 34 i0 _ 3 32 Tryd.underlying25 hi hz0 hz1 hz2 rfl (by decide) (.slice none 0 0) 0 (vcells []) hs ⟨rfl, Or.inl ⟨rfl, rfl⟩⟩ ad lx.length cx (vcells lx) hx (vcells_length lx) (news_of_row hrow ad rfl) (vcells_one lx) (by unfold maxLen; omega) (by omega) hbase ?_)
  intro v' w' h1 h2 _
  rw [Nat.zero_add] at h1
  exact h v' w' ⟨h1, hsum⟩ (grown_below (Below.refl _ _) (Nat.le_refl _) h2 (fun k hk => by cases hk))
theorem step_append_trow {w : World} {ops : Array Oper} {o : Oper} {a : Act} {K : Act → World → Prop} {Q : Exit → Act → World → Prop} {E : Prop} (hgd : o.guard = none) (s x : Operand)
    (ho : o.op = .call { callee := .builtin .append, args := #[s, x], argTypes := #[49, 49] })
    (base : Nat) (v : Value) (G : List GRow) (hs : a.eval s = v) (hown : w.ownsRow base 68 2 v G.length (tcells G))
    (N : Nat) (id : Int) (y : Value) (l : List Val) (hx : a.eval x = .slice (some ⟨N, 0, none⟩) 1 1) (h0 : w.cell? ⟨N, 0, none⟩ = some (.int .i64 id)) (h1 : w.cell? ⟨N, 1, none⟩ = some y) (hy : y.oneCell' = true) (hsum : (G.length + 1) * 32 ≤ 140737488355328) (hbase : base ≤ w.heap.size)
    (h : ∀ v' w', w'.ownsRow base 68 2 v' (G ++ [(id, y, l)]).length (tcells (G ++ [(id, y, l)])) → w.grownBy w' v.ownBlock → K (a.put o.dst v') w') : if Region.wanted o (yielded ops a.tmps) = true then Oper.wp Tryd.prog o a w K Q else E := by
  obtain ⟨i0, hi, hz0, hz1, hz2⟩ := info_parts info_trow
  refine step_of hgd (wp_append_own w s x 49 ho base 68 i0 _ 2 32 Tryd.underlying49 hi hz0 hz1 hz2 rfl (by decide) v G.length (tcells G) hs hown ⟨N, 0, none⟩ 1 1 [.int .i64 id, y] hx rfl (trow_news h0 h1) (fun u hu => by
    rcases List.mem_cons.1 hu with rfl | hu
    · rfl
    · obtain rfl := List.mem_singleton.1 hu
      exact hy) (by unfold maxLen; omega) hsum hbase ?_)
  intro v' w' h1 h2 _
  refine h v' w' ?_ h2
  rw [List.length_append, List.length_singleton, tcells_append]
  exact h1
theorem step_append_cols {w : World} {ops : Array Oper} {o : Oper} {a : Act} {K : Act → World → Prop} {Q : Exit → Act → World → Prop} {E : Prop} (hgd : o.guard = none) (s x : Operand)
    (ho : o.op = .call { callee := .builtin .append, args := #[s, x], argTypes := #[22, 22] })
    (base : Nat) (v : Value) (l : List Col) (hs : a.eval s = v) (hown : w.ownsRow base 75 4 v l.length (ccells l))
    (ad : Addr) (lx : List Col) (cx : Nat) (hx : a.eval x = .slice (some ad) lx.length cx) (hcol : ColsAt w (some ad) lx.length (cAt lx)) (hsum : (l.length + lx.length) * 32 ≤ 140737488355328) (hbase : base ≤ w.heap.size)
    (h : ∀ v' w', w'.ownsRow base 75 4 v' (l ++ lx).length (ccells (l ++ lx)) → w.grownBy w' v.ownBlock → K (a.put o.dst v') w') : if Region.wanted o (yielded ops a.tmps) = true then Oper.wp Tryd.prog o a w K Q else E := by
  obtain ⟨i0, hi, hz0, hz1, hz2⟩ := info_parts info_col
  refine step_of hgd (wp_append_own w s x 22 ho base 75 i0 _ 4 32 Tryd.underlying22 hi hz0 hz1 hz2 rfl (by decide) v l.length (ccells l) hs hown ad lx.length cx (ccells lx) hx (ccells_length lx) (news_of_cols hcol) (ccells_one lx) (by unfold maxLen; omega) hsum hbase ?_)
  intro v' w' h1 h2 _
  refine h v' w' ?_ h2
  rw [List.length_append, ccells_append]
  exact h1
end Go.Proofs.YtgaihglploedaaaDoor
/-
  Package clone: copies of rows.
-/
namespace Go.Proofs.YtgaihglploedaaaDoor
set_option maxRecDepth 100000
open Go.RowKit
variable {ls : List Nat}

theorem InRow.keep2 {u v : World} {base : Nat} {x : Value × List Val} (h : InRow u base x) (hk : ∀ k, base ≤ k → k < u.heap.size → v.heap[k]? = u.heap[k]?) : InRow v base x :=
  ⟨owns_keep h.1 fun k hk' => hk k (owns_block h.1 k hk') (owns_lt h.1 k hk'), h.2⟩
/-- What a copy of a row gives. -/
def CopyRowPost (id : Int) (t : List Val) (w : World) (e : Ending) (w' : World) : Prop := ∃ v : Value, e = .returned (.agg #[.int .i64 id, v]) ∧ InRow w' w.heap.size (v, t) ∧ Below w.heap.size w w'
theorem cell2_row (w : World) (id : Int) (y : Value) : Cell2 (w.alloc (.cells #[.int .i64 id, y] 68)) w.heap.size (.int .i64 id) y := cell2_new w _ _ _
theorem cell2_put (u : World) {X : Nat} {a b : Value} (h : Cell2 u X a b) (x y : Value) : Cell2 ((u.setCell ⟨X, 0, none⟩ x).setCell ⟨X, 1, none⟩ y) X x y := by
  obtain ⟨hl, c0, c1, fz⟩ := h
  refine ⟨by simpa [World.setCell] using hl, ?_, ?_, fun o => ?_⟩
  · go_simp
  · go_simp
  · rw [World.frozen?_setCell, World.frozen?_setCell]; exact fz o
set_option maxHeartbeats 1000000 in
theorem dcopy_any (t : List Val) (q : Option Addr) (cp : Nat) (w : World) (hr : RowAt w q t) (hz : t.length * 32 ≤ 140737488355328) (hn : q = none → t = [] ∧ cp = 0) :
    Calls Tryd.prog 66 #[.slice q t.length cp] w (CopyPost t w) := by
  have hown0 : w.ownsRow w.heap.size 34 3 (.slice none 0 0) 0 (vcells []) := ⟨rfl, Or.inl ⟨rfl, rfl⟩⟩
  have HO := Lib.hid hown0
  have HR := Lib.hid hr
  clear hown0 hr
  go_enter Tryd.func66, Tryd.ntmps66
  go_wp2_with (at_builtin; refine wpList_append_vals rfl _ (.tmp 3) rfl w.heap.size _ 0 [] rfl HO.out q t cp rfl HR.out hn (by omega) (Nat.le_refl _) ?_; intro v2 w2 hown2 hgr2)
  go_ret
  rw [Nat.zero_add, List.nil_append] at hown2
  exact ⟨_, rfl, ⟨hown2, hz⟩, grown_below (Below.refl _ _) (Nat.le_refl _) hgr2 (fun k hk => by cases hk)⟩
set_option maxHeartbeats 2000000 in
theorem dcopyrow_any (id : Int) (t : List Val) (q : Option Addr) (cp : Nat) (w : World) (hr : RowAt w q t) (hz : t.length * 32 ≤ 140737488355328) (hn : q = none → t = [] ∧ cp = 0) :
    Calls Tryd.prog 142 #[.agg #[.int .i64 id, .slice q t.length cp]] w (CopyRowPost id t w) := by
  have HX := Lib.hid ((cell2_row w id (.slice q t.length cp)).low (below_alloc _ (.cells #[.int .i64 0, .slice none 0 0] 68)))
  have hy := cell2_row (w.alloc (.cells #[.int .i64 id, .slice q t.length cp] 68)) 0 (.slice none 0 0)
  rw [size_alloc] at hy
  have HY := Lib.hid hy
  have hb0 := below_new (below_new (Below.refl w.heap.size w) (.cells #[.int .i64 id, .slice q t.length cp] 68)) (.cells #[.int .i64 0, .slice none 0 0] 68)
  have HB := Lib.hid hb0
  have HR := Lib.hid (hr.low hb0)
  have HN := Lib.hid hn
  clear hy hb0 hr hn
  go_enter Tryd.func142, Tryd.ntmps142
  go_upto_region 1 with (fail)
  generalize World.alloc _ _ = W1 at HX HY HB HR ⊢
  obtain ⟨xl, x0, x1, -⟩ := HX.out
  have HRD := Lib.hid (HR.out.low (Below.refl W1.heap.size W1).drew)
  have HXD := Lib.hid (HX.out.low (Below.refl W1.heap.size W1).drew)
  have HYD := Lib.hid (HY.out.low (Below.refl W1.heap.size W1).drew)
  have HBD := Lib.hid (below_next HB.out (Below.refl W1.heap.size W1).drew)
  go_region_law (first
    | (go_simp; go_at_call 66; refine (dcopy_any t q cp _ HRD.out hz HN.out).mono ?_; rintro e w3 ⟨v3, rfl, hin, hb3⟩; obtain ⟨p3, c3, e3⟩ := InRow.ex hin; subst e3; (have HIN := Lib.hid hin); (have HB3 := Lib.hid hb3); obtain ⟨zl, z0, z1, -⟩ := HXD.out.low hb3; obtain ⟨yl, y0, y1, yf⟩ := HYD.out.low hb3; clear hin hb3))
  all_goals
    go_wp2
    have hz0 : w.heap.size + 1 < W1.heap.size := HY.out.lt
    have HS := cell2_put w3 (HYD.out.low HB3.out) (.int .i64 id) (.slice p3 t.length c3)
    obtain ⟨-, s0, s1, -⟩ := HS
    exact bodyPost_ret (v := .agg #[.int .i64 id, .slice p3 t.length c3]) (by simp [results, Tryd.results142, go_sem, s0, s1]) rfl
      ⟨_, rfl, (HIN.out.base (show w.heap.size + 2 ≤ W1.drew.heap.size from by show w.heap.size + 2 ≤ W1.heap.size; omega)).keep2 (fun k h1 _ => by rw [Below.heap_setCell _ _ _ _ (show k ≠ w.heap.size + 1 by omega), Below.heap_setCell _ _ _ _ (show k ≠ w.heap.size + 1 by omega)]) |>.base (by omega),
        ((below_next HBD.out HB3.out).setCell (by show w.heap.size ≤ w.heap.size + 1; omega) _).setCell (by show w.heap.size ≤ w.heap.size + 1; omega) _⟩
end Go.Proofs.YtgaihglploedaaaDoor
/-
  Tables whose memory lies from a block on.
-/
namespace Go.Proofs.YtgaihglploedaaaDoor
set_option maxRecDepth 100000
open Go.RowKit
variable {ls : List Nat}

theorem RowAt.keep {u v : World} {p : Option Addr} {l : List Val} (h : RowAt u p l) (hz : u.heap.size ≤ v.heap.size) (hk : ∀ a, p = some a → v.heap[a.block]? = u.heap[a.block]?) : RowAt v p l := fun i hi => by
  obtain ⟨c, o, hp, hc, h0, h1, h2⟩ := h i hi
  have hb : v.heap[c]? = u.heap[c]? := hk _ hp
  exact ⟨c, o, hp, by omega, by rw [World.cell?_of_block (w := u) hb]; exact h0, by rw [World.cell?_of_block (w := u) hb]; exact h1, by rw [World.cell?_of_block (w := u) hb]; exact h2⟩

/-- Rows whose memory lies from block lo on. -/
def TRowsIn (lo : Nat) (w : World) (p : Option Addr) (R : List TRow) : Prop :=
  ∀ i, i < R.length → ∃ (g : Nat) (q : Option Addr) (cp : Nat), p = some ⟨g, 0, none⟩ ∧ lo ≤ g ∧ g < w.heap.size ∧ w.cell? ⟨g, i * 2, none⟩ = some (.int .i64 (tAt R i).1) ∧ w.cell? ⟨g, i * 2 + 1, none⟩ = some (.slice q (tAt R i).2.length cp) ∧ RowAt w q (tAt R i).2 ∧ (tAt R i).2.length * 32 ≤ 140737488355328 ∧ (q = none → (tAt R i).2 = [] ∧ cp = 0) ∧ (∀ a, q = some a → lo ≤ a.block ∧ a.block < w.heap.size)
theorem TRowsIn.at {lo : Nat} {u v : World} {p : Option Addr} {R : List TRow} (h : TRowsIn lo u p R) (hz : u.heap.size ≤ v.heap.size) (hk : ∀ k, lo ≤ k → k < u.heap.size → v.heap[k]? = u.heap[k]?) : TRowsAt v p R := by
  intro i hi
  obtain ⟨g, q, cp, rfl, hg, hgs, h0, h1, hr, hs, hn, hq⟩ := h i hi
  have hb := hk g hg hgs
  exact ⟨g, 0, q, cp, rfl, by omega, by rw [Nat.zero_add, World.cell?_of_block (w := u) hb]; exact h0, by rw [Nat.zero_add, World.cell?_of_block (w := u) hb]; exact h1, hr.keep hz fun a ha => hk _ (hq a ha).1 (hq a ha).2, hs, hn⟩
theorem TRowsIn.mono {lo lo' : Nat} {u : World} {p : Option Addr} {R : List TRow} (h : TRowsIn lo u p R) (hl : lo' ≤ lo) : TRowsIn lo' u p R := by
  intro i hi
  obtain ⟨g, q, cp, hp, hg, hgs, h0, h1, hr, hs, hn, hq⟩ := h i hi
  exact ⟨g, q, cp, hp, by omega, hgs, h0, h1, hr, hs, hn, fun a ha => ⟨by have := (hq a ha).1; omega, (hq a ha).2⟩⟩

/-- Where the rows of the call's own lie. -/
theorem TOwn.slot {u : World} {base : Nat} {vr : Value} {G : List GRow} (h : TOwn u base vr G) (hl : 0 < G.length) : ∃ g c, vr = .slice (some ⟨g, 0, none⟩) G.length c ∧ base ≤ g ∧ g < u.heap.size ∧ (∀ o, u.frozen? ⟨g, o, none⟩ = false) ∧
    (∀ i, i < G.length → u.cell? ⟨g, i * 2, none⟩ = some (.int .i64 (grAt G i).1) ∧ u.cell? ⟨g, i * 2 + 1, none⟩ = some (grAt G i).2.1 ∧ (grAt G i).2.1.ownBlock ≠ some g) := by
  rcases h.own.2 with ⟨-, h0⟩ | ⟨g, cap', cur, rfl, hg, hh, hcap, hm, hcur, htake⟩
  · omega
  · have hget : ∀ j, j < G.length * 2 → cur[j]? = (tcells G)[j]? := fun j hj => by
      rw [← htake, List.getElem?_take, if_pos hj]; simp
    refine ⟨g, cap', rfl, hg, (Array.getElem?_eq_some_iff.1 hh).1, fun o => by simp [World.frozen?, hh], fun i hi => ?_⟩
    obtain ⟨c0, c1⟩ := tcells_at G i hi
    refine ⟨?_, ?_, fun he => ?_⟩
    · simp only [World.cell?, hh]
      rw [if_neg (by simp), hget _ (by omega), c0]
    · simp only [World.cell?, hh]
      rw [if_neg (by simp), hget _ (by omega), c1]
    · exact owns_apart (h.inn _ (grAt_mem hi)).1 h.own (by decide) g he rfl
theorem InRow.slot {u : World} {base : Nat} {v : Value} {l : List Val} (h : InRow u base (v, l)) (hl : 0 < l.length) : ∃ g c, v = .slice (some ⟨g, 0, none⟩) l.length c ∧ base ≤ g ∧ g < u.heap.size ∧ (∀ o, u.frozen? ⟨g, o, none⟩ = false) ∧ v.ownBlock = some g ∧ RowAt u (some ⟨g, 0, none⟩) l ∧ l.length ≤ c := by
  have hs := owned_shape h.1
  rcases h.1.2 with ⟨-, h0⟩ | ⟨g, cap', cur, hv, hg, hh, hcap, hm, hcur, htake⟩
  · exact absurd h0 (by show ¬ l.length = 0; omega)
  · have hv : v = .slice (some ⟨g, 0, none⟩) l.length cap' := hv
    subst hv
    exact ⟨g, cap', rfl, hg, (Array.getElem?_eq_some_iff.1 hh).1, fun o => by simp [World.frozen?, hh], rfl, hs.2.1, hcap⟩
theorem TOwn.rowsIn {u : World} {base : Nat} {vr : Value} {G : List GRow} (h : TOwn u base vr G) : TRowsIn base u (rowP vr) (tabR G) := by
  intro i hi
  have hi' : i < G.length := by rw [tabR_length] at hi; exact hi
  obtain ⟨g, c, rfl, hg, hgs, -, hc⟩ := h.slot (by omega)
  obtain ⟨c0, c1, -⟩ := hc i hi'
  obtain ⟨hv, hr, hn⟩ := owned_shape (h.inn _ (grAt_mem hi')).1
  have hl := (h.inn _ (grAt_mem hi')).2
  rw [tabR_at hi']
  refine ⟨g, rowP (grAt G i).2.1, rowC (grAt G i).2.1, rfl, hg, hgs, c0, by rw [c1, ← hv], hr, hl, hn, fun a ha => ?_⟩
  have hb : (grAt G i).2.1.ownBlock = some a.block := by rw [hv, ha]; rfl
  exact ⟨owns_block (h.inn _ (grAt_mem hi')).1 _ hb, owns_lt (h.inn _ (grAt_mem hi')).1 _ hb⟩
/-- A table that stays whatever is written below block lo. -/
def TabFree (lo : Nat) (u : World) (S : Tab) : Prop := ∀ v, u.heap.size ≤ v.heap.size → (∀ k, lo ≤ k → k < u.heap.size → v.heap[k]? = u.heap[k]?) → TabAt v S
theorem TabFree.at {lo : Nat} {u : World} {S : Tab} (h : TabFree lo u S) : TabAt u S := h u (Nat.le_refl _) fun _ _ _ => rfl
theorem TabFree.low {lo : Nat} {u v : World} {S : Tab} (h : TabFree lo u S) (hb : Below u.heap.size u v) : TabFree lo v S := fun x hz hk =>
  h x (Nat.le_trans hb.size hz) fun k h1 h2 => (hk k h1 (Nat.lt_of_lt_of_le h2 hb.size)).trans (hb.block k h2)
theorem TabFree.set {lo b o : Nat} {u : World} {S : Tab} (h : TabFree lo u S) (hb : b < lo) (y : Value) : TabFree lo (u.setCell ⟨b, o, none⟩ y) S := fun x hz hk =>
  h x (by have e : (u.setCell ⟨b, o, none⟩ y).heap.size = u.heap.size := by simp [World.setCell]
          omega) fun k h1 h2 => (hk k h1 (by simpa [World.setCell] using h2)).trans (Below.heap_setCell _ _ _ _ (by show k ≠ b; omega))
theorem TabFree.mono {lo lo' : Nat} {u : World} {S : Tab} (h : TabFree lo u S) (hl : lo' ≤ lo) : TabFree lo' u S := fun x hz hk => h x hz fun k h1 h2 => hk k (by omega) h2
/-- Such a table, whose rows can be appended to. -/
structure TabMine (lo : Nat) (u : World) (S : Tab) : Prop where
  free : TabFree lo u S
  own : ∃ G, TOwn u lo (.slice S.pr S.R.length S.cr) G ∧ tabR G = S.R
theorem TabMine.at {lo : Nat} {u : World} {S : Tab} (h : TabMine lo u S) : TabAt u S := h.free.at
theorem TabMine.low {lo : Nat} {u v : World} {S : Tab} (h : TabMine lo u S) (hb : Below u.heap.size u v) : TabMine lo v S := ⟨h.free.low hb, by
  obtain ⟨G, h1, h2⟩ := h.own
  exact ⟨G, h1.low hb, h2⟩⟩
theorem TabMine.set {lo b o : Nat} {u : World} {S : Tab} (h : TabMine lo u S) (hb : b < lo) (y : Value) : TabMine lo (u.setCell ⟨b, o, none⟩ y) S := ⟨h.free.set hb y, by
  obtain ⟨G, h1, h2⟩ := h.own
  exact ⟨G, h1.set hb y, h2⟩⟩
theorem TabMine.mono {lo lo' : Nat} {u : World} {S : Tab} (h : TabMine lo u S) (hl : lo' ≤ lo) : TabMine lo' u S := ⟨h.free.mono hl, by
  obtain ⟨G, h1, h2⟩ := h.own
  exact ⟨G, h1.base hl, h2⟩⟩
end Go.Proofs.YtgaihglploedaaaDoor
