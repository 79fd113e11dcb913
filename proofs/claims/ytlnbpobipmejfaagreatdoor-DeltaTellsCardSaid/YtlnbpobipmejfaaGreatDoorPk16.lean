/-
  Several texts in one.
-/
import Derived.Test.YtlnbpobipmejfaaGreatDoorPk10
import Derived.Test.YtlnbpobipmejfaaGreatDoorPk12
import Derived.Deep.AppendLies
import Derived.Test.YtlnbpobipmejfaaGreatDoorPk13
import Derived.Test.YtlnbpobipmejfaaGreatDoorPk11
import Derived.Test.YtlnbpobipmejfaaGreatDoorPk01
/-
  Appends at a step of a region that draws its order.
-/
namespace Go.Proofs.YtlnbpobipmejfaaGreatDoor
set_option maxRecDepth 100000
open Go.RowKit
variable {ls : List Nat}

theorem Cell4.conj {u : World} {X : Nat} {a b c d : Value} (h : Cell4 u X a b c d) : u.cell? ⟨X, 0, none⟩ = some a ∧ u.cell? ⟨X, 1, none⟩ = some b ∧ u.cell? ⟨X, 2, none⟩ = some c ∧ u.cell? ⟨X, 3, none⟩ = some d ∧ X < u.heap.size := ⟨h.c0, h.c1, h.c2, h.c3, h.lt⟩
theorem Cell4.set0 {u : World} {X : Nat} {a b c d : Value} (h : Cell4 u X a b c d) (y : Value) : Cell4 (u.setCell ⟨X, 0, none⟩ y) X y b c d := by
  obtain ⟨hl, c0, c1, c2, c3, fz⟩ := h
  refine ⟨by simpa [World.setCell] using hl, ?_, ?_, ?_, ?_, fun o => ?_⟩
  · go_simp
  · go_simp
  · go_simp
  · go_simp
  · rw [World.frozen?_setCell]; exact fz o
theorem Cell4.set1 {u : World} {X : Nat} {a b c d : Value} (h : Cell4 u X a b c d) (y : Value) : Cell4 (u.setCell ⟨X, 1, none⟩ y) X a y c d := by
  obtain ⟨hl, c0, c1, c2, c3, fz⟩ := h
  refine ⟨by simpa [World.setCell] using hl, ?_, ?_, ?_, ?_, fun o => ?_⟩
  · go_simp
  · go_simp
  · go_simp
  · go_simp
  · rw [World.frozen?_setCell]; exact fz o
theorem InRow.ex {u : World} {base : Nat} {v : Value} {l : List Val} (h : InRow u base (v, l)) : ∃ p c, v = .slice p l.length c := ⟨_, _, (owned_shape h.1).1⟩
theorem keepCT {u v : World} {X : Nat} {x y : Value} (hb : Below u.heap.size u v) (h : u.cell? ⟨X, 0, none⟩ = some x ∧ u.cell? ⟨X, 1, none⟩ = some y ∧ X < u.heap.size) : v.cell? ⟨X, 0, none⟩ = some x ∧ v.cell? ⟨X, 1, none⟩ = some y ∧ X < v.heap.size := by
  obtain ⟨a, b, c⟩ := h
  exact ⟨by rw [hb.cell (by exact c)]; exact a, by rw [hb.cell (by exact c)]; exact b, Nat.lt_of_lt_of_le c hb.size⟩
theorem keepCG {u v : World} {X : Nat} {x y : Value} {row : Option Nat} (hg : u.grownBy v row) (hne : ∀ k, row = some k → k < X) (h : u.cell? ⟨X, 0, none⟩ = some x ∧ u.cell? ⟨X, 1, none⟩ = some y ∧ X < u.heap.size) : v.cell? ⟨X, 0, none⟩ = some x ∧ v.cell? ⟨X, 1, none⟩ = some y ∧ X < v.heap.size := by
  obtain ⟨a, b, c⟩ := h
  have hb := hg.block X c (fun e => by have := hne X e.symm; omega)
  exact ⟨by rw [World.cell?_of_block (w := u) hb]; exact a, by rw [World.cell?_of_block (w := u) hb]; exact b, Nat.lt_of_lt_of_le c hg.size⟩
theorem take_succ_tr {R : List TRow} {k : Nat} (h : k < R.length) : R.take k ++ [tAt R k] = R.take (k + 1) := by
  rw [List.take_add_one, List.getElem?_eq_getElem h, tAt_get h]; rfl
/-- At a step of a region that draws its order. -/
theorem step_of {P : Program} {ops : Array Oper} {o : Oper} {a : Act} {w : World} {K : Act → World → Prop} {Q : Exit → Act → World → Prop} {E : Prop} (hgd : o.guard = none) (h : o.wp P a w K Q) : if Region.wanted o (yielded ops a.tmps) = true then Oper.wp P o a w K Q else E := by
  rw [if_pos (by simp [Region.wanted, hgd])]
  exact h
theorem step_copy_vals {w : World} {ops : Array Oper} {o : Oper} {a : Act} {K : Act → World → Prop} {Q : Exit → Act → World → Prop} {E : Prop} (hgd : o.guard = none) (s x : Operand)
    (ho : o.op = .call { callee := .builtin .append, args := #[s, x], argTypes := #[56, 56] })
    (base : Nat) (hs : a.eval s = .slice none 0 0) (ad : Addr) (lx : List Val) (cx : Nat) (hx : a.eval x = .slice (some ad) lx.length cx) (hrow : RowAt w (some ad) lx) (hsum : lx.length * 32 ≤ 140737488355328) (hbase : base ≤ w.heap.size)
    (h : ∀ v' w', InRow w' base (v', lx) → Below w.heap.size w w' → K (a.put o.dst v') w') : if Region.wanted o (yielded ops a.tmps) = true then Oper.wp Tryz.prog o a w K Q else E := by
  obtain ⟨i0, hi, hz0, hz1, hz2⟩ := info_parts info_val
  refine step_of hgd (wp_append_own w s x 56 ho base 55 i0 _ 3 32 Tryz.underlying56 hi hz0 hz1 hz2 rfl (by decide) (.slice none 0 0) 0 (vcells []) hs ⟨rfl, Or.inl ⟨rfl, rfl⟩⟩ ad lx.length cx (vcells lx) hx (vcells_length lx) (news_of_row hrow ad rfl) (vcells_one lx) (by unfold maxLen; omega) (by omega) hbase ?_)
  intro v' w' h1 h2 _
  rw [Nat.zero_add] at h1
  exact h v' w' ⟨h1, hsum⟩ (grown_below (Below.refl _ _) (Nat.le_refl _) h2 (fun k hk => by cases hk))
theorem step_append_trow {w : World} {ops : Array Oper} {o : Oper} {a : Act} {K : Act → World → Prop} {Q : Exit → Act → World → Prop} {E : Prop} (hgd : o.guard = none) (s x : Operand)
    (ho : o.op = .call { callee := .builtin .append, args := #[s, x], argTypes := #[22, 22] })
    (base : Nat) (v : Value) (G : List GRow) (hs : a.eval s = v) (hown : w.ownsRow base 58 2 v G.length (tcells G))
    (N : Nat) (id : Int) (y : Value) (l : List Val) (hx : a.eval x = .slice (some ⟨N, 0, none⟩) 1 1) (h0 : w.cell? ⟨N, 0, none⟩ = some (.int .i64 id)) (h1 : w.cell? ⟨N, 1, none⟩ = some y) (hy : y.oneCell' = true) (hsum : (G.length + 1) * 32 ≤ 140737488355328) (hbase : base ≤ w.heap.size)
    (h : ∀ v' w', w'.ownsRow base 58 2 v' (G ++ [(id, y, l)]).length (tcells (G ++ [(id, y, l)])) → w.grownBy w' v.ownBlock → K (a.put o.dst v') w') : if Region.wanted o (yielded ops a.tmps) = true then Oper.wp Tryz.prog o a w K Q else E := by
  obtain ⟨i0, hi, hz0, hz1, hz2⟩ := info_parts info_trow
  refine step_of hgd (wp_append_own w s x 22 ho base 58 i0 _ 2 32 Tryz.underlying22 hi hz0 hz1 hz2 rfl (by decide) v G.length (tcells G) hs hown ⟨N, 0, none⟩ 1 1 [.int .i64 id, y] hx rfl (trow_news h0 h1) (fun u hu => by
    rcases List.mem_cons.1 hu with rfl | hu
    · rfl
    · obtain rfl := List.mem_singleton.1 hu
      exact hy) (by unfold maxLen; omega) hsum hbase ?_)
  intro v' w' h1 h2 _
  refine h v' w' ?_ h2
  rw [List.length_append, List.length_singleton, tcells_append]
  exact h1
theorem step_append_cols {w : World} {ops : Array Oper} {o : Oper} {a : Act} {K : Act → World → Prop} {Q : Exit → Act → World → Prop} {E : Prop} (hgd : o.guard = none) (s x : Operand)
    (ho : o.op = .call { callee := .builtin .append, args := #[s, x], argTypes := #[26, 26] })
    (base : Nat) (v : Value) (l : List Col) (hs : a.eval s = v) (hown : w.ownsRow base 63 4 v l.length (ccells l))
    (ad : Addr) (lx : List Col) (cx : Nat) (hx : a.eval x = .slice (some ad) lx.length cx) (hcol : ColsAt w (some ad) lx.length (cAt lx)) (hsum : (l.length + lx.length) * 32 ≤ 140737488355328) (hbase : base ≤ w.heap.size)
    (h : ∀ v' w', w'.ownsRow base 63 4 v' (l ++ lx).length (ccells (l ++ lx)) → w.grownBy w' v.ownBlock → K (a.put o.dst v') w') : if Region.wanted o (yielded ops a.tmps) = true then Oper.wp Tryz.prog o a w K Q else E := by
  obtain ⟨i0, hi, hz0, hz1, hz2⟩ := info_parts info_col
  refine step_of hgd (wp_append_own w s x 26 ho base 63 i0 _ 4 32 Tryz.underlying26 hi hz0 hz1 hz2 rfl (by decide) v l.length (ccells l) hs hown ad lx.length cx (ccells lx) hx (ccells_length lx) (news_of_cols hcol) (ccells_one lx) (by unfold maxLen; omega) hsum hbase ?_)
  intro v' w' h1 h2 _
  refine h v' w' ?_ h2
  rw [List.length_append, ccells_append]
  exact h1
end Go.Proofs.YtlnbpobipmejfaaGreatDoor
/-
  Tables whose memory lies from a block on.
-/
namespace Go.Proofs.YtlnbpobipmejfaaGreatDoor
set_option maxRecDepth 100000
open Go.RowKit
variable {ls : List Nat}

theorem RowAt.keep {u v : World} {p : Option Addr} {l : List Val} (h : RowAt u p l) (hz : u.heap.size ≤ v.heap.size) (hk : ∀ a, p = some a → v.heap[a.block]? = u.heap[a.block]?) : RowAt v p l := fun i hi => by
  obtain ⟨c, o, hp, hc, h0, h1, h2⟩ := h i hi
  have hb : v.heap[c]? = u.heap[c]? := hk _ hp
  exact ⟨c, o, hp, by omega, by rw [World.cell?_of_block (w := u) hb]; exact h0, by rw [World.cell?_of_block (w := u) hb]; exact h1, by rw [World.cell?_of_block (w := u) hb]; exact h2⟩

/-- Rows whose memory lies from block lo on. -/
def TRowsIn (lo : Nat) (w : World) (p : Option Addr) (R : List TRow) : Prop :=
  ∀ i, i < R.length → ∃ (g : Nat) (q : Option Addr) (cp : Nat), p = some ⟨g, 0, none⟩ ∧ lo ≤ g ∧ g < w.heap.size ∧ w.cell? ⟨g, i * 2, none⟩ = some (.int .i64 (tAt R i).1) ∧ w.cell? ⟨g, i * 2 + 1, none⟩ = some (.slice q (tAt R i).2.length cp) ∧ RowAt w q (tAt R i).2 ∧ (tAt R i).2.length * 32 ≤ 140737488355328 ∧ (q = none → (tAt R i).2 = [] ∧ cp = 0) ∧ (∀ a, q = some a → lo ≤ a.block ∧ a.block < w.heap.size)
theorem TRowsIn.at {lo : Nat} {u v : World} {p : Option Addr} {R : List TRow} (h : TRowsIn lo u p R) (hz : u.heap.size ≤ v.heap.size) (hk : ∀ k, lo ≤ k → k < u.heap.size → v.heap[k]? = u.heap[k]?) : TRowsAt v p R := by
  intro i hi
  obtain ⟨g, q, cp, rfl, hg, hgs, h0, h1, hr, hs, hn, hq⟩ := h i hi
  have hb := hk g hg hgs
  exact ⟨g, 0, q, cp, rfl, by omega, by rw [Nat.zero_add, World.cell?_of_block (w := u) hb]; exact h0, by rw [Nat.zero_add, World.cell?_of_block (w := u) hb]; exact h1, hr.keep hz fun a ha => hk _ (hq a ha).1 (hq a ha).2, hs, hn⟩
theorem TRowsIn.mono {lo lo' : Nat} {u : World} {p : Option Addr} {R : List TRow} (h : TRowsIn lo u p R) (hl : lo' ≤ lo) : TRowsIn lo' u p R := by
  intro i hi
  obtain ⟨g, q, cp, hp, hg, hgs, h0, h1, hr, hs, hn, hq⟩ := h i hi
  exact ⟨g, q, cp, hp, by omega, hgs, h0, h1, hr, hs, hn, fun a ha => ⟨by have := (hq a ha).1; omega, (hq a ha).2⟩⟩

/-- Where the rows of the call's own lie. -/
theorem TOwn.slot {u : World} {base : Nat} {vr : Value} {G : List GRow} (h : TOwn u base vr G) (hl : 0 < G.length) : ∃ g c, vr = .slice (some ⟨g, 0, none⟩) G.length c ∧ base ≤ g ∧ g < u.heap.size ∧ (∀ o, u.frozen? ⟨g, o, none⟩ = false) ∧
    (∀ i, i < G.length → u.cell? ⟨g, i * 2, none⟩ = some (.int .i64 (grAt G i).1) ∧ u.cell? ⟨g, i * 2 + 1, none⟩ = some (grAt G i).2.1 ∧ (grAt G i).2.1.ownBlock ≠ some g) := by
  rcases h.own.2 with ⟨-, h0⟩ | ⟨g, cap', cur, rfl, hg, hh, hcap, hm, hcur, htake⟩
  · omega
  · have hget : ∀ j, j < G.length * 2 → cur[j]? = (tcells G)[j]? := fun j hj => by
      rw [← htake, List.getElem?_take, if_pos hj]; simp
    refine ⟨g, cap', rfl, hg, (Array.getElem?_eq_some_iff.1 hh).1, fun o => by simp [World.frozen?, hh], fun i hi => ?_⟩
    obtain ⟨c0, c1⟩ := tcells_at G i hi
    refine ⟨?_, ?_, fun he => ?_⟩
    · simp only [World.cell?, hh]
      rw [if_neg (by simp), hget _ (by omega), c0]
    · simp only [World.cell?, hh]
      rw [if_neg (by simp), hget _ (by omega), c1]
    · exact owns_apart (h.inn _ (grAt_mem hi)).1 h.own (by decide) g he rfl
theorem InRow.slot {u : World} {base : Nat} {v : Value} {l : List Val} (h : InRow u base (v, l)) (hl : 0 < l.length) : ∃ g c, v = .slice (some ⟨g, 0, none⟩) l.length c ∧ base ≤ g ∧ g < u.heap.size ∧ (∀ o, u.frozen? ⟨g, o, none⟩ = false) ∧ v.ownBlock = some g ∧ RowAt u (some ⟨g, 0, none⟩) l ∧ l.length ≤ c := by
  have hs := owned_shape h.1
  rcases h.1.2 with ⟨-, h0⟩ | ⟨g, cap', cur, hv, hg, hh, hcap, hm, hcur, htake⟩
  · exact absurd h0 (by show ¬ l.length = 0; omega)
  · have hv : v = .slice (some ⟨g, 0, none⟩) l.length cap' := hv
    subst hv
    exact ⟨g, cap', rfl, hg, (Array.getElem?_eq_some_iff.1 hh).1, fun o => by simp [World.frozen?, hh], rfl, hs.2.1, hcap⟩
theorem TOwn.rowsIn {u : World} {base : Nat} {vr : Value} {G : List GRow} (h : TOwn u base vr G) : TRowsIn base u (rowP vr) (tabR G) := by
  intro i hi
  have hi' : i < G.length := by rw [tabR_length] at hi; exact hi
  obtain ⟨g, c, rfl, hg, hgs, -, hc⟩ := h.slot (by omega)
  obtain ⟨c0, c1, -⟩ := hc i hi'
  obtain ⟨hv, hr, hn⟩ := owned_shape (h.inn _ (grAt_mem hi')).1
  have hl := (h.inn _ (grAt_mem hi')).2
  rw [tabR_at hi']
  refine ⟨g, rowP (grAt G i).2.1, rowC (grAt G i).2.1, rfl, hg, hgs, c0, by rw [c1, ← hv], hr, hl, hn, fun a ha => ?_⟩
  have hb : (grAt G i).2.1.ownBlock = some a.block := by rw [hv, ha]; rfl
  exact ⟨owns_block (h.inn _ (grAt_mem hi')).1 _ hb, owns_lt (h.inn _ (grAt_mem hi')).1 _ hb⟩
/-- A table that stays whatever is written below block lo. -/
def TabFree (lo : Nat) (u : World) (S : Tab) : Prop := ∀ v, u.heap.size ≤ v.heap.size → (∀ k, lo ≤ k → k < u.heap.size → v.heap[k]? = u.heap[k]?) → TabAt v S
theorem TabFree.at {lo : Nat} {u : World} {S : Tab} (h : TabFree lo u S) : TabAt u S := h u (Nat.le_refl _) fun _ _ _ => rfl
theorem TabFree.low {lo : Nat} {u v : World} {S : Tab} (h : TabFree lo u S) (hb : Below u.heap.size u v) : TabFree lo v S := fun x hz hk =>
  h x (Nat.le_trans hb.size hz) fun k h1 h2 => (hk k h1 (Nat.lt_of_lt_of_le h2 hb.size)).trans (hb.block k h2)
theorem TabFree.set {lo b o : Nat} {u : World} {S : Tab} (h : TabFree lo u S) (hb : b < lo) (y : Value) : TabFree lo (u.setCell ⟨b, o, none⟩ y) S := fun x hz hk =>
  h x (by have e : (u.setCell ⟨b, o, none⟩ y).heap.size = u.heap.size := by simp [World.setCell]
          omega) fun k h1 h2 => (hk k h1 (by simpa [World.setCell] using h2)).trans (Below.heap_setCell _ _ _ _ (by show k ≠ b; omega))
theorem TabFree.mono {lo lo' : Nat} {u : World} {S : Tab} (h : TabFree lo u S) (hl : lo' ≤ lo) : TabFree lo' u S := fun x hz hk => h x hz fun k h1 h2 => hk k (by omega) h2
/-- Such a table, whose rows can be appended to. -/
structure TabMine (lo : Nat) (u : World) (S : Tab) : Prop where
  free : TabFree lo u S
  own : ∃ G, TOwn u lo (.slice S.pr S.R.length S.cr) G ∧ tabR G = S.R
theorem TabMine.at {lo : Nat} {u : World} {S : Tab} (h : TabMine lo u S) : TabAt u S := h.free.at
theorem TabMine.low {lo : Nat} {u v : World} {S : Tab} (h : TabMine lo u S) (hb : Below u.heap.size u v) : TabMine lo v S := ⟨h.free.low hb, by
  obtain ⟨G, h1, h2⟩ := h.own
  exact ⟨G, h1.low hb, h2⟩⟩
theorem TabMine.set {lo b o : Nat} {u : World} {S : Tab} (h : TabMine lo u S) (hb : b < lo) (y : Value) : TabMine lo (u.setCell ⟨b, o, none⟩ y) S := ⟨h.free.set hb y, by
  obtain ⟨G, h1, h2⟩ := h.own
  exact ⟨G, h1.set hb y, h2⟩⟩
theorem TabMine.mono {lo lo' : Nat} {u : World} {S : Tab} (h : TabMine lo u S) (hl : lo' ≤ lo) : TabMine lo' u S := ⟨h.free.mono hl, by
  obtain ⟨G, h1, h2⟩ := h.own
  exact ⟨G, h1.base hl, h2⟩⟩
end Go.Proofs.YtlnbpobipmejfaaGreatDoor
/-
  What Get and Lookup find in a valid table.
-/
namespace Go.Proofs.YtlnbpobipmejfaaGreatDoor
set_option maxRecDepth 100000
open Go.RowKit

theorem validT_parts {nm : ByteArray} {n : Nat} {f : Nat → Col} {nx : Int} {R : List TRow} (h : validT nm n f nx R = true) : schemaOK nm n f = true ∧ R.length ≤ 100 ∧ 1 ≤ nx ∧ nx ≤ 2147483648 ∧ (∀ i, i < R.length → RowOK f n nx R i) ∧ (keysR (findKey f n) R).Nodup := by
  unfold validT dupR at h
  simp only [Bool.and_eq_true, decide_eq_true_eq, Bool.not_not] at h
  exact ⟨h.1.1.1, h.1.1.2.1, h.1.1.2.2.1, h.1.1.2.2.2, h.1.2, h.2⟩
theorem ids_up {f : Nat → Col} {n : Nat} {nx : Int} {R : List TRow} (h : ∀ i, i < R.length → RowOK f n nx R i) : ∀ i, i < R.length → ∀ j, j < i → (tAt R j).1 < (tAt R i).1 := by
  intro i
  induction i with
  | zero => intro _ j hj; omega
  | succ i ih =>
    intro hi j hj
    have h1 := (h (i + 1) hi).2.2.1 (by omega)
    rw [Nat.add_sub_cancel] at h1
    by_cases hji : j = i
    · subst hji; exact h1
    · exact Int.lt_trans (ih (by omega) j (by omega)) h1
theorem get_row {f : Nat → Col} {n : Nat} {nx : Int} {R : List TRow} (h : ∀ i, i < R.length → RowOK f n nx R i) {i : Nat} (hi : i < R.length) : getR (tAt R i).1 R = some (tAt R i).2 :=
  getR_hit hi rfl fun j hj e => by have := ids_up h i hi j hj; omega
theorem get_next {f : Nat → Col} {n : Nat} {nx : Int} {R : List TRow} (h : ∀ i, i < R.length → RowOK f n nx R i) : getR nx R = none :=
  getR_none fun j hj e => by have := (h j hj).2.1; omega
theorem key_apart {k : Int} {R : List TRow} (h : (keysR k R).Nodup) {i j : Nat} (hi : i < R.length) (hj : j < i) {v : Val} (hv : keyV k (tAt R i).2 = some v) : keyV k (tAt R j).2 ≠ some v := by
  intro he
  have h1 := h.sublist (keysR_sub (i := i + 1))
  rw [keysR_take hi, hv, List.nodup_append] at h1
  refine h1.2.2 v ?_ v (by simp) rfl
  unfold keysR
  refine List.mem_filterMap.2 ⟨tAt R j, ?_, he⟩
  rw [tAt_get (by omega)]
  exact List.mem_take_iff_getElem.2 ⟨j, by omega, rfl⟩
theorem look_row {k : Int} {R : List TRow} (h : (keysR k R).Nodup) {i : Nat} (hi : i < R.length) {v : Val} (hv : keyV k (tAt R i).2 = some v) : lookR k v R = some (tAt R i).1 :=
  lookR_hit hi hv fun _ hj => key_apart h hi hj hv
theorem findKey_first {f : Nat → Col} {n : Nat} (hn : 0 < n) (h : (f 0).key = true) : findKey f n = 0 := findI_hit (P := fun i => (f i).key) hn h (fun j hj => absurd hj (Nat.not_lt_zero j))
end Go.Proofs.YtlnbpobipmejfaaGreatDoor
/-
  Names: what the tape's Name gives; the words of the program, one by one.
-/
namespace Go.Proofs.YtlnbpobipmejfaaGreatDoor
set_option maxRecDepth 100000
open Go.RowKit
variable {ls : List Nat}

end Go.Proofs.YtlnbpobipmejfaaGreatDoor
