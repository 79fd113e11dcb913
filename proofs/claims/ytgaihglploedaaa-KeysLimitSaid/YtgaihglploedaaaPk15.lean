/-
  Several texts in one.
-/
import Derived.Test.YtgaihglploedaaaPk11
import Derived.Test.YtgaihglploedaaaPk13
import Derived.Test.YtgaihglploedaaaPk10
import Derived.Deep.AppendLies
import Derived.Test.YtgaihglploedaaaPk12
/-
  Appends at a step of a region that draws its order.
-/
namespace Go.Proofs.Ytgaihglploedaaa
set_option maxRecDepth 100000
open Go.RowKit
variable {ls : List Nat}

theorem Cell4.conj {u : World} {X : Nat} {a b c d : Value} (h : Cell4 u X a b c d) : u.cell? ⟨X, 0, none⟩ = some a ∧ u.cell? ⟨X, 1, none⟩ = some b ∧ u.cell? ⟨X, 2, none⟩ = some c ∧ u.cell? ⟨X, 3, none⟩ = some d ∧ X < u.heap.size := ⟨h.c0, h.c1, h.c2, h.c3, h.lt⟩
theorem Cell4.set0 {u : World} {X : Nat} {a b c d : Value} (h : Cell4 u X a b c d) (y : Value) : Cell4 (u.setCell ⟨X, 0, none⟩ y) X y b c d := by
  obtain ⟨hl, c0, c1, c2, c3, fz⟩ := h
  refine ⟨by simpa [World.setCell] using hl, ?_, ?_, ?_, ?_, fun o => ?_⟩
  · go_simp
  · go_simp
  · go_simp
  · go_simp
  · rw [World.frozen?_setCell]; exact fz o
theorem Cell4.set1 {u : World} {X : Nat} {a b c d : Value} (h : Cell4 u X a b c d) (y : Value) : Cell4 (u.setCell ⟨X, 1, none⟩ y) X a y c d := by
  obtain ⟨hl, c0, c1, c2, c3, fz⟩ := h
  refine ⟨by simpa [World.setCell] using hl, ?_, ?_, ?_, ?_, fun o => ?_⟩
  · go_simp
  · go_simp
  · go_simp
  · go_simp
  · rw [World.frozen?_setCell]; exact fz o
theorem InRow.ex {u : World} {base : Nat} {v : Value} {l : List Val} (h : InRow u base (v, l)) : ∃ p c, v = .slice p l.length c := ⟨_, _, (owned_shape h.1).1⟩
theorem keepCT {u v : World} {X : Nat} {x y : Value} (hb : Below u.heap.size u v) (h : u.cell? ⟨X, 0, none⟩ = some x ∧ u.cell? ⟨X, 1, none⟩ = some y ∧ X < u.heap.size) : v.cell? ⟨X, 0, none⟩ = some x ∧ v.cell? ⟨X, 1, none⟩ = some y ∧ X < v.heap.size := by
  obtain ⟨a, b, c⟩ := h
  exact ⟨by rw [hb.cell (by exact c)]; exact a, by rw [hb.cell (by exact c)]; exact b, Nat.lt_of_lt_of_le c hb.size⟩
theorem keepCG {u v : World} {X : Nat} {x y : Value} {row : Option Nat} (hg : u.grownBy v row) (hne : ∀ k, row = some k → k < X) (h : u.cell? ⟨X, 0, none⟩ = some x ∧ u.cell? ⟨X, 1, none⟩ = some y ∧ X < u.heap.size) : v.cell? ⟨X, 0, none⟩ = some x ∧ v.cell? ⟨X, 1, none⟩ = some y ∧ X < v.heap.size := by
  obtain ⟨a, b, c⟩ := h
  have hb := hg.block X c (fun e => by have := hne X e.symm; omega)
  exact ⟨by rw [World.cell?_of_block (w := u) hb]; exact a, by rw [World.cell?_of_block (w := u) hb]; exact b, Nat.lt_of_lt_of_le c hg.size⟩
theorem take_succ_tr {R : List TRow} {k : Nat} (h : k < R.length) : R.take k ++ [tAt R k] = R.take (k + 1) := by
  rw [List.take_add_one, List.getElem?_eq_getElem h, tAt_get h]; rfl
/-- At a step of a region that draws its order. -/
theorem step_of {P : Program} {ops : Array Oper} {o : Oper} {a : Act} {w : World} {K : Act → World → Prop} {Q : Exit → Act → World → Prop} {E : Prop} (hgd : o.guard = none) (h : o.wp P a w K Q) : if Region.wanted o (yielded ops a.tmps) = true then Oper.wp P o a w K Q else E := by
  rw [if_pos (by simp [Region.wanted, hgd])]
  exact h
theorem step_copy_vals {w : World} {ops : Array Oper} {o : Oper} {a : Act} {K : Act → World → Prop} {Q : Exit → Act → World → Prop} {E : Prop} (hgd : o.guard = none) (s x : Operand)
    (ho : o.op = .call { callee := .builtin .append, args := #[s, x], argTypes := #[32, 32] })
    (base : Nat) (hs : a.eval s = .slice none 0 0) (ad : Addr) (lx : List Val) (cx : Nat) (hx : a.eval x = .slice (some ad) lx.length cx) (hrow : RowAt w (some ad) lx) (hsum : lx.length * 32 ≤ 140737488355328) (hbase : base ≤ w.heap.size)
    (h : ∀ v' w', InRow w' base (v', lx) → Below w.heap.size w w' → K (a.put o.dst v') w') : if Region.wanted o (yielded ops a.tmps) = true then Oper.wp Try.prog o a w K Q else E := by
  obtain ⟨i0, hi, hz0, hz1, hz2⟩ := info_parts info_val
  refine step_of hgd (wp_append_own w s x 32 ho base 31 i0 _ 3 32 Try.underlying32 hi hz0 hz1 hz2 rfl (by decide) (.slice none 0 0) 0 (vcells []) hs ⟨rfl, Or.inl ⟨rfl, rfl⟩⟩ ad lx.length cx (vcells lx) hx (vcells_length lx) (news_of_row hrow ad rfl) (vcells_one lx) (by unfold maxLen; omega) (by omega) hbase ?_)
  intro v' w' h1 h2 _
  rw [Nat.zero_add] at h1
  exact h v' w' ⟨h1, hsum⟩ (grown_below (Below.refl _ _) (Nat.le_refl _) h2 (fun k hk => by cases hk))
theorem step_append_trow {w : World} {ops : Array Oper} {o : Oper} {a : Act} {K : Act → World → Prop} {Q : Exit → Act → World → Prop} {E : Prop} (hgd : o.guard = none) (s x : Operand)
    (ho : o.op = .call { callee := .builtin .append, args := #[s, x], argTypes := #[27, 27] })
    (base : Nat) (v : Value) (G : List GRow) (hs : a.eval s = v) (hown : w.ownsRow base 34 2 v G.length (tcells G))
    (N : Nat) (id : Int) (y : Value) (l : List Val) (hx : a.eval x = .slice (some ⟨N, 0, none⟩) 1 1) (h0 : w.cell? ⟨N, 0, none⟩ = some (.int .i64 id)) (h1 : w.cell? ⟨N, 1, none⟩ = some y) (hy : y.oneCell' = true) (hsum : (G.length + 1) * 32 ≤ 140737488355328) (hbase : base ≤ w.heap.size)
    (h : ∀ v' w', w'.ownsRow base 34 2 v' (G ++ [(id, y, l)]).length (tcells (G ++ [(id, y, l)])) → w.grownBy w' v.ownBlock → K (a.put o.dst v') w') : if Region.wanted o (yielded ops a.tmps) = true then Oper.wp Try.prog o a w K Q else E := by
  obtain ⟨i0, hi, hz0, hz1, hz2⟩ := info_parts info_trow
  refine step_of hgd (wp_append_own w s x 27 ho base 34 i0 _ 2 32 Try.underlying27 hi hz0 hz1 hz2 rfl (by decide) v G.length (tcells G) hs hown ⟨N, 0, none⟩ 1 1 [.int .i64 id, y] hx rfl (trow_news h0 h1) (fun u hu => by
    rcases List.mem_cons.1 hu with rfl | hu
    · rfl
    · obtain rfl := List.mem_singleton.1 hu
      exact hy) (by unfold maxLen; omega) hsum hbase ?_)
  intro v' w' h1 h2 _
  refine h v' w' ?_ h2
  rw [List.length_append, List.length_singleton, tcells_append]
  exact h1
theorem step_append_cols {w : World} {ops : Array Oper} {o : Oper} {a : Act} {K : Act → World → Prop} {Q : Exit → Act → World → Prop} {E : Prop} (hgd : o.guard = none) (s x : Operand)
    (ho : o.op = .call { callee := .builtin .append, args := #[s, x], argTypes := #[23, 23] })
    (base : Nat) (v : Value) (l : List Col) (hs : a.eval s = v) (hown : w.ownsRow base 62 4 v l.length (ccells l))
    (ad : Addr) (lx : List Col) (cx : Nat) (hx : a.eval x = .slice (some ad) lx.length cx) (hcol : ColsAt w (some ad) lx.length (cAt lx)) (hsum : (l.length + lx.length) * 32 ≤ 140737488355328) (hbase : base ≤ w.heap.size)
    (h : ∀ v' w', w'.ownsRow base 62 4 v' (l ++ lx).length (ccells (l ++ lx)) → w.grownBy w' v.ownBlock → K (a.put o.dst v') w') : if Region.wanted o (yielded ops a.tmps) = true then Oper.wp Try.prog o a w K Q else E := by
  obtain ⟨i0, hi, hz0, hz1, hz2⟩ := info_parts info_col
  refine step_of hgd (wp_append_own w s x 23 ho base 62 i0 _ 4 32 Try.underlying23 hi hz0 hz1 hz2 rfl (by decide) v l.length (ccells l) hs hown ad lx.length cx (ccells lx) hx (ccells_length lx) (news_of_cols hcol) (ccells_one lx) (by unfold maxLen; omega) hsum hbase ?_)
  intro v' w' h1 h2 _
  refine h v' w' ?_ h2
  rw [List.length_append, ccells_append]
  exact h1
end Go.Proofs.Ytgaihglploedaaa
/-
  Changes of a table: plain facts about what Apply computes.
-/
namespace Go.Proofs.Ytgaihglploedaaa
set_option maxRecDepth 100000
open Go.RowKit
variable {ls : List Nat}

theorem rAt_map {U : List PRow} {i : Nat} (h : i < U.length) : rAt (U.map (·.2.2)) i = (pAt U i).2.2 := by
  rw [rAt_get (by rw [List.length_map]; exact h), pAt_get h, List.getElem_map]
theorem fitsL_zero {f : Nat → Col} {n : Nat} {L : List (List Val)} (h : ∀ j, j < L.length → fitsRow f n (rAt L j) = 0) : fitsL f n L = 0 := by
  induction L with
  | nil => rfl
  | cons l L ih =>
    have h0 := h 0 (Nat.succ_pos _)
    show (if fitsRow f n l = 0 then fitsL f n L else fitsRow f n l) = 0
    rw [if_pos (by exact h0)]
    exact ih fun j hj => h (j + 1) (Nat.succ_lt_succ hj)
theorem fitsL_hit {f : Nat → Col} {n : Nat} {L : List (List Val)} {k : Nat} (hk : k < L.length) (h : ∀ j, j < k → fitsRow f n (rAt L j) = 0) (hz : fitsRow f n (rAt L k) ≠ 0) : fitsL f n L = fitsRow f n (rAt L k) := by
  induction L generalizing k with
  | nil => simp at hk
  | cons l L ih =>
    show (if fitsRow f n l = 0 then fitsL f n L else fitsRow f n l) = _
    cases k with
    | zero => rw [if_neg (by exact hz)]; rfl
    | succ k =>
      rw [if_pos (by exact h 0 (Nat.succ_pos _))]
      exact ih (Nat.lt_of_succ_lt_succ hk) (fun j hj => h (j + 1) (Nat.succ_lt_succ hj)) hz
theorem applyE_bad {nm : ByteArray} {n : Nat} {f : Nat → Col} {nx : Int} {R : List TRow} {I : List (List Val)} {D : List Int} {U : List PRow} (h : (validT nm n f nx R && validC n R I D U) = false) : applyE nm n f nx R I D U = 17 := by
  unfold applyE; rw [if_pos h]
theorem applyE_upd {nm : ByteArray} {n : Nat} {f : Nat → Col} {nx : Int} {R : List TRow} {I : List (List Val)} {D : List Int} {U : List PRow} (h : (validT nm n f nx R && validC n R I D U) = true) {k : Nat} (hk : k < U.length) (h1 : ∀ j, j < k → fitsRow f n (pAt U j).2.2 = 0) (hz : fitsRow f n (pAt U k).2.2 ≠ 0) : applyE nm n f nx R I D U = fitsRow f n (pAt U k).2.2 := by
  have h2 : fitsL f n (U.map (·.2.2)) = fitsRow f n (pAt U k).2.2 := by
    rw [← rAt_map hk]
    exact fitsL_hit (by rw [List.length_map]; exact hk) (fun j hj => by rw [rAt_map (by omega)]; exact h1 j hj) (by rw [rAt_map hk]; exact hz)
  unfold applyE
  rw [if_neg (by rw [h]; decide), h2, if_pos hz]
theorem applyE_ins {nm : ByteArray} {n : Nat} {f : Nat → Col} {nx : Int} {R : List TRow} {I : List (List Val)} {D : List Int} {U : List PRow} (h : (validT nm n f nx R && validC n R I D U) = true) (h0 : ∀ j, j < U.length → fitsRow f n (pAt U j).2.2 = 0) {k : Nat} (hk : k < I.length) (h1 : ∀ j, j < k → fitsRow f n (rAt I j) = 0) (hz : fitsRow f n (rAt I k) ≠ 0) : applyE nm n f nx R I D U = fitsRow f n (rAt I k) := by
  have h2 : fitsL f n (U.map (·.2.2)) = 0 := fitsL_zero fun j hj => by
    rw [List.length_map] at hj
    rw [rAt_map hj]; exact h0 j hj
  unfold applyE
  rw [if_neg (by rw [h]; decide), h2, if_neg (by simp), fitsL_hit hk h1 hz, if_pos hz]
theorem applyE_rest {nm : ByteArray} {n : Nat} {f : Nat → Col} {nx : Int} {R : List TRow} {I : List (List Val)} {D : List Int} {U : List PRow} (h : (validT nm n f nx R && validC n R I D U) = true) (h0 : ∀ j, j < U.length → fitsRow f n (pAt U j).2.2 = 0) (h1 : ∀ j, j < I.length → fitsRow f n (rAt I j) = 0) :
    applyE nm n f nx R I D U = if 100 < (keptR D U R).length + I.length ∨ 2147483648 - nx < I.length then 10 else if dupR (findKey f n) (afterR nx R I D U) = true then 9 else 0 := by
  have h2 : fitsL f n (U.map (·.2.2)) = 0 := fitsL_zero fun j hj => by
    rw [List.length_map] at hj
    rw [rAt_map hj]; exact h0 j hj
  unfold applyE
  rw [if_neg (by rw [h]; decide), h2, if_neg (by simp), fitsL_zero h1, if_neg (by simp)]
theorem keptR_take {D : List Int} {U : List PRow} {R : List TRow} {k : Nat} (h : k < R.length) : keptR D U (R.take (k + 1)) = keptR D U (R.take k) ++ if (tAt R k).1 ∈ D then [] else [((tAt R k).1, newV U (tAt R k))] := by
  unfold keptR
  rw [take_trow h, List.filter_append, List.map_append]
  congr 1
  by_cases hd : (tAt R k).1 ∈ D
  · rw [if_pos hd, List.filter_cons_of_neg (by rw [decide_eq_true hd]; decide)]; rfl
  · rw [if_neg hd, List.filter_cons_of_pos (by rw [decide_eq_false hd]; decide)]; rfl
theorem take_r {I : List (List Val)} {k : Nat} (h : k < I.length) : I.take (k + 1) = I.take k ++ [rAt I k] := by rw [rAt_get h]; exact (List.take_append_getElem h).symm
theorem comeR_take {nx : Int} {I : List (List Val)} {k : Nat} (h : k < I.length) : comeR nx (I.take (k + 1)) = comeR nx (I.take k) ++ [(nx + k, rAt I k)] := by
  rw [take_r h, comeR_snoc, List.length_take, Nat.min_eq_left (by omega)]
theorem keptR_length {D : List Int} {U : List PRow} {R : List TRow} : (keptR D U R).length ≤ R.length := by
  unfold keptR
  rw [List.length_map]
  exact List.length_filter_le _ _
theorem newV_sized {U : List PRow} {r : TRow} (hU : ∀ p ∈ U, ValsSized p.2.2) (hr : ValsSized r.2) : ValsSized (newV U r) := by
  unfold newV
  cases hf : U.find? fun p => decide (p.1 = r.1) with
  | none => exact hr
  | some p => exact hU p (List.mem_of_find?_eq_some hf)
theorem kept_sized {D : List Int} {U : List PRow} {R : List TRow} (hU : ∀ p ∈ U, ValsSized p.2.2) (hR : ∀ r ∈ R, ValsSized r.2) : ∀ r ∈ keptR D U R, ValsSized r.2 := fun r hr => by
  unfold keptR at hr
  obtain ⟨x, hx, rfl⟩ := List.mem_map.1 hr
  exact newV_sized hU (hR x (List.mem_filter.1 hx).1)
theorem come_sized {nx : Int} {I : List (List Val)} (hI : ∀ l ∈ I, ValsSized l) : ∀ r ∈ comeR nx I, ValsSized r.2 := by
  induction I generalizing nx with
  | nil => intro r hr; cases hr
  | cons l I ih =>
    intro r hr
    rcases List.mem_cons.1 hr with rfl | hr
    · exact hI l List.mem_cons_self
    · exact ih (fun x hx => hI x (List.mem_cons_of_mem _ hx)) r hr
theorem after_sized {nx : Int} {R : List TRow} {I : List (List Val)} {D : List Int} {U : List PRow} (hU : ∀ p ∈ U, ValsSized p.2.2) (hR : ∀ r ∈ R, ValsSized r.2) (hI : ∀ l ∈ I, ValsSized l) : ∀ r ∈ afterR nx R I D U, ValsSized r.2 := fun r hr => by
  rcases List.mem_append.1 hr with h | h
  · exact kept_sized hU hR r h
  · exact come_sized hI r h
theorem apply_err {T : Tab} {C : Chg} {w w' : World} {er : Int} (he : applyE T.nm T.n T.f T.nx T.R C.I C.D C.U = er) (hne : er ≠ 0) (hb : Below w.heap.size w w') : ApplyPost T C w (.returned (.tuple #[zeroTab.v, .int .i64 er])) w' :=
  ⟨zeroTab, by rw [he], zeroTab_at _, hb, .inr ⟨by rw [he]; exact hne, rfl, rfl, rfl, rfl⟩⟩
end Go.Proofs.Ytgaihglploedaaa
/-
  Package table: cell.
-/
namespace Go.Proofs.Ytgaihglploedaaa
set_option maxRecDepth 100000
open Go.RowKit
variable {ls : List Nat}

def cellO (k : Int) (l : List Val) : Val × Bool := match keyV k l with | some v => (v, true) | none => ((0, 0, ⟨#[]⟩), false)
theorem cellO_some {k : Int} {l : List Val} {v : Val} (h : keyV k l = some v) : cellO k l = (v, true) := by unfold cellO; rw [h]
theorem cellO_none {k : Int} {l : List Val} (h : keyV k l = none) : cellO k l = ((0, 0, ⟨#[]⟩), false) := by unfold cellO; rw [h]
set_option maxHeartbeats 1000000 in
theorem cell_any (id : Int) (q : Option Addr) (l : List Val) (cp : Nat) (kk : Int) (w : World) (hR : RowAt w q l) :
    Calls Try.prog 31 #[.agg #[.int .i64 id, .slice q l.length cp], .int .i64 kk] w fun e w' => e = .returned (.tuple #[valV (cellO kk l).1, .bool (cellO kk l).2]) ∧ Below w.heap.size w w' := by
  have hb0 : Below w.heap.size w ((w.alloc (.cells #[.int .i64 id, .slice q l.length cp] 34)).alloc (.cells #[.int .i64 0, .int .i64 0, .string ⟨#[]⟩] 31)) := below_new (below_new (Below.refl _ _) _) _
  have HR := Lib.hid (hR.low hb0)
  obtain ⟨p0, p1⟩ := row2_new w (.int .i64 id) (.slice q l.length cp) 34
  have r1 : ((w.alloc (.cells #[.int .i64 id, .slice q l.length cp] 34)).alloc (.cells #[.int .i64 0, .int .i64 0, .string ⟨#[]⟩] 31)).cell? ⟨w.heap.size, 1, none⟩ = some (.slice q l.length cp) := by rw [(below_alloc _ _).cell (by simp)]; exact p1
  clear hR hb0 p0 p1
  by_cases hneg : kk < 0
  · have g1 : decide (kk < 0) = true := decide_eq_true hneg
    have HE := Lib.hid (cellO_none (keyV_neg (l := l) hneg))
    go_enter Try.func31, Try.ntmps31
    go_wp2
    exact bodyPost_ret (v := .tuple #[valV (0, 0, ⟨#[]⟩), .bool false]) (by simp [results, Try.results31, go_sem, valV]) rfl
      ⟨by rw [HE.out], below_new (below_new (Below.refl _ _) _) _⟩
  · obtain ⟨K, rfl⟩ : ∃ K : Nat, kk = K := ⟨kk.toNat, by omega⟩
    have g1 : decide ((K : Int) < 0) = false := decide_eq_false hneg
    by_cases hlen : K < l.length
    · have g2 : decide ((l.length : Int) ≤ (K : Int)) = false := decide_eq_false (by omega)
      have hkI : (K : Int) < (l.length : Int) := by omega
      have HE := Lib.hid (cellO_some (keyV_some hlen))
      obtain ⟨c2, o2, rfl, hc2, v0, v1, v2⟩ := HR.out K hlen
      go_enter Try.func31, Try.ntmps31
      go_wp2
      exact bodyPost_ret (v := .tuple #[valV (vAt l K), .bool true]) (by simp [results, Try.results31, go_sem, valV]) rfl
        ⟨by rw [HE.out], below_new (below_new (Below.refl _ _) _) _⟩
    · have g2 : decide ((l.length : Int) ≤ (K : Int)) = true := decide_eq_true (by omega)
      have HE := Lib.hid (cellO_none (keyV_long (k := K) (l := l) (by omega)))
      go_enter Try.func31, Try.ntmps31
      go_wp2
      exact bodyPost_ret (v := .tuple #[valV (0, 0, ⟨#[]⟩), .bool false]) (by simp [results, Try.results31, go_sem, valV]) rfl
        ⟨by rw [HE.out], below_new (below_new (Below.refl _ _) _) _⟩
end Go.Proofs.Ytgaihglploedaaa
/-
  Package table: Duplicate.
-/
namespace Go.Proofs.Ytgaihglploedaaa
set_option maxRecDepth 100000
open Go.RowKit
variable {ls : List Nat}

set_option maxHeartbeats 2000000 in
theorem dup_any (T : Tab) (w : World) (hT : TabAt w T) :
    Calls Try.prog 17 #[T.v] w fun e w' => e = .returned (.bool (dupR T.key T.R)) ∧ Below w.heap.size w w' := by
  obtain ⟨nm, pc, n, cc, f, nx, pr, cr, R⟩ := T
  obtain ⟨hnm, hn, hC, hR, hl, hz⟩ := hT
  unfold Tab.v Tab.key
  dsimp only at *
  have HR := Lib.hid hR
  have hb0 : Below w.heap.size w (w.alloc (.cells #[.string nm, .slice pc n cc, .int .i64 nx, .slice pr R.length cr] 29)) := below_new (Below.refl _ _) _
  have HC := Lib.hid (hC.low hb0)
  have HX := Lib.hid (cell4_new w (.string nm) (.slice pc n cc) (.int .i64 nx) (.slice pr R.length cr) 29)
  have HB0 := Lib.hid hb0
  clear hC hR hz hb0
  obtain ⟨kk, hkk⟩ : ∃ kk, findKey f n = kk := ⟨_, rfl⟩
  rw [hkk]
  have HKK := Lib.hid hkk
  clear hkk
  go_enter Try.func17, Try.ntmps17
  go_wp2_with fail
  refine (keycol_any nm pc n cc f _ hn HC.out).mono ?_
  rintro e w1 ⟨rfl, hb1⟩
  have hx := HX.out.low hb1
  have hB1 := below_next HB0.out hb1
  have HS0 := Lib.hid (SeenAt.new w1)
  have HB1 := Lib.hid (below_new hB1 (.map #[] 0))
  obtain ⟨hxl, x0, x1, x2, x3, -⟩ := hx.low (below_alloc w1 (.map #[] 0))
  have HM : Hid (w.heap.size ≤ w1.heap.size) := Lib.hid hB1.size
  clear HC HX HB0 hb1 hx hB1
  rw [HKK.out]
  clear HKK
  have hmk := run_makeMap (P := Try.prog) (w := w1) 68
  go_wp2_with fail
  generalize w1.alloc (.map #[] 0) = W1 at HS0 HB1 hxl x0 x1 x2 x3 ⊢
  generalize hM : w1.heap.size = M at HS0 HM ⊢
  clear hM hmk
  go_wp2_with fail
  go_loopw [16] (fun i v => ∃ k : Nat, k ≤ R.length ∧ i = .int .i64 k ∧ SeenAt v M (keysR kk (R.take k)) ∧ (keysR kk (R.take k)).Nodup ∧ Below w.heap.size w v) (fun i _ => R.length - (intOf i).toNat)
  case atStart => exact ⟨0, Nat.zero_le _, rfl, HS0.out, List.nodup_nil, HB1.out⟩
  clear HB1 HS0 x0 x1 x2 x3 hxl
  case round =>
    obtain ⟨k, hk, rfl, hs, hd, hb⟩ := hrel
    have HS := Lib.hid hs
    have HD := Lib.hid hd
    have HB := Lib.hid hb
    clear hs hd hb
    by_cases hlt : k < R.length
    · have hlt' : decide ((k : Int) < R.length) = true := decide_eq_true (by omega)
      obtain ⟨c, o, q, cp, rfl, hc, h0, h1, hr, hs, hqn⟩ := HR.out.low HB.out k hlt
      have hbn := below_alloc wr (.cells #[.int .i64 (tAt R k).1, .slice q (tAt R k).2.length cp] 34)
      have HQ := Lib.hid (hr.low hbn)
      have HB2 := Lib.hid (below_next HB.out hbn)
      have HS2 := Lib.hid (HS.out.low hbn)
      clear hr hqn HB HS hbn
      go_wp2_with fail
      refine (cell_any (tAt R k).1 q (tAt R k).2 cp kk _ HQ.out).mono ?_
      rintro e w2 ⟨rfl, hb2⟩
      have HB3 := Lib.hid (below_next HB2.out hb2)
      have HS3 := Lib.hid (HS2.out.low hb2)
      clear HB2 HS2 HQ hb2 h0 h1 hc
      cases hkv : keyV kk (tAt R k).2 with
      | none =>
        have HE := Lib.hid (keysR_none hlt hkv)
        rw [cellO_none hkv]
        clear hkv
        unfold valV
        have HB4 := Lib.hid (below_new HB3.out (.cells #[.int .i64 0, .int .i64 0, .string ⟨#[]⟩] 31))
        have HS4 := Lib.hid (HS3.out.low (below_alloc w2 (.cells #[.int .i64 0, .int .i64 0, .string ⟨#[]⟩] 31)))
        clear HB3 HS3
        go_wp2
        go_roundw
        case rel => exact ⟨k + 1, by omega, by go_num, by rw [HE.out]; exact HS4.out, by rw [HE.out]; exact HD.out, HB4.out⟩
        case measure => simp [intOf]; omega
      | some v =>
        have HKV := Lib.hid hkv
        rw [cellO_some hkv]
        clear hkv
        unfold valV
        have hbv := below_alloc w2 (.cells #[.int .i64 v.1, .int .i64 v.2.1, .string v.2.2] 31)
        have HB4 := Lib.hid (below_next HB3.out hbv)
        have HS4 := Lib.hid (HS3.out.low hbv)
        clear HB3 HS3 hbv
        cases hseen : seenB v (keysR kk (R.take k))
        · have HNS : Hid (¬ v ∈ keysR kk (R.take k)) := Lib.hid (fun hm => Bool.false_ne_true (hseen.symm.trans (seenB_iff.2 hm)))
          have HE : Hid (keysR kk (R.take (k + 1)) = keysR kk (R.take k) ++ [v]) := Lib.hid (by rw [keysR_take hlt, HKV.out]; rfl)
          go_wp2_with (first | (at_lookup; refine wpList_look_seen rfl (.tmp 28) (.tmp 29) 68 rfl Try.underlying68 M _ rfl HS4.out v (by rfl) ?_; rw [hseen]) | (at_mapUpdate; refine wpList_put_seen rfl (.tmp 31) (.tmp 32) (.const (.bool true)) 68 rfl Try.underlying68 M _ rfl HS4.out v (by rfl) rfl HNS.out ?_; intro w5 hs5 hg5; (have HS5 := Lib.hid hs5); (have HB5 := Lib.hid (HB4.out.grown hg5 HB4.out.size (fun j hj => by cases hj; exact HM.out))); clear hs5 hg5))
          go_roundw
          case rel => exact ⟨k + 1, by omega, by go_num, by rw [HE.out]; exact HS5.out, nodup_step hlt HKV.out HD.out HNS.out, HB5.out⟩
          case measure => simp [intOf]; omega
        · have HDUP := Lib.hid (dupR_yes hlt HKV.out (seenB_iff.1 hseen))
          go_wp2_with (at_lookup; refine wpList_look_seen rfl (.tmp 28) (.tmp 29) 68 rfl Try.underlying68 M _ rfl HS4.out v (by rfl) ?_; rw [hseen])
          go_ret
          exact ⟨ret_b HDUP.out.symm, HB4.out⟩
    · have hlt' : decide ((k : Int) < R.length) = false := decide_eq_false (by omega)
      obtain rfl : k = R.length := by omega
      have HE : Hid (dupR kk R = false) := Lib.hid (dupR_no (by have := HD.out; rw [List.take_length] at this; exact this))
      go_wp2
      go_ret
      exact ⟨ret_b HE.out.symm, HB.out⟩
end Go.Proofs.Ytgaihglploedaaa
