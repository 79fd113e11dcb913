/-
  Several texts in one.
-/
import Derived.Test.YtidgfmjbfcgfiaaDoorPk09
import Derived.Test.YtidgfmjbfcgfiaaDoorPk18
import Derived.Test.YtidgfmjbfcgfiaaDoorPk12
import Derived.Test.YtidgfmjbfcgfiaaDoorPk13
/-
  Rows with numbers of the call's own: their cells, append.
-/
namespace Go.Proofs.YtidgfmjbfcgfiaaDoor
set_option maxRecDepth 100000
open Go.RowKit
variable {ls : List Nat}

/-- A row of the call's own: its number, its slice, its values. -/
abbrev GRow := Int × Value × List Val
def tcells (G : List GRow) : List Value := G.flatMap fun g => [.int .i64 g.1, g.2.1]
def tabR (G : List GRow) : List TRow := G.map fun g => (g.1, g.2.2)
theorem tcells_length (G : List GRow) : (tcells G).length = G.length * 2 := by
  induction G with
  | nil => rfl
  | cons g G ih => show (_ :: _ :: tcells G).length = _; rw [List.length_cons, List.length_cons, ih, List.length_cons]; omega
theorem tcells_append (G H : List GRow) : tcells (G ++ H) = tcells G ++ tcells H := List.flatMap_append
def grAt (G : List GRow) (i : Nat) : GRow := G.getD i (0, .slice none 0 0, [])
theorem grAt_mem {G : List GRow} {i : Nat} (h : i < G.length) : grAt G i ∈ G := by unfold grAt; rw [List.getD, List.getElem?_eq_getElem h]; exact List.getElem_mem h
theorem tabR_at {G : List GRow} {i : Nat} (h : i < G.length) : tAt (tabR G) i = ((grAt G i).1, (grAt G i).2.2) := by
  unfold tAt tabR grAt
  rw [List.getD, List.getD, List.getElem?_map, List.getElem?_eq_getElem h]
  rfl
theorem tcells_at (G : List GRow) (i : Nat) (h : i < G.length) : (tcells G)[i * 2]? = some (.int .i64 (grAt G i).1) ∧ (tcells G)[i * 2 + 1]? = some (grAt G i).2.1 := by
  induction G generalizing i with
  | nil => simp at h
  | cons g G ih =>
    have e : tcells (g :: G) = .int .i64 g.1 :: g.2.1 :: tcells G := rfl
    rw [e]
    cases i with
    | zero => exact ⟨rfl, rfl⟩
    | succ i =>
      rw [List.length_cons] at h
      have := ih i (by omega)
      rw [show (i + 1) * 2 = i * 2 + 1 + 1 by omega]
      exact this
theorem info_trow : (Tryd.prog.info? 54).map (fun i => (i.zero, i.size, i.bytes)) = some (some (.agg #[.int .i64 0, .slice none 0 0]), 2, 32) := by kernel_rfl

/-- Rows of the call's own. -/
structure TOwn (u : World) (base : Nat) (vr : Value) (G : List GRow) : Prop where
  own : u.ownsRow base 54 2 vr G.length (tcells G)
  inn : ∀ g ∈ G, InRow u base (g.2.1, g.2.2)
theorem TOwn.nil (u : World) (base : Nat) : TOwn u base (.slice none 0 0) [] := ⟨⟨rfl, Or.inl ⟨rfl, rfl⟩⟩, fun g hg => by cases hg⟩
theorem TOwn.low {u v : World} {base : Nat} {vr : Value} {G : List GRow} (h : TOwn u base vr G) (hb : Below u.heap.size u v) : TOwn v base vr G := ⟨owns_below h.own hb, fun g hg => (h.inn g hg).low hb⟩
theorem TOwn.base {u : World} {b b' : Nat} {vr : Value} {G : List GRow} (h : TOwn u b vr G) (hb : b' ≤ b) : TOwn u b' vr G := ⟨owns_base h.own hb, fun g hg => (h.inn g hg).base hb⟩
theorem TOwn.keep {u v : World} {base : Nat} {vr : Value} {G : List GRow} (h : TOwn u base vr G) (hk : ∀ k, base ≤ k → k < u.heap.size → v.heap[k]? = u.heap[k]?) : TOwn v base vr G :=
  ⟨owns_keep h.own fun k hk' => hk k (owns_block h.own k hk') (owns_lt h.own k hk'), fun g hg => ⟨owns_keep (h.inn g hg).1 fun k hk' => hk k (owns_block (h.inn g hg).1 k hk') (owns_lt (h.inn g hg).1 k hk'), (h.inn g hg).2⟩⟩
theorem TOwn.step {u v : World} {b base : Nat} {vr : Value} {G : List GRow} (h : TOwn u base vr G) (hb : b < base) (hs : StepT b u v) : TOwn v base vr G := h.keep fun k h1 h2 => hs.block k h2 (by omega)
theorem TOwn.set {u : World} {base V o : Nat} {vr : Value} {G : List GRow} (h : TOwn u base vr G) (hV : V < base) (y : Value) : TOwn (u.setCell ⟨V, o, none⟩ y) base vr G := h.keep fun k h1 _ => Below.heap_setCell _ _ _ _ (by show k ≠ V; omega)
theorem TOwn.shape {u : World} {base : Nat} {vr : Value} {G : List GRow} (h : TOwn u base vr G) : vr = .slice (rowP vr) G.length (rowC vr) := by
  rcases h.own.2 with ⟨rfl, h0⟩ | ⟨g, cap', cur, rfl, -⟩
  · rw [h0]; rfl
  · rfl
theorem TOwn.rows {u : World} {base : Nat} {vr : Value} {G : List GRow} (h : TOwn u base vr G) : TRowsAt u (rowP vr) (tabR G) := by
  intro i hi
  have hi' : i < G.length := by unfold tabR at hi; rw [List.length_map] at hi; exact hi
  rw [tabR_at hi']
  obtain ⟨hv, hr, hn⟩ := owned_shape (h.inn _ (grAt_mem hi')).1
  have hl := (h.inn _ (grAt_mem hi')).2
  rcases h.own.2 with ⟨-, h0⟩ | ⟨g, cap', cur, rfl, hg, hh, hcap, hm, hcur, htake⟩
  · omega
  · have hget : ∀ j, j < G.length * 2 → cur[j]? = (tcells G)[j]? := fun j hj => by
      rw [← htake, List.getElem?_take, if_pos hj]; simp
    obtain ⟨c0, c1⟩ := tcells_at G i hi'
    refine ⟨g, 0, _, _, rfl, (Array.getElem?_eq_some_iff.1 hh).1, ?_, ?_, hr, hl, hn⟩
    · rw [Nat.zero_add]
      simp only [World.cell?, hh]
      rw [if_neg (by simp), hget _ (by omega), c0]
    · rw [Nat.zero_add]
      simp only [World.cell?, hh]
      rw [if_neg (by simp), hget _ (by omega), c1, ← hv]
theorem tabR_length (G : List GRow) : (tabR G).length = G.length := by unfold tabR; rw [List.length_map]
theorem trow_news {w : World} {N : Nat} {id : Int} {y : Value} (h0 : w.cell? ⟨N, 0, none⟩ = some (.int .i64 id)) (h1 : w.cell? ⟨N, 1, none⟩ = some y) : ∀ j u, ([.int .i64 id, y] : List Value)[j]? = some u → w.cell? ((⟨N, 0, none⟩ : Addr).add j) = some u := by
  intro j u hj
  have hlt := (List.getElem?_eq_some_iff.1 hj).1
  have hadd : (⟨N, 0, none⟩ : Addr).add j = ⟨N, j, none⟩ := by unfold Addr.add; split <;> simp_all
  rw [hadd]
  match j, hlt with
  | 0, _ => rw [h0]; exact hj
  | 1, _ => rw [h1]; exact hj
theorem wpList_append_trow {w : World} {ops : Array Oper} {rest : List Oper} {o : Oper} {a : Act} {Q : Exit → Act → World → Prop} (hgd : o.guard = none) (s x : Operand)
    (ho : o.op = .call { callee := .builtin .append, args := #[s, x], argTypes := #[25, 25] })
    (base : Nat) (v : Value) (G : List GRow) (hs : a.eval s = v) (hown : w.ownsRow base 54 2 v G.length (tcells G))
    (N : Nat) (id : Int) (y : Value) (l : List Val) (hx : a.eval x = .slice (some ⟨N, 0, none⟩) 1 1) (h0 : w.cell? ⟨N, 0, none⟩ = some (.int .i64 id)) (h1 : w.cell? ⟨N, 1, none⟩ = some y) (hy : y.oneCell' = true) (hsum : (G.length + 1) * 32 ≤ 140737488355328) (hbase : base ≤ w.heap.size)
    (h : ∀ v' w', w'.ownsRow base 54 2 v' (G ++ [(id, y, l)]).length (tcells (G ++ [(id, y, l)])) → w.grownBy w' v.ownBlock → wpList Tryd.prog ops Q rest (a.put o.dst v') w') : wpList Tryd.prog ops Q (o :: rest) a w := by
  obtain ⟨i0, hi, hz0, hz1, hz2⟩ := info_parts info_trow
  refine wpList_append_own w hgd s x 25 ho base 54 i0 _ 2 32 Tryd.underlying25 hi hz0 hz1 hz2 rfl (by decide) v G.length (tcells G) hs hown ⟨N, 0, none⟩ 1 1 [.int .i64 id, y] hx rfl (trow_news h0 h1) (fun u hu => by
    rcases List.mem_cons.1 hu with rfl | hu
    · rfl
    · obtain rfl := List.mem_singleton.1 hu
      exact hy) (by unfold maxLen; omega) hsum hbase ?_
  intro v' w' h1 h2 _
  refine h v' w' ?_ h2
  rw [List.length_append, List.length_singleton, tcells_append]
  exact h1
theorem InRow.apartT {u v : World} {base base' n : Nat} {vo : Value} {xs : List Value} {x : Value × List Val} (h : InRow u base x) (ho : u.ownsRow base' 54 2 vo n xs) (hb : ∀ k, k < u.heap.size → vo.ownBlock ≠ some k → v.heap[k]? = u.heap[k]?) : InRow v base x :=
  ⟨owns_keep h.1 fun k hk => hb k (owns_lt h.1 k hk) (owns_apart h.1 ho (by decide) k hk), h.2⟩
theorem TOwn.push {u w8 : World} {base : Nat} {vr v8 : Value} {G : List GRow} {g : GRow} {o : Obj} (h : TOwn u base vr G) (hz : InRow u base (g.2.1, g.2.2))
    (ho : w8.ownsRow base 54 2 v8 (G ++ [g]).length (tcells (G ++ [g]))) (hg : (u.alloc o).grownBy w8 vr.ownBlock) : TOwn w8 base v8 (G ++ [g]) := by
  have h7 := h.low (below_alloc u o)
  have hz7 := hz.low (below_alloc u o)
  have hin : ∀ q, InRow (u.alloc o) base q → InRow w8 base q := fun q hq => hq.apartT h7.own fun k hk hne => hg.block k hk (fun e => hne e.symm)
  refine ⟨ho, fun q hq => ?_⟩
  rcases List.mem_append.1 hq with hq | hq
  · exact hin _ (h7.inn q hq)
  · obtain rfl := List.mem_singleton.1 hq
    exact hin _ hz7
theorem Cell4.grown {u v : World} {X : Nat} {x y z t : Value} {row : Option Nat} (h : Cell4 u X x y z t) (hg : u.grownBy v row) (hr : ∀ k, row = some k → X < k) : Cell4 v X x y z t := by
  have hb := hg.block X h.lt (fun e => by have := hr X e.symm; omega)
  exact ⟨Nat.lt_of_lt_of_le h.lt hg.size, by rw [World.cell?_of_block (w := u) hb]; exact h.c0, by rw [World.cell?_of_block (w := u) hb]; exact h.c1, by rw [World.cell?_of_block (w := u) hb]; exact h.c2, by rw [World.cell?_of_block (w := u) hb]; exact h.c3, fun o => by rw [World.frozen?_of_block (w := u) hb]; exact h.fz o⟩
theorem TOwn.ex {u : World} {base : Nat} {vr : Value} {G : List GRow} (h : TOwn u base vr G) : ∃ p c, vr = .slice p G.length c := ⟨_, _, h.shape⟩
theorem tabR_append (G H : List GRow) : tabR (G ++ H) = tabR G ++ tabR H := List.map_append
theorem TRowsAt.take {w : World} {p : Option Addr} {R : List TRow} (h : TRowsAt w p R) (m : Nat) : TRowsAt w p (R.take m) := by
  intro i hi
  rw [List.length_take] at hi
  have hi' : i < R.length := by omega
  have e : tAt (R.take m) i = tAt R i := by rw [tAt_get (by rw [List.length_take]; omega), tAt_get hi', List.getElem_take]
  rw [e]
  exact h i hi'
end Go.Proofs.YtidgfmjbfcgfiaaDoor
/-
  The tables of the world: the name of one, a table that is built row by row.
-/
namespace Go.Proofs.YtidgfmjbfcgfiaaDoor
set_option maxRecDepth 100000
open Go.RowKit
variable {ls : List Nat}

def TablePost (b : Nat) (w : World) (e : Ending) (w' : World) : Prop := ∃ q : Nat, e = .returned (.string (wsNm q)) ∧ q < 3 ∧ TapeAt w' b ∧ StepT b w w'
set_option maxHeartbeats 1000000 in
theorem table_any (b : Nat) (w : World) (ht : TapeAt w b) :
    Calls Tryd.prog 10 #[.pointer (some ⟨b, 0, none⟩)] w (TablePost b w) := by
  have hlt := ht.lt
  have HB := Lib.hid ((StepT.refl b w).alloc (.cells #[.string ⟨#[116]⟩, .string ⟨#[117]⟩, .string ⟨#[108, 111, 103]⟩] 9))
  have HT := Lib.hid (ht.alloc (.cells #[.string ⟨#[116]⟩, .string ⟨#[117]⟩, .string ⟨#[108, 111, 103]⟩] 9))
  have h0 : ∀ i : Nat, i < 3 → (w.alloc (.cells #[.string ⟨#[116]⟩, .string ⟨#[117]⟩, .string ⟨#[108, 111, 103]⟩] 9)).cell? ⟨w.heap.size, i, none⟩ = some (.string (wsNm i)) := by
    intro i hi
    obtain rfl | rfl | rfl : i = 0 ∨ i = 1 ∨ i = 2 := by omega
    all_goals go_simp; rfl
  have H0 := Lib.hid h0
  clear h0 ht
  go_enter Tryd.func10, Tryd.ntmps10
  go_wp2_with fail
  refine (next_any b _ _ (by omega) (by omega) HT.out).mono ?_
  rintro e w' ⟨r, rfl, hr0, hr1, ht1, hs1⟩
  obtain ⟨q, rfl⟩ : ∃ q : Nat, r = q := ⟨r.toNat, by omega⟩
  have hc := H0.out q (by omega)
  have hc2 : w'.cell? ⟨w.heap.size, q, none⟩ = some (.string (wsNm q)) := by
    rw [hs1.cell (by show w.heap.size < _; rw [size_alloc]; omega) (by show w.heap.size ≠ b; omega)]; exact hc
  have HT1 := Lib.hid ht1
  have HS1 := Lib.hid (HB.out.trans hs1)
  clear ht1 hs1 hc H0 HB HT
  go_wp2
  go_ret
  exact ⟨q, rfl, by omega, HT1.out, HS1.out⟩

/-- What a table holds while it is built. -/
structure GoodT (f : Nat → Col) (n : Nat) (m : Nat) (nx : Int) (R : List TRow) : Prop where
  lo : 1 ≤ nx
  hi : nx ≤ 3 + 2 * m
  len : R.length ≤ m
  ok : ∀ i, i < R.length → RowOK f n nx R i
  dup : (keysR (findKey f n) R).Nodup
  sized : ∀ r ∈ R, ValsSized r.2
theorem GoodT.nil {f : Nat → Col} {n : Nat} {nx : Int} (h1 : 1 ≤ nx) (h2 : nx ≤ 3) : GoodT f n 0 nx [] := ⟨h1, by omega, Nat.le_refl _, fun i hi => by simp at hi, List.nodup_nil, fun r hr => by cases hr⟩
theorem GoodT.keep {f : Nat → Col} {n m : Nat} {nx nx' : Int} {R : List TRow} (h : GoodT f n m nx R) (h1 : nx ≤ nx') (h2 : nx' ≤ nx + 2) : GoodT f n (m + 1) nx' R :=
  ⟨by have := h.lo; omega, by have := h.hi; omega, by have := h.len; omega, fun i hi => by obtain ⟨a, b, c, d⟩ := h.ok i hi; exact ⟨a, by omega, c, d⟩, h.dup, h.sized⟩
theorem keysR_add (k : Int) (R : List TRow) (r : TRow) : keysR k (R ++ [r]) = keysR k R ++ (keyV k r.2).toList := by
  unfold keysR
  rw [List.filterMap_append]
  cases hk : keyV k r.2 with
  | none => rw [List.filterMap_cons_none (by exact hk)]; rfl
  | some v => rw [List.filterMap_cons_some (by exact hk)]; rfl
theorem GoodT.add {f : Nat → Col} {n m : Nat} {nx nx' : Int} {R : List TRow} {r : List Val} (h : GoodT f n m nx R) (hr : fitsRow f n r = 0) (hs : ValsSized r) (hk : ∀ i, i < R.length → ∀ v, keyV (findKey f n) r = some v → keyV (findKey f n) (tAt R i).2 ≠ some v) (h1 : nx + 1 ≤ nx') (h2 : nx' ≤ nx + 2) : GoodT f n (m + 1) nx' (R ++ [(nx, r)]) := by
  have hlo := h.lo
  refine ⟨by omega, by have := h.hi; omega, by rw [List.length_append, List.length_singleton]; have := h.len; omega, fun i hi => ?_, ?_, fun x hx => ?_⟩
  · rw [List.length_append, List.length_singleton] at hi
    unfold RowOK
    by_cases hin : i < R.length
    · obtain ⟨a, b, c, d⟩ := h.ok i hin
      rw [tAt_left hin]
      exact ⟨a, by omega, fun h0 => by rw [tAt_left (by omega)]; exact c h0, d⟩
    · obtain rfl : i = R.length := by omega
      rw [tAt_last]
      refine ⟨hlo, by show nx < nx'; omega, fun h0 => ?_, hr⟩
      rw [tAt_left (by omega)]
      exact (h.ok (R.length - 1) (by omega)).2.1
  · rw [keysR_add, List.nodup_append]
    refine ⟨h.dup, ?_, fun a ha b hb => ?_⟩
    · cases keyV (findKey f n) r <;> simp
    · rintro rfl
      cases hkr : keyV (findKey f n) r with
      | none => rw [hkr] at hb; simp at hb
      | some v =>
        rw [hkr] at hb
        have hb2 : a = v := by simpa using hb
        subst hb2
        unfold keysR at ha
        obtain ⟨x, hx, hxa⟩ := List.mem_filterMap.1 ha
        obtain ⟨i, hi, rfl⟩ := List.getElem_of_mem hx
        exact hk i hi _ hkr (by rw [tAt_get hi]; exact hxa)
  · rcases List.mem_append.1 hx with hx | hx
    · exact h.sized x hx
    · obtain rfl := List.mem_singleton.1 hx
      exact hs
theorem GoodT.valid {f : Nat → Col} {n m : Nat} {nx : Int} {R : List TRow} {nm : ByteArray} (h : GoodT f n m nx R) (hm : m ≤ 50) (hs : schemaOK nm n f = true) : validT nm n f nx R = true := by
  rw [validT_dup hs ⟨by have := h.len; omega, h.lo, by have := h.hi; omega⟩ h.ok, dupR_no h.dup]
  rfl

/-- Is a row's key none of the first d rows'? -/
def freshB (k : Int) (R : List TRow) (r : List Val) (d : Nat) : Bool := decide (k < 0 ∨ ∀ i, i < d → keyV k (tAt R i).2 ≠ keyV k r)
theorem freshB_zero (k : Int) (R : List TRow) (r : List Val) : freshB k R r 0 = true := decide_eq_true (.inr fun i hi => by omega)
theorem freshB_neg {k : Int} {R : List TRow} {r : List Val} {d : Nat} (h : k < 0) : freshB k R r d = true := decide_eq_true (.inl h)
theorem freshB_not {k : Int} {R : List TRow} {r : List Val} {d : Nat} (h : freshB k R r d = false) : freshB k R r (d + 1) = false := by
  unfold freshB at h ⊢
  apply decide_eq_false
  rintro (h2 | h2)
  · exact of_decide_eq_false h (.inl h2)
  · exact of_decide_eq_false h (.inr fun i hi => h2 i (by omega))
theorem freshB_hit {k : Nat} {R : List TRow} {r : List Val} {d : Nat} (h1 : k < (tAt R d).2.length) (h2 : k < r.length) (he : vAt (tAt R d).2 k = vAt r k) : freshB k R r (d + 1) = false := by
  apply decide_eq_false
  rintro (h | h)
  · omega
  · exact h d (Nat.lt_succ_self _) (by rw [keyV_some h1, keyV_some h2, he])
theorem freshB_miss {k : Nat} {R : List TRow} {r : List Val} {d : Nat} (h : freshB k R r d = true) (h1 : k < (tAt R d).2.length) (h2 : k < r.length) (he : vAt (tAt R d).2 k ≠ vAt r k) : freshB k R r (d + 1) = true := by
  have h' := of_decide_eq_true h
  apply decide_eq_true
  rcases h' with h' | h'
  · omega
  · refine .inr fun i hi => ?_
    by_cases hid : i < d
    · exact h' i hid
    · obtain rfl : i = d := by omega
      rw [keyV_some h1, keyV_some h2]
      exact fun e => he (Option.some.inj e)
theorem freshB_all {k : Int} {R : List TRow} {r : List Val} (h : freshB k R r R.length = true) : ∀ i, i < R.length → ∀ v, keyV k r = some v → keyV k (tAt R i).2 ≠ some v := by
  intro i hi v hv
  rcases of_decide_eq_true h with h' | h'
  · rw [keyV_neg h'] at hv; cases hv
  · rw [← hv]; exact h' i hi

/-- The first key column of a schema in which there is one at most. -/
theorem findKey_zero (f : Nat → Col) : findKey f 0 = -1 := rfl
theorem findKey_add {f : Nat → Col} {n : Nat} (hg : Good f n) : findKey f (n + 1) = if (f n).key then (n : Int) else findKey f n := by
  cases hk : (f n).key
  · show findI _ _ = findI _ _
    unfold findI
    rw [List.range_succ, List.find?_append, List.find?_cons_of_neg (by rw [hk]; decide)]
    cases (List.range n).find? fun i => (f i).key <;> rfl
  · exact findI_hit (P := fun i => (f i).key) (Nat.lt_succ_self _) hk (hg.2.2 hk)
theorem schemaOK_good {nm : ByteArray} {n : Nat} {f : Nat → Col} (h : schemaOK nm n f = true) : ∀ i, i < n → Good f i := by
  unfold schemaOK at h
  simp only [Bool.and_eq_true, decide_eq_true_eq] at h
  exact h.2
theorem Good.ty {f : Nat → Col} {i : Nat} (h : Good f i) : 1 ≤ (f i).ty ∧ (f i).ty ≤ 3 := by
  have h1 := h.1
  unfold colOK at h1
  simp only [Bool.and_eq_true] at h1
  have h2 := h1.1.2
  unfold tyOK at h2
  simpa using h2
end Go.Proofs.YtidgfmjbfcgfiaaDoor
