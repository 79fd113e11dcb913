/-
  Several texts in one.
-/
import Derived.Test.YtgaihglploedaaaPk09
import Derived.Test.YtgaihglploedaaaPk10
import Derived.Test.YtgaihglploedaaaPk03
import Derived.Test.YtgaihglploedaaaPk08
import Derived.MapKept
import Derived.ChangeKeysEq
import Derived.Carry
/-
  Row of the tape: a row that fits a schema.
-/
namespace Go.Proofs.Ytgaihglploedaaa
set_option maxRecDepth 100000
open Go.RowKit
variable {ls : List Nat}

end Go.Proofs.Ytgaihglploedaaa
/-
  Rows with numbers of the call's own: their cells, append.
-/
namespace Go.Proofs.Ytgaihglploedaaa
set_option maxRecDepth 100000
open Go.RowKit
variable {ls : List Nat}

/-- A row of the call's own: its number, its slice, its values. -/
abbrev GRow := Int × Value × List Val
def tcells (G : List GRow) : List Value := G.flatMap fun g => [.int .i64 g.1, g.2.1]
def tabR (G : List GRow) : List TRow := G.map fun g => (g.1, g.2.2)
theorem tcells_length (G : List GRow) : (tcells G).length = G.length * 2 := by
  induction G with
  | nil => rfl
  | cons g G ih => show (_ :: _ :: tcells G).length = _; rw [List.length_cons, List.length_cons, ih, List.length_cons]; omega
theorem tcells_append (G H : List GRow) : tcells (G ++ H) = tcells G ++ tcells H := List.flatMap_append
def grAt (G : List GRow) (i : Nat) : GRow := G.getD i (0, .slice none 0 0, [])
theorem grAt_mem {G : List GRow} {i : Nat} (h : i < G.length) : grAt G i ∈ G := by unfold grAt; rw [List.getD, List.getElem?_eq_getElem h]; exact List.getElem_mem h
theorem tabR_at {G : List GRow} {i : Nat} (h : i < G.length) : tAt (tabR G) i = ((grAt G i).1, (grAt G i).2.2) := by
  unfold tAt tabR grAt
  rw [List.getD, List.getD, List.getElem?_map, List.getElem?_eq_getElem h]
  rfl
theorem tcells_at (G : List GRow) (i : Nat) (h : i < G.length) : (tcells G)[i * 2]? = some (.int .i64 (grAt G i).1) ∧ (tcells G)[i * 2 + 1]? = some (grAt G i).2.1 := by
  induction G generalizing i with
  | nil => simp at h
  | cons g G ih =>
    have e : tcells (g :: G) = .int .i64 g.1 :: g.2.1 :: tcells G := rfl
    rw [e]
    cases i with
    | zero => exact ⟨rfl, rfl⟩
    | succ i =>
      rw [List.length_cons] at h
      have := ih i (by omega)
      rw [show (i + 1) * 2 = i * 2 + 1 + 1 by omega]
      exact this
theorem info_trow : (Try.prog.info? 34).map (fun i => (i.zero, i.size, i.bytes)) = some (some (.agg #[.int .i64 0, .slice none 0 0]), 2, 32) := by kernel_rfl

/-- Rows of the call's own. -/
structure TOwn (u : World) (base : Nat) (vr : Value) (G : List GRow) : Prop where
  own : u.ownsRow base 34 2 vr G.length (tcells G)
  inn : ∀ g ∈ G, InRow u base (g.2.1, g.2.2)
theorem TOwn.nil (u : World) (base : Nat) : TOwn u base (.slice none 0 0) [] := ⟨⟨rfl, Or.inl ⟨rfl, rfl⟩⟩, fun g hg => by cases hg⟩
theorem TOwn.low {u v : World} {base : Nat} {vr : Value} {G : List GRow} (h : TOwn u base vr G) (hb : Below u.heap.size u v) : TOwn v base vr G := ⟨owns_below h.own hb, fun g hg => (h.inn g hg).low hb⟩
theorem TOwn.base {u : World} {b b' : Nat} {vr : Value} {G : List GRow} (h : TOwn u b vr G) (hb : b' ≤ b) : TOwn u b' vr G := ⟨owns_base h.own hb, fun g hg => (h.inn g hg).base hb⟩
theorem TOwn.keep {u v : World} {base : Nat} {vr : Value} {G : List GRow} (h : TOwn u base vr G) (hk : ∀ k, base ≤ k → k < u.heap.size → v.heap[k]? = u.heap[k]?) : TOwn v base vr G :=
  ⟨owns_keep h.own fun k hk' => hk k (owns_block h.own k hk') (owns_lt h.own k hk'), fun g hg => ⟨owns_keep (h.inn g hg).1 fun k hk' => hk k (owns_block (h.inn g hg).1 k hk') (owns_lt (h.inn g hg).1 k hk'), (h.inn g hg).2⟩⟩
theorem TOwn.step {u v : World} {b base : Nat} {vr : Value} {G : List GRow} (h : TOwn u base vr G) (hb : b < base) (hs : StepT b u v) : TOwn v base vr G := h.keep fun k h1 h2 => hs.block k h2 (by omega)
theorem TOwn.set {u : World} {base V o : Nat} {vr : Value} {G : List GRow} (h : TOwn u base vr G) (hV : V < base) (y : Value) : TOwn (u.setCell ⟨V, o, none⟩ y) base vr G := h.keep fun k h1 _ => Below.heap_setCell _ _ _ _ (by show k ≠ V; omega)
theorem TOwn.shape {u : World} {base : Nat} {vr : Value} {G : List GRow} (h : TOwn u base vr G) : vr = .slice (rowP vr) G.length (rowC vr) := by
  rcases h.own.2 with ⟨rfl, h0⟩ | ⟨g, cap', cur, rfl, -⟩
  · rw [h0]; rfl
  · rfl
theorem TOwn.rows {u : World} {base : Nat} {vr : Value} {G : List GRow} (h : TOwn u base vr G) : TRowsAt u (rowP vr) (tabR G) := by
  intro i hi
  have hi' : i < G.length := by unfold tabR at hi; rw [List.length_map] at hi; exact hi
  rw [tabR_at hi']
  obtain ⟨hv, hr, hn⟩ := owned_shape (h.inn _ (grAt_mem hi')).1
  have hl := (h.inn _ (grAt_mem hi')).2
  rcases h.own.2 with ⟨-, h0⟩ | ⟨g, cap', cur, rfl, hg, hh, hcap, hm, hcur, htake⟩
  · omega
  · have hget : ∀ j, j < G.length * 2 → cur[j]? = (tcells G)[j]? := fun j hj => by
      rw [← htake, List.getElem?_take, if_pos hj]; simp
    obtain ⟨c0, c1⟩ := tcells_at G i hi'
    refine ⟨g, 0, _, _, rfl, (Array.getElem?_eq_some_iff.1 hh).1, ?_, ?_, hr, hl, hn⟩
    · rw [Nat.zero_add]
      simp only [World.cell?, hh]
      rw [if_neg (by simp), hget _ (by omega), c0]
    · rw [Nat.zero_add]
      simp only [World.cell?, hh]
      rw [if_neg (by simp), hget _ (by omega), c1, ← hv]
theorem tabR_length (G : List GRow) : (tabR G).length = G.length := by unfold tabR; rw [List.length_map]
theorem trow_news {w : World} {N : Nat} {id : Int} {y : Value} (h0 : w.cell? ⟨N, 0, none⟩ = some (.int .i64 id)) (h1 : w.cell? ⟨N, 1, none⟩ = some y) : ∀ j u, ([.int .i64 id, y] : List Value)[j]? = some u → w.cell? ((⟨N, 0, none⟩ : Addr).add j) = some u := by
  intro j u hj
  have hlt := (List.getElem?_eq_some_iff.1 hj).1
  have hadd : (⟨N, 0, none⟩ : Addr).add j = ⟨N, j, none⟩ := by unfold Addr.add; split <;> simp_all
  rw [hadd]
  match j, hlt with
  | 0, _ => rw [h0]; exact hj
  | 1, _ => rw [h1]; exact hj
theorem wpList_append_trow {w : World} {ops : Array Oper} {rest : List Oper} {o : Oper} {a : Act} {Q : Exit → Act → World → Prop} (hgd : o.guard = none) (s x : Operand)
    (ho : o.op = .call { callee := .builtin .append, args := #[s, x], argTypes := #[27, 27] })
    (base : Nat) (v : Value) (G : List GRow) (hs : a.eval s = v) (hown : w.ownsRow base 34 2 v G.length (tcells G))
    (N : Nat) (id : Int) (y : Value) (l : List Val) (hx : a.eval x = .slice (some ⟨N, 0, none⟩) 1 1) (h0 : w.cell? ⟨N, 0, none⟩ = some (.int .i64 id)) (h1 : w.cell? ⟨N, 1, none⟩ = some y) (hy : y.oneCell' = true) (hsum : (G.length + 1) * 32 ≤ 140737488355328) (hbase : base ≤ w.heap.size)
    (h : ∀ v' w', w'.ownsRow base 34 2 v' (G ++ [(id, y, l)]).length (tcells (G ++ [(id, y, l)])) → w.grownBy w' v.ownBlock → wpList Try.prog ops Q rest (a.put o.dst v') w') : wpList Try.prog ops Q (o :: rest) a w := by
  obtain ⟨i0, hi, hz0, hz1, hz2⟩ := info_parts info_trow
  refine wpList_append_own w hgd s x 27 ho base 34 i0 _ 2 32 Try.underlying27 hi hz0 hz1 hz2 rfl (by decide) v G.length (tcells G) hs hown ⟨N, 0, none⟩ 1 1 [.int .i64 id, y] hx rfl (trow_news h0 h1) (fun u hu => by
    rcases List.mem_cons.1 hu with rfl | hu
    · rfl
    · obtain rfl := List.mem_singleton.1 hu
      exact hy) (by unfold maxLen; omega) hsum hbase ?_
  intro v' w' h1 h2 _
  refine h v' w' ?_ h2
  rw [List.length_append, List.length_singleton, tcells_append]
  exact h1
theorem InRow.apartT {u v : World} {base base' n : Nat} {vo : Value} {xs : List Value} {x : Value × List Val} (h : InRow u base x) (ho : u.ownsRow base' 34 2 vo n xs) (hb : ∀ k, k < u.heap.size → vo.ownBlock ≠ some k → v.heap[k]? = u.heap[k]?) : InRow v base x :=
  ⟨owns_keep h.1 fun k hk => hb k (owns_lt h.1 k hk) (owns_apart h.1 ho (by decide) k hk), h.2⟩
theorem TOwn.push {u w8 : World} {base : Nat} {vr v8 : Value} {G : List GRow} {g : GRow} {o : Obj} (h : TOwn u base vr G) (hz : InRow u base (g.2.1, g.2.2))
    (ho : w8.ownsRow base 34 2 v8 (G ++ [g]).length (tcells (G ++ [g]))) (hg : (u.alloc o).grownBy w8 vr.ownBlock) : TOwn w8 base v8 (G ++ [g]) := by
  have h7 := h.low (below_alloc u o)
  have hz7 := hz.low (below_alloc u o)
  have hin : ∀ q, InRow (u.alloc o) base q → InRow w8 base q := fun q hq => hq.apartT h7.own fun k hk hne => hg.block k hk (fun e => hne e.symm)
  refine ⟨ho, fun q hq => ?_⟩
  rcases List.mem_append.1 hq with hq | hq
  · exact hin _ (h7.inn q hq)
  · obtain rfl := List.mem_singleton.1 hq
    exact hin _ hz7
theorem Cell4.grown {u v : World} {X : Nat} {x y z t : Value} {row : Option Nat} (h : Cell4 u X x y z t) (hg : u.grownBy v row) (hr : ∀ k, row = some k → X < k) : Cell4 v X x y z t := by
  have hb := hg.block X h.lt (fun e => by have := hr X e.symm; omega)
  exact ⟨Nat.lt_of_lt_of_le h.lt hg.size, by rw [World.cell?_of_block (w := u) hb]; exact h.c0, by rw [World.cell?_of_block (w := u) hb]; exact h.c1, by rw [World.cell?_of_block (w := u) hb]; exact h.c2, by rw [World.cell?_of_block (w := u) hb]; exact h.c3, fun o => by rw [World.frozen?_of_block (w := u) hb]; exact h.fz o⟩
theorem TOwn.ex {u : World} {base : Nat} {vr : Value} {G : List GRow} (h : TOwn u base vr G) : ∃ p c, vr = .slice p G.length c := ⟨_, _, h.shape⟩
theorem tabR_append (G H : List GRow) : tabR (G ++ H) = tabR G ++ tabR H := List.map_append
theorem TRowsAt.take {w : World} {p : Option Addr} {R : List TRow} (h : TRowsAt w p R) (m : Nat) : TRowsAt w p (R.take m) := by
  intro i hi
  rw [List.length_take] at hi
  have hi' : i < R.length := by omega
  have e : tAt (R.take m) i = tAt R i := by rw [tAt_get (by rw [List.length_take]; omega), tAt_get hi', List.getElem_take]
  rw [e]
  exact h i hi'
end Go.Proofs.Ytgaihglploedaaa
/-
  A map from values to truths that the call makes: what it holds, by the list of its keys.
-/
namespace Go.Proofs.Ytgaihglploedaaa
set_option maxRecDepth 100000
open Go.RowKit
variable {ls : List Nat}

def valV (v : Val) : Value := .agg #[.int .i64 v.1, .int .i64 v.2.1, .string v.2.2]
theorem same_dec (a b : Val) : sameV a.1 a.2.1 a.2.2 b.1 b.2.1 b.2.2 = decide (a = b) := by
  by_cases h : a = b
  · rw [decide_eq_true h, same_vals.2 h]
  · rw [decide_eq_false h, Bool.eq_false_iff]
    exact fun hc => h (same_vals.1 hc)
theorem check_val (em : Bool) (v : Val) (w : World) : (Instr.checkKey em 10000 31 (valV v)).run Try.prog w = .ok () w := by
  unfold valV
  rw [show (10000 : Nat) = 9998 + 1 + 1 from rfl, Instr.checkKey]
  simp only [Sem.run_bind, run_underlying Try.underlying31, Result.andThen]
  have c0 : ∀ x : Int, (Instr.checkKey em (9998 + 1) 3 (.int .i64 x)).run Try.prog w = .ok () w := fun x => MapKept.run_checkKey Try.underlying3 (show MapKept.IsKey (.int .i64) (.int .i64 x) from rfl) em 9998
  have c1 : ∀ x : Int, (Instr.checkKey em (9998 + 1) 2 (.int .i64 x)).run Try.prog w = .ok () w := fun x => MapKept.run_checkKey Try.underlying2 (show MapKept.IsKey (.int .i64) (.int .i64 x) from rfl) em 9998
  have c2 : ∀ x : ByteArray, (Instr.checkKey em (9998 + 1) 9 (.string x)).run Try.prog w = .ok () w := fun x => MapKept.run_checkKey Try.underlying9 (show MapKept.IsKey .string (.string x) from trivial) em 9998
  have p0 : (part 3 #[.int .i64 v.1, .int .i64 v.2.1, .string v.2.2] 0).run Try.prog w = .ok (.int .i64 v.1) w := run_part_plain w (by kernel_rfl) rfl
  have p1 : (part 2 #[.int .i64 v.1, .int .i64 v.2.1, .string v.2.2] 1).run Try.prog w = .ok (.int .i64 v.2.1) w := run_part_plain w (by kernel_rfl) rfl
  have p2 : (part 9 #[.int .i64 v.1, .int .i64 v.2.1, .string v.2.2] 2).run Try.prog w = .ok (.string v.2.2) w := run_part_plain w (by kernel_rfl) rfl
  rw [← Array.forIn_toList]
  simp [List.forIn_cons, Sem.run_bind, p0, p1, p2, c0, c1, c2, Result.andThen]
theorem equal_val (a b : Val) (w : World) : (Op.equal 31 (valV a) (valV b)).run Try.prog w = .ok (decide (a = b)) w := by
  have h := eql_val a.1 a.2.1 a.2.2 b.1 b.2.1 b.2.2 w
  rw [run_eql_struct, same_dec] at h
  unfold valV Op.equal Op.maxDepth
  generalize (Op.equalIn 10000 31 _ _).run Try.prog w = r at h ⊢
  cases r with
  | halt _ _ => simp [Result.andThen] at h
  | ok b' w' =>
    simp only [Result.andThen, Result.ok.injEq, Value.bool.injEq] at h
    rw [h.1, h.2]
/-- A value is looked for among the keys. -/
theorem asking_val (v : Val) (w : World) : ∀ (es : List MapEntry) (S : List Val) (i : Nat), es.map (·.key) = S.map valV → (∀ e ∈ es, e.val = .bool true) →
    (v ∉ S ∧ (Instr.findAsking 31 (valV v) es i).run Try.prog w = .ok none w) ∨ (v ∈ S ∧ ∃ j, (Instr.findAsking 31 (valV v) es i).run Try.prog w = .ok (some (j, .bool true)) w)
  | [], S, i, hk, hv => by
    have : S = [] := by cases S with
      | nil => rfl
      | cons x S => simp at hk
    subst this
    exact .inl ⟨by simp, by simp [Instr.findAsking]⟩
  | e :: es, S, i, hk, hv => by
    cases S with
    | nil => simp at hk
    | cons x S =>
      rw [List.map_cons, List.map_cons] at hk
      injection hk with hk1 hk2
      have he := equal_val v x w
      rw [← hk1] at he
      by_cases hx : v = x
      · rw [decide_eq_true hx] at he
        refine .inr ⟨by rw [hx]; exact List.mem_cons_self, i, ?_⟩
        have hev := hv e List.mem_cons_self
        simp [Instr.findAsking, he, hev, Result.andThen]
      · rw [decide_eq_false hx] at he
        have hrun : (Instr.findAsking 31 (valV v) (e :: es) i).run Try.prog w = (Instr.findAsking 31 (valV v) es (i + 1)).run Try.prog w := by simp [Instr.findAsking, he, Result.andThen]
        rcases asking_val v w es S (i + 1) hk2 (fun y hy => hv y (List.mem_cons_of_mem _ hy)) with ⟨h1, h2⟩ | ⟨h1, j, h2⟩
        · exact .inl ⟨by simp [hx, h1], by rw [hrun, h2]⟩
        · exact .inr ⟨List.mem_cons_of_mem _ h1, j, by rw [hrun, h2]⟩
theorem find_val (v : Val) (w : World) (es : List MapEntry) (S : List Val) (hk : es.map (·.key) = S.map valV) (hv : ∀ e ∈ es, e.val = .bool true) :
    (v ∉ S ∧ (Instr.findKey 31 (valV v) es).run Try.prog w = .ok none w) ∨ (v ∈ S ∧ ∃ j, (Instr.findKey 31 (valV v) es).run Try.prog w = .ok (some (j, .bool true)) w) := by
  cases es with
  | nil =>
    have : S = [] := by cases S with
      | nil => rfl
      | cons x S => simp at hk
    subst this
    exact .inl ⟨by simp, by simp [Instr.findKey, Instr.findNow, run_underlying Try.underlying31, Result.andThen]⟩
  | cons e es =>
    have hrun : (Instr.findKey 31 (valV v) (e :: es)).run Try.prog w = (Instr.findAsking 31 (valV v) (e :: es) 0).run Try.prog w := by
      simp [Instr.findKey, Instr.findNow, Instr.sameNow, run_underlying Try.underlying31, Result.andThen]
    rw [hrun]
    exact asking_val v w _ S 0 hk hv

/-- Block b is a map whose keys are S, all with true. -/
def SeenAt (w : World) (b : Nat) (S : List Val) : Prop := ∃ (es : Array MapEntry) (clock : Nat), w.heap[b]? = some (.map es clock) ∧ es.toList.map (·.key) = S.map valV ∧ ∀ e ∈ es.toList, e.val = .bool true
theorem SeenAt.new (w : World) : SeenAt (w.alloc (.map #[] 0)) w.heap.size [] := ⟨#[], 0, by show (w.heap.push _)[w.heap.size]? = _; simp, rfl, fun e he => by simp at he⟩
theorem SeenAt.lt {w : World} {b : Nat} {S : List Val} (h : SeenAt w b S) : b < w.heap.size := by
  obtain ⟨es, clock, hb, -⟩ := h
  exact (Array.getElem?_eq_some_iff.1 hb).1
theorem SeenAt.low {u v : World} {b : Nat} {S : List Val} (h : SeenAt u b S) (hb : Below u.heap.size u v) : SeenAt v b S := by
  obtain ⟨es, clock, h0, h1, h2⟩ := h
  exact ⟨es, clock, by rw [hb.block b (Array.getElem?_eq_some_iff.1 h0).1]; exact h0, h1, h2⟩
def seenB (v : Val) (S : List Val) : Bool := S.any fun x => decide (x = v)
theorem seenB_iff {v : Val} {S : List Val} : seenB v S = true ↔ v ∈ S := by
  unfold seenB
  rw [List.any_eq_true]
  exact ⟨fun ⟨x, h1, h2⟩ => by have := of_decide_eq_true h2; subst this; exact h1, fun h => ⟨v, h, decide_eq_true rfl⟩⟩
theorem seenB_no {v : Val} {S : List Val} (h : v ∉ S) : seenB v S = false := by rw [Bool.eq_false_iff]; exact fun hc => h (seenB_iff.1 hc)
theorem SeenAt.look {w : World} {b : Nat} {S : List Val} (h : SeenAt w b S) (v : Val) (t : TypeId) (ht : Try.prog.underlying t = some (.map 31 4)) : (Instr.lookup t (.map (some b)) (valV v) false).run Try.prog w = .ok (.bool (seenB v S)) w := by
  obtain ⟨es, clock, hb, hk, hv⟩ := h
  have hz : (zeroValue 4).run Try.prog w = .ok (.bool false) w := by go_simp
  rcases find_val v w es.toList S hk hv with ⟨h1, h2⟩ | ⟨h1, j, h2⟩
  · rw [seenB_no h1]
    simp [Instr.lookup, run_underlying ht, MapKept.run_getObj_map hb, check_val, h2, hz, Result.andThen]
  · rw [seenB_iff.2 h1]
    simp [Instr.lookup, run_underlying ht, MapKept.run_getObj_map hb, check_val, h2, Result.andThen]
/-- The world with one block set. -/
theorem SeenAt.put {w : World} {b : Nat} {S : List Val} (h : SeenAt w b S) (v : Val) (hn : v ∉ S) (t : TypeId) (ht : Try.prog.underlying t = some (.map 31 4)) :
    ∃ w', (Instr.mapUpdate t (.map (some b)) (valV v) (.bool true)).run Try.prog w = .ok () w' ∧ SeenAt w' b (S ++ [v]) ∧ w.grownBy w' (some b) := by
  obtain ⟨es, clock, hb, hk, hv⟩ := h
  rcases find_val v w es.toList S hk hv with ⟨h1, h2⟩ | ⟨h1, -⟩
  · refine ⟨{ w with heap := w.heap.setIfInBounds b (.map (es.push { key := valV v, val := .bool true, born := clock }) (clock + 1)) }, ?_, ?_, ?_⟩
    · simp [Instr.mapUpdate, run_underlying ht, MapKept.run_getObj_map hb, check_val, h2, MapKept.run_setObj_map _ hb, Result.andThen]
    · refine ⟨es.push { key := valV v, val := .bool true, born := clock }, clock + 1, ?_, ?_, ?_⟩
      · have := (Array.getElem?_eq_some_iff.1 hb).1
        simp [this]
      · simp [hk]
      · intro e he
        simp at he
        rcases he with he | rfl
        · exact hv e (by simpa using he)
        · rfl
    · refine ⟨rfl, rfl, rfl, by simp, fun k _ hne => ?_⟩
      have : b ≠ k := fun e => hne (by rw [e])
      simp [this]
  · exact absurd h1 hn
end Go.Proofs.Ytgaihglploedaaa
/-
  Tables: Lookup of the reference.
-/
namespace Go.Proofs.Ytgaihglploedaaa
set_option maxRecDepth 100000
open Go.RowKit
variable {ls : List Nat}

theorem row2_new (w : World) (x y : Value) (t : TypeId) : (w.alloc (.cells #[x, y] t)).cell? ⟨w.heap.size, 0, none⟩ = some x ∧ (w.alloc (.cells #[x, y] t)).cell? ⟨w.heap.size, 1, none⟩ = some y := by
  constructor <;> go_simp
theorem keyV_ne {k : Nat} {l : List Val} {key : Val} (h : k < l.length) (hs : sameV (vAt l k).1 (vAt l k).2.1 (vAt l k).2.2 key.1 key.2.1 key.2.2 = false) : keyV k l ≠ some key := by
  rw [keyV_some h]
  intro he
  have e := Option.some.inj he
  rw [← e, same_vals.2 rfl] at hs
  cases hs
theorem keyV_eq {k : Nat} {l : List Val} {key : Val} (h : k < l.length) (hs : sameV (vAt l k).1 (vAt l k).2.1 (vAt l k).2.2 key.1 key.2.1 key.2.2 = true) : keyV k l = some key := by
  rw [keyV_some h, same_vals.1 hs]
theorem drewN_low {B : Nat} {a w : World} (h : Below B a w) (n : Nat) : Below B a (w.drewN n) := ⟨h.os, h.tape, h.output, h.size, h.block⟩
end Go.Proofs.Ytgaihglploedaaa
