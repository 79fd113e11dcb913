/-
  Several texts in one.
-/
import Derived.Test.YtlpaphgmdcpmaaaGreatDoorPk10
import Derived.Test.YtlpaphgmdcpmaaaGreatDoorPk05
import Derived.Test.YtlpaphgmdcpmaaaGreatDoorPk08
import Derived.MapKept
import Derived.ChangeKeysEq
import Derived.Carry
import Derived.Deep.QuietTactic
import Derived.BigQuiet
/-
  Rows with numbers of the call's own: their cells, append.
-/
namespace Go.Proofs.YtlpaphgmdcpmaaaGreatDoor
set_option maxRecDepth 100000
open Go.RowKit
variable {ls : List Nat}

/-- A row of the call's own: its number, its slice, its values. -/
abbrev GRow := Int × Value × List Val
def tcells (G : List GRow) : List Value := G.flatMap fun g => [.int .i64 g.1, g.2.1]
def tabR (G : List GRow) : List TRow := G.map fun g => (g.1, g.2.2)
theorem tcells_length (G : List GRow) : (tcells G).length = G.length * 2 := by
  induction G with
  | nil => rfl
  | cons g G ih => show (_ :: _ :: tcells G).length = _; rw [List.length_cons, List.length_cons, ih, List.length_cons]; omega
theorem tcells_append (G H : List GRow) : tcells (G ++ H) = tcells G ++ tcells H := List.flatMap_append
def grAt (G : List GRow) (i : Nat) : GRow := G.getD i (0, .slice none 0 0, [])
theorem grAt_mem {G : List GRow} {i : Nat} (h : i < G.length) : grAt G i ∈ G := by unfold grAt; rw [List.getD, List.getElem?_eq_getElem h]; exact List.getElem_mem h
theorem tabR_at {G : List GRow} {i : Nat} (h : i < G.length) : tAt (tabR G) i = ((grAt G i).1, (grAt G i).2.2) := by
  unfold tAt tabR grAt
  rw [List.getD, List.getD, List.getElem?_map, List.getElem?_eq_getElem h]
  rfl
theorem tcells_at (G : List GRow) (i : Nat) (h : i < G.length) : (tcells G)[i * 2]? = some (.int .i64 (grAt G i).1) ∧ (tcells G)[i * 2 + 1]? = some (grAt G i).2.1 := by
  induction G generalizing i with
  | nil => simp at h
  | cons g G ih =>
    have e : tcells (g :: G) = .int .i64 g.1 :: g.2.1 :: tcells G := rfl
    rw [e]
    cases i with
    | zero => exact ⟨rfl, rfl⟩
    | succ i =>
      rw [List.length_cons] at h
      have := ih i (by omega)
      rw [show (i + 1) * 2 = i * 2 + 1 + 1 by omega]
      exact this
theorem tabR_length (G : List GRow) : (tabR G).length = G.length := by unfold tabR; rw [List.length_map]
theorem trow_news {w : World} {N : Nat} {id : Int} {y : Value} (h0 : w.cell? ⟨N, 0, none⟩ = some (.int .i64 id)) (h1 : w.cell? ⟨N, 1, none⟩ = some y) : ∀ j u, ([.int .i64 id, y] : List Value)[j]? = some u → w.cell? ((⟨N, 0, none⟩ : Addr).add j) = some u := by
  intro j u hj
  have hlt := (List.getElem?_eq_some_iff.1 hj).1
  have hadd : (⟨N, 0, none⟩ : Addr).add j = ⟨N, j, none⟩ := by unfold Addr.add; split <;> simp_all
  rw [hadd]
  match j, hlt with
  | 0, _ => rw [h0]; exact hj
  | 1, _ => rw [h1]; exact hj
theorem Cell4.grown {u v : World} {X : Nat} {x y z t : Value} {row : Option Nat} (h : Cell4 u X x y z t) (hg : u.grownBy v row) (hr : ∀ k, row = some k → X < k) : Cell4 v X x y z t := by
  have hb := hg.block X h.lt (fun e => by have := hr X e.symm; omega)
  exact ⟨Nat.lt_of_lt_of_le h.lt hg.size, by rw [World.cell?_of_block (w := u) hb]; exact h.c0, by rw [World.cell?_of_block (w := u) hb]; exact h.c1, by rw [World.cell?_of_block (w := u) hb]; exact h.c2, by rw [World.cell?_of_block (w := u) hb]; exact h.c3, fun o => by rw [World.frozen?_of_block (w := u) hb]; exact h.fz o⟩
theorem tabR_append (G H : List GRow) : tabR (G ++ H) = tabR G ++ tabR H := List.map_append
theorem TRowsAt.take {w : World} {p : Option Addr} {R : List TRow} (h : TRowsAt w p R) (m : Nat) : TRowsAt w p (R.take m) := by
  intro i hi
  rw [List.length_take] at hi
  have hi' : i < R.length := by omega
  have e : tAt (R.take m) i = tAt R i := by rw [tAt_get (by rw [List.length_take]; omega), tAt_get hi', List.getElem_take]
  rw [e]
  exact h i hi'
end Go.Proofs.YtlpaphgmdcpmaaaGreatDoor
/-
  A map from values to truths that the call makes: what it holds, by the list of its keys.
-/
namespace Go.Proofs.YtlpaphgmdcpmaaaGreatDoor
set_option maxRecDepth 100000
open Go.RowKit
variable {ls : List Nat}

def valV (v : Val) : Value := .agg #[.int .i64 v.1, .int .i64 v.2.1, .string v.2.2]
theorem same_dec (a b : Val) : sameV a.1 a.2.1 a.2.2 b.1 b.2.1 b.2.2 = decide (a = b) := by
  by_cases h : a = b
  · rw [decide_eq_true h, same_vals.2 h]
  · rw [decide_eq_false h, Bool.eq_false_iff]
    exact fun hc => h (same_vals.1 hc)
theorem check_val (em : Bool) (v : Val) (w : World) : (Instr.checkKey em 10000 23 (valV v)).run Tryz.prog w = .ok () w := by
  unfold valV
  rw [show (10000 : Nat) = 9998 + 1 + 1 from rfl, Instr.checkKey]
  simp only [Sem.run_bind, run_underlying Tryz.underlying23, Result.andThen]
  have c0 : ∀ x : Int, (Instr.checkKey em (9998 + 1) 3 (.int .i64 x)).run Tryz.prog w = .ok () w := fun x => MapKept.run_checkKey Tryz.underlying3 (show MapKept.IsKey (.int .i64) (.int .i64 x) from rfl) em 9998
  have c1 : ∀ x : Int, (Instr.checkKey em (9998 + 1) 2 (.int .i64 x)).run Tryz.prog w = .ok () w := fun x => MapKept.run_checkKey Tryz.underlying2 (show MapKept.IsKey (.int .i64) (.int .i64 x) from rfl) em 9998
  have c2 : ∀ x : ByteArray, (Instr.checkKey em (9998 + 1) 9 (.string x)).run Tryz.prog w = .ok () w := fun x => MapKept.run_checkKey Tryz.underlying9 (show MapKept.IsKey .string (.string x) from trivial) em 9998
  have p0 : (part 3 #[.int .i64 v.1, .int .i64 v.2.1, .string v.2.2] 0).run Tryz.prog w = .ok (.int .i64 v.1) w := run_part_plain w (by kernel_rfl) rfl
  have p1 : (part 2 #[.int .i64 v.1, .int .i64 v.2.1, .string v.2.2] 1).run Tryz.prog w = .ok (.int .i64 v.2.1) w := run_part_plain w (by kernel_rfl) rfl
  have p2 : (part 9 #[.int .i64 v.1, .int .i64 v.2.1, .string v.2.2] 2).run Tryz.prog w = .ok (.string v.2.2) w := run_part_plain w (by kernel_rfl) rfl
  rw [← Array.forIn_toList]
  simp [List.forIn_cons, Sem.run_bind, p0, p1, p2, c0, c1, c2, Result.andThen]
theorem equal_val (a b : Val) (w : World) : (Op.equal 23 (valV a) (valV b)).run Tryz.prog w = .ok (decide (a = b)) w := by
  have h := eql_val a.1 a.2.1 a.2.2 b.1 b.2.1 b.2.2 w
  rw [run_eql_struct, same_dec] at h
  unfold valV Op.equal Op.maxDepth
  generalize (Op.equalIn 10000 23 _ _).run Tryz.prog w = r at h ⊢
  cases r with
  | halt _ _ => simp [Result.andThen] at h
  | ok b' w' =>
    simp only [Result.andThen, Result.ok.injEq, Value.bool.injEq] at h
    rw [h.1, h.2]
/-- A value is looked for among the keys. -/
theorem asking_val (v : Val) (w : World) : ∀ (es : List MapEntry) (S : List Val) (i : Nat), es.map (·.key) = S.map valV → (∀ e ∈ es, e.val = .bool true) →
    (v ∉ S ∧ (Instr.findAsking 23 (valV v) es i).run Tryz.prog w = .ok none w) ∨ (v ∈ S ∧ ∃ j, (Instr.findAsking 23 (valV v) es i).run Tryz.prog w = .ok (some (j, .bool true)) w)
  | [], S, i, hk, hv => by
    have : S = [] := by cases S with
      | nil => rfl
      | cons x S => simp at hk
    subst this
    exact .inl ⟨by simp, by simp [Instr.findAsking]⟩
  | e :: es, S, i, hk, hv => by
    cases S with
    | nil => simp at hk
    | cons x S =>
      rw [List.map_cons, List.map_cons] at hk
      injection hk with hk1 hk2
      have he := equal_val v x w
      rw [← hk1] at he
      by_cases hx : v = x
      · rw [decide_eq_true hx] at he
        refine .inr ⟨by rw [hx]; exact List.mem_cons_self, i, ?_⟩
        have hev := hv e List.mem_cons_self
        simp [Instr.findAsking, he, hev, Result.andThen]
      · rw [decide_eq_false hx] at he
        have hrun : (Instr.findAsking 23 (valV v) (e :: es) i).run Tryz.prog w = (Instr.findAsking 23 (valV v) es (i + 1)).run Tryz.prog w := by simp [Instr.findAsking, he, Result.andThen]
        rcases asking_val v w es S (i + 1) hk2 (fun y hy => hv y (List.mem_cons_of_mem _ hy)) with ⟨h1, h2⟩ | ⟨h1, j, h2⟩
        · exact .inl ⟨by simp [hx, h1], by rw [hrun, h2]⟩
        · exact .inr ⟨List.mem_cons_of_mem _ h1, j, by rw [hrun, h2]⟩
theorem find_val (v : Val) (w : World) (es : List MapEntry) (S : List Val) (hk : es.map (·.key) = S.map valV) (hv : ∀ e ∈ es, e.val = .bool true) :
    (v ∉ S ∧ (Instr.findKey 23 (valV v) es).run Tryz.prog w = .ok none w) ∨ (v ∈ S ∧ ∃ j, (Instr.findKey 23 (valV v) es).run Tryz.prog w = .ok (some (j, .bool true)) w) := by
  cases es with
  | nil =>
    have : S = [] := by cases S with
      | nil => rfl
      | cons x S => simp at hk
    subst this
    exact .inl ⟨by simp, by simp [Instr.findKey, Instr.findNow, run_underlying Tryz.underlying23, Result.andThen]⟩
  | cons e es =>
    have hrun : (Instr.findKey 23 (valV v) (e :: es)).run Tryz.prog w = (Instr.findAsking 23 (valV v) (e :: es) 0).run Tryz.prog w := by
      simp [Instr.findKey, Instr.findNow, Instr.sameNow, run_underlying Tryz.underlying23, Result.andThen]
    rw [hrun]
    exact asking_val v w _ S 0 hk hv

/-- Block b is a map whose keys are S, all with true. -/
def SeenAt (w : World) (b : Nat) (S : List Val) : Prop := ∃ (es : Array MapEntry) (clock : Nat), w.heap[b]? = some (.map es clock) ∧ es.toList.map (·.key) = S.map valV ∧ ∀ e ∈ es.toList, e.val = .bool true
theorem SeenAt.new (w : World) : SeenAt (w.alloc (.map #[] 0)) w.heap.size [] := ⟨#[], 0, by show (w.heap.push _)[w.heap.size]? = _; simp, rfl, fun e he => by simp at he⟩
theorem SeenAt.lt {w : World} {b : Nat} {S : List Val} (h : SeenAt w b S) : b < w.heap.size := by
  obtain ⟨es, clock, hb, -⟩ := h
  exact (Array.getElem?_eq_some_iff.1 hb).1
theorem SeenAt.low {u v : World} {b : Nat} {S : List Val} (h : SeenAt u b S) (hb : Below u.heap.size u v) : SeenAt v b S := by
  obtain ⟨es, clock, h0, h1, h2⟩ := h
  exact ⟨es, clock, by rw [hb.block b (Array.getElem?_eq_some_iff.1 h0).1]; exact h0, h1, h2⟩
def seenB (v : Val) (S : List Val) : Bool := S.any fun x => decide (x = v)
theorem seenB_iff {v : Val} {S : List Val} : seenB v S = true ↔ v ∈ S := by
  unfold seenB
  rw [List.any_eq_true]
  exact ⟨fun ⟨x, h1, h2⟩ => by have := of_decide_eq_true h2; subst this; exact h1, fun h => ⟨v, h, decide_eq_true rfl⟩⟩
theorem seenB_no {v : Val} {S : List Val} (h : v ∉ S) : seenB v S = false := by rw [Bool.eq_false_iff]; exact fun hc => h (seenB_iff.1 hc)
theorem SeenAt.look {w : World} {b : Nat} {S : List Val} (h : SeenAt w b S) (v : Val) (t : TypeId) (ht : Tryz.prog.underlying t = some (.map 23 4)) : (Instr.lookup t (.map (some b)) (valV v) false).run Tryz.prog w = .ok (.bool (seenB v S)) w := by
  obtain ⟨es, clock, hb, hk, hv⟩ := h
  have hz : (zeroValue 4).run Tryz.prog w = .ok (.bool false) w := by go_simp
  rcases find_val v w es.toList S hk hv with ⟨h1, h2⟩ | ⟨h1, j, h2⟩
  · rw [seenB_no h1]
    simp [Instr.lookup, run_underlying ht, MapKept.run_getObj_map hb, check_val, h2, hz, Result.andThen]
  · rw [seenB_iff.2 h1]
    simp [Instr.lookup, run_underlying ht, MapKept.run_getObj_map hb, check_val, h2, Result.andThen]
/-- The world with one block set. -/
theorem SeenAt.put {w : World} {b : Nat} {S : List Val} (h : SeenAt w b S) (v : Val) (hn : v ∉ S) (t : TypeId) (ht : Tryz.prog.underlying t = some (.map 23 4)) :
    ∃ w', (Instr.mapUpdate t (.map (some b)) (valV v) (.bool true)).run Tryz.prog w = .ok () w' ∧ SeenAt w' b (S ++ [v]) ∧ w.grownBy w' (some b) := by
  obtain ⟨es, clock, hb, hk, hv⟩ := h
  rcases find_val v w es.toList S hk hv with ⟨h1, h2⟩ | ⟨h1, -⟩
  · refine ⟨{ w with heap := w.heap.setIfInBounds b (.map (es.push { key := valV v, val := .bool true, born := clock }) (clock + 1)) }, ?_, ?_, ?_⟩
    · simp [Instr.mapUpdate, run_underlying ht, MapKept.run_getObj_map hb, check_val, h2, MapKept.run_setObj_map _ hb, Result.andThen]
    · refine ⟨es.push { key := valV v, val := .bool true, born := clock }, clock + 1, ?_, ?_, ?_⟩
      · have := (Array.getElem?_eq_some_iff.1 hb).1
        simp [this]
      · simp [hk]
      · intro e he
        simp at he
        rcases he with he | rfl
        · exact hv e (by simpa using he)
        · rfl
    · refine ⟨rfl, rfl, rfl, by simp, fun k _ hne => ?_⟩
      have : b ≠ k := fun e => hne (by rw [e])
      simp [this]
  · exact absurd h1 hn
end Go.Proofs.YtlpaphgmdcpmaaaGreatDoor
/-
  Tables: Get, Bag, Lookup of the reference.
-/
namespace Go.Proofs.YtlpaphgmdcpmaaaGreatDoor
set_option maxRecDepth 100000
open Go.RowKit
variable {ls : List Nat}

def getO (id : Int) (R : List TRow) : List Val × Bool := match getR id R with | some l => (l, true) | none => ([], false)
theorem getO_hit {id : Int} {R : List TRow} {i : Nat} (h : i < R.length) (hp : (tAt R i).1 = id) (hn : ∀ j, j < i → (tAt R j).1 ≠ id) : getO id R = ((tAt R i).2, true) := by unfold getO; rw [getR_hit h hp hn]
theorem getO_none {id : Int} {R : List TRow} (hn : ∀ j, j < R.length → (tAt R j).1 ≠ id) : getO id R = ([], false) := by unfold getO; rw [getR_none hn]
def lookO (k : Int) (key : Val) (R : List TRow) : Int × Bool := match lookR k key R with | some i => (i, true) | none => (0, false)
theorem lookO_hit {k : Int} {key : Val} {R : List TRow} {i : Nat} (h : i < R.length) (hp : keyV k (tAt R i).2 = some key) (hn : ∀ j, j < i → keyV k (tAt R j).2 ≠ some key) : lookO k key R = ((tAt R i).1, true) := by unfold lookO; rw [lookR_hit h hp hn]
theorem lookO_none {k : Int} {key : Val} {R : List TRow} (hn : ∀ j, j < R.length → keyV k (tAt R j).2 ≠ some key) : lookO k key R = (0, false) := by unfold lookO; rw [lookR_none hn]
def GetPost (id : Int) (R : List TRow) (w : World) (e : Ending) (w' : World) : Prop := ∃ (p : Option Addr) (cap : Nat), e = .returned (.tuple #[.slice p (getO id R).1.length cap, .bool (getO id R).2]) ∧ RowAt w' p (getO id R).1 ∧ (getO id R).1.length * 32 ≤ 140737488355328 ∧ Below w.heap.size w w'

theorem heads_add {u : World} {xs : List Value} {L : List (List Val)} {l : List Val} {q : Option Addr} {cp : Nat} (h : HeadsAt u xs L) (hr : RowAt u q l) (hs : l.length * 32 ≤ 140737488355328) (hn : q = none → l = [] ∧ cp = 0) : HeadsAt u (xs ++ [.slice q l.length cp]) (L ++ [l]) := by
  refine h.append ⟨rfl, fun i hi => ?_⟩
  have h0 : i = 0 := by simpa using hi
  subst h0
  exact ⟨q, cp, rfl, hr, hs, hn⟩
theorem bag_take {R : List TRow} {k : Nat} (h : k < R.length) : (R.take (k + 1)).map (·.2) = (R.take k).map (·.2) ++ [(tAt R k).2] := by rw [take_trow h, List.map_append]; rfl
theorem head_news (u : World) (o : Obj) (x : Value) : ∀ j y, ([x] : List Value)[j]? = some y → ((u.alloc o).alloc (.cells #[x] 70)).cell? ((⟨u.heap.size + 1, 0, none⟩ : Addr).add j) = some y := by
  have := one_news (u.alloc o) x
  rw [size_alloc] at this
  exact this
end Go.Proofs.YtlpaphgmdcpmaaaGreatDoor
/-
  Tables: Lookup of the reference.
-/
namespace Go.Proofs.YtlpaphgmdcpmaaaGreatDoor
set_option maxRecDepth 100000
open Go.RowKit
variable {ls : List Nat}

theorem row2_new (w : World) (x y : Value) (t : TypeId) : (w.alloc (.cells #[x, y] t)).cell? ⟨w.heap.size, 0, none⟩ = some x ∧ (w.alloc (.cells #[x, y] t)).cell? ⟨w.heap.size, 1, none⟩ = some y := by
  constructor <;> go_simp
theorem keyV_ne {k : Nat} {l : List Val} {key : Val} (h : k < l.length) (hs : sameV (vAt l k).1 (vAt l k).2.1 (vAt l k).2.2 key.1 key.2.1 key.2.2 = false) : keyV k l ≠ some key := by
  rw [keyV_some h]
  intro he
  have e := Option.some.inj he
  rw [← e, same_vals.2 rfl] at hs
  cases hs
theorem keyV_eq {k : Nat} {l : List Val} {key : Val} (h : k < l.length) (hs : sameV (vAt l k).1 (vAt l k).2.1 (vAt l k).2.2 key.1 key.2.1 key.2.2 = true) : keyV k l = some key := by
  rw [keyV_some h, same_vals.1 hs]
theorem drewN_low {B : Nat} {a w : World} (h : Below B a w) (n : Nat) : Below B a (w.drewN n) := ⟨h.os, h.tape, h.output, h.size, h.block⟩
end Go.Proofs.YtlpaphgmdcpmaaaGreatDoor
