/-
  Several texts in one.
-/
import Derived.Test.YtidgfmjbfcgfiaaPk09
import Derived.Test.YtidgfmjbfcgfiaaPk13
import Derived.Test.YtidgfmjbfcgfiaaPk12
import Derived.Test.YtidgfmjbfcgfiaaPk11
import Derived.Test.YtidgfmjbfcgfiaaPk10
/-
  Rows with numbers of the call's own: their cells, append.
-/
namespace Go.Proofs.Ytidgfmjbfcgfiaa
set_option maxRecDepth 100000
open Go.RowKit
variable {ls : List Nat}

/-- A row of the call's own: its number, its slice, its values. -/
abbrev GRow := Int × Value × List Val
def tcells (G : List GRow) : List Value := G.flatMap fun g => [.int .i64 g.1, g.2.1]
def tabR (G : List GRow) : List TRow := G.map fun g => (g.1, g.2.2)
theorem tcells_length (G : List GRow) : (tcells G).length = G.length * 2 := by
  induction G with
  | nil => rfl
  | cons g G ih => show (_ :: _ :: tcells G).length = _; rw [List.length_cons, List.length_cons, ih, List.length_cons]; omega
theorem tcells_append (G H : List GRow) : tcells (G ++ H) = tcells G ++ tcells H := List.flatMap_append
def grAt (G : List GRow) (i : Nat) : GRow := G.getD i (0, .slice none 0 0, [])
theorem grAt_mem {G : List GRow} {i : Nat} (h : i < G.length) : grAt G i ∈ G := by unfold grAt; rw [List.getD, List.getElem?_eq_getElem h]; exact List.getElem_mem h
theorem tabR_at {G : List GRow} {i : Nat} (h : i < G.length) : tAt (tabR G) i = ((grAt G i).1, (grAt G i).2.2) := by
  unfold tAt tabR grAt
  rw [List.getD, List.getD, List.getElem?_map, List.getElem?_eq_getElem h]
  rfl
theorem tcells_at (G : List GRow) (i : Nat) (h : i < G.length) : (tcells G)[i * 2]? = some (.int .i64 (grAt G i).1) ∧ (tcells G)[i * 2 + 1]? = some (grAt G i).2.1 := by
  induction G generalizing i with
  | nil => simp at h
  | cons g G ih =>
    have e : tcells (g :: G) = .int .i64 g.1 :: g.2.1 :: tcells G := rfl
    rw [e]
    cases i with
    | zero => exact ⟨rfl, rfl⟩
    | succ i =>
      rw [List.length_cons] at h
      have := ih i (by omega)
      rw [show (i + 1) * 2 = i * 2 + 1 + 1 by omega]
      exact this
theorem info_trow : (Try.prog.info? 34).map (fun i => (i.zero, i.size, i.bytes)) = some (some (.agg #[.int .i64 0, .slice none 0 0]), 2, 32) := by kernel_rfl

/-- Rows of the call's own. -/
structure TOwn (u : World) (base : Nat) (vr : Value) (G : List GRow) : Prop where
  own : u.ownsRow base 34 2 vr G.length (tcells G)
  inn : ∀ g ∈ G, InRow u base (g.2.1, g.2.2)
theorem TOwn.nil (u : World) (base : Nat) : TOwn u base (.slice none 0 0) [] := ⟨⟨rfl, Or.inl ⟨rfl, rfl⟩⟩, fun g hg => by cases hg⟩
theorem TOwn.low {u v : World} {base : Nat} {vr : Value} {G : List GRow} (h : TOwn u base vr G) (hb : Below u.heap.size u v) : TOwn v base vr G := ⟨owns_below h.own hb, fun g hg => (h.inn g hg).low hb⟩
theorem TOwn.base {u : World} {b b' : Nat} {vr : Value} {G : List GRow} (h : TOwn u b vr G) (hb : b' ≤ b) : TOwn u b' vr G := ⟨owns_base h.own hb, fun g hg => (h.inn g hg).base hb⟩
theorem TOwn.keep {u v : World} {base : Nat} {vr : Value} {G : List GRow} (h : TOwn u base vr G) (hk : ∀ k, base ≤ k → k < u.heap.size → v.heap[k]? = u.heap[k]?) : TOwn v base vr G :=
  ⟨owns_keep h.own fun k hk' => hk k (owns_block h.own k hk') (owns_lt h.own k hk'), fun g hg => ⟨owns_keep (h.inn g hg).1 fun k hk' => hk k (owns_block (h.inn g hg).1 k hk') (owns_lt (h.inn g hg).1 k hk'), (h.inn g hg).2⟩⟩
theorem TOwn.step {u v : World} {b base : Nat} {vr : Value} {G : List GRow} (h : TOwn u base vr G) (hb : b < base) (hs : StepT b u v) : TOwn v base vr G := h.keep fun k h1 h2 => hs.block k h2 (by omega)
theorem TOwn.set {u : World} {base V o : Nat} {vr : Value} {G : List GRow} (h : TOwn u base vr G) (hV : V < base) (y : Value) : TOwn (u.setCell ⟨V, o, none⟩ y) base vr G := h.keep fun k h1 _ => Below.heap_setCell _ _ _ _ (by show k ≠ V; omega)
theorem TOwn.shape {u : World} {base : Nat} {vr : Value} {G : List GRow} (h : TOwn u base vr G) : vr = .slice (rowP vr) G.length (rowC vr) := by
  rcases h.own.2 with ⟨rfl, h0⟩ | ⟨g, cap', cur, rfl, -⟩
  · rw [h0]; rfl
  · rfl
theorem TOwn.rows {u : World} {base : Nat} {vr : Value} {G : List GRow} (h : TOwn u base vr G) : TRowsAt u (rowP vr) (tabR G) := by
  intro i hi
  have hi' : i < G.length := by unfold tabR at hi; rw [List.length_map] at hi; exact hi
  rw [tabR_at hi']
  obtain ⟨hv, hr, hn⟩ := owned_shape (h.inn _ (grAt_mem hi')).1
  have hl := (h.inn _ (grAt_mem hi')).2
  rcases h.own.2 with ⟨-, h0⟩ | ⟨g, cap', cur, rfl, hg, hh, hcap, hm, hcur, htake⟩
  · omega
  · have hget : ∀ j, j < G.length * 2 → cur[j]? = (tcells G)[j]? := fun j hj => by
      rw [← htake, List.getElem?_take, if_pos hj]; simp
    obtain ⟨c0, c1⟩ := tcells_at G i hi'
    refine ⟨g, 0, _, _, rfl, (Array.getElem?_eq_some_iff.1 hh).1, ?_, ?_, hr, hl, hn⟩
    · rw [Nat.zero_add]
      simp only [World.cell?, hh]
      rw [if_neg (by simp), hget _ (by omega), c0]
    · rw [Nat.zero_add]
      simp only [World.cell?, hh]
      rw [if_neg (by simp), hget _ (by omega), c1, ← hv]
theorem tabR_length (G : List GRow) : (tabR G).length = G.length := by unfold tabR; rw [List.length_map]
theorem trow_news {w : World} {N : Nat} {id : Int} {y : Value} (h0 : w.cell? ⟨N, 0, none⟩ = some (.int .i64 id)) (h1 : w.cell? ⟨N, 1, none⟩ = some y) : ∀ j u, ([.int .i64 id, y] : List Value)[j]? = some u → w.cell? ((⟨N, 0, none⟩ : Addr).add j) = some u := by
  intro j u hj
  have hlt := (List.getElem?_eq_some_iff.1 hj).1
  have hadd : (⟨N, 0, none⟩ : Addr).add j = ⟨N, j, none⟩ := by unfold Addr.add; split <;> simp_all
  rw [hadd]
  match j, hlt with
  | 0, _ => rw [h0]; exact hj
  | 1, _ => rw [h1]; exact hj
theorem wpList_append_trow {w : World} {ops : Array Oper} {rest : List Oper} {o : Oper} {a : Act} {Q : Exit → Act → World → Prop} (hgd : o.guard = none) (s x : Operand)
    (ho : o.op = .call { callee := .builtin .append, args := #[s, x], argTypes := #[27, 27] })
    (base : Nat) (v : Value) (G : List GRow) (hs : a.eval s = v) (hown : w.ownsRow base 34 2 v G.length (tcells G))
    (N : Nat) (id : Int) (y : Value) (l : List Val) (hx : a.eval x = .slice (some ⟨N, 0, none⟩) 1 1) (h0 : w.cell? ⟨N, 0, none⟩ = some (.int .i64 id)) (h1 : w.cell? ⟨N, 1, none⟩ = some y) (hy : y.oneCell' = true) (hsum : (G.length + 1) * 32 ≤ 140737488355328) (hbase : base ≤ w.heap.size)
    (h : ∀ v' w', w'.ownsRow base 34 2 v' (G ++ [(id, y, l)]).length (tcells (G ++ [(id, y, l)])) → w.grownBy w' v.ownBlock → wpList Try.prog ops Q rest (a.put o.dst v') w') : wpList Try.prog ops Q (o :: rest) a w := by
  obtain ⟨i0, hi, hz0, hz1, hz2⟩ := info_parts info_trow
  refine wpList_append_own w hgd s x 27 ho base 34 i0 _ 2 32 Try.underlying27 hi hz0 hz1 hz2 rfl (by decide) v G.length (tcells G) hs hown ⟨N, 0, none⟩ 1 1 [.int .i64 id, y] hx rfl (trow_news h0 h1) (fun u hu => by
    rcases List.mem_cons.1 hu with rfl | hu
    · rfl
    · obtain rfl := List.mem_singleton.1 hu
      exact hy) (by unfold maxLen; omega) hsum hbase ?_
  intro v' w' h1 h2 _
  refine h v' w' ?_ h2
  rw [List.length_append, List.length_singleton, tcells_append]
  exact h1
theorem InRow.apartT {u v : World} {base base' n : Nat} {vo : Value} {xs : List Value} {x : Value × List Val} (h : InRow u base x) (ho : u.ownsRow base' 34 2 vo n xs) (hb : ∀ k, k < u.heap.size → vo.ownBlock ≠ some k → v.heap[k]? = u.heap[k]?) : InRow v base x :=
  ⟨owns_keep h.1 fun k hk => hb k (owns_lt h.1 k hk) (owns_apart h.1 ho (by decide) k hk), h.2⟩
theorem TOwn.push {u w8 : World} {base : Nat} {vr v8 : Value} {G : List GRow} {g : GRow} {o : Obj} (h : TOwn u base vr G) (hz : InRow u base (g.2.1, g.2.2))
    (ho : w8.ownsRow base 34 2 v8 (G ++ [g]).length (tcells (G ++ [g]))) (hg : (u.alloc o).grownBy w8 vr.ownBlock) : TOwn w8 base v8 (G ++ [g]) := by
  have h7 := h.low (below_alloc u o)
  have hz7 := hz.low (below_alloc u o)
  have hin : ∀ q, InRow (u.alloc o) base q → InRow w8 base q := fun q hq => hq.apartT h7.own fun k hk hne => hg.block k hk (fun e => hne e.symm)
  refine ⟨ho, fun q hq => ?_⟩
  rcases List.mem_append.1 hq with hq | hq
  · exact hin _ (h7.inn q hq)
  · obtain rfl := List.mem_singleton.1 hq
    exact hin _ hz7
theorem Cell4.grown {u v : World} {X : Nat} {x y z t : Value} {row : Option Nat} (h : Cell4 u X x y z t) (hg : u.grownBy v row) (hr : ∀ k, row = some k → X < k) : Cell4 v X x y z t := by
  have hb := hg.block X h.lt (fun e => by have := hr X e.symm; omega)
  exact ⟨Nat.lt_of_lt_of_le h.lt hg.size, by rw [World.cell?_of_block (w := u) hb]; exact h.c0, by rw [World.cell?_of_block (w := u) hb]; exact h.c1, by rw [World.cell?_of_block (w := u) hb]; exact h.c2, by rw [World.cell?_of_block (w := u) hb]; exact h.c3, fun o => by rw [World.frozen?_of_block (w := u) hb]; exact h.fz o⟩
theorem TOwn.ex {u : World} {base : Nat} {vr : Value} {G : List GRow} (h : TOwn u base vr G) : ∃ p c, vr = .slice p G.length c := ⟨_, _, h.shape⟩
theorem tabR_append (G H : List GRow) : tabR (G ++ H) = tabR G ++ tabR H := List.map_append
theorem TRowsAt.take {w : World} {p : Option Addr} {R : List TRow} (h : TRowsAt w p R) (m : Nat) : TRowsAt w p (R.take m) := by
  intro i hi
  rw [List.length_take] at hi
  have hi' : i < R.length := by omega
  have e : tAt (R.take m) i = tAt R i := by rw [tAt_get (by rw [List.length_take]; omega), tAt_get hi', List.getElem_take]
  rw [e]
  exact h i hi'
end Go.Proofs.Ytidgfmjbfcgfiaa
/-
  The law TableFull, walked: from what package table does.
-/
namespace Go.Proofs.Ytidgfmjbfcgfiaa
set_option maxRecDepth 100000
open Go.RowKit
variable {ls : List Nat}

def fullRow (j : Nat) : TRow := ((j : Int) + 1, [(0, 0, ⟨#[]⟩), (0, 0, ⟨#[]⟩)])
def fullR (k : Nat) : List TRow := (List.range k).map fullRow
theorem fullR_succ (k : Nat) : fullR (k + 1) = fullR k ++ [fullRow k] := by unfold fullR; rw [List.range_succ, List.map_append]; rfl
theorem fullR_length (k : Nat) : (fullR k).length = k := by unfold fullR; simp
theorem fullR_take (k : Nat) (h : 5 ≤ k) : (fullR k).take 5 = fullR 5 := by
  unfold fullR
  rw [← List.map_take, List.take_range, Nat.min_eq_left h]
theorem full_valid (N : Nat) (h : 98 ≤ N) (h2 : N ≤ 102) : validT ⟨#[108, 111, 103]⟩ 2 colLog ((N : Int) + 1) (fullR N) = decide (N ≤ 100) := by
  have hN : N = 98 ∨ N = 99 ∨ N = 100 ∨ N = 101 ∨ N = 102 := by omega
  rcases hN with rfl | rfl | rfl | rfl | rfl <;> decide +kernel
theorem full_sized (k : Nat) (r : TRow) (hr : r ∈ fullR k) : ValsSized r.2 := by
  unfold fullR at hr
  obtain ⟨j, -, rfl⟩ := List.mem_map.1 hr
  intro i hi
  have hi2 : i < 2 := hi
  obtain rfl | rfl : i = 0 ∨ i = 1 := by omega
  all_goals exact Nat.zero_le _
theorem five_valid : validT ⟨#[108, 111, 103]⟩ 2 colLog 5 (fullR 5) = false := by decide +kernel
abbrev nilVals : Obj := .cells #[.int .i64 0, .int .i64 0, .string ⟨#[]⟩, .int .i64 0, .int .i64 0, .string ⟨#[]⟩] 31
theorem nil_row (u : World) (base : Nat) (hb : base ≤ u.heap.size) : InRow (u.alloc nilVals) base (.slice (some ⟨u.heap.size, 0, none⟩) 2 2, [(0, 0, ⟨#[]⟩), (0, 0, ⟨#[]⟩)]) :=
  ⟨World.ownsRow_lit u #[.int .i64 0, .int .i64 0, .string ⟨#[]⟩, .int .i64 0, .int .i64 0, .string ⟨#[]⟩] 2 hb (by decide) rfl, by show 2 * 32 ≤ 140737488355328; omega⟩
/-- What the loop keeps. -/
structure FullAt (w : World) (B Z N : Nat) (vr : Value) (G : List GRow) (u : World) : Prop where
  tab : Cell4 u B (.string ⟨#[108, 111, 103]⟩) (.slice (some ⟨Z, 0, none⟩) 2 2) (.int .i64 ((N : Int) + 1)) vr
  own : TOwn u (B + 1) vr G
  cols : ColsAt u (some ⟨Z, 0, none⟩) 2 colLog
  low : Below w.heap.size w u
  wB : w.heap.size ≤ B
  ZB : Z < B
abbrev nilG (id : Int) (R : Nat) : GRow := (id, .slice (some ⟨R, 0, none⟩) 2 2, [(0, 0, ⟨#[]⟩), (0, 0, ⟨#[]⟩)])
theorem FullAt.mid {w u w8 : World} {B Z N : Nat} {vr : Value} {G : List GRow} {o : Obj} (h : FullAt w B Z N vr G u) (hg : ((u.alloc nilVals).alloc o).grownBy w8 vr.ownBlock) : Cell4 w8 B (.string ⟨#[108, 111, 103]⟩) (.slice (some ⟨Z, 0, none⟩) 2 2) (.int .i64 ((N : Int) + 1)) vr :=
  (h.tab.low ((below_alloc u nilVals).alloc (by rw [size_alloc]; omega) o)).grown hg (fun k hk' => by have := (h.own.own.lt k hk').1; omega)
theorem FullAt.next {w u w8 : World} {B Z N : Nat} {vr v8 : Value} {G : List GRow} {id : Int} {o : Obj} (h : FullAt w B Z N vr G u)
    (ho : w8.ownsRow (B + 1) 34 2 v8 (G ++ [nilG id u.heap.size]).length (tcells (G ++ [nilG id u.heap.size])))
    (hg : ((u.alloc nilVals).alloc o).grownBy w8 vr.ownBlock) :
    FullAt w B Z N v8 (G ++ [nilG id u.heap.size]) (w8.setCell ⟨B, 3, none⟩ v8) := by
  have hlt := h.tab.lt
  have hB := h.wB
  have hZ := h.ZB
  have hk : ∀ k, vr.ownBlock = some k → B + 1 ≤ k := fun k hk => (h.own.own.lt k hk).1
  have h1 := h.own.low (below_alloc u nilVals)
  have h2 := h1.push (g := nilG id u.heap.size) (nil_row u (B + 1) hlt) ho hg
  have hb2 : Below u.heap.size u ((u.alloc nilVals).alloc o) := (below_alloc u nilVals).alloc (by rw [size_alloc]; omega) o
  have hz2 : u.heap.size ≤ ((u.alloc nilVals).alloc o).heap.size := hb2.size
  refine ⟨((h.tab.low hb2).grown hg (fun k hk' => by have := hk k hk'; omega)).set3 v8, h2.set (by omega) _, ((h.cols.low hb2).keep hg.size (fun a ha => ?_)).set (fun q hq => ?_) _, ?_, hB, hZ⟩
  · cases ha
    exact hg.block _ (by show Z < _; omega) (fun e => by have := hk _ e.symm; dsimp only at this; omega)
  · cases hq
    show Z ≠ B
    omega
  · exact (grown_below (below_next h.low hb2) (by have := h.low.size; omega) hg (fun k hk' => by have := hk k hk'; omega)).setCell (by exact hB) _
set_option maxHeartbeats 2000000 in
theorem tfull_walk (hT : TableDoes) (w : World) (n : Int) :
    Calls Try.prog 3 #[.int .i64 n] w fun e w' => e = .returned (.bool true) ∧ Below w.heap.size w w' := by
  have hm0 := (modI_range n 5 (by decide)).1
  have hm1 := (modI_range n 5 (by decide)).2
  obtain ⟨N, hN⟩ : ∃ N : Nat, (98 : Int) + modI n 5 = N := ⟨(98 + modI n 5).toNat, by omega⟩
  have hN1 : 98 ≤ N := by omega
  have hN2 : N ≤ 102 := by omega
  have HN := Lib.hid hN
  have hwr : IntKind.i64.wrap ((98 : Int) + modI n 5) = (N : Int) := by rw [i64w (by omega) (by omega), hN]
  clear hN
  go_enter Try.func3, Try.ntmps3
  go_wp2_with fail
  refine (mod_any n 5 _ (by decide) (by decide)).mono ?_
  rintro e w1 ⟨rfl, rfl⟩
  go_wp2_with fail
  refine (schemaLog_any _).mono ?_
  rintro e w2 ⟨Z, rfl, hZ, hZl, hb2⟩
  have HZ := Lib.hid hZ
  have HB2 := Lib.hid hb2
  clear hZ hb2
  unfold schV
  have hwr2 : IntKind.i64.wrap ((N : Int) + 1) = (N : Int) + 1 := i64w (by omega) (by omega)
  have HW := Lib.hid (FullAt.mk (w := w1) (B := w2.heap.size) (Z := Z) (N := N) (vr := .slice none 0 0) (G := []) (cell4_new w2 (.string ⟨#[108, 111, 103]⟩) (.slice (some ⟨Z, 0, none⟩) 2 2) (.int .i64 ((N : Int) + 1)) (.slice none 0 0) 29) (TOwn.nil _ _) (HZ.out.low (below_alloc _ _)) (below_new HB2.out _) HB2.out.size (by have := (HZ.out.at0 (i := 0) (by decide)).1; exact this))
  clear HZ
  go_wp2_with fail
  clear HB2
  generalize w2.heap.size = B at HW ⊢
  generalize w2.alloc _ = v2 at HW ⊢
  go_loopw [4] (fun i v => ∃ (k : Nat) (vr : Value) (G : List GRow), i = .int .i64 ((k : Int) + 1) ∧ k ≤ N ∧ tabR G = fullR k ∧ FullAt w1 B Z N vr G v) (fun i _ => N + 1 - (intOf i).toNat)
  case atStart => exact ⟨0, _, [], rfl, Nat.zero_le _, rfl, HW.out⟩
  clear HW
  case round =>
    obtain ⟨k, vr, G, rfl, hk, hR, hw⟩ := hrel
    have hG : G.length = k := by have := congrArg List.length hR; rw [tabR_length, fullR_length] at this; exact this
    have HR := Lib.hid hR
    have HW := Lib.hid hw
    obtain ⟨xl, x0, x1, x2, x3, xf⟩ := hw.tab
    clear hR hw
    by_cases hkn : k + 1 ≤ N
    · have hle : decide ((k : Int) + 1 ≤ N) = true := decide_eq_true (by omega)
      have hwr3 : IntKind.i64.wrap ((k : Int) + 1 + 1) = (k : Int) + 1 + 1 := i64w (by omega) (by omega)
      have HC := Lib.hid (cell2_new (wr.alloc nilVals) (.int .i64 ((k : Int) + 1)) (.slice (some ⟨wr.heap.size, 0, none⟩) 2 2) 34)
      have HO := Lib.hid (HW.out.own.own.alloc nilVals)
      have HO2 := Lib.hid (HO.out.alloc (.cells #[.int .i64 ((k : Int) + 1), .slice (some ⟨wr.heap.size, 0, none⟩) 2 2] 34))
      clear HO
      go_wp2_with (at_builtin; refine wpList_append_trow rfl (.tmp 18) (.tmp 24) rfl (B + 1) vr G (by rfl) HO2.out (wr.heap.size + 1) ((k : Int) + 1) (.slice (some ⟨wr.heap.size, 0, none⟩) 2 2) [(0, 0, ⟨#[]⟩), (0, 0, ⟨#[]⟩)] (by rfl) (HC.out.at (by rw [size_alloc])).c0 (HC.out.at (by rw [size_alloc])).c1 rfl (by omega) (by rw [size_alloc, size_alloc]; omega) ?_; intro v8 w8 hown8 hgr8; (have HM := Lib.hid (HW.out.mid hgr8)); (have HN8 := Lib.hid (HW.out.next hown8 hgr8)); clear hown8 hgr8 xl x0 x1 x2 x3 xf; obtain ⟨p8, c8, hv8⟩ := HN8.out.own.ex; rw [show (G ++ [nilG ((k : Int) + 1) wr.heap.size]).length = k + 1 from by rw [List.length_append, hG]; rfl] at hv8; subst hv8; obtain ⟨xl, x0, x1, x2, x3, xf⟩ := HM.out)
      go_roundw
      case rel => exact ⟨k + 1, _, G ++ [nilG ((k : Int) + 1) wr.heap.size], by go_num, by omega, by rw [tabR_append, HR.out, fullR_succ]; rfl, HN8.out⟩
      case measure => simp [intOf]; omega
    · obtain rfl : k = N := by omega
      have hle : decide ((k : Int) + 1 ≤ k) = false := decide_eq_false (by omega)
      have hown := HW.out.own
      obtain ⟨g, cr, hvr, hck⟩ : ∃ g cr, vr = .slice (some ⟨g, 0, none⟩) k cr ∧ k ≤ cr := by
        rcases hown.own.2 with ⟨-, h0⟩ | ⟨g, cap', cur, he, -, -, hcap, -⟩
        · omega
        · exact ⟨g, cap', by rw [he, hG], by omega⟩
      subst hvr
      have hc5 : 5 ≤ cr := by omega
      have hrows : TRowsAt wr (some ⟨g, 0, none⟩) (tabR G) := hown.rows
      have HOWN := Lib.hid hown
      have hlow := HW.out.low
      have HLOW := Lib.hid hlow
      have HCOL := Lib.hid HW.out.cols
      have HBX := Lib.hid HW.out.tab
      have hBw := HW.out.wB
      have hZB := HW.out.ZB
      clear HW hown hlow
      have hvt : ∀ (T : Tab), T = ⟨⟨#[108, 111, 103]⟩, some ⟨Z, 0, none⟩, 2, 2, colLog, (k : Int) + 1, some ⟨g, 0, none⟩, cr, tabR G⟩ → T.valid = decide ((k : Int) ≤ 100) := by
        rintro T rfl
        show validT _ _ _ _ (tabR G) = _
        rw [HR.out, full_valid k hN1 hN2]
        by_cases h : k ≤ 100
        · rw [decide_eq_true h, decide_eq_true (by omega)]
        · rw [decide_eq_false h, decide_eq_false (by omega)]
      have hTA : ∀ (T : Tab), T = ⟨⟨#[108, 111, 103]⟩, some ⟨Z, 0, none⟩, 2, 2, colLog, (k : Int) + 1, some ⟨g, 0, none⟩, cr, tabR G⟩ → TabAt wr T ∧ T.v = .agg #[.string ⟨#[108, 111, 103]⟩, .slice (some ⟨Z, 0, none⟩) 2 2, .int .i64 ((k : Int) + 1), .slice (some ⟨g, 0, none⟩) k cr] := by
        rintro T rfl
        refine ⟨⟨(by decide : (3 : Nat) ≤ 9223372036854775807), (by decide : (2 : Nat) ≤ 9223372036854775807), HCOL.out, hrows, by show (tabR G).length ≤ 1000; rw [tabR_length]; omega, fun r hr => ?_, by show (k : Int) + 1 ≤ 9223372036854775807; omega⟩, by unfold Tab.v; dsimp only; rw [tabR_length, hG]⟩
        exact full_sized k r (by rw [← HR.out]; exact hr)
      obtain ⟨T, hT1⟩ : ∃ T : Tab, T = ⟨⟨#[108, 111, 103]⟩, some ⟨Z, 0, none⟩, 2, 2, colLog, (k : Int) + 1, some ⟨g, 0, none⟩, cr, tabR G⟩ := ⟨_, rfl⟩
      have hv1 := hT.valid T wr (hTA T hT1).1
      rw [(hTA T hT1).2, hvt T hT1] at hv1
      have HV1 := Lib.hid hv1
      clear hv1 hrows hvt hTA hT1
      go_wp2_with fail
      refine HV1.out.mono ?_
      rintro e w3 ⟨rfl, hb3⟩
      clear HV1
      have HLOW3 := Lib.hid (below_next HLOW.out hb3)
      have HCOL3 := Lib.hid (HCOL.out.low hb3)
      have HOWN3 := Lib.hid (HOWN.out.low hb3)
      have HBX3 := Lib.hid (HBX.out.low hb3)
      clear hb3 HLOW HCOL HOWN HBX xl x0 x1 x2 x3 xf
      obtain ⟨xl, x0, x1, x2, x3, xf⟩ := HBX3.out
      obtain ⟨d, hd⟩ : ∃ d, d = decide ((k : Int) ≤ 100) := ⟨_, rfl⟩
      rw [← hd]
      have hd2 := hd.symm
      have hT5 : ∀ u : World, TRowsAt u (some ⟨g, 0, none⟩) (tabR G) → ColsAt u (some ⟨Z, 0, none⟩) 2 colLog → Calls Try.prog 6 #[.agg #[.string ⟨#[108, 111, 103]⟩, .slice (some ⟨Z, 0, none⟩) 2 2, .int .i64 5, .slice (some ⟨g, 0, none⟩) 5 cr]] u fun e w' => e = .returned (.bool false) ∧ Below u.heap.size u w' := by
        intro u hr hc
        have hr5 := hr.take 5
        rw [HR.out, fullR_take k (by omega)] at hr5
        have h := hT.valid ⟨⟨#[108, 111, 103]⟩, some ⟨Z, 0, none⟩, 2, 2, colLog, 5, some ⟨g, 0, none⟩, cr, fullR 5⟩ u ⟨(by decide : (3 : Nat) ≤ 9223372036854775807), (by decide : (2 : Nat) ≤ 9223372036854775807), hc, hr5, by show (fullR 5).length ≤ 1000; decide, fun r hr => full_sized 5 r hr, (by decide : (5 : Int) ≤ 9223372036854775807)⟩
        rw [show (Tab.valid ⟨⟨#[108, 111, 103]⟩, some ⟨Z, 0, none⟩, 2, 2, colLog, 5, some ⟨g, 0, none⟩, cr, fullR 5⟩) = false from five_valid] at h
        exact h
      have HT5 := Lib.hid hT5
      clear hT5 hd hk hkn hle hwr hwr2
      cases d
      all_goals
        go_wp2_with fail
        refine (HT5.out _ ((HOWN3.out.set (Nat.lt_succ_self _) _).set (Nat.lt_succ_self _) _).rows ((HCOL3.out.set (fun q hq => by cases hq; show Z ≠ B; omega) _).set (fun q hq => by cases hq; show Z ≠ B; omega) _)).mono ?_
        rintro e w4 ⟨rfl, hb4⟩
        have HB4 := Lib.hid (below_next ((HLOW3.out.setCell (by exact hBw) _).setCell (by exact hBw) _) hb4)
        clear hb4 HLOW3 HCOL3 HOWN3 HBX3 xl x0 x1 x2 x3 xf HT5
        go_wp2_with fail
        refine (known6_any hT _).mono ?_
        rintro e w5 ⟨rfl, hb5⟩
        have HB5 := Lib.hid (below_next HB4.out hb5)
        clear hb5 HB4
        go_wp2
        go_ret
        exact ⟨rfl, HB5.out⟩
end Go.Proofs.Ytidgfmjbfcgfiaa
/-
  Package table: New.
-/
namespace Go.Proofs.Ytidgfmjbfcgfiaa
set_option maxRecDepth 100000
open Go.RowKit
variable {ls : List Nat}

set_option maxHeartbeats 1000000 in
theorem tnew_any (nm : ByteArray) (p : Option Addr) (n cap : Nat) (f : Nat → Col) (w : World) (hnm : nm.size ≤ 9223372036854775807) (hn : n ≤ 9223372036854775807) (hC : ColsAt w p n f) :
    Calls Try.prog 13 #[schV nm p n cap] w (TNewPost nm n f w) := by
  unfold schV TNewPost
  have hb0 : Below w.heap.size w ((w.alloc (.cells #[.string nm, .slice p n cap] 25)).alloc (.cells #[.string ⟨#[]⟩, .slice none 0 0, .int .i64 0, .slice none 0 0] 29)) := below_new (below_new (Below.refl _ _) _) _
  have HC := Lib.hid (hC.low hb0)
  have HX := Lib.hid ((cell2_new w (.string nm) (.slice p n cap) 25).low (below_alloc _ (.cells #[.string ⟨#[]⟩, .slice none 0 0, .int .i64 0, .slice none 0 0] 29)))
  have HY := Lib.hid ((cell4_new (w.alloc (.cells #[.string nm, .slice p n cap] 25)) (.string ⟨#[]⟩) (.slice none 0 0) (.int .i64 0) (.slice none 0 0) 29).at (size_alloc _ _))
  have HB0 := Lib.hid hb0
  clear hC hb0
  go_enter Try.func13, Try.ntmps13
  go_wp2_with fail
  refine (svalid_any nm p n cap f _ hnm hn HC.out).mono ?_
  rintro e w1 ⟨rfl, hb1⟩
  have HX1 := Lib.hid (HX.out.low hb1)
  have HY1 := Lib.hid (HY.out.low hb1)
  have HC1 := Lib.hid (HC.out.low hb1)
  have HB1 := Lib.hid (below_next HB0.out hb1)
  obtain ⟨hxl, x0, x1, xf⟩ := HX1.out
  obtain ⟨hyl, y0, y1, y2, y3, yf⟩ := HY1.out
  clear HC HX HY HB0 hb1
  cases hso : schemaOK nm n f
  · have HSO := Lib.hid hso
    have HYS := Lib.hid (cell4_put w1 HY1.out (.string ⟨#[]⟩) (.slice none 0 0) (.int .i64 0) (.slice none 0 0))
    go_wp2
    obtain ⟨-, s0, s1, s2, s3, -⟩ := HYS.out
    exact bodyPost_ret (v := .tuple #[zeroTab.v, .int .i64 17]) (by simp [results, Try.results13, go_sem, s0, s1, s2, s3, Tab.v, zeroTab]) rfl
      ⟨zeroTab, 17, rfl, zeroTab_at _, rfl, (((HB1.out.setCell (by exact Nat.le_succ _) _).setCell (by exact Nat.le_succ _) _).setCell (by exact Nat.le_succ _) _).setCell (by exact Nat.le_succ _) _, .inr ⟨HSO.out, rfl, rfl, rfl, rfl⟩⟩
  · have HSO := Lib.hid hso
    obtain ⟨hn1, hn6⟩ := schemaOK_range hso
    obtain ⟨c, o, rfl, -⟩ := HC1.out.ptr (by omega)
    obtain ⟨l, hl, hlf⟩ := cols_list n f
    have hcl : ColsAt w1 (some ⟨c, o, none⟩) l.length (cAt l) := by rw [hl]; exact HC1.out.congr hlf
    have HCL := Lib.hid hcl
    have HLF := Lib.hid hlf
    have hsz : Sized l := fun i hi => by
      obtain ⟨-, -, -, -, hs, -⟩ := hcl i hi
      exact hs
    have HSZ := Lib.hid hsz
    have hown0 : w1.ownsRow w1.heap.size 48 4 (.slice none 0 0) 0 (ccells []) := ⟨rfl, Or.inl ⟨rfl, rfl⟩⟩
    have HO := Lib.hid hown0
    have hZ : w.heap.size + 1 < w1.heap.size := hyl
    clear hown0 hcl hlf hsz
    go_wp2_with (at_builtin; refine wpList_append_cols rfl _ (.tmp 9) rfl w1.heap.size _ 0 [] rfl HO.out ⟨c, o, none⟩ l cap n rfl hl HCL.out (by omega) (Nat.le_refl _) ?_; intro v2 w2 hown2 hgr2; (have hb2 := grown_below (Below.refl w1.heap.size w1) (Nat.le_refl _) hgr2 (fun k hk => by cases hk)); (have hX2 := HX1.out.low hb2); (have hY2 := HY1.out.low hb2); (have HB2 := Lib.hid (below_next HB1.out hb2)); rw [Nat.zero_add, List.nil_append] at hown2; obtain ⟨p2, c2, rfl, -, hc2, hq2⟩ := cols_of_owns hown2 HSZ.out; rw [hl] at hc2; (have HC2 := Lib.hid hc2); (have HQ2 := Lib.hid hq2); (have HX2 := Lib.hid hX2); (have HY2 := Lib.hid hY2); obtain ⟨xl2, z0, z1, zf⟩ := hX2; obtain ⟨yl2, t0, t1, t2, t3, tf⟩ := hY2; clear hown2 hgr2 hb2 hc2 hq2 x0 x1 y0 y1 y2 y3 xf yf)
    have hfar : ∀ q, p2 = some q → q.block ≠ w.heap.size ∧ q.block ≠ w.heap.size + 1 := fun q hq => by have := (HQ2.out q hq).1; omega
    have hYS := cell4_put (w2.setCell ⟨w.heap.size, 1, none⟩ (.slice p2 n c2)) (X := w.heap.size + 1) (a := .string ⟨#[]⟩) (b := .slice none 0 0) (c := .int .i64 0) (d := .slice none 0 0) (HY2.out.far (by omega) _) (.string nm) (.slice p2 n c2) (.int .i64 1) (.slice none 0 0)
    obtain ⟨-, s0, s1, s2, s3, -⟩ := hYS
    exact bodyPost_ret (v := .tuple #[Tab.v ⟨nm, p2, n, c2, cAt l, 1, none, 0, []⟩, .int .i64 0]) (by simp [results, Try.results13, go_sem, s0, s1, s2, s3, Tab.v]) rfl
      ⟨⟨nm, p2, n, c2, cAt l, 1, none, 0, []⟩, 0, rfl, ⟨hnm, hn, ((((HC2.out.set (fun q hq => (hfar q hq).1) _).set (fun q hq => (hfar q hq).2) _).set (fun q hq => (hfar q hq).2) _).set (fun q hq => (hfar q hq).2) _).set (fun q hq => (hfar q hq).2) _, TRowsAt.nil _ _, Nat.zero_le _, fun r hr => absurd hr (List.not_mem_nil), by show (1 : Int) ≤ 9223372036854775807; decide⟩, rfl,
        ((((HB2.out.setCell (by exact Nat.le_refl _) _).setCell (by exact Nat.le_succ _) _).setCell (by exact Nat.le_succ _) _).setCell (by exact Nat.le_succ _) _).setCell (by exact Nat.le_succ _) _, .inl ⟨HSO.out, rfl, rfl, rfl, HLF.out, rfl⟩⟩
end Go.Proofs.Ytidgfmjbfcgfiaa
/-
  Package table: cell.
-/
namespace Go.Proofs.Ytidgfmjbfcgfiaa
set_option maxRecDepth 100000
open Go.RowKit
variable {ls : List Nat}

def cellO (k : Int) (l : List Val) : Val × Bool := match keyV k l with | some v => (v, true) | none => ((0, 0, ⟨#[]⟩), false)
theorem cellO_some {k : Int} {l : List Val} {v : Val} (h : keyV k l = some v) : cellO k l = (v, true) := by unfold cellO; rw [h]
theorem cellO_none {k : Int} {l : List Val} (h : keyV k l = none) : cellO k l = ((0, 0, ⟨#[]⟩), false) := by unfold cellO; rw [h]
set_option maxHeartbeats 1000000 in
theorem cell_any (id : Int) (q : Option Addr) (l : List Val) (cp : Nat) (kk : Int) (w : World) (hR : RowAt w q l) :
    Calls Try.prog 21 #[.agg #[.int .i64 id, .slice q l.length cp], .int .i64 kk] w fun e w' => e = .returned (.tuple #[valV (cellO kk l).1, .bool (cellO kk l).2]) ∧ Below w.heap.size w w' := by
  have hb0 : Below w.heap.size w ((w.alloc (.cells #[.int .i64 id, .slice q l.length cp] 34)).alloc (.cells #[.int .i64 0, .int .i64 0, .string ⟨#[]⟩] 31)) := below_new (below_new (Below.refl _ _) _) _
  have HR := Lib.hid (hR.low hb0)
  obtain ⟨p0, p1⟩ := row2_new w (.int .i64 id) (.slice q l.length cp) 34
  have r1 : ((w.alloc (.cells #[.int .i64 id, .slice q l.length cp] 34)).alloc (.cells #[.int .i64 0, .int .i64 0, .string ⟨#[]⟩] 31)).cell? ⟨w.heap.size, 1, none⟩ = some (.slice q l.length cp) := by rw [(below_alloc _ _).cell (by simp)]; exact p1
  clear hR hb0 p0 p1
  by_cases hneg : kk < 0
  · have g1 : decide (kk < 0) = true := decide_eq_true hneg
    have HE := Lib.hid (cellO_none (keyV_neg (l := l) hneg))
    go_enter Try.func21, Try.ntmps21
    go_wp2
    exact bodyPost_ret (v := .tuple #[valV (0, 0, ⟨#[]⟩), .bool false]) (by simp [results, Try.results21, go_sem, valV]) rfl
      ⟨by rw [HE.out], below_new (below_new (Below.refl _ _) _) _⟩
  · obtain ⟨K, rfl⟩ : ∃ K : Nat, kk = K := ⟨kk.toNat, by omega⟩
    have g1 : decide ((K : Int) < 0) = false := decide_eq_false hneg
    by_cases hlen : K < l.length
    · have g2 : decide ((l.length : Int) ≤ (K : Int)) = false := decide_eq_false (by omega)
      have hkI : (K : Int) < (l.length : Int) := by omega
      have HE := Lib.hid (cellO_some (keyV_some hlen))
      obtain ⟨c2, o2, rfl, hc2, v0, v1, v2⟩ := HR.out K hlen
      go_enter Try.func21, Try.ntmps21
      go_wp2
      exact bodyPost_ret (v := .tuple #[valV (vAt l K), .bool true]) (by simp [results, Try.results21, go_sem, valV]) rfl
        ⟨by rw [HE.out], below_new (below_new (Below.refl _ _) _) _⟩
    · have g2 : decide ((l.length : Int) ≤ (K : Int)) = true := decide_eq_true (by omega)
      have HE := Lib.hid (cellO_none (keyV_long (k := K) (l := l) (by omega)))
      go_enter Try.func21, Try.ntmps21
      go_wp2
      exact bodyPost_ret (v := .tuple #[valV (0, 0, ⟨#[]⟩), .bool false]) (by simp [results, Try.results21, go_sem, valV]) rfl
        ⟨by rw [HE.out], below_new (below_new (Below.refl _ _) _) _⟩
end Go.Proofs.Ytidgfmjbfcgfiaa
