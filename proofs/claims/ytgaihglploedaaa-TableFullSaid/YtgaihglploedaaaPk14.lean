/-
  Several texts in one.
-/
import Derived.Test.YtgaihglploedaaaPk09
import Derived.Test.YtgaihglploedaaaPk13
import Derived.Test.YtgaihglploedaaaPk12
import Derived.Deep.AppendLies
import Derived.Deep.RegionLaw
/-
  Rows with numbers of the call's own: their cells, append.
-/
namespace Go.Proofs.Ytgaihglploedaaa
set_option maxRecDepth 100000
open Go.RowKit
variable {ls : List Nat}

/-- A row of the call's own: its number, its slice, its values. -/
abbrev GRow := Int × Value × List Val
def tcells (G : List GRow) : List Value := G.flatMap fun g => [.int .i64 g.1, g.2.1]
def tabR (G : List GRow) : List TRow := G.map fun g => (g.1, g.2.2)
theorem tcells_length (G : List GRow) : (tcells G).length = G.length * 2 := by
  induction G with
  | nil => rfl
  | cons g G ih => show (_ :: _ :: tcells G).length = _; rw [List.length_cons, List.length_cons, ih, List.length_cons]; omega
theorem tcells_append (G H : List GRow) : tcells (G ++ H) = tcells G ++ tcells H := List.flatMap_append
def grAt (G : List GRow) (i : Nat) : GRow := G.getD i (0, .slice none 0 0, [])
theorem grAt_mem {G : List GRow} {i : Nat} (h : i < G.length) : grAt G i ∈ G := by unfold grAt; rw [List.getD, List.getElem?_eq_getElem h]; exact List.getElem_mem h
theorem tabR_at {G : List GRow} {i : Nat} (h : i < G.length) : tAt (tabR G) i = ((grAt G i).1, (grAt G i).2.2) := by
  unfold tAt tabR grAt
  rw [List.getD, List.getD, List.getElem?_map, List.getElem?_eq_getElem h]
  rfl
theorem tcells_at (G : List GRow) (i : Nat) (h : i < G.length) : (tcells G)[i * 2]? = some (.int .i64 (grAt G i).1) ∧ (tcells G)[i * 2 + 1]? = some (grAt G i).2.1 := by
  induction G generalizing i with
  | nil => simp at h
  | cons g G ih =>
    have e : tcells (g :: G) = .int .i64 g.1 :: g.2.1 :: tcells G := rfl
    rw [e]
    cases i with
    | zero => exact ⟨rfl, rfl⟩
    | succ i =>
      rw [List.length_cons] at h
      have := ih i (by omega)
      rw [show (i + 1) * 2 = i * 2 + 1 + 1 by omega]
      exact this
theorem info_trow : (Try.prog.info? 34).map (fun i => (i.zero, i.size, i.bytes)) = some (some (.agg #[.int .i64 0, .slice none 0 0]), 2, 32) := by kernel_rfl

/-- Rows of the call's own. -/
structure TOwn (u : World) (base : Nat) (vr : Value) (G : List GRow) : Prop where
  own : u.ownsRow base 34 2 vr G.length (tcells G)
  inn : ∀ g ∈ G, InRow u base (g.2.1, g.2.2)
theorem TOwn.nil (u : World) (base : Nat) : TOwn u base (.slice none 0 0) [] := ⟨⟨rfl, Or.inl ⟨rfl, rfl⟩⟩, fun g hg => by cases hg⟩
theorem TOwn.low {u v : World} {base : Nat} {vr : Value} {G : List GRow} (h : TOwn u base vr G) (hb : Below u.heap.size u v) : TOwn v base vr G := ⟨owns_below h.own hb, fun g hg => (h.inn g hg).low hb⟩
theorem TOwn.base {u : World} {b b' : Nat} {vr : Value} {G : List GRow} (h : TOwn u b vr G) (hb : b' ≤ b) : TOwn u b' vr G := ⟨owns_base h.own hb, fun g hg => (h.inn g hg).base hb⟩
theorem TOwn.keep {u v : World} {base : Nat} {vr : Value} {G : List GRow} (h : TOwn u base vr G) (hk : ∀ k, base ≤ k → k < u.heap.size → v.heap[k]? = u.heap[k]?) : TOwn v base vr G :=
  ⟨owns_keep h.own fun k hk' => hk k (owns_block h.own k hk') (owns_lt h.own k hk'), fun g hg => ⟨owns_keep (h.inn g hg).1 fun k hk' => hk k (owns_block (h.inn g hg).1 k hk') (owns_lt (h.inn g hg).1 k hk'), (h.inn g hg).2⟩⟩
theorem TOwn.step {u v : World} {b base : Nat} {vr : Value} {G : List GRow} (h : TOwn u base vr G) (hb : b < base) (hs : StepT b u v) : TOwn v base vr G := h.keep fun k h1 h2 => hs.block k h2 (by omega)
theorem TOwn.set {u : World} {base V o : Nat} {vr : Value} {G : List GRow} (h : TOwn u base vr G) (hV : V < base) (y : Value) : TOwn (u.setCell ⟨V, o, none⟩ y) base vr G := h.keep fun k h1 _ => Below.heap_setCell _ _ _ _ (by show k ≠ V; omega)
theorem TOwn.shape {u : World} {base : Nat} {vr : Value} {G : List GRow} (h : TOwn u base vr G) : vr = .slice (rowP vr) G.length (rowC vr) := by
  rcases h.own.2 with ⟨rfl, h0⟩ | ⟨g, cap', cur, rfl, -⟩
  · rw [h0]; rfl
  · rfl
theorem TOwn.rows {u : World} {base : Nat} {vr : Value} {G : List GRow} (h : TOwn u base vr G) : TRowsAt u (rowP vr) (tabR G) := by
  intro i hi
  have hi' : i < G.length := by unfold tabR at hi; rw [List.length_map] at hi; exact hi
  rw [tabR_at hi']
  obtain ⟨hv, hr, hn⟩ := owned_shape (h.inn _ (grAt_mem hi')).1
  have hl := (h.inn _ (grAt_mem hi')).2
  rcases h.own.2 with ⟨-, h0⟩ | ⟨g, cap', cur, rfl, hg, hh, hcap, hm, hcur, htake⟩
  · omega
  · have hget : ∀ j, j < G.length * 2 → cur[j]? = (tcells G)[j]? := fun j hj => by
      rw [← htake, List.getElem?_take, if_pos hj]; simp
    obtain ⟨c0, c1⟩ := tcells_at G i hi'
    refine ⟨g, 0, _, _, rfl, (Array.getElem?_eq_some_iff.1 hh).1, ?_, ?_, hr, hl, hn⟩
    · rw [Nat.zero_add]
      simp only [World.cell?, hh]
      rw [if_neg (by simp), hget _ (by omega), c0]
    · rw [Nat.zero_add]
      simp only [World.cell?, hh]
      rw [if_neg (by simp), hget _ (by omega), c1, ← hv]
theorem tabR_length (G : List GRow) : (tabR G).length = G.length := by unfold tabR; rw [List.length_map]
theorem trow_news {w : World} {N : Nat} {id : Int} {y : Value} (h0 : w.cell? ⟨N, 0, none⟩ = some (.int .i64 id)) (h1 : w.cell? ⟨N, 1, none⟩ = some y) : ∀ j u, ([.int .i64 id, y] : List Value)[j]? = some u → w.cell? ((⟨N, 0, none⟩ : Addr).add j) = some u := by
  intro j u hj
  have hlt := (List.getElem?_eq_some_iff.1 hj).1
  have hadd : (⟨N, 0, none⟩ : Addr).add j = ⟨N, j, none⟩ := by unfold Addr.add; split <;> simp_all
  rw [hadd]
  match j, hlt with
  | 0, _ => rw [h0]; exact hj
  | 1, _ => rw [h1]; exact hj
theorem wpList_append_trow {w : World} {ops : Array Oper} {rest : List Oper} {o : Oper} {a : Act} {Q : Exit → Act → World → Prop} (hgd : o.guard = none) (s x : Operand)
    (ho : o.op = .call { callee := .builtin .append, args := #[s, x], argTypes := #[27, 27] })
    (base : Nat) (v : Value) (G : List GRow) (hs : a.eval s = v) (hown : w.ownsRow base 34 2 v G.length (tcells G))
    (N : Nat) (id : Int) (y : Value) (l : List Val) (hx : a.eval x = .slice (some ⟨N, 0, none⟩) 1 1) (h0 : w.cell? ⟨N, 0, none⟩ = some (.int .i64 id)) (h1 : w.cell? ⟨N, 1, none⟩ = some y) (hy : y.oneCell' = true) (hsum : (G.length + 1) * 32 ≤ 140737488355328) (hbase : base ≤ w.heap.size)
    (h : ∀ v' w', w'.ownsRow base 34 2 v' (G ++ [(id, y, l)]).length (tcells (G ++ [(id, y, l)])) → w.grownBy w' v.ownBlock → wpList Try.prog ops Q rest (a.put o.dst v') w') : wpList Try.prog ops Q (o :: rest) a w := by
  obtain ⟨i0, hi, hz0, hz1, hz2⟩ := info_parts info_trow
  refine wpList_append_own w hgd s x 27 ho base 34 i0 _ 2 32 Try.underlying27 hi hz0 hz1 hz2 rfl (by decide) v G.length (tcells G) hs hown ⟨N, 0, none⟩ 1 1 [.int .i64 id, y] hx rfl (trow_news h0 h1) (fun u hu => by
    rcases List.mem_cons.1 hu with rfl | hu
    · rfl
    · obtain rfl := List.mem_singleton.1 hu
      exact hy) (by unfold maxLen; omega) hsum hbase ?_
  intro v' w' h1 h2 _
  refine h v' w' ?_ h2
  rw [List.length_append, List.length_singleton, tcells_append]
  exact h1
theorem InRow.apartT {u v : World} {base base' n : Nat} {vo : Value} {xs : List Value} {x : Value × List Val} (h : InRow u base x) (ho : u.ownsRow base' 34 2 vo n xs) (hb : ∀ k, k < u.heap.size → vo.ownBlock ≠ some k → v.heap[k]? = u.heap[k]?) : InRow v base x :=
  ⟨owns_keep h.1 fun k hk => hb k (owns_lt h.1 k hk) (owns_apart h.1 ho (by decide) k hk), h.2⟩
theorem TOwn.push {u w8 : World} {base : Nat} {vr v8 : Value} {G : List GRow} {g : GRow} {o : Obj} (h : TOwn u base vr G) (hz : InRow u base (g.2.1, g.2.2))
    (ho : w8.ownsRow base 34 2 v8 (G ++ [g]).length (tcells (G ++ [g]))) (hg : (u.alloc o).grownBy w8 vr.ownBlock) : TOwn w8 base v8 (G ++ [g]) := by
  have h7 := h.low (below_alloc u o)
  have hz7 := hz.low (below_alloc u o)
  have hin : ∀ q, InRow (u.alloc o) base q → InRow w8 base q := fun q hq => hq.apartT h7.own fun k hk hne => hg.block k hk (fun e => hne e.symm)
  refine ⟨ho, fun q hq => ?_⟩
  rcases List.mem_append.1 hq with hq | hq
  · exact hin _ (h7.inn q hq)
  · obtain rfl := List.mem_singleton.1 hq
    exact hin _ hz7
theorem Cell4.grown {u v : World} {X : Nat} {x y z t : Value} {row : Option Nat} (h : Cell4 u X x y z t) (hg : u.grownBy v row) (hr : ∀ k, row = some k → X < k) : Cell4 v X x y z t := by
  have hb := hg.block X h.lt (fun e => by have := hr X e.symm; omega)
  exact ⟨Nat.lt_of_lt_of_le h.lt hg.size, by rw [World.cell?_of_block (w := u) hb]; exact h.c0, by rw [World.cell?_of_block (w := u) hb]; exact h.c1, by rw [World.cell?_of_block (w := u) hb]; exact h.c2, by rw [World.cell?_of_block (w := u) hb]; exact h.c3, fun o => by rw [World.frozen?_of_block (w := u) hb]; exact h.fz o⟩
theorem TOwn.ex {u : World} {base : Nat} {vr : Value} {G : List GRow} (h : TOwn u base vr G) : ∃ p c, vr = .slice p G.length c := ⟨_, _, h.shape⟩
theorem tabR_append (G H : List GRow) : tabR (G ++ H) = tabR G ++ tabR H := List.map_append
theorem TRowsAt.take {w : World} {p : Option Addr} {R : List TRow} (h : TRowsAt w p R) (m : Nat) : TRowsAt w p (R.take m) := by
  intro i hi
  rw [List.length_take] at hi
  have hi' : i < R.length := by omega
  have e : tAt (R.take m) i = tAt R i := by rw [tAt_get (by rw [List.length_take]; omega), tAt_get hi', List.getElem_take]
  rw [e]
  exact h i hi'
end Go.Proofs.Ytgaihglploedaaa
/-
  The law TableFull, walked: from what package table does.
-/
namespace Go.Proofs.Ytgaihglploedaaa
set_option maxRecDepth 100000
open Go.RowKit
variable {ls : List Nat}

def fullRow (j : Nat) : TRow := ((j : Int) + 1, [(0, 0, ⟨#[]⟩), (0, 0, ⟨#[]⟩)])
def fullR (k : Nat) : List TRow := (List.range k).map fullRow
theorem fullR_succ (k : Nat) : fullR (k + 1) = fullR k ++ [fullRow k] := by unfold fullR; rw [List.range_succ, List.map_append]; rfl
theorem fullR_length (k : Nat) : (fullR k).length = k := by unfold fullR; simp
theorem fullR_take (k : Nat) (h : 5 ≤ k) : (fullR k).take 5 = fullR 5 := by
  unfold fullR
  rw [← List.map_take, List.take_range, Nat.min_eq_left h]
theorem full_valid (N : Nat) (h : 98 ≤ N) (h2 : N ≤ 102) : validT ⟨#[108, 111, 103]⟩ 2 colLog ((N : Int) + 1) (fullR N) = decide (N ≤ 100) := by
  have hN : N = 98 ∨ N = 99 ∨ N = 100 ∨ N = 101 ∨ N = 102 := by omega
  rcases hN with rfl | rfl | rfl | rfl | rfl <;> decide +kernel
theorem full_sized (k : Nat) (r : TRow) (hr : r ∈ fullR k) : ValsSized r.2 := by
  unfold fullR at hr
  obtain ⟨j, -, rfl⟩ := List.mem_map.1 hr
  intro i hi
  have hi2 : i < 2 := hi
  obtain rfl | rfl : i = 0 ∨ i = 1 := by omega
  all_goals exact Nat.zero_le _
theorem five_valid : validT ⟨#[108, 111, 103]⟩ 2 colLog 5 (fullR 5) = false := by decide +kernel
abbrev nilVals : Obj := .cells #[.int .i64 0, .int .i64 0, .string ⟨#[]⟩, .int .i64 0, .int .i64 0, .string ⟨#[]⟩] 31
theorem nil_row (u : World) (base : Nat) (hb : base ≤ u.heap.size) : InRow (u.alloc nilVals) base (.slice (some ⟨u.heap.size, 0, none⟩) 2 2, [(0, 0, ⟨#[]⟩), (0, 0, ⟨#[]⟩)]) :=
  ⟨World.ownsRow_lit u #[.int .i64 0, .int .i64 0, .string ⟨#[]⟩, .int .i64 0, .int .i64 0, .string ⟨#[]⟩] 2 hb (by decide) rfl, by show 2 * 32 ≤ 140737488355328; omega⟩
/-- What the loop keeps. -/
structure FullAt (w : World) (B Z N : Nat) (vr : Value) (G : List GRow) (u : World) : Prop where
  tab : Cell4 u B (.string ⟨#[108, 111, 103]⟩) (.slice (some ⟨Z, 0, none⟩) 2 2) (.int .i64 ((N : Int) + 1)) vr
  own : TOwn u (B + 1) vr G
  cols : ColsAt u (some ⟨Z, 0, none⟩) 2 colLog
  low : Below w.heap.size w u
  wB : w.heap.size ≤ B
  ZB : Z < B
abbrev nilG (id : Int) (R : Nat) : GRow := (id, .slice (some ⟨R, 0, none⟩) 2 2, [(0, 0, ⟨#[]⟩), (0, 0, ⟨#[]⟩)])
theorem FullAt.mid {w u w8 : World} {B Z N : Nat} {vr : Value} {G : List GRow} {o : Obj} (h : FullAt w B Z N vr G u) (hg : ((u.alloc nilVals).alloc o).grownBy w8 vr.ownBlock) : Cell4 w8 B (.string ⟨#[108, 111, 103]⟩) (.slice (some ⟨Z, 0, none⟩) 2 2) (.int .i64 ((N : Int) + 1)) vr :=
  (h.tab.low ((below_alloc u nilVals).alloc (by rw [size_alloc]; omega) o)).grown hg (fun k hk' => by have := (h.own.own.lt k hk').1; omega)
theorem FullAt.next {w u w8 : World} {B Z N : Nat} {vr v8 : Value} {G : List GRow} {id : Int} {o : Obj} (h : FullAt w B Z N vr G u)
    (ho : w8.ownsRow (B + 1) 34 2 v8 (G ++ [nilG id u.heap.size]).length (tcells (G ++ [nilG id u.heap.size])))
    (hg : ((u.alloc nilVals).alloc o).grownBy w8 vr.ownBlock) :
    FullAt w B Z N v8 (G ++ [nilG id u.heap.size]) (w8.setCell ⟨B, 3, none⟩ v8) := by
  have hlt := h.tab.lt
  have hB := h.wB
  have hZ := h.ZB
  have hk : ∀ k, vr.ownBlock = some k → B + 1 ≤ k := fun k hk => (h.own.own.lt k hk).1
  have h1 := h.own.low (below_alloc u nilVals)
  have h2 := h1.push (g := nilG id u.heap.size) (nil_row u (B + 1) hlt) ho hg
  have hb2 : Below u.heap.size u ((u.alloc nilVals).alloc o) := (below_alloc u nilVals).alloc (by rw [size_alloc]; omega) o
  have hz2 : u.heap.size ≤ ((u.alloc nilVals).alloc o).heap.size := hb2.size
  refine ⟨((h.tab.low hb2).grown hg (fun k hk' => by have := hk k hk'; omega)).set3 v8, h2.set (by omega) _, ((h.cols.low hb2).keep hg.size (fun a ha => ?_)).set (fun q hq => ?_) _, ?_, hB, hZ⟩
  · cases ha
    exact hg.block _ (by show Z < _; omega) (fun e => by have := hk _ e.symm; dsimp only at this; omega)
  · cases hq
    show Z ≠ B
    omega
  · exact (grown_below (below_next h.low hb2) (by have := h.low.size; omega) hg (fun k hk' => by have := hk k hk'; omega)).setCell (by exact hB) _
set_option maxHeartbeats 2000000 in
theorem tfull_walk (hT : TableDoes) (w : World) (n : Int) :
    Calls Try.prog 3 #[.int .i64 n] w fun e w' => e = .returned (.bool true) ∧ Below w.heap.size w w' := by
  have hm0 := (modI_range n 5 (by decide)).1
  have hm1 := (modI_range n 5 (by decide)).2
  obtain ⟨N, hN⟩ : ∃ N : Nat, (98 : Int) + modI n 5 = N := ⟨(98 + modI n 5).toNat, by omega⟩
  have hN1 : 98 ≤ N := by omega
  have hN2 : N ≤ 102 := by omega
  have HN := Lib.hid hN
  have hwr : IntKind.i64.wrap ((98 : Int) + modI n 5) = (N : Int) := by rw [i64w (by omega) (by omega), hN]
  clear hN
  go_enter Try.func3, Try.ntmps3
  go_wp2_with fail
  refine (mod_any n 5 _ (by decide) (by decide)).mono ?_
  rintro e w1 ⟨rfl, rfl⟩
  go_wp2_with fail
  refine (schemaLog_any _).mono ?_
  rintro e w2 ⟨Z, rfl, hZ, hZl, hb2⟩
  have HZ := Lib.hid hZ
  have HB2 := Lib.hid hb2
  clear hZ hb2
  unfold schV
  have hwr2 : IntKind.i64.wrap ((N : Int) + 1) = (N : Int) + 1 := i64w (by omega) (by omega)
  have HW := Lib.hid (FullAt.mk (w := w1) (B := w2.heap.size) (Z := Z) (N := N) (vr := .slice none 0 0) (G := []) (cell4_new w2 (.string ⟨#[108, 111, 103]⟩) (.slice (some ⟨Z, 0, none⟩) 2 2) (.int .i64 ((N : Int) + 1)) (.slice none 0 0) 29) (TOwn.nil _ _) (HZ.out.low (below_alloc _ _)) (below_new HB2.out _) HB2.out.size (by have := (HZ.out.at0 (i := 0) (by decide)).1; exact this))
  clear HZ
  go_wp2_with fail
  clear HB2
  generalize w2.heap.size = B at HW ⊢
  generalize w2.alloc _ = v2 at HW ⊢
  go_loopw [4] (fun i v => ∃ (k : Nat) (vr : Value) (G : List GRow), i = .int .i64 ((k : Int) + 1) ∧ k ≤ N ∧ tabR G = fullR k ∧ FullAt w1 B Z N vr G v) (fun i _ => N + 1 - (intOf i).toNat)
  case atStart => exact ⟨0, _, [], rfl, Nat.zero_le _, rfl, HW.out⟩
  clear HW
  case round =>
    obtain ⟨k, vr, G, rfl, hk, hR, hw⟩ := hrel
    have hG : G.length = k := by have := congrArg List.length hR; rw [tabR_length, fullR_length] at this; exact this
    have HR := Lib.hid hR
    have HW := Lib.hid hw
    obtain ⟨xl, x0, x1, x2, x3, xf⟩ := hw.tab
    clear hR hw
    by_cases hkn : k + 1 ≤ N
    · have hle : decide ((k : Int) + 1 ≤ N) = true := decide_eq_true (by omega)
      have hwr3 : IntKind.i64.wrap ((k : Int) + 1 + 1) = (k : Int) + 1 + 1 := i64w (by omega) (by omega)
      have HC := Lib.hid (cell2_new (wr.alloc nilVals) (.int .i64 ((k : Int) + 1)) (.slice (some ⟨wr.heap.size, 0, none⟩) 2 2) 34)
      have HO := Lib.hid (HW.out.own.own.alloc nilVals)
      have HO2 := Lib.hid (HO.out.alloc (.cells #[.int .i64 ((k : Int) + 1), .slice (some ⟨wr.heap.size, 0, none⟩) 2 2] 34))
      clear HO
      go_wp2_with (at_builtin; refine wpList_append_trow rfl (.tmp 18) (.tmp 24) rfl (B + 1) vr G (by rfl) HO2.out (wr.heap.size + 1) ((k : Int) + 1) (.slice (some ⟨wr.heap.size, 0, none⟩) 2 2) [(0, 0, ⟨#[]⟩), (0, 0, ⟨#[]⟩)] (by rfl) (HC.out.at (by rw [size_alloc])).c0 (HC.out.at (by rw [size_alloc])).c1 rfl (by omega) (by rw [size_alloc, size_alloc]; omega) ?_; intro v8 w8 hown8 hgr8; (have HM := Lib.hid (HW.out.mid hgr8)); (have HN8 := Lib.hid (HW.out.next hown8 hgr8)); clear hown8 hgr8 xl x0 x1 x2 x3 xf; obtain ⟨p8, c8, hv8⟩ := HN8.out.own.ex; rw [show (G ++ [nilG ((k : Int) + 1) wr.heap.size]).length = k + 1 from by rw [List.length_append, hG]; rfl] at hv8; subst hv8; obtain ⟨xl, x0, x1, x2, x3, xf⟩ := HM.out)
      go_roundw
      case rel => exact ⟨k + 1, _, G ++ [nilG ((k : Int) + 1) wr.heap.size], by go_num, by omega, by rw [tabR_append, HR.out, fullR_succ]; rfl, HN8.out⟩
      case measure => simp [intOf]; omega
    · obtain rfl : k = N := by omega
      have hle : decide ((k : Int) + 1 ≤ k) = false := decide_eq_false (by omega)
      have hown := HW.out.own
      obtain ⟨g, cr, hvr, hck⟩ : ∃ g cr, vr = .slice (some ⟨g, 0, none⟩) k cr ∧ k ≤ cr := by
        rcases hown.own.2 with ⟨-, h0⟩ | ⟨g, cap', cur, he, -, -, hcap, -⟩
        · omega
        · exact ⟨g, cap', by rw [he, hG], by omega⟩
      subst hvr
      have hc5 : 5 ≤ cr := by omega
      have hrows : TRowsAt wr (some ⟨g, 0, none⟩) (tabR G) := hown.rows
      have HOWN := Lib.hid hown
      have hlow := HW.out.low
      have HLOW := Lib.hid hlow
      have HCOL := Lib.hid HW.out.cols
      have HBX := Lib.hid HW.out.tab
      have hBw := HW.out.wB
      have hZB := HW.out.ZB
      clear HW hown hlow
      have hvt : ∀ (T : Tab), T = ⟨⟨#[108, 111, 103]⟩, some ⟨Z, 0, none⟩, 2, 2, colLog, (k : Int) + 1, some ⟨g, 0, none⟩, cr, tabR G⟩ → T.valid = decide ((k : Int) ≤ 100) := by
        rintro T rfl
        show validT _ _ _ _ (tabR G) = _
        rw [HR.out, full_valid k hN1 hN2]
        by_cases h : k ≤ 100
        · rw [decide_eq_true h, decide_eq_true (by omega)]
        · rw [decide_eq_false h, decide_eq_false (by omega)]
      have hTA : ∀ (T : Tab), T = ⟨⟨#[108, 111, 103]⟩, some ⟨Z, 0, none⟩, 2, 2, colLog, (k : Int) + 1, some ⟨g, 0, none⟩, cr, tabR G⟩ → TabAt wr T ∧ T.v = .agg #[.string ⟨#[108, 111, 103]⟩, .slice (some ⟨Z, 0, none⟩) 2 2, .int .i64 ((k : Int) + 1), .slice (some ⟨g, 0, none⟩) k cr] := by
        rintro T rfl
        refine ⟨⟨(by decide : (3 : Nat) ≤ 9223372036854775807), (by decide : (2 : Nat) ≤ 9223372036854775807), HCOL.out, hrows, by show (tabR G).length ≤ 1000; rw [tabR_length]; omega, fun r hr => ?_, by show (k : Int) + 1 ≤ 9223372036854775807; omega⟩, by unfold Tab.v; dsimp only; rw [tabR_length, hG]⟩
        exact full_sized k r (by rw [← HR.out]; exact hr)
      obtain ⟨T, hT1⟩ : ∃ T : Tab, T = ⟨⟨#[108, 111, 103]⟩, some ⟨Z, 0, none⟩, 2, 2, colLog, (k : Int) + 1, some ⟨g, 0, none⟩, cr, tabR G⟩ := ⟨_, rfl⟩
      have hv1 := hT.valid T wr (hTA T hT1).1
      rw [(hTA T hT1).2, hvt T hT1] at hv1
      have HV1 := Lib.hid hv1
      clear hv1 hrows hvt hTA hT1
      go_wp2_with fail
      refine HV1.out.mono ?_
      rintro e w3 ⟨rfl, hb3⟩
      clear HV1
      have HLOW3 := Lib.hid (below_next HLOW.out hb3)
      have HCOL3 := Lib.hid (HCOL.out.low hb3)
      have HOWN3 := Lib.hid (HOWN.out.low hb3)
      have HBX3 := Lib.hid (HBX.out.low hb3)
      clear hb3 HLOW HCOL HOWN HBX xl x0 x1 x2 x3 xf
      obtain ⟨xl, x0, x1, x2, x3, xf⟩ := HBX3.out
      obtain ⟨d, hd⟩ : ∃ d, d = decide ((k : Int) ≤ 100) := ⟨_, rfl⟩
      rw [← hd]
      have hd2 := hd.symm
      have hT5 : ∀ u : World, TRowsAt u (some ⟨g, 0, none⟩) (tabR G) → ColsAt u (some ⟨Z, 0, none⟩) 2 colLog → Calls Try.prog 8 #[.agg #[.string ⟨#[108, 111, 103]⟩, .slice (some ⟨Z, 0, none⟩) 2 2, .int .i64 5, .slice (some ⟨g, 0, none⟩) 5 cr]] u fun e w' => e = .returned (.bool false) ∧ Below u.heap.size u w' := by
        intro u hr hc
        have hr5 := hr.take 5
        rw [HR.out, fullR_take k (by omega)] at hr5
        have h := hT.valid ⟨⟨#[108, 111, 103]⟩, some ⟨Z, 0, none⟩, 2, 2, colLog, 5, some ⟨g, 0, none⟩, cr, fullR 5⟩ u ⟨(by decide : (3 : Nat) ≤ 9223372036854775807), (by decide : (2 : Nat) ≤ 9223372036854775807), hc, hr5, by show (fullR 5).length ≤ 1000; decide, fun r hr => full_sized 5 r hr, (by decide : (5 : Int) ≤ 9223372036854775807)⟩
        rw [show (Tab.valid ⟨⟨#[108, 111, 103]⟩, some ⟨Z, 0, none⟩, 2, 2, colLog, 5, some ⟨g, 0, none⟩, cr, fullR 5⟩) = false from five_valid] at h
        exact h
      have HT5 := Lib.hid hT5
      clear hT5 hd hk hkn hle hwr hwr2
      cases d
      all_goals
        go_wp2_with fail
        refine (HT5.out _ ((HOWN3.out.set (Nat.lt_succ_self _) _).set (Nat.lt_succ_self _) _).rows ((HCOL3.out.set (fun q hq => by cases hq; show Z ≠ B; omega) _).set (fun q hq => by cases hq; show Z ≠ B; omega) _)).mono ?_
        rintro e w4 ⟨rfl, hb4⟩
        have HB4 := Lib.hid (below_next ((HLOW3.out.setCell (by exact hBw) _).setCell (by exact hBw) _) hb4)
        clear hb4 HLOW3 HCOL3 HOWN3 HBX3 xl x0 x1 x2 x3 xf HT5
        go_wp2_with fail
        refine (known6_any hT _).mono ?_
        rintro e w5 ⟨rfl, hb5⟩
        have HB5 := Lib.hid (below_next HB4.out hb5)
        clear hb5 HB4
        go_wp2
        go_ret
        exact ⟨rfl, HB5.out⟩
end Go.Proofs.Ytgaihglploedaaa
/-
  Appends at a step of a region that draws its order.
-/
namespace Go.Proofs.Ytgaihglploedaaa
set_option maxRecDepth 100000
open Go.RowKit
variable {ls : List Nat}

theorem Cell4.conj {u : World} {X : Nat} {a b c d : Value} (h : Cell4 u X a b c d) : u.cell? ⟨X, 0, none⟩ = some a ∧ u.cell? ⟨X, 1, none⟩ = some b ∧ u.cell? ⟨X, 2, none⟩ = some c ∧ u.cell? ⟨X, 3, none⟩ = some d ∧ X < u.heap.size := ⟨h.c0, h.c1, h.c2, h.c3, h.lt⟩
theorem Cell4.set0 {u : World} {X : Nat} {a b c d : Value} (h : Cell4 u X a b c d) (y : Value) : Cell4 (u.setCell ⟨X, 0, none⟩ y) X y b c d := by
  obtain ⟨hl, c0, c1, c2, c3, fz⟩ := h
  refine ⟨by simpa [World.setCell] using hl, ?_, ?_, ?_, ?_, fun o => ?_⟩
  · go_simp
  · go_simp
  · go_simp
  · go_simp
  · rw [World.frozen?_setCell]; exact fz o
theorem Cell4.set1 {u : World} {X : Nat} {a b c d : Value} (h : Cell4 u X a b c d) (y : Value) : Cell4 (u.setCell ⟨X, 1, none⟩ y) X a y c d := by
  obtain ⟨hl, c0, c1, c2, c3, fz⟩ := h
  refine ⟨by simpa [World.setCell] using hl, ?_, ?_, ?_, ?_, fun o => ?_⟩
  · go_simp
  · go_simp
  · go_simp
  · go_simp
  · rw [World.frozen?_setCell]; exact fz o
theorem InRow.ex {u : World} {base : Nat} {v : Value} {l : List Val} (h : InRow u base (v, l)) : ∃ p c, v = .slice p l.length c := ⟨_, _, (owned_shape h.1).1⟩
theorem keepCT {u v : World} {X : Nat} {x y : Value} (hb : Below u.heap.size u v) (h : u.cell? ⟨X, 0, none⟩ = some x ∧ u.cell? ⟨X, 1, none⟩ = some y ∧ X < u.heap.size) : v.cell? ⟨X, 0, none⟩ = some x ∧ v.cell? ⟨X, 1, none⟩ = some y ∧ X < v.heap.size := by
  obtain ⟨a, b, c⟩ := h
  exact ⟨by rw [hb.cell (by exact c)]; exact a, by rw [hb.cell (by exact c)]; exact b, Nat.lt_of_lt_of_le c hb.size⟩
theorem keepCG {u v : World} {X : Nat} {x y : Value} {row : Option Nat} (hg : u.grownBy v row) (hne : ∀ k, row = some k → k < X) (h : u.cell? ⟨X, 0, none⟩ = some x ∧ u.cell? ⟨X, 1, none⟩ = some y ∧ X < u.heap.size) : v.cell? ⟨X, 0, none⟩ = some x ∧ v.cell? ⟨X, 1, none⟩ = some y ∧ X < v.heap.size := by
  obtain ⟨a, b, c⟩ := h
  have hb := hg.block X c (fun e => by have := hne X e.symm; omega)
  exact ⟨by rw [World.cell?_of_block (w := u) hb]; exact a, by rw [World.cell?_of_block (w := u) hb]; exact b, Nat.lt_of_lt_of_le c hg.size⟩
theorem take_succ_tr {R : List TRow} {k : Nat} (h : k < R.length) : R.take k ++ [tAt R k] = R.take (k + 1) := by
  rw [List.take_add_one, List.getElem?_eq_getElem h, tAt_get h]; rfl
/-- At a step of a region that draws its order. -/
theorem step_of {P : Program} {ops : Array Oper} {o : Oper} {a : Act} {w : World} {K : Act → World → Prop} {Q : Exit → Act → World → Prop} {E : Prop} (hgd : o.guard = none) (h : o.wp P a w K Q) : if Region.wanted o (yielded ops a.tmps) = true then Oper.wp P o a w K Q else E := by
  rw [if_pos (by simp [Region.wanted, hgd])]
  exact h
theorem step_copy_vals {w : World} {ops : Array Oper} {o : Oper} {a : Act} {K : Act → World → Prop} {Q : Exit → Act → World → Prop} {E : Prop} (hgd : o.guard = none) (s x : Operand)
    (ho : o.op = .call { callee := .builtin .append, args := #[s, x], argTypes := #[32, 32] })
    (base : Nat) (hs : a.eval s = .slice none 0 0) (ad : Addr) (lx : List Val) (cx : Nat) (hx : a.eval x = .slice (some ad) lx.length cx) (hrow : RowAt w (some ad) lx) (hsum : lx.length * 32 ≤ 140737488355328) (hbase : base ≤ w.heap.size)
    (h : ∀ v' w', InRow w' base (v', lx) → Below w.heap.size w w' → K (a.put o.dst v') w') : if Region.wanted o (yielded ops a.tmps) = true then Oper.wp Try.prog o a w K Q else E := by
  obtain ⟨i0, hi, hz0, hz1, hz2⟩ := info_parts info_val
  refine step_of hgd (wp_append_own w s x 32 ho base 31 i0 _ 3 32 Try.underlying32 hi hz0 hz1 hz2 rfl (by decide) (.slice none 0 0) 0 (vcells []) hs ⟨rfl, Or.inl ⟨rfl, rfl⟩⟩ ad lx.length cx (vcells lx) hx (vcells_length lx) (news_of_row hrow ad rfl) (vcells_one lx) (by unfold maxLen; omega) (by omega) hbase ?_)
  intro v' w' h1 h2 _
  rw [Nat.zero_add] at h1
  exact h v' w' ⟨h1, hsum⟩ (grown_below (Below.refl _ _) (Nat.le_refl _) h2 (fun k hk => by cases hk))
theorem step_append_trow {w : World} {ops : Array Oper} {o : Oper} {a : Act} {K : Act → World → Prop} {Q : Exit → Act → World → Prop} {E : Prop} (hgd : o.guard = none) (s x : Operand)
    (ho : o.op = .call { callee := .builtin .append, args := #[s, x], argTypes := #[27, 27] })
    (base : Nat) (v : Value) (G : List GRow) (hs : a.eval s = v) (hown : w.ownsRow base 34 2 v G.length (tcells G))
    (N : Nat) (id : Int) (y : Value) (l : List Val) (hx : a.eval x = .slice (some ⟨N, 0, none⟩) 1 1) (h0 : w.cell? ⟨N, 0, none⟩ = some (.int .i64 id)) (h1 : w.cell? ⟨N, 1, none⟩ = some y) (hy : y.oneCell' = true) (hsum : (G.length + 1) * 32 ≤ 140737488355328) (hbase : base ≤ w.heap.size)
    (h : ∀ v' w', w'.ownsRow base 34 2 v' (G ++ [(id, y, l)]).length (tcells (G ++ [(id, y, l)])) → w.grownBy w' v.ownBlock → K (a.put o.dst v') w') : if Region.wanted o (yielded ops a.tmps) = true then Oper.wp Try.prog o a w K Q else E := by
  obtain ⟨i0, hi, hz0, hz1, hz2⟩ := info_parts info_trow
  refine step_of hgd (wp_append_own w s x 27 ho base 34 i0 _ 2 32 Try.underlying27 hi hz0 hz1 hz2 rfl (by decide) v G.length (tcells G) hs hown ⟨N, 0, none⟩ 1 1 [.int .i64 id, y] hx rfl (trow_news h0 h1) (fun u hu => by
    rcases List.mem_cons.1 hu with rfl | hu
    · rfl
    · obtain rfl := List.mem_singleton.1 hu
      exact hy) (by unfold maxLen; omega) hsum hbase ?_)
  intro v' w' h1 h2 _
  refine h v' w' ?_ h2
  rw [List.length_append, List.length_singleton, tcells_append]
  exact h1
theorem step_append_cols {w : World} {ops : Array Oper} {o : Oper} {a : Act} {K : Act → World → Prop} {Q : Exit → Act → World → Prop} {E : Prop} (hgd : o.guard = none) (s x : Operand)
    (ho : o.op = .call { callee := .builtin .append, args := #[s, x], argTypes := #[23, 23] })
    (base : Nat) (v : Value) (l : List Col) (hs : a.eval s = v) (hown : w.ownsRow base 62 4 v l.length (ccells l))
    (ad : Addr) (lx : List Col) (cx : Nat) (hx : a.eval x = .slice (some ad) lx.length cx) (hcol : ColsAt w (some ad) lx.length (cAt lx)) (hsum : (l.length + lx.length) * 32 ≤ 140737488355328) (hbase : base ≤ w.heap.size)
    (h : ∀ v' w', w'.ownsRow base 62 4 v' (l ++ lx).length (ccells (l ++ lx)) → w.grownBy w' v.ownBlock → K (a.put o.dst v') w') : if Region.wanted o (yielded ops a.tmps) = true then Oper.wp Try.prog o a w K Q else E := by
  obtain ⟨i0, hi, hz0, hz1, hz2⟩ := info_parts info_col
  refine step_of hgd (wp_append_own w s x 23 ho base 62 i0 _ 4 32 Try.underlying23 hi hz0 hz1 hz2 rfl (by decide) v l.length (ccells l) hs hown ad lx.length cx (ccells lx) hx (ccells_length lx) (news_of_cols hcol) (ccells_one lx) (by unfold maxLen; omega) hsum hbase ?_)
  intro v' w' h1 h2 _
  refine h v' w' ?_ h2
  rw [List.length_append, ccells_append]
  exact h1
end Go.Proofs.Ytgaihglploedaaa
/-
  Package clone: copies of rows.
-/
namespace Go.Proofs.Ytgaihglploedaaa
set_option maxRecDepth 100000
open Go.RowKit
variable {ls : List Nat}

theorem InRow.keep2 {u v : World} {base : Nat} {x : Value × List Val} (h : InRow u base x) (hk : ∀ k, base ≤ k → k < u.heap.size → v.heap[k]? = u.heap[k]?) : InRow v base x :=
  ⟨owns_keep h.1 fun k hk' => hk k (owns_block h.1 k hk') (owns_lt h.1 k hk'), h.2⟩
/-- What a copy of a row gives. -/
def CopyRowPost (id : Int) (t : List Val) (w : World) (e : Ending) (w' : World) : Prop := ∃ v : Value, e = .returned (.agg #[.int .i64 id, v]) ∧ InRow w' w.heap.size (v, t) ∧ Below w.heap.size w w'
theorem cell2_row (w : World) (id : Int) (y : Value) : Cell2 (w.alloc (.cells #[.int .i64 id, y] 34)) w.heap.size (.int .i64 id) y := cell2_new w _ _ _
theorem cell2_put (u : World) {X : Nat} {a b : Value} (h : Cell2 u X a b) (x y : Value) : Cell2 ((u.setCell ⟨X, 0, none⟩ x).setCell ⟨X, 1, none⟩ y) X x y := by
  obtain ⟨hl, c0, c1, fz⟩ := h
  refine ⟨by simpa [World.setCell] using hl, ?_, ?_, fun o => ?_⟩
  · go_simp
  · go_simp
  · rw [World.frozen?_setCell, World.frozen?_setCell]; exact fz o
end Go.Proofs.Ytgaihglploedaaa
