/-
  Several texts in one.
-/
import Derived.Test.YtidgfmjbfcgfiaaDoorPk09
import Derived.Test.YtidgfmjbfcgfiaaDoorPk04
import Derived.OwnWalk
import Derived.Laws.AppendOwn
import Derived.Test.YtidgfmjbfcgfiaaDoorPk11
import Derived.Test.YtidgfmjbfcgfiaaDoorPk01
import Derived.Test.YtidgfmjbfcgfiaaDoorPk08
/-
  Rows of columns that the call owns: append; stores into them.
-/
namespace Go.Proofs.YtidgfmjbfcgfiaaDoor
set_option maxRecDepth 100000
open Go.RowKit
variable {ls : List Nat}

def cAt (l : List Col) (i : Nat) : Col := l.getD i default
/-- The cells of a list of columns. -/
def ccells : List Col → List Value
  | [] => []
  | x :: l => .string x.nm :: .int .i64 x.ty :: .bool x.nn :: .bool x.key :: ccells l
theorem ccells_length (l : List Col) : (ccells l).length = l.length * 4 := by
  induction l with
  | nil => rfl
  | cons x l ih => simp only [ccells, List.length_cons, ih]; omega
theorem ccells_append (a b : List Col) : ccells (a ++ b) = ccells a ++ ccells b := by
  induction a with
  | nil => rfl
  | cons x a ih => simp only [List.cons_append, ccells, ih]
theorem ccells_at (l : List Col) : ∀ i, i < l.length → (ccells l)[i * 4]? = some (.string (cAt l i).nm) ∧ (ccells l)[i * 4 + 1]? = some (.int .i64 (cAt l i).ty) ∧ (ccells l)[i * 4 + 2]? = some (.bool (cAt l i).nn) ∧ (ccells l)[i * 4 + 3]? = some (.bool (cAt l i).key) := by
  induction l with
  | nil => intro i hi; simp at hi
  | cons x l ih =>
    intro i hi
    cases i with
    | zero => exact ⟨rfl, rfl, rfl, rfl⟩
    | succ i =>
      have h := ih i (by simpa using hi)
      have e : cAt (x :: l) (i + 1) = cAt l i := by simp [cAt]
      rw [e, Nat.succ_mul]
      exact h
theorem ccells_one (l : List Col) : ∀ u ∈ ccells l, u.oneCell' = true := by
  induction l with
  | nil => intro u hu; simp [ccells] at hu
  | cons x l ih =>
    intro u hu
    simp only [ccells, List.mem_cons] at hu
    rcases hu with rfl | rfl | rfl | rfl | hu
    · rfl
    · rfl
    · rfl
    · rfl
    · exact ih u hu
/-- Texts of columns that Go could hold. -/
def Sized (l : List Col) : Prop := ∀ i, i < l.length → (cAt l i).nm.size ≤ 9223372036854775807
theorem cAt_left {a b : List Col} {i : Nat} (h : i < a.length) : cAt (a ++ b) i = cAt a i := by unfold cAt; rw [List.getD, List.getElem?_append_left h]; rfl
theorem cAt_new {a : List Col} {c : Col} : cAt (a ++ [c]) a.length = c := by unfold cAt; rw [List.getD, List.getElem?_append_right (Nat.le_refl _)]; simp
theorem all_add {P : Nat → Col → Prop} {a : List Col} {c : Col} (h : ∀ i, i < a.length → P i (cAt a i)) (hc : P a.length c) : ∀ i, i < (a ++ [c]).length → P i (cAt (a ++ [c]) i) := by
  intro i hi
  rw [List.length_append, List.length_singleton] at hi
  by_cases hin : i < a.length
  · rw [cAt_left hin]; exact h i hin
  · obtain rfl : i = a.length := by omega
    rw [cAt_new]; exact hc
theorem Sized.add {a : List Col} {c : Col} (h : Sized a) (hc : c.nm.size ≤ 9223372036854775807) : Sized (a ++ [c]) := all_add (P := fun _ c => c.nm.size ≤ 9223372036854775807) h hc
/-- Any columns in memory, as a list. -/
theorem cols_list (n : Nat) (f : Nat → Col) : ∃ l : List Col, l.length = n ∧ ∀ i, i < n → cAt l i = f i := by
  refine ⟨(List.range n).map f, by simp, fun i hi => ?_⟩
  unfold cAt
  rw [List.getD, List.getElem?_map, List.getElem?_range hi]
  rfl
theorem ColsAt.congr {w : World} {p : Option Addr} {n : Nat} {f g : Nat → Col} (h : ColsAt w p n f) (he : ∀ i, i < n → g i = f i) : ColsAt w p n g := fun i hi => by rw [he i hi]; exact h i hi

theorem cols_of_owns {w : World} {base n : Nat} {e : TypeId} {v : Value} {l : List Col} (h : w.ownsRow base e 4 v n (ccells l)) (hs : Sized l) :
    ∃ p cap, v = .slice p n cap ∧ n = l.length ∧ ColsAt w p n (cAt l) ∧ ∀ q, p = some q → base ≤ q.block ∧ q.off = 0 ∧ ∀ o, w.frozen? ⟨q.block, o, none⟩ = false := by
  obtain ⟨hl, h⟩ := h
  rw [ccells_length] at hl
  have hn : n = l.length := by omega
  rcases h with ⟨rfl, h0⟩ | ⟨g, cap, cur, rfl, hg, hh, hcap, hm, hcur, htake⟩
  · exact ⟨none, 0, by rw [h0], hn, fun i hi => by omega, fun q hq => by cases hq⟩
  · refine ⟨_, cap, rfl, hn, fun i hi => ⟨g, 0, rfl, (Array.getElem?_eq_some_iff.1 hh).1, hs i (by omega), ?_⟩, fun q hq => ?_⟩
    · have key : ∀ j v, (ccells l)[j]? = some v → w.cell? ⟨g, 0 + j, none⟩ = some v := by
        intro j v hj
        rw [← htake] at hj
        have hj' : cur.toList[j]? = some v := by
          rw [List.getElem?_take] at hj
          split at hj
          · exact hj
          · cases hj
        simp [World.cell?, hh]
        simpa using hj'
      obtain ⟨h0, h1, h2, h3⟩ := ccells_at l i (by omega)
      exact ⟨key _ _ h0, key _ _ h1, key _ _ h2, key _ _ h3⟩
    · cases hq
      exact ⟨hg, rfl, fun o => by simp [World.frozen?, hh]⟩

theorem info_col : (Tryd.prog.info? 61).map (fun i => (i.zero, i.size, i.bytes)) = some (some (.agg #[.string ⟨#[]⟩, .int .i64 0, .bool false, .bool false]), 4, 32) := by kernel_rfl

/-- What an append asks of a source. -/
theorem news_of_cols {w : World} {a : Addr} {l : List Col} (h : ColsAt w (some a) l.length (cAt l)) : ∀ j u, (ccells l)[j]? = some u → w.cell? (a.add j) = some u := by
  intro j u hj
  have hjl : j < l.length * 4 := by
    have := (List.getElem?_eq_some_iff.1 hj).1
    rw [ccells_length] at this; exact this
  have hi : j / 4 < l.length := by omega
  obtain ⟨c, o, hc, -, -, h0, h1, h2, h3⟩ := h (j / 4) hi
  obtain rfl := Option.some.inj hc
  obtain ⟨v0, v1, v2, v3⟩ := ccells_at l (j / 4) hi
  have ha : (⟨c, o, none⟩ : Addr).add j = ⟨c, o + j, none⟩ := by unfold Addr.add; split <;> simp_all
  rw [ha]
  have hr : j % 4 = 0 ∨ j % 4 = 1 ∨ j % 4 = 2 ∨ j % 4 = 3 := by omega
  rcases hr with hr | hr | hr | hr
  · have e : j = j / 4 * 4 := by omega
    rw [e] at hj ⊢
    have e2 : j / 4 * 4 / 4 = j / 4 := by omega
    rw [v0] at hj; obtain rfl := Option.some.inj hj; exact h0
  · have e : j = j / 4 * 4 + 1 := by omega
    rw [e] at hj ⊢
    rw [v1] at hj; obtain rfl := Option.some.inj hj; exact h1
  · have e : j = j / 4 * 4 + 2 := by omega
    rw [e] at hj ⊢
    rw [v2] at hj; obtain rfl := Option.some.inj hj; exact h2
  · have e : j = j / 4 * 4 + 3 := by omega
    rw [e] at hj ⊢
    rw [v3] at hj; obtain rfl := Option.some.inj hj; exact h3

/-- append(v, xs...) of columns, v the call's own, xs not nil. -/
theorem wpList_append_cols {w : World} {ops : Array Oper} {rest : List Oper} {o : Oper} {a : Act} {Q : Exit → Act → World → Prop} (hgd : o.guard = none) (s x : Operand)
    (ho : o.op = .call { callee := .builtin .append, args := #[s, x], argTypes := #[22, 22] })
    (base : Nat) (v : Value) (n : Nat) (l : List Col) (hs : a.eval s = v) (hown : w.ownsRow base 61 4 v n (ccells l))
    (ad : Addr) (lx : List Col) (cx m : Nat) (hx : a.eval x = .slice (some ad) m cx) (hm : lx.length = m) (hrow : ColsAt w (some ad) lx.length (cAt lx)) (hsum : (n + lx.length) * 32 ≤ 140737488355328) (hbase : base ≤ w.heap.size)
    (h : ∀ v' w', w'.ownsRow base 61 4 v' (n + lx.length) (ccells (l ++ lx)) → w.grownBy w' v.ownBlock → wpList Tryd.prog ops Q rest (a.put o.dst v') w') : wpList Tryd.prog ops Q (o :: rest) a w := by
  obtain ⟨i0, hi, hz0, hz1, hz2⟩ := info_parts info_col
  subst hm
  refine wpList_append_own w hgd s x 22 ho base 61 i0 _ 4 32 Tryd.underlying22 hi hz0 hz1 hz2 rfl (by decide) v n (ccells l) hs hown ad lx.length cx (ccells lx) hx (ccells_length lx) (news_of_cols hrow) (ccells_one lx) (by unfold maxLen; omega) hsum hbase ?_
  intro v' w' h1 h2 _
  exact h v' w' (by rw [ccells_append]; exact h1) h2

theorem cowns_empty (w : World) : (w.alloc (.cells #[] 61)).ownsRow w.heap.size 61 4 (.slice (some ⟨w.heap.size, 0, none⟩) 0 0) 0 (ccells []) := by
  refine ⟨rfl, Or.inr ⟨w.heap.size, 0, #[], rfl, Nat.le_refl _, ?_, Nat.le_refl _, by decide, rfl, rfl⟩⟩
  show (w.heap.push _)[w.heap.size]? = _
  simp
theorem Cell2.grown {u v : World} {X : Nat} {x y : Value} {row : Option Nat} (h : Cell2 u X x y) (hg : u.grownBy v row) (hr : ∀ k, row = some k → X < k) : Cell2 v X x y := by
  have hb : v.heap[X]? = u.heap[X]? := hg.block X h.lt (fun e => by have := hr X e.symm; omega)
  exact ⟨Nat.lt_of_lt_of_le h.lt hg.size, by rw [World.cell?_of_block (w := u) hb]; exact h.c0, by rw [World.cell?_of_block (w := u) hb]; exact h.c1, fun o => by rw [World.frozen?_of_block (w := u) hb]; exact h.fz o⟩
theorem Cell2.step {u v : World} {X b : Nat} {x y : Value} (h : Cell2 u X x y) (hs : StepT b u v) (hn : X ≠ b) : Cell2 v X x y :=
  ⟨Nat.lt_of_lt_of_le h.lt hs.size, by rw [hs.cell (by exact h.lt) (by exact hn)]; exact h.c0, by rw [hs.cell (by exact h.lt) (by exact hn)]; exact h.c1, fun o => by rw [hs.frozen (by exact h.lt) (by exact hn)]; exact h.fz o⟩
theorem Cell4.step {u v : World} {X b : Nat} {x y z q : Value} (h : Cell4 u X x y z q) (hs : StepT b u v) (hn : X ≠ b) : Cell4 v X x y z q :=
  ⟨Nat.lt_of_lt_of_le h.lt hs.size, by rw [hs.cell (by exact h.lt) (by exact hn)]; exact h.c0, by rw [hs.cell (by exact h.lt) (by exact hn)]; exact h.c1, by rw [hs.cell (by exact h.lt) (by exact hn)]; exact h.c2, by rw [hs.cell (by exact h.lt) (by exact hn)]; exact h.c3, fun o => by rw [hs.frozen (by exact h.lt) (by exact hn)]; exact h.fz o⟩
theorem set_size (u : World) (a : Addr) (y : Value) : (u.setCell a y).heap.size = u.heap.size := by simp [World.setCell]
theorem Cell2.far {u : World} {X Z o : Nat} {a b : Value} (h : Cell2 u X a b) (hn : X ≠ Z) (y : Value) : Cell2 (u.setCell ⟨Z, o, none⟩ y) X a b := by
  have hk : (u.setCell ⟨Z, o, none⟩ y).heap[X]? = u.heap[X]? := Below.heap_setCell _ _ _ _ hn
  exact ⟨by simpa [World.setCell] using h.lt, by rw [World.cell?_of_block (w := u) hk]; exact h.c0, by rw [World.cell?_of_block (w := u) hk]; exact h.c1, fun i => by rw [World.frozen?_of_block (w := u) hk]; exact h.fz i⟩
end Go.Proofs.YtidgfmjbfcgfiaaDoor
/-
  Tables: New of the reference.
-/
namespace Go.Proofs.YtidgfmjbfcgfiaaDoor
set_option maxRecDepth 100000
open Go.RowKit
variable {ls : List Nat}

/-- What New gives. -/
def TNewPost (nm : ByteArray) (n : Nat) (f : Nat → Col) (w : World) (e : Ending) (w' : World) : Prop := ∃ (T : Tab) (er : Int), e = .returned (.tuple #[T.v, .int .i64 er]) ∧ TabAt w' T ∧ T.R = [] ∧ Below w.heap.size w w' ∧
  ((schemaOK nm n f = true ∧ er = 0 ∧ T.nm = nm ∧ T.n = n ∧ (∀ i, i < n → T.f i = f i) ∧ T.nx = 1) ∨ (schemaOK nm n f = false ∧ er = 17 ∧ T.nm = ⟨#[]⟩ ∧ T.n = 0 ∧ T.nx = 0))
theorem schemaOK_range {nm : ByteArray} {n : Nat} {f : Nat → Col} (h : schemaOK nm n f = true) : 1 ≤ n ∧ n ≤ 6 := by
  unfold schemaOK at h
  simp only [Bool.and_eq_true, decide_eq_true_eq] at h
  exact h.1.2
theorem ColsAt.ptr {w : World} {p : Option Addr} {n : Nat} {f : Nat → Col} (h : ColsAt w p n f) (hn : 0 < n) : ∃ c o, p = some ⟨c, o, none⟩ ∧ c < w.heap.size := by
  obtain ⟨c, o, hp, hc, -⟩ := h 0 hn
  exact ⟨c, o, hp, hc⟩
theorem Cell4.far {u : World} {X Y : Nat} {a b c d : Value} (h : Cell4 u X a b c d) (hn : X ≠ Y) {o : Nat} (v : Value) : Cell4 (u.setCell ⟨Y, o, none⟩ v) X a b c d := by
  have hb : ∀ o', (u.setCell ⟨Y, o, none⟩ v).cell? ⟨X, o', none⟩ = u.cell? ⟨X, o', none⟩ := fun o' => World.cell?_of_block (w := u) (Below.heap_setCell _ _ _ _ hn)
  exact ⟨by simpa [World.setCell] using h.lt, by rw [hb]; exact h.c0, by rw [hb]; exact h.c1, by rw [hb]; exact h.c2, by rw [hb]; exact h.c3, fun o' => by rw [World.frozen?_setCell]; exact h.fz o'⟩
theorem Cell4.set2 {u : World} {X : Nat} {a b c d : Value} (h : Cell4 u X a b c d) (y : Value) : Cell4 (u.setCell ⟨X, 2, none⟩ y) X a b y d := by
  obtain ⟨hl, c0, c1, c2, c3, fz⟩ := h
  refine ⟨by simpa [World.setCell] using hl, ?_, ?_, ?_, ?_, fun o => ?_⟩
  · go_simp
  · go_simp
  · go_simp
  · go_simp
  · rw [World.frozen?_setCell]; exact fz o
theorem Cell4.set3 {u : World} {X : Nat} {a b c d : Value} (h : Cell4 u X a b c d) (y : Value) : Cell4 (u.setCell ⟨X, 3, none⟩ y) X a b c y := by
  obtain ⟨hl, c0, c1, c2, c3, fz⟩ := h
  refine ⟨by simpa [World.setCell] using hl, ?_, ?_, ?_, ?_, fun o => ?_⟩
  · go_simp
  · go_simp
  · go_simp
  · go_simp
  · rw [World.frozen?_setCell]; exact fz o
theorem cell4_put (u : World) {X : Nat} {a b c d : Value} (h : Cell4 u X a b c d) (x y z t : Value) : Cell4 ((((u.setCell ⟨X, 0, none⟩ x).setCell ⟨X, 1, none⟩ y).setCell ⟨X, 2, none⟩ z).setCell ⟨X, 3, none⟩ t) X x y z t := by
  obtain ⟨hl, c0, c1, c2, c3, fz⟩ := h
  refine ⟨by simpa [World.setCell] using hl, ?_, ?_, ?_, ?_, fun o => ?_⟩
  · go_simp
  · go_simp
  · go_simp
  · go_simp
  · rw [World.frozen?_setCell, World.frozen?_setCell, World.frozen?_setCell, World.frozen?_setCell]; exact fz o
def zeroTab : Tab := ⟨⟨#[]⟩, none, 0, 0, fun _ => default, 0, none, 0, []⟩
theorem zeroTab_at (w : World) : TabAt w zeroTab := ⟨by decide, by decide, (fun i hi => absurd hi (Nat.not_lt_zero _)), TRowsAt.nil _ _, by decide, fun r hr => absurd hr (List.not_mem_nil), by decide⟩
set_option maxHeartbeats 1000000 in
theorem rtnew_any (nm : ByteArray) (p : Option Addr) (n cap : Nat) (f : Nat → Col) (w : World) (hnm : nm.size ≤ 9223372036854775807) (hn : n ≤ 9223372036854775807) (hC : ColsAt w p n f) :
    Calls Tryd.prog 19 #[schV nm p n cap] w (TNewPost nm n f w) := by
  unfold schV TNewPost
  have hb0 : Below w.heap.size w ((w.alloc (.cells #[.string nm, .slice p n cap] 24)).alloc (.cells #[.string ⟨#[]⟩, .slice none 0 0, .int .i64 0, .slice none 0 0] 27)) := below_new (below_new (Below.refl _ _) _) _
  have HC := Lib.hid (hC.low hb0)
  have HX := Lib.hid ((cell2_new w (.string nm) (.slice p n cap) 24).low (below_alloc _ (.cells #[.string ⟨#[]⟩, .slice none 0 0, .int .i64 0, .slice none 0 0] 27)))
  have HY := Lib.hid ((cell4_new (w.alloc (.cells #[.string nm, .slice p n cap] 24)) (.string ⟨#[]⟩) (.slice none 0 0) (.int .i64 0) (.slice none 0 0) 27).at (size_alloc _ _))
  have HB0 := Lib.hid hb0
  clear hC hb0
  go_enter Tryd.func19, Tryd.ntmps19
  go_wp2_with fail
  refine (rsvalid_any nm p n cap f _ hnm hn HC.out).mono ?_
  rintro e w1 ⟨rfl, hb1⟩
  have HX1 := Lib.hid (HX.out.low hb1)
  have HY1 := Lib.hid (HY.out.low hb1)
  have HC1 := Lib.hid (HC.out.low hb1)
  have HB1 := Lib.hid (below_next HB0.out hb1)
  obtain ⟨hxl, x0, x1, xf⟩ := HX1.out
  obtain ⟨hyl, y0, y1, y2, y3, yf⟩ := HY1.out
  clear HC HX HY HB0 hb1
  cases hso : schemaOK nm n f
  · have HSO := Lib.hid hso
    have HYS := Lib.hid (cell4_put w1 HY1.out (.string ⟨#[]⟩) (.slice none 0 0) (.int .i64 0) (.slice none 0 0))
    go_wp2
    obtain ⟨-, s0, s1, s2, s3, -⟩ := HYS.out
    exact bodyPost_ret (v := .tuple #[zeroTab.v, .int .i64 17]) (by simp [results, Tryd.results19, go_sem, s0, s1, s2, s3, Tab.v, zeroTab]) rfl
      ⟨zeroTab, 17, rfl, zeroTab_at _, rfl, (((HB1.out.setCell (by exact Nat.le_succ _) _).setCell (by exact Nat.le_succ _) _).setCell (by exact Nat.le_succ _) _).setCell (by exact Nat.le_succ _) _, .inr ⟨HSO.out, rfl, rfl, rfl, rfl⟩⟩
  · have HSO := Lib.hid hso
    obtain ⟨hn1, hn6⟩ := schemaOK_range hso
    obtain ⟨c, o, rfl, -⟩ := HC1.out.ptr (by omega)
    obtain ⟨l, hl, hlf⟩ := cols_list n f
    have hcl : ColsAt w1 (some ⟨c, o, none⟩) l.length (cAt l) := by rw [hl]; exact HC1.out.congr hlf
    have HCL := Lib.hid hcl
    have HLF := Lib.hid hlf
    have hsz : Sized l := fun i hi => by
      obtain ⟨-, -, -, -, hs, -⟩ := hcl i hi
      exact hs
    have HSZ := Lib.hid hsz
    have hown0 : w1.ownsRow w1.heap.size 61 4 (.slice none 0 0) 0 (ccells []) := ⟨rfl, Or.inl ⟨rfl, rfl⟩⟩
    have HO := Lib.hid hown0
    have hZ : w.heap.size + 1 < w1.heap.size := hyl
    clear hown0 hcl hlf hsz
    go_wp2_with (at_builtin; refine wpList_append_cols rfl _ (.tmp 9) rfl w1.heap.size _ 0 [] rfl HO.out ⟨c, o, none⟩ l cap n rfl hl HCL.out (by omega) (Nat.le_refl _) ?_; intro v2 w2 hown2 hgr2; (have hb2 := grown_below (Below.refl w1.heap.size w1) (Nat.le_refl _) hgr2 (fun k hk => by cases hk)); (have hX2 := HX1.out.low hb2); (have hY2 := HY1.out.low hb2); (have HB2 := Lib.hid (below_next HB1.out hb2)); rw [Nat.zero_add, List.nil_append] at hown2; obtain ⟨p2, c2, rfl, -, hc2, hq2⟩ := cols_of_owns hown2 HSZ.out; rw [hl] at hc2; (have HC2 := Lib.hid hc2); (have HQ2 := Lib.hid hq2); (have HX2 := Lib.hid hX2); (have HY2 := Lib.hid hY2); obtain ⟨xl2, z0, z1, zf⟩ := hX2; obtain ⟨yl2, t0, t1, t2, t3, tf⟩ := hY2; clear hown2 hgr2 hb2 hc2 hq2 x0 x1 y0 y1 y2 y3 xf yf)
    have hfar : ∀ q, p2 = some q → q.block ≠ w.heap.size ∧ q.block ≠ w.heap.size + 1 := fun q hq => by have := (HQ2.out q hq).1; omega
    have hYS := cell4_put (w2.setCell ⟨w.heap.size, 1, none⟩ (.slice p2 n c2)) (X := w.heap.size + 1) (a := .string ⟨#[]⟩) (b := .slice none 0 0) (c := .int .i64 0) (d := .slice none 0 0) (HY2.out.far (by omega) _) (.string nm) (.slice p2 n c2) (.int .i64 1) (.slice none 0 0)
    obtain ⟨-, s0, s1, s2, s3, -⟩ := hYS
    exact bodyPost_ret (v := .tuple #[Tab.v ⟨nm, p2, n, c2, cAt l, 1, none, 0, []⟩, .int .i64 0]) (by simp [results, Tryd.results19, go_sem, s0, s1, s2, s3, Tab.v]) rfl
      ⟨⟨nm, p2, n, c2, cAt l, 1, none, 0, []⟩, 0, rfl, ⟨hnm, hn, ((((HC2.out.set (fun q hq => (hfar q hq).1) _).set (fun q hq => (hfar q hq).2) _).set (fun q hq => (hfar q hq).2) _).set (fun q hq => (hfar q hq).2) _).set (fun q hq => (hfar q hq).2) _, TRowsAt.nil _ _, Nat.zero_le _, fun r hr => absurd hr (List.not_mem_nil), by show (1 : Int) ≤ 9223372036854775807; decide⟩, rfl,
        ((((HB2.out.setCell (by exact Nat.le_refl _) _).setCell (by exact Nat.le_succ _) _).setCell (by exact Nat.le_succ _) _).setCell (by exact Nat.le_succ _) _).setCell (by exact Nat.le_succ _) _, .inl ⟨HSO.out, rfl, rfl, rfl, HLF.out, rfl⟩⟩
end Go.Proofs.YtidgfmjbfcgfiaaDoor
/-
  Equal texts.
-/
namespace Go.Proofs.YtidgfmjbfcgfiaaDoor
set_option maxRecDepth 100000
open Go.RowKit
theorem eq_texts {a b : ByteArray} (h : a = b) : (a.toList == b.toList) = true := by rw [h]; exact beq_self_eq_true _
theorem ne_texts {a b : ByteArray} (h : a ≠ b) : (a.toList == b.toList) = false := by
  rw [beq_eq_false_iff_ne, ByteArray.toList_eq, ByteArray.toList_eq]
  exact fun hc => h (ByteArray.ext (Array.toList_inj.1 hc))

end Go.Proofs.YtidgfmjbfcgfiaaDoor
/-
  SameTable of the world.
-/
namespace Go.Proofs.YtidgfmjbfcgfiaaDoor
set_option maxRecDepth 100000
open Go.RowKit
variable {ls : List Nat}

def sameC (a b : Col) : Bool := eqT a.nm b.nm && (a.ty == b.ty && (a.nn == b.nn && a.key == b.key))
theorem sameC_iff {a b : Col} : sameC a b = true ↔ a = b := by
  unfold sameC
  obtain ⟨a1, a2, a3, a4⟩ := a
  obtain ⟨b1, b2, b3, b4⟩ := b
  simp only [Bool.and_eq_true, eqT_iff, beq_iff_eq, Col.mk.injEq]
theorem neq_col (a b : Col) (w : World) : (binOp .neq 61 (.agg #[.string a.nm, .int .i64 a.ty, .bool a.nn, .bool a.key]) (.agg #[.string b.nm, .int .i64 b.ty, .bool b.nn, .bool b.key])).run Tryd.prog w = .ok (.bool (!sameC a b)) w := by
  go_simp
  unfold sameC eqT
  cases h1 : (a.nm.toList == b.nm.toList) <;> cases h2 : (a.ty == b.ty) <;> cases h3 : (a.nn == b.nn) <;> cases h4 : (a.key == b.key) <;> simp_all
instance : DecidableEq Col := fun a b => decidable_of_iff (sameC a b = true) sameC_iff
/-- Are the columns the same? -/
def sameCols (n : Nat) (f : Nat → Col) (m : Nat) (g : Nat → Col) : Bool := decide (n = m ∧ ∀ i, i < n → f i = g i)
theorem sameCols_no {n m : Nat} {f g : Nat → Col} {k : Nat} (hk : k < n) (h : ¬ f k = g k) : sameCols n f m g = false := decide_eq_false fun hc => h (hc.2 k hk)
theorem sameCols_len {n m : Nat} {f g : Nat → Col} (h : ¬ n = m) : sameCols n f m g = false := decide_eq_false fun hc => h hc.1
theorem sameCols_yes {n : Nat} {f g : Nat → Col} (h : ∀ i, i < n → f i = g i) : sameCols n f n g = true := decide_eq_true ⟨rfl, h⟩
set_option maxHeartbeats 1000000 in
theorem equalcols_any (p q : Option Addr) (n m : Nat) (f g : Nat → Col) (ca cb : Nat) (w : World) (hn : n ≤ 9223372036854775807) (ha : ColsAt w p n f) (hb : ColsAt w q m g) :
    Calls Tryd.prog 63 #[.slice p n ca, .slice q m cb] w fun e w' => e = .returned (.bool (sameCols n f m g)) ∧ Below w.heap.size w w' := by
  have HP := Lib.hid ha
  have HQ := Lib.hid hb
  clear ha hb
  by_cases hl : n = m
  · subst hl
    have hlI : ((n : Int) != (n : Int)) = false := by simp
    go_enter Tryd.func63, Tryd.ntmps63
    go_wp2_with fail
    go_loopw [13] (fun i v => ∃ k : Nat, k ≤ n ∧ i = .int .i64 k ∧ (∀ j, j < k → f j = g j) ∧ Below w.heap.size w v) (fun i _ => n - (intOf i).toNat)
    case atStart => exact ⟨0, Nat.zero_le _, rfl, fun j hj => by omega, Below.refl _ _⟩
    case round =>
      obtain ⟨k, hk, rfl, heq, hb⟩ := hrel
      have HEQ := Lib.hid heq
      have HB := Lib.hid hb
      clear heq hb
      by_cases hlt : k < n
      · have hlt' : decide ((k : Int) < n) = true := decide_eq_true (by omega)
        have hkI : (k : Int) < (n : Int) := by omega
        obtain ⟨c, o, rfl, hc, -, x0, x1, x2, x3⟩ := HP.out.low HB.out k hlt
        obtain ⟨c', o', rfl, hc', -, y0, y1, y2, y3⟩ := HQ.out.low HB.out k hlt
        have hq := neq_col (f k) (g k)
        cases hsame : sameC (f k) (g k)
        · have HD : Hid (¬ f k = g k) := Lib.hid (fun h => by
            rw [sameC_iff.2 h] at hsame
            cases hsame)
          rw [hsame] at hq
          go_wp2_with fail
          go_quiet (fail)
          go_wp2
          go_ret
          exact ⟨ret_b (sameCols_no hlt HD.out).symm, below_drewN HB.out _⟩
        · have HS := Lib.hid (sameC_iff.1 hsame)
          rw [hsame] at hq
          go_wp2_with fail
          go_quiet (fail)
          go_wp2
          go_roundw
          case rel => exact ⟨k + 1, by omega, by go_num, all_succ HEQ.out HS.out, below_drewN HB.out _⟩
          case measure => simp [intOf]; omega
      · have hlt' : decide ((k : Int) < n) = false := decide_eq_false (by omega)
        obtain rfl : k = n := by omega
        go_wp2
        go_ret
        exact ⟨ret_b (sameCols_yes HEQ.out).symm, HB.out⟩
  · have hlI : ((n : Int) != (m : Int)) = true := bne_iff_ne.2 (by omega)
    have HD := Lib.hid hl
    clear hl
    go_enter Tryd.func63, Tryd.ntmps63
    go_wp2
    go_ret
    exact ⟨ret_b (sameCols_len HD.out).symm, Below.refl _ _⟩
def sameR (a b : TRow) : Bool := decide (a.1 = b.1) && decide (a.2 = b.2)
theorem sameR_iff {a b : TRow} : sameR a b = true ↔ a = b := by
  unfold sameR
  obtain ⟨a1, a2⟩ := a
  obtain ⟨b1, b2⟩ := b
  simp
set_option maxHeartbeats 1000000 in
theorem samerowW_any (a b : TRow) (p q : Option Addr) (ca cb : Nat) (w : World) (hla : a.2.length ≤ 9223372036854775807) (ha : RowAt w p a.2) (hb : RowAt w q b.2) :
    Calls Tryd.prog 44 #[.agg #[.int .i64 a.1, .slice p a.2.length ca], .agg #[.int .i64 b.1, .slice q b.2.length cb]] w fun e w' => e = .returned (.bool (sameR a b)) ∧ Below w.heap.size w w' := by
  have HA := Lib.hid ha
  have HB := Lib.hid hb
  unfold sameR
  clear ha hb
  have hb0 : Below w.heap.size w ((w.alloc (.cells #[.int .i64 a.1, .slice p a.2.length ca] 54)).alloc (.cells #[.int .i64 b.1, .slice q b.2.length cb] 54)) := below_new (below_new (Below.refl _ _) _) _
  have HB0 := Lib.hid hb0
  have HA1 := Lib.hid (HA.out.low hb0)
  have HB1 := Lib.hid (HB.out.low hb0)
  clear hb0
  go_enter Tryd.func44, Tryd.ntmps44
  cases hid : (a.1 == b.1)
  · have hne := beq_eq_false_iff_ne.1 hid
    have HE : Hid ((decide (a.1 = b.1) && decide (a.2 = b.2)) = false) := Lib.hid (by rw [decide_eq_false hne]; rfl)
    clear hne
    go_wp2
    go_ret
    exact ⟨ret_b HE.out.symm, HB0.out⟩
  · have HE : Hid ((decide (a.1 = b.1) && decide (a.2 = b.2)) = decide (a.2 = b.2)) := Lib.hid (by rw [decide_eq_true (beq_iff_eq.1 hid)]; rfl)
    go_wp2_with fail
    refine (equal_any p q a.2 b.2 ca cb _ hla HA1.out HB1.out).mono ?_
    rintro e w2 ⟨rfl, hb2⟩
    have HB2 := Lib.hid (below_next HB0.out hb2)
    clear hb2
    go_wp2
    go_ret
    exact ⟨ret_b HE.out.symm, HB2.out⟩
theorem ext_trows {A B : List TRow} (hl : A.length = B.length) (h : ∀ i, i < A.length → tAt A i = tAt B i) : A = B := by
  apply List.ext_getElem hl
  intro i h1 h2
  have := h i h1
  rw [tAt_get h1, tAt_get h2] at this
  exact this
set_option maxHeartbeats 1000000 in
theorem equalrows_any (A B : List TRow) (p q : Option Addr) (ca cb : Nat) (w : World) (hA : A.length ≤ 1000) (hp : TRowsAt w p A) (hq : TRowsAt w q B) :
    Calls Tryd.prog 43 #[.slice p A.length ca, .slice q B.length cb, .func (.func 44) #[] #[]] w fun e w' => e = .returned (.bool (decide (A = B))) ∧ Below w.heap.size w w' := by
  have HP := Lib.hid hp
  have HQ := Lib.hid hq
  clear hp hq
  by_cases hl : A.length = B.length
  · have hlI : ((A.length : Int) != (B.length : Int)) = false := by simp [hl]
    have HL := Lib.hid hl
    clear hl
    go_enter Tryd.func43, Tryd.ntmps43
    go_wp2_with fail
    go_loopw [17] (fun i v => ∃ k : Nat, k ≤ A.length ∧ i = .int .i64 k ∧ (∀ j, j < k → tAt A j = tAt B j) ∧ Below w.heap.size w v) (fun i _ => A.length - (intOf i).toNat)
    case atStart => exact ⟨0, Nat.zero_le _, rfl, fun j hj => by omega, Below.refl _ _⟩
    case round =>
      obtain ⟨k, hk, rfl, heq, hb⟩ := hrel
      have HEQ := Lib.hid heq
      have HB := Lib.hid hb
      clear heq hb
      by_cases hlt : k < A.length
      · have hlt' : decide ((k : Int) < A.length) = true := decide_eq_true (by omega)
        have hky : k < B.length := by have := HL.out; omega
        have hkI : (k : Int) < (B.length : Int) := by omega
        obtain ⟨c, o, q1, c1, rfl, hc, h0, h1, hr1, hs1, -⟩ := HP.out.low HB.out k hlt
        have hbn := below_alloc wr (.cells #[.int .i64 (tAt A k).1, .slice q1 (tAt A k).2.length c1] 54)
        obtain ⟨c', o', q2, c2, rfl, hc', h0', h1', hr2, hs2, -⟩ := (HQ.out.low HB.out).low hbn k hky
        have HR1 := Lib.hid (hr1.low hbn)
        have HR2 := Lib.hid hr2
        have HB1 := Lib.hid (below_next HB.out hbn)
        clear hr1 hr2 hbn
        go_wp2_with fail
        have hbm := below_alloc (wr.alloc (.cells #[.int .i64 (tAt A k).1, .slice q1 (tAt A k).2.length c1] 54)) (.cells #[.int .i64 (tAt B k).1, .slice q2 (tAt B k).2.length c2] 54)
        have HB2 := Lib.hid (below_next HB1.out hbm)
        have HR1b := Lib.hid (HR1.out.low hbm)
        have HR2b := Lib.hid (HR2.out.low hbm)
        clear hbm HB1 HR1 HR2
        refine (samerowW_any (tAt A k) (tAt B k) q1 q2 c1 c2 _ (by omega) HR1b.out HR2b.out).mono ?_
        rintro e v1 ⟨rfl, hb1⟩
        have HB3 := Lib.hid (below_next HB2.out hb1)
        clear HB HB2 hb1 h0 h0' h1 h1' hc hc' HR1b HR2b
        cases hz : sameR (tAt A k) (tAt B k)
        · have HD : Hid (¬ A = B) := Lib.hid (fun h => by
            rw [h, sameR_iff.2 rfl] at hz
            cases hz)
          go_wp2
          go_ret
          exact ⟨ret_b (decide_eq_false HD.out).symm, HB3.out⟩
        · have HZ := Lib.hid (sameR_iff.1 hz)
          go_wp2
          go_roundw
          case rel => exact ⟨k + 1, by omega, by go_num, all_succ HEQ.out HZ.out, HB3.out⟩
          case measure => simp [intOf]; omega
      · have hlt' : decide ((k : Int) < A.length) = false := decide_eq_false (by omega)
        obtain rfl : k = A.length := by omega
        have HD : Hid (A = B) := Lib.hid (ext_trows HL.out HEQ.out)
        go_wp2
        go_ret
        exact ⟨ret_b (decide_eq_true HD.out).symm, HB.out⟩
  · have hlI : ((A.length : Int) != (B.length : Int)) = true := bne_iff_ne.2 (by omega)
    have HD : Hid (¬ A = B) := Lib.hid (fun h => hl (by rw [h]))
    clear hl
    go_enter Tryd.func43, Tryd.ntmps43
    go_wp2
    go_ret
    exact ⟨ret_b (decide_eq_false HD.out).symm, Below.refl _ _⟩
set_option maxHeartbeats 1000000 in
theorem sameschema_any (nm nm' : ByteArray) (p q : Option Addr) (n m : Nat) (f g : Nat → Col) (ca cb : Nat) (w : World) (hn : n ≤ 9223372036854775807) (ha : ColsAt w p n f) (hb : ColsAt w q m g) :
    Calls Tryd.prog 42 #[.agg #[.string nm, .slice p n ca], .agg #[.string nm', .slice q m cb]] w fun e w' => e = .returned (.bool (eqT nm nm' && sameCols n f m g)) ∧ Below w.heap.size w w' := by
  have hb0 : Below w.heap.size w ((w.alloc (.cells #[.string nm, .slice p n ca] 24)).alloc (.cells #[.string nm', .slice q m cb] 24)) := below_new (below_new (Below.refl _ _) _) _
  have HB0 := Lib.hid hb0
  have HA1 := Lib.hid (ha.low hb0)
  have HB1 := Lib.hid (hb.low hb0)
  clear hb0 ha hb
  go_enter Tryd.func42, Tryd.ntmps42
  cases hid : eqT nm nm'
  · have hid' : (nm.toList == nm'.toList) = false := hid
    go_wp2
    go_ret
    exact ⟨rfl, HB0.out⟩
  · have hid' : (nm.toList == nm'.toList) = true := hid
    go_wp2_with fail
    refine (equalcols_any p q n m f g ca cb _ hn HA1.out HB1.out).mono ?_
    rintro e w2 ⟨rfl, hb2⟩
    have HB2 := Lib.hid (below_next HB0.out hb2)
    clear hb2
    go_wp2
    go_ret
    exact ⟨rfl, HB2.out⟩
def sameT (T S : Tab) : Bool := (eqT T.nm S.nm && sameCols T.n T.f S.n S.f) && (T.nx == S.nx && decide (T.R = S.R))
set_option maxHeartbeats 1000000 in
theorem sametable_any (T S : Tab) (w : World) (hT : TabAt w T) (hS : TabAt w S) :
    Calls Tryd.prog 20 #[T.v, S.v] w fun e w' => e = .returned (.bool (sameT T S)) ∧ Below w.heap.size w w' := by
  obtain ⟨nm, pc, n, cc, f, nx, pr, cr, R⟩ := T
  obtain ⟨nm', pc', n', cc', f', nx', pr', cr', R'⟩ := S
  unfold Tab.v sameT
  have hb0 : Below w.heap.size w ((w.alloc (.cells #[.string nm, .slice pc n cc, .int .i64 nx, .slice pr R.length cr] 27)).alloc (.cells #[.string nm', .slice pc' n' cc', .int .i64 nx', .slice pr' R'.length cr'] 27)) := below_new (below_new (Below.refl _ _) _) _
  have HX := Lib.hid ((cell4_new w (.string nm) (.slice pc n cc) (.int .i64 nx) (.slice pr R.length cr) 27).low (below_alloc _ (.cells #[.string nm', .slice pc' n' cc', .int .i64 nx', .slice pr' R'.length cr'] 27)))
  have HY := Lib.hid ((cell4_new (w.alloc (.cells #[.string nm, .slice pc n cc, .int .i64 nx, .slice pr R.length cr] 27)) (.string nm') (.slice pc' n' cc') (.int .i64 nx') (.slice pr' R'.length cr') 27).at (size_alloc _ _))
  have HB0 := Lib.hid hb0
  have HT0 := Lib.hid (hT.low hb0)
  have HS0 := Lib.hid (hS.low hb0)
  have hn := hT.n
  have hl := hT.len
  dsimp only at hn hl ⊢
  clear hb0 hT hS
  go_enter Tryd.func20, Tryd.ntmps20
  go_wp2_with fail
  refine (sameschema_any nm nm' pc pc' n n' f f' cc cc' _ hn HT0.out.cols HS0.out.cols).mono ?_
  rintro e w1 ⟨rfl, hb1⟩
  have HT1 := Lib.hid (HT0.out.low hb1)
  have HS1 := Lib.hid (HS0.out.low hb1)
  have HB1 := Lib.hid (below_next HB0.out hb1)
  obtain ⟨xl, x0, x1, x2, x3, -⟩ := HX.out.low hb1
  obtain ⟨yl, y0, y1, y2, y3, -⟩ := HY.out.low hb1
  clear HX HY HB0 HT0 HS0 hb1
  cases h1 : (eqT nm nm' && sameCols n f n' f')
  · have HE : Hid (((eqT nm nm' && sameCols n f n' f') && (nx == nx' && decide (R = R'))) = false) := Lib.hid (by rw [h1]; rfl)
    go_wp2
    go_ret
    exact ⟨ret_b HE.out.symm, HB1.out⟩
  · cases h2 : (nx == nx')
    · have HE : Hid (((eqT nm nm' && sameCols n f n' f') && (nx == nx' && decide (R = R'))) = false) := Lib.hid (by rw [h1, h2]; rfl)
      go_wp2
      go_ret
      exact ⟨ret_b HE.out.symm, HB1.out⟩
    · have HE : Hid (((eqT nm nm' && sameCols n f n' f') && (nx == nx' && decide (R = R'))) = decide (R = R')) := Lib.hid (by rw [h1, h2]; rfl)
      go_wp2_with fail
      refine (equalrows_any R R' pr pr' cr cr' _ hl HT1.out.rows HS1.out.rows).mono ?_
      rintro e w2 ⟨rfl, hb2⟩
      have HB2 := Lib.hid (below_next HB1.out hb2)
      clear hb2
      go_wp2
      go_ret
      exact ⟨ret_b HE.out.symm, HB2.out⟩
end Go.Proofs.YtidgfmjbfcgfiaaDoor
