/-
  Several texts in one.
-/
import Derived.Test.YtlelgkgdppkedaaGreatDoorPk37
import Derived.Test.YtlelgkgdppkedaaGreatDoorPk13
import Derived.Test.YtlelgkgdppkedaaGreatDoorPk33
import Derived.Test.YtlelgkgdppkedaaGreatDoorPk35
import Derived.Deep.RegionHeld3
/-
  Rows and Empty of package delta; known of the law.
-/
namespace Go.Proofs.YtlelgkgdppkedaaGreatDoor
set_option maxRecDepth 100000
open Go.RowKit
variable {ls : List Nat}

set_option maxHeartbeats 2000000 in
theorem drows_any (nm : ByteArray) (pi pd pu : Option Addr) (n1 n2 n3 c1 c2 c3 : Nat) (ev : Int) (w : World) :
    Calls Tryz.prog 20 #[.agg #[.string nm, .slice pi n1 c1, .slice pd n2 c2, .slice pu n3 c3], .int .i64 ev] w fun e w' => e = .returned (.int .i64 (if ev = 1 then n1 else if ev = 2 then n3 else if ev = 3 then n2 else 0)) ∧ Below w.heap.size w w' := by
  have HX := Lib.hid (cell4_new w (.string nm) (.slice pi n1 c1) (.slice pd n2 c2) (.slice pu n3 c3) 25)
  have HB := Lib.hid (below_alloc w (.cells #[.string nm, .slice pi n1 c1, .slice pd n2 c2, .slice pu n3 c3] 25))
  go_enter Tryz.func20, Tryz.ntmps20
  go_upto_region 1 with (fail)
  generalize World.alloc _ _ = W0 at HX HB ⊢
  obtain ⟨xl, x0, x1, x2, x3, -⟩ := HX.out
  by_cases h1 : ev = 1
  · subst h1
    go_wp2
    exact bodyPost_ret (v := .int .i64 n1) (by simp [results, Tryz.results20, go_sem]) rfl ⟨rfl, HB.out⟩
  by_cases h2 : ev = 2
  · subst h2
    go_wp2
    exact bodyPost_ret (v := .int .i64 n3) (by simp [results, Tryz.results20, go_sem]) rfl ⟨rfl, HB.out⟩
  by_cases h3 : ev = 3
  · subst h3
    go_wp2
    exact bodyPost_ret (v := .int .i64 n2) (by simp [results, Tryz.results20, go_sem]) rfl ⟨rfl, HB.out⟩
  have e1 : (ev == 1) = false := by simpa using h1
  have e2 : (ev == 2) = false := by simpa using h2
  have e3 : (ev == 3) = false := by simpa using h3
  go_wp2
  exact bodyPost_ret (v := .int .i64 0) (by simp [results, Tryz.results20, go_sem]) rfl ⟨by first | rfl | rw [if_neg h1, if_neg h2, if_neg h3]; rfl, HB.out⟩
theorem nat_zero_eq (n : Nat) : ((n : Int) == 0) = (n == 0) := by
  cases n with
  | zero => rfl
  | succ n => exact (beq_eq_false_iff_ne.2 (by omega)).trans (beq_eq_false_iff_ne.2 (by omega)).symm
set_option maxHeartbeats 2000000 in
theorem dempty_any (nm : ByteArray) (pi pd pu : Option Addr) (n1 n2 n3 c1 c2 c3 : Nat) (w : World) :
    Calls Tryz.prog 18 #[.agg #[.string nm, .slice pi n1 c1, .slice pd n2 c2, .slice pu n3 c3]] w fun e w' => e = .returned (.bool (n1 == 0 && n2 == 0 && n3 == 0)) ∧ Below w.heap.size w w' := by
  have HX := Lib.hid (cell4_new w (.string nm) (.slice pi n1 c1) (.slice pd n2 c2) (.slice pu n3 c3) 25)
  have HB := Lib.hid (below_alloc w (.cells #[.string nm, .slice pi n1 c1, .slice pd n2 c2, .slice pu n3 c3] 25))
  go_enter Tryz.func18, Tryz.ntmps18
  go_upto_region 1 with (fail)
  generalize World.alloc _ _ = W0 at HX HB ⊢
  obtain ⟨xl, x0, x1, x2, x3, -⟩ := HX.out
  obtain ⟨b1, h1⟩ : ∃ b, (n1 == 0) = b := ⟨_, rfl⟩
  obtain ⟨b2, h2⟩ : ∃ b, (n2 == 0) = b := ⟨_, rfl⟩
  obtain ⟨b3, h3⟩ : ∃ b, (n3 == 0) = b := ⟨_, rfl⟩
  have e1 : ((n1 : Int) == 0) = b1 := (nat_zero_eq n1).trans h1
  have e2 : ((n2 : Int) == 0) = b2 := (nat_zero_eq n2).trans h2
  have e3 : ((n3 : Int) == 0) = b3 := (nat_zero_eq n3).trans h3
  cases b1 <;> cases b2 <;> cases b3
  all_goals
    go_wp2
    exact bodyPost_ret (by simp [results, Tryz.results18, go_sem]; rfl) rfl ⟨by first | rfl | (rw [h1, h2, h3]; rfl), HB.out⟩
abbrev nulls8 : Obj := .cells #[.int .i64 0, .int .i64 0, .string ⟨#[]⟩, .int .i64 0, .int .i64 0, .string ⟨#[]⟩] 88
def nullL : List Val := [(0, 0, ⟨#[]⟩), (0, 0, ⟨#[]⟩)]
theorem null_row (u : World) : RowAt (u.alloc nulls8) (some ⟨u.heap.size, 0, none⟩) nullL := by
  intro j hj
  have hj2 : j < 2 := hj
  obtain rfl | rfl : j = 0 ∨ j = 1 := by omega
  all_goals
    refine ⟨u.heap.size, 0, rfl, by simp, ?_, ?_, ?_⟩
    all_goals go_simp; rfl
theorem one_row {u : World} {p : Addr} {c : Nat} (id : Int) {l : List Val} (hr : RowAt u (some p) l) (hs : l.length * 32 ≤ 140737488355328) : TRowsAt (u.alloc (.cells #[.int .i64 id, .slice (some p) l.length c] 91)) (some ⟨u.heap.size, 0, none⟩) [(id, l)] := by
  intro i hi
  obtain rfl : i = 0 := by simpa using hi
  refine ⟨u.heap.size, 0, some p, c, rfl, by simp, ?_, ?_, hr.low (below_alloc _ _), hs, fun h => by cases h⟩
  · go_simp; rfl
  · go_simp; rfl
def logT (Z c : Nat) (nx : Int) (g : Nat) (id : Int) : Tab := ⟨⟨#[108, 111, 103]⟩, some ⟨Z, 0, none⟩, 2, c, colLog, nx, some ⟨g, 0, none⟩, 1, [(id, nullL)]⟩
theorem log_btw (Z c g h : Nat) : btwO (logT Z c 2 g 1) (logT Z c 3 h 2) = true := by
  show btwO ⟨⟨#[108, 111, 103]⟩, none, 2, 0, colLog, 2, none, 1, [(1, nullL)]⟩ ⟨⟨#[108, 111, 103]⟩, none, 2, 0, colLog, 3, none, 1, [(2, nullL)]⟩ = true
  decide +kernel
theorem null_sized : ValsSized nullL := fun i hi => by
  have hi2 : i < 2 := hi
  obtain rfl | rfl : i = 0 ∨ i = 1 := by omega
  all_goals decide
theorem log_tab {u : World} {Z c g : Nat} {nx id : Int} (hC : ColsAt u (some ⟨Z, 0, none⟩) 2 colLog) (hR : TRowsAt u (some ⟨g, 0, none⟩) [(id, nullL)]) (hn : nx ≤ 9223372036854775807) : TabAt u (logT Z c nx g id) :=
  ⟨by show (⟨#[108, 111, 103]⟩ : ByteArray).size ≤ 9223372036854775807; decide, by show 2 ≤ 9223372036854775807; decide, hC, hR, by show 1 ≤ 1000; decide, fun r hr => by
    obtain rfl := List.mem_singleton.1 hr
    exact null_sized, hn⟩
set_option maxHeartbeats 2000000 in
theorem known8_any (w : World) : Calls Tryz.prog 8 #[] w fun e w' => e = .returned (.bool true) ∧ Below w.heap.size w w' := by
  go_enter Tryz.func8, Tryz.ntmps8
  go_wp2_with fail
  refine (schemaLog_any _).mono ?_
  rintro e w1 ⟨Z, rfl, hZ, -, hb1⟩
  unfold schV
  have hbn := below_alloc w1 (.cells #[.string ⟨#[108, 111, 103]⟩, .slice (some ⟨Z, 0, none⟩) 2 2] 28)
  have HX := Lib.hid (cell2_new w1 (.string ⟨#[108, 111, 103]⟩) (.slice (some ⟨Z, 0, none⟩) 2 2) 28)
  have HC := Lib.hid (hZ.low hbn)
  have HB := Lib.hid (below_next hb1 hbn)
  clear hb1 hZ hbn
  go_upto_region 2 with (fail)
  generalize World.alloc _ _ = W1 at HX HC HB ⊢
  generalize w1.heap.size = X at HX ⊢
  have hbn := below_alloc W1 nulls8
  have HN := Lib.hid (null_row W1)
  have HX1 := Lib.hid (HX.out.low hbn)
  have HC1 := Lib.hid (HC.out.low hbn)
  have HB1 := Lib.hid (below_next HB.out hbn)
  clear HX HC HB hbn
  go_upto_region 3 with (fail)
  generalize World.alloc _ _ = W2 at HN HX1 HC1 HB1 ⊢
  generalize W1.heap.size = V at HN ⊢
  obtain ⟨xl, x0, x1, -⟩ := HX1.out
  have hn1 := below_alloc W2 (.cells #[.int .i64 1, .slice (some ⟨V, 0, none⟩) 2 2] 91)
  have hn2 := below_alloc (W2.alloc (.cells #[.int .i64 1, .slice (some ⟨V, 0, none⟩) 2 2] 91)) (.cells #[.int .i64 2, .slice (some ⟨V, 0, none⟩) 2 2] 91)
  have hr1 := (one_row (c := 2) 1 HN.out (by decide)).low hn2
  have hr2 := one_row (c := 2) 2 (HN.out.low hn1) (by decide)
  rw [size_alloc] at hr2
  have HC3 := Lib.hid ((HC1.out.low hn1).low hn2)
  have HT := Lib.hid (log_tab (c := 2) (nx := 2) HC3.out hr1 (by decide))
  have HS := Lib.hid (log_tab (c := 2) (nx := 3) HC3.out hr2 (by decide))
  have HB3 := Lib.hid (below_next (below_next HB1.out hn1) hn2)
  clear hn1 hn2 hr1 hr2 HC3 HC1
  go_wp2_with fail
  refine (between_any (logT Z 2 2 W2.heap.size 1) (logT Z 2 3 (W2.heap.size + 1) 2) _ HT.out HS.out (Nat.le_refl 1)).mono ?_
  rintro e w5 ⟨E, rfl, -, hb5, hr⟩
  have hb := log_btw Z 2 W2.heap.size (W2.heap.size + 1)
  have hE : E.I.length = 1 ∧ E.D.length = 1 ∧ E.U.length = 0 := by
    rcases hr with ⟨-, -, h1, h2, h3⟩ | ⟨h, -⟩
    · rw [h1, h2, h3]
      exact ⟨rfl, rfl, rfl⟩
    · rw [hb] at h; cases h
  rw [hb, hE.1, hE.2.1, hE.2.2]
  have HB5 := Lib.hid (below_next (below_next HB3.out hb5) (below_alloc w5 (.cells #[.string E.nm, .slice E.pi 1 E.ci, .slice E.pd 1 E.cd, .slice E.pu 0 E.cu] 25)))
  have HD5 := Lib.hid (cell4_new w5 (.string E.nm) (.slice E.pi 1 E.ci) (.slice E.pd 1 E.cd) (.slice E.pu 0 E.cu) 25)
  clear hb hr hE HB3 HT HS hb5 xl x0 x1 HX1 HN HB1
  go_upto_region 4 with (fail)
  generalize World.alloc _ _ = W5 at HB5 HD5 ⊢
  generalize w5.heap.size = Y at HD5 ⊢
  obtain ⟨yl, y0, y1, y2, y3, -⟩ := HD5.out
  go_wp2_with fail
  refine (drows_any E.nm E.pi E.pd E.pu 1 1 0 E.ci E.cd E.cu 1 _).mono ?_
  rintro e w6 ⟨he, hb6⟩
  obtain rfl : e = .returned (.int .i64 1) := he
  have HB6 := Lib.hid (below_next HB5.out hb6)
  have HD6 := Lib.hid (HD5.out.low hb6)
  clear HB5 HD5 hb6 yl y0 y1 y2 y3
  obtain ⟨yl, y0, y1, y2, y3, -⟩ := HD6.out
  go_wp2_with fail
  refine (drows_any E.nm E.pi E.pd E.pu 1 1 0 E.ci E.cd E.cu 3 _).mono ?_
  rintro e w7 ⟨he, hb7⟩
  obtain rfl : e = .returned (.int .i64 1) := he
  have HB7 := Lib.hid (below_next HB6.out hb7)
  have HD7 := Lib.hid (HD6.out.low hb7)
  clear HB6 HD6 hb7 yl y0 y1 y2 y3
  obtain ⟨yl, y0, y1, y2, y3, -⟩ := HD7.out
  go_wp2_with fail
  refine (drows_any E.nm E.pi E.pd E.pu 1 1 0 E.ci E.cd E.cu 2 _).mono ?_
  rintro e w8 ⟨he, hb8⟩
  obtain rfl : e = .returned (.int .i64 0) := he
  have HB8 := Lib.hid (below_next HB7.out hb8)
  have HD8 := Lib.hid (HD7.out.low hb8)
  clear HB7 HD7 hb8 yl y0 y1 y2 y3
  obtain ⟨yl, y0, y1, y2, y3, -⟩ := HD8.out
  go_wp2_with fail
  refine (dempty_any E.nm E.pi E.pd E.pu 1 1 0 E.ci E.cd E.cu _).mono ?_
  rintro e w9 ⟨he, hb9⟩
  obtain rfl : e = .returned (.bool false) := he
  have HB9 := Lib.hid (below_next HB8.out hb9)
  clear HB8 HD8 hb9
  go_wp2
  exact bodyPost_ret (v := .bool true) (by simp [results, Tryz.results8, go_sem]) rfl ⟨rfl, HB9.out⟩
end Go.Proofs.YtlelgkgdppkedaaGreatDoor
/-
  DeltaNets: the bag before, with the rows that came, is the bag after, with the rows that left: the walk.
-/
namespace Go.Proofs.YtlelgkgdppkedaaGreatDoor
set_option maxRecDepth 100000
open Go.RowKit
variable {ls : List Nat}

/-- A table that was reached by changes: its difference is one. -/
theorem btw_nx {b m : Nat} {u : World} {T S : Tab} (hT : T.valid = true) (h : Nx b T S m u) : btwO T S = true := by
  unfold btwO btwB
  rw [hT, h.tab.val, newB_of h.new, h.nm, h.n, h.f, sameCols_yes fun _ _ => rfl, decide_eq_true h.nx]
  simp [eqT]
/-- The like under a guard that holds. -/
theorem wpList_append_anyG {w : World} {ops : Array Oper} {rest : List Oper} {o : Oper} {a : Act} {Q : Exit → Act → World → Prop} (hw : Region.wanted o (yielded ops a.tmps) = true) (s x : Operand) (t e : TypeId)
    (ho : o.op = .call { callee := .builtin .append, args := #[s, x], argTypes := #[t, t] })
    (base : Nat) (i0 : TypeInfo) (z : Value) (size bytes : Nat) (ht : Tryz.prog.underlying t = some (.slice e)) (hi : Tryz.prog.info? e = some i0) (hz0 : i0.zero = some z) (hz1 : i0.size = size) (hz2 : i0.bytes = bytes) (hzs : z.cells.size = size) (hsz : 0 < size) (v : Value) (n : Nat) (xs : List Value) (hs : a.eval s = v) (hown : w.ownsRow base e size v n xs)
    (px : Option Addr) (m cx : Nat) (ys : List Value) (hx : a.eval x = .slice px m cx) (hl : ys.length = m * size) (hsrc : ∀ ad, px = some ad → ∀ j u, ys[j]? = some u → w.cell? (ad.add j) = some u) (hnil : px = none → ys = []) (h1 : ∀ u ∈ ys, u.oneCell' = true) (h63 : n + m ≤ maxLen) (hsum : (n + m) * bytes ≤ 140737488355328) (hbase : base ≤ w.heap.size)
    (h : ∀ v' w', w'.ownsRow base e size v' (n + m) (xs ++ ys) → w.grownBy w' v.ownBlock → wpList Tryz.prog ops Q rest (a.put o.dst v') w') : wpList Tryz.prog ops Q (o :: rest) a w := by
  unfold wpList
  rw [if_pos hw]
  left
  cases px with
  | none =>
    obtain rfl := hnil rfl
    obtain rfl : m = 0 := by
      rw [List.length_nil] at hl
      rcases Nat.mul_eq_zero.1 hl.symm with h0 | h0
      · exact h0
      · omega
    have hrun := run_append_nil7 (P := Tryz.prog) (w := w) base t o.type e i0 size ht hi v n cx xs hown
    unfold Oper.wp
    simp [execOp, ho, resolve, invoke, builtin, hs, hx, hrun, Result.andThen]
    exact h v w (by simpa using hown) (World.grownBy.refl w _)
  | some ad =>
    refine wp_append_own w s x t ho base e i0 z size bytes ht hi hz0 hz1 hz2 hzs hsz v n xs hs hown ad m cx ys hx hl (hsrc ad rfl) h1 h63 hsum hbase ?_
    intro v' w' h1 h2 _
    exact h v' w' h1 h2
theorem heads_of_rows {w : World} {p : Option Addr} {L : List (List Val)} (h : RowsAt w p L) : ∃ xs : List Value, HeadsAt w xs L ∧ (∀ v, Below w.heap.size w v → ∀ ad, p = some ad → ∀ j u, xs[j]? = some u → v.cell? (ad.add j) = some u) ∧ (p = none → xs = []) := by
  cases p with
  | none =>
    have hL : L.length = 0 := by
      rcases Nat.eq_zero_or_pos L.length with h0 | h0
      · exact h0
      · obtain ⟨c, o, q, cp, hp, -⟩ := h 0 h0
        cases hp
    exact ⟨[], ⟨hL.symm, fun i hi => by omega⟩, fun v _ ad e => (by cases e), fun _ => rfl⟩
  | some ad =>
    have hc : ∀ i, i < L.length → ∃ q cp, w.cell? (ad.add i) = some (.slice q (rAt L i).length cp) ∧ RowAt w q (rAt L i) ∧ (rAt L i).length * 32 ≤ 140737488355328 ∧ (q = none → rAt L i = [] ∧ cp = 0) ∧ (ad.add i).block < w.heap.size := fun i hi => by
      obtain ⟨c, o, q, cp, hp, hc, h0, h1, h2, h3⟩ := h i hi
      cases hp
      have hadd : (⟨c, o, none⟩ : Addr).add i = ⟨c, o + i, none⟩ := by unfold Addr.add; split <;> simp_all
      exact ⟨q, cp, by rw [hadd]; exact h0, h1, h2, h3, by rw [hadd]; exact hc⟩
    have hx : ∀ i, i < L.length → ((List.range L.length).map fun i => (w.cell? (ad.add i)).getD (.slice none 0 0))[i]? = w.cell? (ad.add i) := fun i hi => by
      obtain ⟨q, cp, h0, -⟩ := hc i hi
      rw [List.getElem?_map, List.getElem?_range hi, Option.map_some, h0]; rfl
    refine ⟨(List.range L.length).map fun i => (w.cell? (ad.add i)).getD (.slice none 0 0), ⟨by rw [List.length_map, List.length_range], fun i hi => ?_⟩, fun v hv ad' e j u hj => ?_, fun e => by cases e⟩
    · obtain ⟨q, cp, h0, h1, h2, h3, -⟩ := hc i hi
      exact ⟨q, cp, by rw [hx i hi]; exact h0, h1, h2, h3⟩
    · cases e
      have hlt : j < L.length := by
        have := (List.getElem?_eq_some_iff.1 hj).1
        rwa [List.length_map, List.length_range] at this
      obtain ⟨-, -, -, -, -, -, hlt2⟩ := hc j hlt
      rw [hv.cell hlt2, ← hx j hlt]; exact hj
theorem rbagx_any (T : Tab) (w : World) (hT : TabAt w T) : Calls Tryz.prog 28 #[.agg #[.string T.nm, .slice T.pc T.n T.cc, .int .i64 T.nx, .slice T.pr T.R.length T.cr]] w (SortedPost (T.R.map (·.2)) w) := rbag_any T w hT
theorem nets_srt {A C : List (List Val)} {X Y : List (List Val)} (h : (A ++ X).Perm (C ++ Y)) : srt (srt A ++ srt X) = srt (srt C ++ srt Y) :=
  srt_congr (((srt_perm A).append (srt_perm X)).trans (h.trans ((srt_perm C).append (srt_perm Y)).symm))
theorem keepNt {w u v : World} {P R : Nat} {A C : Tab} {pl pc : Option Addr} {L M : List (List Val)} {a0 a1 a2 a3 c0 c1 c2 c3 : Value} (hb : Below u.heap.size u v)
    (h : (u.cell? ⟨P, 0, none⟩ = some a0 ∧ u.cell? ⟨P, 1, none⟩ = some a1 ∧ u.cell? ⟨P, 2, none⟩ = some a2 ∧ u.cell? ⟨P, 3, none⟩ = some a3 ∧ P < u.heap.size)
      ∧ (u.cell? ⟨R, 0, none⟩ = some c0 ∧ u.cell? ⟨R, 1, none⟩ = some c1 ∧ u.cell? ⟨R, 2, none⟩ = some c2 ∧ u.cell? ⟨R, 3, none⟩ = some c3 ∧ R < u.heap.size)
      ∧ TabAt u A ∧ TabAt u C ∧ RowsAt u pl L ∧ RowsAt u pc M ∧ Below w.heap.size w u) :
    (v.cell? ⟨P, 0, none⟩ = some a0 ∧ v.cell? ⟨P, 1, none⟩ = some a1 ∧ v.cell? ⟨P, 2, none⟩ = some a2 ∧ v.cell? ⟨P, 3, none⟩ = some a3 ∧ P < v.heap.size)
      ∧ (v.cell? ⟨R, 0, none⟩ = some c0 ∧ v.cell? ⟨R, 1, none⟩ = some c1 ∧ v.cell? ⟨R, 2, none⟩ = some c2 ∧ v.cell? ⟨R, 3, none⟩ = some c3 ∧ R < v.heap.size)
      ∧ TabAt v A ∧ TabAt v C ∧ RowsAt v pl L ∧ RowsAt v pc M ∧ Below w.heap.size w v := by
  obtain ⟨⟨h0, h1, h2, h3, hl⟩, ⟨k0, k1, k2, k3, kl⟩, g1, g2, g3, g4, g5⟩ := h
  exact ⟨⟨by rw [hb.cell (by exact hl)]; exact h0, by rw [hb.cell (by exact hl)]; exact h1, by rw [hb.cell (by exact hl)]; exact h2, by rw [hb.cell (by exact hl)]; exact h3, Nat.lt_of_lt_of_le hl hb.size⟩,
    ⟨by rw [hb.cell (by exact kl)]; exact k0, by rw [hb.cell (by exact kl)]; exact k1, by rw [hb.cell (by exact kl)]; exact k2, by rw [hb.cell (by exact kl)]; exact k3, Nat.lt_of_lt_of_le kl hb.size⟩, g1.low hb, g2.low hb, g3.low hb, g4.low hb, below_next g5 hb⟩
set_option maxHeartbeats 16000000 in
theorem dnets_walk (w : World) (p : Option Addr) (len cap : Nat) (hl : len ≤ cap) (hm : len ≤ 9223372036854775807) (h : IntsAt w p len) (hE : Env ls w) (hlw : 2 ∈ ls) :
    Calls Tryz.prog 4 #[.slice p len cap] w fun e w' => e = .returned (.bool true) ∧ Below w.heap.size w w' := by
  have HI := Lib.hid h
  have HE := Lib.hid hE
  clear h hE
  go_enter Tryz.func4, Tryz.ntmps4
  go_wp2_with fail
  refine (wd_new (w := w) HE.out (Below.refl _ _) p len cap hl hm HI.out).mono ?_
  rintro e w1 ⟨b, rfl, hb0, hw1, hb1⟩
  have HW1 := Lib.hid hw1
  clear HI HE hb1 hw1
  go_wp2_with fail
  refine HW1.out.table.mono ?_
  rintro e w2 ⟨k, rfl, hk, hw2, hs2⟩
  have HW2 := Lib.hid hw2
  clear HW1 hw2 hs2
  go_wp2_with fail
  refine (HW2.out.schema k).mono ?_
  rintro e w3 ⟨Z, rfl, hZ, hw3, hb3⟩
  have HW3 := Lib.hid hw3
  have HZ3 := Lib.hid hZ
  clear HW2 hw3 hb3 hZ
  go_wp2_with fail
  refine (HW3.out.tableOfD hlw HZ3.out 7 (by decide)).mono ?_
  rintro e w4 ⟨A, rfl, hTb, -, -, -, hlen, hw4, hs4⟩
  have hbn := below_alloc w4 (.cells #[.string A.nm, .slice A.pc A.n A.cc, .int .i64 A.nx, .slice A.pr A.R.length A.cr] 34)
  have HW5 := Lib.hid (hw4.low hbn)
  have HT5 := Lib.hid (hTb.low hbn)
  have HP5 := Lib.hid (cell4_new w4 (.string A.nm) (.slice A.pc A.n A.cc) (.int .i64 A.nx) (.slice A.pr A.R.length A.cr) 34)
  have hPb : w4.heap.size ≠ b := by have := hw4.tape.lt; omega
  clear HW3 HZ3 hTb hw4 hs4 hbn
  go_upto_region 3 with (fail)
  generalize World.alloc _ _ = w5 at HW5 HT5 HP5 ⊢
  generalize w4.heap.size = P at HP5 hPb ⊢
  obtain ⟨xl, x0, x1, x2, x3, -⟩ := HP5.out
  go_wp2_with fail
  refine (later_any b w _ A HW5.out hlw HT5.out (by omega)).mono ?_
  rintro e w6 ⟨B, rfl, hnx, hw6, hs6⟩
  have hbn := below_alloc w6 (.cells #[.string B.nm, .slice B.pc B.n B.cc, .int .i64 B.nx, .slice B.pr B.R.length B.cr] 34)
  have HW7 := Lib.hid (hw6.low hbn)
  have HN7 := Lib.hid (hnx.low hbn)
  have HT7 := Lib.hid ((HT5.out.step hs6).low hbn)
  have HP7 := Lib.hid ((HP5.out.step hs6 hPb).low hbn)
  have HQ7 := Lib.hid (cell4_new w6 (.string B.nm) (.slice B.pc B.n B.cc) (.int .i64 B.nx) (.slice B.pr B.R.length B.cr) 34)
  have hlB := hnx.len
  clear HW5 HT5 HP5 hnx hw6 hs6 hbn xl x0 x1 x2 x3
  go_upto_region 4 with (fail)
  generalize World.alloc _ _ = w7 at HW7 HN7 HT7 HP7 HQ7 ⊢
  generalize w6.heap.size = Q at HQ7 ⊢
  obtain ⟨xl, x0, x1, x2, x3, -⟩ := HQ7.out
  go_wp2_with fail
  refine (later_any b w _ B HW7.out hlw HN7.out.tab (by omega)).mono ?_
  rintro e w8 ⟨C, rfl, hnx, hw8, hs8⟩
  have hbn := below_alloc w8 (.cells #[.string C.nm, .slice C.pc C.n C.cc, .int .i64 C.nx, .slice C.pr C.R.length C.cr] 34)
  have HW9 := Lib.hid (hw8.low hbn)
  have HN9 := Lib.hid ((HN7.out.trans hnx).low hbn)
  have HT9 := Lib.hid ((HT7.out.step hs8).low hbn)
  have HP9 := Lib.hid ((HP7.out.step hs8 hPb).low hbn)
  have HR9 := Lib.hid (cell4_new w8 (.string C.nm) (.slice C.pc C.n C.cc) (.int .i64 C.nx) (.slice C.pr C.R.length C.cr) 34)
  have hlC : C.R.length ≤ 25 := by have := hnx.len; omega
  clear HW7 HN7 HT7 HP7 HQ7 hnx hw8 hs8 hbn xl x0 x1 x2 x3
  go_upto_region 5 with (fail)
  generalize World.alloc _ _ = w9 at HW9 HN9 HT9 HP9 HR9 ⊢
  generalize w8.heap.size = R at HR9 ⊢
  obtain ⟨xl, x0, x1, x2, x3, -⟩ := HP9.out
  obtain ⟨zl, z0, z1, z2, z3, -⟩ := HR9.out
  go_wp2_with fail
  refine (between_any A C _ HT9.out.at HN9.out.tab.at HT9.out.cap).mono ?_
  rintro e w10 ⟨E, rfl, hf, hb10, hd⟩
  have hbt := btw_nx HT9.out.val HN9.out
  rw [hbt] at hd ⊢
  rcases hd with ⟨-, -, hEI, hED, hEU⟩ | ⟨h0, -⟩
  rotate_left
  · cases h0
  have hbn := below_alloc w10 (.cells #[.string E.nm, .slice E.pi E.I.length E.ci, .slice E.pd E.D.length E.cd, .slice E.pu E.U.length E.cu] 25)
  have HA11 := Lib.hid ((HT9.out.at.low hb10).low hbn)
  have HC11 := Lib.hid ((HN9.out.tab.at.low hb10).low hbn)
  have HE11 := Lib.hid (hf.at.low hbn)
  have HB11 := Lib.hid (below_next (below_next HW9.out.bel hb10) hbn)
  have HP11 := Lib.hid ((HP9.out.low hb10).low hbn)
  have HR11 := Lib.hid ((HR9.out.low hb10).low hbn)
  have HD11 := Lib.hid (cell4_new w10 (.string E.nm) (.slice E.pi E.I.length E.ci) (.slice E.pd E.D.length E.cd) (.slice E.pu E.U.length E.cu) 25)
  have hEl : E.D.length + E.I.length + E.U.length ≤ 100 := by
    have h1 : E.D.length ≤ A.R.length := by rw [hED]; exact List.length_filter_le _ _
    have h2 : E.I.length ≤ C.R.length := by rw [hEI]; exact List.length_filter_le _ _
    have h3 : E.U.length ≤ C.R.length := by rw [hEU]; exact List.length_filterMap_le _ _
    omega
  have HNET : Hid ((A.R.map (·.2) ++ cameR E).Perm (C.R.map (·.2) ++ leftR E)) := Lib.hid (by
    obtain ⟨-, -, -, -, hra, -⟩ := validT_parts HT9.out.val
    obtain ⟨-, -, -, -, hrc, -⟩ := validT_parts HN9.out.tab.val
    unfold cameR leftR
    rw [hEI, hED, hEU]
    exact bags_net (rows_up hra) (rows_up hrc) (fun a ha => by
      obtain ⟨i, hi, rfl⟩ := List.getElem_of_mem ha
      have := (hra i hi).2.1
      rw [tAt_get hi] at this
      exact this) HN9.out.new)
  have hlA2 : (A.R.map (·.2)).length ≤ 200 := by rw [List.length_map]; omega
  have hlC2 : (C.R.map (·.2)).length ≤ 200 := by rw [List.length_map]; omega
  have hlL : (leftR E).length ≤ 200 := by unfold leftR; rw [List.length_append, List.length_map, List.length_map]; omega
  have hlM : (cameR E).length ≤ 200 := by unfold cameR; rw [List.length_append, List.length_map, List.length_map]; omega
  clear HW9 HN9 HT9 HP9 HR9 hbt hf hb10 hbn hEI hED hEU xl x0 x1 x2 x3 zl z0 z1 z2 z3
  go_upto_region 6 with (fail)
  generalize World.alloc _ _ = w11 at HA11 HC11 HE11 HB11 HP11 HR11 HD11 ⊢
  generalize w10.heap.size = F at HD11 ⊢
  obtain ⟨fl, f0, f1, f2, f3, -⟩ := HD11.out
  go_wp2_with fail
  refine (dbags_any E _ HE11.out (by omega)).mono ?_
  rintro e w12 ⟨pl, cl, pc, cc, rfl, hrl, hrc, hb12⟩
  have HA12 := Lib.hid (HA11.out.low hb12)
  have HC12 := Lib.hid (HC11.out.low hb12)
  have HB12 := Lib.hid (below_next HB11.out hb12)
  have HP12 := Lib.hid (HP11.out.low hb12)
  have HR12 := Lib.hid (HR11.out.low hb12)
  have HL12 := Lib.hid hrl
  have HM12 := Lib.hid hrc
  clear HA11 HC11 HE11 HB11 HP11 HR11 HD11 hrl hrc hb12 fl f0 f1 f2 f3
  go_upto_region 7 with (fail)
  go_region_held3 (fun u => (u.cell? ⟨P, 0, none⟩ = some (.string A.nm) ∧ u.cell? ⟨P, 1, none⟩ = some (.slice A.pc A.n A.cc) ∧ u.cell? ⟨P, 2, none⟩ = some (.int .i64 A.nx) ∧ u.cell? ⟨P, 3, none⟩ = some (.slice A.pr A.R.length A.cr) ∧ P < u.heap.size)
      ∧ (u.cell? ⟨R, 0, none⟩ = some (.string C.nm) ∧ u.cell? ⟨R, 1, none⟩ = some (.slice C.pc C.n C.cc) ∧ u.cell? ⟨R, 2, none⟩ = some (.int .i64 C.nx) ∧ u.cell? ⟨R, 3, none⟩ = some (.slice C.pr C.R.length C.cr) ∧ R < u.heap.size)
      ∧ TabAt u A ∧ TabAt u C ∧ RowsAt u pl (srt (leftR E)) ∧ RowsAt u pc (srt (cameR E)) ∧ Below w.heap.size w u)
    (first
      | exact ⟨HP12.out.conj, HR12.out.conj, HA12.out.low (Below.refl _ _).drew, HC12.out.low (Below.refl _ _).drew, HL12.out.low (Below.refl _ _).drew, HM12.out.low (Below.refl _ _).drew, below_next HB12.out (Below.refl _ _).drew⟩
      | with_reducible exact keepNt hbq (by assumption)
      | with_reducible exact keepNt hbr (by assumption))
    (first
      | (go_at_call 28; (with_reducible refine (rbagx_any A _ ?_).mono ?_); (go_split_ands; assumption); rintro e wq ⟨pa, ca, rfl, hra, -, hbq⟩)
      | (go_at_call 28; (with_reducible refine (rbagx_any C _ ?_).mono ?_); (go_split_ands; assumption); rintro e wr ⟨pb, cb, rfl, hrb, -, hbr⟩; have hra2 := hra.low hbr))
  rename_i hHeld
  obtain ⟨-, -, -, -, hLf, hMf, hBf⟩ := hHeld
  obtain ⟨i25, hi25, hz25, hs25, hb25⟩ := info_parts info_row
  obtain ⟨xa, hxa, hsa, hna⟩ := heads_of_rows hra2
  obtain ⟨xb, hxb, hsb, hnb⟩ := heads_of_rows hrb
  obtain ⟨xl, hxl, hsl, hnl⟩ := heads_of_rows hLf
  obtain ⟨xm, hxm, hsm, hnm⟩ := heads_of_rows hMf
  have E1 := Lib.hid (srt_length (A.R.map (·.2)))
  have E2 := Lib.hid (srt_length (C.R.map (·.2)))
  have E3 := Lib.hid (srt_length (leftR E))
  have E4 := Lib.hid (srt_length (cameR E))
  have HB0 := Lib.hid hBf
  have HA0 := Lib.hid hxa
  have HC0 := Lib.hid hxb
  have HL0 := Lib.hid hxl
  have HM0 := Lib.hid hxm
  have HSA := Lib.hid hsa
  have HSB := Lib.hid hsb
  have HSL := Lib.hid hsl
  have HSM := Lib.hid hsm
  have HNA := Lib.hid hna
  have HNB := Lib.hid hnb
  have HNL := Lib.hid hnl
  have HNM := Lib.hid hnm
  clear hra hra2 hrb hLf hMf hBf hxa hxb hxl hxm hsa hsb hsl hsm hna hnb hnl hnm hbq hbr HL12 HM12 HA12 HC12 HB12 HP12 HR12
  have HO1 := Lib.hid (owns_none wr)
  have hbn := below_alloc wr (.cells #[] 89)
  have HB1 := Lib.hid hbn
  go_wp2_with (at_builtin; first
    | (refine wpList_append_anyG (by rfl) (.tmp 43) (.tmp 44) 43 89 rfl wr.heap.size i25 _ 1 24 Tryz.underlying43 hi25 hz25 hs25 hb25 rfl (by decide) _ 0 [] rfl HO1.out pa (srt (A.R.map (·.2))).length ca xa rfl (by rw [HA0.out.1, Nat.mul_one]) (HSA.out _ HB1.out) HNA.out HA0.out.one (by have := E1.out; have := E2.out; have := E3.out; have := E4.out; unfold maxLen; omega) (by have := E1.out; have := E2.out; have := E3.out; have := E4.out; omega)  (by rw [size_alloc]; omega) ?_; intro v5 w5 hown5 hgr5; (have HO5 := Lib.hid hown5); (have HB5 := Lib.hid (grown_below HB1.out HB1.out.size hgr5 (fun j hj => owns_block HO1.out j hj))); clear hown5 hgr5)
    | (refine wpList_append_anyG (by rfl) (.tmp 45) (.tmp 46) 43 89 rfl wr.heap.size i25 _ 1 24 Tryz.underlying43 hi25 hz25 hs25 hb25 rfl (by decide) _ (0 + (srt (A.R.map (·.2))).length) ([] ++ xa) rfl HO5.out pc (srt (cameR E)).length cc xm rfl (by rw [HM0.out.1, Nat.mul_one]) (HSM.out _ HB5.out) HNM.out HM0.out.one (by have := E1.out; have := E2.out; have := E3.out; have := E4.out; unfold maxLen; omega) (by have := E1.out; have := E2.out; have := E3.out; have := E4.out; omega)  HB5.out.size ?_; intro v7 w7 hown7 hgr7; obtain ⟨p7, c7, e7⟩ := own_ex hown7; rw [Nat.zero_add, ← List.length_append] at e7; subst e7; (have HO7 := Lib.hid hown7); (have HB7 := Lib.hid (grown_below HB5.out HB5.out.size hgr7 (fun j hj => owns_block HO5.out j hj))); (have HO8 := Lib.hid (owns_none w7)); (have HB8 := Lib.hid (below_alloc w7 (.cells #[] 89))); (have HB8r := Lib.hid (HB7.out.trans (HB8.out.mono HB7.out.size))); clear hown7 hgr7)
    | (refine wpList_append_anyG (by rfl) (.tmp 48) (.tmp 49) 43 89 rfl w7.heap.size i25 _ 1 24 Tryz.underlying43 hi25 hz25 hs25 hb25 rfl (by decide) _ 0 [] rfl HO8.out pb (srt (C.R.map (·.2))).length cb xb rfl (by rw [HC0.out.1, Nat.mul_one]) (HSB.out _ HB8r.out) HNB.out HC0.out.one (by have := E1.out; have := E2.out; have := E3.out; have := E4.out; unfold maxLen; omega) (by have := E1.out; have := E2.out; have := E3.out; have := E4.out; omega)  (by rw [size_alloc]; omega) ?_; intro v9 w9b hown9 hgr9; (have HO9 := Lib.hid hown9); (have HB9 := Lib.hid (grown_below HB8.out HB8.out.size hgr9 (fun j hj => owns_block HO8.out j hj))); (have HB9r := Lib.hid (HB7.out.trans (HB9.out.mono HB7.out.size))); clear hown9 hgr9)
    | (refine wpList_append_anyG (by rfl) (.tmp 50) (.tmp 51) 43 89 rfl w7.heap.size i25 _ 1 24 Tryz.underlying43 hi25 hz25 hs25 hb25 rfl (by decide) _ (0 + (srt (C.R.map (·.2))).length) ([] ++ xb) rfl HO9.out pl (srt (leftR E)).length cl xl rfl (by rw [HL0.out.1, Nat.mul_one]) (HSL.out _ HB9r.out) HNL.out HL0.out.one (by have := E1.out; have := E2.out; have := E3.out; have := E4.out; unfold maxLen; omega) (by have := E1.out; have := E2.out; have := E3.out; have := E4.out; omega)  HB9.out.size ?_; intro v11 w11b hown11 hgr11; obtain ⟨p11, c11, e11⟩ := own_ex hown11; rw [Nat.zero_add, ← List.length_append] at e11; subst e11; (have HO11 := Lib.hid hown11); (have HB11b := Lib.hid (grown_below HB9.out HB9.out.size hgr11 (fun j hj => owns_block HO9.out j hj))); clear hown11 hgr11))
  have HX7 := Lib.hid (rows_of_heads (owns_below HO7.out HB11b.out) (((HA0.out.append HM0.out).low HB7.out).low HB11b.out))
  have HX11 := Lib.hid (rows_of_heads HO11.out ((((HC0.out.append HL0.out).low HB7.out).low HB11b.out)))
  have HSAME := rsamebag_any (srt (A.R.map (·.2)) ++ srt (cameR E)) (srt (C.R.map (·.2)) ++ srt (leftR E)) p7 p11 c7 c11 w11b (by have := E1.out; have := E4.out; rw [List.length_append]; omega) (by have := E2.out; have := E3.out; rw [List.length_append]; omega) HX7.out HX11.out
  rw [List.length_append, List.length_append] at HSAME
  refine HSAME.mono ?_
  rintro e w13 ⟨rfl, hb13⟩
  rw [decide_eq_true (nets_srt HNET.out)]
  have HBF := Lib.hid (below_next (below_next HB0.out (HB7.out.trans (HB11b.out.mono HB7.out.size))) hb13)
  clear hb13
  go_wp2_with fail
  refine (known8_any _).mono ?_
  rintro e w14 ⟨rfl, hb14⟩
  have HBG := Lib.hid (below_next HBF.out hb14)
  go_wp2
  exact bodyPost_ret (v := .bool true) (by simp [results, Tryz.results4, go_sem]) rfl ⟨rfl, HBG.out⟩
end Go.Proofs.YtlelgkgdppkedaaGreatDoor
