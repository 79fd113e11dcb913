/-
  Several texts in one.
-/
import Derived.Test.YtaajaeidiholmaaDoorPk20
import Derived.Deep.RegionLaw
import Derived.Deep.RegionWith
import Derived.Deep.CutRange
import Derived.Deep.CutBlock
import Derived.Test.YtaajaeidiholmaaDoorPk03
import Derived.Test.YtaajaeidiholmaaDoorPk14
import Derived.Test.YtaajaeidiholmaaDoorPk19
import Derived.Lib.CountLaws
import Derived.Lib.Replace
/-
  AnyExpr of the tape gives well-formed trees.
-/
namespace Go.Proofs.YtaajaeidiholmaaDoor
set_option maxRecDepth 100000
open Go.RowKit
variable {ls : List Nat}

/-- AnyExpr for depths below D. -/
def AnyDoes (ls : List Nat) (D : Nat) : Prop := ∀ (b : Nat) (depth : Int) (w : World), depth < D → -1000 ≤ depth → 12 ≤ b → TapeAt w b → Env ls w →
    Calls Tryd.prog 5 #[.pointer (some ⟨b, 0, none⟩), .int .i64 depth] w (AExPost b D w)
theorem leaf_end {b D : Nat} {w u : World} {E : Ex} (hW : AnW b w u) (hE : ∀ v, ExAt (fun c => w.heap.size < c) v D E) (hV : vE D E = true) {v : World} (hb : ButX w.heap.size u v) {e : Ending} (he : e = .returned (exV E)) : AExPost b D w e v :=
  ⟨E, he, hE v, hV, hW.tape.but hb hW.lt, hW.step.but hb (Nat.le_refl _)⟩
theorem tree_end {b X D : Nat} {w u : World} {E : Ex} (hW : AnW b w u) (hE : ExAt (fun c => X < c) u D E) (hX : w.heap.size < X) (hV : vE D E = true) {v : World} (hb : ButX w.heap.size u v) {e : Ending} (he : e = .returned (exV E)) : AExPost b D w e v :=
  ⟨E, he, hE.but hb fun c _ hc => ⟨by omega, by omega⟩, hV, hW.tape.but hb hW.lt, hW.step.but hb (Nat.le_refl _)⟩
set_option maxHeartbeats 4000000 in
theorem anyExpr_step {D : Nat} (hD : D ≤ 100) (H : 1 ≤ D → AnyDoes ls D) (hn : 0 ∈ ls) (hlw : 4 ∈ ls) : AnyDoes ls (D + 1) := by
  intro b depth w hd hd2 h8 ht hE
  have hlt := ht.lt
  have hW0 : AnW b w (w.alloc (.cells #[.int .i64 0, .int .i64 0, .bool false, .int .i64 0, .int .i64 0, .string ⟨#[]⟩, .string ⟨#[]⟩, .string ⟨#[]⟩, .slice none 0 0, .slice none 0 0] 30)) :=
    ⟨ht.alloc _, (StepT.refl b w).alloc _, ExB.new w ex0 _, hlt⟩
  have HW0 := Lib.hid hW0
  have HE := Lib.hid hE
  have hb4 : b ≠ 4 := Nat.ne_of_gt (Nat.lt_of_lt_of_le (show 4 < 12 by decide) h8)
  have HD := Lib.hid H
  clear hW0 hE ht H
  go_enter Tryd.func5, Tryd.ntmps5
  go_wp2_with fail
  refine (next_any b _ _ (by omega) (by omega) HW0.out.tape).mono ?_
  rintro e w1 ⟨r, rfl, hr0, hr1, ht1, hs1⟩
  have HW1 := Lib.hid (HW0.out.next hs1 ht1)
  clear hs1 ht1 HW0
  rcases (show depth ≤ 0 ∨ (0 < depth ∧ r ≤ 1) ∨ (0 < depth ∧ 2 ≤ r) by omega) with h0 | ⟨h0, h1⟩ | ⟨h0, h1⟩
  · have e1 : decide (depth ≤ 0) = true := decide_eq_true h0
    go_wp2_with fail
    refine (tbool_any b 2 _ (by omega) (by omega) HW1.out.tape).mono ?_
    rintro e w2 ⟨q1, rfl, ht2, hs2⟩
    have HW2 := Lib.hid (HW1.out.next hs2 ht2)
    clear hs2 ht2 HW1
    cases q1
    · have HE2 := Lib.hid (HE.out.step HW2.out.step h8)
      go_wp2_with fail
      refine (value_any b _ hb4 HW2.out.tape (HE2.out.words hlw)).mono ?_
      rintro e w3 ⟨k, n, sv, rfl, hv, -, ht3, hs3⟩
      have HV := Lib.hid hv
      have HW3 := Lib.hid (HW2.out.next hs3 ht3)
      clear hv hs3 ht3 HW2
      have hsz : sv.size ≤ 9223372036854775807 := by have := HV.out.size; omega
      by_cases hneg : k = 1 ∧ n < 0
      · obtain ⟨rfl, hn0⟩ := hneg
        obtain ⟨yl, y0, y1, y2, yf⟩ := cell3_new w3 (.int .i64 1) (.int .i64 n) (.string sv) 26
        have HW4 := Lib.hid (HW3.out.low (below_alloc w3 (.cells #[.int .i64 1, .int .i64 n, .string sv] 26)))
        go_wp2_with fail
        refine (next_any b _ _ (by omega) (by omega) HW4.out.tape).mono ?_
        rintro e w4 ⟨m, rfl, hm0, hm1, ht4, hs4⟩
        have HW5 := Lib.hid (HW4.out.next hs4 ht4)
        have hbv : w3.heap.size ≠ b := by have := HW3.out.tape.lt; omega
        have hy := (cell3_new w3 (.int .i64 1) (.int .i64 n) (.string sv) 26).step3 hs4 hbv
        have hwl : w.heap.size < w3.heap.size := HW3.out.res.lt
        clear hs4 ht4 yl y0 y1 y2 yf
        obtain ⟨yl, y0, y1, y2, yf⟩ := hy
        have hbx := (ButX.refl w3.heap.size w4).set 1 none (.int .i64 m)
        have HW6 := Lib.hid (HW5.out.but hbx hwl)
        go_wp2_with fail
        refine (lit_agg 1 m sv _).mono ?_
        rintro e w6 ⟨rfl, hb6⟩
        have HW7 := Lib.hid (HW6.out.low hb6)
        have HVL := Lib.hid (show vE (D + 1) (litEx 1 m sv) = true from vOf_lit (by rcases HV.out with ⟨h, -⟩ | ⟨-, -, rfl⟩ | ⟨h, -⟩ | ⟨h, -⟩ <;> first | omega | simp [validB]) hm0)
        clear hb6 HW3 HW4 HW5 HW6 yl y0 y1 y2 yf hbx
        obtain ⟨xl, c0, c1, c2, c3, c4, c5, c6, c7, c8, c9, xf⟩ := HW7.out.res
        go_wp2
        obtain ⟨x0, x1, x2, x3, x4, x5, x6, x7, x8, x9⟩ := set_ten HW7.out.res (.int .i64 1) (.int .i64 0) (.bool false) (.int .i64 1) (.int .i64 m) (.string sv) (.string ⟨#[]⟩) (.string ⟨#[]⟩) (.slice none 0 0) (.slice none 0 0)
        refine bodyPost_ret (v := .agg #[.int .i64 1, .int .i64 0, .bool false, .int .i64 1, .int .i64 m, .string sv, .string ⟨#[]⟩, .string ⟨#[]⟩, .slice none 0 0, .slice none 0 0]) (by simp [results, Tryd.results5, go_sem, x0, x1, x2, x3, x4, x5, x6, x7, x8, x9]) rfl ?_
        exact leaf_end (E := litEx 1 m sv) HW7.out (fun v => ExAt.leaf _ v D 1 0 false 1 m hsz (by decide) (by decide) ⟨by omega, by omega⟩) HVL.out (but_ten _ _ _ _ _ _ _ _ _ _ _ _) rfl
      · have HVL := Lib.hid (show vE (D + 1) (litEx k n sv) = true from vOf_lit HV.out.valid (by rcases HV.out with ⟨-, rfl, -⟩ | ⟨rfl, -, -⟩ | ⟨-, h, -, -⟩ | ⟨-, rfl, -⟩ <;> omega))
        have HW4 := Lib.hid (HW3.out.low (below_alloc w3 (.cells #[.int .i64 k, .int .i64 n, .string sv] 26)))
        have e5 : (k == 1 && decide (n < 0)) = false := by
          by_cases h : k = 1
          · simp [h] at hneg ⊢; omega
          · simp [h]
        have hval := lit_agg k n sv
        by_cases hk1 : k = 1
        · have e6 : decide (n < 0) = false := decide_eq_false (by omega)
          subst hk1
          go_wp2_with fail
          refine (hval _).mono ?_
          rintro e w6 ⟨rfl, hb6⟩
          have HW7 := Lib.hid (HW4.out.low hb6)
          clear hb6 HW3 HW4
          obtain ⟨xl, c0, c1, c2, c3, c4, c5, c6, c7, c8, c9, xf⟩ := HW7.out.res
          go_wp2
          obtain ⟨x0, x1, x2, x3, x4, x5, x6, x7, x8, x9⟩ := set_ten HW7.out.res (.int .i64 1) (.int .i64 0) (.bool false) (.int .i64 1) (.int .i64 n) (.string sv) (.string ⟨#[]⟩) (.string ⟨#[]⟩) (.slice none 0 0) (.slice none 0 0)
          refine bodyPost_ret (v := .agg #[.int .i64 1, .int .i64 0, .bool false, .int .i64 1, .int .i64 n, .string sv, .string ⟨#[]⟩, .string ⟨#[]⟩, .slice none 0 0, .slice none 0 0]) (by simp [results, Tryd.results5, go_sem, x0, x1, x2, x3, x4, x5, x6, x7, x8, x9]) rfl ?_
          exact leaf_end (E := litEx 1 n sv) HW7.out (fun v => ExAt.leaf _ v D 1 0 false 1 n hsz (by decide) (by decide) HV.out.i64) HVL.out (but_ten _ _ _ _ _ _ _ _ _ _ _ _) rfl
        · have e6 : (k == 1) = false := beq_eq_false_iff_ne.2 hk1
          go_wp2_with fail
          refine (hval _).mono ?_
          rintro e w6 ⟨rfl, hb6⟩
          have HW7 := Lib.hid (HW4.out.low hb6)
          clear hb6 HW3 HW4
          obtain ⟨xl, c0, c1, c2, c3, c4, c5, c6, c7, c8, c9, xf⟩ := HW7.out.res
          go_wp2
          obtain ⟨x0, x1, x2, x3, x4, x5, x6, x7, x8, x9⟩ := set_ten HW7.out.res (.int .i64 1) (.int .i64 0) (.bool false) (.int .i64 k) (.int .i64 n) (.string sv) (.string ⟨#[]⟩) (.string ⟨#[]⟩) (.slice none 0 0) (.slice none 0 0)
          refine bodyPost_ret (v := .agg #[.int .i64 1, .int .i64 0, .bool false, .int .i64 k, .int .i64 n, .string sv, .string ⟨#[]⟩, .string ⟨#[]⟩, .slice none 0 0, .slice none 0 0]) (by simp [results, Tryd.results5, go_sem, x0, x1, x2, x3, x4, x5, x6, x7, x8, x9]) rfl ?_
          exact leaf_end (E := litEx k n sv) HW7.out (fun v => ExAt.leaf _ v D 1 0 false k n hsz (by decide) (by decide) HV.out.i64) HVL.out (but_ten _ _ _ _ _ _ _ _ _ _ _ _) rfl
    · go_wp2_with fail
      refine (tbool_any b 3 _ (by omega) (by omega) HW2.out.tape).mono ?_
      rintro e w3 ⟨q2, rfl, ht3, hs3⟩
      have HW3 := Lib.hid (HW2.out.next hs3 ht3)
      clear hs3 ht3 HW2
      cases q2
      · go_wp2_with fail
        refine (name_any b _ h8 HW3.out.tape (HE.out.step HW3.out.step h8) hn).mono ?_
        rintro e w4 ⟨i, rfl, hi, ht4, hs4⟩
        have HW4 := Lib.hid (HW3.out.next hs4 ht4)
        have HVL := Lib.hid (show vE (D + 1) (colEx ⟨#[]⟩ (nameS i)) = true from vOf_col qual_none (names_fine ⟨i, hi⟩).1)
        have hsz := (names_fine ⟨i, hi⟩).2
        simp only at hsz
        clear hs4 ht4 HW3
        generalize nameS i = nv at *
        go_wp2_with fail
        refine (col_agg ⟨#[]⟩ nv _).mono ?_
        rintro e w6 ⟨rfl, hb6⟩
        have HW7 := Lib.hid (HW4.out.low hb6)
        clear hb6 HW4
        obtain ⟨xl, c0, c1, c2, c3, c4, c5, c6, c7, c8, c9, xf⟩ := HW7.out.res
        go_wp2
        obtain ⟨x0, x1, x2, x3, x4, x5, x6, x7, x8, x9⟩ := set_ten HW7.out.res (.int .i64 2) (.int .i64 0) (.bool false) (.int .i64 0) (.int .i64 0) (.string ⟨#[]⟩) (.string ⟨#[]⟩) (.string nv) (.slice none 0 0) (.slice none 0 0)
        refine bodyPost_ret (v := .agg #[.int .i64 2, .int .i64 0, .bool false, .int .i64 0, .int .i64 0, .string ⟨#[]⟩, .string ⟨#[]⟩, .string nv, .slice none 0 0, .slice none 0 0]) (by simp [results, Tryd.results5, go_sem, x0, x1, x2, x3, x4, x5, x6, x7, x8, x9]) rfl ?_
        exact leaf_end (E := colEx ⟨#[]⟩ nv) HW7.out (fun v => ExAt.leaf _ v D 2 0 false 0 0 (by decide) (by decide) hsz) HVL.out (but_ten _ _ _ _ _ _ _ _ _ _ _ _) rfl
      · go_wp2_with fail
        refine (next_any b _ _ (by omega) (by omega) (HW3.out.low (below_alloc _ _)).tape).mono ?_
        rintro e w4 ⟨r4, rfl, hr40, hr41, ht4, hs4⟩
        obtain ⟨j, rfl⟩ : ∃ j : Nat, r4 = j := ⟨r4.toNat, by omega⟩
        have hj5 : j < 5 := by omega
        obtain ⟨hq, hql⟩ := qual_at hs4 HW3.out.tape.lt hj5
        have HW4 := Lib.hid ((HW3.out.low (below_alloc _ _)).next hs4 ht4)
        have hqf := quals_fine ⟨j, hj5⟩
        simp only at hqf
        have HQF := Lib.hid hqf
        clear hs4 ht4 HW3 hqf
        generalize qualS j = qv at *
        go_wp2_with fail
        refine (name_any b _ h8 HW4.out.tape (HE.out.step HW4.out.step h8) hn).mono ?_
        rintro e w5 ⟨i, rfl, hi, ht5, hs5⟩
        have HW5 := Lib.hid (HW4.out.next hs5 ht5)
        have HVL := Lib.hid (show vE (D + 1) (colEx qv (nameS i)) = true from vOf_col HQF.out.1 (names_fine ⟨i, hi⟩).1)
        have hsz := (names_fine ⟨i, hi⟩).2
        simp only at hsz
        clear hs5 ht5 HW4 hq hql
        generalize nameS i = nv at *
        go_wp2_with fail
        refine (col_agg qv nv _).mono ?_
        rintro e w6 ⟨rfl, hb6⟩
        have HW7 := Lib.hid (HW5.out.low hb6)
        clear hb6 HW5
        obtain ⟨xl, c0, c1, c2, c3, c4, c5, c6, c7, c8, c9, xf⟩ := HW7.out.res
        go_wp2
        obtain ⟨x0, x1, x2, x3, x4, x5, x6, x7, x8, x9⟩ := set_ten HW7.out.res (.int .i64 2) (.int .i64 0) (.bool false) (.int .i64 0) (.int .i64 0) (.string ⟨#[]⟩) (.string qv) (.string nv) (.slice none 0 0) (.slice none 0 0)
        refine bodyPost_ret (v := .agg #[.int .i64 2, .int .i64 0, .bool false, .int .i64 0, .int .i64 0, .string ⟨#[]⟩, .string qv, .string nv, .slice none 0 0, .slice none 0 0]) (by simp [results, Tryd.results5, go_sem, x0, x1, x2, x3, x4, x5, x6, x7, x8, x9]) rfl ?_
        exact leaf_end (E := colEx qv nv) HW7.out (fun v => ExAt.leaf _ v D 2 0 false 0 0 (by decide) HQF.out.2 hsz) HVL.out (but_ten _ _ _ _ _ _ _ _ _ _ _ _) rfl
  · have e1 : decide (depth ≤ 0) = false := decide_eq_false (by omega)
    have e2 : decide (1 + r ≤ 2) = true := decide_eq_true (by omega)
    go_wp2_with fail
    refine (tbool_any b 2 _ (by omega) (by omega) HW1.out.tape).mono ?_
    rintro e w2 ⟨q1, rfl, ht2, hs2⟩
    have HW2 := Lib.hid (HW1.out.next hs2 ht2)
    clear hs2 ht2 HW1
    cases q1
    · have HE2 := Lib.hid (HE.out.step HW2.out.step h8)
      go_wp2_with fail
      refine (value_any b _ hb4 HW2.out.tape (HE2.out.words hlw)).mono ?_
      rintro e w3 ⟨k, n, sv, rfl, hv, -, ht3, hs3⟩
      have HV := Lib.hid hv
      have HW3 := Lib.hid (HW2.out.next hs3 ht3)
      clear hv hs3 ht3 HW2
      have hsz : sv.size ≤ 9223372036854775807 := by have := HV.out.size; omega
      by_cases hneg : k = 1 ∧ n < 0
      · obtain ⟨rfl, hn0⟩ := hneg
        obtain ⟨yl, y0, y1, y2, yf⟩ := cell3_new w3 (.int .i64 1) (.int .i64 n) (.string sv) 26
        have HW4 := Lib.hid (HW3.out.low (below_alloc w3 (.cells #[.int .i64 1, .int .i64 n, .string sv] 26)))
        go_wp2_with fail
        refine (next_any b _ _ (by omega) (by omega) HW4.out.tape).mono ?_
        rintro e w4 ⟨m, rfl, hm0, hm1, ht4, hs4⟩
        have HW5 := Lib.hid (HW4.out.next hs4 ht4)
        have hbv : w3.heap.size ≠ b := by have := HW3.out.tape.lt; omega
        have hy := (cell3_new w3 (.int .i64 1) (.int .i64 n) (.string sv) 26).step3 hs4 hbv
        have hwl : w.heap.size < w3.heap.size := HW3.out.res.lt
        clear hs4 ht4 yl y0 y1 y2 yf
        obtain ⟨yl, y0, y1, y2, yf⟩ := hy
        have hbx := (ButX.refl w3.heap.size w4).set 1 none (.int .i64 m)
        have HW6 := Lib.hid (HW5.out.but hbx hwl)
        go_wp2_with fail
        refine (lit_agg 1 m sv _).mono ?_
        rintro e w6 ⟨rfl, hb6⟩
        have HW7 := Lib.hid (HW6.out.low hb6)
        have HVL := Lib.hid (show vE (D + 1) (litEx 1 m sv) = true from vOf_lit (by rcases HV.out with ⟨h, -⟩ | ⟨-, -, rfl⟩ | ⟨h, -⟩ | ⟨h, -⟩ <;> first | omega | simp [validB]) hm0)
        clear hb6 HW3 HW4 HW5 HW6 yl y0 y1 y2 yf hbx
        obtain ⟨xl, c0, c1, c2, c3, c4, c5, c6, c7, c8, c9, xf⟩ := HW7.out.res
        go_wp2
        obtain ⟨x0, x1, x2, x3, x4, x5, x6, x7, x8, x9⟩ := set_ten HW7.out.res (.int .i64 1) (.int .i64 0) (.bool false) (.int .i64 1) (.int .i64 m) (.string sv) (.string ⟨#[]⟩) (.string ⟨#[]⟩) (.slice none 0 0) (.slice none 0 0)
        refine bodyPost_ret (v := .agg #[.int .i64 1, .int .i64 0, .bool false, .int .i64 1, .int .i64 m, .string sv, .string ⟨#[]⟩, .string ⟨#[]⟩, .slice none 0 0, .slice none 0 0]) (by simp [results, Tryd.results5, go_sem, x0, x1, x2, x3, x4, x5, x6, x7, x8, x9]) rfl ?_
        exact leaf_end (E := litEx 1 m sv) HW7.out (fun v => ExAt.leaf _ v D 1 0 false 1 m hsz (by decide) (by decide) ⟨by omega, by omega⟩) HVL.out (but_ten _ _ _ _ _ _ _ _ _ _ _ _) rfl
      · have HVL := Lib.hid (show vE (D + 1) (litEx k n sv) = true from vOf_lit HV.out.valid (by rcases HV.out with ⟨-, rfl, -⟩ | ⟨rfl, -, -⟩ | ⟨-, h, -, -⟩ | ⟨-, rfl, -⟩ <;> omega))
        have HW4 := Lib.hid (HW3.out.low (below_alloc w3 (.cells #[.int .i64 k, .int .i64 n, .string sv] 26)))
        have e5 : (k == 1 && decide (n < 0)) = false := by
          by_cases h : k = 1
          · simp [h] at hneg ⊢; omega
          · simp [h]
        have hval := lit_agg k n sv
        by_cases hk1 : k = 1
        · have e6 : decide (n < 0) = false := decide_eq_false (by omega)
          subst hk1
          go_wp2_with fail
          refine (hval _).mono ?_
          rintro e w6 ⟨rfl, hb6⟩
          have HW7 := Lib.hid (HW4.out.low hb6)
          clear hb6 HW3 HW4
          obtain ⟨xl, c0, c1, c2, c3, c4, c5, c6, c7, c8, c9, xf⟩ := HW7.out.res
          go_wp2
          obtain ⟨x0, x1, x2, x3, x4, x5, x6, x7, x8, x9⟩ := set_ten HW7.out.res (.int .i64 1) (.int .i64 0) (.bool false) (.int .i64 1) (.int .i64 n) (.string sv) (.string ⟨#[]⟩) (.string ⟨#[]⟩) (.slice none 0 0) (.slice none 0 0)
          refine bodyPost_ret (v := .agg #[.int .i64 1, .int .i64 0, .bool false, .int .i64 1, .int .i64 n, .string sv, .string ⟨#[]⟩, .string ⟨#[]⟩, .slice none 0 0, .slice none 0 0]) (by simp [results, Tryd.results5, go_sem, x0, x1, x2, x3, x4, x5, x6, x7, x8, x9]) rfl ?_
          exact leaf_end (E := litEx 1 n sv) HW7.out (fun v => ExAt.leaf _ v D 1 0 false 1 n hsz (by decide) (by decide) HV.out.i64) HVL.out (but_ten _ _ _ _ _ _ _ _ _ _ _ _) rfl
        · have e6 : (k == 1) = false := beq_eq_false_iff_ne.2 hk1
          go_wp2_with fail
          refine (hval _).mono ?_
          rintro e w6 ⟨rfl, hb6⟩
          have HW7 := Lib.hid (HW4.out.low hb6)
          clear hb6 HW3 HW4
          obtain ⟨xl, c0, c1, c2, c3, c4, c5, c6, c7, c8, c9, xf⟩ := HW7.out.res
          go_wp2
          obtain ⟨x0, x1, x2, x3, x4, x5, x6, x7, x8, x9⟩ := set_ten HW7.out.res (.int .i64 1) (.int .i64 0) (.bool false) (.int .i64 k) (.int .i64 n) (.string sv) (.string ⟨#[]⟩) (.string ⟨#[]⟩) (.slice none 0 0) (.slice none 0 0)
          refine bodyPost_ret (v := .agg #[.int .i64 1, .int .i64 0, .bool false, .int .i64 k, .int .i64 n, .string sv, .string ⟨#[]⟩, .string ⟨#[]⟩, .slice none 0 0, .slice none 0 0]) (by simp [results, Tryd.results5, go_sem, x0, x1, x2, x3, x4, x5, x6, x7, x8, x9]) rfl ?_
          exact leaf_end (E := litEx k n sv) HW7.out (fun v => ExAt.leaf _ v D 1 0 false k n hsz (by decide) (by decide) HV.out.i64) HVL.out (but_ten _ _ _ _ _ _ _ _ _ _ _ _) rfl
    · go_wp2_with fail
      refine (tbool_any b 3 _ (by omega) (by omega) HW2.out.tape).mono ?_
      rintro e w3 ⟨q2, rfl, ht3, hs3⟩
      have HW3 := Lib.hid (HW2.out.next hs3 ht3)
      clear hs3 ht3 HW2
      cases q2
      · go_wp2_with fail
        refine (name_any b _ h8 HW3.out.tape (HE.out.step HW3.out.step h8) hn).mono ?_
        rintro e w4 ⟨i, rfl, hi, ht4, hs4⟩
        have HW4 := Lib.hid (HW3.out.next hs4 ht4)
        have HVL := Lib.hid (show vE (D + 1) (colEx ⟨#[]⟩ (nameS i)) = true from vOf_col qual_none (names_fine ⟨i, hi⟩).1)
        have hsz := (names_fine ⟨i, hi⟩).2
        simp only at hsz
        clear hs4 ht4 HW3
        generalize nameS i = nv at *
        go_wp2_with fail
        refine (col_agg ⟨#[]⟩ nv _).mono ?_
        rintro e w6 ⟨rfl, hb6⟩
        have HW7 := Lib.hid (HW4.out.low hb6)
        clear hb6 HW4
        obtain ⟨xl, c0, c1, c2, c3, c4, c5, c6, c7, c8, c9, xf⟩ := HW7.out.res
        go_wp2
        obtain ⟨x0, x1, x2, x3, x4, x5, x6, x7, x8, x9⟩ := set_ten HW7.out.res (.int .i64 2) (.int .i64 0) (.bool false) (.int .i64 0) (.int .i64 0) (.string ⟨#[]⟩) (.string ⟨#[]⟩) (.string nv) (.slice none 0 0) (.slice none 0 0)
        refine bodyPost_ret (v := .agg #[.int .i64 2, .int .i64 0, .bool false, .int .i64 0, .int .i64 0, .string ⟨#[]⟩, .string ⟨#[]⟩, .string nv, .slice none 0 0, .slice none 0 0]) (by simp [results, Tryd.results5, go_sem, x0, x1, x2, x3, x4, x5, x6, x7, x8, x9]) rfl ?_
        exact leaf_end (E := colEx ⟨#[]⟩ nv) HW7.out (fun v => ExAt.leaf _ v D 2 0 false 0 0 (by decide) (by decide) hsz) HVL.out (but_ten _ _ _ _ _ _ _ _ _ _ _ _) rfl
      · go_wp2_with fail
        refine (next_any b _ _ (by omega) (by omega) (HW3.out.low (below_alloc _ _)).tape).mono ?_
        rintro e w4 ⟨r4, rfl, hr40, hr41, ht4, hs4⟩
        obtain ⟨j, rfl⟩ : ∃ j : Nat, r4 = j := ⟨r4.toNat, by omega⟩
        have hj5 : j < 5 := by omega
        obtain ⟨hq, hql⟩ := qual_at hs4 HW3.out.tape.lt hj5
        have HW4 := Lib.hid ((HW3.out.low (below_alloc _ _)).next hs4 ht4)
        have hqf := quals_fine ⟨j, hj5⟩
        simp only at hqf
        have HQF := Lib.hid hqf
        clear hs4 ht4 HW3 hqf
        generalize qualS j = qv at *
        go_wp2_with fail
        refine (name_any b _ h8 HW4.out.tape (HE.out.step HW4.out.step h8) hn).mono ?_
        rintro e w5 ⟨i, rfl, hi, ht5, hs5⟩
        have HW5 := Lib.hid (HW4.out.next hs5 ht5)
        have HVL := Lib.hid (show vE (D + 1) (colEx qv (nameS i)) = true from vOf_col HQF.out.1 (names_fine ⟨i, hi⟩).1)
        have hsz := (names_fine ⟨i, hi⟩).2
        simp only at hsz
        clear hs5 ht5 HW4 hq hql
        generalize nameS i = nv at *
        go_wp2_with fail
        refine (col_agg qv nv _).mono ?_
        rintro e w6 ⟨rfl, hb6⟩
        have HW7 := Lib.hid (HW5.out.low hb6)
        clear hb6 HW5
        obtain ⟨xl, c0, c1, c2, c3, c4, c5, c6, c7, c8, c9, xf⟩ := HW7.out.res
        go_wp2
        obtain ⟨x0, x1, x2, x3, x4, x5, x6, x7, x8, x9⟩ := set_ten HW7.out.res (.int .i64 2) (.int .i64 0) (.bool false) (.int .i64 0) (.int .i64 0) (.string ⟨#[]⟩) (.string qv) (.string nv) (.slice none 0 0) (.slice none 0 0)
        refine bodyPost_ret (v := .agg #[.int .i64 2, .int .i64 0, .bool false, .int .i64 0, .int .i64 0, .string ⟨#[]⟩, .string qv, .string nv, .slice none 0 0, .slice none 0 0]) (by simp [results, Tryd.results5, go_sem, x0, x1, x2, x3, x4, x5, x6, x7, x8, x9]) rfl ?_
        exact leaf_end (E := colEx qv nv) HW7.out (fun v => ExAt.leaf _ v D 2 0 false 0 0 (by decide) HQF.out.2 hsz) HVL.out (but_ten _ _ _ _ _ _ _ _ _ _ _ _) rfl
  · skip
    have e1 : decide (depth ≤ 0) = false := decide_eq_false (by omega)
    have e2 : decide (1 + r ≤ 2) = false := decide_eq_false (by omega)
    have hD1 : 1 ≤ D := by omega
    have HDD := Lib.hid (HD.out hD1)
    clear HD
    go_upto_block 0 with (fail)
    obtain ⟨kd, hkd⟩ : ∃ kd, 1 + r = kd := ⟨_, rfl⟩
    rw [hkd]
    have hk3 : 3 ≤ kd := by omega
    have hk12 : kd ≤ 12 := by omega
    clear hkd h1 hr0 hr1 e1 e2
    have hbx := below_alloc w1 (.cells #[.int .i64 kd, .int .i64 0, .bool false, .int .i64 0, .int .i64 0, .string ⟨#[]⟩, .string ⟨#[]⟩, .string ⟨#[]⟩, .slice none 0 0, .slice none 0 0] 30)
    have HX2 := Lib.hid (ExB.new w1 (bareEx kd 0 false none 0 []) 30)
    have HW2 := Lib.hid (HW1.out.low hbx)
    have HXW := Lib.hid HW1.out.res.lt
    simp only [Ex.mk_k, Ex.mk_op, Ex.mk_no, Ex.mk_vk, Ex.mk_vi, Ex.mk_vt, Ex.mk_tb, Ex.mk_nm, Ex.mk_pa, Ex.mk_ca, Ex.mk_args, Ex.mk_ps, Ex.mk_cs, Ex.mk_sub, List.length_nil] at HX2
    clear HW1 hbx
    generalize w1.alloc (.cells #[.int .i64 kd, .int .i64 0, .bool false, .int .i64 0, .int .i64 0, .string ⟨#[]⟩, .string ⟨#[]⟩, .string ⟨#[]⟩, .slice none 0 0, .slice none 0 0] 30) = w2 at *
    generalize w1.heap.size = X at *
    have hXb : X ≠ b := by have := HXW.out; omega
    go_cut [9] from 51 to 94 (fun s9 wx => ∃ (m : Nat) (op : Int) (no : Bool) (ps : Option Addr) (cs : Nat) (sub : List Qu), s9 = .int .i64 m ∧ SwAt b X D w kd m op no ps cs sub wx)
    case first =>
      have hkk : (kd = 3 ∨ kd = 4) ∨ kd = 6 ∨ kd = 5 ∨ kd = 7 ∨ (8 ≤ kd ∧ kd ≤ 9) ∨ 10 ≤ kd := by omega
      rcases hkk with hk | hk | hk | hk | hk | hk
      · rcases hk with rfl | rfl
        all_goals
          go_wp2
          go_meet
          case rel => exact ⟨1, 0, false, none, 0, [], rfl, HW2.out, HX2.out, HXW.out, QAt.nil _ _ _ _, Nat.zero_le _, by decide, good_args (by decide) (by decide) rfl (fun h => absurd h (by decide)) (fun _ => rfl) (fun _ => rfl)⟩
      · subst hk
        go_wp2_with fail
        refine (tbool_any b 2 _ (by omega) (by omega) HW2.out.tape).mono ?_
        rintro e w3 ⟨q1, rfl, ht3, hs3⟩
        have HW3 := Lib.hid (HW2.out.next hs3 ht3)
        have HX3 := Lib.hid (HX2.out.step hs3 hXb)
        clear ht3 hs3
        obtain ⟨xl, x0, x1, x2, x3, x4, x5, x6, x7, x8, x9, xf⟩ := HX3.out
        simp only [Ex.mk_k, Ex.mk_op, Ex.mk_no, Ex.mk_vk, Ex.mk_vi, Ex.mk_vt, Ex.mk_tb, Ex.mk_nm, Ex.mk_pa, Ex.mk_ca, Ex.mk_args, Ex.mk_ps, Ex.mk_cs, Ex.mk_sub, List.length_nil] at x0 x1 x2 x3 x4 x5 x6 x7 x8 x9
        have HW4 := Lib.hid (HW3.out.but ((ButX.refl X w3).set 2 none (.bool q1)) HXW.out)
        have HX4 := Lib.hid (HX3.out.setNo q1)
        go_wp2
        go_meet
        case rel => exact ⟨1, 0, q1, none, 0, [], rfl, HW4.out, HX4.out, HXW.out, QAt.nil _ _ _ _, Nat.zero_le _, by decide, good_args (by decide) (by decide) rfl (fun h => absurd h (by decide)) (fun _ => rfl) (fun h => absurd rfl h)⟩
      · subst hk
        go_wp2_with fail
        refine (next_any b _ _ (by omega) (by omega) HW2.out.tape).mono ?_
        rintro e w3 ⟨n3, rfl, hn0, hn1, ht3, hs3⟩
        have HW3 := Lib.hid (HW2.out.next hs3 ht3)
        have HX3 := Lib.hid (HX2.out.step hs3 hXb)
        clear ht3 hs3
        obtain ⟨xl, x0, x1, x2, x3, x4, x5, x6, x7, x8, x9, xf⟩ := HX3.out
        simp only [Ex.mk_k, Ex.mk_op, Ex.mk_no, Ex.mk_vk, Ex.mk_vi, Ex.mk_vt, Ex.mk_tb, Ex.mk_nm, Ex.mk_pa, Ex.mk_ca, Ex.mk_args, Ex.mk_ps, Ex.mk_cs, Ex.mk_sub, List.length_nil] at x0 x1 x2 x3 x4 x5 x6 x7 x8 x9
        have HW4 := Lib.hid (HW3.out.but ((ButX.refl X w3).set 1 none (.int .i64 (1 + n3))) HXW.out)
        have HX4 := Lib.hid (HX3.out.setOp (1 + n3))
        go_wp2
        go_meet
        case rel => exact ⟨2, 1 + n3, false, none, 0, [], rfl, HW4.out, HX4.out, HXW.out, QAt.nil _ _ _ _, Nat.zero_le _, by decide, good_args (by decide) (by decide) rfl (fun _ => ⟨by omega, by omega⟩) (fun h => absurd rfl h) (fun _ => rfl)⟩
      · subst hk
        go_wp2
        go_meet
        case rel => exact ⟨3, 0, false, none, 0, [], rfl, HW2.out, HX2.out, HXW.out, QAt.nil _ _ _ _, Nat.zero_le _, by decide, good_args (by decide) (by decide) rfl (fun h => absurd h (by decide)) (fun _ => rfl) (fun _ => rfl)⟩
      · skip
        have k3 : (kd == 3) = false := beq_eq_false_iff_ne.2 (by omega)
        have k4 : (kd == 4) = false := beq_eq_false_iff_ne.2 (by omega)
        have k5 : (kd == 5) = false := beq_eq_false_iff_ne.2 (by omega)
        have k6 : (kd == 6) = false := beq_eq_false_iff_ne.2 (by omega)
        have k7 : (kd == 7) = false := beq_eq_false_iff_ne.2 (by omega)
        have k10 : decide (10 ≤ kd) = false := decide_eq_false (by omega)
        go_wp2_with fail
        refine (next_any b _ _ (by omega) (by omega) (HW2.out.low (below_alloc _ _)).tape).mono ?_
        rintro e w3 ⟨r3, rfl, hr30, hr31, ht3, hs3⟩
        obtain ⟨j, rfl⟩ : ∃ j : Nat, r3 = j := ⟨r3.toNat, by omega⟩
        have hj5 : j < 5 := by omega
        obtain ⟨hq, hql⟩ := src_at hs3 HW2.out.tape.lt hj5
        have HW3 := Lib.hid ((HW2.out.low (below_alloc _ _)).next hs3 ht3)
        have HX3 := Lib.hid ((HX2.out.low (below_alloc _ _)).step hs3 hXb)
        have hqf := srcs_fine ⟨j, hj5⟩
        simp only at hqf
        have HQF := Lib.hid hqf
        clear hs3 ht3 HW2 HX2 hqf
        generalize srcS j = fr at *
        have HQ : Hid (QbAt b X w3.heap.size D w kd fr none 0 [] none 0 [] (w3.alloc (.cells #[.bool (kd == 8), .slice none 0 0, .string fr, .slice none 0 0] 47))) := Lib.hid ⟨HW3.out.low (below_alloc _ _), HX3.out.low (below_alloc _ _), HXW.out, QuBx.new w3 ⟨kd == 8, none, 0, [], fr, none, 0, []⟩ _, HX3.out.lt, HQF.out.2, LAt.nil _ _ _ _, LAt.nil _ _ _ _⟩
        clear HW3 HX3
        go_upto_region 18 with (fail)
        clear hq hql
        generalize w3.alloc (.cells #[.bool (kd == 8), .slice none 0 0, .string fr, .slice none 0 0] 47) = w4 at *
        generalize w3.heap.size = Y at *
        go_wp2_with fail
        refine (tbool_any b 2 _ (by omega) (by omega) HQ.out.an.tape).mono ?_
        rintro e w7 ⟨q1, rfl, ht7, hs7⟩
        have HQ3 := Lib.hid (HQ.out.next hs7 ht7)
        clear ht7 hs7 HQ
        cases q1
        · have HS := Lib.hid (HQ3.out.put (by omega) hk12 (by show 0 = itemN kd; unfold itemN; rw [if_neg (by omega)]) (by decide) HQF.out.1 (fun a ha => by cases ha) (fun a ha => by cases ha) 47)
          have HXX := Lib.hid HQ3.out.box
          obtain ⟨yl, y0, y1, y2, y3, yf⟩ := HQ3.out.qb
          simp only [List.length_nil] at y0 y1 y2 y3 HS
          obtain ⟨xl, x0, x1, x2, x3, x4, x5, x6, x7, x8, x9, xf⟩ := HXX.out
          simp only [Ex.mk_k, Ex.mk_op, Ex.mk_no, Ex.mk_vk, Ex.mk_vi, Ex.mk_vt, Ex.mk_tb, Ex.mk_nm, Ex.mk_pa, Ex.mk_ca, Ex.mk_args, Ex.mk_ps, Ex.mk_cs, Ex.mk_sub, List.length_nil] at x0 x1 x2 x3 x4 x5 x6 x7 x8 x9
          go_wp2
          go_meet
          case rel => exact ⟨0, 0, false, _, 1, _, rfl, HS.out⟩
        · skip
          go_wp2_with fail
          refine (HDD.out b (depth - 2) _ (by omega) (by omega) h8 HQ3.out.an.tape (HE.out.step HQ3.out.an.step h8)).mono ?_
          rintro e w5 ⟨E2, rfl, hE5, hV5, ht5, hs5⟩
          have hN5 := hE5.weak (M := fun c => Y < c) (fun c _ hc => Nat.lt_trans HQ3.out.qb.lt hc)
          have HQ3' := Lib.hid (HQ3.out.next hs5 ht5)
          have HQ4 := Lib.hid (HQ3'.out.wheres hN5 30)
          have HVE2 := Lib.hid hV5
          clear hE5 hV5 ht5 hs5 hN5 HQ3
          obtain ⟨yl, y0, y1, y2, y3, yf⟩ := HQ3'.out.qb
          simp only at y0 y1 y2 y3
          dsimp only [exV]
          go_upto_region 20 with (fail)
          clear yl y0 y1 y2 y3 yf HQ3'
          generalize World.alloc _ _ = w8 at *
          have HS := Lib.hid (HQ4.out.put (by omega) hk12 (by show 0 = itemN kd; unfold itemN; rw [if_neg (by omega)]) (Nat.le_refl 1) HQF.out.1 (fun a ha => by cases ha) (by intro a ha; obtain rfl := List.mem_singleton.1 ha; exact HVE2.out) 47)
          have HXX := Lib.hid HQ4.out.box
          obtain ⟨yl, y0, y1, y2, y3, yf⟩ := HQ4.out.qb
          simp only [List.length_singleton] at y0 y1 y2 y3 HS
          obtain ⟨xl, x0, x1, x2, x3, x4, x5, x6, x7, x8, x9, xf⟩ := HXX.out
          simp only [Ex.mk_k, Ex.mk_op, Ex.mk_no, Ex.mk_vk, Ex.mk_vi, Ex.mk_vt, Ex.mk_tb, Ex.mk_nm, Ex.mk_pa, Ex.mk_ca, Ex.mk_args, Ex.mk_ps, Ex.mk_cs, Ex.mk_sub, List.length_nil] at x0 x1 x2 x3 x4 x5 x6 x7 x8 x9
          go_wp2
          go_meet
          case rel => exact ⟨0, 0, false, _, 1, _, rfl, HS.out⟩
      · skip
        have k3 : (kd == 3) = false := beq_eq_false_iff_ne.2 (by omega)
        have k4 : (kd == 4) = false := beq_eq_false_iff_ne.2 (by omega)
        have k5 : (kd == 5) = false := beq_eq_false_iff_ne.2 (by omega)
        have k6 : (kd == 6) = false := beq_eq_false_iff_ne.2 (by omega)
        have k7 : (kd == 7) = false := beq_eq_false_iff_ne.2 (by omega)
        have k10 : decide (10 ≤ kd) = true := decide_eq_true (by omega)
        go_wp2_with fail
        refine (next_any b _ _ (by omega) (by omega) (HW2.out.low (below_alloc _ _)).tape).mono ?_
        rintro e w3 ⟨r3, rfl, hr30, hr31, ht3, hs3⟩
        obtain ⟨j, rfl⟩ : ∃ j : Nat, r3 = j := ⟨r3.toNat, by omega⟩
        have hj5 : j < 5 := by omega
        obtain ⟨hq, hql⟩ := src_at hs3 HW2.out.tape.lt hj5
        have HW3 := Lib.hid ((HW2.out.low (below_alloc _ _)).next hs3 ht3)
        have HX3 := Lib.hid ((HX2.out.low (below_alloc _ _)).step hs3 hXb)
        have hqf := srcs_fine ⟨j, hj5⟩
        simp only at hqf
        have HQF := Lib.hid hqf
        clear hs3 ht3 HW2 HX2 hqf
        generalize srcS j = fr at *
        have HQ : Hid (QbAt b X w3.heap.size D w kd fr none 0 [] none 0 [] (w3.alloc (.cells #[.bool (kd == 8), .slice none 0 0, .string fr, .slice none 0 0] 47))) := Lib.hid ⟨HW3.out.low (below_alloc _ _), HX3.out.low (below_alloc _ _), HXW.out, QuBx.new w3 ⟨kd == 8, none, 0, [], fr, none, 0, []⟩ _, HX3.out.lt, HQF.out.2, LAt.nil _ _ _ _, LAt.nil _ _ _ _⟩
        clear HW3 HX3
        go_upto_region 17 with (fail)
        clear hq hql
        generalize w3.alloc (.cells #[.bool (kd == 8), .slice none 0 0, .string fr, .slice none 0 0] 47) = w4 at *
        generalize w3.heap.size = Y at *
        go_wp2_with fail
        refine (HDD.out b (depth - 2) _ (by omega) (by omega) h8 HQ.out.an.tape (HE.out.step HQ.out.an.step h8)).mono ?_
        rintro e w5 ⟨E1, rfl, hE5, hV5, ht5, hs5⟩
        have hN5 := hE5.weak (M := fun c => Y < c) (fun c _ hc => Nat.lt_trans HQ.out.qb.lt hc)
        have HQ' := Lib.hid (HQ.out.next hs5 ht5)
        have HQ2 := Lib.hid (HQ'.out.items hN5 30)
        have HVE1 := Lib.hid hV5
        clear hE5 hV5 ht5 hs5 hN5 HQ
        obtain ⟨yl, y0, y1, y2, y3, yf⟩ := HQ'.out.qb
        simp only at y0 y1 y2 y3
        dsimp only [exV]
        go_upto_region 18 with (fail)
        clear yl y0 y1 y2 y3 yf HQ'
        generalize World.alloc _ _ = w6 at *
        go_wp2_with fail
        refine (tbool_any b 2 _ (by omega) (by omega) HQ2.out.an.tape).mono ?_
        rintro e w7 ⟨q1, rfl, ht7, hs7⟩
        have HQ3 := Lib.hid (HQ2.out.next hs7 ht7)
        clear ht7 hs7 HQ2
        cases q1
        · have HS := Lib.hid (HQ3.out.put (by omega) hk12 (by show 1 = itemN kd; unfold itemN; rw [if_pos (by omega)]) (by decide) HQF.out.1 (by intro a ha; obtain rfl := List.mem_singleton.1 ha; exact HVE1.out) (fun a ha => by cases ha) 47)
          have HXX := Lib.hid HQ3.out.box
          obtain ⟨yl, y0, y1, y2, y3, yf⟩ := HQ3.out.qb
          simp only [List.length_nil] at y0 y1 y2 y3 HS
          obtain ⟨xl, x0, x1, x2, x3, x4, x5, x6, x7, x8, x9, xf⟩ := HXX.out
          simp only [Ex.mk_k, Ex.mk_op, Ex.mk_no, Ex.mk_vk, Ex.mk_vi, Ex.mk_vt, Ex.mk_tb, Ex.mk_nm, Ex.mk_pa, Ex.mk_ca, Ex.mk_args, Ex.mk_ps, Ex.mk_cs, Ex.mk_sub, List.length_nil] at x0 x1 x2 x3 x4 x5 x6 x7 x8 x9
          go_wp2
          go_meet
          case rel => exact ⟨0, 0, false, _, 1, _, rfl, HS.out⟩
        · skip
          go_wp2_with fail
          refine (HDD.out b (depth - 2) _ (by omega) (by omega) h8 HQ3.out.an.tape (HE.out.step HQ3.out.an.step h8)).mono ?_
          rintro e w5 ⟨E2, rfl, hE5, hV5, ht5, hs5⟩
          have hN5 := hE5.weak (M := fun c => Y < c) (fun c _ hc => Nat.lt_trans HQ3.out.qb.lt hc)
          have HQ3' := Lib.hid (HQ3.out.next hs5 ht5)
          have HQ4 := Lib.hid (HQ3'.out.wheres hN5 30)
          have HVE2 := Lib.hid hV5
          clear hE5 hV5 ht5 hs5 hN5 HQ3
          obtain ⟨yl, y0, y1, y2, y3, yf⟩ := HQ3'.out.qb
          simp only at y0 y1 y2 y3
          dsimp only [exV]
          go_upto_region 20 with (fail)
          clear yl y0 y1 y2 y3 yf HQ3'
          generalize World.alloc _ _ = w8 at *
          have HS := Lib.hid (HQ4.out.put (by omega) hk12 (by show 1 = itemN kd; unfold itemN; rw [if_pos (by omega)]) (Nat.le_refl 1) HQF.out.1 (by intro a ha; obtain rfl := List.mem_singleton.1 ha; exact HVE1.out) (by intro a ha; obtain rfl := List.mem_singleton.1 ha; exact HVE2.out) 47)
          have HXX := Lib.hid HQ4.out.box
          obtain ⟨yl, y0, y1, y2, y3, yf⟩ := HQ4.out.qb
          simp only [List.length_singleton] at y0 y1 y2 y3 HS
          obtain ⟨xl, x0, x1, x2, x3, x4, x5, x6, x7, x8, x9, xf⟩ := HXX.out
          simp only [Ex.mk_k, Ex.mk_op, Ex.mk_no, Ex.mk_vk, Ex.mk_vi, Ex.mk_vt, Ex.mk_tb, Ex.mk_nm, Ex.mk_pa, Ex.mk_ca, Ex.mk_args, Ex.mk_ps, Ex.mk_cs, Ex.mk_sub, List.length_nil] at x0 x1 x2 x3 x4 x5 x6 x7 x8 x9
          go_wp2
          go_meet
          case rel => exact ⟨0, 0, false, _, 1, _, rfl, HS.out⟩
    case rest =>
      obtain ⟨m, op, no, ps, cs, sub, rfl, hS⟩ := hcut
      have HG := Lib.hid hS.good
      have HL1 := Lib.hid hS.lens
      have hm3 := hS.m3
      have hLP : LpAt b X D w kd op no ps cs sub none 0 [] wc := ⟨hS.an, hS.box, hS.xw, own_nil _ _, fun a ha => (by cases ha), hS.subs.weak fun c _ hc => ⟨hc, fun e => by cases e⟩, fun a ha => by cases ha⟩
      have HLP := Lib.hid hLP
      clear hS hLP HW2 HX2
      obtain ⟨i0, hi0, hz0, hs0, hb0⟩ := info_parts info_expr
      go_wp2_with fail
      go_loopw [11] (fun s11 wx => ∃ (vp : Option Addr) (vc : Nat) (args : List Ex), args.length ≤ m ∧ s11 = .int .i64 args.length ∧ LpAt b X D w kd op no ps cs sub vp vc args wx) (fun s11 _ => m - (intOf s11).toNat)
      case atStart => exact ⟨none, 0, [], Nat.zero_le _, rfl, HLP.out⟩
      case round =>
        obtain ⟨vp, vc, args, hla, rfl, hP⟩ := hrel
        have HP := Lib.hid hP
        clear hP HLP
        by_cases hlt2 : args.length < m
        · have hlt' : decide ((args.length : Int) < m) = true := decide_eq_true (by omega)
          go_upto_region 35 with (fail)
          have HPd := Lib.hid (HP.out.low ((Below.refl wr.heap.size wr).drew))
          have HEd := Lib.hid (HE.out.step HPd.out.an.step h8)
          have HCALL := Lib.hid (HDD.out b (depth - 1) wr.drew (by omega) (by omega) h8 HPd.out.an.tape HEd.out)
          obtain ⟨xl, x0, x1, x2, x3, x4, x5, x6, x7, x8, x9, xf⟩ := HPd.out.box
          simp only [Ex.mk_k, Ex.mk_op, Ex.mk_no, Ex.mk_vk, Ex.mk_vi, Ex.mk_vt, Ex.mk_tb, Ex.mk_nm, Ex.mk_pa, Ex.mk_ca, Ex.mk_args, Ex.mk_ps, Ex.mk_cs, Ex.mk_sub] at x0 x1 x2 x3 x4 x5 x6 x7 x8 x9
          have hdw : IntKind.i64.wrap (depth - 1) = depth - 1 := by rw [IntKind.wrap_i64]; omega
          go_region_law (first
            | (go_simp; go_at_call 5; refine HCALL.out.mono ?_; rintro e w5 ⟨E1, rfl, hE5, hV5, ht5, hs5⟩; (have HP5 := Lib.hid (HPd.out.next hs5 ht5)); (have HN5 := Lib.hid (HPd.out.new hE5)); (have HV5 := Lib.hid hV5); clear hE5 hV5 ht5 hs5 xl x0 x1 x2 x3 x4 x5 x6 x7 x8 x9 xf; obtain ⟨xl, x0, x1, x2, x3, x4, x5, x6, x7, x8, x9, xf⟩ := HP5.out.box; simp only [Ex.mk_k, Ex.mk_op, Ex.mk_no, Ex.mk_vk, Ex.mk_vi, Ex.mk_vt, Ex.mk_tb, Ex.mk_nm, Ex.mk_pa, Ex.mk_ca, Ex.mk_args, Ex.mk_ps, Ex.mk_cs, Ex.mk_sub] at x0 x1 x2 x3 x4 x5 x6 x7 x8 x9; dsimp only [exV])
            | (refine step_append_lies _ (by rfl) (.tmp 101) (.tmp 106) 27 (by rfl) (X + 1) 30 i0 _ 10 136 Tryd.underlying27 hi0 hz0 hs0 hb0 rfl (by decide) (.slice vp args.length vc) args.length (ecells args) (by rfl) (HP5.out.low (below_alloc _ _)).own ⟨w5.heap.size, 0, none⟩ 1 1 (excs E1) (by rfl) rfl (news_of (ExB.new w5 E1 _)) (excs_one _) (by omega) (by unfold maxLen; omega) (by omega) (by rw [size_alloc]; have := HP5.out.box.lt; omega) _ rfl ?_; intro g8 c8 w8 hown8 hgr8 hat8 hlt8; obtain ⟨hb8, hp8⟩ := (HP5.out.low (below_alloc _ _)).push (HN5.out.low (below_alloc _ _)) HV5.out hown8 hgr8 hat8; (have HP8 := Lib.hid hp8); clear hown8 hgr8 hat8 hp8 xl x0 x1 x2 x3 x4 x5 x6 x7 x8 x9 xf; obtain ⟨xl, x0, x1, x2, x3, x4, x5, x6, x7, x8, x9, xf⟩ := hb8; simp only [Ex.mk_k, Ex.mk_op, Ex.mk_no, Ex.mk_vk, Ex.mk_vi, Ex.mk_vt, Ex.mk_tb, Ex.mk_nm, Ex.mk_pa, Ex.mk_ca, Ex.mk_args, Ex.mk_ps, Ex.mk_cs, Ex.mk_sub] at x0 x1 x2 x3 x4 x5 x6 x7 x8 x9))
          all_goals
            clear xl x0 x1 x2 x3 x4 x5 x6 x7 x8 x9 xf hlt8 HP5 HN5 HPd HCALL HP
            generalize World.setCell _ _ _ = W9 at HP8 ⊢
            go_wp2
            go_roundw
            case rel => exact ⟨_, _, args ++ [E1], by rw [List.length_append]; show args.length + 1 ≤ m; omega, by rw [List.length_append]; show _ = Value.int .i64 ((args.length + 1 : Nat) : Int); go_num, HP8.out⟩
            case measure => simp [intOf]; omega
        · have hlt' : decide ((args.length : Int) < m) = false := decide_eq_false (by omega)
          have hlm : m = args.length := by omega
          subst hlm
          have HVV := Lib.hid (show vE (D + 1) (argsEx kd op no vp vc args ps cs sub) = true from HG.out vp vc args rfl HP.out.vals)
          have HTR := Lib.hid (HP.out.tree (by omega) HL1.out)
          obtain ⟨xl, x0, x1, x2, x3, x4, x5, x6, x7, x8, x9, xf⟩ := HP.out.box
          simp only [Ex.mk_k, Ex.mk_op, Ex.mk_no, Ex.mk_vk, Ex.mk_vi, Ex.mk_vt, Ex.mk_tb, Ex.mk_nm, Ex.mk_pa, Ex.mk_ca, Ex.mk_args, Ex.mk_ps, Ex.mk_cs, Ex.mk_sub] at x0 x1 x2 x3 x4 x5 x6 x7 x8 x9
          obtain ⟨rl, r0, r1, r2, r3, r4, r5, r6, r7, r8, r9, rf⟩ := HP.out.an.res
          go_wp2
          obtain ⟨y0, y1, y2, y3, y4, y5, y6, y7, y8, y9⟩ := set_ten HP.out.an.res (.int .i64 kd) (.int .i64 op) (.bool no) (.int .i64 0) (.int .i64 0) (.string ⟨#[]⟩) (.string ⟨#[]⟩) (.string ⟨#[]⟩) (.slice vp args.length vc) (.slice ps sub.length cs)
          refine bodyPost_ret (v := .agg #[.int .i64 kd, .int .i64 op, .bool no, .int .i64 0, .int .i64 0, .string ⟨#[]⟩, .string ⟨#[]⟩, .string ⟨#[]⟩, .slice vp args.length vc, .slice ps sub.length cs]) (by simp [results, Tryd.results5, go_sem, y0, y1, y2, y3, y4, y5, y6, y7, y8, y9]) rfl ?_
          exact tree_end (E := argsEx kd op no vp vc args ps cs sub) HP.out.an HTR.out HP.out.xw HVV.out (but_ten _ _ _ _ _ _ _ _ _ _ _ _) rfl
theorem anyExpr_any (hn : 0 ∈ ls) (hlw : 4 ∈ ls) : ∀ D, D ≤ 100 → AnyDoes ls (D + 1)
  | 0, h => anyExpr_step h (fun h => absurd h (by decide)) hn hlw
  | D + 1, h => anyExpr_step h (fun _ => anyExpr_any hn hlw D (by omega)) hn hlw
end Go.Proofs.YtaajaeidiholmaaDoor
/-
  Different values of the tape are written differently. Plain.
-/
namespace Go.Proofs.YtaajaeidiholmaaDoor
set_option maxRecDepth 100000
open Go

theorem digit_nat (d : Nat) (h : d < 10) : (UInt8.ofNat (48 + d)).toNat = 48 + d := by
  simp; omega
theorem dec_val (u : Nat) : (Lib.decDigits u).foldl (fun a c => a * 10 + (c.toNat - 48)) 0 = u := by
  induction u using Nat.strongRecOn with
  | _ u ih =>
    rw [Lib.decDigits]
    split
    · rename_i h
      simp only [List.foldl_cons, List.foldl_nil]
      rw [digit_nat u h]; omega
    · rename_i h
      rw [List.foldl_append, ih (u / 10) (by omega)]
      simp only [List.foldl_cons, List.foldl_nil]
      rw [digit_nat (u % 10) (by omega)]; omega
theorem dec_inj {a b : Nat} (h : Lib.decDigits a = Lib.decDigits b) : a = b := by rw [← dec_val a, ← dec_val b, h]
theorem dec_head (u : Nat) : ∃ c l, Lib.decDigits u = c :: l ∧ 48 ≤ c.toNat ∧ c.toNat ≤ 57 := by
  induction u using Nat.strongRecOn with
  | _ u ih =>
    rw [Lib.decDigits]
    split
    · rename_i h
      exact ⟨_, _, rfl, by rw [digit_nat u h]; omega, by rw [digit_nat u h]; omega⟩
    · obtain ⟨c, l, hc, h1, h2⟩ := ih (u / 10) (by omega)
      exact ⟨c, _, by rw [hc]; rfl, h1, h2⟩
theorem itoa_head (n : Int) : ∃ c l, Lib.itoa n = c :: l ∧ (c = 45 ∨ 48 ≤ c.toNat) ∧ c.toNat ≤ 57 := by
  unfold Lib.itoa
  split
  · exact ⟨_, _, rfl, Or.inl rfl, by decide⟩
  · obtain ⟨c, l, hc, h1, h2⟩ := dec_head n.toNat
    exact ⟨c, l, hc, Or.inr h1, h2⟩
theorem itoa_inj {a b : Int} (h : Lib.itoa a = Lib.itoa b) : a = b := by
  unfold Lib.itoa at h
  split at h <;> split at h
  · have := dec_inj (List.cons.inj h).2; omega
  · obtain ⟨c, l, hc, h1, -⟩ := dec_head b.toNat
    rw [hc] at h; have := (List.cons.inj h).1; rw [← this] at h1; exact absurd h1 (by decide)
  · obtain ⟨c, l, hc, h1, -⟩ := dec_head a.toNat
    rw [hc] at h; have := (List.cons.inj h).1; rw [this] at h1; exact absurd h1 (by decide)
  · have := dec_inj h; omega

/-- The first byte of a text. -/
def firstB (s : ByteArray) : Option UInt8 := s.data.toList.head?
/-- Which kind a text shows by its first byte. -/
theorem fmt_first {k n : Int} {s : ByteArray} (h : IsVal k n s) :
    ∃ c, firstB (fmtB k n s) = some c ∧ ((k = 0 ∧ c = 78) ∨ (k = 1 ∧ (c = 45 ∨ 48 ≤ c.toNat) ∧ c.toNat ≤ 57) ∨ (k = 2 ∧ (c = 84 ∨ c = 70)) ∨ (k = 3 ∧ c = 39)) := by
  rcases h with ⟨rfl, rfl, rfl⟩ | ⟨rfl, hn, rfl⟩ | ⟨rfl, h0, h1, rfl⟩ | ⟨rfl, rfl, hs⟩
  · rw [fmtB_null]; exact ⟨_, rfl, Or.inl ⟨rfl, rfl⟩⟩
  · rw [fmtB_num]
    obtain ⟨c, l, hc, h1, h2⟩ := itoa_head n
    exact ⟨c, by simp [firstB, hc], Or.inr (Or.inl ⟨rfl, h1, h2⟩)⟩
  · rw [fmtB_truth n (by omega)]
    by_cases h : n = 1
    · rw [if_pos h]; exact ⟨_, rfl, Or.inr (Or.inr (Or.inl ⟨rfl, Or.inl rfl⟩))⟩
    · rw [if_neg h]; exact ⟨_, rfl, Or.inr (Or.inr (Or.inl ⟨rfl, Or.inr rfl⟩))⟩
  · rw [fmtB_text s (by rw [← validB_text]; exact IsVal.valid (Or.inr (Or.inr (Or.inr ⟨rfl, rfl, hs⟩))))]
    exact ⟨39, by simp [firstB, quoteB], Or.inr (Or.inr (Or.inr ⟨rfl, rfl⟩))⟩
theorem fmt_mark {k n : Int} {s : ByteArray} (h : IsVal k n s) : fmtB k n s ≠ ⟨#[63]⟩ := by
  intro he
  obtain ⟨c, hc, h2⟩ := fmt_first h
  rw [he] at hc
  have : c = 63 := (Option.some.inj hc).symm
  subst this
  rcases h2 with ⟨-, h⟩ | ⟨-, -, h⟩ | ⟨-, h⟩ | ⟨-, h⟩ <;> revert h <;> decide

def word (i : Nat) : ByteArray := match i with | 0 => ⟨#[]⟩ | 1 => ⟨#[97]⟩ | 2 => ⟨#[98]⟩ | 3 => ⟨#[105, 116, 39, 115]⟩ | 4 => ⟨#[90, 32, 122]⟩ | _ => ⟨#[126]⟩
theorem word_of {s : ByteArray} (h : IsWord s) : ∃ i, i < 6 ∧ s = word i := by
  rcases h with rfl | rfl | rfl | rfl | rfl | rfl
  · exact ⟨0, by decide, rfl⟩
  · exact ⟨1, by decide, rfl⟩
  · exact ⟨2, by decide, rfl⟩
  · exact ⟨3, by decide, rfl⟩
  · exact ⟨4, by decide, rfl⟩
  · exact ⟨5, by decide, rfl⟩
theorem quote_words : ∀ i, i < 6 → ∀ j, j < 6 → (quoteB (word i)).data.toList = (quoteB (word j)).data.toList → i = j := by decide +kernel
theorem quote_inj {s t : ByteArray} (hs : IsWord s) (ht : IsWord t) (h : quoteB s = quoteB t) : s = t := by
  obtain ⟨i, hi, rfl⟩ := word_of hs
  obtain ⟨j, hj, rfl⟩ := word_of ht
  rw [quote_words i hi j hj (by rw [h])]

theorem fmt_inj {k n : Int} {s : ByteArray} {k' n' : Int} {s' : ByteArray} (h : IsVal k n s) (h' : IsVal k' n' s') (he : fmtB k n s = fmtB k' n' s') : k = k' ∧ n = n' ∧ s = s' := by
  have hk : k = k' := by
    obtain ⟨c, hc, h2⟩ := fmt_first h
    obtain ⟨c', hc', h2'⟩ := fmt_first h'
    rw [he, hc'] at hc
    obtain rfl := Option.some.inj hc
    clear he hc' hc h h'
    rcases h2 with ⟨rfl, h⟩ | ⟨rfl, h, h3⟩ | ⟨rfl, h⟩ | ⟨rfl, h⟩ <;> rcases h2' with ⟨rfl, h'⟩ | ⟨rfl, h', h3'⟩ | ⟨rfl, h'⟩ | ⟨rfl, h'⟩ <;> first | rfl | (exfalso; simp_all; done) | (exfalso; rcases h with rfl | rfl <;> simp_all; done) | (exfalso; rcases h' with rfl | rfl <;> simp_all; done)
  subst hk
  rcases h with ⟨rfl, rfl, rfl⟩ | ⟨rfl, hn, rfl⟩ | ⟨rfl, h0, h1, rfl⟩ | ⟨rfl, rfl, hs⟩ <;> rcases h' with ⟨hk, hn', hs'⟩ | ⟨hk, hn', hs'⟩ | ⟨hk, h0', h1', hs'⟩ | ⟨hk, hn', hs'⟩ <;> try (exact absurd hk (by decide))
  · exact ⟨rfl, hn'.symm, hs'.symm⟩
  · subst hs'
    rw [fmtB_num, fmtB_num] at he
    exact ⟨rfl, itoa_inj (by simpa using he), rfl⟩
  · subst hs'
    rw [fmtB_truth n (by omega), fmtB_truth n' (by omega)] at he
    refine ⟨rfl, ?_, rfl⟩
    by_cases a : n = 1 <;> by_cases b : n' = 1 <;> simp [a, b] at he <;> omega
  · subst hn'
    have hv : ∀ t, IsWord t → textOK t.data.toList = true := fun t ht => by rw [← validB_text]; exact IsVal.valid (Or.inr (Or.inr (Or.inr ⟨rfl, rfl, ht⟩)))
    rw [fmtB_text s (hv s hs), fmtB_text s' (hv s' hs')] at he
    exact ⟨rfl, rfl, quote_inj hs hs' he⟩
end Go.Proofs.YtaajaeidiholmaaDoor
/-
  Words are read back, plain: a reader of the words of an expression, and that it gives the tree back.
-/
namespace Go.Proofs.YtaajaeidiholmaaDoor
set_option maxRecDepth 100000
open Go

abbrev tNOT : ByteArray := ⟨#[78, 79, 84]⟩
abbrev tMIN : ByteArray := ⟨#[45]⟩
abbrev tEXI : ByteArray := ⟨#[69, 88, 73, 83, 84, 83]⟩
abbrev tLP : ByteArray := ⟨#[40]⟩
abbrev tRP : ByteArray := ⟨#[41]⟩
abbrev tSEL : ByteArray := ⟨#[83, 69, 76, 69, 67, 84]⟩
abbrev tCNT : ByteArray := ⟨#[67, 79, 85, 78, 84]⟩
abbrev tSTAR : ByteArray := ⟨#[42]⟩
abbrev tFROM : ByteArray := ⟨#[70, 82, 79, 77]⟩
abbrev tWHE : ByteArray := ⟨#[87, 72, 69, 82, 69]⟩
abbrev tDOT : ByteArray := ⟨#[46]⟩
abbrev tIS : ByteArray := ⟨#[73, 83]⟩
abbrev tNUL : ByteArray := ⟨#[78, 85, 76, 76]⟩
abbrev tBTW : ByteArray := ⟨#[66, 69, 84, 87, 69, 69, 78]⟩
abbrev tAND : ByteArray := ⟨#[65, 78, 68]⟩
abbrev tTRU : ByteArray := ⟨#[84, 82, 85, 69]⟩
abbrev tFAL : ByteArray := ⟨#[70, 65, 76, 83, 69]⟩
/-- The number of an operator's text, or 0. -/
def binOf (t : ByteArray) : Nat := (((List.range 13).find? fun i => decide (opS (i + 1) = t)).map (· + 1)).getD 0
theorem binOf_op : ∀ j : Fin 14, binOf (opS j) = j := by decide +kernel
/-- How tightly the operator at the head binds. -/
def hpC (t : ByteArray) : Int := if binOf t ≠ 0 then prec 5 (binOf t) else if t = tIS ∨ t = tBTW then 4 else 0
def hp : List ByteArray → Int
  | [] => 0
  | t :: _ => hpC t
inductive PM where
  | ex (p : Int)
  | prim
  | rest (p : Int) (a : Ex)
abbrev PF := PM → List ByteArray → Option (Ex × List ByteArray)
def parFromC (f : PF) (fr : ByteArray) (t : List ByteArray) : Option ((ByteArray × List Ex) × List ByteArray) := if t.head? = some tWHE then (f (.ex 1) (t.drop 1)).bind fun x => some ((fr, [x.1]), x.2.drop 1) else some ((fr, []), t.drop 1)
def parFrom (f : PF) : List ByteArray → Option ((ByteArray × List Ex) × List ByteArray)
  | _ :: fr :: t => parFromC f fr t
  | _ => none
def quN (st : Bool) (items : List Ex) (y : ByteArray × List Ex) : Qu := ⟨st, none, 0, items, y.1, none, 0, y.2⟩
def aggK (u : ByteArray) : Int := if u = ⟨#[83, 85, 77]⟩ then 10 else if u = ⟨#[77, 73, 78]⟩ then 11 else 12
/-- Is a word a literal? -/
def litT (s : ByteArray) : Bool := decide (s = tNUL) || decide (s = tTRU) || decide (s = tFAL) || (match s.data.toList with | c :: _ => decide (48 ≤ c.toNat ∧ c.toNat ≤ 57) || decide (c = 39) | [] => false)
open Classical in
noncomputable def litOf (s : ByteArray) : Ex := if h : ∃ v : Int × Int × ByteArray, validB v.1 v.2.1 v.2.2 = true ∧ 0 ≤ v.2.1 ∧ fmtB v.1 v.2.1 v.2.2 = s then litEx h.choose.1 h.choose.2.1 h.choose.2.2 else ex0
noncomputable def parPrimC (f : PF) (s : ByteArray) (t : List ByteArray) : Option (Ex × List ByteArray) :=
    if s = tNOT then (f (.ex 3) t).bind fun x => some (argEx 3 0 false none 0 [x.1], x.2)
    else if s = tMIN then (f (.ex 7) t).bind fun x => some (argEx 4 0 false none 0 [x.1], x.2)
    else if s = tEXI then (parFrom f (t.drop 3)).bind fun y => some (subEx 8 none 0 (quN true [] y.1), y.2)
    else if s = tLP then
      (if t.head? = some tSEL then
        (if (t.drop 1).head? = some tCNT then (parFrom f (t.drop 5)).bind fun y => some (subEx 9 none 0 (quN false [] y.1), y.2)
        else (f (.ex 1) (t.drop 3)).bind fun x => (parFrom f (x.2.drop 1)).bind fun y => some (subEx (aggK ((t.drop 1).headD ⟨#[]⟩)) none 0 (quN false [x.1] y.1), y.2))
      else (f (.ex 1) t).bind fun x => some (x.1, x.2.drop 1))
    else if litT s then some (litOf s, t)
    else if t.head? = some tDOT then some (colEx s ((t.drop 1).headD ⟨#[]⟩), t.drop 2)
    else some (colEx ⟨#[]⟩ s, t)
noncomputable def parPrim (f : PF) : List ByteArray → Option (Ex × List ByteArray)
  | [] => none
  | s :: t => parPrimC f s t
def parRestC (f : PF) (p : Int) (a : Ex) (s : ByteArray) (t : List ByteArray) : Option (Ex × List ByteArray) :=
    if hp (s :: t) < p ∨ hp (s :: t) = 0 then some (a, s :: t)
    else if binOf s ≠ 0 then (f (.ex (least 5 (binOf s) 1)) t).bind fun x => f (.rest p (argEx 5 (binOf s) false none 0 [a, x.1])) x.2
    else if s = tIS then
      (if t.head? = some tNOT then f (.rest p (argEx 6 0 true none 0 [a])) (t.drop 2) else f (.rest p (argEx 6 0 false none 0 [a])) (t.drop 1))
    else (f (.ex 5) t).bind fun x => (f (.ex 5) (x.2.drop 1)).bind fun y => f (.rest p (argEx 7 0 false none 0 [a, x.1, y.1])) y.2
def parRest (f : PF) (p : Int) (a : Ex) : List ByteArray → Option (Ex × List ByteArray)
  | [] => some (a, [])
  | s :: t => parRestC f p a s t
noncomputable def parF (f : PF) : PF
  | .ex p, t => (f .prim t).bind fun x => f (.rest p x.1) x.2
  | .prim, t => parPrim f t
  | .rest p a, t => parRest f p a t
noncomputable def par : Nat → PF
  | 0 => fun _ _ => none
  | n + 1 => parF (par n)
def PLe (f g : PF) : Prop := ∀ m t x, f m t = some x → g m t = some x
theorem from_mono {f g : PF} (h : PLe f g) {t : List ByteArray} {x : (ByteArray × List Ex) × List ByteArray} (hx : parFrom f t = some x) : parFrom g t = some x := by
  match t, hx with
  | _ :: fr :: t, hx =>
    have hx : parFromC f fr t = some x := hx
    show parFromC g fr t = some x
    unfold parFromC at hx ⊢
    split at hx
    · rename_i hw
      obtain ⟨y, hy, hx⟩ := Option.bind_eq_some_iff.1 hx
      rw [if_pos hw, h _ _ _ hy]; exact hx
    · rename_i hw
      rw [if_neg hw]; exact hx
theorem prim_mono {f g : PF} (h : PLe f g) {t : List ByteArray} {x : Ex × List ByteArray} (hx : parPrim f t = some x) : parPrim g t = some x := by
  match t, hx with
  | s :: t, hx =>
    have hx : parPrimC f s t = some x := hx
    show parPrimC g s t = some x
    unfold parPrimC at hx ⊢
    by_cases h1 : s = tNOT
    · rw [if_pos h1] at hx ⊢
      obtain ⟨y, hy, hx⟩ := Option.bind_eq_some_iff.1 hx
      rw [h _ _ _ hy]; exact hx
    rw [if_neg h1] at hx ⊢
    by_cases h2 : s = tMIN
    · rw [if_pos h2] at hx ⊢
      obtain ⟨y, hy, hx⟩ := Option.bind_eq_some_iff.1 hx
      rw [h _ _ _ hy]; exact hx
    rw [if_neg h2] at hx ⊢
    by_cases h3 : s = tEXI
    · rw [if_pos h3] at hx ⊢
      obtain ⟨y, hy, hx⟩ := Option.bind_eq_some_iff.1 hx
      rw [from_mono h hy]; exact hx
    rw [if_neg h3] at hx ⊢
    by_cases h4 : s = tLP
    · rw [if_pos h4] at hx ⊢
      by_cases h5 : t.head? = some tSEL
      · rw [if_pos h5] at hx ⊢
        by_cases h6 : (t.drop 1).head? = some tCNT
        · rw [if_pos h6] at hx ⊢
          obtain ⟨y, hy, hx⟩ := Option.bind_eq_some_iff.1 hx
          rw [from_mono h hy]; exact hx
        · rw [if_neg h6] at hx ⊢
          obtain ⟨y, hy, hx⟩ := Option.bind_eq_some_iff.1 hx
          obtain ⟨z, hz, hx⟩ := Option.bind_eq_some_iff.1 hx
          rw [h _ _ _ hy, Option.bind_some, from_mono h hz]; exact hx
      · rw [if_neg h5] at hx ⊢
        obtain ⟨y, hy, hx⟩ := Option.bind_eq_some_iff.1 hx
        rw [h _ _ _ hy]; exact hx
    rw [if_neg h4] at hx ⊢
    exact hx
theorem rest_mono {f g : PF} (h : PLe f g) {p : Int} {a : Ex} {t : List ByteArray} {x : Ex × List ByteArray} (hx : parRest f p a t = some x) : parRest g p a t = some x := by
  match t, hx with
  | [], hx => exact hx
  | s :: t, hx =>
    have hx : parRestC f p a s t = some x := hx
    show parRestC g p a s t = some x
    unfold parRestC at hx ⊢
    by_cases h1 : hp (s :: t) < p ∨ hp (s :: t) = 0
    · rw [if_pos h1] at hx ⊢; exact hx
    rw [if_neg h1] at hx ⊢
    by_cases h2 : binOf s ≠ 0
    · rw [if_pos h2] at hx ⊢
      obtain ⟨y, hy, hx⟩ := Option.bind_eq_some_iff.1 hx
      rw [h _ _ _ hy]; exact h _ _ _ hx
    rw [if_neg h2] at hx ⊢
    by_cases h3 : s = tIS
    · rw [if_pos h3] at hx ⊢
      split at hx
      · rename_i h4; rw [if_pos h4]; exact h _ _ _ hx
      · rename_i h4; rw [if_neg h4]; exact h _ _ _ hx
    rw [if_neg h3] at hx ⊢
    obtain ⟨y, hy, hx⟩ := Option.bind_eq_some_iff.1 hx
    obtain ⟨z, hz, hx⟩ := Option.bind_eq_some_iff.1 hx
    rw [h _ _ _ hy, Option.bind_some, h _ _ _ hz]; exact h _ _ _ hx
theorem parF_mono {f g : PF} (h : PLe f g) : PLe (parF f) (parF g) := by
  intro m t x hx
  match m, hx with
  | .ex p, hx =>
    have hx : ((f .prim t).bind fun x => f (.rest p x.1) x.2) = some x := hx
    show ((g .prim t).bind fun x => g (.rest p x.1) x.2) = some x
    obtain ⟨y, hy, hx⟩ := Option.bind_eq_some_iff.1 hx
    rw [h _ _ _ hy]; exact h _ _ _ hx
  | .prim, hx => exact prim_mono h hx
  | .rest p a, hx => exact rest_mono h hx
theorem par_step : ∀ n, PLe (par n) (par (n + 1))
  | 0 => fun _ _ _ h => by cases h
  | n + 1 => parF_mono (par_step n)
theorem par_mono {n m : Nat} (h : n ≤ m) : PLe (par n) (par m) := by
  induction h with
  | refl => exact fun _ _ _ h => h
  | step _ ih => exact fun _ _ _ hx => par_step _ _ _ _ (ih _ _ _ hx)
/-- What is read. -/
def Rd (m : PM) (t : List ByteArray) (x : Ex × List ByteArray) : Prop := ∃ n, par n m t = some x
theorem Rd.det {m : PM} {t : List ByteArray} {x y : Ex × List ByteArray} (h : Rd m t x) (k : Rd m t y) : x = y := by
  obtain ⟨n, hn⟩ := h
  obtain ⟨o, ho⟩ := k
  have h1 := par_mono (Nat.le_max_left n o) _ _ _ hn
  have h2 := par_mono (Nat.le_max_right n o) _ _ _ ho
  rw [h1] at h2
  exact Option.some.inj h2
def RdF (t : List ByteArray) (x : (ByteArray × List Ex) × List ByteArray) : Prop := ∃ n, parFrom (par n) t = some x
section
variable {p : Int} {a b e : Ex} {t r : List ByteArray} {x : Ex × List ByteArray}
theorem Rd.two {m1 m2 : PM} {t1 t2 : List ByteArray} {x1 x2 : Ex × List ByteArray} (h : Rd m1 t1 x1) (k : Rd m2 t2 x2) : ∃ n, par n m1 t1 = some x1 ∧ par n m2 t2 = some x2 := by
  obtain ⟨n, hn⟩ := h
  obtain ⟨o, ho⟩ := k
  exact ⟨max n o, par_mono (Nat.le_max_left n o) _ _ _ hn, par_mono (Nat.le_max_right n o) _ _ _ ho⟩
theorem Rd.ex (h : Rd .prim t (e, r)) (k : Rd (.rest p e) r x) : Rd (.ex p) t x := by
  obtain ⟨n, h1, h2⟩ := h.two k
  exact ⟨n + 1, by show (par n .prim t).bind _ = _; rw [h1]; exact h2⟩
theorem Rd.stop (h : hp r < p ∨ hp r = 0) : Rd (.rest p e) r (e, r) := by
  refine ⟨1, ?_⟩
  match r, h with
  | [], _ => rfl
  | s :: t, h => show parRestC _ p e s t = _; unfold parRestC; rw [if_pos h]
theorem Rd.bin {s : ByteArray} (hj : binOf s ≠ 0) (hq : p ≤ prec 5 (binOf s)) (h : Rd (.ex (least 5 (binOf s) 1)) t (b, r)) (k : Rd (.rest p (argEx 5 (binOf s) false none 0 [a, b])) r x) : Rd (.rest p a) (s :: t) x := by
  obtain ⟨n, h1, h2⟩ := h.two k
  refine ⟨n + 1, ?_⟩
  have hh : hp (s :: t) = prec 5 (binOf s) := by show hpC _ = _; unfold hpC; rw [if_pos hj]
  have h0 := prec_pos 5 (binOf s)
  show parRestC (par n) p a s (t) = some x
  unfold parRestC
  rw [if_neg (by rw [hh]; omega), if_pos hj, h1]
  exact h2
theorem hp_is (t : List ByteArray) : hp (tIS :: t) = 4 := by show hpC _ = _; unfold hpC; rw [if_neg (by decide +kernel), if_pos (.inl rfl)]
theorem hp_btw (t : List ByteArray) : hp (tBTW :: t) = 4 := by show hpC _ = _; unfold hpC; rw [if_neg (by decide +kernel), if_pos (.inr rfl)]
theorem hp_and (t : List ByteArray) : hp (tAND :: t) = 2 := by show hpC _ = _; unfold hpC; rw [if_pos (by decide +kernel)]; decide +kernel
theorem hp_rp (t : List ByteArray) : hp (tRP :: t) = 0 := by show hpC _ = _; unfold hpC; rw [if_neg (by decide +kernel), if_neg (by decide +kernel)]
theorem Rd.null (hq : p ≤ 4) (k : Rd (.rest p (argEx 6 0 false none 0 [a])) r x) : Rd (.rest p a) (tIS :: tNUL :: r) x := by
  obtain ⟨n, h1⟩ := k
  refine ⟨n + 1, ?_⟩
  show parRestC (par n) p a tIS (tNUL :: r) = some x
  unfold parRestC
  rw [if_neg (by rw [hp_is]; omega), if_neg (by decide +kernel), if_pos rfl, if_neg (by show ¬ some tNUL = some tNOT; decide +kernel)]
  exact h1
theorem Rd.nullN (hq : p ≤ 4) (k : Rd (.rest p (argEx 6 0 true none 0 [a])) r x) : Rd (.rest p a) (tIS :: tNOT :: tNUL :: r) x := by
  obtain ⟨n, h1⟩ := k
  refine ⟨n + 1, ?_⟩
  show parRestC (par n) p a tIS (tNOT :: tNUL :: r) = some x
  unfold parRestC
  rw [if_neg (by rw [hp_is]; omega), if_neg (by decide +kernel), if_pos rfl, if_pos (by rfl)]
  exact h1
theorem Rd.btw {c : Ex} {u : List ByteArray} (hq : p ≤ 4) (h : Rd (.ex 5) t (b, tAND :: u)) (k : Rd (.ex 5) u (c, r)) (l : Rd (.rest p (argEx 7 0 false none 0 [a, b, c])) r x) : Rd (.rest p a) (tBTW :: t) x := by
  obtain ⟨n, h1⟩ := h
  obtain ⟨m, h2, h3⟩ := k.two l
  refine ⟨max n m + 1, ?_⟩
  have g1 := par_mono (Nat.le_max_left n m) _ _ _ h1
  have g2 := par_mono (Nat.le_max_right n m) _ _ _ h2
  have g3 := par_mono (Nat.le_max_right n m) _ _ _ h3
  show parRestC (par (max n m)) p a tBTW (t) = some x
  unfold parRestC
  rw [if_neg (by rw [hp_btw]; omega), if_neg (by decide +kernel), if_neg (by decide +kernel), g1, Option.bind_some]
  show (par (max n m) (.ex 5) u).bind _ = _
  rw [g2]
  exact g3
theorem Rd.not (h : Rd (.ex 3) t (a, r)) : Rd .prim (tNOT :: t) (argEx 3 0 false none 0 [a], r) := by
  obtain ⟨n, h1⟩ := h
  refine ⟨n + 1, ?_⟩
  show parPrimC (par n) tNOT t = _
  unfold parPrimC
  rw [if_pos rfl, h1]; rfl
theorem Rd.neg (h : Rd (.ex 7) t (a, r)) : Rd .prim (tMIN :: t) (argEx 4 0 false none 0 [a], r) := by
  obtain ⟨n, h1⟩ := h
  refine ⟨n + 1, ?_⟩
  show parPrimC (par n) tMIN t = _
  unfold parPrimC
  rw [if_neg (by decide +kernel), if_pos rfl, h1]; rfl
theorem RdF.none {fr : ByteArray} : RdF (tFROM :: fr :: tRP :: r) ((fr, []), r) := by
  refine ⟨0, ?_⟩
  show parFromC _ fr (tRP :: r) = _
  unfold parFromC
  rw [if_neg (by show ¬ some tRP = some tWHE; decide +kernel)]; rfl
theorem RdF.some {fr : ByteArray} (h : Rd (.ex 1) t (a, tRP :: r)) : RdF (tFROM :: fr :: tWHE :: t) ((fr, [a]), r) := by
  obtain ⟨n, h1⟩ := h
  refine ⟨n, ?_⟩
  show parFromC _ fr (tWHE :: t) = _
  unfold parFromC
  rw [if_pos (by rfl)]
  show (par n (.ex 1) t).bind _ = _
  rw [h1]; rfl
theorem Rd.exi {y : ByteArray × List Ex} (h : RdF t (y, r)) : Rd .prim (tEXI :: tLP :: tSEL :: tSTAR :: t) (subEx 8 none 0 (quN true [] y), r) := by
  obtain ⟨n, h1⟩ := h
  refine ⟨n + 1, ?_⟩
  show parPrimC (par n) tEXI (tLP :: tSEL :: tSTAR :: t) = _
  unfold parPrimC
  rw [if_neg (by decide +kernel), if_neg (by decide +kernel), if_pos rfl]
  show (parFrom (par n) t).bind _ = _
  rw [h1]; rfl
theorem Rd.cnt {y : ByteArray × List Ex} (h : RdF t (y, r)) : Rd .prim (tLP :: tSEL :: tCNT :: tLP :: tSTAR :: tRP :: t) (subEx 9 none 0 (quN false [] y), r) := by
  obtain ⟨n, h1⟩ := h
  refine ⟨n + 1, ?_⟩
  show parPrimC (par n) tLP (tSEL :: tCNT :: tLP :: tSTAR :: tRP :: t) = _
  unfold parPrimC
  rw [if_neg (by decide +kernel), if_neg (by decide +kernel), if_neg (by decide +kernel), if_pos rfl, if_pos (by rfl), if_pos (by rfl)]
  show (parFrom (par n) t).bind _ = _
  rw [h1]; rfl
theorem Rd.agg {y : ByteArray × List Ex} {s : ByteArray} {u : List ByteArray} (hs : s ≠ tCNT) (k : Rd (.ex 1) t (a, tRP :: u)) (h : RdF u (y, r)) : Rd .prim (tLP :: tSEL :: s :: tLP :: t) (subEx (aggK s) none 0 (quN false [a] y), r) := by
  obtain ⟨n, h1⟩ := k
  obtain ⟨m, h2⟩ := h
  refine ⟨max n m + 1, ?_⟩
  have g1 := par_mono (Nat.le_max_left n m) _ _ _ h1
  have g2 := from_mono (par_mono (Nat.le_max_right n m)) h2
  show parPrimC (par (max n m)) tLP (tSEL :: s :: tLP :: t) = _
  unfold parPrimC
  rw [if_neg (by decide +kernel), if_neg (by decide +kernel), if_neg (by decide +kernel), if_pos rfl, if_pos (by rfl), if_neg (by show ¬ Option.some s = Option.some tCNT; simpa using hs)]
  show (par (max n m) (.ex 1) t).bind _ = _
  rw [g1, Option.bind_some]
  show (parFrom (par (max n m)) u).bind _ = _
  rw [g2]; rfl
theorem Rd.paren (hs : t.head? ≠ Option.some tSEL) (h : Rd (.ex 1) t (a, tRP :: r)) : Rd .prim (tLP :: t) (a, r) := by
  obtain ⟨n, h1⟩ := h
  refine ⟨n + 1, ?_⟩
  show parPrimC (par n) tLP t = _
  unfold parPrimC
  rw [if_neg (by decide +kernel), if_neg (by decide +kernel), if_neg (by decide +kernel), if_pos rfl, if_neg hs, h1]; rfl
/-- A word that is neither a keyword nor a symbol of expressions. -/
def Free (s : ByteArray) : Prop := s ≠ tNOT ∧ s ≠ tMIN ∧ s ≠ tEXI ∧ s ≠ tLP
theorem Rd.lit {s : ByteArray} (hf : Free s) (hl : litT s = true) : Rd .prim (s :: r) (litOf s, r) := by
  refine ⟨1, ?_⟩
  show parPrimC (par 0) s r = _
  unfold parPrimC
  rw [if_neg hf.1, if_neg hf.2.1, if_neg hf.2.2.1, if_neg hf.2.2.2, if_pos hl]
theorem Rd.col {s : ByteArray} (hf : Free s) (hl : litT s = false) (hd : r.head? ≠ Option.some tDOT) : Rd .prim (s :: r) (colEx ⟨#[]⟩ s, r) := by
  refine ⟨1, ?_⟩
  show parPrimC (par 0) s r = _
  unfold parPrimC
  rw [if_neg hf.1, if_neg hf.2.1, if_neg hf.2.2.1, if_neg hf.2.2.2, if_neg (by rw [hl]; decide), if_neg hd]
theorem Rd.colq {s u : ByteArray} (hf : Free s) (hl : litT s = false) : Rd .prim (s :: tDOT :: u :: r) (colEx s u, r) := by
  refine ⟨1, ?_⟩
  show parPrimC (par 0) s (tDOT :: u :: r) = _
  unfold parPrimC
  rw [if_neg hf.1, if_neg hf.2.1, if_neg hf.2.2.1, if_neg hf.2.2.2, if_neg (by rw [hl]; decide), if_pos (by rfl)]
  rfl
end
end Go.Proofs.YtaajaeidiholmaaDoor
/-
  Valid values are written differently: also texts of any kind. Plain.
-/
namespace Go.Proofs.YtaajaeidiholmaaDoor
set_option maxRecDepth 100000
open Go

theorem ba_ext {s t : ByteArray} (h : s.data.toList = t.data.toList) : s = t := by
  cases s with
  | mk a =>
    cases t with
    | mk b => exact congrArg _ (Array.ext' h)
theorem ba_of_eqT {s t : ByteArray} (h : eqT s t = true) : s = t := by
  have h := eqT_eq h
  rw [ByteArray.toList_eq, ByteArray.toList_eq] at h
  exact ba_ext h
def dbl1 : List UInt8 → List UInt8
  | [] => []
  | c :: r => if c = 39 then 39 :: 39 :: dbl1 r else c :: dbl1 r
theorem index1_ne {c : UInt8} (h : c ≠ 39) (l : List UInt8) : Lib.index (c :: l) [39] = if Lib.index l [39] == -1 then -1 else Lib.index l [39] + 1 := by
  rw [Lib.index, if_neg]
  simp [List.isPrefixOf]
  intro e; exact absurd e.symm h
theorem index1_hit (r : List UInt8) : Lib.index (39 :: r) [39] = (0 : Nat) := by
  rw [Lib.index, if_pos (by simp [List.isPrefixOf])]; rfl
theorem rep1_eq (s : List UInt8) : Lib.replaceAll s [39] [39, 39] = Lib.replaceK [39] [39, 39] (Lib.count s [39]) s := by
  unfold Lib.replaceAll Lib.replace
  rw [if_neg (by decide)]
  unfold Lib.replaceNum
  rw [if_pos (Or.inl (by decide))]
theorem rep1_nil : Lib.replaceAll [] [39] [39, 39] = [] := by decide
theorem rep1_hit (r : List UInt8) : Lib.replaceAll (39 :: r) [39] [39, 39] = 39 :: 39 :: Lib.replaceAll r [39] [39, 39] := by
  rw [rep1_eq, rep1_eq, Lib.count_hit (by decide) (index1_hit r), Nat.add_comm 1, Lib.replaceK_hit _ _ _ _ 0 (index1_hit r)]
  rfl
theorem rep1_ne {c : UInt8} (h : c ≠ 39) (l : List UInt8) : Lib.replaceAll (c :: l) [39] [39, 39] = c :: Lib.replaceAll l [39] [39, 39] := by
  rw [rep1_eq, rep1_eq]
  have hi := index1_ne h l
  by_cases hm : Lib.index l [39] = -1
  · rw [hm] at hi
    rw [Lib.count_miss hm, Lib.count_miss (by simpa using hi)]
    rfl
  · obtain ⟨i, he⟩ : ∃ i : Nat, Lib.index l [39] = i := ⟨(Lib.index l [39]).toNat, by have := Lib.index_ge l [39]; omega⟩
    have hb : (Lib.index l [39] == -1) = false := beq_eq_false_iff_ne.2 hm
    rw [hb, he] at hi
    have hi' : Lib.index (c :: l) [39] = ((i + 1 : Nat) : Int) := by rw [hi]; rfl
    rw [Lib.count_hit (by decide) hi', Lib.count_hit (by decide) he, Nat.add_comm 1, Nat.add_comm 1, Lib.replaceK_hit _ _ _ _ _ hi', Lib.replaceK_hit _ _ _ _ _ he, show i + 1 + ([39] : List UInt8).length = (i + ([39] : List UInt8).length) + 1 by omega, List.drop_succ_cons, List.take_succ_cons]
    rfl
theorem rep1_dbl (l : List UInt8) : Lib.replaceAll l [39] [39, 39] = dbl1 l := by
  induction l with
  | nil => exact rep1_nil
  | cons c r ih =>
    unfold dbl1
    by_cases h : c = 39
    · subst h; rw [if_pos rfl, rep1_hit, ih]
    · rw [if_neg h, rep1_ne h, ih]
theorem quote_list (s : ByteArray) : (quoteB s).data.toList = 39 :: (dbl1 s.data.toList ++ [39]) := by
  unfold quoteB
  rw [rep1_dbl]
  simp [ByteArray.data_append]
/-- Behind a quoted text no quote comes: it ends where it ends. -/
theorem dbl_cut : ∀ (a b x y : List UInt8), x.head? ≠ some 39 → y.head? ≠ some 39 → dbl1 a ++ 39 :: x = dbl1 b ++ 39 :: y → a = b ∧ x = y
  | [], [], x, y, _, _, h => ⟨rfl, (List.cons.inj h).2⟩
  | [], d :: b, x, y, hx, _, h => by
    exfalso
    unfold dbl1 at h
    split at h
    · have h2 := (List.cons.inj h).2
      exact hx (by rw [h2]; rfl)
    · rename_i hd
      exact hd (List.cons.inj h).1.symm
  | c :: a, [], x, y, _, hy, h => by
    exfalso
    have h : dbl1 (c :: a) ++ 39 :: x = 39 :: y := h
    rw [dbl1] at h
    split at h
    · have h2 := (List.cons.inj h).2
      exact hy (by
        have : y = 39 :: (dbl1 a ++ 39 :: x) := h2.symm
        rw [this]; rfl)
    · rename_i hd
      exact hd (List.cons.inj h).1
  | c :: a, d :: b, x, y, hx, hy, h => by
    rw [dbl1, dbl1] at h
    by_cases hc : c = 39
    · by_cases hd : d = 39
      · rw [if_pos hc, if_pos hd] at h
        have h2 := (List.cons.inj (List.cons.inj h).2).2
        obtain ⟨h3, h4⟩ := dbl_cut a b x y hx hy h2
        exact ⟨by rw [hc, hd, h3], h4⟩
      · rw [if_pos hc, if_neg hd] at h
        exact absurd (List.cons.inj h).1.symm hd
    · by_cases hd : d = 39
      · rw [if_neg hc, if_pos hd] at h
        exact absurd (List.cons.inj h).1 hc
      · rw [if_neg hc, if_neg hd] at h
        obtain ⟨h1, h2⟩ := List.cons.inj h
        obtain ⟨h3, h4⟩ := dbl_cut a b x y hx hy h2
        exact ⟨by rw [h1, h3], h4⟩
theorem quoteB_inj {s t : ByteArray} (h : quoteB s = quoteB t) : s = t := by
  have h1 : (quoteB s).data.toList = (quoteB t).data.toList := by rw [h]
  rw [quote_list, quote_list] at h1
  exact ba_ext (dbl_cut _ _ [] [] (by simp) (by simp) (List.cons.inj h1).2).1
/-- The first byte of a written value. -/
theorem fmt_head {k n : Int} {s : ByteArray} (h : validB k n s = true) :
    ∃ c l, (fmtB k n s).data.toList = c :: l ∧ ((k = 0 ∧ c = 78) ∨ (k = 1 ∧ (c = 45 ∨ 48 ≤ c.toNat) ∧ c.toNat ≤ 57) ∨ (k = 2 ∧ (c = 84 ∨ c = 70)) ∨ (k = 3 ∧ c = 39)) := by
  rcases validB_cases h with ⟨rfl, rfl, rfl⟩ | ⟨rfl, rfl⟩ | ⟨rfl, hn, rfl⟩ | ⟨rfl, rfl, ht⟩
  · rw [fmtB_null]; exact ⟨_, _, rfl, .inl ⟨rfl, rfl⟩⟩
  · rw [fmtB_num]
    obtain ⟨c, l, hc, h1, h2⟩ := itoa_head n
    exact ⟨c, l, by simp [hc], .inr (.inl ⟨rfl, h1, h2⟩)⟩
  · rw [fmtB_truth n hn]
    by_cases h : n = 1
    · rw [if_pos h]; exact ⟨_, _, rfl, .inr (.inr (.inl ⟨rfl, .inl rfl⟩))⟩
    · rw [if_neg h]; exact ⟨_, _, rfl, .inr (.inr (.inl ⟨rfl, .inr rfl⟩))⟩
  · rw [fmtB_text s ht]
    exact ⟨39, _, quote_list s, .inr (.inr (.inr ⟨rfl, rfl⟩))⟩
theorem fmtB_inj {k n k' n' : Int} {s s' : ByteArray} (h : validB k n s = true) (h' : validB k' n' s' = true) (he : fmtB k n s = fmtB k' n' s') : k = k' ∧ n = n' ∧ s = s' := by
  have hk : k = k' := by
    obtain ⟨c, l, hc, h2⟩ := fmt_head h
    obtain ⟨c', l', hc', h2'⟩ := fmt_head h'
    rw [he, hc'] at hc
    obtain rfl := (List.cons.inj hc).1
    clear he hc' hc h h'
    rcases h2 with ⟨rfl, h⟩ | ⟨rfl, h, h3⟩ | ⟨rfl, h⟩ | ⟨rfl, h⟩ <;> rcases h2' with ⟨rfl, h'⟩ | ⟨rfl, h', h3'⟩ | ⟨rfl, h'⟩ | ⟨rfl, h'⟩ <;> first | rfl | (exfalso; subst h; revert h'; decide) | (exfalso; subst h'; revert h; decide) | (exfalso; subst h; revert h3'; decide) | (exfalso; subst h'; revert h3; decide) | (exfalso; rcases h with rfl | rfl <;> revert h' <;> decide) | (exfalso; rcases h' with rfl | rfl <;> revert h <;> decide) | (exfalso; rcases h with rfl | rfl <;> revert h3' <;> decide) | (exfalso; rcases h' with rfl | rfl <;> revert h3 <;> decide) | (exfalso; rcases h' with rfl | h' <;> simp_all <;> done) | (exfalso; rcases h with rfl | h <;> simp_all <;> done)
  subst hk
  rcases validB_cases h with ⟨rfl, rfl, rfl⟩ | ⟨rfl, rfl⟩ | ⟨rfl, hn, rfl⟩ | ⟨rfl, rfl, ht⟩
  · rcases validB_cases h' with ⟨-, h1, h2⟩ | ⟨h1, -⟩ | ⟨h1, -, -⟩ | ⟨h1, -, -⟩
    · exact ⟨rfl, h1.symm, h2.symm⟩
    all_goals exact absurd h1 (by decide)
  · rcases validB_cases h' with ⟨h1, -, -⟩ | ⟨-, h2⟩ | ⟨h1, -, -⟩ | ⟨h1, -, -⟩
    · exact absurd h1 (by decide)
    · subst h2
      rw [fmtB_num, fmtB_num] at he
      exact ⟨rfl, itoa_inj (by simpa using he), rfl⟩
    all_goals exact absurd h1 (by decide)
  · rcases validB_cases h' with ⟨h1, -, -⟩ | ⟨h1, -⟩ | ⟨-, hn', h2⟩ | ⟨h1, -, -⟩
    · exact absurd h1 (by decide)
    · exact absurd h1 (by decide)
    · subst h2
      rw [fmtB_truth n hn, fmtB_truth n' hn'] at he
      refine ⟨rfl, ?_, rfl⟩
      by_cases a : n = 1 <;> by_cases b : n' = 1 <;> simp [a, b] at he <;> omega
    · exact absurd h1 (by decide)
  · rcases validB_cases h' with ⟨h1, -, -⟩ | ⟨h1, -⟩ | ⟨h1, -, -⟩ | ⟨-, h2, ht'⟩
    · exact absurd h1 (by decide)
    · exact absurd h1 (by decide)
    · exact absurd h1 (by decide)
    · subst h2
      rw [fmtB_text s ht, fmtB_text s' ht'] at he
      exact ⟨rfl, rfl, quoteB_inj he⟩
end Go.Proofs.YtaajaeidiholmaaDoor
