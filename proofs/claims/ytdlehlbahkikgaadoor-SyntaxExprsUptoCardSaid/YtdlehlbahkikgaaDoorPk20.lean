/-
  Several texts in one.
-/
import Derived.Test.YtdlehlbahkikgaaDoorPk19
import Derived.Test.YtdlehlbahkikgaaDoorPk06
import Derived.Test.YtdlehlbahkikgaaDoorPk18
/-
  ValidExpr of reference 11, the kinds from 3 on.
-/
namespace Go.Proofs.YtdlehlbahkikgaaDoor
set_option maxRecDepth 100000
open Go.RowKit
variable {ls : List Nat}

/-- What the loop over the queries tests. -/
def quT (V : Ex → Bool) (k : Int) (q : Qu) : Bool := (q.st == decide (k = 8)) && srcB q.fr && q.items.all V && q.wh.all V
theorem qall_hit {V : Qu → Bool} {l : List Qu} {k : Nat} (hk : k < l.length) (h : V (qAt l k) = false) : l.all V = false := by
  rw [Bool.eq_false_iff]
  intro hh
  have := List.all_eq_true.1 hh _ (qAt_mem hk)
  rw [h] at this; cases this
theorem qall_none {V : Qu → Bool} {l : List Qu} (h : ∀ j, j < l.length → V (qAt l j) = true) : l.all V = true := by
  rw [List.all_eq_true]
  intro e he
  obtain ⟨i, hi, rfl⟩ := List.getElem_of_mem he
  have := h i hi
  unfold qAt at this
  rwa [List.getD, List.getElem?_eq_getElem hi] at this
theorem quT_quB {V : Ex → Bool} {e : Ex} (hs : shapeB e = true) : e.sub.all (quT V e.k) = e.sub.all (quB V e.k) := by
  unfold shapeB at hs
  simp only [Bool.and_eq_true, decide_eq_true_eq] at hs
  obtain ⟨⟨⟨⟨h1, h2⟩, h3⟩, h4⟩, h5⟩ := hs
  by_cases h8 : 8 ≤ e.k
  · rw [if_pos h8] at h5
    simp only [Bool.and_eq_true, decide_eq_true_eq] at h5
    rw [show subN e.k = 1 from if_pos ⟨h8, h1.2⟩] at h3
    match hl : e.sub, h3, h5 with
    | [q], _, h5 =>
      have h5' : q.items.length = itemN e.k ∧ q.wh.length ≤ 1 := h5
      unfold quT quB
      simp [h5'.1, h5'.2]
  · rw [show subN e.k = 0 from if_neg (by omega)] at h3
    rw [List.eq_nil_of_length_eq_zero h3]
    rfl
set_option maxHeartbeats 4000000 in
theorem rvalid_rest_a {d : Nat} (H : RValDoes d) {N : Nat → Prop} (e : Ex) (w : World) (hA : ExIn N w (ExAt N w d) e) (hs : shapeB e = true) (h1 : e.k ≠ 1) (h2 : e.k ≠ 2) (hk : e.k = 5) (hn : e.no = false) :
    Calls Tryd.prog 24 #[exV e] w fun r w' => r = .returned (.bool (plainB e && e.args.all (vE d) && e.sub.all (quT (vE d) e.k))) ∧ Below w.heap.size w w' := by
  have hQ := hA.sub
  have HS := Lib.hid fun u (hb : Below w.heap.size w u) => rshape e u (hQ.low hb)
  have HQ := Lib.hid hQ
  have HPL := Lib.hid (rplain e)
  have HAL := Lib.hid fun u (hb : Below w.heap.size w u) => rall_any H e.pa e.args e.ca u (hA.args.low hb) hA.lena
  have HRA := Lib.hid (@rall_any d H N)
  have HH := Lib.hid (fun k hk h => qall_hit (V := quT (vE d) e.k) (l := e.sub) (k := k) hk h)
  have HNN := Lib.hid (fun h => qall_none (V := quT (vE d) e.k) (l := e.sub) h)
  have hlen := hA.lens
  clear hQ hA
  rw [hs] at HS
  clear hs
  obtain ⟨b8, hb8, HQL⟩ : ∃ b, (e.k == 8) = b ∧ Hid (∀ q : Qu, quT (vE d) e.k q = ((q.st == b) && srcB q.fr && q.items.all (vE d) && q.wh.all (vE d))) := ⟨_, rfl, Lib.hid fun q => by unfold quT; rw [show decide (e.k = 8) = (e.k == 8) from by rw [Bool.eq_iff_iff]; simp]⟩
  generalize quT (vE d) e.k = V at *
  generalize e.sub.all V = res at *
  generalize plainB e = bp at *
  generalize e.args.all (vE d) = ba at *
  generalize hns : e.sub.length = ns at *
  have HNS := Lib.hid hns
  clear hns
  obtain ⟨k, op, no, vk, vi, vt, tb, nm, pa, ca, args, ps, cs, sub⟩ := e
  unfold exV at *
  simp only [Ex.mk_k, Ex.mk_op, Ex.mk_no, Ex.mk_vk, Ex.mk_vi, Ex.mk_vt, Ex.mk_tb, Ex.mk_nm, Ex.mk_pa, Ex.mk_ca, Ex.mk_args, Ex.mk_ps, Ex.mk_cs, Ex.mk_sub] at *
  have hns : sub.length = ns := HNS.out
  rw [hns] at HS HPL ⊢
  clear hns
  have b1 : (k == 1) = false := beq_eq_false_iff_ne.2 h1
  have b2 : (k == 2) = false := beq_eq_false_iff_ne.2 h2
  clear h1 h2
  subst hk hn
  have b5 : ((5 : Int) == 5) = true := rfl
  have b5' : ((5 : Int) != 5) = false := rfl
  have b6 : ((5 : Int) == 6) = false := rfl
  have b6' : ((5 : Int) != 6) = true := rfl
  go_enter Tryd.func24, Tryd.ntmps24
  go_wp2_with fail
  refine (HS.out _ (below_alloc _ _)).mono ?_
  rintro e w' ⟨rfl, hb⟩
  have hbx := ExB.new w (Ex.mk 5 op false vk vi vt tb nm pa ca args ps cs sub) 30
  simp only [Ex.mk_k, Ex.mk_op, Ex.mk_no, Ex.mk_vk, Ex.mk_vi, Ex.mk_vt, Ex.mk_tb, Ex.mk_nm, Ex.mk_pa, Ex.mk_ca, Ex.mk_args, Ex.mk_ps, Ex.mk_cs, Ex.mk_sub] at hbx
  rw [HNS.out] at hbx
  have HXB := Lib.hid (hbx.low hb)
  have HB := Lib.hid (Below.of_alloc hb)
  clear hb hbx
  obtain ⟨xl, x0, x1, x2, x3, x4, x5, x6, x7, x8, x9, -⟩ := HXB.out
  simp only [Ex.mk_k, Ex.mk_op, Ex.mk_no, Ex.mk_vk, Ex.mk_vi, Ex.mk_vt, Ex.mk_tb, Ex.mk_nm, Ex.mk_pa, Ex.mk_ca, Ex.mk_args, Ex.mk_ps, Ex.mk_cs, Ex.mk_sub] at x0 x1 x2 x3 x4 x5 x6 x7 x8 x9
  rw [HNS.out] at x9
  go_wp2_with fail
  refine (HPL.out _).mono ?_
  rintro e w2 ⟨rfl, hb2⟩
  have HB2 := Lib.hid (below_next HB.out hb2)
  have HX2 := Lib.hid (HXB.out.low hb2)
  clear hb2 xl x0 x1 x2 x3 x4 x5 x6 x7 x8 x9
  obtain ⟨xl, x0, x1, x2, x3, x4, x5, x6, x7, x8, x9, -⟩ := HX2.out
  simp only [Ex.mk_k, Ex.mk_op, Ex.mk_no, Ex.mk_vk, Ex.mk_vi, Ex.mk_vt, Ex.mk_tb, Ex.mk_nm, Ex.mk_pa, Ex.mk_ca, Ex.mk_args, Ex.mk_ps, Ex.mk_cs, Ex.mk_sub] at x0 x1 x2 x3 x4 x5 x6 x7 x8 x9
  rw [HNS.out] at x9
  cases bp
  · go_wp2
    go_ret
    exact ⟨rfl, HB2.out⟩
  go_wp2_with fail
  refine (HAL.out _ HB2.out).mono ?_
  rintro e w3 ⟨rfl, hb3⟩
  have HB3 := Lib.hid (below_next HB2.out hb3)
  have HX3 := Lib.hid (HX2.out.low hb3)
  clear hb3 xl x0 x1 x2 x3 x4 x5 x6 x7 x8 x9
  obtain ⟨xl, x0, x1, x2, x3, x4, x5, x6, x7, x8, x9, -⟩ := HX3.out
  simp only [Ex.mk_k, Ex.mk_op, Ex.mk_no, Ex.mk_vk, Ex.mk_vi, Ex.mk_vt, Ex.mk_tb, Ex.mk_nm, Ex.mk_pa, Ex.mk_ca, Ex.mk_args, Ex.mk_ps, Ex.mk_cs, Ex.mk_sub] at x0 x1 x2 x3 x4 x5 x6 x7 x8 x9
  rw [HNS.out] at x9
  cases ba
  · go_wp2
    go_ret
    exact ⟨rfl, HB3.out⟩
  go_wp2_with fail
  clear xl x0 x1 x2 x3 x4 x5 x6 x7 x8 x9
  go_loopw [101] (fun i v => ∃ j : Nat, j ≤ ns ∧ i = .int .i64 j ∧ (∀ t, t < j → V (qAt sub t) = true) ∧ Below w3.heap.size w3 v) (fun i _ => ns - (intOf i).toNat)
  case atStart => exact ⟨0, Nat.zero_le _, rfl, fun t ht => by omega, Below.refl _ _⟩
  case round =>
    obtain ⟨j, hj, rfl, ha, hb⟩ := hrel
    have HL := Lib.hid hb
    have HAK := Lib.hid ha
    clear hb ha
    by_cases hlt : j < ns
    · have hlt' : decide ((j : Int) < ns) = true := decide_eq_true (by omega)
      have hjl : j < sub.length := by rw [HNS.out]; exact hlt
      obtain ⟨g, o, rfl, hg, hN, hC, hX⟩ := (HQ.out.low HB3.out).low HL.out j hjl
      have HX := Lib.hid hX
      have HHK := Lib.hid (HH.out j hlt)
      have HVQ := Lib.hid (HQL.out (qAt sub j))
      clear hX
      obtain ⟨c0, c1', c2', c3⟩ := hC
      generalize hxe : qAt sub j = x at *
      have HXE := Lib.hid hxe
      clear hxe
      obtain ⟨st, pi, ci, items, fr, pw, cw, wh⟩ := x
      simp only at c0 c1' c2' c3 HVQ
      go_upto_region 14 with (fail)
      have hal := below_alloc wr (.cells #[.bool st, .slice pi items.length ci, .string fr, .slice pw wh.length cw] 34)
      have HL2 := Lib.hid (below_next HL.out hal)
      have hyx := QuBx.new wr ⟨st, pi, ci, items, fr, pw, cw, wh⟩ 34
      have hxx := (HX3.out.low HL.out).low hal
      have HXI := Lib.hid (HX.out.low hal)
      clear c0 c1' c2' c3 hal
      simp only at hyx
      generalize wr.alloc (.cells #[.bool st, .slice pi items.length ci, .string fr, .slice pw wh.length cw] 34) = W2 at *
      generalize wr.heap.size = Y at *
      have l0 := hxx.c0
      have HY := Lib.hid hyx
      obtain ⟨yl, m0, m1, m2, m3, -⟩ := hyx
      simp only [Ex.mk_k] at l0
      simp only at m0 m1 m2 m3
      clear hxx
      have HC1 := Lib.hid (rsource_any fr HXI.out.size)
      have HC2 := Lib.hid (fun u (hb : Below W2.heap.size W2 u) => HRA.out pi items ci u (HXI.out.items.low hb) HXI.out.leni)
      have HC3 := Lib.hid (fun u (hb : Below W2.heap.size W2 u) => HRA.out pw wh cw u (HXI.out.wh.low hb) HXI.out.lenw)
      generalize srcB fr = s at *
      generalize items.all (vE d) = ai at *
      generalize wh.all (vE d) = aw at *
      have hcase : (¬ st = b8) ∨ (st = b8 ∧ s = false) ∨ (st = b8 ∧ s = true ∧ ai = false) ∨ (st = b8 ∧ s = true ∧ ai = true ∧ aw = false) ∨ (st = b8 ∧ s = true ∧ ai = true ∧ aw = true) := by
        cases st <;> cases b8 <;> cases s <;> cases ai <;> cases aw <;> simp
      rcases hcase with hne | ⟨rfl, rfl⟩ | ⟨rfl, rfl, rfl⟩ | ⟨rfl, rfl, rfl, rfl⟩ | ⟨rfl, rfl, rfl, rfl⟩
      · skip
        have HV := Lib.hid (HHK.out (by rw [HVQ.out]; simp [hne]))
        go_wp2
        go_ret
        exact ⟨ret_bool (by rw [HV.out]; simp), below_next HB3.out (below_next HL2.out (Below.refl W2.heap.size W2))⟩
      · skip
        have HV := Lib.hid (HHK.out (by rw [HVQ.out]; simp))
        go_wp2_with fail
        refine (HC1.out _).mono ?_
        rintro e v1 ⟨rfl, hbv⟩
        have HLW1 := Lib.hid (below_next (Below.refl W2.heap.size W2) hbv)
        have HY1 := Lib.hid (HY.out.low hbv)
        clear hbv yl m0 m1 m2 m3
        obtain ⟨yl, m0, m1, m2, m3, -⟩ := HY1.out
        simp only at m0 m1 m2 m3
        go_wp2
        go_ret
        exact ⟨ret_bool (by rw [HV.out]; simp), below_next HB3.out (below_next HL2.out HLW1.out)⟩
      · skip
        have HV := Lib.hid (HHK.out (by rw [HVQ.out]; simp))
        go_wp2_with fail
        refine (HC1.out _).mono ?_
        rintro e v1 ⟨rfl, hbv⟩
        have HLW1 := Lib.hid (below_next (Below.refl W2.heap.size W2) hbv)
        have HY1 := Lib.hid (HY.out.low hbv)
        clear hbv yl m0 m1 m2 m3
        obtain ⟨yl, m0, m1, m2, m3, -⟩ := HY1.out
        simp only at m0 m1 m2 m3
        go_wp2_with fail
        refine (HC2.out _ HLW1.out).mono ?_
        rintro e v2 ⟨rfl, hbv⟩
        have HLW2 := Lib.hid (below_next HLW1.out hbv)
        have HY2 := Lib.hid (HY1.out.low hbv)
        clear hbv yl m0 m1 m2 m3
        obtain ⟨yl, m0, m1, m2, m3, -⟩ := HY2.out
        simp only at m0 m1 m2 m3
        go_wp2
        go_ret
        exact ⟨ret_bool (by rw [HV.out]; simp), below_next HB3.out (below_next HL2.out HLW2.out)⟩
      · skip
        have HV := Lib.hid (HHK.out (by rw [HVQ.out]; simp))
        go_wp2_with fail
        refine (HC1.out _).mono ?_
        rintro e v1 ⟨rfl, hbv⟩
        have HLW1 := Lib.hid (below_next (Below.refl W2.heap.size W2) hbv)
        have HY1 := Lib.hid (HY.out.low hbv)
        clear hbv yl m0 m1 m2 m3
        obtain ⟨yl, m0, m1, m2, m3, -⟩ := HY1.out
        simp only at m0 m1 m2 m3
        go_wp2_with fail
        refine (HC2.out _ HLW1.out).mono ?_
        rintro e v2 ⟨rfl, hbv⟩
        have HLW2 := Lib.hid (below_next HLW1.out hbv)
        have HY2 := Lib.hid (HY1.out.low hbv)
        clear hbv yl m0 m1 m2 m3
        obtain ⟨yl, m0, m1, m2, m3, -⟩ := HY2.out
        simp only at m0 m1 m2 m3
        go_wp2_with fail
        refine (HC3.out _ HLW2.out).mono ?_
        rintro e v3 ⟨rfl, hbv⟩
        have HLW3 := Lib.hid (below_next HLW2.out hbv)
        have HY3 := Lib.hid (HY2.out.low hbv)
        clear hbv yl m0 m1 m2 m3
        obtain ⟨yl, m0, m1, m2, m3, -⟩ := HY3.out
        simp only at m0 m1 m2 m3
        go_wp2
        go_ret
        exact ⟨ret_bool (by rw [HV.out]; simp), below_next HB3.out (below_next HL2.out HLW3.out)⟩
      · skip
        go_wp2_with fail
        refine (HC1.out _).mono ?_
        rintro e v1 ⟨rfl, hbv⟩
        have HLW1 := Lib.hid (below_next (Below.refl W2.heap.size W2) hbv)
        have HY1 := Lib.hid (HY.out.low hbv)
        clear hbv yl m0 m1 m2 m3
        obtain ⟨yl, m0, m1, m2, m3, -⟩ := HY1.out
        simp only at m0 m1 m2 m3
        go_wp2_with fail
        refine (HC2.out _ HLW1.out).mono ?_
        rintro e v2 ⟨rfl, hbv⟩
        have HLW2 := Lib.hid (below_next HLW1.out hbv)
        have HY2 := Lib.hid (HY1.out.low hbv)
        clear hbv yl m0 m1 m2 m3
        obtain ⟨yl, m0, m1, m2, m3, -⟩ := HY2.out
        simp only at m0 m1 m2 m3
        go_wp2_with fail
        refine (HC3.out _ HLW2.out).mono ?_
        rintro e v3 ⟨rfl, hbv⟩
        have HLW3 := Lib.hid (below_next HLW2.out hbv)
        have HY3 := Lib.hid (HY2.out.low hbv)
        clear hbv yl m0 m1 m2 m3
        obtain ⟨yl, m0, m1, m2, m3, -⟩ := HY3.out
        simp only at m0 m1 m2 m3
        go_wp2
        go_roundw
        case rel => exact ⟨j + 1, by omega, by go_num, (fun t ht => by
          by_cases htj : t = j
          · rw [htj, HXE.out, HVQ.out]; simp
          · exact HAK.out t (by omega)), below_next HL2.out HLW3.out⟩
        case measure => simp [intOf]; omega
    · have hlt' : decide ((j : Int) < ns) = false := decide_eq_false (by omega)
      obtain rfl : j = ns := by omega
      have HV := Lib.hid (HNN.out HAK.out)
      go_wp2
      go_ret
      exact ⟨ret_bool (by rw [HV.out]; rfl), below_next HB3.out HL.out⟩
set_option maxHeartbeats 4000000 in
theorem rvalid_rest_b {d : Nat} (H : RValDoes d) {N : Nat → Prop} (e : Ex) (w : World) (hA : ExIn N w (ExAt N w d) e) (hs : shapeB e = true) (h1 : e.k ≠ 1) (h2 : e.k ≠ 2) (hk : e.k = 6) (ho : e.op = 0) :
    Calls Tryd.prog 24 #[exV e] w fun r w' => r = .returned (.bool (plainB e && e.args.all (vE d) && e.sub.all (quT (vE d) e.k))) ∧ Below w.heap.size w w' := by
  have hQ := hA.sub
  have HS := Lib.hid fun u (hb : Below w.heap.size w u) => rshape e u (hQ.low hb)
  have HQ := Lib.hid hQ
  have HPL := Lib.hid (rplain e)
  have HAL := Lib.hid fun u (hb : Below w.heap.size w u) => rall_any H e.pa e.args e.ca u (hA.args.low hb) hA.lena
  have HRA := Lib.hid (@rall_any d H N)
  have HH := Lib.hid (fun k hk h => qall_hit (V := quT (vE d) e.k) (l := e.sub) (k := k) hk h)
  have HNN := Lib.hid (fun h => qall_none (V := quT (vE d) e.k) (l := e.sub) h)
  have hlen := hA.lens
  clear hQ hA
  rw [hs] at HS
  clear hs
  obtain ⟨b8, hb8, HQL⟩ : ∃ b, (e.k == 8) = b ∧ Hid (∀ q : Qu, quT (vE d) e.k q = ((q.st == b) && srcB q.fr && q.items.all (vE d) && q.wh.all (vE d))) := ⟨_, rfl, Lib.hid fun q => by unfold quT; rw [show decide (e.k = 8) = (e.k == 8) from by rw [Bool.eq_iff_iff]; simp]⟩
  generalize quT (vE d) e.k = V at *
  generalize e.sub.all V = res at *
  generalize plainB e = bp at *
  generalize e.args.all (vE d) = ba at *
  generalize hns : e.sub.length = ns at *
  have HNS := Lib.hid hns
  clear hns
  obtain ⟨k, op, no, vk, vi, vt, tb, nm, pa, ca, args, ps, cs, sub⟩ := e
  unfold exV at *
  simp only [Ex.mk_k, Ex.mk_op, Ex.mk_no, Ex.mk_vk, Ex.mk_vi, Ex.mk_vt, Ex.mk_tb, Ex.mk_nm, Ex.mk_pa, Ex.mk_ca, Ex.mk_args, Ex.mk_ps, Ex.mk_cs, Ex.mk_sub] at *
  have hns : sub.length = ns := HNS.out
  rw [hns] at HS HPL ⊢
  clear hns
  have b1 : (k == 1) = false := beq_eq_false_iff_ne.2 h1
  have b2 : (k == 2) = false := beq_eq_false_iff_ne.2 h2
  clear h1 h2
  subst hk ho
  have b5 : ((6 : Int) == 5) = false := rfl
  have b5' : ((6 : Int) != 5) = true := rfl
  have b6 : ((6 : Int) == 6) = true := rfl
  have b6' : ((6 : Int) != 6) = false := rfl
  go_enter Tryd.func24, Tryd.ntmps24
  go_wp2_with fail
  refine (HS.out _ (below_alloc _ _)).mono ?_
  rintro e w' ⟨rfl, hb⟩
  have hbx := ExB.new w (Ex.mk 6 0 no vk vi vt tb nm pa ca args ps cs sub) 30
  simp only [Ex.mk_k, Ex.mk_op, Ex.mk_no, Ex.mk_vk, Ex.mk_vi, Ex.mk_vt, Ex.mk_tb, Ex.mk_nm, Ex.mk_pa, Ex.mk_ca, Ex.mk_args, Ex.mk_ps, Ex.mk_cs, Ex.mk_sub] at hbx
  rw [HNS.out] at hbx
  have HXB := Lib.hid (hbx.low hb)
  have HB := Lib.hid (Below.of_alloc hb)
  clear hb hbx
  obtain ⟨xl, x0, x1, x2, x3, x4, x5, x6, x7, x8, x9, -⟩ := HXB.out
  simp only [Ex.mk_k, Ex.mk_op, Ex.mk_no, Ex.mk_vk, Ex.mk_vi, Ex.mk_vt, Ex.mk_tb, Ex.mk_nm, Ex.mk_pa, Ex.mk_ca, Ex.mk_args, Ex.mk_ps, Ex.mk_cs, Ex.mk_sub] at x0 x1 x2 x3 x4 x5 x6 x7 x8 x9
  rw [HNS.out] at x9
  go_wp2_with fail
  refine (HPL.out _).mono ?_
  rintro e w2 ⟨rfl, hb2⟩
  have HB2 := Lib.hid (below_next HB.out hb2)
  have HX2 := Lib.hid (HXB.out.low hb2)
  clear hb2 xl x0 x1 x2 x3 x4 x5 x6 x7 x8 x9
  obtain ⟨xl, x0, x1, x2, x3, x4, x5, x6, x7, x8, x9, -⟩ := HX2.out
  simp only [Ex.mk_k, Ex.mk_op, Ex.mk_no, Ex.mk_vk, Ex.mk_vi, Ex.mk_vt, Ex.mk_tb, Ex.mk_nm, Ex.mk_pa, Ex.mk_ca, Ex.mk_args, Ex.mk_ps, Ex.mk_cs, Ex.mk_sub] at x0 x1 x2 x3 x4 x5 x6 x7 x8 x9
  rw [HNS.out] at x9
  cases bp
  · go_wp2
    go_ret
    exact ⟨rfl, HB2.out⟩
  go_wp2_with fail
  refine (HAL.out _ HB2.out).mono ?_
  rintro e w3 ⟨rfl, hb3⟩
  have HB3 := Lib.hid (below_next HB2.out hb3)
  have HX3 := Lib.hid (HX2.out.low hb3)
  clear hb3 xl x0 x1 x2 x3 x4 x5 x6 x7 x8 x9
  obtain ⟨xl, x0, x1, x2, x3, x4, x5, x6, x7, x8, x9, -⟩ := HX3.out
  simp only [Ex.mk_k, Ex.mk_op, Ex.mk_no, Ex.mk_vk, Ex.mk_vi, Ex.mk_vt, Ex.mk_tb, Ex.mk_nm, Ex.mk_pa, Ex.mk_ca, Ex.mk_args, Ex.mk_ps, Ex.mk_cs, Ex.mk_sub] at x0 x1 x2 x3 x4 x5 x6 x7 x8 x9
  rw [HNS.out] at x9
  cases ba
  · go_wp2
    go_ret
    exact ⟨rfl, HB3.out⟩
  go_wp2_with fail
  clear xl x0 x1 x2 x3 x4 x5 x6 x7 x8 x9
  go_loopw [101] (fun i v => ∃ j : Nat, j ≤ ns ∧ i = .int .i64 j ∧ (∀ t, t < j → V (qAt sub t) = true) ∧ Below w3.heap.size w3 v) (fun i _ => ns - (intOf i).toNat)
  case atStart => exact ⟨0, Nat.zero_le _, rfl, fun t ht => by omega, Below.refl _ _⟩
  case round =>
    obtain ⟨j, hj, rfl, ha, hb⟩ := hrel
    have HL := Lib.hid hb
    have HAK := Lib.hid ha
    clear hb ha
    by_cases hlt : j < ns
    · have hlt' : decide ((j : Int) < ns) = true := decide_eq_true (by omega)
      have hjl : j < sub.length := by rw [HNS.out]; exact hlt
      obtain ⟨g, o, rfl, hg, hN, hC, hX⟩ := (HQ.out.low HB3.out).low HL.out j hjl
      have HX := Lib.hid hX
      have HHK := Lib.hid (HH.out j hlt)
      have HVQ := Lib.hid (HQL.out (qAt sub j))
      clear hX
      obtain ⟨c0, c1', c2', c3⟩ := hC
      generalize hxe : qAt sub j = x at *
      have HXE := Lib.hid hxe
      clear hxe
      obtain ⟨st, pi, ci, items, fr, pw, cw, wh⟩ := x
      simp only at c0 c1' c2' c3 HVQ
      go_upto_region 14 with (fail)
      have hal := below_alloc wr (.cells #[.bool st, .slice pi items.length ci, .string fr, .slice pw wh.length cw] 34)
      have HL2 := Lib.hid (below_next HL.out hal)
      have hyx := QuBx.new wr ⟨st, pi, ci, items, fr, pw, cw, wh⟩ 34
      have hxx := (HX3.out.low HL.out).low hal
      have HXI := Lib.hid (HX.out.low hal)
      clear c0 c1' c2' c3 hal
      simp only at hyx
      generalize wr.alloc (.cells #[.bool st, .slice pi items.length ci, .string fr, .slice pw wh.length cw] 34) = W2 at *
      generalize wr.heap.size = Y at *
      have l0 := hxx.c0
      have HY := Lib.hid hyx
      obtain ⟨yl, m0, m1, m2, m3, -⟩ := hyx
      simp only [Ex.mk_k] at l0
      simp only at m0 m1 m2 m3
      clear hxx
      have HC1 := Lib.hid (rsource_any fr HXI.out.size)
      have HC2 := Lib.hid (fun u (hb : Below W2.heap.size W2 u) => HRA.out pi items ci u (HXI.out.items.low hb) HXI.out.leni)
      have HC3 := Lib.hid (fun u (hb : Below W2.heap.size W2 u) => HRA.out pw wh cw u (HXI.out.wh.low hb) HXI.out.lenw)
      generalize srcB fr = s at *
      generalize items.all (vE d) = ai at *
      generalize wh.all (vE d) = aw at *
      have hcase : (¬ st = b8) ∨ (st = b8 ∧ s = false) ∨ (st = b8 ∧ s = true ∧ ai = false) ∨ (st = b8 ∧ s = true ∧ ai = true ∧ aw = false) ∨ (st = b8 ∧ s = true ∧ ai = true ∧ aw = true) := by
        cases st <;> cases b8 <;> cases s <;> cases ai <;> cases aw <;> simp
      rcases hcase with hne | ⟨rfl, rfl⟩ | ⟨rfl, rfl, rfl⟩ | ⟨rfl, rfl, rfl, rfl⟩ | ⟨rfl, rfl, rfl, rfl⟩
      · skip
        have HV := Lib.hid (HHK.out (by rw [HVQ.out]; simp [hne]))
        go_wp2
        go_ret
        exact ⟨ret_bool (by rw [HV.out]; simp), below_next HB3.out (below_next HL2.out (Below.refl W2.heap.size W2))⟩
      · skip
        have HV := Lib.hid (HHK.out (by rw [HVQ.out]; simp))
        go_wp2_with fail
        refine (HC1.out _).mono ?_
        rintro e v1 ⟨rfl, hbv⟩
        have HLW1 := Lib.hid (below_next (Below.refl W2.heap.size W2) hbv)
        have HY1 := Lib.hid (HY.out.low hbv)
        clear hbv yl m0 m1 m2 m3
        obtain ⟨yl, m0, m1, m2, m3, -⟩ := HY1.out
        simp only at m0 m1 m2 m3
        go_wp2
        go_ret
        exact ⟨ret_bool (by rw [HV.out]; simp), below_next HB3.out (below_next HL2.out HLW1.out)⟩
      · skip
        have HV := Lib.hid (HHK.out (by rw [HVQ.out]; simp))
        go_wp2_with fail
        refine (HC1.out _).mono ?_
        rintro e v1 ⟨rfl, hbv⟩
        have HLW1 := Lib.hid (below_next (Below.refl W2.heap.size W2) hbv)
        have HY1 := Lib.hid (HY.out.low hbv)
        clear hbv yl m0 m1 m2 m3
        obtain ⟨yl, m0, m1, m2, m3, -⟩ := HY1.out
        simp only at m0 m1 m2 m3
        go_wp2_with fail
        refine (HC2.out _ HLW1.out).mono ?_
        rintro e v2 ⟨rfl, hbv⟩
        have HLW2 := Lib.hid (below_next HLW1.out hbv)
        have HY2 := Lib.hid (HY1.out.low hbv)
        clear hbv yl m0 m1 m2 m3
        obtain ⟨yl, m0, m1, m2, m3, -⟩ := HY2.out
        simp only at m0 m1 m2 m3
        go_wp2
        go_ret
        exact ⟨ret_bool (by rw [HV.out]; simp), below_next HB3.out (below_next HL2.out HLW2.out)⟩
      · skip
        have HV := Lib.hid (HHK.out (by rw [HVQ.out]; simp))
        go_wp2_with fail
        refine (HC1.out _).mono ?_
        rintro e v1 ⟨rfl, hbv⟩
        have HLW1 := Lib.hid (below_next (Below.refl W2.heap.size W2) hbv)
        have HY1 := Lib.hid (HY.out.low hbv)
        clear hbv yl m0 m1 m2 m3
        obtain ⟨yl, m0, m1, m2, m3, -⟩ := HY1.out
        simp only at m0 m1 m2 m3
        go_wp2_with fail
        refine (HC2.out _ HLW1.out).mono ?_
        rintro e v2 ⟨rfl, hbv⟩
        have HLW2 := Lib.hid (below_next HLW1.out hbv)
        have HY2 := Lib.hid (HY1.out.low hbv)
        clear hbv yl m0 m1 m2 m3
        obtain ⟨yl, m0, m1, m2, m3, -⟩ := HY2.out
        simp only at m0 m1 m2 m3
        go_wp2_with fail
        refine (HC3.out _ HLW2.out).mono ?_
        rintro e v3 ⟨rfl, hbv⟩
        have HLW3 := Lib.hid (below_next HLW2.out hbv)
        have HY3 := Lib.hid (HY2.out.low hbv)
        clear hbv yl m0 m1 m2 m3
        obtain ⟨yl, m0, m1, m2, m3, -⟩ := HY3.out
        simp only at m0 m1 m2 m3
        go_wp2
        go_ret
        exact ⟨ret_bool (by rw [HV.out]; simp), below_next HB3.out (below_next HL2.out HLW3.out)⟩
      · skip
        go_wp2_with fail
        refine (HC1.out _).mono ?_
        rintro e v1 ⟨rfl, hbv⟩
        have HLW1 := Lib.hid (below_next (Below.refl W2.heap.size W2) hbv)
        have HY1 := Lib.hid (HY.out.low hbv)
        clear hbv yl m0 m1 m2 m3
        obtain ⟨yl, m0, m1, m2, m3, -⟩ := HY1.out
        simp only at m0 m1 m2 m3
        go_wp2_with fail
        refine (HC2.out _ HLW1.out).mono ?_
        rintro e v2 ⟨rfl, hbv⟩
        have HLW2 := Lib.hid (below_next HLW1.out hbv)
        have HY2 := Lib.hid (HY1.out.low hbv)
        clear hbv yl m0 m1 m2 m3
        obtain ⟨yl, m0, m1, m2, m3, -⟩ := HY2.out
        simp only at m0 m1 m2 m3
        go_wp2_with fail
        refine (HC3.out _ HLW2.out).mono ?_
        rintro e v3 ⟨rfl, hbv⟩
        have HLW3 := Lib.hid (below_next HLW2.out hbv)
        have HY3 := Lib.hid (HY2.out.low hbv)
        clear hbv yl m0 m1 m2 m3
        obtain ⟨yl, m0, m1, m2, m3, -⟩ := HY3.out
        simp only at m0 m1 m2 m3
        go_wp2
        go_roundw
        case rel => exact ⟨j + 1, by omega, by go_num, (fun t ht => by
          by_cases htj : t = j
          · rw [htj, HXE.out, HVQ.out]; simp
          · exact HAK.out t (by omega)), below_next HL2.out HLW3.out⟩
        case measure => simp [intOf]; omega
    · have hlt' : decide ((j : Int) < ns) = false := decide_eq_false (by omega)
      obtain rfl : j = ns := by omega
      have HV := Lib.hid (HNN.out HAK.out)
      go_wp2
      go_ret
      exact ⟨ret_bool (by rw [HV.out]; rfl), below_next HB3.out HL.out⟩
set_option maxHeartbeats 4000000 in
theorem rvalid_rest_c {d : Nat} (H : RValDoes d) {N : Nat → Prop} (e : Ex) (w : World) (hA : ExIn N w (ExAt N w d) e) (hs : shapeB e = true) (h1 : e.k ≠ 1) (h2 : e.k ≠ 2) (h5 : e.k ≠ 5) (h6 : e.k ≠ 6) (ho : e.op = 0) (hn : e.no = false) :
    Calls Tryd.prog 24 #[exV e] w fun r w' => r = .returned (.bool (plainB e && e.args.all (vE d) && e.sub.all (quT (vE d) e.k))) ∧ Below w.heap.size w w' := by
  have hQ := hA.sub
  have HS := Lib.hid fun u (hb : Below w.heap.size w u) => rshape e u (hQ.low hb)
  have HQ := Lib.hid hQ
  have HPL := Lib.hid (rplain e)
  have HAL := Lib.hid fun u (hb : Below w.heap.size w u) => rall_any H e.pa e.args e.ca u (hA.args.low hb) hA.lena
  have HRA := Lib.hid (@rall_any d H N)
  have HH := Lib.hid (fun k hk h => qall_hit (V := quT (vE d) e.k) (l := e.sub) (k := k) hk h)
  have HNN := Lib.hid (fun h => qall_none (V := quT (vE d) e.k) (l := e.sub) h)
  have hlen := hA.lens
  clear hQ hA
  rw [hs] at HS
  clear hs
  obtain ⟨b8, hb8, HQL⟩ : ∃ b, (e.k == 8) = b ∧ Hid (∀ q : Qu, quT (vE d) e.k q = ((q.st == b) && srcB q.fr && q.items.all (vE d) && q.wh.all (vE d))) := ⟨_, rfl, Lib.hid fun q => by unfold quT; rw [show decide (e.k = 8) = (e.k == 8) from by rw [Bool.eq_iff_iff]; simp]⟩
  generalize quT (vE d) e.k = V at *
  generalize e.sub.all V = res at *
  generalize plainB e = bp at *
  generalize e.args.all (vE d) = ba at *
  generalize hns : e.sub.length = ns at *
  have HNS := Lib.hid hns
  clear hns
  obtain ⟨k, op, no, vk, vi, vt, tb, nm, pa, ca, args, ps, cs, sub⟩ := e
  unfold exV at *
  simp only [Ex.mk_k, Ex.mk_op, Ex.mk_no, Ex.mk_vk, Ex.mk_vi, Ex.mk_vt, Ex.mk_tb, Ex.mk_nm, Ex.mk_pa, Ex.mk_ca, Ex.mk_args, Ex.mk_ps, Ex.mk_cs, Ex.mk_sub] at *
  have hns : sub.length = ns := HNS.out
  rw [hns] at HS HPL ⊢
  clear hns
  have b1 : (k == 1) = false := beq_eq_false_iff_ne.2 h1
  have b2 : (k == 2) = false := beq_eq_false_iff_ne.2 h2
  clear h1 h2
  subst ho hn
  have b5 : (k == 5) = false := beq_eq_false_iff_ne.2 h5
  have b5' : (k != 5) = true := by rw [bne, b5]; rfl
  have b6 : (k == 6) = false := beq_eq_false_iff_ne.2 h6
  have b6' : (k != 6) = true := by rw [bne, b6]; rfl
  clear h5 h6
  go_enter Tryd.func24, Tryd.ntmps24
  go_wp2_with fail
  refine (HS.out _ (below_alloc _ _)).mono ?_
  rintro e w' ⟨rfl, hb⟩
  have hbx := ExB.new w (Ex.mk k 0 false vk vi vt tb nm pa ca args ps cs sub) 30
  simp only [Ex.mk_k, Ex.mk_op, Ex.mk_no, Ex.mk_vk, Ex.mk_vi, Ex.mk_vt, Ex.mk_tb, Ex.mk_nm, Ex.mk_pa, Ex.mk_ca, Ex.mk_args, Ex.mk_ps, Ex.mk_cs, Ex.mk_sub] at hbx
  rw [HNS.out] at hbx
  have HXB := Lib.hid (hbx.low hb)
  have HB := Lib.hid (Below.of_alloc hb)
  clear hb hbx
  obtain ⟨xl, x0, x1, x2, x3, x4, x5, x6, x7, x8, x9, -⟩ := HXB.out
  simp only [Ex.mk_k, Ex.mk_op, Ex.mk_no, Ex.mk_vk, Ex.mk_vi, Ex.mk_vt, Ex.mk_tb, Ex.mk_nm, Ex.mk_pa, Ex.mk_ca, Ex.mk_args, Ex.mk_ps, Ex.mk_cs, Ex.mk_sub] at x0 x1 x2 x3 x4 x5 x6 x7 x8 x9
  rw [HNS.out] at x9
  go_wp2_with fail
  refine (HPL.out _).mono ?_
  rintro e w2 ⟨rfl, hb2⟩
  have HB2 := Lib.hid (below_next HB.out hb2)
  have HX2 := Lib.hid (HXB.out.low hb2)
  clear hb2 xl x0 x1 x2 x3 x4 x5 x6 x7 x8 x9
  obtain ⟨xl, x0, x1, x2, x3, x4, x5, x6, x7, x8, x9, -⟩ := HX2.out
  simp only [Ex.mk_k, Ex.mk_op, Ex.mk_no, Ex.mk_vk, Ex.mk_vi, Ex.mk_vt, Ex.mk_tb, Ex.mk_nm, Ex.mk_pa, Ex.mk_ca, Ex.mk_args, Ex.mk_ps, Ex.mk_cs, Ex.mk_sub] at x0 x1 x2 x3 x4 x5 x6 x7 x8 x9
  rw [HNS.out] at x9
  cases bp
  · go_wp2
    go_ret
    exact ⟨rfl, HB2.out⟩
  go_wp2_with fail
  refine (HAL.out _ HB2.out).mono ?_
  rintro e w3 ⟨rfl, hb3⟩
  have HB3 := Lib.hid (below_next HB2.out hb3)
  have HX3 := Lib.hid (HX2.out.low hb3)
  clear hb3 xl x0 x1 x2 x3 x4 x5 x6 x7 x8 x9
  obtain ⟨xl, x0, x1, x2, x3, x4, x5, x6, x7, x8, x9, -⟩ := HX3.out
  simp only [Ex.mk_k, Ex.mk_op, Ex.mk_no, Ex.mk_vk, Ex.mk_vi, Ex.mk_vt, Ex.mk_tb, Ex.mk_nm, Ex.mk_pa, Ex.mk_ca, Ex.mk_args, Ex.mk_ps, Ex.mk_cs, Ex.mk_sub] at x0 x1 x2 x3 x4 x5 x6 x7 x8 x9
  rw [HNS.out] at x9
  cases ba
  · go_wp2
    go_ret
    exact ⟨rfl, HB3.out⟩
  go_wp2_with fail
  clear xl x0 x1 x2 x3 x4 x5 x6 x7 x8 x9
  go_loopw [101] (fun i v => ∃ j : Nat, j ≤ ns ∧ i = .int .i64 j ∧ (∀ t, t < j → V (qAt sub t) = true) ∧ Below w3.heap.size w3 v) (fun i _ => ns - (intOf i).toNat)
  case atStart => exact ⟨0, Nat.zero_le _, rfl, fun t ht => by omega, Below.refl _ _⟩
  case round =>
    obtain ⟨j, hj, rfl, ha, hb⟩ := hrel
    have HL := Lib.hid hb
    have HAK := Lib.hid ha
    clear hb ha
    by_cases hlt : j < ns
    · have hlt' : decide ((j : Int) < ns) = true := decide_eq_true (by omega)
      have hjl : j < sub.length := by rw [HNS.out]; exact hlt
      obtain ⟨g, o, rfl, hg, hN, hC, hX⟩ := (HQ.out.low HB3.out).low HL.out j hjl
      have HX := Lib.hid hX
      have HHK := Lib.hid (HH.out j hlt)
      have HVQ := Lib.hid (HQL.out (qAt sub j))
      clear hX
      obtain ⟨c0, c1', c2', c3⟩ := hC
      generalize hxe : qAt sub j = x at *
      have HXE := Lib.hid hxe
      clear hxe
      obtain ⟨st, pi, ci, items, fr, pw, cw, wh⟩ := x
      simp only at c0 c1' c2' c3 HVQ
      go_upto_region 14 with (fail)
      have hal := below_alloc wr (.cells #[.bool st, .slice pi items.length ci, .string fr, .slice pw wh.length cw] 34)
      have HL2 := Lib.hid (below_next HL.out hal)
      have hyx := QuBx.new wr ⟨st, pi, ci, items, fr, pw, cw, wh⟩ 34
      have hxx := (HX3.out.low HL.out).low hal
      have HXI := Lib.hid (HX.out.low hal)
      clear c0 c1' c2' c3 hal
      simp only at hyx
      generalize wr.alloc (.cells #[.bool st, .slice pi items.length ci, .string fr, .slice pw wh.length cw] 34) = W2 at *
      generalize wr.heap.size = Y at *
      have l0 := hxx.c0
      have HY := Lib.hid hyx
      obtain ⟨yl, m0, m1, m2, m3, -⟩ := hyx
      simp only [Ex.mk_k] at l0
      simp only at m0 m1 m2 m3
      clear hxx
      have HC1 := Lib.hid (rsource_any fr HXI.out.size)
      have HC2 := Lib.hid (fun u (hb : Below W2.heap.size W2 u) => HRA.out pi items ci u (HXI.out.items.low hb) HXI.out.leni)
      have HC3 := Lib.hid (fun u (hb : Below W2.heap.size W2 u) => HRA.out pw wh cw u (HXI.out.wh.low hb) HXI.out.lenw)
      generalize srcB fr = s at *
      generalize items.all (vE d) = ai at *
      generalize wh.all (vE d) = aw at *
      have hcase : (¬ st = b8) ∨ (st = b8 ∧ s = false) ∨ (st = b8 ∧ s = true ∧ ai = false) ∨ (st = b8 ∧ s = true ∧ ai = true ∧ aw = false) ∨ (st = b8 ∧ s = true ∧ ai = true ∧ aw = true) := by
        cases st <;> cases b8 <;> cases s <;> cases ai <;> cases aw <;> simp
      rcases hcase with hne | ⟨rfl, rfl⟩ | ⟨rfl, rfl, rfl⟩ | ⟨rfl, rfl, rfl, rfl⟩ | ⟨rfl, rfl, rfl, rfl⟩
      · skip
        have HV := Lib.hid (HHK.out (by rw [HVQ.out]; simp [hne]))
        go_wp2
        go_ret
        exact ⟨ret_bool (by rw [HV.out]; simp), below_next HB3.out (below_next HL2.out (Below.refl W2.heap.size W2))⟩
      · skip
        have HV := Lib.hid (HHK.out (by rw [HVQ.out]; simp))
        go_wp2_with fail
        refine (HC1.out _).mono ?_
        rintro e v1 ⟨rfl, hbv⟩
        have HLW1 := Lib.hid (below_next (Below.refl W2.heap.size W2) hbv)
        have HY1 := Lib.hid (HY.out.low hbv)
        clear hbv yl m0 m1 m2 m3
        obtain ⟨yl, m0, m1, m2, m3, -⟩ := HY1.out
        simp only at m0 m1 m2 m3
        go_wp2
        go_ret
        exact ⟨ret_bool (by rw [HV.out]; simp), below_next HB3.out (below_next HL2.out HLW1.out)⟩
      · skip
        have HV := Lib.hid (HHK.out (by rw [HVQ.out]; simp))
        go_wp2_with fail
        refine (HC1.out _).mono ?_
        rintro e v1 ⟨rfl, hbv⟩
        have HLW1 := Lib.hid (below_next (Below.refl W2.heap.size W2) hbv)
        have HY1 := Lib.hid (HY.out.low hbv)
        clear hbv yl m0 m1 m2 m3
        obtain ⟨yl, m0, m1, m2, m3, -⟩ := HY1.out
        simp only at m0 m1 m2 m3
        go_wp2_with fail
        refine (HC2.out _ HLW1.out).mono ?_
        rintro e v2 ⟨rfl, hbv⟩
        have HLW2 := Lib.hid (below_next HLW1.out hbv)
        have HY2 := Lib.hid (HY1.out.low hbv)
        clear hbv yl m0 m1 m2 m3
        obtain ⟨yl, m0, m1, m2, m3, -⟩ := HY2.out
        simp only at m0 m1 m2 m3
        go_wp2
        go_ret
        exact ⟨ret_bool (by rw [HV.out]; simp), below_next HB3.out (below_next HL2.out HLW2.out)⟩
      · skip
        have HV := Lib.hid (HHK.out (by rw [HVQ.out]; simp))
        go_wp2_with fail
        refine (HC1.out _).mono ?_
        rintro e v1 ⟨rfl, hbv⟩
        have HLW1 := Lib.hid (below_next (Below.refl W2.heap.size W2) hbv)
        have HY1 := Lib.hid (HY.out.low hbv)
        clear hbv yl m0 m1 m2 m3
        obtain ⟨yl, m0, m1, m2, m3, -⟩ := HY1.out
        simp only at m0 m1 m2 m3
        go_wp2_with fail
        refine (HC2.out _ HLW1.out).mono ?_
        rintro e v2 ⟨rfl, hbv⟩
        have HLW2 := Lib.hid (below_next HLW1.out hbv)
        have HY2 := Lib.hid (HY1.out.low hbv)
        clear hbv yl m0 m1 m2 m3
        obtain ⟨yl, m0, m1, m2, m3, -⟩ := HY2.out
        simp only at m0 m1 m2 m3
        go_wp2_with fail
        refine (HC3.out _ HLW2.out).mono ?_
        rintro e v3 ⟨rfl, hbv⟩
        have HLW3 := Lib.hid (below_next HLW2.out hbv)
        have HY3 := Lib.hid (HY2.out.low hbv)
        clear hbv yl m0 m1 m2 m3
        obtain ⟨yl, m0, m1, m2, m3, -⟩ := HY3.out
        simp only at m0 m1 m2 m3
        go_wp2
        go_ret
        exact ⟨ret_bool (by rw [HV.out]; simp), below_next HB3.out (below_next HL2.out HLW3.out)⟩
      · skip
        go_wp2_with fail
        refine (HC1.out _).mono ?_
        rintro e v1 ⟨rfl, hbv⟩
        have HLW1 := Lib.hid (below_next (Below.refl W2.heap.size W2) hbv)
        have HY1 := Lib.hid (HY.out.low hbv)
        clear hbv yl m0 m1 m2 m3
        obtain ⟨yl, m0, m1, m2, m3, -⟩ := HY1.out
        simp only at m0 m1 m2 m3
        go_wp2_with fail
        refine (HC2.out _ HLW1.out).mono ?_
        rintro e v2 ⟨rfl, hbv⟩
        have HLW2 := Lib.hid (below_next HLW1.out hbv)
        have HY2 := Lib.hid (HY1.out.low hbv)
        clear hbv yl m0 m1 m2 m3
        obtain ⟨yl, m0, m1, m2, m3, -⟩ := HY2.out
        simp only at m0 m1 m2 m3
        go_wp2_with fail
        refine (HC3.out _ HLW2.out).mono ?_
        rintro e v3 ⟨rfl, hbv⟩
        have HLW3 := Lib.hid (below_next HLW2.out hbv)
        have HY3 := Lib.hid (HY2.out.low hbv)
        clear hbv yl m0 m1 m2 m3
        obtain ⟨yl, m0, m1, m2, m3, -⟩ := HY3.out
        simp only at m0 m1 m2 m3
        go_wp2
        go_roundw
        case rel => exact ⟨j + 1, by omega, by go_num, (fun t ht => by
          by_cases htj : t = j
          · rw [htj, HXE.out, HVQ.out]; simp
          · exact HAK.out t (by omega)), below_next HL2.out HLW3.out⟩
        case measure => simp [intOf]; omega
    · have hlt' : decide ((j : Int) < ns) = false := decide_eq_false (by omega)
      obtain rfl : j = ns := by omega
      have HV := Lib.hid (HNN.out HAK.out)
      go_wp2
      go_ret
      exact ⟨ret_bool (by rw [HV.out]; rfl), below_next HB3.out HL.out⟩
/-- ValidExpr of the reference, for trees of every depth. -/
theorem rvalid_step {d : Nat} (H : RValDoes d) : RValDoes (d + 1) := by
  intro N e w hA
  have hA' : ExIn N w (ExAt N w d) e := hA
  rw [show vE (d + 1) e = vOf (vE d) e from rfl, vOf_shape]
  cases hs : shapeB e
  · exact (rvalid_bad e w hA'.sub (.inl hs)).mono fun r w' h => ⟨by rw [h.1]; simp, h.2⟩
  by_cases ho : e.k ≠ 5 ∧ e.op ≠ 0
  · exact (rvalid_bad e w hA'.sub (.inr (.inl ho))).mono fun r w' h => ⟨by rw [h.1, decide_eq_false ho.1, decide_eq_false ho.2]; simp, h.2⟩
  by_cases hn : e.k ≠ 6 ∧ e.no = true
  · exact (rvalid_bad e w hA'.sub (.inr (.inr hn))).mono fun r w' h => ⟨by rw [h.1, decide_eq_false hn.1, hn.2]; simp, h.2⟩
  have ho' : e.k = 5 ∨ e.op = 0 := by by_cases h : e.k = 5; exact .inl h; exact .inr (by by_cases h0 : e.op = 0; exact h0; exact absurd ⟨h, h0⟩ ho)
  have hn' : e.k = 6 ∨ e.no = false := by by_cases h : e.k = 6; exact .inl h; exact .inr (by cases h0 : e.no; rfl; exact absurd ⟨h, h0⟩ hn)
  have e1 : (decide (e.k = 5) || decide (e.op = 0)) = true := by rcases ho' with h | h <;> simp [h]
  have e2 : (decide (e.k = 6) || !e.no) = true := by rcases hn' with h | h <;> simp [h]
  rw [e1, e2]
  simp only [Bool.true_and]
  by_cases h1 : e.k = 1
  · rw [if_pos h1]
    exact rvalid_k1 e w hA'.sub hA'.vt hs (by rcases ho' with h | h; omega; exact h) (by rcases hn' with h | h; omega; exact h) h1
  rw [if_neg h1]
  by_cases h2 : e.k = 2
  · rw [if_pos h2]
    exact rvalid_k2 e w hA'.sub hA'.tb hA'.nm hs (by rcases ho' with h | h; omega; exact h) (by rcases hn' with h | h; omega; exact h) h2
  rw [if_neg h2, ← quT_quB hs]
  by_cases h5 : e.k = 5
  · exact rvalid_rest_a H e w hA' hs h1 h2 h5 (by rcases hn' with h | h; omega; exact h)
  have ho2 : e.op = 0 := by rcases ho' with h | h; exact absurd h h5; exact h
  by_cases h6 : e.k = 6
  · exact rvalid_rest_b H e w hA' hs h1 h2 h6 ho2
  exact rvalid_rest_c H e w hA' hs h1 h2 h5 h6 ho2 (by rcases hn' with h | h; exact absurd h h6; exact h)
theorem rvalid_all : ∀ d, RValDoes d
  | 0 => fun _ _ _ h => h.elim
  | d + 1 => rvalid_step (rvalid_all d)
end Go.Proofs.YtdlehlbahkikgaaDoor
/-
  LevelsOf of package syntax, and what it calls: over trees in memory.
-/
namespace Go.Proofs.YtdlehlbahkikgaaDoor
set_option maxRecDepth 100000
open Go.RowKit
variable {ls : List Nat}

theorem max_if (a b : Int) : (if a < b then b else a) = max a b := by split <;> omega
/-- LevelsOf over well-formed trees of at most d storeys. -/
def LevDoes (ls : List Nat) (d : Nat) : Prop := ∀ (N : Nat → Prop) (e : Ex) (w : World), ExAt N w d e → vE d e = true → Env ls w →
    Calls Tryd.prog 7 #[exV e] w fun r w' => r = .returned (.int .i64 (lev d e)) ∧ Below w.heap.size w w'
set_option maxHeartbeats 1000000 in
theorem levList_any {d : Nat} (H : LevDoes ls d) {N : Nat → Prop} (p : Option Addr) (l : List Ex) (cap : Nat) (w : World) (hA : LAt N w (ExAt N w d) p l) (hv : ∀ a ∈ l, vE d a = true) (hz : l.length ≤ 9223372036854775807) (hE : Env ls w) :
    Calls Tryd.prog 40 #[.slice p l.length cap] w fun r w' => r = .returned (.int .i64 (most (lev d) l)) ∧ Below w.heap.size w w' := by
  have HA := Lib.hid hA
  have HE := Lib.hid hE
  have HV := Lib.hid hv
  have HD := Lib.hid H
  clear hA hE hv H
  unfold most
  generalize hn : l.length = n at *
  have HN := Lib.hid hn
  clear hn
  go_enter Tryd.func40, Tryd.ntmps40
  go_wp2_with fail
  go_loopw [3, 8] (fun r i v => ∃ k : Nat, k ≤ n ∧ i = .int .i64 k ∧ r = .int .i64 (mxN k fun i => lev d (eAt l i)) ∧ Below w.heap.size w v) (fun _ i _ => n - (intOf i).toNat)
  case atStart => exact ⟨0, Nat.zero_le _, rfl, rfl, Below.refl _ _⟩
  case round =>
    obtain ⟨k, hk, rfl, rfl, hb⟩ := hrel
    have HB := Lib.hid hb
    clear hb
    by_cases hlt : k < n
    · have hlt' : decide ((k : Int) < n) = true := decide_eq_true (by omega)
      have hkl : k < l.length := by rw [HN.out]; exact hlt
      obtain ⟨g, o, rfl, hg, hN, hC, hX⟩ := HA.out.low HB.out k hkl
      have hmem := HV.out _ (eAt_mem hkl)
      have hm1 : mxN (k + 1) (fun i => lev d (eAt l i)) = max (mxN k fun i => lev d (eAt l i)) (lev d (eAt l k)) := rfl
      have HM1 := Lib.hid hm1
      clear hm1
      have HX := Lib.hid hX
      have HME := Lib.hid hmem
      clear hX hmem
      obtain ⟨c0, c1, c2, c3, c4, c5, c6, c7, c8, c9⟩ := hC
      generalize hxe : eAt l k = x at *
      have HXE := Lib.hid hxe
      clear hxe
      generalize mxN k (fun i => lev d (eAt l i)) = m at *
      go_wp2_with fail
      refine (HD.out N x _ (HX.out.low (below_alloc _ _)) HME.out ((HE.out.low HB.out).alloc _)).mono ?_
      rintro e w' ⟨rfl, hb⟩
      have HB2 := Lib.hid (below_next HB.out (Below.of_alloc hb))
      clear hb
      go_wp2
      go_roundw
      case rel =>
        refine ⟨k + 1, by omega, by go_num, ?_, HB2.out⟩
        rw [HM1.out, ← max_if]
      case measure => simp [intOf]; omega
    · have hlt' : decide ((k : Int) < n) = false := decide_eq_false (by omega)
      obtain rfl : k = n := by omega
      go_wp2
      go_ret
      exact ⟨rfl, HB.out⟩
set_option maxHeartbeats 1000000 in
theorem levConds_any {d : Nat} (H : LevDoes ls d) {N : Nat → Prop} (p : Option Addr) (l : List Qu) (cap : Nat) (w : World) (hA : QAt N w (ExAt N w d) p l) (hv : ∀ q ∈ l, ∀ a ∈ q.wh, vE d a = true) (hz : l.length ≤ 9223372036854775807) (hE : Env ls w) :
    Calls Tryd.prog 20 #[.slice p l.length cap] w fun r w' => r = .returned (.int .i64 (condLev (lev d) l)) ∧ Below w.heap.size w w' := by
  have HA := Lib.hid hA
  have HE := Lib.hid hE
  have HV := Lib.hid hv
  have HD := Lib.hid (levList_any H (N := N))
  clear hA hE hv H
  unfold condLev
  generalize hn : l.length = n at *
  have HN := Lib.hid hn
  clear hn
  go_enter Tryd.func20, Tryd.ntmps20
  go_wp2_with fail
  go_loopw [3, 8] (fun r i v => ∃ k : Nat, k ≤ n ∧ i = .int .i64 k ∧ r = .int .i64 (mxN k fun i => most (lev d) (qAt l i).wh) ∧ Below w.heap.size w v) (fun _ i _ => n - (intOf i).toNat)
  case atStart => exact ⟨0, Nat.zero_le _, rfl, rfl, Below.refl _ _⟩
  case round =>
    obtain ⟨k, hk, rfl, rfl, hb⟩ := hrel
    have HB := Lib.hid hb
    clear hb
    by_cases hlt : k < n
    · have hlt' : decide ((k : Int) < n) = true := decide_eq_true (by omega)
      have hkl : k < l.length := by rw [HN.out]; exact hlt
      obtain ⟨g, o, rfl, hg, hN, hC, hX⟩ := HA.out.low HB.out k hkl
      have hmem := HV.out _ (qAt_mem hkl)
      have hm1 : mxN (k + 1) (fun i => most (lev d) (qAt l i).wh) = max (mxN k fun i => most (lev d) (qAt l i).wh) (most (lev d) (qAt l k).wh) := rfl
      have HM1 := Lib.hid hm1
      clear hm1
      have HX := Lib.hid hX
      have HME := Lib.hid hmem
      clear hX hmem
      obtain ⟨c0, c1, c2, c3⟩ := hC
      generalize hxe : qAt l k = x at *
      have HXE := Lib.hid hxe
      clear hxe
      generalize mxN k (fun i => most (lev d) (qAt l i).wh) = m at *
      go_wp2_with fail
      refine (HD.out _ x.wh _ _ ((HX.out.low (below_alloc _ _)).wh) HME.out HX.out.lenw ((HE.out.low HB.out).alloc _)).mono ?_
      rintro e w' ⟨rfl, hb⟩
      have HB2 := Lib.hid (below_next HB.out (Below.of_alloc hb))
      clear hb
      go_wp2
      go_roundw
      case rel =>
        refine ⟨k + 1, by omega, by go_num, ?_, HB2.out⟩
        rw [HM1.out, ← max_if]
      case measure => simp [intOf]; omega
    · have hlt' : decide ((k : Int) < n) = false := decide_eq_false (by omega)
      obtain rfl : k = n := by omega
      go_wp2
      go_ret
      exact ⟨rfl, HB.out⟩
set_option maxHeartbeats 1000000 in
theorem levItems_any {d : Nat} (H : LevDoes ls d) {N : Nat → Prop} (p : Option Addr) (l : List Qu) (cap : Nat) (w : World) (hA : QAt N w (ExAt N w d) p l) (hv : ∀ q ∈ l, ∀ a ∈ q.items, vE d a = true) (hz : l.length ≤ 9223372036854775807) (hE : Env ls w) :
    Calls Tryd.prog 21 #[.slice p l.length cap] w fun r w' => r = .returned (.int .i64 (itemLev (lev d) l)) ∧ Below w.heap.size w w' := by
  have HA := Lib.hid hA
  have HE := Lib.hid hE
  have HV := Lib.hid hv
  have HD := Lib.hid (levList_any H (N := N))
  clear hA hE hv H
  unfold itemLev
  generalize hn : l.length = n at *
  have HN := Lib.hid hn
  clear hn
  go_enter Tryd.func21, Tryd.ntmps21
  go_wp2_with fail
  go_loopw [3, 8] (fun r i v => ∃ k : Nat, k ≤ n ∧ i = .int .i64 k ∧ r = .int .i64 (mxN k fun i => most (lev d) (qAt l i).items) ∧ Below w.heap.size w v) (fun _ i _ => n - (intOf i).toNat)
  case atStart => exact ⟨0, Nat.zero_le _, rfl, rfl, Below.refl _ _⟩
  case round =>
    obtain ⟨k, hk, rfl, rfl, hb⟩ := hrel
    have HB := Lib.hid hb
    clear hb
    by_cases hlt : k < n
    · have hlt' : decide ((k : Int) < n) = true := decide_eq_true (by omega)
      have hkl : k < l.length := by rw [HN.out]; exact hlt
      obtain ⟨g, o, rfl, hg, hN, hC, hX⟩ := HA.out.low HB.out k hkl
      have hmem := HV.out _ (qAt_mem hkl)
      have hm1 : mxN (k + 1) (fun i => most (lev d) (qAt l i).items) = max (mxN k fun i => most (lev d) (qAt l i).items) (most (lev d) (qAt l k).items) := rfl
      have HM1 := Lib.hid hm1
      clear hm1
      have HX := Lib.hid hX
      have HME := Lib.hid hmem
      clear hX hmem
      obtain ⟨c0, c1, c2, c3⟩ := hC
      generalize hxe : qAt l k = x at *
      have HXE := Lib.hid hxe
      clear hxe
      generalize mxN k (fun i => most (lev d) (qAt l i).items) = m at *
      go_wp2_with fail
      refine (HD.out _ x.items _ _ ((HX.out.low (below_alloc _ _)).items) HME.out HX.out.leni ((HE.out.low HB.out).alloc _)).mono ?_
      rintro e w' ⟨rfl, hb⟩
      have HB2 := Lib.hid (below_next HB.out (Below.of_alloc hb))
      clear hb
      go_wp2
      go_roundw
      case rel =>
        refine ⟨k + 1, by omega, by go_num, ?_, HB2.out⟩
        rw [HM1.out, ← max_if]
      case measure => simp [intOf]; omega
    · have hlt' : decide ((k : Int) < n) = false := decide_eq_false (by omega)
      obtain rfl : k = n := by omega
      go_wp2
      go_ret
      exact ⟨rfl, HB.out⟩
theorem LAt.any {N : Nat → Prop} {w : World} {P : Ex → Prop} {p : Option Addr} {l : List Ex} (h : LAt N w P p l) : LAt N w (fun _ => True) p l := fun i hi => by
  obtain ⟨c, o, h1, h2, h3, h4, -⟩ := h i hi
  exact ⟨c, o, h1, h2, h3, h4, trivial⟩
def b2i (b : Bool) : Int := cond b 1 0
theorem argLev_b (L : Ex → Int) (e : Ex) (i : Nat) : argLev L e i = L (eAt e.args i) + b2i (decide (prec (eAt e.args i).k (eAt e.args i).op < least e.k e.op i)) := by
  unfold argLev inPar b2i
  cases decide (prec (eAt e.args i).k (eAt e.args i).op < least e.k e.op i) <;> rfl
set_option maxHeartbeats 1000000 in
theorem levArgs_any {d : Nat} (H : LevDoes ls d) (hd : d ≤ 2000000000) {N : Nat → Prop} (e : Ex) (w : World) (hA : ExIn N w (ExAt N w d) e) (hF : Fine (vE d) e) (hE : Env ls w) (hm : 1 ∈ ls) :
    Calls Tryd.prog 19 #[exV e] w fun r w' => r = .returned (.int .i64 (argsLev (lev d) e)) ∧ Below w.heap.size w w' := by
  have hthree := fine_three hF
  have HP := Lib.hid fun i hi => pl_least hF (i := i) hi
  have HE := Lib.hid hE
  have HV := Lib.hid hF.args
  have HD := Lib.hid H
  have hA1 := hA.args
  have HA := Lib.hid hA1
  have hz := hA.lena
  clear hA hE hF H hA1
  have HIP := Lib.hid (inPar_any (ls := ls) (N := N) (P := fun _ => True))
  unfold argsLev
  generalize hn : e.args.length = n at *
  have HN := Lib.hid hn
  have HLL := Lib.hid (lev_le d)
  have HLN := Lib.hid (lev_nonneg d)
  obtain ⟨ek, eop, eno, evk, evi, evt, etb, enm, epa, eca, eargs, eps, ecs, esub⟩ := e
  simp only [Ex.mk_k, Ex.mk_op, Ex.mk_pa, Ex.mk_args] at *
  unfold exV
  simp only [Ex.mk_k, Ex.mk_op, Ex.mk_no, Ex.mk_vk, Ex.mk_vi, Ex.mk_vt, Ex.mk_tb, Ex.mk_nm, Ex.mk_pa, Ex.mk_ca, Ex.mk_args, Ex.mk_ps, Ex.mk_cs, Ex.mk_sub]
  rw [hn]
  clear hn
  have HAL := Lib.hid (show ∀ i, argLev (lev d) (Ex.mk ek eop eno evk evi evt etb enm epa eca eargs eps ecs esub) i = lev d (eAt eargs i) + b2i (decide (prec (eAt eargs i).k (eAt eargs i).op < least ek eop i)) from fun i => argLev_b _ _ i)
  generalize hF : argLev (lev d) (Ex.mk ek eop eno evk evi evt etb enm epa eca eargs eps ecs esub) = F at *
  clear hF
  go_enter Tryd.func19, Tryd.ntmps19
  go_wp2_with fail
  have hbx := below_alloc w (.cells #[.int .i64 ek, .int .i64 eop, .bool eno, .int .i64 evk, .int .i64 evi, .string evt, .string etb, .string enm, .slice epa n eca, .slice eps esub.length ecs] 30)
  have HA0 := Lib.hid (HA.out.low hbx)
  have HE0 := Lib.hid (HE.out.low hbx)
  have hX0 : ExB (w.alloc (.cells #[.int .i64 ek, .int .i64 eop, .bool eno, .int .i64 evk, .int .i64 evi, .string evt, .string etb, .string enm, .slice epa n eca, .slice eps esub.length ecs] 30)) w.heap.size (.mk ek eop eno evk evi evt etb enm epa eca eargs eps ecs esub) := by
    rw [← HN.out]; exact ExB.new w (.mk ek eop eno evk evi evt etb enm epa eca eargs eps ecs esub) _
  have HX0 := Lib.hid hX0
  have HBX := Lib.hid hbx
  clear hbx hX0
  generalize w.alloc (.cells #[.int .i64 ek, .int .i64 eop, .bool eno, .int .i64 evk, .int .i64 evi, .string evt, .string etb, .string enm, .slice epa n eca, .slice eps esub.length ecs] 30) = W0 at *
  go_loopw [3, 10] (fun r i v => ∃ k : Nat, k ≤ n ∧ i = .int .i64 k ∧ r = .int .i64 (mxN k F) ∧ Below W0.heap.size W0 v) (fun _ i _ => n - (intOf i).toNat)
  case atStart => exact ⟨0, Nat.zero_le _, rfl, rfl, Below.refl _ _⟩
  case round =>
    obtain ⟨k, hk, rfl, rfl, hb⟩ := hrel
    have HB := Lib.hid hb
    clear hb
    by_cases hlt : k < n
    · have hlt' : decide ((k : Int) < n) = true := decide_eq_true (by omega)
      have hkl : k < eargs.length := by rw [HN.out]; exact hlt
      obtain ⟨g, o, rfl, hg, hN, hC, hX⟩ := HA0.out.low HB.out k hkl
      have hmem := HV.out _ (eAt_mem hkl)
      have hm1 : mxN (k + 1) F = max (mxN k F) (F k) := rfl
      have HM1 := Lib.hid hm1
      clear hm1
      have HX := Lib.hid hX
      have HME := Lib.hid hmem
      clear hX hmem
      have HBX2 := Lib.hid (HX0.out.low HB.out)
      obtain ⟨c0, c1, c2, c3, c4, c5, c6, c7, c8, c9⟩ := hC
      obtain ⟨xl, x0, x1, x2, x3, x4, x5, x6, x7, x8, x9, -⟩ := HBX2.out
      simp only [Ex.mk_k, Ex.mk_op, Ex.mk_no, Ex.mk_vk, Ex.mk_vi, Ex.mk_vt, Ex.mk_tb, Ex.mk_nm, Ex.mk_pa, Ex.mk_ca, Ex.mk_args, Ex.mk_ps, Ex.mk_cs, Ex.mk_sub] at x0 x1 x2 x3 x4 x5 x6 x7 x8 x9
      rw [HN.out] at x8
      have hFk := HAL.out k
      have hPk := HP.out k hlt
      have hL0 := HLN.out (eAt eargs k)
      have hL1 := HLL.out (eAt eargs k)
      generalize hxe : eAt eargs k = x at HX HME c0 c1 c2 c3 c4 c5 c6 c7 c8 c9 hFk hL0 hL1
      have HXE := Lib.hid hxe
      clear hxe
      have HFK := Lib.hid hFk
      have HPK := Lib.hid hPk
      clear hFk hPk
      generalize mxN k F = m at *
      have HIPk := HIP.out ek eop evk evi eno evt etb enm (some ⟨g, o, none⟩) eps eargs eca esub.length ecs k
      generalize hlv : lev d x = y at hL0 hL1
      have hy1 : y ≤ 4000000000 := by omega
      go_wp2_with fail
      refine (HD.out N x _ (HX.out.low (below_alloc _ _)) HME.out ((HE0.out.low HB.out).alloc _)).mono ?_
      rintro e w' ⟨rfl, hb⟩
      rw [hlv]
      have hb1 := Below.of_alloc hb
      have HB2 := Lib.hid (below_next HB.out hb1)
      have HX2 := Lib.hid (HBX2.out.low hb1)
      clear hb xl x0 x1 x2 x3 x4 x5 x6 x7 x8 x9 c0 c1 c2 c3 c4 c5 c6 c7 c8 c9
      obtain ⟨xl, x0, x1, x2, x3, x4, x5, x6, x7, x8, x9, -⟩ := HX2.out
      simp only [Ex.mk_k, Ex.mk_op, Ex.mk_no, Ex.mk_vk, Ex.mk_vi, Ex.mk_vt, Ex.mk_tb, Ex.mk_nm, Ex.mk_pa, Ex.mk_ca, Ex.mk_args, Ex.mk_ps, Ex.mk_cs, Ex.mk_sub] at x0 x1 x2 x3 x4 x5 x6 x7 x8 x9
      rw [HN.out] at x8
      go_wp2_with fail
      have hIP := HIPk w' (HE0.out.low HB2.out) hm hkl (by omega) (HA0.out.low HB2.out).any
      rw [HN.out, HXE.out] at hIP
      refine hIP.mono ?_
      rintro e w2 ⟨rfl, hb2⟩
      have HB3 := Lib.hid (below_next HB2.out hb2)
      clear hb2 hIP xl x0 x1 x2 x3 x4 x5 x6 x7 x8 x9
      have hFF := HFK.out
      rw [hlv] at hFF
      rw [← HPK.out] at hFF
      have HFF := Lib.hid hFF
      clear hFF
      cases hdec : decide (prec x.k x.op < plN ek eop k)
      · have HDC := Lib.hid hdec
        clear hdec
        go_wp2
        go_roundw
        case rel =>
          refine ⟨k + 1, by omega, by go_num, ?_, HB3.out⟩
          rw [HM1.out, HFF.out, HDC.out, ← max_if]
          simp [b2i] <;> first | rfl | exact max_if _ _
        case measure => simp [intOf]; omega
      · have HDC := Lib.hid hdec
        clear hdec
        go_wp2
        go_roundw
        case rel =>
          refine ⟨k + 1, by omega, by go_num, ?_, HB3.out⟩
          rw [HM1.out, HFF.out, HDC.out, ← max_if]
          simp [b2i] <;> first | rfl | exact max_if _ _
        case measure => simp [intOf]; omega
    · have hlt' : decide ((k : Int) < n) = false := decide_eq_false (by omega)
      obtain rfl : k = n := by omega
      go_wp2
      go_ret
      exact ⟨rfl, below_next HBX.out HB.out⟩
set_option maxHeartbeats 1000000 in
/-- A further storey. -/
theorem levelsOf_step {d : Nat} (H : LevDoes ls d) (hd : d ≤ 2000000000) (hm : 1 ∈ ls) : LevDoes ls (d + 1) := by
  intro N e w hA hv hE
  have hA : ExIn N w (ExAt N w d) e := hA
  have hF : Fine (vE d) e := vOf_fine hv
  have h1 := fun w' (hb : Below w.heap.size w w') => levArgs_any H hd e w' (ExAt.low (d := d + 1) hA hb) hF (hE.low hb) hm
  show Calls _ _ _ w fun r w' => r = .returned (.int .i64 (levOf (lev d) e)) ∧ Below w.heap.size w w'
  have hlo := hF.lo
  have hhi := hF.hi
  have hsub := hA.sub
  have hlens := hA.lens
  have h2 := levConds_any H (N := N) e.ps e.sub e.cs
  have h3 := levItems_any H (N := N) e.ps e.sub e.cs
  have hvw : ∀ q ∈ e.sub, ∀ a ∈ q.wh, vE d a = true := fun q hq => (quB_fine (hF.sub q hq)).allW
  have hvi : ∀ q ∈ e.sub, ∀ a ∈ q.items, vE d a = true := fun q hq => (quB_fine (hF.sub q hq)).allI
  have e1 := fun hk => lev_leaf (L := lev d) hF hk
  have e2 := fun hk => lev_one (L := lev d) hF hk
  have e3 := fun hk => lev_args (L := lev d) hF hk
  have e4 := fun hk => lev_exists (L := lev d) hF hk
  have e5 := fun hk => lev_count (L := lev d) hF hk
  have e6 := fun hk => lev_sum (L := lev d) hF hk
  have b1 : condLev (lev d) e.sub ≤ 2 * d := mxN_le _ _ _ (by omega) fun i _ => mxN_le _ _ _ (by omega) fun j _ => lev_le d _
  have b2 : itemLev (lev d) e.sub ≤ 2 * d := mxN_le _ _ _ (by omega) fun i _ => mxN_le _ _ _ (by omega) fun j _ => lev_le d _
  have b3 : argsLev (lev d) e ≤ 2 * d + 1 := mxN_le _ _ _ (by omega) fun i _ => by
    have := lev_le d (eAt e.args i)
    unfold argLev; split <;> omega
  have b4 : 0 ≤ condLev (lev d) e.sub := mxN_nonneg _ _
  have b5 : 0 ≤ itemLev (lev d) e.sub := mxN_nonneg _ _
  have b6 := argsLev_nonneg (lev d) e
  have h2 := fun w' (hb : Below w.heap.size w w') => h2 w' (hsub.low hb) hvw hlens (hE.low hb)
  have h3 := fun w' (hb : Below w.heap.size w w') => h3 w' (hsub.low hb) hvi hlens (hE.low hb)
  unfold exV at h1 ⊢
  clear hsub hvw hvi hA hF hE hv H hlens
  generalize levOf (lev d) e = LV at *
  generalize condLev (lev d) e.sub = CL at *
  generalize itemLev (lev d) e.sub = IL at *
  generalize argsLev (lev d) e = AL at *
  generalize e.args.length = na at *
  generalize e.sub.length = ns at *
  generalize e.k = k at *
  generalize e.op = op at *
  generalize e.no = no at *
  generalize e.vk = vk at *
  generalize e.vi = vi at *
  generalize e.vt = vt at *
  generalize e.tb = tb at *
  generalize e.nm = nm at *
  generalize e.pa = pa at *
  generalize e.ca = ca at *
  generalize e.ps = ps at *
  generalize e.cs = cs at *
  have hb0 := below_alloc w (.cells #[.int .i64 k, .int .i64 op, .bool no, .int .i64 vk, .int .i64 vi, .string vt, .string tb, .string nm, .slice pa na ca, .slice ps ns cs] 30)
  have H1 := Lib.hid h1
  have H2 := Lib.hid h2
  have H3 := Lib.hid h3
  have HB0 := Lib.hid hb0
  clear hb0 h1 h2 h3
  have hk : (k = 1 ∨ k = 2) ∨ (k = 3 ∨ k = 4) ∨ (k = 5 ∨ k = 6 ∨ k = 7) ∨ k = 8 ∨ k = 9 ∨ k = 10 ∨ k = 11 ∨ k = 12 := by omega
  rcases hk with hk | hk | hk | hk | hk | hk | hk | hk
  · have hv := Lib.hid (e1 hk)
    clear e1 e2 e3 e4 e5 e6
    rcases hk with rfl | rfl
    all_goals
      go_enter Tryd.func7, Tryd.ntmps7
      go_wp2
      go_ret
      exact ⟨ret_int hv.out.symm, HB0.out⟩
  · have hv := Lib.hid (e2 hk)
    clear e1 e2 e3 e4 e5 e6
    rcases hk with rfl | rfl
    all_goals
      go_enter Tryd.func7, Tryd.ntmps7
      go_wp2_with fail
      refine (H1.out _ HB0.out).mono ?_
      rintro e w2 ⟨rfl, hb2⟩
      have HB2 := Lib.hid (below_next HB0.out hb2)
      clear hb2
      go_wp2
      go_ret
      exact ⟨ret_int hv.out.symm, HB2.out⟩
  · have hv := Lib.hid (e3 hk)
    clear e1 e2 e3 e4 e5 e6
    rcases hk with rfl | rfl | rfl
    all_goals
      go_enter Tryd.func7, Tryd.ntmps7
      go_wp2_with fail
      refine (H1.out _ HB0.out).mono ?_
      rintro e w2 ⟨rfl, hb2⟩
      have HB2 := Lib.hid (below_next HB0.out hb2)
      clear hb2
      go_wp2
      go_ret
      exact ⟨ret_int hv.out.symm, HB2.out⟩
  · have hv := Lib.hid (e4 hk)
    clear e1 e2 e3 e4 e5 e6
    subst hk
    go_enter Tryd.func7, Tryd.ntmps7
    go_wp2_with fail
    refine (H2.out _ HB0.out).mono ?_
    rintro e w2 ⟨rfl, hb2⟩
    have HB2 := Lib.hid (below_next HB0.out hb2)
    clear hb2
    go_wp2
    go_ret
    exact ⟨ret_int hv.out.symm, HB2.out⟩
  · have hv := Lib.hid (e5 hk)
    clear e1 e2 e3 e4 e5 e6
    subst hk
    go_enter Tryd.func7, Tryd.ntmps7
    go_wp2_with fail
    refine (H2.out _ HB0.out).mono ?_
    rintro e w2 ⟨rfl, hb2⟩
    have HB2 := Lib.hid (below_next HB0.out hb2)
    clear hb2
    go_wp2
    all_goals
      go_ret
      exact ⟨ret_int (by have := hv.out; omega), HB2.out⟩
  all_goals
    have hv := Lib.hid (e6 (by omega))
    clear e1 e2 e3 e4 e5 e6
    have hx9 : (w.alloc (.cells #[.int .i64 k, .int .i64 op, .bool no, .int .i64 vk, .int .i64 vi, .string vt, .string tb, .string nm, .slice pa na ca, .slice ps ns cs] 30)).cell? ⟨w.heap.size, 9, none⟩ = some (.slice ps ns cs) := by go_simp
    have hxl : w.heap.size < (w.alloc (.cells #[.int .i64 k, .int .i64 op, .bool no, .int .i64 vk, .int .i64 vi, .string vt, .string tb, .string nm, .slice pa na ca, .slice ps ns cs] 30)).heap.size := by simp
    subst hk
    go_enter Tryd.func7, Tryd.ntmps7
    go_wp2_with fail
    have w1 : IntKind.i64.wrap (1 + CL) = 1 + CL := by rw [IntKind.wrap_i64]; omega
    have w2 : IntKind.i64.wrap (2 + IL) = 2 + IL := by rw [IntKind.wrap_i64]; omega
    generalize w.alloc _ = W2 at *
    have l9 := lowW_cell (W := W2) (by exact hxl) hx9
    refine wp_region_low (by kernel_rfl) (by kernel_rfl) ?_
    repeat (refine wq_step (fun K hK => ?_); go_simp; first | (refine hK _ ?_; clear hK K) | (apply Exists.intro; refine ⟨fun _ => ?_, hK _ ?_⟩; (first | (go_at_call 21; exact Calls.low_of (H3.out _ (below_next HB0.out (lowW_low _ _ _)))) | (go_at_call 20; exact Calls.low_of (H2.out _ (below_next HB0.out (lowW_low _ _ _))))); clear hK K))
    refine wq_nil ?_
    rintro _ ⟨⟨d3, os3⟩, rfl⟩
    dsimp only
    have HB3 := Lib.hid (below_next HB0.out (lowW_low W2 d3 os3))
    clear l9
    generalize lowW W2 d3 os3 = W3 at HB3 ⊢
    go_wp2
    all_goals
      go_ret
      exact ⟨ret_int (by have := hv.out; omega), HB3.out⟩
theorem levelsOf_any (hm : 1 ∈ ls) : ∀ d, d ≤ 2000000000 → LevDoes ls d
  | 0, _ => fun N e w h => h.elim
  | d + 1, h => levelsOf_step (levelsOf_any hm d (by omega)) (by omega) hm
end Go.Proofs.YtdlehlbahkikgaaDoor
/-
  LevelsOf of reference 11, over trees in memory.
-/
namespace Go.Proofs.YtdlehlbahkikgaaDoor
set_option maxRecDepth 100000
open Go.RowKit
variable {ls : List Nat}

/-- LevelsOf over well-formed trees of at most d storeys. -/
def RLevDoes (d : Nat) : Prop := ∀ (N : Nat → Prop) (e : Ex) (w : World), ExAt N w d e → vE d e = true →
    Calls Tryd.prog 26 #[exV e] w fun r w' => r = .returned (.int .i64 (lev d e)) ∧ Below w.heap.size w w'
set_option maxHeartbeats 1000000 in
theorem rmost_any {d : Nat} (H : RLevDoes d) {N : Nat → Prop} (p : Option Addr) (l : List Ex) (cap : Nat) (w : World) (hA : LAt N w (ExAt N w d) p l) (hv : ∀ a ∈ l, vE d a = true) (hz : l.length ≤ 9223372036854775807) :
    Calls Tryd.prog 48 #[.slice p l.length cap] w fun r w' => r = .returned (.int .i64 (most (lev d) l)) ∧ Below w.heap.size w w' := by
  have HA := Lib.hid hA
  have HV := Lib.hid hv
  have HD := Lib.hid H
  clear hA hv H
  unfold most
  generalize hn : l.length = n at *
  have HN := Lib.hid hn
  clear hn
  go_enter Tryd.func48, Tryd.ntmps48
  go_wp2_with fail
  go_loopw [3, 8] (fun r i v => ∃ k : Nat, k ≤ n ∧ i = .int .i64 k ∧ r = .int .i64 (mxN k fun i => lev d (eAt l i)) ∧ Below w.heap.size w v) (fun _ i _ => n - (intOf i).toNat)
  case atStart => exact ⟨0, Nat.zero_le _, rfl, rfl, Below.refl _ _⟩
  case round =>
    obtain ⟨k, hk, rfl, rfl, hb⟩ := hrel
    have HB := Lib.hid hb
    clear hb
    by_cases hlt : k < n
    · have hlt' : decide ((k : Int) < n) = true := decide_eq_true (by omega)
      have hkl : k < l.length := by rw [HN.out]; exact hlt
      obtain ⟨g, o, rfl, hg, hN, hC, hX⟩ := HA.out.low HB.out k hkl
      have hmem := HV.out _ (eAt_mem hkl)
      have hm1 : mxN (k + 1) (fun i => lev d (eAt l i)) = max (mxN k fun i => lev d (eAt l i)) (lev d (eAt l k)) := rfl
      have HM1 := Lib.hid hm1
      clear hm1
      have HX := Lib.hid hX
      have HME := Lib.hid hmem
      clear hX hmem
      obtain ⟨c0, c1, c2, c3, c4, c5, c6, c7, c8, c9⟩ := hC
      generalize hxe : eAt l k = x at *
      have HXE := Lib.hid hxe
      clear hxe
      generalize mxN k (fun i => lev d (eAt l i)) = m at *
      go_wp2_with fail
      refine (HD.out N x _ (HX.out.low (below_alloc _ _)) HME.out).mono ?_
      rintro e w' ⟨rfl, hb⟩
      have HB2 := Lib.hid (below_next HB.out (Below.of_alloc hb))
      clear hb
      go_wp2
      go_roundw
      case rel =>
        refine ⟨k + 1, by omega, by go_num, ?_, HB2.out⟩
        rw [HM1.out, ← max_if]
      case measure => simp [intOf]; omega
    · have hlt' : decide ((k : Int) < n) = false := decide_eq_false (by omega)
      obtain rfl : k = n := by omega
      go_wp2
      go_ret
      exact ⟨rfl, HB.out⟩
theorem most_le (d : Nat) (l : List Ex) : most (lev d) l ≤ 2 * d := mxN_le _ _ _ (by omega) fun i _ => lev_le d _
set_option maxHeartbeats 2000000 in
/-- A further storey. -/
theorem rlevelsOf_step {d : Nat} (H : RLevDoes d) (hd : d ≤ 2000000000) : RLevDoes (d + 1) := by
  intro N e w hA hv
  have hA : ExIn N w (ExAt N w d) e := hA
  have hF : Fine (vE d) e := vOf_fine hv
  show Calls _ _ _ w fun r w' => r = .returned (.int .i64 (levOf (lev d) e)) ∧ Below w.heap.size w w'
  have hthree := fine_three hF
  have HFQ := Lib.hid fun q hq => quB_fine (hF.sub q hq)
  have HV := Lib.hid hF.args
  have HD := Lib.hid H
  have HM := Lib.hid (@rmost_any d H N)
  have hA1 := hA.args
  have HA := Lib.hid hA1
  have HS := Lib.hid hA.sub
  have hz := hA.lena
  have hzs := hA.lens
  clear hA hF H hA1 hv
  have HIP := Lib.hid (rwrapped_c (N := N) (P := fun _ => True))
  unfold levOf argsLev
  generalize hB : (if e.k = 3 ∨ e.k = 4 then (1 : Int) else 0) = B
  have HBB := Lib.hid hB
  clear hB
  generalize hn : e.args.length = n at *
  have HN := Lib.hid hn
  generalize hns : e.sub.length = ns at *
  have HNS := Lib.hid hns
  have HLL := Lib.hid (lev_le d)
  have HLN := Lib.hid (lev_nonneg d)
  have HML := Lib.hid (most_le d)
  have HMN := Lib.hid (most_nonneg (lev d))
  have HGD := Lib.hid (fun i => show subLev (lev d) e i = max (1 + most (lev d) (qAt e.sub i).wh) (if e.k = 8 then 0 else 2 + most (lev d) (qAt e.sub i).items) from rfl)
  generalize hG : subLev (lev d) e = G at *
  clear hG
  obtain ⟨ek, eop, eno, evk, evi, evt, etb, enm, epa, eca, eargs, eps, ecs, esub⟩ := e
  simp only [Ex.mk_k, Ex.mk_pa, Ex.mk_args, Ex.mk_ps, Ex.mk_sub] at *
  unfold exV
  simp only [Ex.mk_k, Ex.mk_op, Ex.mk_no, Ex.mk_vk, Ex.mk_vi, Ex.mk_vt, Ex.mk_tb, Ex.mk_nm, Ex.mk_pa, Ex.mk_ca, Ex.mk_args, Ex.mk_ps, Ex.mk_cs, Ex.mk_sub]
  rw [hn, hns]
  clear hn hns
  have HAL := Lib.hid (show ∀ i, argLev (lev d) (Ex.mk ek eop eno evk evi evt etb enm epa eca eargs eps ecs esub) i = lev d (eAt eargs i) + b2i (decide (prec (eAt eargs i).k (eAt eargs i).op < least ek eop i)) from fun i => argLev_b _ _ i)
  generalize hF : argLev (lev d) (Ex.mk ek eop eno evk evi evt etb enm epa eca eargs eps ecs esub) = F at *
  clear hF
  have hmF : mxN n F ≤ 2 * d + 1 := mxN_le _ _ _ (by omega) fun i _ => by
    have h1 := HAL.out i
    have h2 := HLL.out (eAt eargs i)
    have h3 : b2i (decide (prec (eAt eargs i).k (eAt eargs i).op < least ek eop i)) ≤ 1 := by
      unfold b2i; cases decide (prec (eAt eargs i).k (eAt eargs i).op < least ek eop i) <;> decide
    omega
  have hmF0 : 0 ≤ mxN n F := mxN_nonneg n F
  have HMF := Lib.hid hmF
  have HMF0 := Lib.hid hmF0
  clear hmF hmF0
  go_enter Tryd.func26, Tryd.ntmps26
  go_wp2_with fail
  have hbx := below_alloc w (.cells #[.int .i64 ek, .int .i64 eop, .bool eno, .int .i64 evk, .int .i64 evi, .string evt, .string etb, .string enm, .slice epa n eca, .slice eps ns ecs] 30)
  have HA0 := Lib.hid (HA.out.low hbx)
  have HS0 := Lib.hid (HS.out.low hbx)
  have hX0 : ExB (w.alloc (.cells #[.int .i64 ek, .int .i64 eop, .bool eno, .int .i64 evk, .int .i64 evi, .string evt, .string etb, .string enm, .slice epa n eca, .slice eps ns ecs] 30)) w.heap.size (Ex.mk ek eop eno evk evi evt etb enm epa eca eargs eps ecs esub) := by
    have := ExB.new w (Ex.mk ek eop eno evk evi evt etb enm epa eca eargs eps ecs esub) 30
    unfold exV at this
    simp only [Ex.mk_k, Ex.mk_op, Ex.mk_no, Ex.mk_vk, Ex.mk_vi, Ex.mk_vt, Ex.mk_tb, Ex.mk_nm, Ex.mk_pa, Ex.mk_ca, Ex.mk_args, Ex.mk_ps, Ex.mk_cs, Ex.mk_sub] at this
    rw [HN.out, HNS.out] at this
    exact this
  have HX0 := Lib.hid hX0
  have HBX := Lib.hid hbx
  clear hbx hX0
  generalize w.alloc (.cells #[.int .i64 ek, .int .i64 eop, .bool eno, .int .i64 evk, .int .i64 evi, .string evt, .string etb, .string enm, .slice epa n eca, .slice eps ns ecs] 30) = W0 at *
  go_loopw [3, 12] (fun r i v => ∃ k : Nat, k ≤ n ∧ i = .int .i64 k ∧ r = .int .i64 (mxN k F) ∧ Below W0.heap.size W0 v) (fun _ i _ => n - (intOf i).toNat)
  case atStart => exact ⟨0, Nat.zero_le _, rfl, rfl, Below.refl _ _⟩
  case round =>
    obtain ⟨k, hk, rfl, rfl, hb⟩ := hrel
    have HB := Lib.hid hb
    clear hb
    by_cases hlt : k < n
    · have hlt' : decide ((k : Int) < n) = true := decide_eq_true (by omega)
      have hkl : k < eargs.length := by rw [HN.out]; exact hlt
      obtain ⟨g, o, rfl, hg, hN, hC, hX⟩ := HA0.out.low HB.out k hkl
      have hmem := HV.out _ (eAt_mem hkl)
      have hm1 : mxN (k + 1) F = max (mxN k F) (F k) := rfl
      have HM1 := Lib.hid hm1
      clear hm1
      have HX := Lib.hid hX
      have HME := Lib.hid hmem
      clear hX hmem
      have HBX2 := Lib.hid (HX0.out.low HB.out)
      obtain ⟨c0, c1, c2, c3, c4, c5, c6, c7, c8, c9⟩ := hC
      obtain ⟨xl, x0, x1, x2, x3, x4, x5, x6, x7, x8, x9, -⟩ := HBX2.out
      simp only [Ex.mk_k, Ex.mk_op, Ex.mk_no, Ex.mk_vk, Ex.mk_vi, Ex.mk_vt, Ex.mk_tb, Ex.mk_nm, Ex.mk_pa, Ex.mk_ca, Ex.mk_args, Ex.mk_ps, Ex.mk_cs, Ex.mk_sub] at x0 x1 x2 x3 x4 x5 x6 x7 x8 x9
      rw [HN.out] at x8
      rw [HNS.out] at x9
      have hFk := HAL.out k
      have hL0 := HLN.out (eAt eargs k)
      have hL1 := HLL.out (eAt eargs k)
      generalize hxe : eAt eargs k = x at HX HME c0 c1 c2 c3 c4 c5 c6 c7 c8 c9 hFk hL0 hL1
      have HXE := Lib.hid hxe
      clear hxe
      have HFK := Lib.hid hFk
      clear hFk
      generalize mxN k F = m at *
      have HIPk := HIP.out ek eop evk evi eno evt etb enm (some ⟨g, o, none⟩) eps eargs eca ns ecs k
      generalize hlv : lev d x = y at hL0 hL1
      have hy1 : y ≤ 4000000000 := by omega
      go_wp2_with fail
      refine (HD.out N x _ (HX.out.low (below_alloc _ _)) HME.out).mono ?_
      rintro e w' ⟨rfl, hb⟩
      rw [hlv]
      have hb1 := Below.of_alloc hb
      have HB2 := Lib.hid (below_next HB.out hb1)
      have HX2 := Lib.hid (HBX2.out.low hb1)
      clear hb xl x0 x1 x2 x3 x4 x5 x6 x7 x8 x9 c0 c1 c2 c3 c4 c5 c6 c7 c8 c9
      obtain ⟨xl, x0, x1, x2, x3, x4, x5, x6, x7, x8, x9, -⟩ := HX2.out
      simp only [Ex.mk_k, Ex.mk_op, Ex.mk_no, Ex.mk_vk, Ex.mk_vi, Ex.mk_vt, Ex.mk_tb, Ex.mk_nm, Ex.mk_pa, Ex.mk_ca, Ex.mk_args, Ex.mk_ps, Ex.mk_cs, Ex.mk_sub] at x0 x1 x2 x3 x4 x5 x6 x7 x8 x9
      rw [HN.out] at x8
      rw [HNS.out] at x9
      go_wp2_with fail
      have hIP := HIPk w' hkl (by omega) (HA0.out.low HB2.out).any
      rw [HN.out, HXE.out] at hIP
      refine hIP.mono ?_
      rintro e w2 ⟨rfl, hb2⟩
      have HB3 := Lib.hid (below_next HB2.out hb2)
      clear hb2 hIP xl x0 x1 x2 x3 x4 x5 x6 x7 x8 x9
      have hFF := HFK.out
      rw [hlv] at hFF
      have HFF := Lib.hid hFF
      clear hFF
      cases hdec : decide (prec x.k x.op < least ek eop k)
      all_goals
        have HDC := Lib.hid hdec
        clear hdec
        go_wp2
        go_roundw
        case rel =>
          refine ⟨k + 1, by omega, by go_num, ?_, HB3.out⟩
          rw [HM1.out, HFF.out, HDC.out, ← max_if]
          simp [b2i] <;> first | rfl | exact max_if _ _
        case measure => simp [intOf]; omega
    · have hlt' : decide ((k : Int) < n) = false := decide_eq_false (by omega)
      obtain rfl : k = n := by omega
      have HBX2 := Lib.hid (HX0.out.low HB.out)
      obtain ⟨xl, x0, x1, x2, x3, x4, x5, x6, x7, x8, x9, -⟩ := HBX2.out
      simp only [Ex.mk_k, Ex.mk_op, Ex.mk_no, Ex.mk_vk, Ex.mk_vi, Ex.mk_vt, Ex.mk_tb, Ex.mk_nm, Ex.mk_pa, Ex.mk_ca, Ex.mk_args, Ex.mk_ps, Ex.mk_cs, Ex.mk_sub] at x0 x1 x2 x3 x4 x5 x6 x7 x8 x9
      rw [HN.out] at x8
      rw [HNS.out] at x9
      have hm0 := HMF0.out
      have hm1 := HMF.out
      generalize hmk : mxN k F = m at *
      have HMK := Lib.hid hmk
      clear hmk
      obtain ⟨M, hM, hM0, hM1, H34⟩ : ∃ M, Hid (M = m + B) ∧ 0 ≤ M ∧ M ≤ 4000000002 ∧ (((ek == 3) = true ∧ M = m + 1) ∨ ((ek == 3) = false ∧ (ek == 4) = true ∧ M = m + 1) ∨ ((ek == 3) = false ∧ (ek == 4) = false ∧ M = m)) := by
        by_cases h3 : ek = 3
        · exact ⟨m + 1, Lib.hid (by rw [show B = 1 from HBB.out.symm.trans (if_pos (Or.inl h3))]), by omega, by omega, .inl ⟨by simp [h3], rfl⟩⟩
        by_cases h4 : ek = 4
        · exact ⟨m + 1, Lib.hid (by rw [show B = 1 from HBB.out.symm.trans (if_pos (Or.inr h4))]), by omega, by omega, .inr (.inl ⟨by simp [h3], by simp [h4], rfl⟩)⟩
        · exact ⟨m, Lib.hid (by rw [show B = 0 from HBB.out.symm.trans (if_neg (by omega))]; omega), by omega, by omega, .inr (.inr ⟨by simp [h3], by simp [h4], rfl⟩)⟩
      have hm2 : m ≤ 4000000001 := by omega
      have HMM := hM
      clear hM
      rcases H34 with ⟨e3, hMm⟩ | ⟨e3, e4, hMm⟩ | ⟨e3, e4, hMm⟩
      all_goals
        have HMm := Lib.hid hMm
        clear hMm
        go_wp2_with fail
        clear xl x0 x1 x2 x3 x4 x5 x6 x7 x8 x9
        go_loopw [3, 41] (fun r i v => ∃ j : Nat, j ≤ ns ∧ i = .int .i64 j ∧ (∃ z : Int, r = .int .i64 z ∧ Hid (z = max M (mxN j G))) ∧ Below W0.heap.size W0 v) (fun _ i _ => ns - (intOf i).toNat)
        case atStart =>
          refine ⟨0, Nat.zero_le _, rfl, ⟨_, rfl, Lib.hid ?_⟩, HB.out⟩
          show _ = max M 0
          have := HMm.out
          omega
        case round =>
          obtain ⟨j, hj, rfl, ⟨z, rfl, hzz⟩, hb⟩ := hrel
          have HC := Lib.hid hb
          clear hb
          by_cases hlt2 : j < ns
          · have hlt' : decide ((j : Int) < ns) = true := decide_eq_true (by omega)
            have hjl : j < esub.length := by rw [HNS.out]; exact hlt2
            obtain ⟨g, o, rfl, hg, hN, hC, hX⟩ := HS0.out.low HC.out j hjl
            have HQ := Lib.hid (HFQ.out _ (qAt_mem hjl))
            have HX := Lib.hid hX
            clear hX
            obtain ⟨c0, c1, c2, c3⟩ := hC
            have hG := HGD.out j
            have hw0 := HMN.out (qAt esub j).wh
            have hw1 := HML.out (qAt esub j).wh
            have hi0 := HMN.out (qAt esub j).items
            have hi1 := HML.out (qAt esub j).items
            generalize hxe : qAt esub j = x at HX HQ c0 c1 c2 c3 hG hw0 hw1 hi0 hi1
            clear hxe
            have HWC := Lib.hid (fun u (hu : LAt N u (ExAt N u d) x.pw x.wh) => HM.out x.pw x.wh x.cw u hu HQ.out.allW HX.out.lenw)
            have HIC := Lib.hid (fun u (hu : LAt N u (ExAt N u d) x.pi x.items) => HM.out x.pi x.items x.ci u hu HQ.out.allI HX.out.leni)
            generalize most (lev d) x.wh = yw at hG hw0 hw1 HWC
            generalize most (lev d) x.items = yi at hG hi0 hi1 HIC
            have hw2 : yw ≤ 4000000000 := by omega
            have hi2 : yi ≤ 4000000000 := by omega
            have HG := Lib.hid hG
            clear hG
            go_wp2_with fail
            refine (HWC.out _ ((HX.out.low (below_alloc _ _)).wh)).mono ?_
            rintro e w' ⟨rfl, hb⟩
            have HQX := Lib.hid ((QuBx.new _ x _).low hb)
            have HB2 := Lib.hid (below_next HC.out (Below.of_alloc hb))
            have HX3 := Lib.hid (HX.out.low (Below.of_alloc hb))
            clear hb c0 c1 c2 c3
            obtain ⟨xl, x0, -, -, -, -, -, -, -, -, -, -⟩ := (HX0.out.low HB2.out)
            simp only [Ex.mk_k] at x0
            obtain ⟨yl, y0, y1, y2, y3, -⟩ := HQX.out
            by_cases h8 : ek = 8
            · have HG8 := Lib.hid (show G j = max (1 + yw) 0 from HG.out.trans (congrArg _ (if_pos h8)))
              have e8 : (ek == 8) = true := beq_iff_eq.2 h8
              have e8' : (ek != 8) = false := by rw [bne, e8]; rfl
              clear h8
              go_wp2
              go_roundw
              case rel =>
                refine ⟨j + 1, by omega, by go_num, ⟨_, rfl, Lib.hid ?_⟩, HB2.out⟩
                show _ = max M (max (mxN j G) (G j))
                have h1 := hzz.out
                have h2 := HG8.out
                first | omega | (split <;> omega)
              case measure => simp [intOf]; omega
            · have HG8 := Lib.hid (show G j = max (1 + yw) (2 + yi) from HG.out.trans (congrArg _ (if_neg h8)))
              have e8 : (ek == 8) = false := beq_eq_false_iff_ne.2 h8
              have e8' : (ek != 8) = true := by rw [bne, e8]; rfl
              clear h8
              go_wp2_with fail
              refine (HIC.out _ HX3.out.items).mono ?_
              rintro e w2 ⟨rfl, hb2⟩
              have HB3 := Lib.hid (below_next HB2.out hb2)
              clear hb2 xl x0 yl y0 y1 y2 y3
              go_wp2
              go_roundw
              case rel =>
                refine ⟨j + 1, by omega, by go_num, ⟨_, rfl, Lib.hid ?_⟩, HB3.out⟩
                show _ = max M (max (mxN j G) (G j))
                have h1 := hzz.out
                have h2 := HG8.out
                first | omega | (split <;> omega) | (split <;> split <;> omega)
              case measure => simp [intOf]; omega
          · have hlt' : decide ((j : Int) < ns) = false := decide_eq_false (by omega)
            obtain rfl : j = ns := by omega
            go_wp2
            go_ret
            exact ⟨ret_int (by rw [hzz.out, HMM.out, HMK.out]), below_next HBX.out HC.out⟩
theorem rlevelsOf_any : ∀ d, d ≤ 2000000000 → RLevDoes d
  | 0, _ => fun _ _ _ h => h.elim
  | d + 1, h => rlevelsOf_step (rlevelsOf_any d (by omega)) (by omega)
end Go.Proofs.YtdlehlbahkikgaaDoor
/-
  ValidExpr of package syntax: conditions, queries, the whole.
-/
namespace Go.Proofs.YtdlehlbahkikgaaDoor
set_option maxRecDepth 100000
open Go.RowKit
variable {ls : List Nat}

set_option maxHeartbeats 1000000 in
theorem validCond_any {d : Nat} (H : ValDoes ls d) {N : Nat → Prop} (p : Option Addr) (l : List Ex) (cap : Nat) (w : World) (hA : LAt N w (ExAt N w d) p l) (hz : l.length ≤ 9223372036854775807) (hE : Env ls w) :
    Calls Tryd.prog 54 #[.slice p l.length cap] w fun r w' => r = .returned (.bool (decide (l.length ≤ 1) && l.all (vE d))) ∧ Below w.heap.size w w' := by
  have HC := Lib.hid (validExprs_any H p l cap w hA hz hE)
  clear hA hE H
  generalize l.all (vE d) = AA at *
  generalize l.length = n at *
  by_cases h : n ≤ 1
  · have HD := Lib.hid (show (decide (n ≤ 1) && AA) = AA by rw [decide_eq_true h]; rfl)
    have hn : decide ((n : Int) ≤ 1) = true := decide_eq_true (by omega)
    go_enter Tryd.func54, Tryd.ntmps54
    go_wp2_with fail
    refine HC.out.mono ?_
    rintro e w2 ⟨rfl, hb⟩
    have HB := Lib.hid hb
    clear hb
    go_wp2
    go_ret
    exact ⟨ret_bool HD.out.symm, HB.out⟩
  · have HD := Lib.hid (show (decide (n ≤ 1) && AA) = false by rw [decide_eq_false h]; rfl)
    have hn : decide ((n : Int) ≤ 1) = false := decide_eq_false (by omega)
    go_enter Tryd.func54, Tryd.ntmps54
    go_wp2
    go_ret
    exact ⟨ret_bool HD.out.symm, Below.refl _ _⟩
set_option maxHeartbeats 1000000 in
theorem validParts_any {d : Nat} (H : ValDoes ls d) {N : Nat → Prop} (q : Qu) (w : World) (hq : QuIn N w (ExAt N w d) q) (hE : Env ls w) :
    Calls Tryd.prog 36 #[quV q] w fun r w' => r = .returned (.bool (partsB (vE d) q)) ∧ Below w.heap.size w w' := by
  have HC := Lib.hid fun u hb => validCond_any H q.pw q.wh q.cw u (hq.low hb).wh hq.lenw (hE.low hb)
  have HI := Lib.hid fun u hb => validExprs_any H q.pi q.items q.ci u (hq.low hb).items hq.leni (hE.low hb)
  have HS := Lib.hid hq.size
  have hb0 := below_alloc w (.cells #[.bool q.st, .slice q.pi q.items.length q.ci, .string q.fr, .slice q.pw q.wh.length q.cw] 34)
  have HX := Lib.hid (QuBx.new w q 34)
  have HB0 := Lib.hid hb0
  clear hq hE H hb0
  unfold quV partsB
  generalize q.items.all (vE d) = AI at *
  generalize (decide (q.wh.length ≤ 1) && q.wh.all (vE d)) = AW at *
  generalize q.items.length = ni at *
  generalize q.wh.length = nw at *
  generalize q.st = st at *
  generalize q.pi = pi at *
  generalize q.ci = ci at *
  generalize q.fr = fr at *
  generalize q.pw = pw at *
  generalize q.cw = cw at *
  go_enter Tryd.func36, Tryd.ntmps36
  go_wp2_with fail
  refine (source_any fr _ HS.out).mono ?_
  rintro e w2 ⟨rfl, hb2⟩
  have HB2 := Lib.hid (below_next HB0.out hb2)
  have HX2 : Hid (w2.cell? ⟨w.heap.size, 1, none⟩ = some (.slice pi ni ci) ∧ w2.cell? ⟨w.heap.size, 3, none⟩ = some (.slice pw nw cw) ∧ w.heap.size < w2.heap.size) := Lib.hid ⟨by rw [hb2.cell (by simp)]; go_simp, by rw [hb2.cell (by simp)]; go_simp, Nat.lt_of_lt_of_le (by simp) hb2.size⟩
  clear hb2 HX
  obtain ⟨x1, x3, xl⟩ := HX2.out
  cases hs : srcB fr
  · have HV := Lib.hid hs
    clear hs
    go_wp2
    go_ret
    exact ⟨ret_bool (by simp [HV.out]), HB2.out⟩
  · have HV := Lib.hid hs
    clear hs
    go_wp2_with fail
    refine (HC.out _ HB2.out).mono ?_
    rintro e w3 ⟨rfl, hb3⟩
    have HB3 := Lib.hid (below_next HB2.out hb3)
    have y1 : w3.cell? ⟨w.heap.size, 1, none⟩ = some (.slice pi ni ci) := by rw [hb3.cell (by exact xl)]; exact x1
    clear hb3 x1 x3 xl HX2
    cases AW
    · go_wp2
      go_ret
      exact ⟨ret_bool (by simp [HV.out]), HB3.out⟩
    · go_wp2_with fail
      refine (HI.out _ HB3.out).mono ?_
      rintro e w4 ⟨rfl, hb4⟩
      have HB4 := Lib.hid (below_next HB3.out hb4)
      clear hb4
      go_wp2
      go_ret
      exact ⟨ret_bool (by simp [HV.out]), HB4.out⟩
theorem kindV_1 {V : Ex → Bool} {e : Ex} (h : e.k = 1) : kindV V e = (validB e.vk e.vi e.vt && decide (0 ≤ e.vi)) := by unfold kindV; rw [if_pos h]
theorem kindV_2 {V : Ex → Bool} {e : Ex} (h : e.k = 2) : kindV V e = (nameOK e.nm && qualB e.tb) := by unfold kindV; rw [if_neg (by omega), if_pos h]
theorem kindV_3 {V : Ex → Bool} {e : Ex} (h : e.k = 3 ∨ e.k = 4 ∨ e.k = 6) : kindV V e = (decide (e.args.length = 1) && e.args.all V) := by unfold kindV; rw [if_neg (by omega), if_neg (by omega), if_pos h]
theorem kindV_5 {V : Ex → Bool} {e : Ex} (h : e.k = 5) : kindV V e = (decide (1 ≤ e.op ∧ e.op ≤ 13) && decide (e.args.length = 2) && e.args.all V) := by unfold kindV; rw [if_neg (by omega), if_neg (by omega), if_neg (by omega), if_pos h]
theorem kindV_7 {V : Ex → Bool} {e : Ex} (h : e.k = 7) : kindV V e = (decide (e.args.length = 3) && e.args.all V) := by unfold kindV; rw [if_neg (by omega), if_neg (by omega), if_neg (by omega), if_neg (by omega), if_pos h]
theorem kindV_8 {V : Ex → Bool} {e : Ex} (h : 8 ≤ e.k) : kindV V e = (decide (e.sub.length = 1) && hasR e.k (qAt e.sub 0).st (qAt e.sub 0).items.length && partsB V (qAt e.sub 0)) := by unfold kindV; rw [if_neg (by omega), if_neg (by omega), if_neg (by omega), if_neg (by omega), if_neg (by omega)]; rfl
theorem fitB_range {k op vk vi : Int} {no : Bool} {vt tb nm : ByteArray} {n n' : Nat} (h : fitB k op vk vi no vt tb nm n n' = true) : 1 ≤ k ∧ k ≤ 12 := by
  unfold fitB at h
  simp only [Bool.and_eq_true, decide_eq_true_eq] at h
  exact h.1
set_option maxHeartbeats 8000000 in
theorem valid_core (k op vk vi : Int) (no : Bool) (vt tb nm : ByteArray) (pa ps : Option Addr) (na ca ns cs : Nat) (KV AA PB : Bool) (q : Qu) (w : World) (hE : Env ls w) (hu : 2 ∈ ls)
    (hvt : vt.size ≤ 9223372036854775807) (htb : tb.size ≤ 9223372036854775807) (hnm : nm.size ≤ 9223372036854775807)
    (e1 : k = 1 → KV = (validB vk vi vt && decide (0 ≤ vi))) (e2 : k = 2 → KV = (nameOK nm && qualB tb)) (e3 : k = 3 ∨ k = 4 ∨ k = 6 → KV = (decide (na = 1) && AA)) (e5 : k = 5 → KV = (decide (1 ≤ op ∧ op ≤ 13) && decide (na = 2) && AA)) (e7 : k = 7 → KV = (decide (na = 3) && AA)) (e8 : 8 ≤ k → KV = (decide (ns = 1) && hasR k q.st q.items.length && PB))
    (h1 : ∀ u, Below w.heap.size w u → Calls Tryd.prog 33 #[.slice pa na ca] u fun r w' => r = .returned (.bool AA) ∧ Below u.heap.size u w')
    (h2 : ∀ u, Below w.heap.size w u → 0 < ns → ∃ g o, ps = some ⟨g, o, none⟩ ∧ g < u.heap.size ∧ QuC u g o q)
    (h3 : ∀ u, Below w.heap.size w u → 0 < ns → Calls Tryd.prog 36 #[quV q] u fun r w' => r = .returned (.bool PB) ∧ Below u.heap.size u w') :
    Calls Tryd.prog 12 #[.agg #[.int .i64 k, .int .i64 op, .bool no, .int .i64 vk, .int .i64 vi, .string vt, .string tb, .string nm, .slice pa na ca, .slice ps ns cs]] w fun r w' => r = .returned (.bool (fitB k op vk vi no vt tb nm na ns && KV)) ∧ Below w.heap.size w w' := by
  have hb0 := below_alloc w (.cells #[.int .i64 k, .int .i64 op, .bool no, .int .i64 vk, .int .i64 vi, .string vt, .string tb, .string nm, .slice pa na ca, .slice ps ns cs] 30)
  have HSP := Lib.hid (spare_c (ls := ls) k op vk vi no vt tb nm pa ps na ca ns cs _ (hE.alloc (.cells #[.int .i64 k, .int .i64 op, .bool no, .int .i64 vk, .int .i64 vi, .string vt, .string tb, .string nm, .slice pa na ca, .slice ps ns cs] 30)) hu)
  have hl : w.heap.size < (w.alloc (.cells #[.int .i64 k, .int .i64 op, .bool no, .int .i64 vk, .int .i64 vi, .string vt, .string tb, .string nm, .slice pa na ca, .slice ps ns cs] 30)).heap.size := by simp
  have z0 : (w.alloc (.cells #[.int .i64 k, .int .i64 op, .bool no, .int .i64 vk, .int .i64 vi, .string vt, .string tb, .string nm, .slice pa na ca, .slice ps ns cs] 30)).cell? ⟨w.heap.size, 0, none⟩ = some (.int .i64 k) := by go_simp
  have z1 : (w.alloc (.cells #[.int .i64 k, .int .i64 op, .bool no, .int .i64 vk, .int .i64 vi, .string vt, .string tb, .string nm, .slice pa na ca, .slice ps ns cs] 30)).cell? ⟨w.heap.size, 1, none⟩ = some (.int .i64 op) := by go_simp
  have z3 : (w.alloc (.cells #[.int .i64 k, .int .i64 op, .bool no, .int .i64 vk, .int .i64 vi, .string vt, .string tb, .string nm, .slice pa na ca, .slice ps ns cs] 30)).cell? ⟨w.heap.size, 3, none⟩ = some (.int .i64 vk) := by go_simp
  have z4 : (w.alloc (.cells #[.int .i64 k, .int .i64 op, .bool no, .int .i64 vk, .int .i64 vi, .string vt, .string tb, .string nm, .slice pa na ca, .slice ps ns cs] 30)).cell? ⟨w.heap.size, 4, none⟩ = some (.int .i64 vi) := by go_simp
  have z5 : (w.alloc (.cells #[.int .i64 k, .int .i64 op, .bool no, .int .i64 vk, .int .i64 vi, .string vt, .string tb, .string nm, .slice pa na ca, .slice ps ns cs] 30)).cell? ⟨w.heap.size, 5, none⟩ = some (.string vt) := by go_simp
  have z6 : (w.alloc (.cells #[.int .i64 k, .int .i64 op, .bool no, .int .i64 vk, .int .i64 vi, .string vt, .string tb, .string nm, .slice pa na ca, .slice ps ns cs] 30)).cell? ⟨w.heap.size, 6, none⟩ = some (.string tb) := by go_simp
  have z7 : (w.alloc (.cells #[.int .i64 k, .int .i64 op, .bool no, .int .i64 vk, .int .i64 vi, .string vt, .string tb, .string nm, .slice pa na ca, .slice ps ns cs] 30)).cell? ⟨w.heap.size, 7, none⟩ = some (.string nm) := by go_simp
  have z8 : (w.alloc (.cells #[.int .i64 k, .int .i64 op, .bool no, .int .i64 vk, .int .i64 vi, .string vt, .string tb, .string nm, .slice pa na ca, .slice ps ns cs] 30)).cell? ⟨w.heap.size, 8, none⟩ = some (.slice pa na ca) := by go_simp
  have z9 : (w.alloc (.cells #[.int .i64 k, .int .i64 op, .bool no, .int .i64 vk, .int .i64 vi, .string vt, .string tb, .string nm, .slice pa na ca, .slice ps ns cs] 30)).cell? ⟨w.heap.size, 9, none⟩ = some (.slice ps ns cs) := by go_simp
  have HB0 := Lib.hid hb0
  have H1 := Lib.hid h1
  have H2 := Lib.hid h2
  have H3 := Lib.hid h3
  have HVT := Lib.hid hvt
  have HTB := Lib.hid htb
  have HNM := Lib.hid hnm
  have HEE := Lib.hid hE
  clear hb0 h1 h2 h3 hvt htb hnm hE
  go_enter Tryd.func12, Tryd.ntmps12
  go_wp2_with fail
  refine HSP.out.mono ?_
  rintro e w2 ⟨rfl, hb2⟩
  have HB2 := Lib.hid (below_next HB0.out hb2)
  have hl2 : w.heap.size < w2.heap.size := Nat.lt_of_lt_of_le hl hb2.size
  have x0 : w2.cell? ⟨w.heap.size, 0, none⟩ = some (.int .i64 k) := by rw [hb2.cell (by exact hl)]; exact z0
  have x1 : w2.cell? ⟨w.heap.size, 1, none⟩ = some (.int .i64 op) := by rw [hb2.cell (by exact hl)]; exact z1
  have x3 : w2.cell? ⟨w.heap.size, 3, none⟩ = some (.int .i64 vk) := by rw [hb2.cell (by exact hl)]; exact z3
  have x4 : w2.cell? ⟨w.heap.size, 4, none⟩ = some (.int .i64 vi) := by rw [hb2.cell (by exact hl)]; exact z4
  have x5 : w2.cell? ⟨w.heap.size, 5, none⟩ = some (.string vt) := by rw [hb2.cell (by exact hl)]; exact z5
  have x6 : w2.cell? ⟨w.heap.size, 6, none⟩ = some (.string tb) := by rw [hb2.cell (by exact hl)]; exact z6
  have x7 : w2.cell? ⟨w.heap.size, 7, none⟩ = some (.string nm) := by rw [hb2.cell (by exact hl)]; exact z7
  have x8 : w2.cell? ⟨w.heap.size, 8, none⟩ = some (.slice pa na ca) := by rw [hb2.cell (by exact hl)]; exact z8
  have x9 : w2.cell? ⟨w.heap.size, 9, none⟩ = some (.slice ps ns cs) := by rw [hb2.cell (by exact hl)]; exact z9
  clear hb2 hl z0 z1 z3 z4 z5 z6 z7 z8 z9 HSP
  cases hf : fitB k op vk vi no vt tb nm na ns
  · have HF := Lib.hid hf
    clear hf
    go_wp2
    go_ret
    exact ⟨ret_bool (by rw [HF.out]; rfl), HB2.out⟩
  · obtain ⟨hlo, hhi⟩ := fitB_range hf
    have HF := Lib.hid hf
    clear hf
    have hkk : k = 1 ∨ k = 2 ∨ (k = 3 ∨ k = 4 ∨ k = 6) ∨ k = 5 ∨ k = 7 ∨ 8 ≤ k := by omega
    rcases hkk with hk | hk | hk | hk | hk | hk
    · have HKV := Lib.hid (e1 hk)
      subst hk
      clear e1 e2 e3 e5 e7 e8
      go_wp2_with fail
      refine (valid_any vk vi vt _ HVT.out).mono ?_
      rintro e w3 ⟨rfl, hb3⟩
      have HB3 := Lib.hid (below_next HB2.out hb3)
      have y4 : w3.cell? ⟨w.heap.size, 4, none⟩ = some (.int .i64 vi) := by rw [hb3.cell (by exact hl2)]; exact x4
      clear hb3
      cases hvb : validB vk vi vt
      · go_wp2
        go_ret
        exact ⟨ret_bool (by rw [HF.out, HKV.out, hvb]; rfl), HB3.out⟩
      · go_wp2
        go_ret
        exact ⟨ret_bool (by rw [HF.out, HKV.out, hvb]; simp), HB3.out⟩
    · have HKV := Lib.hid (e2 hk)
      subst hk
      clear e1 e2 e3 e5 e7 e8
      go_wp2_with fail
      refine (validName_any nm _ HNM.out).mono ?_
      rintro e w3 ⟨rfl, hb3⟩
      have HB3 := Lib.hid (below_next HB2.out hb3)
      have y6 : w3.cell? ⟨w.heap.size, 6, none⟩ = some (.string tb) := by rw [hb3.cell (by exact hl2)]; exact x6
      clear hb3
      cases hvb : nameOK nm
      · go_wp2
        go_ret
        exact ⟨ret_bool (by rw [HF.out, HKV.out, hvb]; rfl), HB3.out⟩
      · go_wp2_with fail
        refine (qualifier_any tb _ HTB.out).mono ?_
        rintro e w4 ⟨rfl, hb4⟩
        have HB4 := Lib.hid (below_next HB3.out hb4)
        clear hb4
        go_wp2
        go_ret
        exact ⟨ret_bool (by rw [HF.out, HKV.out, hvb]; rfl), HB4.out⟩
    · have HKV := Lib.hid (e3 hk)
      clear e1 e2 e3 e5 e7 e8
      rcases hk with rfl | rfl | rfl
      all_goals
        by_cases hn : na = 1
        · subst hn
          go_wp2_with fail
          refine (H1.out _ HB2.out).mono ?_
          rintro e w3 ⟨rfl, hb3⟩
          have HB3 := Lib.hid (below_next HB2.out hb3)
          clear hb3
          go_wp2
          go_ret
          exact ⟨ret_bool (by rw [HF.out, HKV.out]; simp), HB3.out⟩
        · have hn2 : ((na : Int) == 1) = false := beq_eq_false_iff_ne.2 (by omega)
          go_wp2
          go_ret
          exact ⟨ret_bool (by rw [HF.out, HKV.out]; simp [hn]), HB2.out⟩
    · have HKV := Lib.hid (e5 hk)
      subst hk
      clear e1 e2 e3 e5 e7 e8
      by_cases ho : 1 ≤ op ∧ op ≤ 13
      · go_wp2_with fail
        refine (validOp_yes op ho.1 ho.2 _).mono ?_
        rintro e w3 ⟨rfl, rfl⟩
        rw [decide_eq_true ho] at HKV
        by_cases hn : na = 2
        · subst hn
          go_wp2_with fail
          refine (H1.out _ HB2.out).mono ?_
          rintro e w3 ⟨rfl, hb3⟩
          have HB3 := Lib.hid (below_next HB2.out hb3)
          clear hb3
          go_wp2
          go_ret
          exact ⟨ret_bool (by rw [HF.out, HKV.out]; simp), HB3.out⟩
        · have hn2 : ((na : Int) == 2) = false := beq_eq_false_iff_ne.2 (by omega)
          go_wp2
          go_ret
          exact ⟨ret_bool (by rw [HF.out, HKV.out]; simp [hn]), HB2.out⟩
      · go_wp2_with fail
        refine (validOp_no op (by omega) _).mono ?_
        rintro e w3 ⟨rfl, rfl⟩
        rw [decide_eq_false ho] at HKV
        go_wp2
        go_ret
        exact ⟨ret_bool (by rw [HF.out, HKV.out]; rfl), HB2.out⟩
    · have HKV := Lib.hid (e7 hk)
      subst hk
      clear e1 e2 e3 e5 e7 e8
      by_cases hn : na = 3
      · subst hn
        go_wp2_with fail
        refine (H1.out _ HB2.out).mono ?_
        rintro e w3 ⟨rfl, hb3⟩
        have HB3 := Lib.hid (below_next HB2.out hb3)
        clear hb3
        go_wp2
        go_ret
        exact ⟨ret_bool (by rw [HF.out, HKV.out]; simp), HB3.out⟩
      · have hn2 : ((na : Int) == 3) = false := beq_eq_false_iff_ne.2 (by omega)
        go_wp2
        go_ret
        exact ⟨ret_bool (by rw [HF.out, HKV.out]; simp [hn]), HB2.out⟩
    · have HKV := Lib.hid (e8 hk)
      clear e1 e2 e3 e5 e7 e8
      obtain ⟨qst, qpi, qci, qit, qfr, qpw, qcw, qwh⟩ := q
      have hk5 : k = 8 ∨ k = 9 ∨ k = 10 ∨ k = 11 ∨ k = 12 := by omega
      by_cases hn : ns = 1
      · subst hn
        obtain ⟨g, o, rfl, hg, hC⟩ := H2.out w2 HB2.out (by decide)
        have y0 := hC.c0
        have y1 := hC.c1
        have y2 := hC.c2
        have y3 := hC.c3
        simp only at y0 y1 y2 y3 HKV
        have l0 := lowW_cell (W := w2) (by exact hl2) x0
        have l9 := lowW_cell (W := w2) (by exact hl2) x9
        have m0 := lowW_cell (W := w2) (by exact hg) y0
        have m1 := lowW_cell (W := w2) (by exact hg) y1
        have m2 := lowW_cell (W := w2) (by exact hg) y2
        have m3 := lowW_cell (W := w2) (by exact hg) y3
        have H3q : Hid (∀ u, Below w.heap.size w u → Calls Tryd.prog 36 #[.agg #[.bool qst, .slice qpi qit.length qci, .string qfr, .slice qpw qwh.length qcw]] u fun r w' => r = .returned (.bool PB) ∧ Below u.heap.size u w') := Lib.hid (fun u hb => H3.out u hb (by decide))
        have hHI := Lib.hid (hasItems_any k qst qpi qpw qit.length qci qwh.length qcw qfr)
        generalize qit.length = qn at *
        generalize qwh.length = qm at *
        clear hC y0 y1 y2 y3 x1 x3 x4 x5 x6 x7 x8
        cases hh : hasR k qst qn
        · have HKF : Hid ((fitB k op vk vi no vt tb nm na 1 && KV) = false) := Lib.hid (by rw [HF.out, HKV.out, hh]; rfl)
          rw [hh] at hHI
          clear hh HKV HF
          rcases hk5 with rfl | rfl | rfl | rfl | rfl
          all_goals
            go_upto_region 21 with (fail)
            refine wp_region_low (by kernel_rfl) (by kernel_rfl) ?_
            repeat (refine wq_step (fun K hK => ?_); go_simp; first | (refine hK _ ?_; clear hK K) | (apply Exists.intro; refine ⟨fun _ => ?_, hK _ ?_⟩; (go_at_call 35; exact Calls.low_of (hHI.out _)); clear hK K))
            refine wq_nil ?_
            rintro _ ⟨⟨d3, os3⟩, rfl⟩
            dsimp only
            have HB3 := Lib.hid (below_next HB2.out (lowW_low w2 d3 os3))
            clear l0 l9 m0 m1 m2 m3 x0 x9 hg hl2
            generalize lowW w2 d3 os3 = W3 at HB3 ⊢
            go_wp2
            go_ret
            exact ⟨ret_bool HKF.out.symm, HB3.out⟩
        · have HKF : Hid ((fitB k op vk vi no vt tb nm na 1 && KV) = PB) := Lib.hid (by rw [HF.out, HKV.out, hh]; simp)
          rw [hh] at hHI
          clear hh HKV HF
          rcases hk5 with rfl | rfl | rfl | rfl | rfl
          all_goals
            go_upto_region 21 with (fail)
            refine wp_region_low (by kernel_rfl) (by kernel_rfl) ?_
            repeat (refine wq_step (fun K hK => ?_); go_simp; first | (refine hK _ ?_; clear hK K) | (apply Exists.intro; refine ⟨fun _ => ?_, hK _ ?_⟩; (first | (go_at_call 35; exact Calls.low_of (hHI.out _)) | (go_at_call 36; exact Calls.low_of (H3q.out _ (below_next HB2.out (lowW_low _ _ _))))); clear hK K))
            refine wq_nil ?_
            rintro _ ⟨⟨d3, os3⟩, rfl⟩
            dsimp only
            have HB3 := Lib.hid (below_next HB2.out (lowW_low w2 d3 os3))
            clear l0 l9 m0 m1 m2 m3 x0 x9 hg hl2
            generalize lowW w2 d3 os3 = W3 at HB3 ⊢
            go_wp2
            go_ret
            exact ⟨ret_bool HKF.out.symm, HB3.out⟩
      · have hn2 : ((ns : Int) == 1) = false := beq_eq_false_iff_ne.2 (by omega)
        have HKF : Hid ((fitB k op vk vi no vt tb nm na ns && KV) = false) := Lib.hid (by rw [HF.out, HKV.out, decide_eq_false hn]; rfl)
        clear HKV HF
        have l0 := lowW_cell (W := w2) (by exact hl2) x0
        have l9 := lowW_cell (W := w2) (by exact hl2) x9
        rcases hk5 with rfl | rfl | rfl | rfl | rfl
        all_goals
          go_upto_region 21 with (fail)
          refine wp_region_low (by kernel_rfl) (by kernel_rfl) ?_
          repeat (refine wq_step (fun K hK => ?_); go_simp; first | (refine hK _ ?_; clear hK K))
          refine wq_nil ?_
          rintro _ ⟨⟨d3, os3⟩, rfl⟩
          dsimp only
          have HB3 := Lib.hid (below_next HB2.out (lowW_low w2 d3 os3))
          clear l0 l9 x0 x9 hl2 x1 x3 x4 x5 x6 x7 x8
          generalize lowW w2 d3 os3 = W3 at HB3 ⊢
          go_wp2
          go_ret
          exact ⟨ret_bool HKF.out.symm, HB3.out⟩
theorem valid_step {d : Nat} (H : ValDoes ls d) (hu : 2 ∈ ls) : ValDoes ls (d + 1) := by
  intro N e w hA hE
  have hA : ExIn N w (ExAt N w d) e := hA
  show Calls _ _ _ w fun r w' => r = .returned (.bool (vOf (vE d) e)) ∧ Below w.heap.size w w'
  rw [vOf_kind]
  exact valid_core e.k e.op e.vk e.vi e.no e.vt e.tb e.nm e.pa e.ps e.args.length e.ca e.sub.length e.cs (kindV (vE d) e) (e.args.all (vE d)) (partsB (vE d) (qAt e.sub 0)) (qAt e.sub 0) w hE hu hA.vt hA.tb hA.nm
    kindV_1 kindV_2 kindV_3 kindV_5 kindV_7 kindV_8 (fun u hb => validExprs_any H e.pa e.args e.ca u (hA.args.low hb) hA.lena (hE.low hb))
    (fun u hb hs => by
      obtain ⟨g, o, h1, h2, -, h4, -⟩ := hA.sub.low hb 0 hs
      exact ⟨g, o, h1, h2, by simpa using h4⟩)
    (fun u hb hs => by
      obtain ⟨g, o, -, -, -, -, h5⟩ := hA.sub.low hb 0 hs
      exact validParts_any H (qAt e.sub 0) u h5 (hE.low hb))
theorem validExpr_any (hu : 2 ∈ ls) : ∀ d, ValDoes ls d
  | 0 => fun _ _ _ h => h.elim
  | d + 1 => valid_step (validExpr_any hu d) hu
end Go.Proofs.YtdlehlbahkikgaaDoor
