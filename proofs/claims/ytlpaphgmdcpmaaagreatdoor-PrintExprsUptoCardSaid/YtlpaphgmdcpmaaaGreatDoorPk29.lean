/-
  Several texts in one.
-/
import Derived.Test.YtlpaphgmdcpmaaaGreatDoorPk28
import Derived.Test.YtlpaphgmdcpmaaaGreatDoorPk25
import Derived.Test.YtlpaphgmdcpmaaaGreatDoorPk23
import Derived.Test.YtlpaphgmdcpmaaaGreatDoorPk19
/-
  ValidExpr of reference 11, the kinds from 3 on.
-/
namespace Go.Proofs.YtlpaphgmdcpmaaaGreatDoor
set_option maxRecDepth 100000
open Go.RowKit
variable {ls : List Nat}

/-- What the loop over the queries tests. -/
def quT (V : Ex → Bool) (k : Int) (q : Qu) : Bool := (q.st == decide (k = 8)) && srcB q.fr && q.items.all V && q.wh.all V
theorem qall_hit {V : Qu → Bool} {l : List Qu} {k : Nat} (hk : k < l.length) (h : V (qAt l k) = false) : l.all V = false := by
  rw [Bool.eq_false_iff]
  intro hh
  have := List.all_eq_true.1 hh _ (qAt_mem hk)
  rw [h] at this; cases this
theorem qall_none {V : Qu → Bool} {l : List Qu} (h : ∀ j, j < l.length → V (qAt l j) = true) : l.all V = true := by
  rw [List.all_eq_true]
  intro e he
  obtain ⟨i, hi, rfl⟩ := List.getElem_of_mem he
  have := h i hi
  unfold qAt at this
  rwa [List.getD, List.getElem?_eq_getElem hi] at this
theorem quT_quB {V : Ex → Bool} {e : Ex} (hs : shapeB e = true) : e.sub.all (quT V e.k) = e.sub.all (quB V e.k) := by
  unfold shapeB at hs
  simp only [Bool.and_eq_true, decide_eq_true_eq] at hs
  obtain ⟨⟨⟨⟨h1, h2⟩, h3⟩, h4⟩, h5⟩ := hs
  by_cases h8 : 8 ≤ e.k
  · rw [if_pos h8] at h5
    simp only [Bool.and_eq_true, decide_eq_true_eq] at h5
    rw [show subN e.k = 1 from if_pos ⟨h8, h1.2⟩] at h3
    match hl : e.sub, h3, h5 with
    | [q], _, h5 =>
      have h5' : q.items.length = itemN e.k ∧ q.wh.length ≤ 1 := h5
      unfold quT quB
      simp [h5'.1, h5'.2]
  · rw [show subN e.k = 0 from if_neg (by omega)] at h3
    rw [List.eq_nil_of_length_eq_zero h3]
    rfl
set_option maxHeartbeats 4000000 in
theorem rvalid_rest_a {d : Nat} (H : RValDoes d) {N : Nat → Prop} (e : Ex) (w : World) (hA : ExIn N w (ExAt N w d) e) (hs : shapeB e = true) (h1 : e.k ≠ 1) (h2 : e.k ≠ 2) (hk : e.k = 5) (hn : e.no = false) :
    Calls Tryz.prog 29 #[exV e] w fun r w' => r = .returned (.bool (plainB e && e.args.all (vE d) && e.sub.all (quT (vE d) e.k))) ∧ Below w.heap.size w w' := by
  have hQ := hA.sub
  have HS := Lib.hid fun u (hb : Below w.heap.size w u) => rshape e u (hQ.low hb)
  have HQ := Lib.hid hQ
  have HPL := Lib.hid (rplain e)
  have HAL := Lib.hid fun u (hb : Below w.heap.size w u) => rall_any H e.pa e.args e.ca u (hA.args.low hb) hA.lena
  have HRA := Lib.hid (@rall_any d H N)
  have HH := Lib.hid (fun k hk h => qall_hit (V := quT (vE d) e.k) (l := e.sub) (k := k) hk h)
  have HNN := Lib.hid (fun h => qall_none (V := quT (vE d) e.k) (l := e.sub) h)
  have hlen := hA.lens
  clear hQ hA
  rw [hs] at HS
  clear hs
  obtain ⟨b8, hb8, HQL⟩ : ∃ b, (e.k == 8) = b ∧ Hid (∀ q : Qu, quT (vE d) e.k q = ((q.st == b) && srcB q.fr && q.items.all (vE d) && q.wh.all (vE d))) := ⟨_, rfl, Lib.hid fun q => by unfold quT; rw [show decide (e.k = 8) = (e.k == 8) from by rw [Bool.eq_iff_iff]; simp]⟩
  generalize quT (vE d) e.k = V at *
  generalize e.sub.all V = res at *
  generalize plainB e = bp at *
  generalize e.args.all (vE d) = ba at *
  generalize hns : e.sub.length = ns at *
  have HNS := Lib.hid hns
  clear hns
  obtain ⟨k, op, no, vk, vi, vt, tb, nm, pa, ca, args, ps, cs, sub⟩ := e
  unfold exV at *
  simp only [Ex.mk_k, Ex.mk_op, Ex.mk_no, Ex.mk_vk, Ex.mk_vi, Ex.mk_vt, Ex.mk_tb, Ex.mk_nm, Ex.mk_pa, Ex.mk_ca, Ex.mk_args, Ex.mk_ps, Ex.mk_cs, Ex.mk_sub] at *
  have hns : sub.length = ns := HNS.out
  rw [hns] at HS HPL ⊢
  clear hns
  have b1 : (k == 1) = false := beq_eq_false_iff_ne.2 h1
  have b2 : (k == 2) = false := beq_eq_false_iff_ne.2 h2
  clear h1 h2
  subst hk hn
  have b5 : ((5 : Int) == 5) = true := rfl
  have b5' : ((5 : Int) != 5) = false := rfl
  have b6 : ((5 : Int) == 6) = false := rfl
  have b6' : ((5 : Int) != 6) = true := rfl
  go_enter Tryz.func29, Tryz.ntmps29
  go_wp2_with fail
  refine (HS.out _ (below_alloc _ _)).mono ?_
  rintro e w' ⟨rfl, hb⟩
  have hbx := ExB.new w (Ex.mk 5 op false vk vi vt tb nm pa ca args ps cs sub) 27
  simp only [Ex.mk_k, Ex.mk_op, Ex.mk_no, Ex.mk_vk, Ex.mk_vi, Ex.mk_vt, Ex.mk_tb, Ex.mk_nm, Ex.mk_pa, Ex.mk_ca, Ex.mk_args, Ex.mk_ps, Ex.mk_cs, Ex.mk_sub] at hbx
  rw [HNS.out] at hbx
  have HXB := Lib.hid (hbx.low hb)
  have HB := Lib.hid (Below.of_alloc hb)
  clear hb hbx
  obtain ⟨xl, x0, x1, x2, x3, x4, x5, x6, x7, x8, x9, -⟩ := HXB.out
  simp only [Ex.mk_k, Ex.mk_op, Ex.mk_no, Ex.mk_vk, Ex.mk_vi, Ex.mk_vt, Ex.mk_tb, Ex.mk_nm, Ex.mk_pa, Ex.mk_ca, Ex.mk_args, Ex.mk_ps, Ex.mk_cs, Ex.mk_sub] at x0 x1 x2 x3 x4 x5 x6 x7 x8 x9
  rw [HNS.out] at x9
  go_wp2_with fail
  refine (HPL.out _).mono ?_
  rintro e w2 ⟨rfl, hb2⟩
  have HB2 := Lib.hid (below_next HB.out hb2)
  have HX2 := Lib.hid (HXB.out.low hb2)
  clear hb2 xl x0 x1 x2 x3 x4 x5 x6 x7 x8 x9
  obtain ⟨xl, x0, x1, x2, x3, x4, x5, x6, x7, x8, x9, -⟩ := HX2.out
  simp only [Ex.mk_k, Ex.mk_op, Ex.mk_no, Ex.mk_vk, Ex.mk_vi, Ex.mk_vt, Ex.mk_tb, Ex.mk_nm, Ex.mk_pa, Ex.mk_ca, Ex.mk_args, Ex.mk_ps, Ex.mk_cs, Ex.mk_sub] at x0 x1 x2 x3 x4 x5 x6 x7 x8 x9
  rw [HNS.out] at x9
  cases bp
  · go_wp2
    go_ret
    exact ⟨rfl, HB2.out⟩
  go_wp2_with fail
  refine (HAL.out _ HB2.out).mono ?_
  rintro e w3 ⟨rfl, hb3⟩
  have HB3 := Lib.hid (below_next HB2.out hb3)
  have HX3 := Lib.hid (HX2.out.low hb3)
  clear hb3 xl x0 x1 x2 x3 x4 x5 x6 x7 x8 x9
  obtain ⟨xl, x0, x1, x2, x3, x4, x5, x6, x7, x8, x9, -⟩ := HX3.out
  simp only [Ex.mk_k, Ex.mk_op, Ex.mk_no, Ex.mk_vk, Ex.mk_vi, Ex.mk_vt, Ex.mk_tb, Ex.mk_nm, Ex.mk_pa, Ex.mk_ca, Ex.mk_args, Ex.mk_ps, Ex.mk_cs, Ex.mk_sub] at x0 x1 x2 x3 x4 x5 x6 x7 x8 x9
  rw [HNS.out] at x9
  cases ba
  · go_wp2
    go_ret
    exact ⟨rfl, HB3.out⟩
  go_wp2_with fail
  clear xl x0 x1 x2 x3 x4 x5 x6 x7 x8 x9
  go_loopw [101] (fun i v => ∃ j : Nat, j ≤ ns ∧ i = .int .i64 j ∧ (∀ t, t < j → V (qAt sub t) = true) ∧ Below w3.heap.size w3 v) (fun i _ => ns - (intOf i).toNat)
  case atStart => exact ⟨0, Nat.zero_le _, rfl, fun t ht => by omega, Below.refl _ _⟩
  case round =>
    obtain ⟨j, hj, rfl, ha, hb⟩ := hrel
    have HL := Lib.hid hb
    have HAK := Lib.hid ha
    clear hb ha
    by_cases hlt : j < ns
    · have hlt' : decide ((j : Int) < ns) = true := decide_eq_true (by omega)
      have hjl : j < sub.length := by rw [HNS.out]; exact hlt
      obtain ⟨g, o, rfl, hg, hN, hC, hX⟩ := (HQ.out.low HB3.out).low HL.out j hjl
      have HX := Lib.hid hX
      have HHK := Lib.hid (HH.out j hlt)
      have HVQ := Lib.hid (HQL.out (qAt sub j))
      clear hX
      obtain ⟨c0, c1', c2', c3⟩ := hC
      generalize hxe : qAt sub j = x at *
      have HXE := Lib.hid hxe
      clear hxe
      obtain ⟨st, pi, ci, items, fr, pw, cw, wh⟩ := x
      simp only at c0 c1' c2' c3 HVQ
      go_upto_region 14 with (fail)
      have hal := below_alloc wr (.cells #[.bool st, .slice pi items.length ci, .string fr, .slice pw wh.length cw] 53)
      have HL2 := Lib.hid (below_next HL.out hal)
      have hyx := QuBx.new wr ⟨st, pi, ci, items, fr, pw, cw, wh⟩ 53
      have hxx := (HX3.out.low HL.out).low hal
      have HXI := Lib.hid (HX.out.low hal)
      clear c0 c1' c2' c3 hal
      simp only at hyx
      generalize wr.alloc (.cells #[.bool st, .slice pi items.length ci, .string fr, .slice pw wh.length cw] 53) = W2 at *
      generalize wr.heap.size = Y at *
      have l0 := hxx.c0
      have HY := Lib.hid hyx
      obtain ⟨yl, m0, m1, m2, m3, -⟩ := hyx
      simp only [Ex.mk_k] at l0
      simp only at m0 m1 m2 m3
      clear hxx
      have HC1 := Lib.hid (rsource_any fr HXI.out.size)
      have HC2 := Lib.hid (fun u (hb : Below W2.heap.size W2 u) => HRA.out pi items ci u (HXI.out.items.low hb) HXI.out.leni)
      have HC3 := Lib.hid (fun u (hb : Below W2.heap.size W2 u) => HRA.out pw wh cw u (HXI.out.wh.low hb) HXI.out.lenw)
      generalize srcB fr = s at *
      generalize items.all (vE d) = ai at *
      generalize wh.all (vE d) = aw at *
      have hcase : (¬ st = b8) ∨ (st = b8 ∧ s = false) ∨ (st = b8 ∧ s = true ∧ ai = false) ∨ (st = b8 ∧ s = true ∧ ai = true ∧ aw = false) ∨ (st = b8 ∧ s = true ∧ ai = true ∧ aw = true) := by
        cases st <;> cases b8 <;> cases s <;> cases ai <;> cases aw <;> simp
      rcases hcase with hne | ⟨rfl, rfl⟩ | ⟨rfl, rfl, rfl⟩ | ⟨rfl, rfl, rfl, rfl⟩ | ⟨rfl, rfl, rfl, rfl⟩
      · skip
        have HV := Lib.hid (HHK.out (by rw [HVQ.out]; simp [hne]))
        go_wp2
        go_ret
        exact ⟨ret_bool (by rw [HV.out]; simp), below_next HB3.out (below_next HL2.out (Below.refl W2.heap.size W2))⟩
      · skip
        have HV := Lib.hid (HHK.out (by rw [HVQ.out]; simp))
        go_wp2_with fail
        refine (HC1.out _).mono ?_
        rintro e v1 ⟨rfl, hbv⟩
        have HLW1 := Lib.hid (below_next (Below.refl W2.heap.size W2) hbv)
        have HY1 := Lib.hid (HY.out.low hbv)
        clear hbv yl m0 m1 m2 m3
        obtain ⟨yl, m0, m1, m2, m3, -⟩ := HY1.out
        simp only at m0 m1 m2 m3
        go_wp2
        go_ret
        exact ⟨ret_bool (by rw [HV.out]; simp), below_next HB3.out (below_next HL2.out HLW1.out)⟩
      · skip
        have HV := Lib.hid (HHK.out (by rw [HVQ.out]; simp))
        go_wp2_with fail
        refine (HC1.out _).mono ?_
        rintro e v1 ⟨rfl, hbv⟩
        have HLW1 := Lib.hid (below_next (Below.refl W2.heap.size W2) hbv)
        have HY1 := Lib.hid (HY.out.low hbv)
        clear hbv yl m0 m1 m2 m3
        obtain ⟨yl, m0, m1, m2, m3, -⟩ := HY1.out
        simp only at m0 m1 m2 m3
        go_wp2_with fail
        refine (HC2.out _ HLW1.out).mono ?_
        rintro e v2 ⟨rfl, hbv⟩
        have HLW2 := Lib.hid (below_next HLW1.out hbv)
        have HY2 := Lib.hid (HY1.out.low hbv)
        clear hbv yl m0 m1 m2 m3
        obtain ⟨yl, m0, m1, m2, m3, -⟩ := HY2.out
        simp only at m0 m1 m2 m3
        go_wp2
        go_ret
        exact ⟨ret_bool (by rw [HV.out]; simp), below_next HB3.out (below_next HL2.out HLW2.out)⟩
      · skip
        have HV := Lib.hid (HHK.out (by rw [HVQ.out]; simp))
        go_wp2_with fail
        refine (HC1.out _).mono ?_
        rintro e v1 ⟨rfl, hbv⟩
        have HLW1 := Lib.hid (below_next (Below.refl W2.heap.size W2) hbv)
        have HY1 := Lib.hid (HY.out.low hbv)
        clear hbv yl m0 m1 m2 m3
        obtain ⟨yl, m0, m1, m2, m3, -⟩ := HY1.out
        simp only at m0 m1 m2 m3
        go_wp2_with fail
        refine (HC2.out _ HLW1.out).mono ?_
        rintro e v2 ⟨rfl, hbv⟩
        have HLW2 := Lib.hid (below_next HLW1.out hbv)
        have HY2 := Lib.hid (HY1.out.low hbv)
        clear hbv yl m0 m1 m2 m3
        obtain ⟨yl, m0, m1, m2, m3, -⟩ := HY2.out
        simp only at m0 m1 m2 m3
        go_wp2_with fail
        refine (HC3.out _ HLW2.out).mono ?_
        rintro e v3 ⟨rfl, hbv⟩
        have HLW3 := Lib.hid (below_next HLW2.out hbv)
        have HY3 := Lib.hid (HY2.out.low hbv)
        clear hbv yl m0 m1 m2 m3
        obtain ⟨yl, m0, m1, m2, m3, -⟩ := HY3.out
        simp only at m0 m1 m2 m3
        go_wp2
        go_ret
        exact ⟨ret_bool (by rw [HV.out]; simp), below_next HB3.out (below_next HL2.out HLW3.out)⟩
      · skip
        go_wp2_with fail
        refine (HC1.out _).mono ?_
        rintro e v1 ⟨rfl, hbv⟩
        have HLW1 := Lib.hid (below_next (Below.refl W2.heap.size W2) hbv)
        have HY1 := Lib.hid (HY.out.low hbv)
        clear hbv yl m0 m1 m2 m3
        obtain ⟨yl, m0, m1, m2, m3, -⟩ := HY1.out
        simp only at m0 m1 m2 m3
        go_wp2_with fail
        refine (HC2.out _ HLW1.out).mono ?_
        rintro e v2 ⟨rfl, hbv⟩
        have HLW2 := Lib.hid (below_next HLW1.out hbv)
        have HY2 := Lib.hid (HY1.out.low hbv)
        clear hbv yl m0 m1 m2 m3
        obtain ⟨yl, m0, m1, m2, m3, -⟩ := HY2.out
        simp only at m0 m1 m2 m3
        go_wp2_with fail
        refine (HC3.out _ HLW2.out).mono ?_
        rintro e v3 ⟨rfl, hbv⟩
        have HLW3 := Lib.hid (below_next HLW2.out hbv)
        have HY3 := Lib.hid (HY2.out.low hbv)
        clear hbv yl m0 m1 m2 m3
        obtain ⟨yl, m0, m1, m2, m3, -⟩ := HY3.out
        simp only at m0 m1 m2 m3
        go_wp2
        go_roundw
        case rel => exact ⟨j + 1, by omega, by go_num, (fun t ht => by
          by_cases htj : t = j
          · rw [htj, HXE.out, HVQ.out]; simp
          · exact HAK.out t (by omega)), below_next HL2.out HLW3.out⟩
        case measure => simp [intOf]; omega
    · have hlt' : decide ((j : Int) < ns) = false := decide_eq_false (by omega)
      obtain rfl : j = ns := by omega
      have HV := Lib.hid (HNN.out HAK.out)
      go_wp2
      go_ret
      exact ⟨ret_bool (by rw [HV.out]; rfl), below_next HB3.out HL.out⟩
set_option maxHeartbeats 4000000 in
theorem rvalid_rest_b {d : Nat} (H : RValDoes d) {N : Nat → Prop} (e : Ex) (w : World) (hA : ExIn N w (ExAt N w d) e) (hs : shapeB e = true) (h1 : e.k ≠ 1) (h2 : e.k ≠ 2) (hk : e.k = 6) (ho : e.op = 0) :
    Calls Tryz.prog 29 #[exV e] w fun r w' => r = .returned (.bool (plainB e && e.args.all (vE d) && e.sub.all (quT (vE d) e.k))) ∧ Below w.heap.size w w' := by
  have hQ := hA.sub
  have HS := Lib.hid fun u (hb : Below w.heap.size w u) => rshape e u (hQ.low hb)
  have HQ := Lib.hid hQ
  have HPL := Lib.hid (rplain e)
  have HAL := Lib.hid fun u (hb : Below w.heap.size w u) => rall_any H e.pa e.args e.ca u (hA.args.low hb) hA.lena
  have HRA := Lib.hid (@rall_any d H N)
  have HH := Lib.hid (fun k hk h => qall_hit (V := quT (vE d) e.k) (l := e.sub) (k := k) hk h)
  have HNN := Lib.hid (fun h => qall_none (V := quT (vE d) e.k) (l := e.sub) h)
  have hlen := hA.lens
  clear hQ hA
  rw [hs] at HS
  clear hs
  obtain ⟨b8, hb8, HQL⟩ : ∃ b, (e.k == 8) = b ∧ Hid (∀ q : Qu, quT (vE d) e.k q = ((q.st == b) && srcB q.fr && q.items.all (vE d) && q.wh.all (vE d))) := ⟨_, rfl, Lib.hid fun q => by unfold quT; rw [show decide (e.k = 8) = (e.k == 8) from by rw [Bool.eq_iff_iff]; simp]⟩
  generalize quT (vE d) e.k = V at *
  generalize e.sub.all V = res at *
  generalize plainB e = bp at *
  generalize e.args.all (vE d) = ba at *
  generalize hns : e.sub.length = ns at *
  have HNS := Lib.hid hns
  clear hns
  obtain ⟨k, op, no, vk, vi, vt, tb, nm, pa, ca, args, ps, cs, sub⟩ := e
  unfold exV at *
  simp only [Ex.mk_k, Ex.mk_op, Ex.mk_no, Ex.mk_vk, Ex.mk_vi, Ex.mk_vt, Ex.mk_tb, Ex.mk_nm, Ex.mk_pa, Ex.mk_ca, Ex.mk_args, Ex.mk_ps, Ex.mk_cs, Ex.mk_sub] at *
  have hns : sub.length = ns := HNS.out
  rw [hns] at HS HPL ⊢
  clear hns
  have b1 : (k == 1) = false := beq_eq_false_iff_ne.2 h1
  have b2 : (k == 2) = false := beq_eq_false_iff_ne.2 h2
  clear h1 h2
  subst hk ho
  have b5 : ((6 : Int) == 5) = false := rfl
  have b5' : ((6 : Int) != 5) = true := rfl
  have b6 : ((6 : Int) == 6) = true := rfl
  have b6' : ((6 : Int) != 6) = false := rfl
  go_enter Tryz.func29, Tryz.ntmps29
  go_wp2_with fail
  refine (HS.out _ (below_alloc _ _)).mono ?_
  rintro e w' ⟨rfl, hb⟩
  have hbx := ExB.new w (Ex.mk 6 0 no vk vi vt tb nm pa ca args ps cs sub) 27
  simp only [Ex.mk_k, Ex.mk_op, Ex.mk_no, Ex.mk_vk, Ex.mk_vi, Ex.mk_vt, Ex.mk_tb, Ex.mk_nm, Ex.mk_pa, Ex.mk_ca, Ex.mk_args, Ex.mk_ps, Ex.mk_cs, Ex.mk_sub] at hbx
  rw [HNS.out] at hbx
  have HXB := Lib.hid (hbx.low hb)
  have HB := Lib.hid (Below.of_alloc hb)
  clear hb hbx
  obtain ⟨xl, x0, x1, x2, x3, x4, x5, x6, x7, x8, x9, -⟩ := HXB.out
  simp only [Ex.mk_k, Ex.mk_op, Ex.mk_no, Ex.mk_vk, Ex.mk_vi, Ex.mk_vt, Ex.mk_tb, Ex.mk_nm, Ex.mk_pa, Ex.mk_ca, Ex.mk_args, Ex.mk_ps, Ex.mk_cs, Ex.mk_sub] at x0 x1 x2 x3 x4 x5 x6 x7 x8 x9
  rw [HNS.out] at x9
  go_wp2_with fail
  refine (HPL.out _).mono ?_
  rintro e w2 ⟨rfl, hb2⟩
  have HB2 := Lib.hid (below_next HB.out hb2)
  have HX2 := Lib.hid (HXB.out.low hb2)
  clear hb2 xl x0 x1 x2 x3 x4 x5 x6 x7 x8 x9
  obtain ⟨xl, x0, x1, x2, x3, x4, x5, x6, x7, x8, x9, -⟩ := HX2.out
  simp only [Ex.mk_k, Ex.mk_op, Ex.mk_no, Ex.mk_vk, Ex.mk_vi, Ex.mk_vt, Ex.mk_tb, Ex.mk_nm, Ex.mk_pa, Ex.mk_ca, Ex.mk_args, Ex.mk_ps, Ex.mk_cs, Ex.mk_sub] at x0 x1 x2 x3 x4 x5 x6 x7 x8 x9
  rw [HNS.out] at x9
  cases bp
  · go_wp2
    go_ret
    exact ⟨rfl, HB2.out⟩
  go_wp2_with fail
  refine (HAL.out _ HB2.out).mono ?_
  rintro e w3 ⟨rfl, hb3⟩
  have HB3 := Lib.hid (below_next HB2.out hb3)
  have HX3 := Lib.hid (HX2.out.low hb3)
  clear hb3 xl x0 x1 x2 x3 x4 x5 x6 x7 x8 x9
  obtain ⟨xl, x0, x1, x2, x3, x4, x5, x6, x7, x8, x9, -⟩ := HX3.out
  simp only [Ex.mk_k, Ex.mk_op, Ex.mk_no, Ex.mk_vk, Ex.mk_vi, Ex.mk_vt, Ex.mk_tb, Ex.mk_nm, Ex.mk_pa, Ex.mk_ca, Ex.mk_args, Ex.mk_ps, Ex.mk_cs, Ex.mk_sub] at x0 x1 x2 x3 x4 x5 x6 x7 x8 x9
  rw [HNS.out] at x9
  cases ba
  · go_wp2
    go_ret
    exact ⟨rfl, HB3.out⟩
  go_wp2_with fail
  clear xl x0 x1 x2 x3 x4 x5 x6 x7 x8 x9
  go_loopw [101] (fun i v => ∃ j : Nat, j ≤ ns ∧ i = .int .i64 j ∧ (∀ t, t < j → V (qAt sub t) = true) ∧ Below w3.heap.size w3 v) (fun i _ => ns - (intOf i).toNat)
  case atStart => exact ⟨0, Nat.zero_le _, rfl, fun t ht => by omega, Below.refl _ _⟩
  case round =>
    obtain ⟨j, hj, rfl, ha, hb⟩ := hrel
    have HL := Lib.hid hb
    have HAK := Lib.hid ha
    clear hb ha
    by_cases hlt : j < ns
    · have hlt' : decide ((j : Int) < ns) = true := decide_eq_true (by omega)
      have hjl : j < sub.length := by rw [HNS.out]; exact hlt
      obtain ⟨g, o, rfl, hg, hN, hC, hX⟩ := (HQ.out.low HB3.out).low HL.out j hjl
      have HX := Lib.hid hX
      have HHK := Lib.hid (HH.out j hlt)
      have HVQ := Lib.hid (HQL.out (qAt sub j))
      clear hX
      obtain ⟨c0, c1', c2', c3⟩ := hC
      generalize hxe : qAt sub j = x at *
      have HXE := Lib.hid hxe
      clear hxe
      obtain ⟨st, pi, ci, items, fr, pw, cw, wh⟩ := x
      simp only at c0 c1' c2' c3 HVQ
      go_upto_region 14 with (fail)
      have hal := below_alloc wr (.cells #[.bool st, .slice pi items.length ci, .string fr, .slice pw wh.length cw] 53)
      have HL2 := Lib.hid (below_next HL.out hal)
      have hyx := QuBx.new wr ⟨st, pi, ci, items, fr, pw, cw, wh⟩ 53
      have hxx := (HX3.out.low HL.out).low hal
      have HXI := Lib.hid (HX.out.low hal)
      clear c0 c1' c2' c3 hal
      simp only at hyx
      generalize wr.alloc (.cells #[.bool st, .slice pi items.length ci, .string fr, .slice pw wh.length cw] 53) = W2 at *
      generalize wr.heap.size = Y at *
      have l0 := hxx.c0
      have HY := Lib.hid hyx
      obtain ⟨yl, m0, m1, m2, m3, -⟩ := hyx
      simp only [Ex.mk_k] at l0
      simp only at m0 m1 m2 m3
      clear hxx
      have HC1 := Lib.hid (rsource_any fr HXI.out.size)
      have HC2 := Lib.hid (fun u (hb : Below W2.heap.size W2 u) => HRA.out pi items ci u (HXI.out.items.low hb) HXI.out.leni)
      have HC3 := Lib.hid (fun u (hb : Below W2.heap.size W2 u) => HRA.out pw wh cw u (HXI.out.wh.low hb) HXI.out.lenw)
      generalize srcB fr = s at *
      generalize items.all (vE d) = ai at *
      generalize wh.all (vE d) = aw at *
      have hcase : (¬ st = b8) ∨ (st = b8 ∧ s = false) ∨ (st = b8 ∧ s = true ∧ ai = false) ∨ (st = b8 ∧ s = true ∧ ai = true ∧ aw = false) ∨ (st = b8 ∧ s = true ∧ ai = true ∧ aw = true) := by
        cases st <;> cases b8 <;> cases s <;> cases ai <;> cases aw <;> simp
      rcases hcase with hne | ⟨rfl, rfl⟩ | ⟨rfl, rfl, rfl⟩ | ⟨rfl, rfl, rfl, rfl⟩ | ⟨rfl, rfl, rfl, rfl⟩
      · skip
        have HV := Lib.hid (HHK.out (by rw [HVQ.out]; simp [hne]))
        go_wp2
        go_ret
        exact ⟨ret_bool (by rw [HV.out]; simp), below_next HB3.out (below_next HL2.out (Below.refl W2.heap.size W2))⟩
      · skip
        have HV := Lib.hid (HHK.out (by rw [HVQ.out]; simp))
        go_wp2_with fail
        refine (HC1.out _).mono ?_
        rintro e v1 ⟨rfl, hbv⟩
        have HLW1 := Lib.hid (below_next (Below.refl W2.heap.size W2) hbv)
        have HY1 := Lib.hid (HY.out.low hbv)
        clear hbv yl m0 m1 m2 m3
        obtain ⟨yl, m0, m1, m2, m3, -⟩ := HY1.out
        simp only at m0 m1 m2 m3
        go_wp2
        go_ret
        exact ⟨ret_bool (by rw [HV.out]; simp), below_next HB3.out (below_next HL2.out HLW1.out)⟩
      · skip
        have HV := Lib.hid (HHK.out (by rw [HVQ.out]; simp))
        go_wp2_with fail
        refine (HC1.out _).mono ?_
        rintro e v1 ⟨rfl, hbv⟩
        have HLW1 := Lib.hid (below_next (Below.refl W2.heap.size W2) hbv)
        have HY1 := Lib.hid (HY.out.low hbv)
        clear hbv yl m0 m1 m2 m3
        obtain ⟨yl, m0, m1, m2, m3, -⟩ := HY1.out
        simp only at m0 m1 m2 m3
        go_wp2_with fail
        refine (HC2.out _ HLW1.out).mono ?_
        rintro e v2 ⟨rfl, hbv⟩
        have HLW2 := Lib.hid (below_next HLW1.out hbv)
        have HY2 := Lib.hid (HY1.out.low hbv)
        clear hbv yl m0 m1 m2 m3
        obtain ⟨yl, m0, m1, m2, m3, -⟩ := HY2.out
        simp only at m0 m1 m2 m3
        go_wp2
        go_ret
        exact ⟨ret_bool (by rw [HV.out]; simp), below_next HB3.out (below_next HL2.out HLW2.out)⟩
      · skip
        have HV := Lib.hid (HHK.out (by rw [HVQ.out]; simp))
        go_wp2_with fail
        refine (HC1.out _).mono ?_
        rintro e v1 ⟨rfl, hbv⟩
        have HLW1 := Lib.hid (below_next (Below.refl W2.heap.size W2) hbv)
        have HY1 := Lib.hid (HY.out.low hbv)
        clear hbv yl m0 m1 m2 m3
        obtain ⟨yl, m0, m1, m2, m3, -⟩ := HY1.out
        simp only at m0 m1 m2 m3
        go_wp2_with fail
        refine (HC2.out _ HLW1.out).mono ?_
        rintro e v2 ⟨rfl, hbv⟩
        have HLW2 := Lib.hid (below_next HLW1.out hbv)
        have HY2 := Lib.hid (HY1.out.low hbv)
        clear hbv yl m0 m1 m2 m3
        obtain ⟨yl, m0, m1, m2, m3, -⟩ := HY2.out
        simp only at m0 m1 m2 m3
        go_wp2_with fail
        refine (HC3.out _ HLW2.out).mono ?_
        rintro e v3 ⟨rfl, hbv⟩
        have HLW3 := Lib.hid (below_next HLW2.out hbv)
        have HY3 := Lib.hid (HY2.out.low hbv)
        clear hbv yl m0 m1 m2 m3
        obtain ⟨yl, m0, m1, m2, m3, -⟩ := HY3.out
        simp only at m0 m1 m2 m3
        go_wp2
        go_ret
        exact ⟨ret_bool (by rw [HV.out]; simp), below_next HB3.out (below_next HL2.out HLW3.out)⟩
      · skip
        go_wp2_with fail
        refine (HC1.out _).mono ?_
        rintro e v1 ⟨rfl, hbv⟩
        have HLW1 := Lib.hid (below_next (Below.refl W2.heap.size W2) hbv)
        have HY1 := Lib.hid (HY.out.low hbv)
        clear hbv yl m0 m1 m2 m3
        obtain ⟨yl, m0, m1, m2, m3, -⟩ := HY1.out
        simp only at m0 m1 m2 m3
        go_wp2_with fail
        refine (HC2.out _ HLW1.out).mono ?_
        rintro e v2 ⟨rfl, hbv⟩
        have HLW2 := Lib.hid (below_next HLW1.out hbv)
        have HY2 := Lib.hid (HY1.out.low hbv)
        clear hbv yl m0 m1 m2 m3
        obtain ⟨yl, m0, m1, m2, m3, -⟩ := HY2.out
        simp only at m0 m1 m2 m3
        go_wp2_with fail
        refine (HC3.out _ HLW2.out).mono ?_
        rintro e v3 ⟨rfl, hbv⟩
        have HLW3 := Lib.hid (below_next HLW2.out hbv)
        have HY3 := Lib.hid (HY2.out.low hbv)
        clear hbv yl m0 m1 m2 m3
        obtain ⟨yl, m0, m1, m2, m3, -⟩ := HY3.out
        simp only at m0 m1 m2 m3
        go_wp2
        go_roundw
        case rel => exact ⟨j + 1, by omega, by go_num, (fun t ht => by
          by_cases htj : t = j
          · rw [htj, HXE.out, HVQ.out]; simp
          · exact HAK.out t (by omega)), below_next HL2.out HLW3.out⟩
        case measure => simp [intOf]; omega
    · have hlt' : decide ((j : Int) < ns) = false := decide_eq_false (by omega)
      obtain rfl : j = ns := by omega
      have HV := Lib.hid (HNN.out HAK.out)
      go_wp2
      go_ret
      exact ⟨ret_bool (by rw [HV.out]; rfl), below_next HB3.out HL.out⟩
set_option maxHeartbeats 4000000 in
theorem rvalid_rest_c {d : Nat} (H : RValDoes d) {N : Nat → Prop} (e : Ex) (w : World) (hA : ExIn N w (ExAt N w d) e) (hs : shapeB e = true) (h1 : e.k ≠ 1) (h2 : e.k ≠ 2) (h5 : e.k ≠ 5) (h6 : e.k ≠ 6) (ho : e.op = 0) (hn : e.no = false) :
    Calls Tryz.prog 29 #[exV e] w fun r w' => r = .returned (.bool (plainB e && e.args.all (vE d) && e.sub.all (quT (vE d) e.k))) ∧ Below w.heap.size w w' := by
  have hQ := hA.sub
  have HS := Lib.hid fun u (hb : Below w.heap.size w u) => rshape e u (hQ.low hb)
  have HQ := Lib.hid hQ
  have HPL := Lib.hid (rplain e)
  have HAL := Lib.hid fun u (hb : Below w.heap.size w u) => rall_any H e.pa e.args e.ca u (hA.args.low hb) hA.lena
  have HRA := Lib.hid (@rall_any d H N)
  have HH := Lib.hid (fun k hk h => qall_hit (V := quT (vE d) e.k) (l := e.sub) (k := k) hk h)
  have HNN := Lib.hid (fun h => qall_none (V := quT (vE d) e.k) (l := e.sub) h)
  have hlen := hA.lens
  clear hQ hA
  rw [hs] at HS
  clear hs
  obtain ⟨b8, hb8, HQL⟩ : ∃ b, (e.k == 8) = b ∧ Hid (∀ q : Qu, quT (vE d) e.k q = ((q.st == b) && srcB q.fr && q.items.all (vE d) && q.wh.all (vE d))) := ⟨_, rfl, Lib.hid fun q => by unfold quT; rw [show decide (e.k = 8) = (e.k == 8) from by rw [Bool.eq_iff_iff]; simp]⟩
  generalize quT (vE d) e.k = V at *
  generalize e.sub.all V = res at *
  generalize plainB e = bp at *
  generalize e.args.all (vE d) = ba at *
  generalize hns : e.sub.length = ns at *
  have HNS := Lib.hid hns
  clear hns
  obtain ⟨k, op, no, vk, vi, vt, tb, nm, pa, ca, args, ps, cs, sub⟩ := e
  unfold exV at *
  simp only [Ex.mk_k, Ex.mk_op, Ex.mk_no, Ex.mk_vk, Ex.mk_vi, Ex.mk_vt, Ex.mk_tb, Ex.mk_nm, Ex.mk_pa, Ex.mk_ca, Ex.mk_args, Ex.mk_ps, Ex.mk_cs, Ex.mk_sub] at *
  have hns : sub.length = ns := HNS.out
  rw [hns] at HS HPL ⊢
  clear hns
  have b1 : (k == 1) = false := beq_eq_false_iff_ne.2 h1
  have b2 : (k == 2) = false := beq_eq_false_iff_ne.2 h2
  clear h1 h2
  subst ho hn
  have b5 : (k == 5) = false := beq_eq_false_iff_ne.2 h5
  have b5' : (k != 5) = true := by rw [bne, b5]; rfl
  have b6 : (k == 6) = false := beq_eq_false_iff_ne.2 h6
  have b6' : (k != 6) = true := by rw [bne, b6]; rfl
  clear h5 h6
  go_enter Tryz.func29, Tryz.ntmps29
  go_wp2_with fail
  refine (HS.out _ (below_alloc _ _)).mono ?_
  rintro e w' ⟨rfl, hb⟩
  have hbx := ExB.new w (Ex.mk k 0 false vk vi vt tb nm pa ca args ps cs sub) 27
  simp only [Ex.mk_k, Ex.mk_op, Ex.mk_no, Ex.mk_vk, Ex.mk_vi, Ex.mk_vt, Ex.mk_tb, Ex.mk_nm, Ex.mk_pa, Ex.mk_ca, Ex.mk_args, Ex.mk_ps, Ex.mk_cs, Ex.mk_sub] at hbx
  rw [HNS.out] at hbx
  have HXB := Lib.hid (hbx.low hb)
  have HB := Lib.hid (Below.of_alloc hb)
  clear hb hbx
  obtain ⟨xl, x0, x1, x2, x3, x4, x5, x6, x7, x8, x9, -⟩ := HXB.out
  simp only [Ex.mk_k, Ex.mk_op, Ex.mk_no, Ex.mk_vk, Ex.mk_vi, Ex.mk_vt, Ex.mk_tb, Ex.mk_nm, Ex.mk_pa, Ex.mk_ca, Ex.mk_args, Ex.mk_ps, Ex.mk_cs, Ex.mk_sub] at x0 x1 x2 x3 x4 x5 x6 x7 x8 x9
  rw [HNS.out] at x9
  go_wp2_with fail
  refine (HPL.out _).mono ?_
  rintro e w2 ⟨rfl, hb2⟩
  have HB2 := Lib.hid (below_next HB.out hb2)
  have HX2 := Lib.hid (HXB.out.low hb2)
  clear hb2 xl x0 x1 x2 x3 x4 x5 x6 x7 x8 x9
  obtain ⟨xl, x0, x1, x2, x3, x4, x5, x6, x7, x8, x9, -⟩ := HX2.out
  simp only [Ex.mk_k, Ex.mk_op, Ex.mk_no, Ex.mk_vk, Ex.mk_vi, Ex.mk_vt, Ex.mk_tb, Ex.mk_nm, Ex.mk_pa, Ex.mk_ca, Ex.mk_args, Ex.mk_ps, Ex.mk_cs, Ex.mk_sub] at x0 x1 x2 x3 x4 x5 x6 x7 x8 x9
  rw [HNS.out] at x9
  cases bp
  · go_wp2
    go_ret
    exact ⟨rfl, HB2.out⟩
  go_wp2_with fail
  refine (HAL.out _ HB2.out).mono ?_
  rintro e w3 ⟨rfl, hb3⟩
  have HB3 := Lib.hid (below_next HB2.out hb3)
  have HX3 := Lib.hid (HX2.out.low hb3)
  clear hb3 xl x0 x1 x2 x3 x4 x5 x6 x7 x8 x9
  obtain ⟨xl, x0, x1, x2, x3, x4, x5, x6, x7, x8, x9, -⟩ := HX3.out
  simp only [Ex.mk_k, Ex.mk_op, Ex.mk_no, Ex.mk_vk, Ex.mk_vi, Ex.mk_vt, Ex.mk_tb, Ex.mk_nm, Ex.mk_pa, Ex.mk_ca, Ex.mk_args, Ex.mk_ps, Ex.mk_cs, Ex.mk_sub] at x0 x1 x2 x3 x4 x5 x6 x7 x8 x9
  rw [HNS.out] at x9
  cases ba
  · go_wp2
    go_ret
    exact ⟨rfl, HB3.out⟩
  go_wp2_with fail
  clear xl x0 x1 x2 x3 x4 x5 x6 x7 x8 x9
  go_loopw [101] (fun i v => ∃ j : Nat, j ≤ ns ∧ i = .int .i64 j ∧ (∀ t, t < j → V (qAt sub t) = true) ∧ Below w3.heap.size w3 v) (fun i _ => ns - (intOf i).toNat)
  case atStart => exact ⟨0, Nat.zero_le _, rfl, fun t ht => by omega, Below.refl _ _⟩
  case round =>
    obtain ⟨j, hj, rfl, ha, hb⟩ := hrel
    have HL := Lib.hid hb
    have HAK := Lib.hid ha
    clear hb ha
    by_cases hlt : j < ns
    · have hlt' : decide ((j : Int) < ns) = true := decide_eq_true (by omega)
      have hjl : j < sub.length := by rw [HNS.out]; exact hlt
      obtain ⟨g, o, rfl, hg, hN, hC, hX⟩ := (HQ.out.low HB3.out).low HL.out j hjl
      have HX := Lib.hid hX
      have HHK := Lib.hid (HH.out j hlt)
      have HVQ := Lib.hid (HQL.out (qAt sub j))
      clear hX
      obtain ⟨c0, c1', c2', c3⟩ := hC
      generalize hxe : qAt sub j = x at *
      have HXE := Lib.hid hxe
      clear hxe
      obtain ⟨st, pi, ci, items, fr, pw, cw, wh⟩ := x
      simp only at c0 c1' c2' c3 HVQ
      go_upto_region 14 with (fail)
      have hal := below_alloc wr (.cells #[.bool st, .slice pi items.length ci, .string fr, .slice pw wh.length cw] 53)
      have HL2 := Lib.hid (below_next HL.out hal)
      have hyx := QuBx.new wr ⟨st, pi, ci, items, fr, pw, cw, wh⟩ 53
      have hxx := (HX3.out.low HL.out).low hal
      have HXI := Lib.hid (HX.out.low hal)
      clear c0 c1' c2' c3 hal
      simp only at hyx
      generalize wr.alloc (.cells #[.bool st, .slice pi items.length ci, .string fr, .slice pw wh.length cw] 53) = W2 at *
      generalize wr.heap.size = Y at *
      have l0 := hxx.c0
      have HY := Lib.hid hyx
      obtain ⟨yl, m0, m1, m2, m3, -⟩ := hyx
      simp only [Ex.mk_k] at l0
      simp only at m0 m1 m2 m3
      clear hxx
      have HC1 := Lib.hid (rsource_any fr HXI.out.size)
      have HC2 := Lib.hid (fun u (hb : Below W2.heap.size W2 u) => HRA.out pi items ci u (HXI.out.items.low hb) HXI.out.leni)
      have HC3 := Lib.hid (fun u (hb : Below W2.heap.size W2 u) => HRA.out pw wh cw u (HXI.out.wh.low hb) HXI.out.lenw)
      generalize srcB fr = s at *
      generalize items.all (vE d) = ai at *
      generalize wh.all (vE d) = aw at *
      have hcase : (¬ st = b8) ∨ (st = b8 ∧ s = false) ∨ (st = b8 ∧ s = true ∧ ai = false) ∨ (st = b8 ∧ s = true ∧ ai = true ∧ aw = false) ∨ (st = b8 ∧ s = true ∧ ai = true ∧ aw = true) := by
        cases st <;> cases b8 <;> cases s <;> cases ai <;> cases aw <;> simp
      rcases hcase with hne | ⟨rfl, rfl⟩ | ⟨rfl, rfl, rfl⟩ | ⟨rfl, rfl, rfl, rfl⟩ | ⟨rfl, rfl, rfl, rfl⟩
      · skip
        have HV := Lib.hid (HHK.out (by rw [HVQ.out]; simp [hne]))
        go_wp2
        go_ret
        exact ⟨ret_bool (by rw [HV.out]; simp), below_next HB3.out (below_next HL2.out (Below.refl W2.heap.size W2))⟩
      · skip
        have HV := Lib.hid (HHK.out (by rw [HVQ.out]; simp))
        go_wp2_with fail
        refine (HC1.out _).mono ?_
        rintro e v1 ⟨rfl, hbv⟩
        have HLW1 := Lib.hid (below_next (Below.refl W2.heap.size W2) hbv)
        have HY1 := Lib.hid (HY.out.low hbv)
        clear hbv yl m0 m1 m2 m3
        obtain ⟨yl, m0, m1, m2, m3, -⟩ := HY1.out
        simp only at m0 m1 m2 m3
        go_wp2
        go_ret
        exact ⟨ret_bool (by rw [HV.out]; simp), below_next HB3.out (below_next HL2.out HLW1.out)⟩
      · skip
        have HV := Lib.hid (HHK.out (by rw [HVQ.out]; simp))
        go_wp2_with fail
        refine (HC1.out _).mono ?_
        rintro e v1 ⟨rfl, hbv⟩
        have HLW1 := Lib.hid (below_next (Below.refl W2.heap.size W2) hbv)
        have HY1 := Lib.hid (HY.out.low hbv)
        clear hbv yl m0 m1 m2 m3
        obtain ⟨yl, m0, m1, m2, m3, -⟩ := HY1.out
        simp only at m0 m1 m2 m3
        go_wp2_with fail
        refine (HC2.out _ HLW1.out).mono ?_
        rintro e v2 ⟨rfl, hbv⟩
        have HLW2 := Lib.hid (below_next HLW1.out hbv)
        have HY2 := Lib.hid (HY1.out.low hbv)
        clear hbv yl m0 m1 m2 m3
        obtain ⟨yl, m0, m1, m2, m3, -⟩ := HY2.out
        simp only at m0 m1 m2 m3
        go_wp2
        go_ret
        exact ⟨ret_bool (by rw [HV.out]; simp), below_next HB3.out (below_next HL2.out HLW2.out)⟩
      · skip
        have HV := Lib.hid (HHK.out (by rw [HVQ.out]; simp))
        go_wp2_with fail
        refine (HC1.out _).mono ?_
        rintro e v1 ⟨rfl, hbv⟩
        have HLW1 := Lib.hid (below_next (Below.refl W2.heap.size W2) hbv)
        have HY1 := Lib.hid (HY.out.low hbv)
        clear hbv yl m0 m1 m2 m3
        obtain ⟨yl, m0, m1, m2, m3, -⟩ := HY1.out
        simp only at m0 m1 m2 m3
        go_wp2_with fail
        refine (HC2.out _ HLW1.out).mono ?_
        rintro e v2 ⟨rfl, hbv⟩
        have HLW2 := Lib.hid (below_next HLW1.out hbv)
        have HY2 := Lib.hid (HY1.out.low hbv)
        clear hbv yl m0 m1 m2 m3
        obtain ⟨yl, m0, m1, m2, m3, -⟩ := HY2.out
        simp only at m0 m1 m2 m3
        go_wp2_with fail
        refine (HC3.out _ HLW2.out).mono ?_
        rintro e v3 ⟨rfl, hbv⟩
        have HLW3 := Lib.hid (below_next HLW2.out hbv)
        have HY3 := Lib.hid (HY2.out.low hbv)
        clear hbv yl m0 m1 m2 m3
        obtain ⟨yl, m0, m1, m2, m3, -⟩ := HY3.out
        simp only at m0 m1 m2 m3
        go_wp2
        go_ret
        exact ⟨ret_bool (by rw [HV.out]; simp), below_next HB3.out (below_next HL2.out HLW3.out)⟩
      · skip
        go_wp2_with fail
        refine (HC1.out _).mono ?_
        rintro e v1 ⟨rfl, hbv⟩
        have HLW1 := Lib.hid (below_next (Below.refl W2.heap.size W2) hbv)
        have HY1 := Lib.hid (HY.out.low hbv)
        clear hbv yl m0 m1 m2 m3
        obtain ⟨yl, m0, m1, m2, m3, -⟩ := HY1.out
        simp only at m0 m1 m2 m3
        go_wp2_with fail
        refine (HC2.out _ HLW1.out).mono ?_
        rintro e v2 ⟨rfl, hbv⟩
        have HLW2 := Lib.hid (below_next HLW1.out hbv)
        have HY2 := Lib.hid (HY1.out.low hbv)
        clear hbv yl m0 m1 m2 m3
        obtain ⟨yl, m0, m1, m2, m3, -⟩ := HY2.out
        simp only at m0 m1 m2 m3
        go_wp2_with fail
        refine (HC3.out _ HLW2.out).mono ?_
        rintro e v3 ⟨rfl, hbv⟩
        have HLW3 := Lib.hid (below_next HLW2.out hbv)
        have HY3 := Lib.hid (HY2.out.low hbv)
        clear hbv yl m0 m1 m2 m3
        obtain ⟨yl, m0, m1, m2, m3, -⟩ := HY3.out
        simp only at m0 m1 m2 m3
        go_wp2
        go_roundw
        case rel => exact ⟨j + 1, by omega, by go_num, (fun t ht => by
          by_cases htj : t = j
          · rw [htj, HXE.out, HVQ.out]; simp
          · exact HAK.out t (by omega)), below_next HL2.out HLW3.out⟩
        case measure => simp [intOf]; omega
    · have hlt' : decide ((j : Int) < ns) = false := decide_eq_false (by omega)
      obtain rfl : j = ns := by omega
      have HV := Lib.hid (HNN.out HAK.out)
      go_wp2
      go_ret
      exact ⟨ret_bool (by rw [HV.out]; rfl), below_next HB3.out HL.out⟩
/-- ValidExpr of the reference, for trees of every depth. -/
theorem rvalid_step {d : Nat} (H : RValDoes d) : RValDoes (d + 1) := by
  intro N e w hA
  have hA' : ExIn N w (ExAt N w d) e := hA
  rw [show vE (d + 1) e = vOf (vE d) e from rfl, vOf_shape]
  cases hs : shapeB e
  · exact (rvalid_bad e w hA'.sub (.inl hs)).mono fun r w' h => ⟨by rw [h.1]; simp, h.2⟩
  by_cases ho : e.k ≠ 5 ∧ e.op ≠ 0
  · exact (rvalid_bad e w hA'.sub (.inr (.inl ho))).mono fun r w' h => ⟨by rw [h.1, decide_eq_false ho.1, decide_eq_false ho.2]; simp, h.2⟩
  by_cases hn : e.k ≠ 6 ∧ e.no = true
  · exact (rvalid_bad e w hA'.sub (.inr (.inr hn))).mono fun r w' h => ⟨by rw [h.1, decide_eq_false hn.1, hn.2]; simp, h.2⟩
  have ho' : e.k = 5 ∨ e.op = 0 := by by_cases h : e.k = 5; exact .inl h; exact .inr (by by_cases h0 : e.op = 0; exact h0; exact absurd ⟨h, h0⟩ ho)
  have hn' : e.k = 6 ∨ e.no = false := by by_cases h : e.k = 6; exact .inl h; exact .inr (by cases h0 : e.no; rfl; exact absurd ⟨h, h0⟩ hn)
  have e1 : (decide (e.k = 5) || decide (e.op = 0)) = true := by rcases ho' with h | h <;> simp [h]
  have e2 : (decide (e.k = 6) || !e.no) = true := by rcases hn' with h | h <;> simp [h]
  rw [e1, e2]
  simp only [Bool.true_and]
  by_cases h1 : e.k = 1
  · rw [if_pos h1]
    exact rvalid_k1 e w hA'.sub hA'.vt hs (by rcases ho' with h | h; omega; exact h) (by rcases hn' with h | h; omega; exact h) h1
  rw [if_neg h1]
  by_cases h2 : e.k = 2
  · rw [if_pos h2]
    exact rvalid_k2 e w hA'.sub hA'.tb hA'.nm hs (by rcases ho' with h | h; omega; exact h) (by rcases hn' with h | h; omega; exact h) h2
  rw [if_neg h2, ← quT_quB hs]
  by_cases h5 : e.k = 5
  · exact rvalid_rest_a H e w hA' hs h1 h2 h5 (by rcases hn' with h | h; omega; exact h)
  have ho2 : e.op = 0 := by rcases ho' with h | h; exact absurd h h5; exact h
  by_cases h6 : e.k = 6
  · exact rvalid_rest_b H e w hA' hs h1 h2 h6 ho2
  exact rvalid_rest_c H e w hA' hs h1 h2 h5 h6 ho2 (by rcases hn' with h | h; exact absurd h h6; exact h)
theorem rvalid_all : ∀ d, RValDoes d
  | 0 => fun _ _ _ h => h.elim
  | d + 1 => rvalid_step (rvalid_all d)
end Go.Proofs.YtlpaphgmdcpmaaaGreatDoor
/-
  Expr of package print, where the words of a well-formed tree are not too many (nothing is asked of another one); Expr of the reference of layer 12.
-/
namespace Go.Proofs.YtlpaphgmdcpmaaaGreatDoor
set_option maxRecDepth 100000
open Go.RowKit
variable {ls : List Nat}

set_option maxHeartbeats 2000000 in
theorem pexpr_v {N : Nat → Prop} {d : Nat} (hu : 4 ∈ ls) (hm : 8 ∈ ls) (hp : 1 ∈ ls) (hN : 5 ∈ ls) (hP : 7 ∈ ls)
    (e : Ex) (w : World) (hA : ExAt N w d e) (hE : Env ls w) (hl : vE d e = true → (wT d e).length ≤ 100000000000) :
    Calls Tryz.prog 9 #[exV e] w fun r w' => r = .returned (prV d e) ∧ Below w.heap.size w w' := by
  have hal := below_alloc w (.cells #[.int .i64 e.k, .int .i64 e.op, .bool e.no, .int .i64 e.vk, .int .i64 e.vi, .string e.vt, .string e.tb, .string e.nm, .slice e.pa e.args.length e.ca, .slice e.ps e.sub.length e.cs] 27)
  have HX0 := Lib.hid (ExB.new w e 27)
  have HA0 := Lib.hid (hA.low hal)
  have HE0 := Lib.hid (hE.low hal)
  have HB0 := Lib.hid hal
  have HSM := Lib.hid (fun hv => (part_ok d e hA hv).1)
  have HPR := Lib.hid (show prV d e = .tuple #[.string (if vE d e then joinS (wT d e) else ⟨#[]⟩), .bool (vE d e)] from rfl)
  have hgn := hE.size
  have HV := Lib.hid (fun v => validExpr_any hu d N e v)
  have HEX := Lib.hid (expr_any (ls := ls) hm hp hN hP d)
  clear hA hE hal
  have HLN := Lib.hid hl
  clear hl
  generalize hv : vE d e = V at *
  have HVV := Lib.hid hv
  clear hv
  unfold exV
  go_enter Tryz.func9, Tryz.ntmps9
  go_upto_region 1 with (fail)
  generalize World.alloc _ _ = u0 at *
  obtain ⟨xl, x0, x1, x2, x3, x4, x5, x6, x7, x8, x9, xf⟩ := HX0.out
  go_wp2_with fail
  clear xl x0 x1 x2 x3 x4 x5 x6 x7 x8 x9 xf
  refine (HV.out _ HA0.out HE0.out).mono ?_
  rintro e' u1 ⟨rfl, hb1⟩
  have HA1 := Lib.hid (HA0.out.low hb1)
  have HE1 := Lib.hid (HE0.out.low hb1)
  have HX1 := Lib.hid (HX0.out.low hb1)
  have HB1 := Lib.hid (below_next HB0.out hb1)
  clear hb1
  cases V
  · go_wp2
    go_ret2
    exact ⟨by rw [HPR.out]; rfl, HB1.out⟩
  · have hl : (wT d e).length ≤ 100000000000 := HLN.out (by first | rfl | trivial)
    clear HLN
    go_upto_region 4 with (fail)
    have HW2 := Lib.hid (WrAt.new u1)
    have hal2 := below_alloc u1 (.cells #[.slice none 0 0] 64)
    have HA2 := Lib.hid ((HA1.out.weak (M := fun c => c < u1.heap.size) fun c hc _ => hc).low hal2)
    have HE2 := Lib.hid (HE1.out.low hal2)
    have HX2 := Lib.hid (HX1.out.low hal2)
    have HB2 := Lib.hid (below_next HB1.out hal2)
    have hz1 := HB1.out.size
    clear hal2
    generalize World.alloc _ _ = u2 at *
    generalize u1.heap.size = q at *
    obtain ⟨xl, x0, x1, x2, x3, x4, x5, x6, x7, x8, x9, xf⟩ := HX2.out
    go_wp2_with fail
    clear xl x0 x1 x2 x3 x4 x5 x6 x7 x8 x9 xf
    refine (HEX.out q [] e u2 (by omega) HW2.out HE2.out HA2.out HVV.out (by simp only [List.length_nil]; omega)).mono ?_
    rintro e' u3 ⟨rfl, hf3, hw3⟩
    have HW3 : Hid (WrAt q (wT d e) u3) := Lib.hid (by rwa [List.nil_append] at hw3)
    have HB3 := Lib.hid (HB2.out.trans (hf3.below (by omega) HB2.out.size))
    clear hf3 hw3
    go_wp2_with fail
    refine (text_any q (wT d e) u3 HW3.out hl (HSM.out (by first | rfl | trivial))).mono ?_
    rintro e' u4 ⟨rfl, hb4⟩
    have HB4 := Lib.hid (below_next HB3.out hb4)
    clear hb4
    go_wp2
    go_ret2
    exact ⟨by rw [HPR.out]; rfl, HB4.out⟩
set_option maxHeartbeats 2000000 in
theorem rexpr_v {N : Nat → Prop} {d : Nat} (hr : 2 ∈ ls) (hN : 5 ∈ ls) (hP : 7 ∈ ls)
    (e : Ex) (w : World) (hA : ExAt N w d e) (hE : Env ls w) (hl : vE d e = true → (wT d e).length ≤ 100000000000) :
    Calls Tryz.prog 10 #[exV e] w fun r w' => r = .returned (prV d e) ∧ Below w.heap.size w w' := by
  have hal := below_alloc w (.cells #[.int .i64 e.k, .int .i64 e.op, .bool e.no, .int .i64 e.vk, .int .i64 e.vi, .string e.vt, .string e.tb, .string e.nm, .slice e.pa e.args.length e.ca, .slice e.ps e.sub.length e.cs] 27)
  have HX0 := Lib.hid (ExB.new w e 27)
  have HA0 := Lib.hid (hA.low hal)
  have HE0 := Lib.hid (hE.low hal)
  have HB0 := Lib.hid hal
  have HSM := Lib.hid (fun hv => (part_ok d e hA hv).1)
  have HGD := Lib.hid (fun hv => words_good d e hv)
  have HPR := Lib.hid (show prV d e = .tuple #[.string (if vE d e then joinS (wT d e) else ⟨#[]⟩), .bool (vE d e)] from rfl)
  have HV := Lib.hid (fun v h => rvalid_all d N e v h)
  have HWD := Lib.hid (rw_any (ls := ls) hr hN hP d)
  have HLN := Lib.hid hl
  clear hA hE hal hl
  generalize hv : vE d e = V at *
  have HVV := Lib.hid hv
  clear hv
  unfold exV at HV ⊢
  go_enter Tryz.func10, Tryz.ntmps10
  go_upto_region 1 with (fail)
  generalize World.alloc _ _ = u0 at *
  obtain ⟨xl, x0, x1, x2, x3, x4, x5, x6, x7, x8, x9, xf⟩ := HX0.out
  go_wp2_with fail
  clear xl x0 x1 x2 x3 x4 x5 x6 x7 x8 x9 xf
  refine (HV.out _ HA0.out).mono ?_
  rintro e' u1 ⟨rfl, hb1⟩
  have HA1 := Lib.hid (HA0.out.low hb1)
  have HE1 := Lib.hid (HE0.out.low hb1)
  have HX1 := Lib.hid (HX0.out.low hb1)
  have HB1 := Lib.hid (below_next HB0.out hb1)
  clear hb1
  cases V
  · go_wp2
    go_ret2
    exact ⟨by rw [HPR.out]; rfl, HB1.out⟩
  · have hl : (wT d e).length ≤ 100000000000 := HLN.out (by first | rfl | trivial)
    have HWC := Lib.hid (HWD.out N e u1 HE1.out HA1.out HVV.out hl)
    unfold exV at HWC
    clear HLN HWD
    obtain ⟨xl, x0, x1, x2, x3, x4, x5, x6, x7, x8, x9, xf⟩ := HX1.out
    go_wp2_with fail
    clear xl x0 x1 x2 x3 x4 x5 x6 x7 x8 x9 xf
    refine (HWC.out).mono ?_
    rintro e' u2 ⟨p2, c2, rfl, hs2, hb2⟩
    have HB2 := Lib.hid (below_next HB1.out hb2)
    have HJ := Lib.hid (rjoin_any p2 c2 (wT d e) u2 (HE1.out.low hb2) hs2 (HGD.out (by first | rfl | trivial)) (HSM.out (by first | rfl | trivial)) hl)
    clear hs2 hb2 HWC HA1 HE1 HX1 HX0 HA0 HE0
    go_wp2_with fail
    refine (HJ.out).mono ?_
    rintro e' u3 ⟨rfl, rfl⟩
    go_wp2
    go_ret2
    exact ⟨by rw [HPR.out]; rfl, HB2.out⟩
end Go.Proofs.YtlpaphgmdcpmaaaGreatDoor
/-
  PrintExprs returns true: the walk.
-/
namespace Go.Proofs.YtlpaphgmdcpmaaaGreatDoor
set_option maxRecDepth 100000
open Go.RowKit
variable {ls : List Nat}

/-- A tree that both print alike. -/
def PrOK (b : Nat) (u : World) (e : Ex) : Prop := ∃ d : Nat, ExAt (fun c => c ≠ b) u d e ∧ (vE d e = true → (wT d e).length ≤ 100000000000)
theorem PrOK.step {b : Nat} {u v : World} {e : Ex} (h : PrOK b u e) (hs : StepT b u v) : PrOK b v e := by
  obtain ⟨d, h1, h2⟩ := h
  exact ⟨d, h1.step hs (fun c hc => hc), h2⟩
theorem PrOK.of {b D : Nat} {u : World} {X : Nat} {e : Ex} (hX : b ≤ X) (h : ExAt (fun c => X < c) u D e) (hD : lenB D ≤ 100000000000) : PrOK b u e :=
  ⟨D, h.weak fun c _ hc => by omega, fun hv => Nat.le_trans (part_ok D e h hv).2 hD⟩
/-- A value that is such a tree. -/
def PrV (b : Nat) (v : Value) (u : World) : Prop := ∃ E : Ex, v = exV E ∧ PrOK b u E
def Pr4 (b : Nat) (u : World) (g : Nat) (l : List Ex) : Prop := l.length = 4 ∧ LAt (fun c => c ≠ b) u (PrOK b u) (some ⟨g, 0, none⟩) l
theorem Pr4.step {b : Nat} {u v : World} {g : Nat} {l : List Ex} (h : Pr4 b u g l) (hs : StepT b u v) : Pr4 b v g l :=
  ⟨h.1, h.2.keep hs.size (fun c hc hn => ⟨hs.block c hc hn, hn⟩) fun _ hx => hx.step hs⟩
theorem pr4_new {b : Nat} {u : World} {A B C D : Ex} (hb : b < u.heap.size) (h1 : PrOK b u A) (h2 : PrOK b u B) (h3 : PrOK b u C) (h4 : PrOK b u D) (t : TypeId) :
    Pr4 b (u.alloc (.cells (excs A ++ excs B ++ excs C ++ excs D).toArray t)) u.heap.size [A, B, C, D] := by
  have hl : u.heap.size < (u.alloc (.cells (excs A ++ excs B ++ excs C ++ excs D).toArray t)).heap.size := by simp
  have hs : StepT b u (u.alloc (.cells (excs A ++ excs B ++ excs C ++ excs D).toArray t)) := StepT.of_below (below_alloc _ _)
  refine ⟨rfl, fun i hi => ?_⟩
  have hi4 : i = 0 ∨ i = 1 ∨ i = 2 ∨ i = 3 := by have hi : i < 4 := hi; omega
  rcases hi4 with rfl | rfl | rfl | rfl
  · refine ⟨u.heap.size, 0, rfl, hl, by omega, ?_, h1.step hs⟩
    constructor <;> (simp only [excs, List.cons_append, List.nil_append, eAt, List.getD_cons_zero]; go_simp)
  · refine ⟨u.heap.size, 0, rfl, hl, by omega, ?_, h2.step hs⟩
    constructor <;> (simp only [excs, List.cons_append, List.nil_append, eAt, List.getD_cons_zero, List.getD_cons_succ]; go_simp)
  · refine ⟨u.heap.size, 0, rfl, hl, by omega, ?_, h3.step hs⟩
    constructor <;> (simp only [excs, List.cons_append, List.nil_append, eAt, List.getD_cons_zero, List.getD_cons_succ]; go_simp)
  · refine ⟨u.heap.size, 0, rfl, hl, by omega, ?_, h4.step hs⟩
    constructor <;> (simp only [excs, List.cons_append, List.nil_append, eAt, List.getD_cons_zero, List.getD_cons_succ]; go_simp)
/-- What the law keeps while it draws. -/
structure PeW (b : Nat) (w0 : World) (X : Nat) (R : Ex) (u : World) : Prop where
  tape : TapeAt u b
  step : StepT b w0 u
  box : ExB u X R
  xb : X ≠ b
  raw : PrOK b u R
  lt : b < w0.heap.size
theorem PeW.rt {b X : Nat} {w0 u v : World} {R : Ex} (h : PeW b w0 X R u) (hr : RT b u v) : PeW b w0 X R v := ⟨hr.tape h.tape, h.step.trans hr.step, h.box.step hr.step h.xb, h.xb, h.raw.step hr.step, h.lt⟩

set_option maxHeartbeats 16000000 in
theorem printExprs_walk (w : World) (R : Ex) (d0 : Nat) (hR : ExAt (fun _ => True) w d0 R) (hz : vE d0 R = true → (wT d0 R).length ≤ 100000000000) (p : Option Addr) (len cap : Nat) (hl : len ≤ cap) (hm : len ≤ 9223372036854775807) (hI : IntsAt w p len) (depth : Int) (_hdp : -9223372036854775808 ≤ depth) (_hdp2 : depth ≤ 9223372036854775807) (hE : Env ls w)
    (hn : 0 ∈ ls) (hlw : 3 ∈ ls) (hu : 4 ∈ ls) (ho : 8 ∈ ls) (hp : 1 ∈ ls) (hr : 2 ∈ ls) (hN : 5 ∈ ls) (hP : 7 ∈ ls) :
    Calls Tryz.prog 3 #[exV R, .slice p len cap, .int .i64 depth] w fun e w' => e = .returned (.bool true) ∧ Below w.heap.size w w' := by
  have hgn := hE.size
  have hal := below_alloc w (.cells #[.int .i64 R.k, .int .i64 R.op, .bool R.no, .int .i64 R.vk, .int .i64 R.vi, .string R.vt, .string R.tb, .string R.nm, .slice R.pa R.args.length R.ca, .slice R.ps R.sub.length R.cs] 27)
  have HXR := Lib.hid (ExB.new w R 27)
  have HE := Lib.hid (hE.low hal)
  have HR := Lib.hid ((hR.weak (M := fun c => c < w.heap.size) fun c hc _ => hc).low hal)
  have HI := Lib.hid (hI.low hal)
  have HB0 := Lib.hid hal
  have HZ := Lib.hid hz
  have HXL := Lib.hid (show w.heap.size < (w.alloc (.cells #[.int .i64 R.k, .int .i64 R.op, .bool R.no, .int .i64 R.vk, .int .i64 R.vi, .string R.vt, .string R.tb, .string R.nm, .slice R.pa R.args.length R.ca, .slice R.ps R.sub.length R.cs] 27)).heap.size by simp)
  clear hal hE hR hI hz
  unfold exV
  go_enter Tryz.func3, Tryz.ntmps3
  go_wp2_with fail
  generalize w.alloc _ = w0 at HXR HE HR HI HB0 HXL ⊢
  refine (new_any w0 p len cap hl hm HI.out).mono ?_
  rintro e w1 ⟨b, rfl, hbw, ht1, hb1⟩
  have HE1 := Lib.hid (HE.out.low hb1)
  have HB1 := Lib.hid (below_next HB0.out hb1)
  have hXL := HXL.out
  have hbl := ht1.lt
  have hgb : 13 ≤ b := by omega
  have HW := Lib.hid (show PeW b w1 w.heap.size R w1 from ⟨ht1, StepT.refl b w1, HXR.out.low hb1, by omega, ⟨d0, (HR.out.low hb1).weak fun c _ hc => by omega, HZ.out⟩, hbl⟩)
  clear hb1 HXR HE HR HI HB0 ht1 HZ
  have HANY := Lib.hid (fun D (hD : D ≤ 100) => anyExpr_any (ls := ls) hn hlw D hD)
  have HEXP := Lib.hid (fun D (hD : D ≤ 60) (h1 : 1 ≤ D) => exprW_any (ls := ls) hlw D hD h1)
  go_upto_region 2 with (fail)
  refine wp_region_rel (use := [[], [], [], [2], [3], [1, 4], [], [6], [], [], [8, 9], [0, 5, 7, 10], [11], []]) (sl := [[16], [17], [18], [19], [20], [21], [22], [23], [24], [25], [26], [27], [28], [29]]) (live := [[], [], [], [], [], [], [], [], [], [], [], [], [], []]) (late := []) (brk := []) (B := b) (R := RT b) (J := PeW b w1 w.heap.size R) (Φ := fun ix f u => match ix with | 0 => f 16 = .agg #[.int .i64 R.k, .int .i64 R.op, .bool R.no, .int .i64 R.vk, .int .i64 R.vi, .string R.vt, .string R.tb, .string R.nm, .slice R.pa R.args.length R.ca, .slice R.ps R.sub.length R.cs] | 1 => f 17 = .pointer (some ⟨b, 0, none⟩) | 2 => f 18 = .int .i64 depth | 3 => ∃ m : Nat, f 19 = .int .i64 m ∧ m < 6 | 4 => ∃ m : Int, f 20 = .int .i64 m ∧ 1 ≤ m ∧ m ≤ 6 | 5 => PrV b (f 21) u | 6 => f 22 = .pointer (some ⟨b, 0, none⟩) | 7 => PrV b (f 23) u | 8 => f 24 = .pointer (some ⟨b, 0, none⟩) | 9 => ∃ P : Pl, f 25 = plV P ∧ P.fr = [] ∧ PlAt (fun c => c ≠ b) u P | 10 => PrV b (f 26) u | 11 => ∃ (g : Nat) (l : List Ex), f 27 = .slice (some ⟨g, 0, none⟩) 4 4 ∧ Pr4 b u g l ∧ PeW b w1 w.heap.size R u | 12 => f 28 = .int .i64 4 | 13 => f 29 = .int .i64 0 | _ => True) (by kernel_rfl) _ rfl (by kernel_rfl) (by kernel_rfl) (fun u v h => ⟨(rt_low (W := w1.drew) h).1, fun h1 h2 => (rt_low h).2 h1 h2 (by show b ≤ w1.heap.size; omega)⟩) (HW.out.rt ⟨⟨rfl, rfl, rfl, Nat.le_refl _, fun _ _ _ => rfl⟩, fun h => h⟩) (fun u v h hr => h.rt hr) ?_ ?_ ?_ ?_
  · intro jx f g u u2 hs hb h
    match jx, hs, h with
    | 0, hs, h =>
      have e16 := hs 16 (by decide)
      simp only [e16]
      exact h
    | 1, hs, h =>
      have e17 := hs 17 (by decide)
      simp only [e17]
      exact h
    | 2, hs, h =>
      have e18 := hs 18 (by decide)
      simp only [e18]
      exact h
    | 3, hs, h =>
      have e19 := hs 19 (by decide)
      simp only [e19]
      exact h
    | 4, hs, h =>
      have e20 := hs 20 (by decide)
      simp only [e20]
      exact h
    | 5, hs, h =>
      have e21 := hs 21 (by decide)
      simp only [e21]
      exact (by obtain ⟨E, h1, h2⟩ := h; exact ⟨E, h1, h2.step hb.step⟩)
    | 6, hs, h =>
      have e22 := hs 22 (by decide)
      simp only [e22]
      exact h
    | 7, hs, h =>
      have e23 := hs 23 (by decide)
      simp only [e23]
      exact (by obtain ⟨E, h1, h2⟩ := h; exact ⟨E, h1, h2.step hb.step⟩)
    | 8, hs, h =>
      have e24 := hs 24 (by decide)
      simp only [e24]
      exact h
    | 9, hs, h =>
      have e25 := hs 25 (by decide)
      simp only [e25]
      exact (by obtain ⟨P, h1, h2, h3⟩ := h; exact ⟨P, h1, h2, h3.step hb.step (fun c hc => hc)⟩)
    | 10, hs, h =>
      have e26 := hs 26 (by decide)
      simp only [e26]
      exact (by obtain ⟨E, h1, h2⟩ := h; exact ⟨E, h1, h2.step hb.step⟩)
    | 11, hs, h =>
      have e27 := hs 27 (by decide)
      simp only [e27]
      exact (by obtain ⟨g, l, h1, h2, h3⟩ := h; exact ⟨g, l, h1, h2.step hb.step, h3.rt hb⟩)
    | 12, hs, h =>
      have e28 := hs 28 (by decide)
      simp only [e28]
      exact h
    | 13, hs, h =>
      have e29 := hs 29 (by decide)
      simp only [e29]
      exact h
    | _ + 14, _, h => exact h
  · intro ix o hix hne f u hold hbe hgr hJ huse
    obtain ⟨kt, kc, kf⟩ := evF_all f
    match ix, hix, hne with
    | 0, hix, _ =>
      simp only [List.getElem?_cons_zero, Option.some.injEq] at hix
      subst hix
      obtain ⟨xl, x0, x1, x2, x3, x4, x5, x6, x7, x8, x9, xf⟩ := (hJ (by kernel_rfl)).box
      have h3 : f 3 = .pointer (some ⟨w.heap.size, 0, none⟩) := (hold 3 (by kernel_rfl)).trans rfl
      clear hold
      refine gives_K fun K hK => ?_
      go_simp
      refine gives_value (hK _ _ ⟨RT.refl _ _, ?_⟩)
      exact upF_self _ _ _
    | 1, hix, _ =>
      simp only [List.getElem?_cons_zero, List.getElem?_cons_succ, Option.some.injEq] at hix
      subst hix
      have h7 : f 7 = .pointer (some ⟨b, 0, none⟩) := (hold 7 (by kernel_rfl)).trans rfl
      clear hold
      refine gives_K fun K hK => ?_
      go_simp
      refine gives_value (hK _ _ ⟨RT.refl _ _, ?_⟩)
      exact upF_self _ _ _
    | 2, hix, _ =>
      simp only [List.getElem?_cons_zero, List.getElem?_cons_succ, Option.some.injEq] at hix
      subst hix
      have h2 : f 2 = .int .i64 depth := (hold 2 (by kernel_rfl)).trans rfl
      clear hold
      refine gives_K fun K hK => ?_
      go_simp
      refine gives_value (hK _ _ ⟨RT.refl _ _, ?_⟩)
      exact upF_self _ _ _
    | 3, hix, _ =>
      simp only [List.getElem?_cons_zero, List.getElem?_cons_succ, Option.some.injEq] at hix
      subst hix
      have u2 := huse 2 (by decide)
      simp only at u2
      have hmr := modI_range depth 6 (by decide)
      refine gives_K fun K hK => ?_
      go_simp
      refine gives_enter ((mod_any depth 6 u (by decide) (by decide)).mono ?_)
      rintro e' w3 ⟨rfl, rfl⟩
      exact ⟨_, rfl, hK _ _ ⟨RT.refl _ _, (modI depth 6).toNat, by rw [upF_self, Int.toNat_of_nonneg hmr.1], by omega⟩⟩
    | 4, hix, _ =>
      simp only [List.getElem?_cons_zero, List.getElem?_cons_succ, Option.some.injEq] at hix
      subst hix
      have u3 := huse 3 (by decide)
      simp only at u3
      obtain ⟨m, hm1, hm2⟩ := u3
      have hw : IntKind.i64.wrap (1 + (m : Int)) = 1 + (m : Int) := i64w (by omega) (by omega)
      refine gives_K fun K hK => ?_
      go_simp
      refine gives_value (hK _ _ ⟨RT.refl _ _, _, upF_self _ _ _, ?_, ?_⟩)
      · omega
      · omega
    | 5, hix, _ =>
      simp only [List.getElem?_cons_zero, List.getElem?_cons_succ, Option.some.injEq] at hix
      subst hix
      have u1 := huse 1 (by decide)
      have u4 := huse 4 (by decide)
      simp only at u1 u4
      have hJw := hJ (by kernel_rfl)
      obtain ⟨m, hm, hm1, hm2⟩ := u4
      have HC := HANY.out 6 (by decide) b m u (by omega) (by omega) hgb hJw.tape (HE1.out.step hJw.step hgb)
      refine gives_K fun K hK => ?_
      go_simp
      refine gives_enter (HC.mono ?_)
      rintro e' w3 ⟨E1, rfl, hE5, hV5, ht5, hs5⟩
      exact ⟨_, rfl, hK _ _ ⟨⟨hs5, fun _ => ht5⟩, by rw [upF_self]; exact ⟨E1, rfl, PrOK.of (by have := hJw.tape.lt; omega) hE5 (by decide)⟩⟩⟩
    | 6, hix, _ =>
      simp only [List.getElem?_cons_zero, List.getElem?_cons_succ, Option.some.injEq] at hix
      subst hix
      have h7 : f 7 = .pointer (some ⟨b, 0, none⟩) := (hold 7 (by kernel_rfl)).trans rfl
      clear hold
      refine gives_K fun K hK => ?_
      go_simp
      refine gives_value (hK _ _ ⟨RT.refl _ _, ?_⟩)
      exact upF_self _ _ _
    | 7, hix, _ =>
      simp only [List.getElem?_cons_zero, List.getElem?_cons_succ, Option.some.injEq] at hix
      subst hix
      have u6 := huse 6 (by decide)
      simp only at u6
      have hJw := hJ (by kernel_rfl)
      have HC := HANY.out 6 (by decide) b 3 u (by omega) (by omega) hgb hJw.tape (HE1.out.step hJw.step hgb)
      refine gives_K fun K hK => ?_
      go_simp
      refine gives_enter (HC.mono ?_)
      rintro e' w3 ⟨E1, rfl, hE5, hV5, ht5, hs5⟩
      exact ⟨_, rfl, hK _ _ ⟨⟨hs5, fun _ => ht5⟩, by rw [upF_self]; exact ⟨E1, rfl, PrOK.of (by have := hJw.tape.lt; omega) hE5 (by decide)⟩⟩⟩
    | 8, hix, _ =>
      simp only [List.getElem?_cons_zero, List.getElem?_cons_succ, Option.some.injEq] at hix
      subst hix
      have h7 : f 7 = .pointer (some ⟨b, 0, none⟩) := (hold 7 (by kernel_rfl)).trans rfl
      clear hold
      refine gives_K fun K hK => ?_
      go_simp
      refine gives_value (hK _ _ ⟨RT.refl _ _, ?_⟩)
      exact upF_self _ _ _
    | 9, hix, _ =>
      simp only [List.getElem?_cons_zero, List.getElem?_cons_succ, Option.some.injEq] at hix
      subst hix
      have hJw := hJ (by kernel_rfl)
      have hjl := hJw.tape.lt
      refine gives_K fun K hK => ?_
      go_simp
      refine gives_enter ((home_any u).mono ?_)
      rintro e' w3 ⟨P, rfl, hf, ht, hPl, hb3⟩
      exact ⟨_, rfl, hK _ _ ⟨RT.low hb3, P, upF_self _ _ _, hf, hPl.weak fun c _ hc => by omega⟩⟩
    | 10, hix, _ =>
      simp only [List.getElem?_cons_zero, List.getElem?_cons_succ, Option.some.injEq] at hix
      subst hix
      have u8 := huse 8 (by decide)
      have u9 := huse 9 (by decide)
      simp only at u8 u9
      have hJw := hJ (by kernel_rfl)
      obtain ⟨P, hP1, hP2, hP3⟩ := u9
      have HC := HEXP.out 5 (by decide) (by decide) _ b P 2 4 u (by decide) (by decide) (by decide) (by decide) (by rw [hP2]; decide) hgb hP3 (fun c hc => hc) hJw.tape (HE1.out.step hJw.step hgb)
      unfold plV at HC hP1
      clear hP2
      refine gives_K fun K hK => ?_
      go_simp
      refine gives_enter (HC.mono ?_)
      rintro e' w3 ⟨E1, rfl, hE5, hV5, ht5, hs5⟩
      exact ⟨_, rfl, hK _ _ ⟨⟨hs5, fun _ => ht5⟩, by rw [upF_self]; exact ⟨E1, rfl, PrOK.of (by have := hJw.tape.lt; omega) hE5 (by decide)⟩⟩⟩
    | 11, hix, _ =>
      simp only [List.getElem?_cons_zero, List.getElem?_cons_succ, Option.some.injEq] at hix
      subst hix
      have u0 := huse 0 (by decide)
      have u5 := huse 5 (by decide)
      have u7 := huse 7 (by decide)
      have u10 := huse 10 (by decide)
      simp only at u0 u5 u7 u10
      have hJw := hJ (by kernel_rfl)
      obtain ⟨A, hA1, hA2⟩ := u5
      obtain ⟨B, hB1, hB2⟩ := u7
      obtain ⟨C, hC1, hC2⟩ := u10
      unfold exV at hA1 hB1 hC1
      refine gives_K fun K hK => ?_
      go_simp
      exact gives_value (hK _ _ ⟨RT.low (below_alloc _ _), u.heap.size, [R, A, B, C], by rw [upF_self], pr4_new hJw.tape.lt hJw.raw hA2 hB2 hC2 27, hJw.rt (RT.low (below_alloc _ _))⟩)
    | 12, hix, _ =>
      simp only [List.getElem?_cons_zero, List.getElem?_cons_succ, Option.some.injEq] at hix
      subst hix
      have u11 := huse 11 (by decide)
      simp only at u11
      obtain ⟨g, l, h27, -⟩ := u11
      refine gives_K fun K hK => ?_
      go_simp
      refine gives_value (hK _ _ ⟨RT.refl _ _, ?_⟩)
      exact upF_self _ _ _
    | 13, hix, _ =>
      simp only [List.getElem?_cons_zero, List.getElem?_cons_succ, Option.some.injEq] at hix
      subst hix
      refine gives_K fun K hK => ?_
      go_simp
      refine gives_value (hK _ _ ⟨RT.refl _ _, ?_⟩)
      exact upF_self _ _ _
    | ix + 14, hix, _ => simp at hix
  · intro ix o hix hin f u hold hbe hgr hJ huse
    obtain ⟨kt, kc, kf⟩ := evF_all f
    match ix, hix, hin with
    | 0, _, hin => exact absurd hin (by decide)
    | 1, _, hin => exact absurd hin (by decide)
    | 2, _, hin => exact absurd hin (by decide)
    | 3, _, hin => exact absurd hin (by decide)
    | 4, _, hin => exact absurd hin (by decide)
    | 5, _, hin => exact absurd hin (by decide)
    | 6, _, hin => exact absurd hin (by decide)
    | 7, _, hin => exact absurd hin (by decide)
    | 8, _, hin => exact absurd hin (by decide)
    | 9, _, hin => exact absurd hin (by decide)
    | 10, _, hin => exact absurd hin (by decide)
    | 11, _, hin => exact absurd hin (by decide)
    | 12, _, hin => exact absurd hin (by decide)
    | 13, _, hin => exact absurd hin (by decide)
    | ix + 14, hix, _ => simp at hix
  · intro f2 u2 hbe hall
    have u11 := hall 11 (by decide) (by kernel_rfl)
    simp only at u11
    have u12 := hall 12 (by decide) (by kernel_rfl)
    simp only at u12
    have u13 := hall 13 (by decide) (by kernel_rfl)
    simp only at u13
    clear hall
    simp only [putAll, List.foldl_cons, List.foldl_nil, Act.put, List.setIfInBounds_toArray, List.set_cons_succ, List.set_cons_zero]
    obtain ⟨g, l, h27, hl4, hPE⟩ := u11
    rw [h27, u12, u13]
    have HL := Lib.hid hl4
    have HPE := Lib.hid hPE
    clear h27 hl4 u12 u13 hbe hPE HW
    have HB2 := Lib.hid (HB1.out.trans (HPE.out.step.below (by omega) HB1.out.size))
    have HE2 := Lib.hid (HE1.out.step HPE.out.step hgb)
    clear HE1 HB1 HPE HANY HEXP
    go_wp2_with fail
    go_loopw [29] (fun i v => ∃ k : Nat, k ≤ 4 ∧ i = .int .i64 k ∧ Below u2.heap.size u2 v) (fun i _ => 4 - (intOf i).toNat)
    case atStart => exact ⟨0, Nat.zero_le _, rfl, Below.refl _ _⟩
    case round =>
      obtain ⟨k, hk, rfl, hbv⟩ := hrel
      have HBV := Lib.hid hbv
      clear hbv
      by_cases hlt : k < 4
      · have hlt' : decide ((k : Int) < 4) = true := decide_eq_true (by omega)
        have hltI : (k : Int) < 4 := by omega
        obtain ⟨c, o, hpg, hc, -, hC, d, hA, hz⟩ := HL.out.2 k (by rw [HL.out.1]; exact hlt)
        obtain ⟨rfl, rfl⟩ : g = c ∧ 0 = o := by injection hpg with e1; injection e1 with e2 e3; exact ⟨e2, e3⟩
        generalize eAt l k = e at *
        have hC2 := hC.keep (HBV.out.block g hc)
        have hal := below_alloc wr (.cells #[.int .i64 e.k, .int .i64 e.op, .bool e.no, .int .i64 e.vk, .int .i64 e.vi, .string e.vt, .string e.tb, .string e.nm, .slice e.pa e.args.length e.ca, .slice e.ps e.sub.length e.cs] 27)
        have hbb := below_next HBV.out hal
        have HX := Lib.hid (ExB.new wr e 27)
        have HA := Lib.hid (hA.low hbb)
        have HE3 := Lib.hid (HE2.out.low hbb)
        have HB3 := Lib.hid hbb
        obtain ⟨s, v, hpr⟩ : ∃ (s : ByteArray) (v : Bool), prV d e = .tuple #[.string s, .bool v] := ⟨_, _, rfl⟩
        have hP1 := fun W h1 h2 => pexpr_v (ls := ls) (N := fun c => c ≠ b) hu ho hp hN hP e W h1 h2 hz
        have hP2 := fun W h1 h2 => rexpr_v (ls := ls) (N := fun c => c ≠ b) hr hN hP e W h1 h2 hz
        rw [hpr] at hP1 hP2
        have HP1 := Lib.hid hP1
        have HP2 := Lib.hid hP2
        obtain ⟨y0, y1, y2, y3, y4, y5, y6, y7, y8, y9⟩ := hC2
        simp only [Nat.zero_add] at y0 y1 y2 y3 y4 y5 y6 y7 y8 y9
        clear hC hA hal hbb hpr hP1 hP2 hz hpg hc
        unfold exV at HP1 HP2
        go_upto_region 5 with (fail)
        clear y0 y1 y2 y3 y4 y5 y6 y7 y8 y9
        generalize World.alloc wr _ = v1 at *
        generalize wr.heap.size = X at *
        obtain ⟨xl, x0, x1, x2, x3, x4, x5, x6, x7, x8, x9, xf⟩ := HX.out
        go_wp2_with fail
        refine (HP1.out _ HA.out HE3.out).mono ?_
        rintro e' v2 ⟨rfl, hb4⟩
        have HX4 := Lib.hid (HX.out.low hb4)
        have HA4 := Lib.hid (HA.out.low hb4)
        have HE4 := Lib.hid (HE3.out.low hb4)
        have HB4 := Lib.hid (below_next HB3.out hb4)
        clear hb4 xl x0 x1 x2 x3 x4 x5 x6 x7 x8 x9 xf HX HA HE3 HB3 HP1
        obtain ⟨xl, x0, x1, x2, x3, x4, x5, x6, x7, x8, x9, xf⟩ := HX4.out
        go_wp2_with fail
        refine (HP2.out _ HA4.out HE4.out).mono ?_
        rintro e' v3 ⟨rfl, hb5⟩
        have HB5 := Lib.hid (below_next HB4.out hb5)
        clear hb5 xl x0 x1 x2 x3 x4 x5 x6 x7 x8 x9 xf HX4 HA4 HE4 HB4 HP2
        go_wp2_with fail
        go_roundw
        case rel => exact ⟨k + 1, by omega, by go_num, HB5.out⟩
        case measure => simp [intOf]; omega
      · have hlt' : decide ((k : Int) < 4) = false := decide_eq_false (by omega)
        obtain rfl : k = 4 := by omega
        have HK := Lib.hid (known12_any wr (HE2.out.low HBV.out) hu ho hp hN hP)
        go_wp2_with fail
        refine (HK.out).mono ?_
        rintro e' v3 ⟨rfl, hb5⟩
        have HB5 := Lib.hid (below_next HBV.out hb5)
        clear hb5
        go_wp2
        go_ret
        exact ⟨rfl, HB2.out.trans (HB5.out.mono HB2.out.size)⟩
end Go.Proofs.YtlpaphgmdcpmaaaGreatDoor
