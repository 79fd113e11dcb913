/-
  Several texts in one.
-/
import Derived.Test.YtlpaphgmdcpmaaaGreatDoorPk14
import Derived.Test.YtlpaphgmdcpmaaaGreatDoorPk16
import Derived.Test.YtlpaphgmdcpmaaaGreatDoorPk15
import Derived.Deep.RegionLaw
/-
  column, isNull, inParentheses of package print.
-/
namespace Go.Proofs.YtlpaphgmdcpmaaaGreatDoor
set_option maxRecDepth 100000
open Go.RowKit
variable {ls : List Nat}

set_option maxHeartbeats 1000000 in
theorem column_any {q : Nat} {l : List ByteArray} (tb nm : ByteArray) (u : World) (hW : WrAt q l u) (hz : l.length + (colT tb nm).length ≤ 1000000000000) :
    Calls Tryz.prog 45 #[.pointer (some ⟨q, 0, none⟩), .string tb, .string nm] u fun e u' => e = .returned (.tuple #[]) ∧ WF q u u' ∧ WrAt q (l ++ colT tb nm) u' := by
  have HW := Lib.hid hW
  clear hW
  have hc : colT tb nm = (if tb.toList.isEmpty then [] else [tb, ⟨#[46]⟩]) ++ [nm] := by rw [empty_eqT]; rfl
  have HC := Lib.hid hc
  clear hc
  cases hE : tb.toList.isEmpty
  · rw [HC.out, hE] at hz
    simp only [Bool.false_eq_true, if_false, List.length_append, List.length_cons, List.length_nil] at hz
    have HE := Lib.hid hE
    have h0 : ¬ tb.toList = [] := fun h => by rw [h] at hE; cases hE
    have e0 : (tb.toList == []) = false := by simpa using h0
    go_enter Tryz.func45, Tryz.ntmps45
    go_wp2_with fail
    refine (put_two tb ⟨#[46]⟩ HW.out (by first | omega | (simp only [List.length_append, List.length_cons, List.length_nil]; omega))).mono ?_
    rintro e u1 ⟨rfl, hf, hw⟩
    have HF1 := Lib.hid (hf)
    have HW1 := Lib.hid hw
    clear hf hw
    go_wp2_with fail
    refine (put_one nm HW1.out (by first | omega | (simp only [List.length_append, List.length_cons, List.length_nil]; omega))).mono ?_
    rintro e u2 ⟨rfl, hf, hw⟩
    have HF2 := Lib.hid (HF1.out.trans hf)
    have HW2 := Lib.hid hw
    clear hf hw
    go_wp2
    go_end0
    exact ⟨rfl, HF2.out, by rw [HC.out, HE.out]; simpa using HW2.out⟩
  · rw [HC.out, hE] at hz
    simp only [if_true, List.nil_append, List.length_cons, List.length_nil] at hz
    have HE := Lib.hid hE
    have h0 : tb.toList = [] := List.isEmpty_iff.1 hE
    go_enter Tryz.func45, Tryz.ntmps45
    go_wp2_with fail
    refine (put_one nm HW.out (by first | omega | (simp only [List.length_append, List.length_cons, List.length_nil]; omega))).mono ?_
    rintro e u1 ⟨rfl, hf, hw⟩
    have HF1 := Lib.hid (hf)
    have HW1 := Lib.hid hw
    clear hf hw
    go_wp2
    go_end0
    exact ⟨rfl, HF1.out, by rw [HC.out, HE.out]; simpa using HW1.out⟩
theorem isNull_any {q : Nat} {l : List ByteArray} (no : Bool) (u : World) (hW : WrAt q l u) (hz : l.length + (nullT no).length ≤ 1000000000000) :
    Calls Tryz.prog 47 #[.pointer (some ⟨q, 0, none⟩), .bool no] u fun e u' => e = .returned (.tuple #[]) ∧ WF q u u' ∧ WrAt q (l ++ nullT no) u' := by
  have HW := Lib.hid hW
  clear hW
  cases no
  · have hz : l.length + 2 ≤ 1000000000000 := hz
    go_enter Tryz.func47, Tryz.ntmps47
    go_wp2_with fail
    refine (put_one ⟨#[73, 83]⟩ HW.out (by first | omega | (simp only [List.length_append, List.length_cons, List.length_nil]; omega))).mono ?_
    rintro e u1 ⟨rfl, hf, hw⟩
    have HF1 := Lib.hid (hf)
    have HW1 := Lib.hid hw
    clear hf hw
    go_wp2_with fail
    refine (put_one ⟨#[78, 85, 76, 76]⟩ HW1.out (by first | omega | (simp only [List.length_append, List.length_cons, List.length_nil]; omega))).mono ?_
    rintro e u2 ⟨rfl, hf, hw⟩
    have HF2 := Lib.hid (HF1.out.trans hf)
    have HW2 := Lib.hid hw
    clear hf hw
    go_wp2
    go_end0
    exact ⟨rfl, HF2.out, by unfold nullT; simpa using HW2.out⟩
  · have hz : l.length + 3 ≤ 1000000000000 := hz
    go_enter Tryz.func47, Tryz.ntmps47
    go_wp2_with fail
    refine (put_one ⟨#[73, 83]⟩ HW.out (by first | omega | (simp only [List.length_append, List.length_cons, List.length_nil]; omega))).mono ?_
    rintro e u1 ⟨rfl, hf, hw⟩
    have HF1 := Lib.hid (hf)
    have HW1 := Lib.hid hw
    clear hf hw
    go_wp2_with fail
    refine (put_one ⟨#[78, 79, 84]⟩ HW1.out (by first | omega | (simp only [List.length_append, List.length_cons, List.length_nil]; omega))).mono ?_
    rintro e u2 ⟨rfl, hf, hw⟩
    have HF2 := Lib.hid (HF1.out.trans hf)
    have HW2 := Lib.hid hw
    clear hf hw
    go_wp2_with fail
    refine (put_one ⟨#[78, 85, 76, 76]⟩ HW2.out (by first | omega | (simp only [List.length_append, List.length_cons, List.length_nil]; omega))).mono ?_
    rintro e u3 ⟨rfl, hf, hw⟩
    have HF3 := Lib.hid (HF2.out.trans hf)
    have HW3 := Lib.hid hw
    clear hf hw
    go_wp2
    go_end0
    exact ⟨rfl, HF3.out, by unfold nullT; simpa using HW3.out⟩
theorem prec_le (k op : Int) : prec k op ≤ 8 := by unfold prec; repeat' split
                                                   all_goals omega
theorem prec_pos (k op : Int) : 0 < prec k op := by unfold prec; repeat' split
                                                    all_goals omega
theorem least_prec {V : Ex → Bool} {e : Ex} (h : Fine V e) {i : Nat} (hi : i < e.args.length) : least e.k e.op i = prec e.k e.op + if 0 < i ∨ prec e.k e.op = 4 then 1 else 0 := by
  have h1 := h.argn
  have hop := h.op5
  have hlo := h.lo
  have hhi := h.hi
  generalize e.k = k at *
  generalize e.op = op at *
  have hk : k = 3 ∨ k = 4 ∨ k = 5 ∨ k = 6 ∨ k = 7 := by
    rcases (show k = 1 ∨ k = 2 ∨ k = 3 ∨ k = 4 ∨ k = 5 ∨ k = 6 ∨ k = 7 ∨ 8 ≤ k by omega) with h | h | h | h | h | h | h | h
    · rw [h] at h1; have h1 : e.args.length = 0 := h1; omega
    · rw [h] at h1; have h1 : e.args.length = 0 := h1; omega
    all_goals first | omega | skip
    rw [show argN k = 0 by unfold argN; rw [if_neg (by omega), if_neg (by omega), if_neg (by omega)]] at h1
    omega
  rw [h1] at hi
  clear h1 h hlo hhi
  rcases hk with rfl | rfl | rfl | rfl | rfl
  · have hi : i < 1 := hi
    obtain rfl : i = 0 := by omega
    rfl
  · have hi : i < 1 := hi
    obtain rfl : i = 0 := by omega
    rfl
  · have hi : i < 2 := hi
    have ho := hop rfl
    have h13 : op = 1 ∨ op = 2 ∨ op = 3 ∨ op = 4 ∨ op = 5 ∨ op = 6 ∨ op = 7 ∨ op = 8 ∨ op = 9 ∨ op = 10 ∨ op = 11 ∨ op = 12 ∨ op = 13 := by omega
    have hi2 : i = 0 ∨ i = 1 := by omega
    clear hop ho hi
    rcases h13 with rfl | rfl | rfl | rfl | rfl | rfl | rfl | rfl | rfl | rfl | rfl | rfl | rfl <;> rcases hi2 with rfl | rfl <;> rfl
  · have hi : i < 1 := hi
    obtain rfl : i = 0 := by omega
    rfl
  · have hi : i < 3 := hi
    have hi2 : i = 0 ∨ i = 1 ∨ i = 2 := by omega
    rcases hi2 with rfl | rfl | rfl <;> rfl
set_option maxHeartbeats 2000000 in
theorem pinPar_any {V : Ex → Bool} {N : Nat → Prop} {Q : Ex → Prop} (e : Ex) (i : Nat) (w : World) (hF : Fine V e) (hE : Env ls w) (hm : 8 ∈ ls) (hi : i < e.args.length) (hA : LAt N w Q e.pa e.args) :
    Calls Tryz.prog 74 #[exV e, .int .i64 i] w fun r w' => r = .returned (.bool (inPar e i)) ∧ Below w.heap.size w w' := by
  have hle := least_prec hF hi
  have HIP := Lib.hid (show inPar e i = decide (prec (eAt e.args i).k (eAt e.args i).op < prec e.k e.op + if 0 < i ∨ prec e.k e.op = 4 then 1 else 0) by rw [← hle]; rfl)
  have h8 := prec_le e.k e.op
  have h0 := prec_pos e.k e.op
  have hP1 := Lib.hid (prec_any (ls := ls) e)
  have hP2 := Lib.hid (prec_any (ls := ls) (eAt e.args i))
  obtain ⟨g, o, hpa, hg, -, hC, -⟩ := hA i hi
  generalize inPar e i = res at *
  generalize prec e.k e.op = p1 at *
  generalize eAt e.args i = x at *
  generalize prec x.k x.op = p2 at *
  have hbx := ExB.new w e 27
  have hal := below_alloc w (.cells #[.int .i64 e.k, .int .i64 e.op, .bool e.no, .int .i64 e.vk, .int .i64 e.vi, .string e.vt, .string e.tb, .string e.nm, .slice e.pa e.args.length e.ca, .slice e.ps e.sub.length e.cs] 27)
  have HE := Lib.hid (hE.low hal)
  have HB0 := Lib.hid hal
  have hC0 := hC.keep (hal.block g hg)
  have hg0 := Nat.lt_of_lt_of_le hg hal.size
  clear hF hE hA hle hC hg hal
  obtain ⟨k, op, no, vk, vi, vt, tb, nm, pa, ca, args, ps, cs, sub⟩ := e
  obtain ⟨k', op', no', vk', vi', vt', tb', nm', pa', ca', args', ps', cs', sub'⟩ := x
  unfold exV at *
  simp only [Ex.mk_k, Ex.mk_op, Ex.mk_no, Ex.mk_vk, Ex.mk_vi, Ex.mk_vt, Ex.mk_tb, Ex.mk_nm, Ex.mk_pa, Ex.mk_ca, Ex.mk_args, Ex.mk_ps, Ex.mk_cs, Ex.mk_sub] at *
  subst hpa
  have HC0 := Lib.hid hC0
  clear hC0
  have hiI : (i : Int) < args.length := by omega
  go_enter Tryz.func74, Tryz.ntmps74
  go_wp2_with fail
  generalize World.alloc _ _ = w0 at *
  generalize hXe : w.heap.size = X at *
  have HXE := Lib.hid hXe
  clear hXe
  refine (hP1.out _ HE.out hm).mono ?_
  rintro e w1 ⟨rfl, hb1⟩
  have HX1 := Lib.hid (hbx.low hb1)
  have HC1 := Lib.hid (HC0.out.keep (hb1.block g hg0))
  have HE1 := Lib.hid (HE.out.low hb1)
  have hXl := hbx.lt
  have HB1 := Lib.hid (HB0.out.trans (hb1.mono (Nat.le_of_lt hXl)))
  have hz1 := hb1.size
  clear hb1 hbx
  have hw1 : IntKind.i64.wrap (p1 + 1) = p1 + 1 := by rw [IntKind.wrap_i64]; omega
  have hcase : (0 < i) ∨ (i = 0 ∧ p1 = 4) ∨ (i = 0 ∧ p1 ≠ 4) := by omega
  obtain ⟨xl, x0, x1, x2, x3, x4, x5, x6, x7, x8, x9, xf⟩ := HX1.out
  obtain ⟨c0, c1, c2, c3, c4, c5, c6, c7, c8, c9⟩ := HC1.out
  simp only [Ex.mk_k, Ex.mk_op, Ex.mk_no, Ex.mk_vk, Ex.mk_vi, Ex.mk_vt, Ex.mk_tb, Ex.mk_nm, Ex.mk_pa, Ex.mk_ca, Ex.mk_args, Ex.mk_ps, Ex.mk_cs, Ex.mk_sub] at x0 x1 x2 x3 x4 x5 x6 x7 x8 x9 c0 c1 c2 c3 c4 c5 c6 c7 c8 c9
  rcases hcase with hi0 | ⟨rfl, rfl⟩ | ⟨rfl, h4⟩
  · have d0 : decide ((0 : Int) < i) = true := decide_eq_true (by omega)
    have d0' : (0 : Int) < i := by omega
    have HR := Lib.hid (show res = decide (p2 < p1 + 1) by rw [HIP.out, if_pos (.inl hi0)])
    go_wp2_with fail
    refine (hP2.out _ HE1.out hm).mono ?_
    rintro e w2 ⟨rfl, hb2⟩
    have HB2 := Lib.hid (HB1.out.trans (hb2.mono (by omega)))
    clear hb2 xl x0 x1 x2 x3 x4 x5 x6 x7 x8 x9 xf c0 c1 c2 c3 c4 c5 c6 c7 c8 c9
    go_wp2
    go_ret
    exact ⟨ret_bool (by rw [HR.out]), by first | exact HB2.out | (rw [HXE.out]; exact HB2.out)⟩
  · have HR := Lib.hid (show res = decide (p2 < 5) by rw [HIP.out]; rfl)
    rw [Nat.zero_mul, Nat.add_zero] at c0 c1 c2 c3 c4 c5 c6 c7 c8 c9
    go_wp2_with fail
    refine (hP2.out _ HE1.out hm).mono ?_
    rintro e w2 ⟨rfl, hb2⟩
    have HB2 := Lib.hid (HB1.out.trans (hb2.mono (by omega)))
    clear hb2 xl x0 x1 x2 x3 x4 x5 x6 x7 x8 x9 xf c0 c1 c2 c3 c4 c5 c6 c7 c8 c9
    go_wp2
    go_ret
    exact ⟨ret_bool (by rw [HR.out]), by first | exact HB2.out | (rw [HXE.out]; exact HB2.out)⟩
  · have b4 : (p1 == 4) = false := beq_eq_false_iff_ne.2 h4
    have HR := Lib.hid (show res = decide (p2 < p1) by rw [HIP.out, if_neg (by omega)]; simp)
    rw [Nat.zero_mul, Nat.add_zero] at c0 c1 c2 c3 c4 c5 c6 c7 c8 c9
    go_wp2_with fail
    refine (hP2.out _ HE1.out hm).mono ?_
    rintro e w2 ⟨rfl, hb2⟩
    have HB2 := Lib.hid (HB1.out.trans (hb2.mono (by omega)))
    clear hb2 xl x0 x1 x2 x3 x4 x5 x6 x7 x8 x9 xf c0 c1 c2 c3 c4 c5 c6 c7 c8 c9
    go_wp2
    go_ret
    exact ⟨ret_bool (by rw [HR.out]), by first | exact HB2.out | (rw [HXE.out]; exact HB2.out)⟩
end Go.Proofs.YtlpaphgmdcpmaaaGreatDoor
/-
  expr of package print, and what it calls, over trees in memory.
-/
namespace Go.Proofs.YtlpaphgmdcpmaaaGreatDoor
set_option maxRecDepth 100000
open Go.RowKit
variable {ls : List Nat}

/-- What expr does with trees of at most d storeys. -/
def EDoes (ls : List Nat) (d : Nat) : Prop := ∀ (q : Nat) (l : List ByteArray) (e : Ex) (u : World), 13 ≤ q → WrAt q l u → Env ls u → ExAt (fun c => c < q) u d e → vE d e = true → l.length + (wT d e).length ≤ 1000000000000 →
    Calls Tryz.prog 27 #[.pointer (some ⟨q, 0, none⟩), exV e] u fun r u' => r = .returned (.tuple #[]) ∧ WF q u u' ∧ WrAt q (l ++ wT d e) u'
set_option maxHeartbeats 1000000 in
theorem enclosed_any {d q : Nat} (H : EDoes ls d) (h8 : 13 ≤ q) (l : List ByteArray) (e : Ex) (u : World) (hW : WrAt q l u) (hE : Env ls u) (hA : ExAt (fun c => c < q) u d e) (hv : vE d e = true) (hz : l.length + ((wT d e).length + 2) ≤ 1000000000000) :
    Calls Tryz.prog 75 #[.pointer (some ⟨q, 0, none⟩), exV e] u fun r u' => r = .returned (.tuple #[]) ∧ WF q u u' ∧ WrAt q (l ++ ([⟨#[40]⟩] ++ wT d e ++ [⟨#[41]⟩])) u' := by
  have hal := below_alloc u (.cells #[.int .i64 e.k, .int .i64 e.op, .bool e.no, .int .i64 e.vk, .int .i64 e.vi, .string e.vt, .string e.tb, .string e.nm, .slice e.pa e.args.length e.ca, .slice e.ps e.sub.length e.cs] 27)
  have HX0 := Lib.hid (show XB q (u.alloc (.cells #[.int .i64 e.k, .int .i64 e.op, .bool e.no, .int .i64 e.vk, .int .i64 e.vi, .string e.vt, .string e.tb, .string e.nm, .slice e.pa e.args.length e.ca, .slice e.ps e.sub.length e.cs] 27)) u.heap.size e from ⟨ExB.new u e _, NoStr.new _ _ _ (by decide), hW.lt⟩)
  have HW0 := Lib.hid (hW.low hal)
  have HF00 := Lib.hid (show WF q u (u.alloc (.cells #[.int .i64 e.k, .int .i64 e.op, .bool e.no, .int .i64 e.vk, .int .i64 e.vi, .string e.vt, .string e.tb, .string e.nm, .slice e.pa e.args.length e.ca, .slice e.ps e.sub.length e.cs] 27)) from WF.of_below hal)
  have HE0 := Lib.hid (hE.low hal)
  have HA0 := Lib.hid (hA.low hal)
  have HH := Lib.hid H
  clear hA H
  clear hal hW hE
  unfold exV
  go_enter Tryz.func75, Tryz.ntmps75
  go_upto_region 1 with (fail)
  generalize World.alloc _ _ = u0 at *
  generalize u.heap.size = X at *
  go_wp2_with fail
  refine (put_one ⟨#[40]⟩ HW0.out (by first | omega | (simp only [List.length_append, List.length_cons, List.length_nil]; omega))).mono ?_
  rintro e u1 ⟨rfl, hf, hw⟩
  have HF1 := Lib.hid (hf)
  have HW1 := Lib.hid hw
  have HX1 := Lib.hid (HX0.out.wf hf)
  clear hf hw
  obtain ⟨xl, x0, x1, x2, x3, x4, x5, x6, x7, x8, x9, xf⟩ := HX1.out.box
  go_wp2_with fail
  clear xl x0 x1 x2 x3 x4 x5 x6 x7 x8 x9 xf
  refine (HH.out q _ e _ h8 HW1.out (HE0.out.wf HF1.out h8) (HA0.out.wf HF1.out) hv (by first | omega | (simp only [List.length_append, List.length_cons, List.length_nil]; omega))).mono ?_
  rintro e u2 ⟨rfl, hf, hw⟩
  have HF2 := Lib.hid (HF1.out.trans hf)
  have HW2 := Lib.hid hw
  have HX2 := Lib.hid (HX1.out.wf hf)
  clear hf hw
  go_wp2_with fail
  refine (put_one ⟨#[41]⟩ HW2.out (by first | omega | (simp only [List.length_append, List.length_cons, List.length_nil]; omega))).mono ?_
  rintro e u3 ⟨rfl, hf, hw⟩
  have HF3 := Lib.hid (HF2.out.trans hf)
  have HW3 := Lib.hid hw
  have HX3 := Lib.hid (HX2.out.wf hf)
  clear hf hw
  go_wp2
  first | go_end0 | (refine bodyPost_ret (results_none rfl _ _ _) rfl ?_)
  exact ⟨rfl, HF00.out.trans HF3.out, by simpa using HW3.out⟩
set_option maxHeartbeats 2000000 in
theorem arg_any {d q : Nat} (H : EDoes ls d) (h8 : 13 ≤ q) (hm : 8 ∈ ls) (l : List ByteArray) (e : Ex) (i : Nat) (u : World) (hW : WrAt q l u) (hE : Env ls u) (hF : Fine (vE d) e) (hi : i < e.args.length) (hA : LAt (fun c => c < q) u (ExAt (fun c => c < q) u d) e.pa e.args) (hz : l.length + (argT (wT d) e i).length ≤ 1000000000000) :
    Calls Tryz.prog 46 #[.pointer (some ⟨q, 0, none⟩), exV e, .int .i64 i] u fun r u' => r = .returned (.tuple #[]) ∧ WF q u u' ∧ WrAt q (l ++ argT (wT d) e i) u' := by
  have HV := Lib.hid (hF.args _ (eAt_mem hi))
  have HIP := Lib.hid (fun v (hE : Env ls v) (hA : LAt (fun c => c < q) v (ExAt (fun c => c < q) v d) e.pa e.args) => pinPar_any e i v hF hE hm hi hA)
  have hiI : (i : Int) < e.args.length := by omega
  have hal := below_alloc u (.cells #[.int .i64 e.k, .int .i64 e.op, .bool e.no, .int .i64 e.vk, .int .i64 e.vi, .string e.vt, .string e.tb, .string e.nm, .slice e.pa e.args.length e.ca, .slice e.ps e.sub.length e.cs] 27)
  have HX0 := Lib.hid (show XB q (u.alloc (.cells #[.int .i64 e.k, .int .i64 e.op, .bool e.no, .int .i64 e.vk, .int .i64 e.vi, .string e.vt, .string e.tb, .string e.nm, .slice e.pa e.args.length e.ca, .slice e.ps e.sub.length e.cs] 27)) u.heap.size e from ⟨ExB.new u e _, NoStr.new _ _ _ (by decide), hW.lt⟩)
  have HW0 := Lib.hid (hW.low hal)
  have HF00 := Lib.hid (show WF q u (u.alloc (.cells #[.int .i64 e.k, .int .i64 e.op, .bool e.no, .int .i64 e.vk, .int .i64 e.vi, .string e.vt, .string e.tb, .string e.nm, .slice e.pa e.args.length e.ca, .slice e.ps e.sub.length e.cs] 27)) from WF.of_below hal)
  have HE0 := Lib.hid (hE.low hal)
  have HA0 := Lib.hid (hA.low hal)
  have HH := Lib.hid H
  have HZ := Lib.hid hz
  clear hA H hF hz
  clear hal hW hE
  unfold exV
  go_enter Tryz.func46, Tryz.ntmps46
  go_upto_region 1 with (fail)
  generalize World.alloc _ _ = u0 at *
  generalize u.heap.size = X at *
  obtain ⟨xl, x0, x1, x2, x3, x4, x5, x6, x7, x8, x9, xf⟩ := HX0.out.box
  go_wp2_with fail
  clear xl x0 x1 x2 x3 x4 x5 x6 x7 x8 x9 xf
  refine (HIP.out _ HE0.out HA0.out).mono ?_
  rintro e u1 ⟨rfl, hb⟩
  have HF1 := Lib.hid (WF.of_below (q := q) hb)
  have HW1 := Lib.hid (HW0.out.low hb)
  have HX1 := Lib.hid (HX0.out.wf (WF.of_below hb))
  clear hb
  obtain ⟨g, o, hpa, hg, hgq, hC, hX⟩ := (HA0.out.wf HF1.out) i hi
  have HT1 := Lib.hid hX
  clear hX hg hgq
  have HAR := Lib.hid (show argT (wT d) e i = if inPar e i then [⟨#[40]⟩] ++ wT d (eAt e.args i) ++ [⟨#[41]⟩] else wT d (eAt e.args i) from rfl)
  rw [HAR.out] at HZ
  generalize inPar e i = b at *
  generalize hx : eAt e.args i = x at *
  clear hx
  obtain ⟨c0, c1, c2, c3, c4, c5, c6, c7, c8, c9⟩ := hC
  obtain ⟨xl, x0, x1, x2, x3, x4, x5, x6, x7, x8, x9, xf⟩ := HX1.out.box
  rw [hpa] at x8
  cases b
  · have hz := HZ.out
    simp only [Bool.false_eq_true, if_false] at hz
    go_wp2_with fail
    clear xl x0 x1 x2 x3 x4 x5 x6 x7 x8 x9 xf c0 c1 c2 c3 c4 c5 c6 c7 c8 c9
    refine (HH.out q _ x _ h8 HW1.out (HE0.out.wf HF1.out h8) HT1.out HV.out (by omega)).mono ?_
    rintro e u2 ⟨rfl, hf, hw⟩
    have HF2 := Lib.hid (HF1.out.trans hf)
    have HW2 := Lib.hid hw
    have HX2 := Lib.hid (HX1.out.wf hf)
    clear hf hw
    go_wp2
    first | go_end0 | (refine bodyPost_ret (results_none rfl _ _ _) rfl ?_)
    exact ⟨rfl, HF00.out.trans HF2.out, by rw [HAR.out]; simpa using HW2.out⟩
  · have hz := HZ.out
    simp only [if_true, List.length_append, List.length_cons, List.length_nil] at hz
    go_wp2_with fail
    clear xl x0 x1 x2 x3 x4 x5 x6 x7 x8 x9 xf c0 c1 c2 c3 c4 c5 c6 c7 c8 c9
    refine (enclosed_any HH.out h8 _ x _ HW1.out (HE0.out.wf HF1.out h8) HT1.out HV.out (by omega)).mono ?_
    rintro e u2 ⟨rfl, hf, hw⟩
    have HF2 := Lib.hid (HF1.out.trans hf)
    have HW2 := Lib.hid hw
    have HX2 := Lib.hid (HX1.out.wf hf)
    clear hf hw
    go_wp2
    first | go_end0 | (refine bodyPost_ret (results_none rfl _ _ _) rfl ?_)
    exact ⟨rfl, HF00.out.trans HF2.out, by rw [HAR.out]; simpa using HW2.out⟩
set_option maxHeartbeats 2000000 in
theorem where_any {d q : Nat} (H : EDoes ls d) (h8 : 13 ≤ q) (l : List ByteArray) (p : Option Addr) (wh : List Ex) (cap : Nat) (u : World) (hW : WrAt q l u) (hE : Env ls u) (hA : LAt (fun c => c < q) u (ExAt (fun c => c < q) u d) p wh) (hv : ∀ a ∈ wh, vE d a = true) (hn : wh.length ≤ 1) (hz : l.length + (whT (wT d) wh).length ≤ 1000000000000) :
    Calls Tryz.prog 87 #[.pointer (some ⟨q, 0, none⟩), .slice p wh.length cap] u fun r u' => r = .returned (.tuple #[]) ∧ WF q u u' ∧ WrAt q (l ++ whT (wT d) wh) u' := by
  have HW := Lib.hid hW
  have HE := Lib.hid hE
  have HA := Lib.hid hA
  have HH := Lib.hid H
  have HV := Lib.hid hv
  clear hW hE hA H hv
  have hwl : wh = [] ∨ ∃ a, wh = [a] := by
    match wh, hn with
    | [], _ => exact .inl rfl
    | [a], _ => exact .inr ⟨a, rfl⟩
  rcases hwl with rfl | ⟨a, rfl⟩
  · show Calls Tryz.prog 87 #[.pointer (some ⟨q, 0, none⟩), .slice p 0 cap] u _
    clear hn hz HV HA HH HE
    go_enter Tryz.func87, Tryz.ntmps87
    go_wp2_with fail
    go_loopw [8] (fun i v => i = .int .i64 0 ∧ v = u) (fun _ _ => 0)
    case atStart => exact ⟨rfl, rfl⟩
    case round =>
      obtain ⟨rfl, rfl⟩ := hrel
      go_wp2
      first | go_end0 | (refine bodyPost_ret (results_none rfl _ _ _) rfl ?_)
      exact ⟨rfl, WF.refl _ _, by simpa [whT] using HW.out⟩
  · have HRW := Lib.hid (show whT (wT d) [a] = [⟨#[87, 72, 69, 82, 69]⟩] ++ wT d a by simp [whT])
    rw [HRW.out] at hz ⊢
    simp only [List.length_append, List.length_cons, List.length_nil] at hz
    have hv := HV.out a (List.mem_singleton.2 rfl)
    obtain ⟨g, o, rfl, hg, hgq, hC, hX⟩ := HA.out 0 (by simp)
    have HT := Lib.hid (show ExAt (fun c => c < q) u d a from hX)
    have hC : ExC u g (o + 0 * 10) a := hC
    rw [Nat.zero_mul, Nat.add_zero] at hC
    have HC := Lib.hid (fun v (hw : WF q u v) => hC.keep (hw.low g hgq hg))
    clear hX hg hgq hn HV hC HA
    show Calls Tryz.prog 87 #[.pointer (some ⟨q, 0, none⟩), .slice (some ⟨g, o, none⟩) 1 cap] u _
    go_enter Tryz.func87, Tryz.ntmps87
    go_wp2_with fail
    go_loopw [8] (fun i v => ∃ k : Nat, k ≤ 1 ∧ i = .int .i64 k ∧ WF q u v ∧ WrAt q (l ++ if k = 0 then [] else [⟨#[87, 72, 69, 82, 69]⟩] ++ wT d a) v) (fun i _ => 1 - (intOf i).toNat)
    case atStart => exact ⟨0, Nat.zero_le _, rfl, WF.refl _ _, by rw [if_pos rfl, List.append_nil]; exact HW.out⟩
    case round =>
      obtain ⟨k, hk, rfl, hf, hw⟩ := hrel
      have HF := Lib.hid hf
      clear hf
      by_cases hk1 : k < 1
      · obtain rfl : k = 0 := by omega
        have HWr : Hid (WrAt q l wr) := Lib.hid (by rw [if_pos rfl, List.append_nil] at hw; exact hw)
        clear hw
        obtain ⟨c0, c1, c2, c3, c4, c5, c6, c7, c8, c9⟩ := HC.out _ HF.out
        go_upto_region 3 with (fail)
        have hal := below_alloc wr (.cells #[.int .i64 a.k, .int .i64 a.op, .bool a.no, .int .i64 a.vk, .int .i64 a.vi, .string a.vt, .string a.tb, .string a.nm, .slice a.pa a.args.length a.ca, .slice a.ps a.sub.length a.cs] 27)
        have HX0 := Lib.hid (show XB q (wr.alloc (.cells #[.int .i64 a.k, .int .i64 a.op, .bool a.no, .int .i64 a.vk, .int .i64 a.vi, .string a.vt, .string a.tb, .string a.nm, .slice a.pa a.args.length a.ca, .slice a.ps a.sub.length a.cs] 27)) wr.heap.size a from ⟨ExB.new wr a _, NoStr.new _ _ _ (by decide), HWr.out.lt⟩)
        have HW0 := Lib.hid (HWr.out.low hal)
        have HF0 := Lib.hid (HF.out.trans (WF.of_below hal))
        have HT0 := Lib.hid (HT.out.wf HF0.out)
        clear hal c0 c1 c2 c3 c4 c5 c6 c7 c8 c9 HT HWr HC
        generalize World.alloc _ _ = u0 at *
        generalize wr.heap.size = X at *
        go_wp2_with fail
        refine (put_one ⟨#[87, 72, 69, 82, 69]⟩ HW0.out (by omega)).mono ?_
        rintro e u1 ⟨rfl, hf1, hw1⟩
        have HF1 := Lib.hid (HF0.out.trans hf1)
        have HW1 := Lib.hid hw1
        have HX1 := Lib.hid (HX0.out.wf hf1)
        have HT1 := Lib.hid (HT0.out.wf hf1)
        clear hf1 hw1
        obtain ⟨xl, x0, x1, x2, x3, x4, x5, x6, x7, x8, x9, xf⟩ := HX1.out.box
        go_wp2_with fail
        clear xl x0 x1 x2 x3 x4 x5 x6 x7 x8 x9 xf
        refine (HH.out q _ a _ h8 HW1.out (HE.out.wf HF1.out h8) HT1.out hv (by simp only [List.length_append, List.length_cons, List.length_nil]; omega)).mono ?_
        rintro e u2 ⟨rfl, hf2, hw2⟩
        have HF2 := Lib.hid (HF1.out.trans hf2)
        have HW2 := Lib.hid hw2
        clear hf2 hw2
        go_wp2
        go_roundw
        case rel => exact ⟨1, Nat.le_refl _, by go_num, HF2.out, by rw [if_neg (by decide)]; simpa using HW2.out⟩
        case measure => simp [intOf]
      · obtain rfl : k = 1 := by omega
        have HWr : Hid (WrAt q (l ++ ([⟨#[87, 72, 69, 82, 69]⟩] ++ wT d a)) wr) := Lib.hid (by rw [if_neg (by decide)] at hw; exact hw)
        clear hw
        go_wp2
        first | go_end0 | (refine bodyPost_ret (results_none rfl _ _ _) rfl ?_)
        exact ⟨rfl, HF.out, HWr.out⟩
set_option maxHeartbeats 1000000 in
theorem from_any {d q : Nat} (H : EDoes ls d) (h8 : 13 ≤ q) (l : List ByteArray) (x : Qu) (u : World) (hW : WrAt q l u) (hE : Env ls u) (hA : QuIn (fun c => c < q) u (ExAt (fun c => c < q) u d) x) (hv : ∀ a ∈ x.wh, vE d a = true) (hn : x.wh.length ≤ 1) (hz : l.length + (fromT (wT d) x).length ≤ 1000000000000) :
    Calls Tryz.prog 76 #[.pointer (some ⟨q, 0, none⟩), quV x] u fun r u' => r = .returned (.tuple #[]) ∧ WF q u u' ∧ WrAt q (l ++ fromT (wT d) x) u' := by
  unfold fromT at hz ⊢
  simp only [List.length_append, List.length_cons, List.length_nil] at hz
  have hal := below_alloc u (.cells #[.bool x.st, .slice x.pi x.items.length x.ci, .string x.fr, .slice x.pw x.wh.length x.cw] 53)
  have HX0 := Lib.hid (show QB q (u.alloc (.cells #[.bool x.st, .slice x.pi x.items.length x.ci, .string x.fr, .slice x.pw x.wh.length x.cw] 53)) u.heap.size x from ⟨QuBx.new u x _, NoStr.new _ _ _ (by decide), hW.lt⟩)
  have HW0 := Lib.hid (hW.low hal)
  have HF00 := Lib.hid (show WF q u (u.alloc (.cells #[.bool x.st, .slice x.pi x.items.length x.ci, .string x.fr, .slice x.pw x.wh.length x.cw] 53)) from WF.of_below hal)
  have HE0 := Lib.hid (hE.low hal)
  have HA0 := Lib.hid (hA.low hal)
  have HH := Lib.hid H
  have HV := Lib.hid hv
  clear hA H hv
  clear hal hW hE
  unfold quV
  go_enter Tryz.func76, Tryz.ntmps76
  go_upto_region 1 with (fail)
  generalize World.alloc _ _ = u0 at *
  generalize u.heap.size = X at *
  obtain ⟨yl, y0, y1, y2, y3, yf⟩ := HX0.out.box
  go_wp2_with fail
  clear yl y0 y1 y2 y3 yf
  refine (put_two ⟨#[70, 82, 79, 77]⟩ x.fr HW0.out (by first | omega | (simp only [List.length_append, List.length_cons, List.length_nil]; omega))).mono ?_
  rintro e u1 ⟨rfl, hf, hw⟩
  have HF1 := Lib.hid (hf)
  have HW1 := Lib.hid hw
  have HY1 := Lib.hid (HX0.out.wf hf)
  clear hf hw
  obtain ⟨yl, y0, y1, y2, y3, yf⟩ := HY1.out.box
  go_wp2_with fail
  clear yl y0 y1 y2 y3 yf
  refine (where_any HH.out h8 _ x.pw x.wh x.cw _ HW1.out (HE0.out.wf HF1.out h8) (HA0.out.wf HF1.out).wh HV.out hn (by first | omega | (simp only [List.length_append, List.length_cons, List.length_nil]; omega))).mono ?_
  rintro e u2 ⟨rfl, hf, hw⟩
  have HF2 := Lib.hid (HF1.out.trans hf)
  have HW2 := Lib.hid hw
  have HY2 := Lib.hid (HY1.out.wf hf)
  clear hf hw
  go_wp2
  first | go_end0 | (refine bodyPost_ret (results_none rfl _ _ _) rfl ?_)
  exact ⟨rfl, HF00.out.trans HF2.out, by simpa using HW2.out⟩
end Go.Proofs.YtlpaphgmdcpmaaaGreatDoor
/-
  subquery of package print.
-/
namespace Go.Proofs.YtlpaphgmdcpmaaaGreatDoor
set_option maxRecDepth 100000
open Go.RowKit
variable {ls : List Nat}

set_option maxHeartbeats 8000000 in
theorem subquery_8 {d q : Nat} (H : EDoes ls d) (h8 : 13 ≤ q) (l : List ByteArray) (x : Qu) (u : World) (hW : WrAt q l u) (hE : Env ls u) (hA : QuIn (fun c => c < q) u (ExAt (fun c => c < q) u d) x) (hQ : FineQ (vE d) 8 x) (hz : l.length + (subT (wT d) 8 x).length ≤ 1000000000000) :
    Calls Tryz.prog 48 #[.pointer (some ⟨q, 0, none⟩), .int .i64 8, quV x] u fun r u' => r = .returned (.tuple #[]) ∧ WF q u u' ∧ WrAt q (l ++ subT (wT d) 8 x) u' := by
  have HVW := Lib.hid hQ.allW
  have hwl := hQ.wh
  have hil := hQ.items
  have HVI := Lib.hid hQ.allI
  clear hQ
  have e0 : subT (wT d) 8 x = [⟨#[69, 88, 73, 83, 84, 83]⟩] ++ [⟨#[40]⟩, ⟨#[83, 69, 76, 69, 67, 84]⟩] ++ [⟨#[42]⟩] ++ fromT (wT d) x ++ [⟨#[41]⟩] := rfl
  rw [e0] at hz ⊢
  clear e0
  simp only [List.length_append, List.length_cons, List.length_nil] at hz
  clear hil
  have hal := below_alloc u (.cells #[.bool x.st, .slice x.pi x.items.length x.ci, .string x.fr, .slice x.pw x.wh.length x.cw] 53)
  have HX0 := Lib.hid (show QB q (u.alloc (.cells #[.bool x.st, .slice x.pi x.items.length x.ci, .string x.fr, .slice x.pw x.wh.length x.cw] 53)) u.heap.size x from ⟨QuBx.new u x _, NoStr.new _ _ _ (by decide), hW.lt⟩)
  have HW0 := Lib.hid (hW.low hal)
  have HF00 := Lib.hid (show WF q u (u.alloc (.cells #[.bool x.st, .slice x.pi x.items.length x.ci, .string x.fr, .slice x.pw x.wh.length x.cw] 53)) from WF.of_below hal)
  have HE0 := Lib.hid (hE.low hal)
  have HA0 := Lib.hid (hA.low hal)
  have HH := Lib.hid H
  clear hA H
  clear hal hW hE
  unfold quV
  go_enter Tryz.func48, Tryz.ntmps48
  go_upto_region 1 with (fail)
  generalize World.alloc _ _ = u0 at *
  generalize u.heap.size = X at *
  go_wp2_with fail
  refine (put_one ⟨#[69, 88, 73, 83, 84, 83]⟩ HW0.out (by first | omega | (simp only [List.length_append, List.length_cons, List.length_nil]; omega))).mono ?_
  rintro e u1 ⟨rfl, hf, hw⟩
  have HF1 := Lib.hid (hf)
  have HW1 := Lib.hid hw
  have HY1 := Lib.hid (HX0.out.wf hf)
  clear hf hw
  go_wp2_with fail
  refine (put_two ⟨#[40]⟩ ⟨#[83, 69, 76, 69, 67, 84]⟩ HW1.out (by first | omega | (simp only [List.length_append, List.length_cons, List.length_nil]; omega))).mono ?_
  rintro e u2 ⟨rfl, hf, hw⟩
  have HF2 := Lib.hid (HF1.out.trans hf)
  have HW2 := Lib.hid hw
  have HY2 := Lib.hid (HY1.out.wf hf)
  clear hf hw
  go_wp2_with fail
  refine (put_one ⟨#[42]⟩ HW2.out (by first | omega | (simp only [List.length_append, List.length_cons, List.length_nil]; omega))).mono ?_
  rintro e u3 ⟨rfl, hf, hw⟩
  have HF3 := Lib.hid (HF2.out.trans hf)
  have HW3 := Lib.hid hw
  have HY3 := Lib.hid (HY2.out.wf hf)
  clear hf hw
  obtain ⟨yl, y0, y1, y2, y3, yf⟩ := HY3.out.box
  go_wp2_with fail
  clear yl y0 y1 y2 y3 yf
  refine (from_any HH.out h8 _ x _ HW3.out (HE0.out.wf HF3.out h8) (HA0.out.wf HF3.out) HVW.out hwl (by first | omega | (simp only [List.length_append, List.length_cons, List.length_nil]; omega))).mono ?_
  rintro e u4 ⟨rfl, hf, hw⟩
  have HF4 := Lib.hid (HF3.out.trans hf)
  have HW4 := Lib.hid hw
  have HY4 := Lib.hid (HY3.out.wf hf)
  clear hf hw
  go_wp2_with fail
  refine (put_one ⟨#[41]⟩ HW4.out (by first | omega | (simp only [List.length_append, List.length_cons, List.length_nil]; omega))).mono ?_
  rintro e u5 ⟨rfl, hf, hw⟩
  have HF5 := Lib.hid (HF4.out.trans hf)
  have HW5 := Lib.hid hw
  have HY5 := Lib.hid (HY4.out.wf hf)
  clear hf hw
  go_wp2
  first | go_end0 | (refine bodyPost_ret (results_none rfl _ _ _) rfl ?_)
  exact ⟨rfl, HF00.out.trans HF5.out, by simpa using HW5.out⟩
set_option maxHeartbeats 8000000 in
theorem subquery_9 {d q : Nat} (H : EDoes ls d) (h8 : 13 ≤ q) (l : List ByteArray) (x : Qu) (u : World) (hW : WrAt q l u) (hE : Env ls u) (hA : QuIn (fun c => c < q) u (ExAt (fun c => c < q) u d) x) (hQ : FineQ (vE d) 9 x) (hz : l.length + (subT (wT d) 9 x).length ≤ 1000000000000) :
    Calls Tryz.prog 48 #[.pointer (some ⟨q, 0, none⟩), .int .i64 9, quV x] u fun r u' => r = .returned (.tuple #[]) ∧ WF q u u' ∧ WrAt q (l ++ subT (wT d) 9 x) u' := by
  have HVW := Lib.hid hQ.allW
  have hwl := hQ.wh
  have hil := hQ.items
  have HVI := Lib.hid hQ.allI
  clear hQ
  have e0 : subT (wT d) 9 x = [] ++ [⟨#[40]⟩, ⟨#[83, 69, 76, 69, 67, 84]⟩] ++ [⟨#[67, 79, 85, 78, 84]⟩, ⟨#[40]⟩, ⟨#[42]⟩, ⟨#[41]⟩] ++ fromT (wT d) x ++ [⟨#[41]⟩] := rfl
  rw [e0] at hz ⊢
  clear e0
  simp only [List.length_append, List.length_cons, List.length_nil] at hz
  clear hil
  have hal := below_alloc u (.cells #[.bool x.st, .slice x.pi x.items.length x.ci, .string x.fr, .slice x.pw x.wh.length x.cw] 53)
  have HX0 := Lib.hid (show QB q (u.alloc (.cells #[.bool x.st, .slice x.pi x.items.length x.ci, .string x.fr, .slice x.pw x.wh.length x.cw] 53)) u.heap.size x from ⟨QuBx.new u x _, NoStr.new _ _ _ (by decide), hW.lt⟩)
  have HW0 := Lib.hid (hW.low hal)
  have HF00 := Lib.hid (show WF q u (u.alloc (.cells #[.bool x.st, .slice x.pi x.items.length x.ci, .string x.fr, .slice x.pw x.wh.length x.cw] 53)) from WF.of_below hal)
  have HE0 := Lib.hid (hE.low hal)
  have HA0 := Lib.hid (hA.low hal)
  have HH := Lib.hid H
  clear hA H
  clear hal hW hE
  unfold quV
  go_enter Tryz.func48, Tryz.ntmps48
  go_upto_region 1 with (fail)
  generalize World.alloc _ _ = u0 at *
  generalize u.heap.size = X at *
  go_wp2_with fail
  refine (put_two ⟨#[40]⟩ ⟨#[83, 69, 76, 69, 67, 84]⟩ HW0.out (by first | omega | (simp only [List.length_append, List.length_cons, List.length_nil]; omega))).mono ?_
  rintro e u1 ⟨rfl, hf, hw⟩
  have HF1 := Lib.hid (hf)
  have HW1 := Lib.hid hw
  have HY1 := Lib.hid (HX0.out.wf hf)
  clear hf hw
  go_wp2_with fail
  refine (put_four ⟨#[67, 79, 85, 78, 84]⟩ ⟨#[40]⟩ ⟨#[42]⟩ ⟨#[41]⟩ HW1.out (by first | omega | (simp only [List.length_append, List.length_cons, List.length_nil]; omega))).mono ?_
  rintro e u2 ⟨rfl, hf, hw⟩
  have HF2 := Lib.hid (HF1.out.trans hf)
  have HW2 := Lib.hid hw
  have HY2 := Lib.hid (HY1.out.wf hf)
  clear hf hw
  obtain ⟨yl, y0, y1, y2, y3, yf⟩ := HY2.out.box
  go_wp2_with fail
  clear yl y0 y1 y2 y3 yf
  refine (from_any HH.out h8 _ x _ HW2.out (HE0.out.wf HF2.out h8) (HA0.out.wf HF2.out) HVW.out hwl (by first | omega | (simp only [List.length_append, List.length_cons, List.length_nil]; omega))).mono ?_
  rintro e u3 ⟨rfl, hf, hw⟩
  have HF3 := Lib.hid (HF2.out.trans hf)
  have HW3 := Lib.hid hw
  have HY3 := Lib.hid (HY2.out.wf hf)
  clear hf hw
  go_wp2_with fail
  refine (put_one ⟨#[41]⟩ HW3.out (by first | omega | (simp only [List.length_append, List.length_cons, List.length_nil]; omega))).mono ?_
  rintro e u4 ⟨rfl, hf, hw⟩
  have HF4 := Lib.hid (HF3.out.trans hf)
  have HW4 := Lib.hid hw
  have HY4 := Lib.hid (HY3.out.wf hf)
  clear hf hw
  go_wp2
  first | go_end0 | (refine bodyPost_ret (results_none rfl _ _ _) rfl ?_)
  exact ⟨rfl, HF00.out.trans HF4.out, by simpa using HW4.out⟩
set_option maxHeartbeats 8000000 in
theorem subquery_10 {d q : Nat} (H : EDoes ls d) (h8 : 13 ≤ q) (l : List ByteArray) (x : Qu) (u : World) (hW : WrAt q l u) (hE : Env ls u) (hA : QuIn (fun c => c < q) u (ExAt (fun c => c < q) u d) x) (hQ : FineQ (vE d) 10 x) (hz : l.length + (subT (wT d) 10 x).length ≤ 1000000000000) :
    Calls Tryz.prog 48 #[.pointer (some ⟨q, 0, none⟩), .int .i64 10, quV x] u fun r u' => r = .returned (.tuple #[]) ∧ WF q u u' ∧ WrAt q (l ++ subT (wT d) 10 x) u' := by
  have HVW := Lib.hid hQ.allW
  have hwl := hQ.wh
  have hil := hQ.items
  have HVI := Lib.hid hQ.allI
  clear hQ
  have e0 : subT (wT d) 10 x = [] ++ [⟨#[40]⟩, ⟨#[83, 69, 76, 69, 67, 84]⟩] ++ ([⟨#[83, 85, 77]⟩] ++ ([⟨#[40]⟩] ++ wT d (eAt x.items 0) ++ [⟨#[41]⟩])) ++ fromT (wT d) x ++ [⟨#[41]⟩] := rfl
  rw [e0] at hz ⊢
  clear e0
  simp only [List.length_append, List.length_cons, List.length_nil] at hz
  have hi1 : x.items.length = 1 := hil
  have HI0 := Lib.hid (show 0 < x.items.length by omega)
  have hiI : (0 : Int) < x.items.length := by omega
  clear hil hi1
  have hal := below_alloc u (.cells #[.bool x.st, .slice x.pi x.items.length x.ci, .string x.fr, .slice x.pw x.wh.length x.cw] 53)
  have HX0 := Lib.hid (show QB q (u.alloc (.cells #[.bool x.st, .slice x.pi x.items.length x.ci, .string x.fr, .slice x.pw x.wh.length x.cw] 53)) u.heap.size x from ⟨QuBx.new u x _, NoStr.new _ _ _ (by decide), hW.lt⟩)
  have HW0 := Lib.hid (hW.low hal)
  have HF00 := Lib.hid (show WF q u (u.alloc (.cells #[.bool x.st, .slice x.pi x.items.length x.ci, .string x.fr, .slice x.pw x.wh.length x.cw] 53)) from WF.of_below hal)
  have HE0 := Lib.hid (hE.low hal)
  have HA0 := Lib.hid (hA.low hal)
  have HH := Lib.hid H
  clear hA H
  clear hal hW hE
  unfold quV
  go_enter Tryz.func48, Tryz.ntmps48
  go_upto_region 1 with (fail)
  generalize World.alloc _ _ = u0 at *
  generalize u.heap.size = X at *
  go_wp2_with fail
  refine (put_two ⟨#[40]⟩ ⟨#[83, 69, 76, 69, 67, 84]⟩ HW0.out (by first | omega | (simp only [List.length_append, List.length_cons, List.length_nil]; omega))).mono ?_
  rintro e u1 ⟨rfl, hf, hw⟩
  have HF1 := Lib.hid (hf)
  have HW1 := Lib.hid hw
  have HY1 := Lib.hid (HX0.out.wf hf)
  clear hf hw
  go_wp2_with fail
  refine (put_one ⟨#[83, 85, 77]⟩ HW1.out (by first | omega | (simp only [List.length_append, List.length_cons, List.length_nil]; omega))).mono ?_
  rintro e u2 ⟨rfl, hf, hw⟩
  have HF2 := Lib.hid (HF1.out.trans hf)
  have HW2 := Lib.hid hw
  have HY2 := Lib.hid (HY1.out.wf hf)
  clear hf hw
  obtain ⟨g, o, hpi, hg, hgq, hC, hX⟩ := (HA0.out.wf HF2.out).items 0 HI0.out
  have HT1 := Lib.hid hX
  rw [Nat.zero_mul, Nat.add_zero] at hC
  clear hX hg hgq
  have hva := HVI.out _ (eAt_mem HI0.out)
  generalize hxe : eAt x.items 0 = a at *
  have HXA := Lib.hid hxe
  clear hxe
  obtain ⟨c0, c1, c2, c3, c4, c5, c6, c7, c8, c9⟩ := hC
  obtain ⟨yl, y0, y1, y2, y3, yf⟩ := HY2.out.box
  rw [hpi] at y1
  go_wp2_with fail
  clear yl y0 y1 y2 y3 yf c0 c1 c2 c3 c4 c5 c6 c7 c8 c9 hpi
  refine (enclosed_any HH.out h8 _ a _ HW2.out (HE0.out.wf HF2.out h8) HT1.out hva (by first | omega | (simp only [List.length_append, List.length_cons, List.length_nil]; omega))).mono ?_
  rintro e u3 ⟨rfl, hf, hw⟩
  have HF3 := Lib.hid (HF2.out.trans hf)
  have HW3 := Lib.hid hw
  have HY3 := Lib.hid (HY2.out.wf hf)
  clear hf hw
  obtain ⟨yl, y0, y1, y2, y3, yf⟩ := HY3.out.box
  go_wp2_with fail
  clear yl y0 y1 y2 y3 yf
  refine (from_any HH.out h8 _ x _ HW3.out (HE0.out.wf HF3.out h8) (HA0.out.wf HF3.out) HVW.out hwl (by first | omega | (simp only [List.length_append, List.length_cons, List.length_nil]; omega))).mono ?_
  rintro e u4 ⟨rfl, hf, hw⟩
  have HF4 := Lib.hid (HF3.out.trans hf)
  have HW4 := Lib.hid hw
  have HY4 := Lib.hid (HY3.out.wf hf)
  clear hf hw
  go_wp2_with fail
  refine (put_one ⟨#[41]⟩ HW4.out (by first | omega | (simp only [List.length_append, List.length_cons, List.length_nil]; omega))).mono ?_
  rintro e u5 ⟨rfl, hf, hw⟩
  have HF5 := Lib.hid (HF4.out.trans hf)
  have HW5 := Lib.hid hw
  have HY5 := Lib.hid (HY4.out.wf hf)
  clear hf hw
  go_wp2
  first | go_end0 | (refine bodyPost_ret (results_none rfl _ _ _) rfl ?_)
  exact ⟨rfl, HF00.out.trans HF5.out, by rw [HXA.out]; simpa using HW5.out⟩
set_option maxHeartbeats 8000000 in
theorem subquery_11 {d q : Nat} (H : EDoes ls d) (h8 : 13 ≤ q) (l : List ByteArray) (x : Qu) (u : World) (hW : WrAt q l u) (hE : Env ls u) (hA : QuIn (fun c => c < q) u (ExAt (fun c => c < q) u d) x) (hQ : FineQ (vE d) 11 x) (hz : l.length + (subT (wT d) 11 x).length ≤ 1000000000000) :
    Calls Tryz.prog 48 #[.pointer (some ⟨q, 0, none⟩), .int .i64 11, quV x] u fun r u' => r = .returned (.tuple #[]) ∧ WF q u u' ∧ WrAt q (l ++ subT (wT d) 11 x) u' := by
  have HVW := Lib.hid hQ.allW
  have hwl := hQ.wh
  have hil := hQ.items
  have HVI := Lib.hid hQ.allI
  clear hQ
  have e0 : subT (wT d) 11 x = [] ++ [⟨#[40]⟩, ⟨#[83, 69, 76, 69, 67, 84]⟩] ++ ([⟨#[77, 73, 78]⟩] ++ ([⟨#[40]⟩] ++ wT d (eAt x.items 0) ++ [⟨#[41]⟩])) ++ fromT (wT d) x ++ [⟨#[41]⟩] := rfl
  rw [e0] at hz ⊢
  clear e0
  simp only [List.length_append, List.length_cons, List.length_nil] at hz
  have hi1 : x.items.length = 1 := hil
  have HI0 := Lib.hid (show 0 < x.items.length by omega)
  have hiI : (0 : Int) < x.items.length := by omega
  clear hil hi1
  have hal := below_alloc u (.cells #[.bool x.st, .slice x.pi x.items.length x.ci, .string x.fr, .slice x.pw x.wh.length x.cw] 53)
  have HX0 := Lib.hid (show QB q (u.alloc (.cells #[.bool x.st, .slice x.pi x.items.length x.ci, .string x.fr, .slice x.pw x.wh.length x.cw] 53)) u.heap.size x from ⟨QuBx.new u x _, NoStr.new _ _ _ (by decide), hW.lt⟩)
  have HW0 := Lib.hid (hW.low hal)
  have HF00 := Lib.hid (show WF q u (u.alloc (.cells #[.bool x.st, .slice x.pi x.items.length x.ci, .string x.fr, .slice x.pw x.wh.length x.cw] 53)) from WF.of_below hal)
  have HE0 := Lib.hid (hE.low hal)
  have HA0 := Lib.hid (hA.low hal)
  have HH := Lib.hid H
  clear hA H
  clear hal hW hE
  unfold quV
  go_enter Tryz.func48, Tryz.ntmps48
  go_upto_region 1 with (fail)
  generalize World.alloc _ _ = u0 at *
  generalize u.heap.size = X at *
  go_wp2_with fail
  refine (put_two ⟨#[40]⟩ ⟨#[83, 69, 76, 69, 67, 84]⟩ HW0.out (by first | omega | (simp only [List.length_append, List.length_cons, List.length_nil]; omega))).mono ?_
  rintro e u1 ⟨rfl, hf, hw⟩
  have HF1 := Lib.hid (hf)
  have HW1 := Lib.hid hw
  have HY1 := Lib.hid (HX0.out.wf hf)
  clear hf hw
  go_wp2_with fail
  refine (put_one ⟨#[77, 73, 78]⟩ HW1.out (by first | omega | (simp only [List.length_append, List.length_cons, List.length_nil]; omega))).mono ?_
  rintro e u2 ⟨rfl, hf, hw⟩
  have HF2 := Lib.hid (HF1.out.trans hf)
  have HW2 := Lib.hid hw
  have HY2 := Lib.hid (HY1.out.wf hf)
  clear hf hw
  obtain ⟨g, o, hpi, hg, hgq, hC, hX⟩ := (HA0.out.wf HF2.out).items 0 HI0.out
  have HT1 := Lib.hid hX
  rw [Nat.zero_mul, Nat.add_zero] at hC
  clear hX hg hgq
  have hva := HVI.out _ (eAt_mem HI0.out)
  generalize hxe : eAt x.items 0 = a at *
  have HXA := Lib.hid hxe
  clear hxe
  obtain ⟨c0, c1, c2, c3, c4, c5, c6, c7, c8, c9⟩ := hC
  obtain ⟨yl, y0, y1, y2, y3, yf⟩ := HY2.out.box
  rw [hpi] at y1
  go_wp2_with fail
  clear yl y0 y1 y2 y3 yf c0 c1 c2 c3 c4 c5 c6 c7 c8 c9 hpi
  refine (enclosed_any HH.out h8 _ a _ HW2.out (HE0.out.wf HF2.out h8) HT1.out hva (by first | omega | (simp only [List.length_append, List.length_cons, List.length_nil]; omega))).mono ?_
  rintro e u3 ⟨rfl, hf, hw⟩
  have HF3 := Lib.hid (HF2.out.trans hf)
  have HW3 := Lib.hid hw
  have HY3 := Lib.hid (HY2.out.wf hf)
  clear hf hw
  obtain ⟨yl, y0, y1, y2, y3, yf⟩ := HY3.out.box
  go_wp2_with fail
  clear yl y0 y1 y2 y3 yf
  refine (from_any HH.out h8 _ x _ HW3.out (HE0.out.wf HF3.out h8) (HA0.out.wf HF3.out) HVW.out hwl (by first | omega | (simp only [List.length_append, List.length_cons, List.length_nil]; omega))).mono ?_
  rintro e u4 ⟨rfl, hf, hw⟩
  have HF4 := Lib.hid (HF3.out.trans hf)
  have HW4 := Lib.hid hw
  have HY4 := Lib.hid (HY3.out.wf hf)
  clear hf hw
  go_wp2_with fail
  refine (put_one ⟨#[41]⟩ HW4.out (by first | omega | (simp only [List.length_append, List.length_cons, List.length_nil]; omega))).mono ?_
  rintro e u5 ⟨rfl, hf, hw⟩
  have HF5 := Lib.hid (HF4.out.trans hf)
  have HW5 := Lib.hid hw
  have HY5 := Lib.hid (HY4.out.wf hf)
  clear hf hw
  go_wp2
  first | go_end0 | (refine bodyPost_ret (results_none rfl _ _ _) rfl ?_)
  exact ⟨rfl, HF00.out.trans HF5.out, by rw [HXA.out]; simpa using HW5.out⟩
set_option maxHeartbeats 8000000 in
theorem subquery_12 {d q : Nat} (H : EDoes ls d) (h8 : 13 ≤ q) (l : List ByteArray) (x : Qu) (u : World) (hW : WrAt q l u) (hE : Env ls u) (hA : QuIn (fun c => c < q) u (ExAt (fun c => c < q) u d) x) (hQ : FineQ (vE d) 12 x) (hz : l.length + (subT (wT d) 12 x).length ≤ 1000000000000) :
    Calls Tryz.prog 48 #[.pointer (some ⟨q, 0, none⟩), .int .i64 12, quV x] u fun r u' => r = .returned (.tuple #[]) ∧ WF q u u' ∧ WrAt q (l ++ subT (wT d) 12 x) u' := by
  have HVW := Lib.hid hQ.allW
  have hwl := hQ.wh
  have hil := hQ.items
  have HVI := Lib.hid hQ.allI
  clear hQ
  have e0 : subT (wT d) 12 x = [] ++ [⟨#[40]⟩, ⟨#[83, 69, 76, 69, 67, 84]⟩] ++ ([⟨#[77, 65, 88]⟩] ++ ([⟨#[40]⟩] ++ wT d (eAt x.items 0) ++ [⟨#[41]⟩])) ++ fromT (wT d) x ++ [⟨#[41]⟩] := rfl
  rw [e0] at hz ⊢
  clear e0
  simp only [List.length_append, List.length_cons, List.length_nil] at hz
  have hi1 : x.items.length = 1 := hil
  have HI0 := Lib.hid (show 0 < x.items.length by omega)
  have hiI : (0 : Int) < x.items.length := by omega
  clear hil hi1
  have hal := below_alloc u (.cells #[.bool x.st, .slice x.pi x.items.length x.ci, .string x.fr, .slice x.pw x.wh.length x.cw] 53)
  have HX0 := Lib.hid (show QB q (u.alloc (.cells #[.bool x.st, .slice x.pi x.items.length x.ci, .string x.fr, .slice x.pw x.wh.length x.cw] 53)) u.heap.size x from ⟨QuBx.new u x _, NoStr.new _ _ _ (by decide), hW.lt⟩)
  have HW0 := Lib.hid (hW.low hal)
  have HF00 := Lib.hid (show WF q u (u.alloc (.cells #[.bool x.st, .slice x.pi x.items.length x.ci, .string x.fr, .slice x.pw x.wh.length x.cw] 53)) from WF.of_below hal)
  have HE0 := Lib.hid (hE.low hal)
  have HA0 := Lib.hid (hA.low hal)
  have HH := Lib.hid H
  clear hA H
  clear hal hW hE
  unfold quV
  go_enter Tryz.func48, Tryz.ntmps48
  go_upto_region 1 with (fail)
  generalize World.alloc _ _ = u0 at *
  generalize u.heap.size = X at *
  go_wp2_with fail
  refine (put_two ⟨#[40]⟩ ⟨#[83, 69, 76, 69, 67, 84]⟩ HW0.out (by first | omega | (simp only [List.length_append, List.length_cons, List.length_nil]; omega))).mono ?_
  rintro e u1 ⟨rfl, hf, hw⟩
  have HF1 := Lib.hid (hf)
  have HW1 := Lib.hid hw
  have HY1 := Lib.hid (HX0.out.wf hf)
  clear hf hw
  go_wp2_with fail
  refine (put_one ⟨#[77, 65, 88]⟩ HW1.out (by first | omega | (simp only [List.length_append, List.length_cons, List.length_nil]; omega))).mono ?_
  rintro e u2 ⟨rfl, hf, hw⟩
  have HF2 := Lib.hid (HF1.out.trans hf)
  have HW2 := Lib.hid hw
  have HY2 := Lib.hid (HY1.out.wf hf)
  clear hf hw
  obtain ⟨g, o, hpi, hg, hgq, hC, hX⟩ := (HA0.out.wf HF2.out).items 0 HI0.out
  have HT1 := Lib.hid hX
  rw [Nat.zero_mul, Nat.add_zero] at hC
  clear hX hg hgq
  have hva := HVI.out _ (eAt_mem HI0.out)
  generalize hxe : eAt x.items 0 = a at *
  have HXA := Lib.hid hxe
  clear hxe
  obtain ⟨c0, c1, c2, c3, c4, c5, c6, c7, c8, c9⟩ := hC
  obtain ⟨yl, y0, y1, y2, y3, yf⟩ := HY2.out.box
  rw [hpi] at y1
  go_wp2_with fail
  clear yl y0 y1 y2 y3 yf c0 c1 c2 c3 c4 c5 c6 c7 c8 c9 hpi
  refine (enclosed_any HH.out h8 _ a _ HW2.out (HE0.out.wf HF2.out h8) HT1.out hva (by first | omega | (simp only [List.length_append, List.length_cons, List.length_nil]; omega))).mono ?_
  rintro e u3 ⟨rfl, hf, hw⟩
  have HF3 := Lib.hid (HF2.out.trans hf)
  have HW3 := Lib.hid hw
  have HY3 := Lib.hid (HY2.out.wf hf)
  clear hf hw
  obtain ⟨yl, y0, y1, y2, y3, yf⟩ := HY3.out.box
  go_wp2_with fail
  clear yl y0 y1 y2 y3 yf
  refine (from_any HH.out h8 _ x _ HW3.out (HE0.out.wf HF3.out h8) (HA0.out.wf HF3.out) HVW.out hwl (by first | omega | (simp only [List.length_append, List.length_cons, List.length_nil]; omega))).mono ?_
  rintro e u4 ⟨rfl, hf, hw⟩
  have HF4 := Lib.hid (HF3.out.trans hf)
  have HW4 := Lib.hid hw
  have HY4 := Lib.hid (HY3.out.wf hf)
  clear hf hw
  go_wp2_with fail
  refine (put_one ⟨#[41]⟩ HW4.out (by first | omega | (simp only [List.length_append, List.length_cons, List.length_nil]; omega))).mono ?_
  rintro e u5 ⟨rfl, hf, hw⟩
  have HF5 := Lib.hid (HF4.out.trans hf)
  have HW5 := Lib.hid hw
  have HY5 := Lib.hid (HY4.out.wf hf)
  clear hf hw
  go_wp2
  first | go_end0 | (refine bodyPost_ret (results_none rfl _ _ _) rfl ?_)
  exact ⟨rfl, HF00.out.trans HF5.out, by rw [HXA.out]; simpa using HW5.out⟩
theorem subquery_any {d q : Nat} (H : EDoes ls d) (h8 : 13 ≤ q) (l : List ByteArray) (k : Int) (hk1 : 8 ≤ k) (hk2 : k ≤ 12) (x : Qu) (u : World) (hW : WrAt q l u) (hE : Env ls u) (hA : QuIn (fun c => c < q) u (ExAt (fun c => c < q) u d) x) (hQ : FineQ (vE d) k x) (hz : l.length + (subT (wT d) k x).length ≤ 1000000000000) :
    Calls Tryz.prog 48 #[.pointer (some ⟨q, 0, none⟩), .int .i64 k, quV x] u fun r u' => r = .returned (.tuple #[]) ∧ WF q u u' ∧ WrAt q (l ++ subT (wT d) k x) u' := by
  have hkk : k = 8 ∨ k = 9 ∨ k = 10 ∨ k = 11 ∨ k = 12 := by omega
  rcases hkk with rfl | rfl | rfl | rfl | rfl
  · exact subquery_8 H h8 l x u hW hE hA hQ hz
  · exact subquery_9 H h8 l x u hW hE hA hQ hz
  · exact subquery_10 H h8 l x u hW hE hA hQ hz
  · exact subquery_11 H h8 l x u hW hE hA hQ hz
  · exact subquery_12 H h8 l x u hW hE hA hQ hz
end Go.Proofs.YtlpaphgmdcpmaaaGreatDoor
/-
  expr of package print, for trees of every depth.
-/
namespace Go.Proofs.YtlpaphgmdcpmaaaGreatDoor
set_option maxRecDepth 100000
open Go.RowKit
variable {ls : List Nat}

set_option maxHeartbeats 4000000 in
theorem expr_lit {d : Nat} (H : EDoes ls d) (_hm : 8 ∈ ls) (_hp : 1 ∈ ls) (hN : 5 ∈ ls) (hP : 7 ∈ ls) (q : Nat) (l : List ByteArray) (e : Ex) (u : World) (_h8 : 13 ≤ q) (hW : WrAt q l u) (hE : Env ls u) (hA : ExIn (fun c => c < q) u (ExAt (fun c => c < q) u d) e) (hV : FineV (vE d) e) (hz : l.length + (wOf (wT d) e).length ≤ 1000000000000) (hk : e.k = 1) (hvi : -9223372036854775808 ≤ e.vi ∧ e.vi ≤ 9223372036854775807) :
    Calls Tryz.prog 27 #[.pointer (some ⟨q, 0, none⟩), exV e] u fun r u' => r = .returned (.tuple #[]) ∧ WF q u u' ∧ WrAt q (l ++ wOf (wT d) e) u' := by
  have HFi := Lib.hid hV.fine
  have hvt := hA.vt
  rw [wOf_lit (T := wT d) hk] at hz ⊢
  simp only [List.length_cons, List.length_nil] at hz
  have hb12 := hvi
  have HK := Lib.hid hk
  clear hk
  have hal := below_alloc u (.cells #[.int .i64 e.k, .int .i64 e.op, .bool e.no, .int .i64 e.vk, .int .i64 e.vi, .string e.vt, .string e.tb, .string e.nm, .slice e.pa e.args.length e.ca, .slice e.ps e.sub.length e.cs] 27)
  have HX0 := Lib.hid (show XB q (u.alloc (.cells #[.int .i64 e.k, .int .i64 e.op, .bool e.no, .int .i64 e.vk, .int .i64 e.vi, .string e.vt, .string e.tb, .string e.nm, .slice e.pa e.args.length e.ca, .slice e.ps e.sub.length e.cs] 27)) u.heap.size e from ⟨ExB.new u e _, NoStr.new _ _ _ (by decide), hW.lt⟩)
  have HW0 := Lib.hid (hW.low hal)
  have HF00 := Lib.hid (show WF q u (u.alloc (.cells #[.int .i64 e.k, .int .i64 e.op, .bool e.no, .int .i64 e.vk, .int .i64 e.vi, .string e.vt, .string e.tb, .string e.nm, .slice e.pa e.args.length e.ca, .slice e.ps e.sub.length e.cs] 27)) from WF.of_below hal)
  have HE0 := Lib.hid (hE.low hal)
  have HA0 := Lib.hid (hA.args.low hal)
  have HS0 := Lib.hid (hA.sub.low hal)
  have HH := Lib.hid H
  clear hA H
  clear hal hW hE
  unfold exV
  go_enter Tryz.func27, Tryz.ntmps27
  go_upto_region 1 with (fail)
  generalize World.alloc _ _ = u0 at *
  generalize u.heap.size = X at *
  obtain ⟨xl, x0, x1, x2, x3, x4, x5, x6, x7, x8, x9, xf⟩ := HX0.out.box
  have k1 : (e.k == 1) = true := by rw [HK.out]; rfl
  go_wp2_with fail
  clear xl x0 x1 x2 x3 x4 x5 x6 x7 x8 x9 xf
  refine (format_any e.vk e.vi e.vt _ HE0.out hN hP hvt hb12.1 hb12.2).mono ?_
  rintro e u1 ⟨rfl, hb⟩
  have HF1 := Lib.hid (WF.of_below (q := q) hb)
  have HW1 := Lib.hid (HW0.out.low hb)
  have HX1 := Lib.hid (HX0.out.wf (WF.of_below hb))
  clear hb
  go_wp2_with fail
  refine (put_one (fmtB e.vk e.vi e.vt) HW1.out (by first | omega | (simp only [List.length_append, List.length_cons, List.length_nil]; omega))).mono ?_
  rintro e u2 ⟨rfl, hf, hw⟩
  have HF2 := Lib.hid (HF1.out.trans hf)
  have HW2 := Lib.hid hw
  have HX2 := Lib.hid (HX1.out.wf hf)
  clear hf hw
  go_wp2
  first | go_end0 | (refine bodyPost_ret (results_none rfl _ _ _) rfl ?_)
  exact ⟨rfl, HF00.out.trans HF2.out, by exact HW2.out⟩
set_option maxHeartbeats 4000000 in
theorem expr_col {d : Nat} (H : EDoes ls d) (_hm : 8 ∈ ls) (_hp : 1 ∈ ls) (_hN : 5 ∈ ls) (_hP : 7 ∈ ls) (q : Nat) (l : List ByteArray) (e : Ex) (u : World) (_h8 : 13 ≤ q) (hW : WrAt q l u) (hE : Env ls u) (hA : ExIn (fun c => c < q) u (ExAt (fun c => c < q) u d) e) (hV : FineV (vE d) e) (hz : l.length + (wOf (wT d) e).length ≤ 1000000000000) (hk : e.k = 2) :
    Calls Tryz.prog 27 #[.pointer (some ⟨q, 0, none⟩), exV e] u fun r u' => r = .returned (.tuple #[]) ∧ WF q u u' ∧ WrAt q (l ++ wOf (wT d) e) u' := by
  have HFi := Lib.hid hV.fine
  have hvt := hA.vt
  rw [wOf_col (T := wT d) hk] at hz ⊢
  have HK := Lib.hid hk
  clear hk
  have hal := below_alloc u (.cells #[.int .i64 e.k, .int .i64 e.op, .bool e.no, .int .i64 e.vk, .int .i64 e.vi, .string e.vt, .string e.tb, .string e.nm, .slice e.pa e.args.length e.ca, .slice e.ps e.sub.length e.cs] 27)
  have HX0 := Lib.hid (show XB q (u.alloc (.cells #[.int .i64 e.k, .int .i64 e.op, .bool e.no, .int .i64 e.vk, .int .i64 e.vi, .string e.vt, .string e.tb, .string e.nm, .slice e.pa e.args.length e.ca, .slice e.ps e.sub.length e.cs] 27)) u.heap.size e from ⟨ExB.new u e _, NoStr.new _ _ _ (by decide), hW.lt⟩)
  have HW0 := Lib.hid (hW.low hal)
  have HF00 := Lib.hid (show WF q u (u.alloc (.cells #[.int .i64 e.k, .int .i64 e.op, .bool e.no, .int .i64 e.vk, .int .i64 e.vi, .string e.vt, .string e.tb, .string e.nm, .slice e.pa e.args.length e.ca, .slice e.ps e.sub.length e.cs] 27)) from WF.of_below hal)
  have HE0 := Lib.hid (hE.low hal)
  have HA0 := Lib.hid (hA.args.low hal)
  have HS0 := Lib.hid (hA.sub.low hal)
  have HH := Lib.hid H
  clear hA H
  clear hal hW hE
  unfold exV
  go_enter Tryz.func27, Tryz.ntmps27
  go_upto_region 1 with (fail)
  generalize World.alloc _ _ = u0 at *
  generalize u.heap.size = X at *
  obtain ⟨xl, x0, x1, x2, x3, x4, x5, x6, x7, x8, x9, xf⟩ := HX0.out.box
  have k1 : (e.k == 1) = false := by rw [HK.out]; rfl
  have k2 : (e.k == 2) = true := by rw [HK.out]; rfl
  go_wp2_with fail
  clear xl x0 x1 x2 x3 x4 x5 x6 x7 x8 x9 xf
  refine (column_any e.tb e.nm _ HW0.out hz).mono ?_
  rintro e u1 ⟨rfl, hf, hw⟩
  have HF1 := Lib.hid (hf)
  have HW1 := Lib.hid hw
  have HX1 := Lib.hid (HX0.out.wf hf)
  clear hf hw
  go_wp2
  first | go_end0 | (refine bodyPost_ret (results_none rfl _ _ _) rfl ?_)
  exact ⟨rfl, HF00.out.trans HF1.out, by exact HW1.out⟩
set_option maxHeartbeats 4000000 in
theorem expr_not {d : Nat} (H : EDoes ls d) (hm : 8 ∈ ls) (_hp : 1 ∈ ls) (_hN : 5 ∈ ls) (_hP : 7 ∈ ls) (q : Nat) (l : List ByteArray) (e : Ex) (u : World) (h8 : 13 ≤ q) (hW : WrAt q l u) (hE : Env ls u) (hA : ExIn (fun c => c < q) u (ExAt (fun c => c < q) u d) e) (hV : FineV (vE d) e) (hz : l.length + (wOf (wT d) e).length ≤ 1000000000000) (hk : e.k = 3) :
    Calls Tryz.prog 27 #[.pointer (some ⟨q, 0, none⟩), exV e] u fun r u' => r = .returned (.tuple #[]) ∧ WF q u u' ∧ WrAt q (l ++ wOf (wT d) e) u' := by
  have HFi := Lib.hid hV.fine
  have hvt := hA.vt
  rw [wOf_not (T := wT d) hk] at hz ⊢
  simp only [List.length_append, List.length_cons, List.length_nil] at hz
  have HK := Lib.hid hk
  clear hk
  have hal := below_alloc u (.cells #[.int .i64 e.k, .int .i64 e.op, .bool e.no, .int .i64 e.vk, .int .i64 e.vi, .string e.vt, .string e.tb, .string e.nm, .slice e.pa e.args.length e.ca, .slice e.ps e.sub.length e.cs] 27)
  have HX0 := Lib.hid (show XB q (u.alloc (.cells #[.int .i64 e.k, .int .i64 e.op, .bool e.no, .int .i64 e.vk, .int .i64 e.vi, .string e.vt, .string e.tb, .string e.nm, .slice e.pa e.args.length e.ca, .slice e.ps e.sub.length e.cs] 27)) u.heap.size e from ⟨ExB.new u e _, NoStr.new _ _ _ (by decide), hW.lt⟩)
  have HW0 := Lib.hid (hW.low hal)
  have HF00 := Lib.hid (show WF q u (u.alloc (.cells #[.int .i64 e.k, .int .i64 e.op, .bool e.no, .int .i64 e.vk, .int .i64 e.vi, .string e.vt, .string e.tb, .string e.nm, .slice e.pa e.args.length e.ca, .slice e.ps e.sub.length e.cs] 27)) from WF.of_below hal)
  have HE0 := Lib.hid (hE.low hal)
  have HA0 := Lib.hid (hA.args.low hal)
  have HS0 := Lib.hid (hA.sub.low hal)
  have HH := Lib.hid H
  clear hA H
  clear hal hW hE
  unfold exV
  go_enter Tryz.func27, Tryz.ntmps27
  go_upto_region 1 with (fail)
  generalize World.alloc _ _ = u0 at *
  generalize u.heap.size = X at *
  obtain ⟨xl, x0, x1, x2, x3, x4, x5, x6, x7, x8, x9, xf⟩ := HX0.out.box
  have k1 : (e.k == 1) = false := by rw [HK.out]; rfl
  have k2 : (e.k == 2) = false := by rw [HK.out]; rfl
  have k3 : (e.k == 3) = true := by rw [HK.out]; rfl
  go_wp2_with fail
  clear xl x0 x1 x2 x3 x4 x5 x6 x7 x8 x9 xf
  refine (put_one ⟨#[78, 79, 84]⟩ HW0.out (by first | omega | (simp only [List.length_append, List.length_cons, List.length_nil]; omega))).mono ?_
  rintro e u1 ⟨rfl, hf, hw⟩
  have HF1 := Lib.hid (hf)
  have HW1 := Lib.hid hw
  have HX1 := Lib.hid (HX0.out.wf hf)
  clear hf hw
  obtain ⟨xl, x0, x1, x2, x3, x4, x5, x6, x7, x8, x9, xf⟩ := HX1.out.box
  go_wp2_with fail
  clear xl x0 x1 x2 x3 x4 x5 x6 x7 x8 x9 xf
  refine (arg_any HH.out h8 hm _ e 0 _ HW1.out (HE0.out.wf HF1.out h8) HFi.out (by rw [HFi.out.argn, HK.out]; decide) (HA0.out.wf HF1.out) (by first | omega | (simp only [List.length_append, List.length_cons, List.length_nil]; omega))).mono ?_
  rintro e u2 ⟨rfl, hf, hw⟩
  have HF2 := Lib.hid (HF1.out.trans hf)
  have HW2 := Lib.hid hw
  have HX2 := Lib.hid (HX1.out.wf hf)
  clear hf hw
  go_wp2
  first | go_end0 | (refine bodyPost_ret (results_none rfl _ _ _) rfl ?_)
  exact ⟨rfl, HF00.out.trans HF2.out, by simpa using HW2.out⟩
set_option maxHeartbeats 4000000 in
theorem expr_neg {d : Nat} (H : EDoes ls d) (hm : 8 ∈ ls) (_hp : 1 ∈ ls) (_hN : 5 ∈ ls) (_hP : 7 ∈ ls) (q : Nat) (l : List ByteArray) (e : Ex) (u : World) (h8 : 13 ≤ q) (hW : WrAt q l u) (hE : Env ls u) (hA : ExIn (fun c => c < q) u (ExAt (fun c => c < q) u d) e) (hV : FineV (vE d) e) (hz : l.length + (wOf (wT d) e).length ≤ 1000000000000) (hk : e.k = 4) :
    Calls Tryz.prog 27 #[.pointer (some ⟨q, 0, none⟩), exV e] u fun r u' => r = .returned (.tuple #[]) ∧ WF q u u' ∧ WrAt q (l ++ wOf (wT d) e) u' := by
  have HFi := Lib.hid hV.fine
  have hvt := hA.vt
  rw [wOf_neg (T := wT d) hk] at hz ⊢
  simp only [List.length_append, List.length_cons, List.length_nil] at hz
  have HK := Lib.hid hk
  clear hk
  have hal := below_alloc u (.cells #[.int .i64 e.k, .int .i64 e.op, .bool e.no, .int .i64 e.vk, .int .i64 e.vi, .string e.vt, .string e.tb, .string e.nm, .slice e.pa e.args.length e.ca, .slice e.ps e.sub.length e.cs] 27)
  have HX0 := Lib.hid (show XB q (u.alloc (.cells #[.int .i64 e.k, .int .i64 e.op, .bool e.no, .int .i64 e.vk, .int .i64 e.vi, .string e.vt, .string e.tb, .string e.nm, .slice e.pa e.args.length e.ca, .slice e.ps e.sub.length e.cs] 27)) u.heap.size e from ⟨ExB.new u e _, NoStr.new _ _ _ (by decide), hW.lt⟩)
  have HW0 := Lib.hid (hW.low hal)
  have HF00 := Lib.hid (show WF q u (u.alloc (.cells #[.int .i64 e.k, .int .i64 e.op, .bool e.no, .int .i64 e.vk, .int .i64 e.vi, .string e.vt, .string e.tb, .string e.nm, .slice e.pa e.args.length e.ca, .slice e.ps e.sub.length e.cs] 27)) from WF.of_below hal)
  have HE0 := Lib.hid (hE.low hal)
  have HA0 := Lib.hid (hA.args.low hal)
  have HS0 := Lib.hid (hA.sub.low hal)
  have HH := Lib.hid H
  clear hA H
  clear hal hW hE
  unfold exV
  go_enter Tryz.func27, Tryz.ntmps27
  go_upto_region 1 with (fail)
  generalize World.alloc _ _ = u0 at *
  generalize u.heap.size = X at *
  obtain ⟨xl, x0, x1, x2, x3, x4, x5, x6, x7, x8, x9, xf⟩ := HX0.out.box
  have k1 : (e.k == 1) = false := by rw [HK.out]; rfl
  have k2 : (e.k == 2) = false := by rw [HK.out]; rfl
  have k3 : (e.k == 3) = false := by rw [HK.out]; rfl
  have k4 : (e.k == 4) = true := by rw [HK.out]; rfl
  go_wp2_with fail
  clear xl x0 x1 x2 x3 x4 x5 x6 x7 x8 x9 xf
  refine (put_one ⟨#[45]⟩ HW0.out (by first | omega | (simp only [List.length_append, List.length_cons, List.length_nil]; omega))).mono ?_
  rintro e u1 ⟨rfl, hf, hw⟩
  have HF1 := Lib.hid (hf)
  have HW1 := Lib.hid hw
  have HX1 := Lib.hid (HX0.out.wf hf)
  clear hf hw
  obtain ⟨xl, x0, x1, x2, x3, x4, x5, x6, x7, x8, x9, xf⟩ := HX1.out.box
  go_wp2_with fail
  clear xl x0 x1 x2 x3 x4 x5 x6 x7 x8 x9 xf
  refine (arg_any HH.out h8 hm _ e 0 _ HW1.out (HE0.out.wf HF1.out h8) HFi.out (by rw [HFi.out.argn, HK.out]; decide) (HA0.out.wf HF1.out) (by first | omega | (simp only [List.length_append, List.length_cons, List.length_nil]; omega))).mono ?_
  rintro e u2 ⟨rfl, hf, hw⟩
  have HF2 := Lib.hid (HF1.out.trans hf)
  have HW2 := Lib.hid hw
  have HX2 := Lib.hid (HX1.out.wf hf)
  clear hf hw
  go_wp2
  first | go_end0 | (refine bodyPost_ret (results_none rfl _ _ _) rfl ?_)
  exact ⟨rfl, HF00.out.trans HF2.out, by simpa using HW2.out⟩
set_option maxHeartbeats 4000000 in
theorem expr_bin {d : Nat} (H : EDoes ls d) (hm : 8 ∈ ls) (hp : 1 ∈ ls) (_hN : 5 ∈ ls) (_hP : 7 ∈ ls) (q : Nat) (l : List ByteArray) (e : Ex) (u : World) (h8 : 13 ≤ q) (hW : WrAt q l u) (hE : Env ls u) (hA : ExIn (fun c => c < q) u (ExAt (fun c => c < q) u d) e) (hV : FineV (vE d) e) (hz : l.length + (wOf (wT d) e).length ≤ 1000000000000) (hk : e.k = 5) :
    Calls Tryz.prog 27 #[.pointer (some ⟨q, 0, none⟩), exV e] u fun r u' => r = .returned (.tuple #[]) ∧ WF q u u' ∧ WrAt q (l ++ wOf (wT d) e) u' := by
  have HFi := Lib.hid hV.fine
  have hvt := hA.vt
  rw [wOf_bin (T := wT d) hk] at hz ⊢
  simp only [List.length_append, List.length_cons, List.length_nil] at hz
  have hop := HFi.out.op5 hk
  obtain ⟨j, hj⟩ : ∃ j : Nat, e.op = j := ⟨e.op.toNat, by omega⟩
  have hj14 : j < 14 := by omega
  have hjI : (j : Int) < 14 := by omega
  have HJ := Lib.hid hj
  clear hj hop
  have HK := Lib.hid hk
  clear hk
  have hal := below_alloc u (.cells #[.int .i64 e.k, .int .i64 e.op, .bool e.no, .int .i64 e.vk, .int .i64 e.vi, .string e.vt, .string e.tb, .string e.nm, .slice e.pa e.args.length e.ca, .slice e.ps e.sub.length e.cs] 27)
  have HX0 := Lib.hid (show XB q (u.alloc (.cells #[.int .i64 e.k, .int .i64 e.op, .bool e.no, .int .i64 e.vk, .int .i64 e.vi, .string e.vt, .string e.tb, .string e.nm, .slice e.pa e.args.length e.ca, .slice e.ps e.sub.length e.cs] 27)) u.heap.size e from ⟨ExB.new u e _, NoStr.new _ _ _ (by decide), hW.lt⟩)
  have HW0 := Lib.hid (hW.low hal)
  have HF00 := Lib.hid (show WF q u (u.alloc (.cells #[.int .i64 e.k, .int .i64 e.op, .bool e.no, .int .i64 e.vk, .int .i64 e.vi, .string e.vt, .string e.tb, .string e.nm, .slice e.pa e.args.length e.ca, .slice e.ps e.sub.length e.cs] 27)) from WF.of_below hal)
  have HE0 := Lib.hid (hE.low hal)
  have HA0 := Lib.hid (hA.args.low hal)
  have HS0 := Lib.hid (hA.sub.low hal)
  have HH := Lib.hid H
  clear hA H
  clear hal hW hE
  unfold exV
  go_enter Tryz.func27, Tryz.ntmps27
  go_upto_region 1 with (fail)
  generalize World.alloc _ _ = u0 at *
  generalize u.heap.size = X at *
  obtain ⟨xl, x0, x1, x2, x3, x4, x5, x6, x7, x8, x9, xf⟩ := HX0.out.box
  have k1 : (e.k == 1) = false := by rw [HK.out]; rfl
  have k2 : (e.k == 2) = false := by rw [HK.out]; rfl
  have k3 : (e.k == 3) = false := by rw [HK.out]; rfl
  have k4 : (e.k == 4) = false := by rw [HK.out]; rfl
  have k5 : (e.k == 5) = true := by rw [HK.out]; rfl
  go_wp2_with fail
  clear xl x0 x1 x2 x3 x4 x5 x6 x7 x8 x9 xf
  refine (arg_any HH.out h8 hm _ e 0 _ HW0.out HE0.out HFi.out (by rw [HFi.out.argn, HK.out]; decide) HA0.out (by first | omega | (simp only [List.length_append, List.length_cons, List.length_nil]; omega))).mono ?_
  rintro e u1 ⟨rfl, hf, hw⟩
  have HF1 := Lib.hid (hf)
  have HW1 := Lib.hid hw
  have HX1 := Lib.hid (HX0.out.wf hf)
  clear hf hw
  obtain ⟨xl, x0, x1, x2, x3, x4, x5, x6, x7, x8, x9, xf⟩ := HX1.out.box
  rw [HJ.out] at x1
  have gop := (HE0.out.wf HF1.out h8).pops hp j hj14
  go_wp2_with fail
  clear xl x0 x1 x2 x3 x4 x5 x6 x7 x8 x9 xf gop
  refine (put_one (opS j) HW1.out (by first | omega | (simp only [List.length_append]; omega))).mono ?_
  rintro e u2 ⟨rfl, hf, hw⟩
  have HF2 := Lib.hid (HF1.out.trans hf)
  have HW2 := Lib.hid hw
  have HX2 := Lib.hid (HX1.out.wf hf)
  clear hf hw
  obtain ⟨xl, x0, x1, x2, x3, x4, x5, x6, x7, x8, x9, xf⟩ := HX2.out.box
  go_wp2_with fail
  clear xl x0 x1 x2 x3 x4 x5 x6 x7 x8 x9 xf
  refine (arg_any HH.out h8 hm _ e 1 _ HW2.out (HE0.out.wf HF2.out h8) HFi.out (by rw [HFi.out.argn, HK.out]; decide) (HA0.out.wf HF2.out) (by first | omega | (simp only [List.length_append, List.length_cons, List.length_nil]; omega))).mono ?_
  rintro e u3 ⟨rfl, hf, hw⟩
  have HF3 := Lib.hid (HF2.out.trans hf)
  have HW3 := Lib.hid hw
  have HX3 := Lib.hid (HX2.out.wf hf)
  clear hf hw
  go_wp2
  first | go_end0 | (refine bodyPost_ret (results_none rfl _ _ _) rfl ?_)
  exact ⟨rfl, HF00.out.trans HF3.out, by rw [HJ.out, Int.toNat_natCast]; simpa using HW3.out⟩
set_option maxHeartbeats 4000000 in
theorem expr_null {d : Nat} (H : EDoes ls d) (hm : 8 ∈ ls) (_hp : 1 ∈ ls) (_hN : 5 ∈ ls) (_hP : 7 ∈ ls) (q : Nat) (l : List ByteArray) (e : Ex) (u : World) (h8 : 13 ≤ q) (hW : WrAt q l u) (hE : Env ls u) (hA : ExIn (fun c => c < q) u (ExAt (fun c => c < q) u d) e) (hV : FineV (vE d) e) (hz : l.length + (wOf (wT d) e).length ≤ 1000000000000) (hk : e.k = 6) :
    Calls Tryz.prog 27 #[.pointer (some ⟨q, 0, none⟩), exV e] u fun r u' => r = .returned (.tuple #[]) ∧ WF q u u' ∧ WrAt q (l ++ wOf (wT d) e) u' := by
  have HFi := Lib.hid hV.fine
  have hvt := hA.vt
  rw [wOf_null (T := wT d) hk] at hz ⊢
  simp only [List.length_append] at hz
  have HK := Lib.hid hk
  clear hk
  have hal := below_alloc u (.cells #[.int .i64 e.k, .int .i64 e.op, .bool e.no, .int .i64 e.vk, .int .i64 e.vi, .string e.vt, .string e.tb, .string e.nm, .slice e.pa e.args.length e.ca, .slice e.ps e.sub.length e.cs] 27)
  have HX0 := Lib.hid (show XB q (u.alloc (.cells #[.int .i64 e.k, .int .i64 e.op, .bool e.no, .int .i64 e.vk, .int .i64 e.vi, .string e.vt, .string e.tb, .string e.nm, .slice e.pa e.args.length e.ca, .slice e.ps e.sub.length e.cs] 27)) u.heap.size e from ⟨ExB.new u e _, NoStr.new _ _ _ (by decide), hW.lt⟩)
  have HW0 := Lib.hid (hW.low hal)
  have HF00 := Lib.hid (show WF q u (u.alloc (.cells #[.int .i64 e.k, .int .i64 e.op, .bool e.no, .int .i64 e.vk, .int .i64 e.vi, .string e.vt, .string e.tb, .string e.nm, .slice e.pa e.args.length e.ca, .slice e.ps e.sub.length e.cs] 27)) from WF.of_below hal)
  have HE0 := Lib.hid (hE.low hal)
  have HA0 := Lib.hid (hA.args.low hal)
  have HS0 := Lib.hid (hA.sub.low hal)
  have HH := Lib.hid H
  clear hA H
  clear hal hW hE
  unfold exV
  go_enter Tryz.func27, Tryz.ntmps27
  go_upto_region 1 with (fail)
  generalize World.alloc _ _ = u0 at *
  generalize u.heap.size = X at *
  obtain ⟨xl, x0, x1, x2, x3, x4, x5, x6, x7, x8, x9, xf⟩ := HX0.out.box
  have k1 : (e.k == 1) = false := by rw [HK.out]; rfl
  have k2 : (e.k == 2) = false := by rw [HK.out]; rfl
  have k3 : (e.k == 3) = false := by rw [HK.out]; rfl
  have k4 : (e.k == 4) = false := by rw [HK.out]; rfl
  have k5 : (e.k == 5) = false := by rw [HK.out]; rfl
  have k6 : (e.k == 6) = true := by rw [HK.out]; rfl
  go_wp2_with fail
  clear xl x0 x1 x2 x3 x4 x5 x6 x7 x8 x9 xf
  refine (arg_any HH.out h8 hm _ e 0 _ HW0.out HE0.out HFi.out (by rw [HFi.out.argn, HK.out]; decide) HA0.out (by first | omega | (simp only [List.length_append, List.length_cons, List.length_nil]; omega))).mono ?_
  rintro e u1 ⟨rfl, hf, hw⟩
  have HF1 := Lib.hid (hf)
  have HW1 := Lib.hid hw
  have HX1 := Lib.hid (HX0.out.wf hf)
  clear hf hw
  obtain ⟨xl, x0, x1, x2, x3, x4, x5, x6, x7, x8, x9, xf⟩ := HX1.out.box
  go_wp2_with fail
  clear xl x0 x1 x2 x3 x4 x5 x6 x7 x8 x9 xf
  refine (isNull_any e.no _ HW1.out (by simp only [List.length_append]; omega)).mono ?_
  rintro e u2 ⟨rfl, hf, hw⟩
  have HF2 := Lib.hid (HF1.out.trans hf)
  have HW2 := Lib.hid hw
  have HX2 := Lib.hid (HX1.out.wf hf)
  clear hf hw
  go_wp2
  first | go_end0 | (refine bodyPost_ret (results_none rfl _ _ _) rfl ?_)
  exact ⟨rfl, HF00.out.trans HF2.out, by simpa using HW2.out⟩
set_option maxHeartbeats 4000000 in
theorem expr_btw {d : Nat} (H : EDoes ls d) (hm : 8 ∈ ls) (_hp : 1 ∈ ls) (_hN : 5 ∈ ls) (_hP : 7 ∈ ls) (q : Nat) (l : List ByteArray) (e : Ex) (u : World) (h8 : 13 ≤ q) (hW : WrAt q l u) (hE : Env ls u) (hA : ExIn (fun c => c < q) u (ExAt (fun c => c < q) u d) e) (hV : FineV (vE d) e) (hz : l.length + (wOf (wT d) e).length ≤ 1000000000000) (hk : e.k = 7) :
    Calls Tryz.prog 27 #[.pointer (some ⟨q, 0, none⟩), exV e] u fun r u' => r = .returned (.tuple #[]) ∧ WF q u u' ∧ WrAt q (l ++ wOf (wT d) e) u' := by
  have HFi := Lib.hid hV.fine
  have hvt := hA.vt
  rw [wOf_btw (T := wT d) hk] at hz ⊢
  simp only [List.length_append, List.length_cons, List.length_nil] at hz
  have HK := Lib.hid hk
  clear hk
  have hal := below_alloc u (.cells #[.int .i64 e.k, .int .i64 e.op, .bool e.no, .int .i64 e.vk, .int .i64 e.vi, .string e.vt, .string e.tb, .string e.nm, .slice e.pa e.args.length e.ca, .slice e.ps e.sub.length e.cs] 27)
  have HX0 := Lib.hid (show XB q (u.alloc (.cells #[.int .i64 e.k, .int .i64 e.op, .bool e.no, .int .i64 e.vk, .int .i64 e.vi, .string e.vt, .string e.tb, .string e.nm, .slice e.pa e.args.length e.ca, .slice e.ps e.sub.length e.cs] 27)) u.heap.size e from ⟨ExB.new u e _, NoStr.new _ _ _ (by decide), hW.lt⟩)
  have HW0 := Lib.hid (hW.low hal)
  have HF00 := Lib.hid (show WF q u (u.alloc (.cells #[.int .i64 e.k, .int .i64 e.op, .bool e.no, .int .i64 e.vk, .int .i64 e.vi, .string e.vt, .string e.tb, .string e.nm, .slice e.pa e.args.length e.ca, .slice e.ps e.sub.length e.cs] 27)) from WF.of_below hal)
  have HE0 := Lib.hid (hE.low hal)
  have HA0 := Lib.hid (hA.args.low hal)
  have HS0 := Lib.hid (hA.sub.low hal)
  have HH := Lib.hid H
  clear hA H
  clear hal hW hE
  unfold exV
  go_enter Tryz.func27, Tryz.ntmps27
  go_upto_region 1 with (fail)
  generalize World.alloc _ _ = u0 at *
  generalize u.heap.size = X at *
  obtain ⟨xl, x0, x1, x2, x3, x4, x5, x6, x7, x8, x9, xf⟩ := HX0.out.box
  have k1 : (e.k == 1) = false := by rw [HK.out]; rfl
  have k2 : (e.k == 2) = false := by rw [HK.out]; rfl
  have k3 : (e.k == 3) = false := by rw [HK.out]; rfl
  have k4 : (e.k == 4) = false := by rw [HK.out]; rfl
  have k5 : (e.k == 5) = false := by rw [HK.out]; rfl
  have k6 : (e.k == 6) = false := by rw [HK.out]; rfl
  have k7 : (e.k == 7) = true := by rw [HK.out]; rfl
  go_wp2_with fail
  clear xl x0 x1 x2 x3 x4 x5 x6 x7 x8 x9 xf
  refine (arg_any HH.out h8 hm _ e 0 _ HW0.out HE0.out HFi.out (by rw [HFi.out.argn, HK.out]; decide) HA0.out (by first | omega | (simp only [List.length_append, List.length_cons, List.length_nil]; omega))).mono ?_
  rintro e u1 ⟨rfl, hf, hw⟩
  have HF1 := Lib.hid (hf)
  have HW1 := Lib.hid hw
  have HX1 := Lib.hid (HX0.out.wf hf)
  clear hf hw
  go_wp2_with fail
  refine (put_one ⟨#[66, 69, 84, 87, 69, 69, 78]⟩ HW1.out (by first | omega | (simp only [List.length_append]; omega))).mono ?_
  rintro e u2 ⟨rfl, hf, hw⟩
  have HF2 := Lib.hid (HF1.out.trans hf)
  have HW2 := Lib.hid hw
  have HX2 := Lib.hid (HX1.out.wf hf)
  clear hf hw
  obtain ⟨xl, x0, x1, x2, x3, x4, x5, x6, x7, x8, x9, xf⟩ := HX2.out.box
  go_wp2_with fail
  clear xl x0 x1 x2 x3 x4 x5 x6 x7 x8 x9 xf
  refine (arg_any HH.out h8 hm _ e 1 _ HW2.out (HE0.out.wf HF2.out h8) HFi.out (by rw [HFi.out.argn, HK.out]; decide) (HA0.out.wf HF2.out) (by first | omega | (simp only [List.length_append, List.length_cons, List.length_nil]; omega))).mono ?_
  rintro e u3 ⟨rfl, hf, hw⟩
  have HF3 := Lib.hid (HF2.out.trans hf)
  have HW3 := Lib.hid hw
  have HX3 := Lib.hid (HX2.out.wf hf)
  clear hf hw
  go_wp2_with fail
  refine (put_one ⟨#[65, 78, 68]⟩ HW3.out (by first | omega | (simp only [List.length_append, List.length_cons, List.length_nil]; omega))).mono ?_
  rintro e u4 ⟨rfl, hf, hw⟩
  have HF4 := Lib.hid (HF3.out.trans hf)
  have HW4 := Lib.hid hw
  have HX4 := Lib.hid (HX3.out.wf hf)
  clear hf hw
  obtain ⟨xl, x0, x1, x2, x3, x4, x5, x6, x7, x8, x9, xf⟩ := HX4.out.box
  go_wp2_with fail
  clear xl x0 x1 x2 x3 x4 x5 x6 x7 x8 x9 xf
  refine (arg_any HH.out h8 hm _ e 2 _ HW4.out (HE0.out.wf HF4.out h8) HFi.out (by rw [HFi.out.argn, HK.out]; decide) (HA0.out.wf HF4.out) (by first | omega | (simp only [List.length_append, List.length_cons, List.length_nil]; omega))).mono ?_
  rintro e u5 ⟨rfl, hf, hw⟩
  have HF5 := Lib.hid (HF4.out.trans hf)
  have HW5 := Lib.hid hw
  have HX5 := Lib.hid (HX4.out.wf hf)
  clear hf hw
  go_wp2
  first | go_end0 | (refine bodyPost_ret (results_none rfl _ _ _) rfl ?_)
  exact ⟨rfl, HF00.out.trans HF5.out, by simpa using HW5.out⟩
set_option maxHeartbeats 4000000 in
theorem expr_sub {d : Nat} (H : EDoes ls d) (_hm : 8 ∈ ls) (_hp : 1 ∈ ls) (_hN : 5 ∈ ls) (_hP : 7 ∈ ls) (q : Nat) (l : List ByteArray) (e : Ex) (u : World) (h8 : 13 ≤ q) (hW : WrAt q l u) (hE : Env ls u) (hA : ExIn (fun c => c < q) u (ExAt (fun c => c < q) u d) e) (hV : FineV (vE d) e) (hz : l.length + (wOf (wT d) e).length ≤ 1000000000000) (hk : 8 ≤ e.k) :
    Calls Tryz.prog 27 #[.pointer (some ⟨q, 0, none⟩), exV e] u fun r u' => r = .returned (.tuple #[]) ∧ WF q u u' ∧ WrAt q (l ++ wOf (wT d) e) u' := by
  have HFi := Lib.hid hV.fine
  have hvt := hA.vt
  rw [wOf_sub (T := wT d) hk] at hz ⊢
  have hal := below_alloc u (.cells #[.int .i64 e.k, .int .i64 e.op, .bool e.no, .int .i64 e.vk, .int .i64 e.vi, .string e.vt, .string e.tb, .string e.nm, .slice e.pa e.args.length e.ca, .slice e.ps e.sub.length e.cs] 27)
  have HX0 := Lib.hid (show XB q (u.alloc (.cells #[.int .i64 e.k, .int .i64 e.op, .bool e.no, .int .i64 e.vk, .int .i64 e.vi, .string e.vt, .string e.tb, .string e.nm, .slice e.pa e.args.length e.ca, .slice e.ps e.sub.length e.cs] 27)) u.heap.size e from ⟨ExB.new u e _, NoStr.new _ _ _ (by decide), hW.lt⟩)
  have HW0 := Lib.hid (hW.low hal)
  have HF00 := Lib.hid (show WF q u (u.alloc (.cells #[.int .i64 e.k, .int .i64 e.op, .bool e.no, .int .i64 e.vk, .int .i64 e.vi, .string e.vt, .string e.tb, .string e.nm, .slice e.pa e.args.length e.ca, .slice e.ps e.sub.length e.cs] 27)) from WF.of_below hal)
  have HE0 := Lib.hid (hE.low hal)
  have HA0 := Lib.hid (hA.args.low hal)
  have HS0 := Lib.hid (hA.sub.low hal)
  have HH := Lib.hid H
  clear hA H
  clear hal hW hE
  unfold exV
  go_enter Tryz.func27, Tryz.ntmps27
  go_upto_region 1 with (fail)
  generalize World.alloc _ _ = u0 at *
  generalize u.heap.size = X at *
  obtain ⟨xl, x0, x1, x2, x3, x4, x5, x6, x7, x8, x9, xf⟩ := HX0.out.box
  have hhi := HFi.out.hi
  have k1 : (e.k == 1) = false := beq_eq_false_iff_ne.2 (by omega)
  have k2 : (e.k == 2) = false := beq_eq_false_iff_ne.2 (by omega)
  have k3 : (e.k == 3) = false := beq_eq_false_iff_ne.2 (by omega)
  have k4 : (e.k == 4) = false := beq_eq_false_iff_ne.2 (by omega)
  have k5 : (e.k == 5) = false := beq_eq_false_iff_ne.2 (by omega)
  have k6 : (e.k == 6) = false := beq_eq_false_iff_ne.2 (by omega)
  have k7 : (e.k == 7) = false := beq_eq_false_iff_ne.2 (by omega)
  have hs1 : e.sub.length = 1 := HFi.out.subn.trans (by unfold subN; rw [if_pos ⟨hk, hhi⟩])
  have hsI : (0 : Int) < e.sub.length := by omega
  have hs0 : 0 < e.sub.length := by omega
  obtain ⟨g, o, hps, hg, hgq, hC, hX⟩ := HS0.out 0 (by omega)
  rw [Nat.zero_mul, Nat.add_zero] at hC
  have HQ := Lib.hid (quB_fine (HFi.out.sub (qAt e.sub 0) (qAt_mem (by omega))))
  have HQX := Lib.hid hX
  clear hX hs1
  generalize hxe : qAt e.sub 0 = x at *
  have HXA := Lib.hid hxe
  clear hxe
  have HC := Lib.hid (hC.keep (v := u0.drew) rfl)
  have HQD := Lib.hid (HQX.out.low ((Below.refl u0.heap.size u0).drew))
  have HWD := Lib.hid (HW0.out.low ((Below.refl u0.heap.size u0).drew))
  have HED := Lib.hid (HE0.out.low ((Below.refl u0.heap.size u0).drew))
  have HXD := Lib.hid (HX0.out.wf (WF.of_below ((Below.refl u0.heap.size u0).drew)))
  go_upto_region 2 with (fail)
  clear xl x0 x1 x2 x3 x4 x5 x6 x7 x8 x9 xf hC
  obtain ⟨c0, c1, c2, c3⟩ := HC.out
  obtain ⟨xl, x0, x1, x2, x3, x4, x5, x6, x7, x8, x9, xf⟩ := HXD.out.box
  rw [hps] at x9
  go_region_law (first
    | (go_simp; go_at_call 48; refine (subquery_any HH.out h8 _ e.k hk hhi x _ HWD.out HED.out HQD.out HQ.out hz).mono ?_; rintro e' u1 ⟨rfl, hf, hw⟩; (have HF1 := Lib.hid ((WF.of_below (q := q) ((Below.refl u0.heap.size u0).drew)).trans hf)); (have HW1 := Lib.hid hw); clear hf hw))
  all_goals
    go_wp2
    first | go_end0 | (refine bodyPost_ret (results_none rfl _ _ _) rfl ?_)
    exact ⟨rfl, HF00.out.trans HF1.out, by rw [HXA.out]; exact HW1.out⟩
set_option maxHeartbeats 1000000 in
theorem expr_step {d : Nat} (H : EDoes ls d) (hm : 8 ∈ ls) (hp : 1 ∈ ls) (hN : 5 ∈ ls) (hP : 7 ∈ ls) : EDoes ls (d + 1) := by
  intro q l e u h8 hW hE hA hv hz
  have hA : ExIn (fun c => c < q) u (ExAt (fun c => c < q) u d) e := hA
  have hV : FineV (vE d) e := vOf_iff.1 hv
  have hF := hV.fine
  have hlo := hF.lo
  have hhi := hF.hi
  rw [wT_succ] at hz ⊢
  have hk : e.k = 1 ∨ e.k = 2 ∨ e.k = 3 ∨ e.k = 4 ∨ e.k = 5 ∨ e.k = 6 ∨ e.k = 7 ∨ 8 ≤ e.k := by omega
  rcases hk with hk | hk | hk | hk | hk | hk | hk | hk
  · exact expr_lit H hm hp hN hP q l e u h8 hW hE hA hV hz hk hA.vi
  · exact expr_col H hm hp hN hP q l e u h8 hW hE hA hV hz hk
  · exact expr_not H hm hp hN hP q l e u h8 hW hE hA hV hz hk
  · exact expr_neg H hm hp hN hP q l e u h8 hW hE hA hV hz hk
  · exact expr_bin H hm hp hN hP q l e u h8 hW hE hA hV hz hk
  · exact expr_null H hm hp hN hP q l e u h8 hW hE hA hV hz hk
  · exact expr_btw H hm hp hN hP q l e u h8 hW hE hA hV hz hk
  · exact expr_sub H hm hp hN hP q l e u h8 hW hE hA hV hz hk
theorem expr_any (hm : 8 ∈ ls) (hp : 1 ∈ ls) (hN : 5 ∈ ls) (hP : 7 ∈ ls) : ∀ d, EDoes ls d
  | 0 => fun _ _ _ _ _ _ _ h => h.elim
  | d + 1 => expr_step (expr_any hm hp hN hP d) hm hp hN hP
end Go.Proofs.YtlpaphgmdcpmaaaGreatDoor
