/-
  Several texts in one.
-/
import Derived.Test.YtaajaeidiholmaaDoorPk17
import Derived.Test.YtaajaeidiholmaaDoorPk18
import Derived.Lib.ItoaLen
import Derived.Test.YtaajaeidiholmaaDoorPk15
import Derived.Test.YtaajaeidiholmaaDoorPk01
import Derived.Test.YtaajaeidiholmaaDoorPk03
import Derived.Test.YtaajaeidiholmaaDoorPk06
import Derived.OwnWalk
import Derived.Laws.AppendOwn
/-
  Expr of package print: the text of a well-formed tree.
-/
namespace Go.Proofs.YtaajaeidiholmaaDoor
set_option maxRecDepth 100000
open Go.RowKit
variable {ls : List Nat}

theorem nameOK_size {s : ByteArray} (h : nameOK s = true) : s.size ≤ 1000 := by
  unfold nameOK at h
  simp only [Bool.and_eq_true, decide_eq_true_eq] at h
  omega
theorem eqT_eq {s t : ByteArray} (h : eqT s t = true) : s.toList = t.toList := by
  unfold eqT at h; simpa using h
theorem toList_size (s : ByteArray) : s.toList.length = s.size := by
  rw [ByteArray.toList_eq, Array.length_toList]; rfl
theorem eqT_size {s t : ByteArray} (h : eqT s t = true) : s.size = t.size := by rw [← toList_size, ← toList_size, eqT_eq h]
theorem srcB_size {s : ByteArray} (h : srcB s = true) : s.size ≤ 1000 := by
  unfold srcB at h
  simp only [Bool.or_eq_true] at h
  rcases h with (h | h) | h
  · exact nameOK_size h
  · rw [eqT_size h]; decide
  · rw [eqT_size h]; decide
theorem qualB_size {s : ByteArray} (h : qualB s = true) : s.size ≤ 1000 := by
  unfold qualB at h
  simp only [Bool.or_eq_true] at h
  rcases h with ((h | h) | h) | h
  · rw [eqT_size h]; decide
  · exact srcB_size h
  · rw [eqT_size h]; decide
  · rw [eqT_size h]; decide
theorem opS_size : ∀ i, (opS i).size ≤ 1000 := by
  intro i
  by_cases h : i < 14
  · have : ∀ i : Fin 14, (opS i).size ≤ 1000 := by decide +kernel
    exact this ⟨i, h⟩
  · have : opS i = ⟨#[]⟩ := by
      unfold opS
      rw [List.getD, List.getElem?_eq_none (by show 14 ≤ i; omega)]
      rfl
    rw [this]; decide
theorem fmtB_size {k n : Int} {s : ByteArray} (hv : validB k n s = true) (hn : I64 n) : (fmtB k n s).size ≤ 1000 := by
  unfold fmtB
  rw [if_pos hv]
  split
  · show (Lib.itoa n).toArray.size ≤ 1000
    rw [List.size_toArray]
    have := Lib.itoa_length_le n hn.1 hn.2
    omega
  · split
    · split <;> decide
    · split
      · rename_i h1 h2 h3
        subst h3
        have ht : textOK s.data.toList = true := by
          unfold validB at hv
          have h : n = 0 ∧ textOK s.data.toList = true := by simpa using hv
          exact h.2
        have hq := quote_len s.data.toList (textOK_len ht)
        unfold quoteB
        rw [ByteArray.size_append, ByteArray.size_append]
        show 1 + (Lib.replaceAll s.data.toList [39] [39, 39]).toArray.size + 1 ≤ 1000
        rw [List.size_toArray]
        omega
      · decide
/-- All of these are short. -/
def Small (L : List ByteArray) : Prop := ∀ s ∈ L, s.size ≤ 1000
theorem Small.app {a b : List ByteArray} (ha : Small a) (hb : Small b) : Small (a ++ b) := fun s hs => (List.mem_append.1 hs).elim (ha s) (hb s)
theorem Small.one {s : ByteArray} (h : s.size ≤ 1000) : Small [s] := fun t ht => by obtain rfl := List.mem_singleton.1 ht; exact h
theorem Small.two {s r : ByteArray} (h : s.size ≤ 1000) (h2 : r.size ≤ 1000) : Small [s, r] := Small.app (a := [s]) (b := [r]) (.one h) (.one h2)
theorem Small.nil : Small [] := fun s hs => by cases hs
def lenB : Nat → Nat
  | 0 => 0
  | d + 1 => 3 * lenB d + 20
section
variable {N : Nat → Prop} {w : World} {d : Nat}
/-- What is known of the words of the parts. -/
def PartOK (d : Nat) (e : Ex) : Prop := Small (wT d e) ∧ (wT d e).length ≤ lenB d
theorem arg_ok {e : Ex} {i : Nat} (h : PartOK d (eAt e.args i)) : Small (argT (wT d) e i) ∧ (argT (wT d) e i).length ≤ lenB d + 2 := by
  unfold argT
  split
  · exact ⟨((Small.one (by decide)).app h.1).app (.one (by decide)), by have := h.2; simp only [List.length_append, List.length_cons, List.length_nil]; omega⟩
  · exact ⟨h.1, by have := h.2; omega⟩
theorem wh_ok {l : List Ex} (hl : l.length ≤ 1) (h : ∀ a ∈ l, PartOK d a) : Small (whT (wT d) l) ∧ (whT (wT d) l).length ≤ lenB d + 1 := by
  match l, hl with
  | [], _ => exact ⟨.nil, Nat.zero_le _⟩
  | [a], _ =>
    have ha := h a (List.mem_singleton.2 rfl)
    have e1 : whT (wT d) [a] = [⟨#[87, 72, 69, 82, 69]⟩] ++ wT d a := by simp [whT]
    rw [e1]
    exact ⟨(Small.one (by decide)).app ha.1, by have := ha.2; simp only [List.length_append, List.length_cons, List.length_nil]; omega⟩
theorem part_ok : ∀ (d : Nat) (e : Ex), ExAt N w d e → vE d e = true → PartOK d e
  | 0, _, h, _ => h.elim
  | d + 1, e, h, hv => by
    have h : ExIn N w (ExAt N w d) e := h
    have hV : FineV (vE d) e := vOf_iff.1 hv
    have hF := hV.fine
    have hargs : ∀ i, i < e.args.length → PartOK d (eAt e.args i) := fun i hi => by
      obtain ⟨c, o, -, -, -, -, hP⟩ := h.args i hi
      exact part_ok d _ hP (hF.args _ (eAt_mem hi))
    have hn := hF.argn
    have hlo := hF.lo
    have hhi := hF.hi
    show Small (wOf (wT d) e) ∧ (wOf (wT d) e).length ≤ 3 * lenB d + 20
    have hk : e.k = 1 ∨ e.k = 2 ∨ e.k = 3 ∨ e.k = 4 ∨ e.k = 5 ∨ e.k = 6 ∨ e.k = 7 ∨ 8 ≤ e.k := by omega
    rcases hk with hk | hk | hk | hk | hk | hk | hk | hk
    · rw [wOf_lit hk]
      exact ⟨.one (fmtB_size (hV.lit hk).1 h.vi), by simp⟩
    · rw [wOf_col hk]
      obtain ⟨-, h2, h3⟩ := hV.col hk
      unfold colT
      refine ⟨Small.app ?_ (.one (nameOK_size h3)), ?_⟩
      · split
        · exact .nil
        · exact .two (qualB_size h2) (by decide)
      · split <;> simp
    · have a0 := arg_ok (hargs 0 (by rw [hn, hk]; decide))
      rw [wOf_not hk]
      exact ⟨(Small.one (by decide)).app a0.1, by have := a0.2; simp only [List.length_append, List.length_cons, List.length_nil]; omega⟩
    · have a0 := arg_ok (hargs 0 (by rw [hn, hk]; decide))
      rw [wOf_neg hk]
      exact ⟨(Small.one (by decide)).app a0.1, by have := a0.2; simp only [List.length_append, List.length_cons, List.length_nil]; omega⟩
    · have a0 := arg_ok (hargs 0 (by rw [hn, hk]; decide))
      have a1 := arg_ok (hargs 1 (by rw [hn, hk]; decide))
      rw [wOf_bin hk]
      exact ⟨(a0.1.app (.one (opS_size _))).app a1.1, by have := a0.2; have := a1.2; simp only [List.length_append, List.length_cons, List.length_nil]; omega⟩
    · have a0 := arg_ok (hargs 0 (by rw [hn, hk]; decide))
      rw [wOf_null hk]
      have hnul : Small (nullT e.no) ∧ (nullT e.no).length ≤ 3 := by
        cases e.no
        · exact ⟨Small.two (by decide) (by decide), by decide⟩
        · exact ⟨Small.app (a := [⟨#[73, 83]⟩]) (.one (by decide)) (Small.two (by decide) (by decide)), by decide⟩
      exact ⟨a0.1.app hnul.1, by have := a0.2; have := hnul.2; simp only [List.length_append]; omega⟩
    · have a0 := arg_ok (hargs 0 (by rw [hn, hk]; decide))
      have a1 := arg_ok (hargs 1 (by rw [hn, hk]; decide))
      have a2 := arg_ok (hargs 2 (by rw [hn, hk]; decide))
      rw [wOf_btw hk]
      exact ⟨(((a0.1.app (.one (by decide))).app a1.1).app (.one (by decide))).app a2.1, by have := a0.2; have := a1.2; have := a2.2; simp only [List.length_append, List.length_cons, List.length_nil]; omega⟩
    · have hs1 : e.sub.length = 1 := hF.subn.trans (by unfold subN; rw [if_pos ⟨hk, hhi⟩])
      have hQ := quB_fine (hF.sub (qAt e.sub 0) (qAt_mem (by omega)))
      have hq : quB (vE d) e.k (qAt e.sub 0) = true := hF.sub (qAt e.sub 0) (qAt_mem (by omega))
      obtain ⟨c, o, -, -, -, -, hP⟩ := h.sub 0 (by omega)
      have hw := wh_ok (d := d) hQ.wh (fun a ha => by
        obtain ⟨i, hi, rfl⟩ := mem_eAt ha
        obtain ⟨c, o, -, -, -, -, hx⟩ := hP.wh i hi
        exact part_ok d _ hx (hQ.allW _ ha))
      have hfr : (qAt e.sub 0).fr.size ≤ 1000 := by
        unfold quB at hq
        simp only [Bool.and_eq_true] at hq
        exact srcB_size hq.1.1.2
      have hfrom : Small (fromT (wT d) (qAt e.sub 0)) ∧ (fromT (wT d) (qAt e.sub 0)).length ≤ lenB d + 3 :=
        ⟨Small.app (.two (by decide) hfr) hw.1, by unfold fromT; have := hw.2; simp only [List.length_append, List.length_cons, List.length_nil]; omega⟩
      have hhead : Small (headT (wT d) e.k (qAt e.sub 0)) ∧ (headT (wT d) e.k (qAt e.sub 0)).length ≤ lenB d + 4 := by
        unfold headT
        split
        · exact ⟨.one (by decide), by simp⟩
        · split
          · exact ⟨Small.app (a := [⟨#[67, 79, 85, 78, 84]⟩, ⟨#[40]⟩]) (.two (by decide) (by decide)) (.two (by decide) (by decide)), by simp⟩
          · have hi1 : 0 < (qAt e.sub 0).items.length := by rw [hQ.items]; unfold itemN; rw [if_pos (by omega)]; decide
            obtain ⟨c, o, -, -, -, -, hx⟩ := hP.items 0 hi1
            have hI := part_ok d _ hx (hQ.allI _ (eAt_mem hi1))
            have hag : (aggS e.k).size ≤ 1000 := by unfold aggS; repeat' split
                                                    all_goals decide
            exact ⟨(Small.one hag).app (((Small.one (by decide)).app hI.1).app (.one (by decide))), by have := hI.2; simp only [List.length_append, List.length_cons, List.length_nil]; omega⟩
      rw [wOf_sub hk]
      unfold subT
      refine ⟨(((Small.app ?_ (.two (by decide) (by decide))).app hhead.1).app hfrom.1).app (.one (by decide)), ?_⟩
      · split
        · exact .one (by decide)
        · exact .nil
      · have h8 : (if e.k = 8 then [(⟨#[69, 88, 73, 83, 84, 83]⟩ : ByteArray)] else []).length ≤ 1 := by split <;> simp
        have := hhead.2
        have := hfrom.2
        simp only [List.length_append, List.length_cons, List.length_nil]
        omega
end
/-- What Expr returns. -/
def prV (d : Nat) (e : Ex) : Value := .tuple #[.string (if vE d e then joinS (wT d e) else ⟨#[]⟩), .bool (vE d e)]
set_option maxHeartbeats 2000000 in
theorem pexpr_any {N : Nat → Prop} {d : Nat} (hu : 2 ∈ ls) (hm : 6 ∈ ls) (hp : 1 ∈ ls) (hN : 3 ∈ ls) (hP : 5 ∈ ls)
    (e : Ex) (w : World) (hA : ExAt N w d e) (hE : Env ls w) (hl : (wT d e).length ≤ 100000000000) :
    Calls Tryd.prog 6 #[exV e] w fun r w' => r = .returned (prV d e) ∧ Below w.heap.size w w' := by
  have hal := below_alloc w (.cells #[.int .i64 e.k, .int .i64 e.op, .bool e.no, .int .i64 e.vk, .int .i64 e.vi, .string e.vt, .string e.tb, .string e.nm, .slice e.pa e.args.length e.ca, .slice e.ps e.sub.length e.cs] 30)
  have HX0 := Lib.hid (ExB.new w e 30)
  have HA0 := Lib.hid (hA.low hal)
  have HE0 := Lib.hid (hE.low hal)
  have HB0 := Lib.hid hal
  have HSM := Lib.hid (fun hv => (part_ok d e hA hv).1)
  have HPR := Lib.hid (show prV d e = .tuple #[.string (if vE d e then joinS (wT d e) else ⟨#[]⟩), .bool (vE d e)] from rfl)
  have hgn := hE.size
  have HV := Lib.hid (fun v => validExpr_any hu d N e v)
  have HEX := Lib.hid (expr_any (ls := ls) hm hp hN hP d)
  clear hA hE hal
  generalize hv : vE d e = V at *
  have HVV := Lib.hid hv
  clear hv
  unfold exV
  go_enter Tryd.func6, Tryd.ntmps6
  go_upto_region 1 with (fail)
  generalize World.alloc _ _ = u0 at *
  obtain ⟨xl, x0, x1, x2, x3, x4, x5, x6, x7, x8, x9, xf⟩ := HX0.out
  go_wp2_with fail
  clear xl x0 x1 x2 x3 x4 x5 x6 x7 x8 x9 xf
  refine (HV.out _ HA0.out HE0.out).mono ?_
  rintro e' u1 ⟨rfl, hb1⟩
  have HA1 := Lib.hid (HA0.out.low hb1)
  have HE1 := Lib.hid (HE0.out.low hb1)
  have HX1 := Lib.hid (HX0.out.low hb1)
  have HB1 := Lib.hid (below_next HB0.out hb1)
  clear hb1
  cases V
  · go_wp2
    go_ret2
    exact ⟨by rw [HPR.out]; rfl, HB1.out⟩
  · go_upto_region 4 with (fail)
    have HW2 := Lib.hid (WrAt.new u1)
    have hal2 := below_alloc u1 (.cells #[.slice none 0 0] 50)
    have HA2 := Lib.hid ((HA1.out.weak (M := fun c => c < u1.heap.size) fun c hc _ => hc).low hal2)
    have HE2 := Lib.hid (HE1.out.low hal2)
    have HX2 := Lib.hid (HX1.out.low hal2)
    have HB2 := Lib.hid (below_next HB1.out hal2)
    have hz1 := HB1.out.size
    clear hal2
    generalize World.alloc _ _ = u2 at *
    generalize u1.heap.size = q at *
    obtain ⟨xl, x0, x1, x2, x3, x4, x5, x6, x7, x8, x9, xf⟩ := HX2.out
    go_wp2_with fail
    clear xl x0 x1 x2 x3 x4 x5 x6 x7 x8 x9 xf
    refine (HEX.out q [] e u2 (by omega) HW2.out HE2.out HA2.out HVV.out (by simp only [List.length_nil]; omega)).mono ?_
    rintro e' u3 ⟨rfl, hf3, hw3⟩
    have HW3 : Hid (WrAt q (wT d e) u3) := Lib.hid (by rwa [List.nil_append] at hw3)
    have HB3 := Lib.hid (HB2.out.trans (hf3.below (by omega) HB2.out.size))
    clear hf3 hw3
    go_wp2_with fail
    refine (text_any q (wT d e) u3 HW3.out hl (HSM.out (by first | rfl | trivial))).mono ?_
    rintro e' u4 ⟨rfl, hb4⟩
    have HB4 := Lib.hid (below_next HB3.out hb4)
    clear hb4
    go_wp2
    go_ret2
    exact ⟨by rw [HPR.out]; rfl, HB4.out⟩
end Go.Proofs.YtaajaeidiholmaaDoor
/-
  LevelsOf of package syntax, and what it calls: over trees in memory.
-/
namespace Go.Proofs.YtaajaeidiholmaaDoor
set_option maxRecDepth 100000
open Go.RowKit
variable {ls : List Nat}

theorem max_if (a b : Int) : (if a < b then b else a) = max a b := by split <;> omega
end Go.Proofs.YtaajaeidiholmaaDoor
/-
  Names: what the tape's Name gives; the words of the program, one by one.
-/
namespace Go.Proofs.YtaajaeidiholmaaDoor
set_option maxRecDepth 100000
open Go.RowKit
variable {ls : List Nat}

def NamePost (b : Nat) (w : World) (e : Ending) (w' : World) : Prop := ∃ i : Nat, e = .returned (.string (nameS i)) ∧ i < 8 ∧ TapeAt w' b ∧ StepT b w w'
set_option maxHeartbeats 400000 in
theorem name_any (b : Nat) (w : World) (hb : 12 ≤ b) (ht : TapeAt w b) (hE : Env ls w) (hm : 0 ∈ ls) :
    Calls Tryd.prog 12 #[.pointer (some ⟨b, 0, none⟩)] w (NamePost b w) := by
  go_enter Tryd.func12, Tryd.ntmps12
  go_wp2_with fail
  refine (next_any b _ _ (by omega) (by omega) ht).mono ?_
  rintro e w' ⟨r, rfl, hr0, hr1, ht1, hs1⟩
  have HS := Lib.hid hs1
  have HT := Lib.hid ht1
  obtain ⟨i, rfl⟩ : ∃ i : Nat, r = i := ⟨r.toNat, by omega⟩
  have hc := (hE.step hs1 hb).names hm i (by omega)
  clear hs1 ht1
  go_wp2
  go_ret
  exact ⟨i, rfl, by omega, HT.out, HS.out⟩
theorem name_all {P : ByteArray → Prop} (h : ∀ i : Fin 8, P (nameS i)) (i : Nat) (hi : i < 8) : P (nameS i) := h ⟨i, hi⟩
end Go.Proofs.YtaajaeidiholmaaDoor
/-
  Expressions of the tape: columns, literals; what AnyExpr keeps while it draws.
-/
namespace Go.Proofs.YtaajaeidiholmaaDoor
set_option maxRecDepth 100000
open Go.RowKit
variable {ls : List Nat}

theorem info_expr : (Tryd.prog.info? 30).map (fun i => (i.zero, i.size, i.bytes)) = some (some (.agg #[.int .i64 0, .int .i64 0, .bool false, .int .i64 0, .int .i64 0, .string ⟨#[]⟩, .string ⟨#[]⟩, .string ⟨#[]⟩, .slice none 0 0, .slice none 0 0]), 10, 136) := by kernel_rfl
theorem col_any (tb nm : ByteArray) (w : World) : Calls Tryd.prog 11 #[.string tb, .string nm] w fun e w' => e = .returned (exV (colEx tb nm)) ∧ Below w.heap.size w w' := by
  go_enter Tryd.func11, Tryd.ntmps11
  go_wp2
  exact bodyPost_ret (v := exV (colEx tb nm)) (by simp [results, Tryd.results11, go_sem, exV, colEx, Ex.mk_k, Ex.mk_op, Ex.mk_no, Ex.mk_vk, Ex.mk_vi, Ex.mk_vt, Ex.mk_tb, Ex.mk_nm, Ex.mk_pa, Ex.mk_ca, Ex.mk_args, Ex.mk_ps, Ex.mk_cs, Ex.mk_sub]) rfl ⟨rfl, below_alloc _ _⟩
theorem lit_any (k n : Int) (s : ByteArray) (w : World) : Calls Tryd.prog 14 #[.agg #[.int .i64 k, .int .i64 n, .string s]] w fun e w' => e = .returned (exV (litEx k n s)) ∧ Below w.heap.size w w' := by
  go_enter Tryd.func14, Tryd.ntmps14
  go_wp2
  exact bodyPost_ret (v := exV (litEx k n s)) (by simp [results, Tryd.results14, go_sem, exV, litEx, Ex.mk_k, Ex.mk_op, Ex.mk_no, Ex.mk_vk, Ex.mk_vi, Ex.mk_vt, Ex.mk_tb, Ex.mk_nm, Ex.mk_pa, Ex.mk_ca, Ex.mk_args, Ex.mk_ps, Ex.mk_cs, Ex.mk_sub]) rfl ⟨rfl, below_new (below_alloc _ _) _⟩
theorem col_agg (tb nm : ByteArray) (w : World) : Calls Tryd.prog 11 #[.string tb, .string nm] w fun e w' => e = .returned (.agg #[.int .i64 2, .int .i64 0, .bool false, .int .i64 0, .int .i64 0, .string ⟨#[]⟩, .string tb, .string nm, .slice none 0 0, .slice none 0 0]) ∧ Below w.heap.size w w' := col_any tb nm w
theorem lit_agg (k n : Int) (s : ByteArray) (w : World) : Calls Tryd.prog 14 #[.agg #[.int .i64 k, .int .i64 n, .string s]] w fun e w' => e = .returned (.agg #[.int .i64 1, .int .i64 0, .bool false, .int .i64 k, .int .i64 n, .string s, .string ⟨#[]⟩, .string ⟨#[]⟩, .slice none 0 0, .slice none 0 0]) ∧ Below w.heap.size w w' := lit_any k n s w
/-- What AnyExpr keeps: the tape, the box of its result. -/
structure AnW (b : Nat) (w u : World) : Prop where
  tape : TapeAt u b
  step : StepT b w u
  res : ExB u w.heap.size ex0
  lt : b < w.heap.size
theorem AnW.next {b : Nat} {w u v : World} (h : AnW b w u) (hs : StepT b u v) (ht : TapeAt v b) : AnW b w v :=
  ⟨ht, h.step.trans hs, h.res.step hs (by have := h.lt; omega), h.lt⟩
theorem AnW.low {b : Nat} {w u v : World} (h : AnW b w u) (hb : Below u.heap.size u v) : AnW b w v := h.next (StepT.of_below hb) (h.tape.below hb)
/-- All but block X is as it was. -/
structure ButX (X : Nat) (u v : World) : Prop where
  os : v.os = u.os
  tape : v.tape = u.tape
  output : v.output = u.output
  size : v.heap.size = u.heap.size
  block : ∀ k, k ≠ X → v.heap[k]? = u.heap[k]?
theorem ButX.refl (X : Nat) (u : World) : ButX X u u := ⟨rfl, rfl, rfl, rfl, fun _ _ => rfl⟩
theorem ButX.set {X : Nat} {u v : World} (h : ButX X u v) (o : Nat) (f : Option Nat) (y : Value) : ButX X u (v.setCell ⟨X, o, f⟩ y) :=
  ⟨h.os, h.tape, h.output, by simpa [World.setCell] using h.size, fun k hk => (Below.heap_setCell _ _ _ _ hk).trans (h.block k hk)⟩
theorem ButX.drew {X : Nat} {u v : World} (h : ButX X u v) : ButX X u v.drew := ⟨h.os, h.tape, h.output, h.size, h.block⟩
theorem StepT.but {b X : Nat} {w u v : World} (h : StepT b w u) (hb : ButX X u v) (hX : w.heap.size ≤ X) : StepT b w v :=
  ⟨hb.os.trans h.os, hb.tape.trans h.tape, hb.output.trans h.output, by rw [hb.size]; exact h.size, fun k hk hkb => (hb.block k (by omega)).trans (h.block k hk hkb)⟩
theorem TapeAt.but {b X : Nat} {u v : World} (h : TapeAt u b) (hb : ButX X u v) (hX : b < X) : TapeAt v b := h.keep (fun k hk => hb.block k (by omega)) (by rw [hb.size]; exact Nat.le_refl _)
theorem ExB.but {X Y : Nat} {u v : World} {e : Ex} (h : ExB u Y e) (hb : ButX X u v) (hn : Y ≠ X) : ExB v Y e := h.keep (by rw [hb.size]; exact Nat.le_refl _) (hb.block Y hn)
theorem ExAt.but {N M : Nat → Prop} {X d : Nat} {u v : World} {e : Ex} (h : ExAt N u d e) (hb : ButX X u v) (hN : ∀ c, c < u.heap.size → N c → c ≠ X ∧ M c) : ExAt M v d e :=
  ExAt.keep (by rw [hb.size]; exact Nat.le_refl _) (fun c hc hn => ⟨hb.block c (hN c hc hn).1, (hN c hc hn).2⟩) d e h
theorem LAt.but {N M : Nat → Prop} {X d : Nat} {u v : World} {p : Option Addr} {l : List Ex} (h : LAt N u (ExAt N u d) p l) (hb : ButX X u v) (hN : ∀ c, c < u.heap.size → N c → c ≠ X ∧ M c) : LAt M v (ExAt M v d) p l :=
  LAt.keep h (by rw [hb.size]; exact Nat.le_refl _) (fun c hc hn => ⟨hb.block c (hN c hc hn).1, (hN c hc hn).2⟩) fun _ hx => hx.but hb hN
theorem QAt.but {N M : Nat → Prop} {X d : Nat} {u v : World} {p : Option Addr} {l : List Qu} (h : QAt N u (ExAt N u d) p l) (hb : ButX X u v) (hN : ∀ c, c < u.heap.size → N c → c ≠ X ∧ M c) : QAt M v (ExAt M v d) p l :=
  QAt.keep h (by rw [hb.size]; exact Nat.le_refl _) (fun c hc hn => ⟨hb.block c (hN c hc hn).1, (hN c hc hn).2⟩) fun _ hx => hx.but hb hN
theorem AnW.but {b X : Nat} {w u v : World} (h : AnW b w u) (hb : ButX X u v) (hX : w.heap.size < X) : AnW b w v :=
  ⟨h.tape.but hb (by have := h.lt; omega), h.step.but hb (by omega), h.res.but hb (by omega), h.lt⟩
theorem Env.but {X : Nat} {u v : World} (h : Env ls u) (hb : ButX X u v) (hX : 12 ≤ X) : Env ls v := h.keep (by rw [hb.size]; exact Nat.le_refl _) (fun k hk => hb.block k (by omega))
/-- The ten cells of a box are set. -/
theorem set_ten {u : World} {X : Nat} {a : Ex} (h : ExB u X a) (v0 v1 v2 v3 v4 v5 v6 v7 v8 v9 : Value) : ((((((((((u.setCell ⟨X, 0, none⟩ v0).setCell ⟨X, 1, none⟩ v1).setCell ⟨X, 2, none⟩ v2).setCell ⟨X, 3, none⟩ v3).setCell ⟨X, 4, none⟩ v4).setCell ⟨X, 5, none⟩ v5).setCell ⟨X, 6, none⟩ v6).setCell ⟨X, 7, none⟩ v7).setCell ⟨X, 8, none⟩ v8).setCell ⟨X, 9, none⟩ v9).cell? ⟨X, 0, none⟩ = some v0 ∧ ((((((((((u.setCell ⟨X, 0, none⟩ v0).setCell ⟨X, 1, none⟩ v1).setCell ⟨X, 2, none⟩ v2).setCell ⟨X, 3, none⟩ v3).setCell ⟨X, 4, none⟩ v4).setCell ⟨X, 5, none⟩ v5).setCell ⟨X, 6, none⟩ v6).setCell ⟨X, 7, none⟩ v7).setCell ⟨X, 8, none⟩ v8).setCell ⟨X, 9, none⟩ v9).cell? ⟨X, 1, none⟩ = some v1 ∧ ((((((((((u.setCell ⟨X, 0, none⟩ v0).setCell ⟨X, 1, none⟩ v1).setCell ⟨X, 2, none⟩ v2).setCell ⟨X, 3, none⟩ v3).setCell ⟨X, 4, none⟩ v4).setCell ⟨X, 5, none⟩ v5).setCell ⟨X, 6, none⟩ v6).setCell ⟨X, 7, none⟩ v7).setCell ⟨X, 8, none⟩ v8).setCell ⟨X, 9, none⟩ v9).cell? ⟨X, 2, none⟩ = some v2 ∧ ((((((((((u.setCell ⟨X, 0, none⟩ v0).setCell ⟨X, 1, none⟩ v1).setCell ⟨X, 2, none⟩ v2).setCell ⟨X, 3, none⟩ v3).setCell ⟨X, 4, none⟩ v4).setCell ⟨X, 5, none⟩ v5).setCell ⟨X, 6, none⟩ v6).setCell ⟨X, 7, none⟩ v7).setCell ⟨X, 8, none⟩ v8).setCell ⟨X, 9, none⟩ v9).cell? ⟨X, 3, none⟩ = some v3 ∧ ((((((((((u.setCell ⟨X, 0, none⟩ v0).setCell ⟨X, 1, none⟩ v1).setCell ⟨X, 2, none⟩ v2).setCell ⟨X, 3, none⟩ v3).setCell ⟨X, 4, none⟩ v4).setCell ⟨X, 5, none⟩ v5).setCell ⟨X, 6, none⟩ v6).setCell ⟨X, 7, none⟩ v7).setCell ⟨X, 8, none⟩ v8).setCell ⟨X, 9, none⟩ v9).cell? ⟨X, 4, none⟩ = some v4 ∧ ((((((((((u.setCell ⟨X, 0, none⟩ v0).setCell ⟨X, 1, none⟩ v1).setCell ⟨X, 2, none⟩ v2).setCell ⟨X, 3, none⟩ v3).setCell ⟨X, 4, none⟩ v4).setCell ⟨X, 5, none⟩ v5).setCell ⟨X, 6, none⟩ v6).setCell ⟨X, 7, none⟩ v7).setCell ⟨X, 8, none⟩ v8).setCell ⟨X, 9, none⟩ v9).cell? ⟨X, 5, none⟩ = some v5 ∧ ((((((((((u.setCell ⟨X, 0, none⟩ v0).setCell ⟨X, 1, none⟩ v1).setCell ⟨X, 2, none⟩ v2).setCell ⟨X, 3, none⟩ v3).setCell ⟨X, 4, none⟩ v4).setCell ⟨X, 5, none⟩ v5).setCell ⟨X, 6, none⟩ v6).setCell ⟨X, 7, none⟩ v7).setCell ⟨X, 8, none⟩ v8).setCell ⟨X, 9, none⟩ v9).cell? ⟨X, 6, none⟩ = some v6 ∧ ((((((((((u.setCell ⟨X, 0, none⟩ v0).setCell ⟨X, 1, none⟩ v1).setCell ⟨X, 2, none⟩ v2).setCell ⟨X, 3, none⟩ v3).setCell ⟨X, 4, none⟩ v4).setCell ⟨X, 5, none⟩ v5).setCell ⟨X, 6, none⟩ v6).setCell ⟨X, 7, none⟩ v7).setCell ⟨X, 8, none⟩ v8).setCell ⟨X, 9, none⟩ v9).cell? ⟨X, 7, none⟩ = some v7 ∧ ((((((((((u.setCell ⟨X, 0, none⟩ v0).setCell ⟨X, 1, none⟩ v1).setCell ⟨X, 2, none⟩ v2).setCell ⟨X, 3, none⟩ v3).setCell ⟨X, 4, none⟩ v4).setCell ⟨X, 5, none⟩ v5).setCell ⟨X, 6, none⟩ v6).setCell ⟨X, 7, none⟩ v7).setCell ⟨X, 8, none⟩ v8).setCell ⟨X, 9, none⟩ v9).cell? ⟨X, 8, none⟩ = some v8 ∧ ((((((((((u.setCell ⟨X, 0, none⟩ v0).setCell ⟨X, 1, none⟩ v1).setCell ⟨X, 2, none⟩ v2).setCell ⟨X, 3, none⟩ v3).setCell ⟨X, 4, none⟩ v4).setCell ⟨X, 5, none⟩ v5).setCell ⟨X, 6, none⟩ v6).setCell ⟨X, 7, none⟩ v7).setCell ⟨X, 8, none⟩ v8).setCell ⟨X, 9, none⟩ v9).cell? ⟨X, 9, none⟩ = some v9 := by
  obtain ⟨hl, c0, c1, c2, c3, c4, c5, c6, c7, c8, c9, fz⟩ := h
  refine ⟨?_, ?_, ?_, ?_, ?_, ?_, ?_, ?_, ?_, ?_⟩
  all_goals go_simp
theorem but_ten (u : World) (X : Nat) (v0 v1 v2 v3 v4 v5 v6 v7 v8 v9 : Value) : ButX X u ((((((((((u.setCell ⟨X, 0, none⟩ v0).setCell ⟨X, 1, none⟩ v1).setCell ⟨X, 2, none⟩ v2).setCell ⟨X, 3, none⟩ v3).setCell ⟨X, 4, none⟩ v4).setCell ⟨X, 5, none⟩ v5).setCell ⟨X, 6, none⟩ v6).setCell ⟨X, 7, none⟩ v7).setCell ⟨X, 8, none⟩ v8).setCell ⟨X, 9, none⟩ v9) :=
  ((((((((((ButX.refl X u).set _ _ _).set _ _ _).set _ _ _).set _ _ _).set _ _ _).set _ _ _).set _ _ _).set _ _ _).set _ _ _).set _ _ _
theorem Cell3.step3 {u v : World} {X b : Nat} {x y z : Value} (h : Cell3 u X x y z) (hs : StepT b u v) (hn : X ≠ b) : Cell3 v X x y z :=
  ⟨Nat.lt_of_lt_of_le h.lt hs.size, by rw [hs.cell (by exact h.lt) (by exact hn)]; exact h.c0, by rw [hs.cell (by exact h.lt) (by exact hn)]; exact h.c1, by rw [hs.cell (by exact h.lt) (by exact hn)]; exact h.c2, fun o => by rw [hs.frozen (by exact h.lt) (by exact hn)]; exact h.fz o⟩
/-- What AnyExpr gives: a well-formed tree of at most D storeys. -/
def AExPost (b D : Nat) (w : World) (e : Ending) (w' : World) : Prop := ∃ E : Ex, e = .returned (exV E) ∧ ExAt (fun c => w.heap.size < c) w' D E ∧ vE D E = true ∧ TapeAt w' b ∧ StepT b w w'
/-- A leaf. -/
theorem ExAt.leaf (N : Nat → Prop) (w : World) (D : Nat) (k op : Int) (no : Bool) (vk vi : Int) {vt tb nm : ByteArray} (h1 : vt.size ≤ 9223372036854775807) (h2 : tb.size ≤ 9223372036854775807) (h3 : nm.size ≤ 9223372036854775807) (h4 : I64 vi := by exact i64_zero) : ExAt N w (D + 1) (.mk k op no vk vi vt tb nm none 0 [] none 0 []) :=
  ⟨h1, h2, h3, Nat.zero_le _, Nat.zero_le _, LAt.nil _ _ _ _, QAt.nil _ _ _ _, h4⟩
theorem IsVal.i64 {k n : Int} {s : ByteArray} (h : IsVal k n s) : I64 n := by
  rcases h with ⟨rfl, rfl, rfl⟩ | ⟨rfl, hn, rfl⟩ | ⟨rfl, h0, h1, rfl⟩ | ⟨rfl, rfl, hs⟩
  · exact i64_zero
  · unfold IsNum at hn; exact ⟨by omega, by omega⟩
  · exact ⟨by omega, by omega⟩
  · exact i64_zero
theorem names_fine : ∀ i : Fin 8, nameOK (nameS i) = true ∧ (nameS i).size ≤ 9223372036854775807 := by decide +kernel
def qualL : List (List UInt8) := [[78, 69, 87], [79, 76, 68], [73, 78, 83, 69, 82, 84, 69, 68], [116], [117]]
def qualS (i : Nat) : ByteArray := ⟨(qualL.getD i []).toArray⟩
theorem quals_fine : ∀ i : Fin 5, qualB (qualS i) = true ∧ (qualS i).size ≤ 9223372036854775807 := by decide +kernel
def srcL : List (List UInt8) := [[116], [117], [108, 111, 103], [73, 78, 83, 69, 82, 84, 69, 68], [68, 69, 76, 69, 84, 69, 68]]
def srcS (i : Nat) : ByteArray := ⟨(srcL.getD i []).toArray⟩
theorem srcs_fine : ∀ i : Fin 5, srcB (srcS i) = true ∧ (srcS i).size ≤ 9223372036854775807 := by decide +kernel
theorem qual_none : qualB ⟨#[]⟩ = true := by decide +kernel
theorem qual_at {u v : World} {b : Nat} {t : TypeId} (hs : StepT b (u.alloc (.cells #[.string ⟨#[78, 69, 87]⟩, .string ⟨#[79, 76, 68]⟩, .string ⟨#[73, 78, 83, 69, 82, 84, 69, 68]⟩, .string ⟨#[116]⟩, .string ⟨#[117]⟩] t)) v) (hb : b < u.heap.size) {i : Nat} (hi : i < 5) : v.cell? ⟨u.heap.size, i, none⟩ = some (.string (qualS i)) ∧ u.heap.size < v.heap.size := by
  have hz := hs.size
  rw [size_alloc] at hz
  refine ⟨?_, by omega⟩
  rw [hs.cell (by rw [size_alloc]; exact Nat.lt_succ_self _) (by show u.heap.size ≠ b; omega)]
  have h5 : i = 0 ∨ i = 1 ∨ i = 2 ∨ i = 3 ∨ i = 4 := by omega
  rcases h5 with rfl | rfl | rfl | rfl | rfl
  all_goals (go_simp; rfl)
theorem src_at {u v : World} {b : Nat} {t : TypeId} (hs : StepT b (u.alloc (.cells #[.string ⟨#[116]⟩, .string ⟨#[117]⟩, .string ⟨#[108, 111, 103]⟩, .string ⟨#[73, 78, 83, 69, 82, 84, 69, 68]⟩, .string ⟨#[68, 69, 76, 69, 84, 69, 68]⟩] t)) v) (hb : b < u.heap.size) {i : Nat} (hi : i < 5) : v.cell? ⟨u.heap.size, i, none⟩ = some (.string (srcS i)) ∧ u.heap.size < v.heap.size := by
  have hz := hs.size
  rw [size_alloc] at hz
  refine ⟨?_, by omega⟩
  rw [hs.cell (by rw [size_alloc]; exact Nat.lt_succ_self _) (by show u.heap.size ≠ b; omega)]
  have h5 : i = 0 ∨ i = 1 ∨ i = 2 ∨ i = 3 ∨ i = 4 := by omega
  rcases h5 with rfl | rfl | rfl | rfl | rfl
  all_goals (go_simp; rfl)
end Go.Proofs.YtaajaeidiholmaaDoor
