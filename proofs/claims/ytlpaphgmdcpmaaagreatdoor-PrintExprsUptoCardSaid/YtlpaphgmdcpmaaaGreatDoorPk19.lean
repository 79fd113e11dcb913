/-
  Several texts in one.
-/
import Derived.Test.YtlpaphgmdcpmaaaGreatDoorPk17
import Derived.Test.YtlpaphgmdcpmaaaGreatDoorPk18
import Derived.Lib.ItoaLen
import Derived.Test.YtlpaphgmdcpmaaaGreatDoorPk04
import Derived.Test.YtlpaphgmdcpmaaaGreatDoorPk02
import Derived.Deep.Strs
import Derived.Test.YtlpaphgmdcpmaaaGreatDoorRows
/-
  Expr of package print: the text of a well-formed tree.
-/
namespace Go.Proofs.YtlpaphgmdcpmaaaGreatDoor
set_option maxRecDepth 100000
open Go.RowKit
variable {ls : List Nat}

theorem nameOK_size {s : ByteArray} (h : nameOK s = true) : s.size ≤ 1000 := by
  unfold nameOK at h
  simp only [Bool.and_eq_true, decide_eq_true_eq] at h
  omega
theorem eqT_eq {s t : ByteArray} (h : eqT s t = true) : s.toList = t.toList := by
  unfold eqT at h; simpa using h
theorem toList_size (s : ByteArray) : s.toList.length = s.size := by
  rw [ByteArray.toList_eq, Array.length_toList]; rfl
theorem eqT_size {s t : ByteArray} (h : eqT s t = true) : s.size = t.size := by rw [← toList_size, ← toList_size, eqT_eq h]
theorem srcB_size {s : ByteArray} (h : srcB s = true) : s.size ≤ 1000 := by
  unfold srcB at h
  simp only [Bool.or_eq_true] at h
  rcases h with (h | h) | h
  · exact nameOK_size h
  · rw [eqT_size h]; decide
  · rw [eqT_size h]; decide
theorem qualB_size {s : ByteArray} (h : qualB s = true) : s.size ≤ 1000 := by
  unfold qualB at h
  simp only [Bool.or_eq_true] at h
  rcases h with ((h | h) | h) | h
  · rw [eqT_size h]; decide
  · exact srcB_size h
  · rw [eqT_size h]; decide
  · rw [eqT_size h]; decide
theorem opS_size : ∀ i, (opS i).size ≤ 1000 := by
  intro i
  by_cases h : i < 14
  · have : ∀ i : Fin 14, (opS i).size ≤ 1000 := by decide +kernel
    exact this ⟨i, h⟩
  · have : opS i = ⟨#[]⟩ := by
      unfold opS
      rw [List.getD, List.getElem?_eq_none (by show 14 ≤ i; omega)]
      rfl
    rw [this]; decide
theorem fmtB_size {k n : Int} {s : ByteArray} (hv : validB k n s = true) (hn : I64 n) : (fmtB k n s).size ≤ 1000 := by
  unfold fmtB
  rw [if_pos hv]
  split
  · show (Lib.itoa n).toArray.size ≤ 1000
    rw [List.size_toArray]
    have := Lib.itoa_length_le n hn.1 hn.2
    omega
  · split
    · split <;> decide
    · split
      · rename_i h1 h2 h3
        subst h3
        have ht : textOK s.data.toList = true := by
          unfold validB at hv
          have h : n = 0 ∧ textOK s.data.toList = true := by simpa using hv
          exact h.2
        have hq := quote_len s.data.toList (textOK_len ht)
        unfold quoteB
        rw [ByteArray.size_append, ByteArray.size_append]
        show 1 + (Lib.replaceAll s.data.toList [39] [39, 39]).toArray.size + 1 ≤ 1000
        rw [List.size_toArray]
        omega
      · decide
/-- All of these are short. -/
def Small (L : List ByteArray) : Prop := ∀ s ∈ L, s.size ≤ 1000
theorem Small.app {a b : List ByteArray} (ha : Small a) (hb : Small b) : Small (a ++ b) := fun s hs => (List.mem_append.1 hs).elim (ha s) (hb s)
theorem Small.one {s : ByteArray} (h : s.size ≤ 1000) : Small [s] := fun t ht => by obtain rfl := List.mem_singleton.1 ht; exact h
theorem Small.two {s r : ByteArray} (h : s.size ≤ 1000) (h2 : r.size ≤ 1000) : Small [s, r] := Small.app (a := [s]) (b := [r]) (.one h) (.one h2)
theorem Small.nil : Small [] := fun s hs => by cases hs
def lenB : Nat → Nat
  | 0 => 0
  | d + 1 => 3 * lenB d + 20
section
variable {N : Nat → Prop} {w : World} {d : Nat}
/-- What is known of the words of the parts. -/
def PartOK (d : Nat) (e : Ex) : Prop := Small (wT d e) ∧ (wT d e).length ≤ lenB d
theorem arg_ok {e : Ex} {i : Nat} (h : PartOK d (eAt e.args i)) : Small (argT (wT d) e i) ∧ (argT (wT d) e i).length ≤ lenB d + 2 := by
  unfold argT
  split
  · exact ⟨((Small.one (by decide)).app h.1).app (.one (by decide)), by have := h.2; simp only [List.length_append, List.length_cons, List.length_nil]; omega⟩
  · exact ⟨h.1, by have := h.2; omega⟩
theorem wh_ok {l : List Ex} (hl : l.length ≤ 1) (h : ∀ a ∈ l, PartOK d a) : Small (whT (wT d) l) ∧ (whT (wT d) l).length ≤ lenB d + 1 := by
  match l, hl with
  | [], _ => exact ⟨.nil, Nat.zero_le _⟩
  | [a], _ =>
    have ha := h a (List.mem_singleton.2 rfl)
    have e1 : whT (wT d) [a] = [⟨#[87, 72, 69, 82, 69]⟩] ++ wT d a := by simp [whT]
    rw [e1]
    exact ⟨(Small.one (by decide)).app ha.1, by have := ha.2; simp only [List.length_append, List.length_cons, List.length_nil]; omega⟩
theorem part_ok : ∀ (d : Nat) (e : Ex), ExAt N w d e → vE d e = true → PartOK d e
  | 0, _, h, _ => h.elim
  | d + 1, e, h, hv => by
    have h : ExIn N w (ExAt N w d) e := h
    have hV : FineV (vE d) e := vOf_iff.1 hv
    have hF := hV.fine
    have hargs : ∀ i, i < e.args.length → PartOK d (eAt e.args i) := fun i hi => by
      obtain ⟨c, o, -, -, -, -, hP⟩ := h.args i hi
      exact part_ok d _ hP (hF.args _ (eAt_mem hi))
    have hn := hF.argn
    have hlo := hF.lo
    have hhi := hF.hi
    show Small (wOf (wT d) e) ∧ (wOf (wT d) e).length ≤ 3 * lenB d + 20
    have hk : e.k = 1 ∨ e.k = 2 ∨ e.k = 3 ∨ e.k = 4 ∨ e.k = 5 ∨ e.k = 6 ∨ e.k = 7 ∨ 8 ≤ e.k := by omega
    rcases hk with hk | hk | hk | hk | hk | hk | hk | hk
    · rw [wOf_lit hk]
      exact ⟨.one (fmtB_size (hV.lit hk).1 h.vi), by simp⟩
    · rw [wOf_col hk]
      obtain ⟨-, h2, h3⟩ := hV.col hk
      unfold colT
      refine ⟨Small.app ?_ (.one (nameOK_size h3)), ?_⟩
      · split
        · exact .nil
        · exact .two (qualB_size h2) (by decide)
      · split <;> simp
    · have a0 := arg_ok (hargs 0 (by rw [hn, hk]; decide))
      rw [wOf_not hk]
      exact ⟨(Small.one (by decide)).app a0.1, by have := a0.2; simp only [List.length_append, List.length_cons, List.length_nil]; omega⟩
    · have a0 := arg_ok (hargs 0 (by rw [hn, hk]; decide))
      rw [wOf_neg hk]
      exact ⟨(Small.one (by decide)).app a0.1, by have := a0.2; simp only [List.length_append, List.length_cons, List.length_nil]; omega⟩
    · have a0 := arg_ok (hargs 0 (by rw [hn, hk]; decide))
      have a1 := arg_ok (hargs 1 (by rw [hn, hk]; decide))
      rw [wOf_bin hk]
      exact ⟨(a0.1.app (.one (opS_size _))).app a1.1, by have := a0.2; have := a1.2; simp only [List.length_append, List.length_cons, List.length_nil]; omega⟩
    · have a0 := arg_ok (hargs 0 (by rw [hn, hk]; decide))
      rw [wOf_null hk]
      have hnul : Small (nullT e.no) ∧ (nullT e.no).length ≤ 3 := by
        cases e.no
        · exact ⟨Small.two (by decide) (by decide), by decide⟩
        · exact ⟨Small.app (a := [⟨#[73, 83]⟩]) (.one (by decide)) (Small.two (by decide) (by decide)), by decide⟩
      exact ⟨a0.1.app hnul.1, by have := a0.2; have := hnul.2; simp only [List.length_append]; omega⟩
    · have a0 := arg_ok (hargs 0 (by rw [hn, hk]; decide))
      have a1 := arg_ok (hargs 1 (by rw [hn, hk]; decide))
      have a2 := arg_ok (hargs 2 (by rw [hn, hk]; decide))
      rw [wOf_btw hk]
      exact ⟨(((a0.1.app (.one (by decide))).app a1.1).app (.one (by decide))).app a2.1, by have := a0.2; have := a1.2; have := a2.2; simp only [List.length_append, List.length_cons, List.length_nil]; omega⟩
    · have hs1 : e.sub.length = 1 := hF.subn.trans (by unfold subN; rw [if_pos ⟨hk, hhi⟩])
      have hQ := quB_fine (hF.sub (qAt e.sub 0) (qAt_mem (by omega)))
      have hq : quB (vE d) e.k (qAt e.sub 0) = true := hF.sub (qAt e.sub 0) (qAt_mem (by omega))
      obtain ⟨c, o, -, -, -, -, hP⟩ := h.sub 0 (by omega)
      have hw := wh_ok (d := d) hQ.wh (fun a ha => by
        obtain ⟨i, hi, rfl⟩ := mem_eAt ha
        obtain ⟨c, o, -, -, -, -, hx⟩ := hP.wh i hi
        exact part_ok d _ hx (hQ.allW _ ha))
      have hfr : (qAt e.sub 0).fr.size ≤ 1000 := by
        unfold quB at hq
        simp only [Bool.and_eq_true] at hq
        exact srcB_size hq.1.1.2
      have hfrom : Small (fromT (wT d) (qAt e.sub 0)) ∧ (fromT (wT d) (qAt e.sub 0)).length ≤ lenB d + 3 :=
        ⟨Small.app (.two (by decide) hfr) hw.1, by unfold fromT; have := hw.2; simp only [List.length_append, List.length_cons, List.length_nil]; omega⟩
      have hhead : Small (headT (wT d) e.k (qAt e.sub 0)) ∧ (headT (wT d) e.k (qAt e.sub 0)).length ≤ lenB d + 4 := by
        unfold headT
        split
        · exact ⟨.one (by decide), by simp⟩
        · split
          · exact ⟨Small.app (a := [⟨#[67, 79, 85, 78, 84]⟩, ⟨#[40]⟩]) (.two (by decide) (by decide)) (.two (by decide) (by decide)), by simp⟩
          · have hi1 : 0 < (qAt e.sub 0).items.length := by rw [hQ.items]; unfold itemN; rw [if_pos (by omega)]; decide
            obtain ⟨c, o, -, -, -, -, hx⟩ := hP.items 0 hi1
            have hI := part_ok d _ hx (hQ.allI _ (eAt_mem hi1))
            have hag : (aggS e.k).size ≤ 1000 := by unfold aggS; repeat' split
                                                    all_goals decide
            exact ⟨(Small.one hag).app (((Small.one (by decide)).app hI.1).app (.one (by decide))), by have := hI.2; simp only [List.length_append, List.length_cons, List.length_nil]; omega⟩
      rw [wOf_sub hk]
      unfold subT
      refine ⟨(((Small.app ?_ (.two (by decide) (by decide))).app hhead.1).app hfrom.1).app (.one (by decide)), ?_⟩
      · split
        · exact .one (by decide)
        · exact .nil
      · have h8 : (if e.k = 8 then [(⟨#[69, 88, 73, 83, 84, 83]⟩ : ByteArray)] else []).length ≤ 1 := by split <;> simp
        have := hhead.2
        have := hfrom.2
        simp only [List.length_append, List.length_cons, List.length_nil]
        omega
end
/-- What Expr returns. -/
def prV (d : Nat) (e : Ex) : Value := .tuple #[.string (if vE d e then joinS (wT d e) else ⟨#[]⟩), .bool (vE d e)]
set_option maxHeartbeats 2000000 in
theorem pexpr_any {N : Nat → Prop} {d : Nat} (hu : 4 ∈ ls) (hm : 8 ∈ ls) (hp : 1 ∈ ls) (hN : 5 ∈ ls) (hP : 7 ∈ ls)
    (e : Ex) (w : World) (hA : ExAt N w d e) (hE : Env ls w) (hl : (wT d e).length ≤ 100000000000) :
    Calls Tryz.prog 9 #[exV e] w fun r w' => r = .returned (prV d e) ∧ Below w.heap.size w w' := by
  have hal := below_alloc w (.cells #[.int .i64 e.k, .int .i64 e.op, .bool e.no, .int .i64 e.vk, .int .i64 e.vi, .string e.vt, .string e.tb, .string e.nm, .slice e.pa e.args.length e.ca, .slice e.ps e.sub.length e.cs] 27)
  have HX0 := Lib.hid (ExB.new w e 27)
  have HA0 := Lib.hid (hA.low hal)
  have HE0 := Lib.hid (hE.low hal)
  have HB0 := Lib.hid hal
  have HSM := Lib.hid (fun hv => (part_ok d e hA hv).1)
  have HPR := Lib.hid (show prV d e = .tuple #[.string (if vE d e then joinS (wT d e) else ⟨#[]⟩), .bool (vE d e)] from rfl)
  have hgn := hE.size
  have HV := Lib.hid (fun v => validExpr_any hu d N e v)
  have HEX := Lib.hid (expr_any (ls := ls) hm hp hN hP d)
  clear hA hE hal
  generalize hv : vE d e = V at *
  have HVV := Lib.hid hv
  clear hv
  unfold exV
  go_enter Tryz.func9, Tryz.ntmps9
  go_upto_region 1 with (fail)
  generalize World.alloc _ _ = u0 at *
  obtain ⟨xl, x0, x1, x2, x3, x4, x5, x6, x7, x8, x9, xf⟩ := HX0.out
  go_wp2_with fail
  clear xl x0 x1 x2 x3 x4 x5 x6 x7 x8 x9 xf
  refine (HV.out _ HA0.out HE0.out).mono ?_
  rintro e' u1 ⟨rfl, hb1⟩
  have HA1 := Lib.hid (HA0.out.low hb1)
  have HE1 := Lib.hid (HE0.out.low hb1)
  have HX1 := Lib.hid (HX0.out.low hb1)
  have HB1 := Lib.hid (below_next HB0.out hb1)
  clear hb1
  cases V
  · go_wp2
    go_ret2
    exact ⟨by rw [HPR.out]; rfl, HB1.out⟩
  · go_upto_region 4 with (fail)
    have HW2 := Lib.hid (WrAt.new u1)
    have hal2 := below_alloc u1 (.cells #[.slice none 0 0] 64)
    have HA2 := Lib.hid ((HA1.out.weak (M := fun c => c < u1.heap.size) fun c hc _ => hc).low hal2)
    have HE2 := Lib.hid (HE1.out.low hal2)
    have HX2 := Lib.hid (HX1.out.low hal2)
    have HB2 := Lib.hid (below_next HB1.out hal2)
    have hz1 := HB1.out.size
    clear hal2
    generalize World.alloc _ _ = u2 at *
    generalize u1.heap.size = q at *
    obtain ⟨xl, x0, x1, x2, x3, x4, x5, x6, x7, x8, x9, xf⟩ := HX2.out
    go_wp2_with fail
    clear xl x0 x1 x2 x3 x4 x5 x6 x7 x8 x9 xf
    refine (HEX.out q [] e u2 (by omega) HW2.out HE2.out HA2.out HVV.out (by simp only [List.length_nil]; omega)).mono ?_
    rintro e' u3 ⟨rfl, hf3, hw3⟩
    have HW3 : Hid (WrAt q (wT d e) u3) := Lib.hid (by rwa [List.nil_append] at hw3)
    have HB3 := Lib.hid (HB2.out.trans (hf3.below (by omega) HB2.out.size))
    clear hf3 hw3
    go_wp2_with fail
    refine (text_any q (wT d e) u3 HW3.out hl (HSM.out (by first | rfl | trivial))).mono ?_
    rintro e' u4 ⟨rfl, hb4⟩
    have HB4 := Lib.hid (below_next HB3.out hb4)
    clear hb4
    go_wp2
    go_ret2
    exact ⟨by rw [HPR.out]; rfl, HB4.out⟩
end Go.Proofs.YtlpaphgmdcpmaaaGreatDoor
/-
  An argument that is an expression, opened: a tree in memory.
-/
namespace Go.Proofs.YtlpaphgmdcpmaaaGreatDoor
set_option maxRecDepth 100000
open Go.ChangeShapes Go.WideShapes Go.ChangeAt Go.RowKit

section
variable {H : Type} {enc : TypeId × Value → H} {W : World} {v : Value} {d : DataW H} {p : List MemPlace}
/-- The cells of an expression. -/
def exL (e : Ex) : List Value := [.int .i64 e.k, .int .i64 e.op, .bool e.no, .int .i64 e.vk, .int .i64 e.vi, .string e.vt, .string e.tb, .string e.nm, .slice e.pa e.args.length e.ca, .slice e.ps e.sub.length e.cs]
def quL (q : Qu) : List Value := [.bool q.st, .slice q.pi q.items.length q.ci, .string q.fr, .slice q.pw q.wh.length q.cw]
theorem list_ten {l : List Value} (h : l.length = 10) : ∃ a b c d e f g i j k, l = [a, b, c, d, e, f, g, i, j, k] := by
  match l, h with
  | [a, b, c, d, e, f, g, i, j, k], _ => exact ⟨a, b, c, d, e, f, g, i, j, k, rfl⟩
theorem list_four {l : List Value} (h : l.length = 4) : ∃ a b c d, l = [a, b, c, d] := by
  match l, h with
  | [a, b, c, d], _ => exact ⟨a, b, c, d, rfl⟩
theorem list_some {α : Type} {P : Nat → α → Prop} {n : Nat} (h : ∀ i, i < n → ∃ x, P i x) : ∃ l : List α, l.length = n ∧ ∀ i (hi : i < l.length), P i l[i] := by
  induction n with
  | zero => exact ⟨[], rfl, fun i hi => by simp at hi⟩
  | succ n ih =>
    obtain ⟨l, hl, hP⟩ := ih fun i hi => h i (by omega)
    obtain ⟨x, hx⟩ := h n (by omega)
    refine ⟨l ++ [x], by simp [hl], fun i hi => ?_⟩
    rw [List.length_append, List.length_singleton] at hi
    by_cases hin : i < l.length
    · rw [List.getElem_append_left hin]; exact hP i hin
    · obtain rfl : i = l.length := by omega
      rw [List.getElem_append_right (Nat.le_refl _)]
      simpa [hl] using hx
theorem add_add (c o x y : Nat) : ((⟨c, o, none⟩ : Addr).add x).add y = ⟨c, o + x + y, none⟩ := by
  unfold Addr.add
  split <;> split <;> simp_all
/-- A slice whose elements have m cells, each read as something. -/
theorem open_list {α : Type} {e t : TypeId} {f m : Nat} {v : Value} {y : DataW H × List MemPlace} {Q : α → List Value → Prop} (hu : Tryz.prog.underlying t = some (.slice e)) (hc : Tryz.prog.cellsOf e = m) (hm : 0 < m)
    (hQ : ∀ f' cs y, f' < f → DataW.trod enc Tryz.prog W 0 (fun _ => true) true f' e cs = some y → ∃ x, Q x cs) (h : DataW.trod enc Tryz.prog W 0 (fun _ => true) true f t [v] = some y) :
    ∃ (a : Option Addr) (l : List α) (cap : Nat), v = .slice a l.length cap ∧ l.length ≤ cap ∧ l.length ≤ 9223372036854775807 ∧ ∀ i (hi : i < l.length), ∃ c o cs, a = some ⟨c, o, none⟩ ∧ c < W.heap.size ∧ cs.length = m ∧ (∀ j, j < m → W.cell? ⟨c, o + i * m + j, none⟩ = cs[j]?) ∧ Q l[i] cs := by
  rcases DataW.trod_slice hu h with ⟨hcs, -⟩ | ⟨a, len, cap, elems, rest, n, hf, hcs, -, -, hl, hcap, hlen, hel, -, -⟩
  · simp only [List.cons.injEq, and_true] at hcs
    subst hcs
    exact ⟨none, [], 0, rfl, Nat.le_refl _, Nat.zero_le _, fun i hi => by simp at hi⟩
  · simp only [List.cons.injEq, and_true] at hcs
    subst hcs
    have hone : ∀ i, i < len → ∃ x : α, ∃ cs, cs.length = m ∧ (∀ j, j < m → W.cell? ((a.add (i * m)).add j) = cs[j]?) ∧ Q x cs := by
      intro i hi
      have h1 := hel i hi
      rw [List.getElem?_eq_getElem (by omega), Option.bind_eq_some_iff] at h1
      obtain ⟨cs, hcs, ht⟩ := h1
      rw [hc] at hcs
      obtain ⟨_, hcl, hat⟩ := World.cells?_some hcs
      obtain ⟨x, hx⟩ := hQ n cs _ (by omega) ht
      refine ⟨x, cs, hcl, fun j hj => ?_, hx⟩
      exact hat j (by omega)
    obtain ⟨l, hll, hP⟩ := list_some hone
    refine ⟨some a, l, cap, by rw [hll], by omega, by unfold maxLen at hcap; omega, fun i hi => ?_⟩
    obtain ⟨cs, h1, h2, h3⟩ := hP i hi
    obtain ⟨c, o, sp⟩ := a
    have h0 := h2 0 hm
    rw [List.getElem?_eq_getElem (by omega)] at h0
    obtain rfl : sp = none := by
      obtain ⟨cs', g1, g2, -⟩ := hP 0 (by omega)
      have g0 := g2 0 hm
      rw [List.getElem?_eq_getElem (by omega), Nat.zero_mul] at g0
      have := World.cell?_spot g0
      simpa [Addr.add] using this
    refine ⟨c, o, cs, rfl, ?_, h1, fun j hj => ?_, h3⟩
    · rw [add_add] at h0
      exact World.block_lt_of_cell? W _ h0
    · rw [← add_add]; exact h2 j hj
theorem exC_of {c o : Nat} {e : Ex} {cs : List Value} (h : ∀ j, j < 10 → W.cell? ⟨c, o + j, none⟩ = cs[j]?) (he : cs = exL e) : ExC W c o e := by
  subst he
  exact ⟨h 0 (by decide), h 1 (by decide), h 2 (by decide), h 3 (by decide), h 4 (by decide), h 5 (by decide), h 6 (by decide), h 7 (by decide), h 8 (by decide), h 9 (by decide)⟩
theorem quC_of {c o : Nat} {e : Qu} {cs : List Value} (h : ∀ j, j < 4 → W.cell? ⟨c, o + j, none⟩ = cs[j]?) (he : cs = quL e) : QuC W c o e := by
  subst he
  exact ⟨h 0 (by decide), h 1 (by decide), h 2 (by decide), h 3 (by decide)⟩
theorem qAt_get {l : List Qu} {i : Nat} (h : i < l.length) : qAt l i = l[i] := by
  unfold qAt; rw [List.getD, List.getElem?_eq_getElem h]; rfl
/-- A slice of expressions, a slice of queries. -/
theorem open_exs {f d : Nat} {v : Value} {y : DataW H × List MemPlace} (ih : ∀ f' cs y, f' < f → DataW.trod enc Tryz.prog W 0 (fun _ => true) true f' 27 cs = some y → ∃ E, cs = exL E ∧ ExAt (fun _ => True) W d E)
    (h : DataW.trod enc Tryz.prog W 0 (fun _ => true) true f 24 [v] = some y) :
    ∃ (a : Option Addr) (l : List Ex) (cap : Nat), v = .slice a l.length cap ∧ l.length ≤ cap ∧ l.length ≤ 9223372036854775807 ∧ LAt (fun _ => True) W (ExAt (fun _ => True) W d) a l := by
  obtain ⟨a, l, cap, hv, hc, hm, hl⟩ := open_list (Q := fun E cs => cs = exL E ∧ ExAt (fun _ => True) W d E) Tryz.underlying24 (show Tryz.prog.cellsOf 27 = 10 by kernel_rfl) (by decide) ih h
  refine ⟨a, l, cap, hv, hc, hm, fun i hi => ?_⟩
  obtain ⟨c, o, cs, h1, h2, -, h4, h5, h6⟩ := hl i hi
  rw [eAt_get hi]
  exact ⟨c, o, h1, h2, trivial, exC_of h4 h5, h6⟩
theorem open_qus {f d : Nat} {v : Value} {y : DataW H × List MemPlace} (ih : ∀ f' cs y, f' < f → DataW.trod enc Tryz.prog W 0 (fun _ => true) true f' 53 cs = some y → ∃ q, cs = quL q ∧ QuIn (fun _ => True) W (ExAt (fun _ => True) W d) q)
    (h : DataW.trod enc Tryz.prog W 0 (fun _ => true) true f 25 [v] = some y) :
    ∃ (a : Option Addr) (l : List Qu) (cap : Nat), v = .slice a l.length cap ∧ l.length ≤ cap ∧ l.length ≤ 9223372036854775807 ∧ QAt (fun _ => True) W (ExAt (fun _ => True) W d) a l := by
  obtain ⟨a, l, cap, hv, hc, hm, hl⟩ := open_list (Q := fun q cs => cs = quL q ∧ QuIn (fun _ => True) W (ExAt (fun _ => True) W d) q) Tryz.underlying25 (show Tryz.prog.cellsOf 53 = 4 by kernel_rfl) (by decide) ih h
  refine ⟨a, l, cap, hv, hc, hm, fun i hi => ?_⟩
  obtain ⟨c, o, cs, h1, h2, -, h4, h5, h6⟩ := hl i hi
  rw [qAt_get hi]
  exact ⟨c, o, h1, h2, trivial, quC_of h4 h5, h6⟩
set_option maxRecDepth 100000 in
theorem open_qu {f d : Nat} {cs : List Value} {y : DataW H × List MemPlace} (ih : ∀ f' cs y, f' < f → DataW.trod enc Tryz.prog W 0 (fun _ => true) true f' 27 cs = some y → ∃ E, cs = exL E ∧ ExAt (fun _ => True) W d E)
    (h : DataW.trod enc Tryz.prog W 0 (fun _ => true) true f 53 cs = some y) : ∃ q, cs = quL q ∧ QuIn (fun _ => True) W (ExAt (fun _ => True) W d) q := by
  obtain ⟨xs, n, rfl, -, hl, hlen, hf⟩ := DataW.trod_struct Tryz.underlying53 h
  rw [show Tryz.prog.cellsOf 53 = 4 by kernel_rfl] at hl
  obtain ⟨v0, v1, v2, v3, rfl⟩ := list_four hl
  have hz : xs.length = 4 := hlen
  have b1 : Tryz.prog.cellsOf 4 = 1 := by kernel_rfl
  have b2 : Tryz.prog.cellsOf 24 = 1 := by kernel_rfl
  have b3 : Tryz.prog.cellsOf 9 = 1 := by kernel_rfl
  have g0 : DataW.trod enc Tryz.prog W 0 (fun _ => true) true n 4 (([v0, v1, v2, v3].drop 0).take (Tryz.prog.cellsOf 4)) = xs[0]? := hf 0 _ rfl
  have g1 : DataW.trod enc Tryz.prog W 0 (fun _ => true) true n 24 (([v0, v1, v2, v3].drop 1).take (Tryz.prog.cellsOf 24)) = xs[1]? := hf 1 _ rfl
  have g2 : DataW.trod enc Tryz.prog W 0 (fun _ => true) true n 9 (([v0, v1, v2, v3].drop 2).take (Tryz.prog.cellsOf 9)) = xs[2]? := hf 2 _ rfl
  have g3 : DataW.trod enc Tryz.prog W 0 (fun _ => true) true n 24 (([v0, v1, v2, v3].drop 3).take (Tryz.prog.cellsOf 24)) = xs[3]? := hf 3 _ rfl
  clear hf
  rw [b1, List.getElem?_eq_getElem (by omega)] at g0
  rw [b2, List.getElem?_eq_getElem (by omega)] at g1
  rw [b3, List.getElem?_eq_getElem (by omega)] at g2
  rw [b2, List.getElem?_eq_getElem (by omega)] at g3
  simp only [List.drop_zero, List.drop_succ_cons, List.take_succ_cons, List.take_zero] at g0 g1 g2 g3
  obtain ⟨s, e0, -⟩ := DataW.trod_bool Tryz.underlying4 g0
  obtain ⟨pi, items, ci, rfl, -, m1, hi⟩ := open_exs (fun f' cs y hf => ih f' cs y (by omega)) g1
  obtain ⟨fr, e2, -, w2⟩ := DataW.trod_string Tryz.underlying9 g2
  obtain ⟨pw, wh, cw, rfl, -, m3, hw⟩ := open_exs (fun f' cs y hf => ih f' cs y (by omega)) g3
  simp only [List.cons.injEq, and_true] at e0 e2
  subst e0 e2
  exact ⟨⟨s, pi, ci, items, fr, pw, cw, wh⟩, rfl, w2, m1, m3, hi, hw⟩
set_option maxRecDepth 100000 in
/-- An expression that was read is a tree in memory. -/
theorem open_tree : ∀ (f : Nat) (cs : List Value) (y : DataW H × List MemPlace), DataW.trod enc Tryz.prog W 0 (fun _ => true) true f 27 cs = some y → ∃ E, cs = exL E ∧ ExAt (fun _ => True) W f E := by
  intro f
  induction f using Nat.strongRecOn with
  | ind f ih =>
    intro cs y h
    obtain ⟨xs, n, rfl, -, hl, hlen, hf⟩ := DataW.trod_struct Tryz.underlying27 h
    rw [show Tryz.prog.cellsOf 27 = 10 by kernel_rfl] at hl
    obtain ⟨v0, v1, v2, v3, v4, v5, v6, v7, v8, v9, rfl⟩ := list_ten hl
    have hz : xs.length = 8 := hlen
    have b1 : Tryz.prog.cellsOf 3 = 1 := by kernel_rfl
    have b2 : Tryz.prog.cellsOf 4 = 1 := by kernel_rfl
    have b3 : Tryz.prog.cellsOf 23 = 3 := by kernel_rfl
    have b4 : Tryz.prog.cellsOf 9 = 1 := by kernel_rfl
    have b5 : Tryz.prog.cellsOf 24 = 1 := by kernel_rfl
    have b6 : Tryz.prog.cellsOf 25 = 1 := by kernel_rfl
    have b7 : Tryz.prog.cellsOf 2 = 1 := by kernel_rfl
    have g0 : DataW.trod enc Tryz.prog W 0 (fun _ => true) true n 3 (([v0, v1, v2, v3, v4, v5, v6, v7, v8, v9].drop 0).take (Tryz.prog.cellsOf 3)) = xs[0]? := hf 0 _ rfl
    have g1 : DataW.trod enc Tryz.prog W 0 (fun _ => true) true n 3 (([v0, v1, v2, v3, v4, v5, v6, v7, v8, v9].drop 1).take (Tryz.prog.cellsOf 3)) = xs[1]? := hf 1 _ rfl
    have g2 : DataW.trod enc Tryz.prog W 0 (fun _ => true) true n 4 (([v0, v1, v2, v3, v4, v5, v6, v7, v8, v9].drop 2).take (Tryz.prog.cellsOf 4)) = xs[2]? := hf 2 _ rfl
    have g3 : DataW.trod enc Tryz.prog W 0 (fun _ => true) true n 23 (([v0, v1, v2, v3, v4, v5, v6, v7, v8, v9].drop 3).take (Tryz.prog.cellsOf 23)) = xs[3]? := hf 3 _ rfl
    have g4 : DataW.trod enc Tryz.prog W 0 (fun _ => true) true n 9 (([v0, v1, v2, v3, v4, v5, v6, v7, v8, v9].drop 6).take (Tryz.prog.cellsOf 9)) = xs[4]? := hf 4 _ rfl
    have g5 : DataW.trod enc Tryz.prog W 0 (fun _ => true) true n 9 (([v0, v1, v2, v3, v4, v5, v6, v7, v8, v9].drop 7).take (Tryz.prog.cellsOf 9)) = xs[5]? := hf 5 _ rfl
    have g6 : DataW.trod enc Tryz.prog W 0 (fun _ => true) true n 24 (([v0, v1, v2, v3, v4, v5, v6, v7, v8, v9].drop 8).take (Tryz.prog.cellsOf 24)) = xs[6]? := hf 6 _ rfl
    have g7 : DataW.trod enc Tryz.prog W 0 (fun _ => true) true n 25 (([v0, v1, v2, v3, v4, v5, v6, v7, v8, v9].drop 9).take (Tryz.prog.cellsOf 25)) = xs[7]? := hf 7 _ rfl
    clear hf
    rw [b1, List.getElem?_eq_getElem (by omega)] at g0 g1
    rw [b2, List.getElem?_eq_getElem (by omega)] at g2
    rw [b3, List.getElem?_eq_getElem (by omega)] at g3
    rw [b4, List.getElem?_eq_getElem (by omega)] at g4 g5
    rw [b5, List.getElem?_eq_getElem (by omega)] at g6
    rw [b6, List.getElem?_eq_getElem (by omega)] at g7
    simp only [List.drop_zero, List.drop_succ_cons, List.take_succ_cons, List.take_zero] at g0 g1 g2 g3 g4 g5 g6 g7
    obtain ⟨k, e0, -, -⟩ := DataW.trod_int Tryz.underlying3 g0
    obtain ⟨op, e1, -, -⟩ := DataW.trod_int Tryz.underlying3 g1
    obtain ⟨no, e2, -⟩ := DataW.trod_bool Tryz.underlying4 g2
    obtain ⟨z0, z1, z2, n', -, -, j0, j1, j2⟩ := Go.Deep.trod_struct3 Tryz.underlying23 g3
    have j0 : DataW.trod enc Tryz.prog W 0 (fun _ => true) true n' 3 (([v3, v4, v5].drop 0).take (Tryz.prog.cellsOf 3)) = some z0 := j0
    have j1 : DataW.trod enc Tryz.prog W 0 (fun _ => true) true n' 2 (([v3, v4, v5].drop 1).take (Tryz.prog.cellsOf 2)) = some z1 := j1
    have j2 : DataW.trod enc Tryz.prog W 0 (fun _ => true) true n' 9 (([v3, v4, v5].drop 2).take (Tryz.prog.cellsOf 9)) = some z2 := j2
    rw [b1] at j0
    rw [b7] at j1
    rw [b4] at j2
    simp only [List.drop_zero, List.drop_succ_cons, List.take_succ_cons, List.take_zero] at j0 j1 j2
    obtain ⟨vk, e3, -, -⟩ := DataW.trod_int Tryz.underlying3 j0
    obtain ⟨vi, e4, -, w4⟩ := DataW.trod_int Tryz.underlying2 j1
    obtain ⟨vt, e5, -, w5⟩ := DataW.trod_string Tryz.underlying9 j2
    obtain ⟨tb, e6, -, w6⟩ := DataW.trod_string Tryz.underlying9 g4
    obtain ⟨nm, e7, -, w7⟩ := DataW.trod_string Tryz.underlying9 g5
    have ihn : ∀ f' cs y, f' < n → DataW.trod enc Tryz.prog W 0 (fun _ => true) true f' 27 cs = some y → ∃ E, cs = exL E ∧ ExAt (fun _ => True) W n E := fun f' cs y hf ht => by
      obtain ⟨E, h1, h2⟩ := ih f' (by omega) cs y ht
      exact ⟨E, h1, h2.upto (by omega)⟩
    obtain ⟨pa, args, ca, rfl, -, m6, ha⟩ := open_exs ihn g6
    obtain ⟨ps, sub, cs, rfl, -, m7, hs⟩ := open_qus (fun f' cs y hf ht => open_qu (d := n) (fun f2 cs y hf2 => ihn f2 cs y (by omega)) ht) g7
    simp only [List.cons.injEq, and_true] at e0 e1 e2 e3 e4 e5 e6 e7
    subst e0 e1 e2 e3 e4 e5 e6 e7
    exact ⟨.mk k op no vk vi vt tb nm pa ca args ps cs sub, rfl, ⟨w5, w6, w7, m6, m7, ha, hs, bounds_i64 w4⟩⟩
/-- An argument that is an expression. -/
theorem open_expr (hv : ∃ b, Value.okWide Tryz.prog W .any b 27 v) (h : DataW.Trod enc Tryz.prog W 0 (fun _ => true) true 27 v d p) :
    ∃ (E : Ex) (D : Nat), v = exV E ∧ ExAt (fun _ => True) W D E := by
  obtain ⟨b, hv⟩ := hv
  obtain ⟨cs, rfl, hsz⟩ := okWide_struct Tryz.underlying27 hv
  obtain ⟨fuel, hf⟩ := h
  obtain ⟨E, h1, h2⟩ := open_tree fuel _ _ hf
  refine ⟨E, fuel, ?_, h2⟩
  obtain ⟨cs⟩ := cs
  have : cs = exL E := h1
  rw [this]; rfl
end
end Go.Proofs.YtlpaphgmdcpmaaaGreatDoor
/-
  An argument that is an expression, opened: a tree in memory whose depth is at most the datum's bulk.
-/
namespace Go.Proofs.YtlpaphgmdcpmaaaGreatDoor
set_option maxRecDepth 100000
open Go.ChangeShapes Go.WideShapes Go.ChangeAt Go.RowKit

section
variable {H : Type} {enc : TypeId × Value → H} {W : World} {v : Value} {d : DataW H} {p : List MemPlace}
theorem bulk_mem {l : List (DataW H)} {x : DataW H} (h : x ∈ l) : Rows.uptoBulk x ≤ Rows.uptoBulkAll l := by
  induction l with
  | nil => cases h
  | cons a l ih =>
    rw [Rows.uptoBulkAll]
    rcases List.mem_cons.1 h with rfl | h
    · omega
    · have := ih h; omega
theorem bulk_elem {y : DataW H × List MemPlace} {elems rest : List (DataW H × List MemPlace)} {pl : List MemPlace} (hy : y = (.slice (elems.map (·.1)) (rest.map (·.1)), pl)) {x : DataW H × List MemPlace} (h : x ∈ elems) : Rows.uptoBulk x.1 < Rows.uptoBulk y.1 := by
  rw [hy]
  have := bulk_mem (List.mem_map_of_mem (f := (·.1)) h)
  simp only [Rows.uptoBulk]
  omega
theorem bulk_part {y : DataW H × List MemPlace} {xs : List (DataW H × List MemPlace)} {pl : List MemPlace} (hy : y = (.agg (xs.map (·.1)), pl)) {x : DataW H × List MemPlace} {i : Nat} (h : xs[i]? = some x) : Rows.uptoBulk x.1 ≤ Rows.uptoBulkAll (xs.map (·.1)) ∧ Rows.uptoBulk y.1 = Rows.uptoBulkAll (xs.map (·.1)) + 1 := by
  rw [hy]
  exact ⟨bulk_mem (List.mem_map_of_mem (f := (·.1)) (List.mem_of_getElem? h)), by simp only [Rows.uptoBulk]⟩
/-- A slice whose elements have m cells, each read as something. -/
theorem open_listB {α : Type} {e t : TypeId} {f m : Nat} {v : Value} {y : DataW H × List MemPlace} {Q : α → List Value → Prop} (hu : Tryz.prog.underlying t = some (.slice e)) (hc : Tryz.prog.cellsOf e = m) (hm : 0 < m)
    (hQ : ∀ f' cs y', f' < f → Rows.uptoBulk y'.1 < Rows.uptoBulk y.1 → DataW.trod enc Tryz.prog W 0 (fun _ => true) true f' e cs = some y' → ∃ x, Q x cs) (h : DataW.trod enc Tryz.prog W 0 (fun _ => true) true f t [v] = some y) :
    ∃ (a : Option Addr) (l : List α) (cap : Nat), v = .slice a l.length cap ∧ l.length ≤ cap ∧ l.length ≤ 9223372036854775807 ∧ ∀ i (hi : i < l.length), ∃ c o cs, a = some ⟨c, o, none⟩ ∧ c < W.heap.size ∧ cs.length = m ∧ (∀ j, j < m → W.cell? ⟨c, o + i * m + j, none⟩ = cs[j]?) ∧ Q l[i] cs := by
  rcases DataW.trod_slice hu h with ⟨hcs, -⟩ | ⟨a, len, cap, elems, rest, n, hf, hcs, hy, -, hl, hcap, hlen, hel, -, -⟩
  · simp only [List.cons.injEq, and_true] at hcs
    subst hcs
    exact ⟨none, [], 0, rfl, Nat.le_refl _, Nat.zero_le _, fun i hi => by simp at hi⟩
  · simp only [List.cons.injEq, and_true] at hcs
    subst hcs
    have hone : ∀ i, i < len → ∃ x : α, ∃ cs, cs.length = m ∧ (∀ j, j < m → W.cell? ((a.add (i * m)).add j) = cs[j]?) ∧ Q x cs := by
      intro i hi
      have h1 := hel i hi
      rw [List.getElem?_eq_getElem (by omega), Option.bind_eq_some_iff] at h1
      obtain ⟨cs, hcs, ht⟩ := h1
      rw [hc] at hcs
      obtain ⟨_, hcl, hat⟩ := World.cells?_some hcs
      obtain ⟨x, hx⟩ := hQ n cs _ (by omega) (bulk_elem hy (List.getElem_mem _)) ht
      refine ⟨x, cs, hcl, fun j hj => ?_, hx⟩
      exact hat j (by omega)
    obtain ⟨l, hll, hP⟩ := list_some hone
    refine ⟨some a, l, cap, by rw [hll], by omega, by unfold maxLen at hcap; omega, fun i hi => ?_⟩
    obtain ⟨cs, h1, h2, h3⟩ := hP i hi
    obtain ⟨c, o, sp⟩ := a
    have h0 := h2 0 hm
    rw [List.getElem?_eq_getElem (by omega)] at h0
    obtain rfl : sp = none := by
      obtain ⟨cs', g1, g2, -⟩ := hP 0 (by omega)
      have g0 := g2 0 hm
      rw [List.getElem?_eq_getElem (by omega), Nat.zero_mul] at g0
      have := World.cell?_spot g0
      simpa [Addr.add] using this
    refine ⟨c, o, cs, rfl, ?_, h1, fun j hj => ?_, h3⟩
    · rw [add_add] at h0
      exact World.block_lt_of_cell? W _ h0
    · rw [← add_add]; exact h2 j hj
/-- A slice of expressions, a slice of queries. -/
theorem open_exsB {f : Nat} {v : Value} {y : DataW H × List MemPlace} (ih : ∀ f' cs y', f' < f → Rows.uptoBulk y'.1 < Rows.uptoBulk y.1 → DataW.trod enc Tryz.prog W 0 (fun _ => true) true f' 27 cs = some y' → ∃ E, cs = exL E ∧ ExAt (fun _ => True) W (Rows.uptoBulk y'.1) E)
    (h : DataW.trod enc Tryz.prog W 0 (fun _ => true) true f 24 [v] = some y) :
    ∃ (a : Option Addr) (l : List Ex) (cap : Nat), v = .slice a l.length cap ∧ l.length ≤ cap ∧ l.length ≤ 9223372036854775807 ∧ LAt (fun _ => True) W (ExAt (fun _ => True) W (Rows.uptoBulk y.1)) a l := by
  obtain ⟨a, l, cap, hv, hc, hm, hl⟩ := open_listB (y := y) (Q := fun E cs => cs = exL E ∧ ExAt (fun _ => True) W (Rows.uptoBulk y.1) E) Tryz.underlying24 (show Tryz.prog.cellsOf 27 = 10 by kernel_rfl) (by decide) (fun f' cs y' hf hb ht => by
    obtain ⟨E, h1, h2⟩ := ih f' cs y' hf hb ht
    exact ⟨E, h1, h2.upto (by omega)⟩) h
  refine ⟨a, l, cap, hv, hc, hm, fun i hi => ?_⟩
  obtain ⟨c, o, cs, h1, h2, -, h4, h5, h6⟩ := hl i hi
  rw [eAt_get hi]
  exact ⟨c, o, h1, h2, trivial, exC_of h4 h5, h6⟩
theorem QuIn.upto {N : Nat → Prop} {w : World} {d D : Nat} {q : Qu} (h : QuIn N w (ExAt N w d) q) (hd : d ≤ D) : QuIn N w (ExAt N w D) q := h.keep (Nat.le_refl _) (fun _ _ hn => ⟨rfl, hn⟩) fun _ hx => hx.upto hd
theorem open_qusB {f : Nat} {v : Value} {y : DataW H × List MemPlace} (ih : ∀ f' cs y', f' < f → Rows.uptoBulk y'.1 < Rows.uptoBulk y.1 → DataW.trod enc Tryz.prog W 0 (fun _ => true) true f' 53 cs = some y' → ∃ q, cs = quL q ∧ QuIn (fun _ => True) W (ExAt (fun _ => True) W (Rows.uptoBulk y'.1)) q)
    (h : DataW.trod enc Tryz.prog W 0 (fun _ => true) true f 25 [v] = some y) :
    ∃ (a : Option Addr) (l : List Qu) (cap : Nat), v = .slice a l.length cap ∧ l.length ≤ cap ∧ l.length ≤ 9223372036854775807 ∧ QAt (fun _ => True) W (ExAt (fun _ => True) W (Rows.uptoBulk y.1)) a l := by
  obtain ⟨a, l, cap, hv, hc, hm, hl⟩ := open_listB (y := y) (Q := fun q cs => cs = quL q ∧ QuIn (fun _ => True) W (ExAt (fun _ => True) W (Rows.uptoBulk y.1)) q) Tryz.underlying25 (show Tryz.prog.cellsOf 53 = 4 by kernel_rfl) (by decide) (fun f' cs y' hf hb ht => by
    obtain ⟨q, h1, h2⟩ := ih f' cs y' hf hb ht
    exact ⟨q, h1, h2.upto (by omega)⟩) h
  refine ⟨a, l, cap, hv, hc, hm, fun i hi => ?_⟩
  obtain ⟨c, o, cs, h1, h2, -, h4, h5, h6⟩ := hl i hi
  rw [qAt_get hi]
  exact ⟨c, o, h1, h2, trivial, quC_of h4 h5, h6⟩
set_option maxRecDepth 100000 in
theorem open_quB {f : Nat} {cs : List Value} {y : DataW H × List MemPlace} (ih : ∀ f' cs y', f' < f → Rows.uptoBulk y'.1 < Rows.uptoBulk y.1 → DataW.trod enc Tryz.prog W 0 (fun _ => true) true f' 27 cs = some y' → ∃ E, cs = exL E ∧ ExAt (fun _ => True) W (Rows.uptoBulk y'.1) E)
    (h : DataW.trod enc Tryz.prog W 0 (fun _ => true) true f 53 cs = some y) : ∃ q, cs = quL q ∧ QuIn (fun _ => True) W (ExAt (fun _ => True) W (Rows.uptoBulk y.1)) q := by
  obtain ⟨xs, n, rfl, hy, hl, hlen, hf⟩ := DataW.trod_struct Tryz.underlying53 h
  rw [show Tryz.prog.cellsOf 53 = 4 by kernel_rfl] at hl
  obtain ⟨v0, v1, v2, v3, rfl⟩ := list_four hl
  have hz : xs.length = 4 := hlen
  have b1 : Tryz.prog.cellsOf 4 = 1 := by kernel_rfl
  have b2 : Tryz.prog.cellsOf 24 = 1 := by kernel_rfl
  have b3 : Tryz.prog.cellsOf 9 = 1 := by kernel_rfl
  have g0 : DataW.trod enc Tryz.prog W 0 (fun _ => true) true n 4 (([v0, v1, v2, v3].drop 0).take (Tryz.prog.cellsOf 4)) = xs[0]? := hf 0 _ rfl
  have g1 : DataW.trod enc Tryz.prog W 0 (fun _ => true) true n 24 (([v0, v1, v2, v3].drop 1).take (Tryz.prog.cellsOf 24)) = xs[1]? := hf 1 _ rfl
  have g2 : DataW.trod enc Tryz.prog W 0 (fun _ => true) true n 9 (([v0, v1, v2, v3].drop 2).take (Tryz.prog.cellsOf 9)) = xs[2]? := hf 2 _ rfl
  have g3 : DataW.trod enc Tryz.prog W 0 (fun _ => true) true n 24 (([v0, v1, v2, v3].drop 3).take (Tryz.prog.cellsOf 24)) = xs[3]? := hf 3 _ rfl
  clear hf
  rw [b1, List.getElem?_eq_getElem (by omega)] at g0
  rw [b2, List.getElem?_eq_getElem (by omega)] at g1
  rw [b3, List.getElem?_eq_getElem (by omega)] at g2
  rw [b2, List.getElem?_eq_getElem (by omega)] at g3
  simp only [List.drop_zero, List.drop_succ_cons, List.take_succ_cons, List.take_zero] at g0 g1 g2 g3
  obtain ⟨s, e0, -⟩ := DataW.trod_bool Tryz.underlying4 g0
  obtain ⟨p1, p0⟩ := bulk_part hy (List.getElem?_eq_getElem (show 1 < xs.length by omega))
  obtain ⟨p3, -⟩ := bulk_part hy (List.getElem?_eq_getElem (show 3 < xs.length by omega))
  obtain ⟨pi, items, ci, rfl, -, m1, hi⟩ := open_exsB (fun f' cs y' hf hb => ih f' cs y' (by omega) (by omega)) g1
  obtain ⟨fr, e2, -, w2⟩ := DataW.trod_string Tryz.underlying9 g2
  obtain ⟨pw, wh, cw, rfl, -, m3, hw⟩ := open_exsB (fun f' cs y' hf hb => ih f' cs y' (by omega) (by omega)) g3
  simp only [List.cons.injEq, and_true] at e0 e2
  subst e0 e2
  exact ⟨⟨s, pi, ci, items, fr, pw, cw, wh⟩, rfl, w2, m1, m3, hi.more (by omega), hw.more (by omega)⟩
set_option maxRecDepth 100000 in
/-- An expression that was read is a tree in memory. -/
theorem open_treeB : ∀ (f : Nat) (cs : List Value) (y : DataW H × List MemPlace), DataW.trod enc Tryz.prog W 0 (fun _ => true) true f 27 cs = some y → ∃ E, cs = exL E ∧ ExAt (fun _ => True) W (Rows.uptoBulk y.1) E := by
  intro f
  induction f using Nat.strongRecOn with
  | ind f ih =>
    intro cs y h
    obtain ⟨xs, n, rfl, hy, hl, hlen, hf⟩ := DataW.trod_struct Tryz.underlying27 h
    rw [show Tryz.prog.cellsOf 27 = 10 by kernel_rfl] at hl
    obtain ⟨v0, v1, v2, v3, v4, v5, v6, v7, v8, v9, rfl⟩ := list_ten hl
    have hz : xs.length = 8 := hlen
    have b1 : Tryz.prog.cellsOf 3 = 1 := by kernel_rfl
    have b2 : Tryz.prog.cellsOf 4 = 1 := by kernel_rfl
    have b3 : Tryz.prog.cellsOf 23 = 3 := by kernel_rfl
    have b4 : Tryz.prog.cellsOf 9 = 1 := by kernel_rfl
    have b5 : Tryz.prog.cellsOf 24 = 1 := by kernel_rfl
    have b6 : Tryz.prog.cellsOf 25 = 1 := by kernel_rfl
    have b7 : Tryz.prog.cellsOf 2 = 1 := by kernel_rfl
    have g0 : DataW.trod enc Tryz.prog W 0 (fun _ => true) true n 3 (([v0, v1, v2, v3, v4, v5, v6, v7, v8, v9].drop 0).take (Tryz.prog.cellsOf 3)) = xs[0]? := hf 0 _ rfl
    have g1 : DataW.trod enc Tryz.prog W 0 (fun _ => true) true n 3 (([v0, v1, v2, v3, v4, v5, v6, v7, v8, v9].drop 1).take (Tryz.prog.cellsOf 3)) = xs[1]? := hf 1 _ rfl
    have g2 : DataW.trod enc Tryz.prog W 0 (fun _ => true) true n 4 (([v0, v1, v2, v3, v4, v5, v6, v7, v8, v9].drop 2).take (Tryz.prog.cellsOf 4)) = xs[2]? := hf 2 _ rfl
    have g3 : DataW.trod enc Tryz.prog W 0 (fun _ => true) true n 23 (([v0, v1, v2, v3, v4, v5, v6, v7, v8, v9].drop 3).take (Tryz.prog.cellsOf 23)) = xs[3]? := hf 3 _ rfl
    have g4 : DataW.trod enc Tryz.prog W 0 (fun _ => true) true n 9 (([v0, v1, v2, v3, v4, v5, v6, v7, v8, v9].drop 6).take (Tryz.prog.cellsOf 9)) = xs[4]? := hf 4 _ rfl
    have g5 : DataW.trod enc Tryz.prog W 0 (fun _ => true) true n 9 (([v0, v1, v2, v3, v4, v5, v6, v7, v8, v9].drop 7).take (Tryz.prog.cellsOf 9)) = xs[5]? := hf 5 _ rfl
    have g6 : DataW.trod enc Tryz.prog W 0 (fun _ => true) true n 24 (([v0, v1, v2, v3, v4, v5, v6, v7, v8, v9].drop 8).take (Tryz.prog.cellsOf 24)) = xs[6]? := hf 6 _ rfl
    have g7 : DataW.trod enc Tryz.prog W 0 (fun _ => true) true n 25 (([v0, v1, v2, v3, v4, v5, v6, v7, v8, v9].drop 9).take (Tryz.prog.cellsOf 25)) = xs[7]? := hf 7 _ rfl
    clear hf
    rw [b1, List.getElem?_eq_getElem (by omega)] at g0 g1
    rw [b2, List.getElem?_eq_getElem (by omega)] at g2
    rw [b3, List.getElem?_eq_getElem (by omega)] at g3
    rw [b4, List.getElem?_eq_getElem (by omega)] at g4 g5
    rw [b5, List.getElem?_eq_getElem (by omega)] at g6
    rw [b6, List.getElem?_eq_getElem (by omega)] at g7
    simp only [List.drop_zero, List.drop_succ_cons, List.take_succ_cons, List.take_zero] at g0 g1 g2 g3 g4 g5 g6 g7
    obtain ⟨k, e0, -, -⟩ := DataW.trod_int Tryz.underlying3 g0
    obtain ⟨op, e1, -, -⟩ := DataW.trod_int Tryz.underlying3 g1
    obtain ⟨no, e2, -⟩ := DataW.trod_bool Tryz.underlying4 g2
    obtain ⟨z0, z1, z2, n', -, -, j0, j1, j2⟩ := Go.Deep.trod_struct3 Tryz.underlying23 g3
    have j0 : DataW.trod enc Tryz.prog W 0 (fun _ => true) true n' 3 (([v3, v4, v5].drop 0).take (Tryz.prog.cellsOf 3)) = some z0 := j0
    have j1 : DataW.trod enc Tryz.prog W 0 (fun _ => true) true n' 2 (([v3, v4, v5].drop 1).take (Tryz.prog.cellsOf 2)) = some z1 := j1
    have j2 : DataW.trod enc Tryz.prog W 0 (fun _ => true) true n' 9 (([v3, v4, v5].drop 2).take (Tryz.prog.cellsOf 9)) = some z2 := j2
    rw [b1] at j0
    rw [b7] at j1
    rw [b4] at j2
    simp only [List.drop_zero, List.drop_succ_cons, List.take_succ_cons, List.take_zero] at j0 j1 j2
    obtain ⟨vk, e3, -, -⟩ := DataW.trod_int Tryz.underlying3 j0
    obtain ⟨vi, e4, -, w4⟩ := DataW.trod_int Tryz.underlying2 j1
    obtain ⟨vt, e5, -, w5⟩ := DataW.trod_string Tryz.underlying9 j2
    obtain ⟨tb, e6, -, w6⟩ := DataW.trod_string Tryz.underlying9 g4
    obtain ⟨nm, e7, -, w7⟩ := DataW.trod_string Tryz.underlying9 g5
    obtain ⟨p6, p0⟩ := bulk_part hy (List.getElem?_eq_getElem (show 6 < xs.length by omega))
    obtain ⟨p7, -⟩ := bulk_part hy (List.getElem?_eq_getElem (show 7 < xs.length by omega))
    obtain ⟨pa, args, ca, rfl, -, m6, ha⟩ := open_exsB (fun f' cs y' hf _ => ih f' (by omega) cs y') g6
    obtain ⟨ps, sub, cs, rfl, -, m7, hs⟩ := open_qusB (fun f' cs y' hf _ => open_quB (fun f2 cs2 y2 hf2 _ => ih f2 (by omega) cs2 y2)) g7
    simp only [List.cons.injEq, and_true] at e0 e1 e2 e3 e4 e5 e6 e7
    subst e0 e1 e2 e3 e4 e5 e6 e7
    rw [p0]
    exact ⟨.mk k op no vk vi vt tb nm pa ca args ps cs sub, rfl, ⟨w5, w6, w7, m6, m7, ha.more p6, hs.more p7, bounds_i64 w4⟩⟩
/-- An argument that is an expression. -/
theorem open_exprB (hv : ∃ b, Value.okWide Tryz.prog W .any b 27 v) (h : DataW.Trod enc Tryz.prog W 0 (fun _ => true) true 27 v d p) :
    ∃ E : Ex, v = exV E ∧ ExAt (fun _ => True) W (Rows.uptoBulk d) E := by
  obtain ⟨b, hv⟩ := hv
  obtain ⟨cs, rfl, hsz⟩ := okWide_struct Tryz.underlying27 hv
  obtain ⟨fuel, hf⟩ := h
  obtain ⟨E, h1, h2⟩ := open_treeB fuel _ _ hf
  refine ⟨E, ?_, h2⟩
  obtain ⟨cs⟩ := cs
  have : cs = exL E := h1
  rw [this]; rfl
end
end Go.Proofs.YtlpaphgmdcpmaaaGreatDoor
/-
  How many nodes a tree has; the number of words of a well-formed tree is at most twelve a node.
-/
namespace Go.Proofs.YtlpaphgmdcpmaaaGreatDoor
set_option maxRecDepth 100000
open Go.ChangeShapes Go.WideShapes Go.ChangeAt Go.RowKit

def sumE (n : Ex → Nat) : List Ex → Nat
  | [] => 0
  | e :: l => n e + sumE n l
def sumU (n : Qu → Nat) : List Qu → Nat
  | [] => 0
  | q :: l => n q + sumU n l
def nQu (n : Ex → Nat) (q : Qu) : Nat := 1 + sumE n q.items + sumE n q.wh
def nOf (n : Ex → Nat) (e : Ex) : Nat := 1 + sumE n e.args + sumU (nQu n) e.sub
/-- The nodes of a tree of at most so many storeys. -/
def nN : Nat → Ex → Nat
  | 0 => fun _ => 0
  | d + 1 => nOf (nN d)
theorem sumE_at (n : Ex → Nat) : ∀ (l : List Ex) (i : Nat), i < l.length → n (eAt l i) ≤ sumE n l
  | [], i, h => by simp at h
  | e :: l, 0, _ => by show n e ≤ n e + _; omega
  | e :: l, i + 1, h => by
    have := sumE_at n l i (by simpa using h)
    show n (eAt l i) ≤ n e + sumE n l
    omega
theorem sumE_two (n : Ex → Nat) (l : List Ex) (h : 2 ≤ l.length) : n (eAt l 0) + n (eAt l 1) ≤ sumE n l := by
  match l, h with
  | a :: b :: l, _ => show n a + n b ≤ n a + (n b + _); omega
theorem sumE_three (n : Ex → Nat) (l : List Ex) (h : 3 ≤ l.length) : n (eAt l 0) + n (eAt l 1) + n (eAt l 2) ≤ sumE n l := by
  match l, h with
  | a :: b :: c :: l, _ => show n a + n b + n c ≤ n a + (n b + (n c + _)); omega
theorem sumU_at (n : Qu → Nat) (l : List Qu) (h : 0 < l.length) : n (qAt l 0) ≤ sumU n l := by
  match l, h with
  | a :: l, _ => show n a ≤ n a + _; omega
theorem whT_len {T : Ex → List ByteArray} {n : Ex → Nat} {l : List Ex} (hl : l.length ≤ 1) (h : ∀ a ∈ l, (T a).length ≤ 12 * n a) : (whT T l).length ≤ 12 * sumE n l + 1 := by
  match l, hl with
  | [], _ => exact Nat.zero_le _
  | [a], _ =>
    have ha := h a (List.mem_singleton.2 rfl)
    have e1 : whT T [a] = [⟨#[87, 72, 69, 82, 69]⟩] ++ T a := by simp [whT]
    rw [e1]
    show ([(⟨#[87, 72, 69, 82, 69]⟩ : ByteArray)] ++ T a).length ≤ 12 * (n a + 0) + 1
    simp only [List.length_append, List.length_cons, List.length_nil]
    omega
theorem argT_len {T : Ex → List ByteArray} {n : Ex → Nat} {e : Ex} {i : Nat} (h : (T (eAt e.args i)).length ≤ 12 * n (eAt e.args i)) : (argT T e i).length ≤ 12 * n (eAt e.args i) + 2 := by
  unfold argT
  split
  · simp only [List.length_append, List.length_cons, List.length_nil]; omega
  · omega
theorem words_nodes : ∀ (d : Nat) (e : Ex), vE d e = true → (wT d e).length ≤ 12 * nN d e
  | 0, _, hv => by cases hv
  | d + 1, e, hv => by
    have hV : FineV (vE d) e := vOf_iff.1 hv
    have hF := hV.fine
    have hargs : ∀ i, i < e.args.length → (argT (wT d) e i).length ≤ 12 * nN d (eAt e.args i) + 2 := fun i hi => argT_len (words_nodes d _ (hF.args _ (eAt_mem hi)))
    have hn := hF.argn
    have hlo := hF.lo
    have hhi := hF.hi
    show (wOf (wT d) e).length ≤ 12 * (1 + sumE (nN d) e.args + sumU (nQu (nN d)) e.sub)
    have hk : e.k = 1 ∨ e.k = 2 ∨ e.k = 3 ∨ e.k = 4 ∨ e.k = 5 ∨ e.k = 6 ∨ e.k = 7 ∨ 8 ≤ e.k := by omega
    rcases hk with hk | hk | hk | hk | hk | hk | hk | hk
    · rw [wOf_lit hk]; simp only [List.length_cons, List.length_nil]; omega
    · rw [wOf_col hk]
      have : (colT e.tb e.nm).length ≤ 3 := by unfold colT; split <;> simp
      omega
    · have h1 : 0 < e.args.length := by rw [hn, hk]; decide
      have a0 := hargs 0 h1
      have s0 := sumE_at (nN d) e.args 0 h1
      rw [wOf_not hk]; simp only [List.length_append, List.length_cons, List.length_nil]; omega
    · have h1 : 0 < e.args.length := by rw [hn, hk]; decide
      have a0 := hargs 0 h1
      have s0 := sumE_at (nN d) e.args 0 h1
      rw [wOf_neg hk]; simp only [List.length_append, List.length_cons, List.length_nil]; omega
    · have h2 : 2 ≤ e.args.length := by rw [hn, hk]; decide
      have a0 := hargs 0 (by omega)
      have a1 := hargs 1 (by omega)
      have s0 := sumE_two (nN d) e.args h2
      rw [wOf_bin hk]; simp only [List.length_append, List.length_cons, List.length_nil]; omega
    · have h1 : 0 < e.args.length := by rw [hn, hk]; decide
      have a0 := hargs 0 h1
      have s0 := sumE_at (nN d) e.args 0 h1
      have hnul : (nullT e.no).length ≤ 3 := by cases e.no <;> decide
      rw [wOf_null hk]; simp only [List.length_append]; omega
    · have h3 : 3 ≤ e.args.length := by rw [hn, hk]; decide
      have a0 := hargs 0 (by omega)
      have a1 := hargs 1 (by omega)
      have a2 := hargs 2 (by omega)
      have s0 := sumE_three (nN d) e.args h3
      rw [wOf_btw hk]; simp only [List.length_append, List.length_cons, List.length_nil]; omega
    · have hs1 : e.sub.length = 1 := hF.subn.trans (by unfold subN; rw [if_pos ⟨hk, hhi⟩])
      have hQ := quB_fine (hF.sub (qAt e.sub 0) (qAt_mem (by omega)))
      have s0 := sumU_at (nQu (nN d)) e.sub (by omega)
      have hw := whT_len (T := wT d) (n := nN d) hQ.wh fun a ha => words_nodes d a (hQ.allW a ha)
      have hfrom : (fromT (wT d) (qAt e.sub 0)).length ≤ 12 * sumE (nN d) (qAt e.sub 0).wh + 3 := by unfold fromT; simp only [List.length_append, List.length_cons, List.length_nil]; omega
      have hhead : (headT (wT d) e.k (qAt e.sub 0)).length ≤ 12 * sumE (nN d) (qAt e.sub 0).items + 4 := by
        unfold headT
        split
        · simp only [List.length_cons, List.length_nil]; omega
        · split
          · simp only [List.length_cons, List.length_nil]; omega
          · have hi1 : 0 < (qAt e.sub 0).items.length := by rw [hQ.items]; unfold itemN; rw [if_pos (by omega)]; decide
            have hI := words_nodes d _ (hQ.allI _ (eAt_mem hi1))
            have s1 := sumE_at (nN d) (qAt e.sub 0).items 0 hi1
            simp only [List.length_append, List.length_cons, List.length_nil]; omega
      have hnq : nQu (nN d) (qAt e.sub 0) = 1 + sumE (nN d) (qAt e.sub 0).items + sumE (nN d) (qAt e.sub 0).wh := rfl
      rw [wOf_sub hk]
      unfold subT
      have h8 : (if e.k = 8 then [(⟨#[69, 88, 73, 83, 84, 83]⟩ : ByteArray)] else []).length ≤ 1 := by split <;> simp
      simp only [List.length_append, List.length_cons, List.length_nil]
      omega
end Go.Proofs.YtlpaphgmdcpmaaaGreatDoor
