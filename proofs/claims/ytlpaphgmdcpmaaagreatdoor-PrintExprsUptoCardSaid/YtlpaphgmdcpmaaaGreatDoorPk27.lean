/-
  Several texts in one.
-/
import Derived.Test.YtlpaphgmdcpmaaaGreatDoorPk19
import Derived.Test.YtlpaphgmdcpmaaaGreatDoorPk26
import Derived.Test.YtlpaphgmdcpmaaaGreatDoorPk15
import Derived.Test.YtlpaphgmdcpmaaaGreatDoorPk22
import Derived.Test.YtlpaphgmdcpmaaaGreatDoorPk10
/-
  The sanity check of layer 12.
-/
namespace Go.Proofs.YtlpaphgmdcpmaaaGreatDoor
set_option maxRecDepth 100000
open Go.RowKit
variable {ls : List Nat}

def kpA : Ex := colEx ⟨#[]⟩ ⟨#[97]⟩
def kpN (n : Int) : Ex := litEx 1 n ⟨#[]⟩
def kpSum (p : Option Addr) : Ex := argEx 5 9 false p 2 [kpA, kpN 1]
def kpMul (p q : Option Addr) : Ex := argEx 5 11 false q 2 [kpSum p, kpN 2]
theorem kpN_valid (V : Ex → Bool) {n : Int} (h : validB 1 n ⟨#[]⟩ = true) (h0 : 0 ≤ n) : vOf V (kpN n) = true := vOf_lit h h0
theorem kpMul_valid (p q : Option Addr) : vE 3 (kpMul p q) = true := by
  refine vOf_args (by decide) (by decide) rfl (fun _ => by decide) (fun h => absurd rfl h) (fun _ => rfl) fun a ha => ?_
  rcases List.mem_cons.1 ha with rfl | ha
  · refine vOf_args (by decide) (by decide) rfl (fun _ => by decide) (fun h => absurd rfl h) (fun _ => rfl) fun a ha => ?_
    rcases List.mem_cons.1 ha with rfl | ha
    · exact vOf_col qual_none (by decide +kernel)
    · obtain rfl := List.mem_singleton.1 ha; exact kpN_valid _ (by decide +kernel) (by decide)
  · obtain rfl := List.mem_singleton.1 ha; exact kpN_valid _ (by decide +kernel) (by decide)
theorem arg_bare {T : Ex → List ByteArray} {e : Ex} {i : Nat} (h : inPar e i = false) : argT T e i = T (eAt e.args i) := by unfold argT; rw [if_neg (by rw [h]; decide)]
theorem arg_parens {T : Ex → List ByteArray} {e : Ex} {i : Nat} (h : inPar e i = true) : argT T e i = [⟨#[40]⟩] ++ T (eAt e.args i) ++ [⟨#[41]⟩] := by unfold argT; rw [if_pos h]
theorem kp_words (p q : Option Addr) : wT 3 (kpMul p q) = [⟨#[40]⟩, ⟨#[97]⟩, ⟨#[43]⟩, fmtB 1 1 ⟨#[]⟩, ⟨#[41]⟩, ⟨#[42]⟩, fmtB 1 2 ⟨#[]⟩] := by
  have h1 : wT 1 kpA = [⟨#[97]⟩] := by
    rw [wT_succ, wOf_col rfl]
    show colT ⟨#[]⟩ ⟨#[97]⟩ = _
    unfold colT
    rw [eqT_none, if_pos rfl]; rfl
  have h2 : ∀ d n, wT (d + 1) (kpN n) = [fmtB 1 n ⟨#[]⟩] := fun d n => by rw [wT_succ, wOf_lit rfl]; rfl
  have h3 : wT 2 (kpSum p) = [⟨#[97]⟩, ⟨#[43]⟩, fmtB 1 1 ⟨#[]⟩] := by
    rw [wT_succ, wOf_bin rfl, arg_bare (i := 0) rfl, arg_bare (i := 1) rfl]
    show wT 1 kpA ++ [opS 9] ++ wT 1 (kpN 1) = _
    rw [h1, h2]; rfl
  rw [wT_succ, wOf_bin rfl, arg_parens (i := 0) rfl, arg_bare (i := 1) rfl]
  show [⟨#[40]⟩] ++ wT 2 (kpSum p) ++ [⟨#[41]⟩] ++ [opS 11] ++ wT 2 (kpN 2) = _
  rw [h3, h2]; rfl
theorem kp_one : fmtB 1 1 ⟨#[]⟩ = ⟨#[49]⟩ := by rw [fmtB_num]; decide +kernel
theorem kp_two : fmtB 1 2 ⟨#[]⟩ = ⟨#[50]⟩ := by rw [fmtB_num]; decide +kernel
theorem kp_text (p q : Option Addr) : prV 3 (kpMul p q) = .tuple #[.string ⟨#[40, 97, 32, 43, 32, 49, 41, 32, 42, 32, 50]⟩, .bool true] := by
  unfold prV
  rw [kpMul_valid, if_pos rfl, kp_words, kp_one, kp_two]
  rw [show joinS [⟨#[40]⟩, ⟨#[97]⟩, ⟨#[43]⟩, ⟨#[49]⟩, ⟨#[41]⟩, ⟨#[42]⟩, ⟨#[50]⟩] = ⟨#[40, 97, 32, 43, 32, 49, 41, 32, 42, 32, 50]⟩ by decide +kernel]
theorem num_any (n : Int) (h0 : 0 ≤ n) (w : World) : Calls Tryz.prog 19 #[.int .i64 n] w fun e w' => e = .returned (exV (kpN n)) ∧ Below w.heap.size w w' := by
  have hd : decide (n < 0) = false := decide_eq_false (by omega)
  go_enter Tryz.func19, Tryz.ntmps19
  go_wp2_with fail
  refine (lit_agg 1 n ⟨#[]⟩ _).mono ?_
  rintro e w' ⟨rfl, hb⟩
  have hx : ExB w' w.heap.size ex0 := (ExB.new w ex0 27).low hb
  have hB := Lib.hid (Below.of_alloc hb)
  clear hb
  obtain ⟨xl, x0, x1, x2, x3, x4, x5, x6, x7, x8, x9, xf⟩ := hx
  simp only [ex0, Ex.mk_k, Ex.mk_op, Ex.mk_no, Ex.mk_vk, Ex.mk_vi, Ex.mk_vt, Ex.mk_tb, Ex.mk_nm, Ex.mk_pa, Ex.mk_ca, Ex.mk_args, Ex.mk_ps, Ex.mk_cs, Ex.mk_sub, List.length_nil] at x0 x1 x2 x3 x4 x5 x6 x7 x8 x9
  go_wp2
  obtain ⟨y0, y1, y2, y3, y4, y5, y6, y7, y8, y9⟩ := set_ten (a := ex0) ⟨xl, x0, x1, x2, x3, x4, x5, x6, x7, x8, x9, xf⟩ (.int .i64 1) (.int .i64 0) (.bool false) (.int .i64 1) (.int .i64 n) (.string ⟨#[]⟩) (.string ⟨#[]⟩) (.string ⟨#[]⟩) (.slice none 0 0) (.slice none 0 0)
  refine bodyPost_ret (v := .agg #[.int .i64 1, .int .i64 0, .bool false, .int .i64 1, .int .i64 n, .string ⟨#[]⟩, .string ⟨#[]⟩, .string ⟨#[]⟩, .slice none 0 0, .slice none 0 0]) (by simp [results, Tryz.results19, go_sem, y0, y1, y2, y3, y4, y5, y6, y7, y8, y9]) rfl ⟨rfl, ?_⟩
  repeat (refine Below.setCell ?_ (by exact Nat.le_refl _) _)
  exact hB.out
theorem kp_pair {u : World} {g : Nat} {d : Nat} {a b : Ex} (hg : g < u.heap.size) (ha : ExC u g 0 a) (hb : ExC u g 10 b) (h1 : ExAt (fun _ => True) u d a) (h2 : ExAt (fun _ => True) u d b) (op : Int) : ExAt (fun _ => True) u (d + 1) (argEx 5 op false (some ⟨g, 0, none⟩) 2 [a, b]) := by
  have hl1 : LAt (fun _ => True) u (ExAt (fun _ => True) u d) (some ⟨g, 0, none⟩) [a, b] := fun i hi => by
    have hi2 : i = 0 ∨ i = 1 := by have hi : i < 2 := hi; omega
    rcases hi2 with rfl | rfl
    · exact ⟨g, 0, rfl, hg, trivial, ha, h1⟩
    · exact ⟨g, 0, rfl, hg, trivial, hb, h2⟩
  have e0 : (⟨#[]⟩ : ByteArray).size ≤ 9223372036854775807 := by decide
  exact ⟨e0, e0, e0, (show (2 : Nat) ≤ 9223372036854775807 by decide), (show (0 : Nat) ≤ 9223372036854775807 by decide), hl1, QAt.nil _ _ _ _, i64_zero⟩
set_option maxHeartbeats 4000000 in
theorem known12_any (w : World) (hE : Env ls w) (hu : 4 ∈ ls) (hm : 8 ∈ ls) (hp : 1 ∈ ls) (hN : 5 ∈ ls) (hP : 7 ∈ ls) :
    Calls Tryz.prog 11 #[] w fun e w' => e = .returned (.bool true) ∧ Below w.heap.size w w' := by
  have HE := Lib.hid hE
  have HPX := Lib.hid (fun e v h1 h2 h3 => pexpr_any (ls := ls) (N := fun _ => True) (d := 3) hu hm hp hN hP e v h1 h2 h3)
  clear hE
  go_enter Tryz.func11, Tryz.ntmps11
  go_wp2_with fail
  refine (col_agg ⟨#[]⟩ ⟨#[97]⟩ _).mono ?_
  rintro e w1 ⟨rfl, hb1⟩
  have HB1 := Lib.hid hb1
  clear hb1
  go_wp2_with fail
  refine (num_any 1 (by decide) _).mono ?_
  rintro e w2 ⟨rfl, hb2⟩
  have HB2 := Lib.hid (below_next HB1.out hb2)
  clear hb2
  go_wp2_with fail
  refine (bin_any 9 kpA (kpN 1) _).mono ?_
  rintro e w3 ⟨g, rfl, hg, hgl, hA, hB, hb3⟩
  have HB3 := Lib.hid (below_next HB2.out hb3)
  have hs := kp_pair hgl hA hB (ExAt.leaf _ _ 0 2 0 false 0 0 (by decide) (by decide) (by decide)) (ExAt.leaf _ _ 0 1 0 false 1 1 (by decide) (by decide) (by decide) (by decide)) 9
  have HS3 := Lib.hid hs
  clear hg hgl hA hB hb3 hs
  go_wp2_with fail
  refine (num_any 2 (by decide) _).mono ?_
  rintro e w4 ⟨rfl, hb4⟩
  have HB4 := Lib.hid (below_next HB3.out hb4)
  have HS4 := Lib.hid (HS3.out.low hb4)
  clear hb4
  go_wp2_with fail
  refine (bin_any 11 (kpSum (some ⟨g, 0, none⟩)) (kpN 2) _).mono ?_
  rintro e w5 ⟨g2, rfl, hg, hgl, hA, hB, hb5⟩
  have HB5 := Lib.hid (below_next HB4.out hb5)
  have hs := kp_pair hgl hA hB (HS4.out.low hb5) ((ExAt.leaf _ _ 0 1 0 false 1 2 (by decide) (by decide) (by decide) (by decide)).upto (by decide)) 11
  have hc := HPX.out (kpMul (some ⟨g, 0, none⟩) (some ⟨g2, 0, none⟩)) w5 hs (HE.out.low HB5.out) (by rw [kp_words]; decide)
  rw [kp_text] at hc
  have HC := Lib.hid hc
  clear hg hgl hA hB hb5 hs hc
  go_wp2_with fail
  refine (HC.out).mono ?_
  rintro e w6 ⟨rfl, hb6⟩
  have HB6 := Lib.hid (below_next HB5.out hb6)
  clear hb6
  go_wp2
  go_ret
  exact ⟨rfl, HB6.out⟩
end Go.Proofs.YtlpaphgmdcpmaaaGreatDoor
/-
  What the world's expressions are made of: numbers, trees with one, two, three arguments, queries; what a function that makes a tree keeps.
-/
namespace Go.Proofs.YtlpaphgmdcpmaaaGreatDoor
set_option maxRecDepth 100000
open Go.RowKit
variable {ls : List Nat}

/-- The ten cells of a box are those of an expression. -/
abbrev ten (u : World) (X : Nat) (e : Ex) : World := (((((((((u.setCell ⟨X, 0, none⟩ (.int .i64 e.k)).setCell ⟨X, 1, none⟩ (.int .i64 e.op)).setCell ⟨X, 2, none⟩ (.bool e.no)).setCell ⟨X, 3, none⟩ (.int .i64 e.vk)).setCell ⟨X, 4, none⟩ (.int .i64 e.vi)).setCell ⟨X, 5, none⟩ (.string e.vt)).setCell ⟨X, 6, none⟩ (.string e.tb)).setCell ⟨X, 7, none⟩ (.string e.nm)).setCell ⟨X, 8, none⟩ (.slice e.pa e.args.length e.ca)).setCell ⟨X, 9, none⟩ (.slice e.ps e.sub.length e.cs)
theorem ten_but (u : World) (X : Nat) (e : Ex) : ButX X u (ten u X e) := but_ten u X _ _ _ _ _ _ _ _ _ _
theorem ten_box {u : World} {X : Nat} {a : Ex} (h : ExB u X a) (e : Ex) : ExB (ten u X e) X e := by
  obtain ⟨x0, x1, x2, x3, x4, x5, x6, x7, x8, x9⟩ := set_ten h (.int .i64 e.k) (.int .i64 e.op) (.bool e.no) (.int .i64 e.vk) (.int .i64 e.vi) (.string e.vt) (.string e.tb) (.string e.nm) (.slice e.pa e.args.length e.ca) (.slice e.ps e.sub.length e.cs)
  refine ⟨by rw [(ten_but u X e).size]; exact h.lt, x0, x1, x2, x3, x4, x5, x6, x7, x8, x9, fun o => ?_⟩
  simp only [ten, World.frozen?_setCell]
  exact h.fz o
theorem ten_alloc {u : World} {X : Nat} (hX : X < u.heap.size) (e : Ex) (o : Obj) : ten (u.alloc o) X e = (ten u X e).alloc o := by
  unfold ten
  rw [World.setCell_alloc_past _ _ _ _ hX]
  repeat rw [World.setCell_alloc_past _ _ _ _ (by simpa [World.setCell] using hX)]
theorem ten_butA {u : World} {X : Nat} (hX : X < u.heap.size) (e : Ex) (o : Obj) : ButX X (u.alloc o) ((ten u X e).alloc o) := by
  rw [← ten_alloc hX]; exact ten_but _ _ _
theorem ten_boxA {u : World} {X : Nat} {a : Ex} (h : ExB u X a) (e : Ex) (o : Obj) : ExB ((ten u X e).alloc o) X e := (ten_box h e).low (below_alloc _ _)
/-- The end of a function whose result is a box that holds a tree. -/
theorem ret_tree {fn : Func} {R : Ending → World → Prop} {a : Act} {w : World} {X : Nat} {E : Ex} (hB : ExB w X E)
    (hres : w.cell? ⟨X, 0, none⟩ = some (.int .i64 E.k) → w.cell? ⟨X, 1, none⟩ = some (.int .i64 E.op) → w.cell? ⟨X, 2, none⟩ = some (.bool E.no) → w.cell? ⟨X, 3, none⟩ = some (.int .i64 E.vk) → w.cell? ⟨X, 4, none⟩ = some (.int .i64 E.vi) → w.cell? ⟨X, 5, none⟩ = some (.string E.vt) → w.cell? ⟨X, 6, none⟩ = some (.string E.tb) → w.cell? ⟨X, 7, none⟩ = some (.string E.nm) → w.cell? ⟨X, 8, none⟩ = some (.slice E.pa E.args.length E.ca) → w.cell? ⟨X, 9, none⟩ = some (.slice E.ps E.sub.length E.cs) → (results fn a.tmps).run Tryz.prog w = .ok (exV E) w)
    (hd : a.defers = []) (hR : R (.returned (exV E)) w) : bodyPost Tryz.prog fn R .ret a w :=
  bodyPost_ret (v := exV E) (hres hB.c0 hB.c1 hB.c2 hB.c3 hB.c4 hB.c5 hB.c6 hB.c7 hB.c8 hB.c9) hd hR
/-- A literal list of three expressions. -/
theorem three_ex {N : Nat → Prop} {u : World} {D : Nat} {E F G : Ex} (hE : ExAt N u D E) (hF : ExAt N u D F) (hG : ExAt N u D G) (hN : N u.heap.size) (t : TypeId) :
    LAt N (u.alloc (.cells (excs E ++ excs F ++ excs G).toArray t)) (ExAt N (u.alloc (.cells (excs E ++ excs F ++ excs G).toArray t)) D) (some ⟨u.heap.size, 0, none⟩) [E, F, G] := by
  have hl : u.heap.size < (u.alloc (.cells (excs E ++ excs F ++ excs G).toArray t)).heap.size := by simp
  have hb := below_alloc u (.cells (excs E ++ excs F ++ excs G).toArray t)
  intro i hi
  have hi3 : i = 0 ∨ i = 1 ∨ i = 2 := by have hi : i < 3 := hi; omega
  rcases hi3 with rfl | rfl | rfl
  · refine ⟨u.heap.size, 0, rfl, hl, hN, ?_, hE.low hb⟩
    constructor <;> (simp only [excs, List.cons_append, List.nil_append, eAt, List.getD_cons_zero]; go_simp)
  · refine ⟨u.heap.size, 0, rfl, hl, hN, ?_, hF.low hb⟩
    constructor <;> (simp only [excs, List.cons_append, List.nil_append, eAt, List.getD_cons_zero, List.getD_cons_succ]; go_simp)
  · refine ⟨u.heap.size, 0, rfl, hl, hN, ?_, hG.low hb⟩
    constructor <;> (simp only [excs, List.cons_append, List.nil_append, eAt, List.getD_cons_zero, List.getD_cons_succ]; go_simp)
/-- A tree with arguments. -/
theorem args_at {N : Nat → Prop} {u : World} {D : Nat} {k op : Int} {no : Bool} {p : Option Addr} {c : Nat} {l : List Ex} (hl : l.length ≤ 3) (h : LAt N u (ExAt N u D) p l) : ExAt N u (D + 1) (argEx k op no p c l) := by
  have e0 : (⟨#[]⟩ : ByteArray).size ≤ 9223372036854775807 := by decide
  exact ⟨e0, e0, e0, by show l.length ≤ _; omega, Nat.zero_le _, h, QAt.nil _ _ _ _, i64_zero⟩
theorem ex_all_one {P : Ex → Prop} {E : Ex} (h : P E) : ∀ a ∈ [E], P a := fun a ha => by obtain rfl := List.mem_singleton.1 ha; exact h
theorem ex_all_two {P : Ex → Prop} {E F : Ex} (h : P E) (h2 : P F) : ∀ a ∈ [E, F], P a := fun a ha => by
  rcases List.mem_cons.1 ha with rfl | ha
  · exact h
  · exact ex_all_one h2 a ha
theorem ex_all_three {P : Ex → Prop} {E F G : Ex} (h : P E) (h2 : P F) (h3 : P G) : ∀ a ∈ [E, F, G], P a := fun a ha => by
  rcases List.mem_cons.1 ha with rfl | ha
  · exact h
  · exact ex_all_two h2 h3 a ha
theorem two_at {N : Nat → Prop} {u : World} {g : Nat} {d : Nat} {a b : Ex} (hg : g < u.heap.size) (hN : N g) (ha : ExC u g 0 a) (hb : ExC u g 10 b) (h1 : ExAt N u d a) (h2 : ExAt N u d b) : LAt N u (ExAt N u d) (some ⟨g, 0, none⟩) [a, b] := fun i hi => by
  have hi2 : i = 0 ∨ i = 1 := by have hi : i < 2 := hi; omega
  rcases hi2 with rfl | rfl
  · exact ⟨g, 0, rfl, hg, hN, ha, h1⟩
  · exact ⟨g, 0, rfl, hg, hN, hb, h2⟩
theorem smallR_any (b : Nat) (w : World) (ht : TapeAt w b) :
    Calls Tryz.prog 20 #[.pointer (some ⟨b, 0, none⟩)] w fun e w' => ∃ z : Int, e = .returned (.int .i64 z) ∧ -3 ≤ z ∧ z ≤ 12 ∧ TapeAt w' b ∧ StepT b w w' := by
  go_enter Tryz.func20, Tryz.ntmps20
  go_wp2_with fail
  refine (next_any b 16 _ (by decide) (by decide) ht).mono ?_
  rintro e w1 ⟨r, rfl, h0, h1, ht1, hs1⟩
  have hw : IntKind.i64.wrap (r - 3) = r - 3 := i64w (by omega) (by omega)
  have hw2 : IntKind.i64.wrap r = r := i64w (by omega) (by omega)
  go_wp2
  go_ret
  exact ⟨r - 3, by simp, by omega, by omega, ht1, hs1⟩
theorem litN_valid (n : Int) (h : 0 ≤ n) (_h2 : n ≤ 9223372036854775807) (D : Nat) : vE (D + 1) (kpN n) = true := vOf_lit (by unfold validB; simp) h
/-- The tree of a number. -/
def NumTPost (w : World) (e : Ending) (w' : World) : Prop := ∃ E : Ex, e = .returned (exV E) ∧ ExAt (fun c => w.heap.size ≤ c) w' 2 E ∧ vE 2 E = true ∧ Below w.heap.size w w'
set_option maxHeartbeats 4000000 in
theorem numZ_any (n : Int) (h0 : -1000 ≤ n) (h1 : n ≤ 1000000) (w : World) : Calls Tryz.prog 19 #[.int .i64 n] w (NumTPost w) := by
  by_cases hn : 0 ≤ n
  · refine (num_any n hn w).mono ?_
    rintro e w' ⟨rfl, hb⟩
    exact ⟨kpN n, rfl, ExAt.leaf _ _ 1 1 0 false 1 n (by decide) (by decide) (by decide) ⟨by omega, by omega⟩, litN_valid n hn (by omega) 1, hb⟩
  · have hd : decide (n < 0) = true := decide_eq_true (by omega)
    have hw : IntKind.i64.wrap (-n) = -n := i64w (by omega) (by omega)
    have HV := Lib.hid (litN_valid (-n) (by omega) (by omega) 0)
    have HI := Lib.hid (show I64 (-n) from ⟨by omega, by omega⟩)
    have hx0 := ExB.new w ex0 27
    have HX0 := Lib.hid hx0
    go_enter Tryz.func19, Tryz.ntmps19
    go_wp2_with fail
    refine (num_any (-n) (by omega) _).mono ?_
    rintro e w1 ⟨rfl, hb⟩
    have HX1 := Lib.hid (HX0.out.low hb)
    have hB := Lib.hid (Below.of_alloc hb)
    have hsz := hb.size
    rw [size_alloc] at hsz
    clear hb hx0
    have HL : Hid (ExAt (fun c => w.heap.size < c) w1 1 (kpN (-n))) := Lib.hid (ExAt.leaf _ _ 0 1 0 false 1 (-n) (by decide) (by decide) (by decide) HI.out)
    have HO := Lib.hid (one_ex HL.out (by omega) 27)
    generalize hE : kpN (-n) = E at *
    clear hE
    unfold exV
    obtain ⟨xl, x0, x1, x2, x3, x4, x5, x6, x7, x8, x9, xf⟩ := HX1.out
    go_wp2
    refine ret_tree (X := w.heap.size) (E := argEx 4 0 false (some ⟨w1.heap.size, 0, none⟩) 1 [E]) (by have h := ten_boxA HX1.out (argEx 4 0 false (some ⟨w1.heap.size, 0, none⟩) 1 [E]) (.cells #[.int .i64 E.k, .int .i64 E.op, .bool E.no, .int .i64 E.vk, .int .i64 E.vi, .string E.vt, .string E.tb, .string E.nm, .slice E.pa E.args.length E.ca, .slice E.ps E.sub.length E.cs] 27); simp only [ten, argEx, Ex.mk_k, Ex.mk_op, Ex.mk_no, Ex.mk_vk, Ex.mk_vi, Ex.mk_vt, Ex.mk_tb, Ex.mk_nm, Ex.mk_pa, Ex.mk_ca, Ex.mk_args, Ex.mk_ps, Ex.mk_cs, Ex.mk_sub, List.length_singleton, List.length_nil] at h ⊢; exact h) (fun x0 x1 x2 x3 x4 x5 x6 x7 x8 x9 => by simp [results, Tryz.results19, go_sem, x0, x1, x2, x3, x4, x5, x6, x7, x8, x9, exV]) rfl ?_
    have hbx := ten_butA HX1.out.lt (argEx 4 0 false (some ⟨w1.heap.size, 0, none⟩) 1 [E]) (.cells #[.int .i64 E.k, .int .i64 E.op, .bool E.no, .int .i64 E.vk, .int .i64 E.vi, .string E.vt, .string E.tb, .string E.nm, .slice E.pa E.args.length E.ca, .slice E.ps E.sub.length E.cs] 27)
    refine ⟨_, rfl, (args_at (N := fun c => w.heap.size < c) (D := 1) (l := [E]) (show 1 ≤ 3 by decide) HO.out).but hbx (fun c hc hn => ⟨by omega, by omega⟩), ?_, ?_⟩
    · exact vOf_args (by decide) (by decide) rfl (fun h => absurd h (by decide)) (fun _ => rfl) (fun _ => rfl) (ex_all_one HV.out)
    · have h1 := below_next hB.out (below_alloc w1 (.cells #[.int .i64 E.k, .int .i64 E.op, .bool E.no, .int .i64 E.vk, .int .i64 E.vi, .string E.vt, .string E.tb, .string E.nm, .slice E.pa E.args.length E.ca, .slice E.ps E.sub.length E.cs] 27))
      exact ⟨hbx.os.trans h1.os, hbx.tape.trans h1.tape, hbx.output.trans h1.output, Nat.le_trans h1.size (Nat.le_of_eq hbx.size.symm), fun k hk => (hbx.block k (by omega)).trans (h1.block k hk)⟩
end Go.Proofs.YtlpaphgmdcpmaaaGreatDoor
/-
  condition of the world's tape: a well-formed tree.
-/
namespace Go.Proofs.YtlpaphgmdcpmaaaGreatDoor
set_option maxRecDepth 100000
open Go.RowKit
variable {ls : List Nat}

/-- Expr for depths so far. -/
def EwDoes (ls : List Nat) (D : Nat) : Prop := ∀ (N : Nat → Prop) (b : Nat) (P : Pl) (want depth : Int) (w : World), depth + 2 ≤ D → -1000 ≤ depth → 1 ≤ want → want ≤ 3 → P.fr.length + D ≤ 80 → 13 ≤ b → PlAt N w P → (∀ c, N c → c ≠ b) → TapeAt w b → Env ls w →
    Calls Tryz.prog 7 #[.pointer (some ⟨b, 0, none⟩), plV P, .int .i64 want, .int .i64 depth] w (AExPost b D w)
/-- All but the tape's block is as it was; the tape is one still. -/
structure RT (b : Nat) (u v : World) : Prop where
  step : StepT b u v
  tape : TapeAt u b → TapeAt v b
theorem RT.low {b : Nat} {u v : World} (h : Below u.heap.size u v) : RT b u v := ⟨StepT.of_below h, fun ht => ht.below h⟩
theorem RT.refl (b : Nat) (u : World) : RT b u u := ⟨StepT.refl b u, id⟩
theorem RT.trans {b : Nat} {u v w : World} (h : RT b u v) (k : RT b v w) : RT b u w := ⟨h.step.trans k.step, k.tape ∘ h.tape⟩
theorem rt_low {b : Nat} {W u v : World} (h : RT b u v) : u.heap.size ≤ v.heap.size ∧ (Below b W u → W.heap.size ≤ u.heap.size → b ≤ W.heap.size → Below b W v) :=
  ⟨h.step.size, fun h1 h2 h3 => h1.trans (h.step.below (Nat.le_refl _) (Nat.le_trans h3 h2))⟩
/-- What a function keeps that makes a tree at a place: w0 is the world in which its result's box was made. -/
structure EwW (b : Nat) (w w0 : World) (P : Pl) (N : Nat → Prop) (u : World) : Prop where
  an : AnW b w0 u
  pb : Cell2 u w.heap.size (.slice P.pf P.fr.length P.cf) (.slice P.pt P.tb.length P.ct)
  pl : PlAt N u P
  lt : b < w.heap.size
  sz : w0.heap.size = w.heap.size + 1
  hN : ∀ c, N c → c ≠ b
  st : StepT b w w0
section
variable {b D : Nat} {w w0 u v : World} {P : Pl} {N : Nat → Prop}
theorem EwW.rt (h : EwW b w w0 P N u) (hr : RT b u v) : EwW b w w0 P N v := ⟨h.an.next hr.step (hr.tape h.an.tape), h.pb.step hr.step (Nat.ne_of_gt h.lt), h.pl.step hr.step h.hN, h.lt, h.sz, h.hN, h.st⟩
theorem EwW.next (h : EwW b w w0 P N u) (hs : StepT b u v) (ht : TapeAt v b) : EwW b w w0 P N v := h.rt ⟨hs, fun _ => ht⟩
theorem EwW.low (h : EwW b w w0 P N u) (hb : Below u.heap.size u v) : EwW b w w0 P N v := h.rt (RT.low hb)
theorem EwW.res (h : EwW b w w0 P N u) : ExB u (w.heap.size + 1) ex0 := h.an.res.at h.sz
theorem EwW.all (h : EwW b w w0 P N u) : StepT b w u := h.st.trans h.an.step
/-- The box is filled: the tree. -/
theorem EwW.post (h : EwW b w w0 P N u) {E : Ex} (hE : ExAt (fun c => w.heap.size + 1 < c) u D E) (hV : vE D E = true) {v : World} (hb : ButX (w.heap.size + 1) u v) {e : Ending} (he : e = .returned (exV E)) : AExPost b D w e v := by
  have h1 := h.sz
  have h2 := h.lt
  exact ⟨E, he, hE.but hb fun c _ hc => ⟨by omega, by omega⟩, hV, h.an.tape.but hb (by omega), h.all.but hb (by omega)⟩
/-- What a store of a tree into the result's box leaves. -/
def Dn (b D : Nat) (w : World) (u : World) : Prop := ∃ E : Ex, ExB u (w.heap.size + 1) E ∧ ExAt (fun c => w.heap.size + 1 < c) u D E ∧ vE D E = true ∧ TapeAt u b ∧ StepT b w u
theorem Dn.rt (h : Dn b D w u) (hr : RT b u v) (h1 : b < w.heap.size + 1) : Dn b D w v := by
  obtain ⟨E, hB, hE, hV, ht, hs⟩ := h
  exact ⟨E, hB.step hr.step (Nat.ne_of_gt h1), hE.step hr.step (fun c hc => by omega), hV, hr.tape ht, hs.trans hr.step⟩
theorem EwW.dn (h : EwW b w w0 P N u) {E : Ex} (hE : ExAt (fun c => w.heap.size + 1 < c) u D E) (hV : vE D E = true) : Dn b D w (ten u (w.heap.size + 1) E) := by
  have hb := ten_but u (w.heap.size + 1) E
  have h1 := h.sz
  have h2 := h.lt
  exact ⟨E, ten_box h.res E, hE.but hb fun c _ hc => ⟨by omega, hc⟩, hV, h.an.tape.but hb (by omega), h.all.but hb (by omega)⟩
theorem Dn.post (h : Dn b D w u) : ∃ E : Ex, ExB u (w.heap.size + 1) E ∧ AExPost b D w (.returned (exV E)) u := by
  obtain ⟨E, hB, hE, hV, ht, hs⟩ := h
  exact ⟨E, hB, E, rfl, hE.weak fun c _ hc => by omega, hV, ht, hs⟩
/-- A value that is a tree. -/
def Tv (X D : Nat) (v : Value) (u : World) : Prop := ∃ E : Ex, v = exV E ∧ ExAt (fun c => X < c) u D E ∧ vE D E = true
theorem Tv.rt {X : Nat} {x : Value} (h : Tv X D x u) (hr : RT b u v) (h1 : b < X) : Tv X D x v := by
  obtain ⟨E, he, hE, hV⟩ := h
  exact ⟨E, he, hE.step hr.step (fun c hc => by omega), hV⟩
/-- The start. -/
theorem EwW.start {w : World} {P : Pl} {N : Nat → Prop} {b : Nat} (hP : PlAt N w P) (hN : ∀ c, N c → c ≠ b) (ht : TapeAt w b) :
    EwW b w (w.alloc (.cells #[.slice P.pf P.fr.length P.cf, .slice P.pt P.tb.length P.ct] 37)) P N ((w.alloc (.cells #[.slice P.pf P.fr.length P.cf, .slice P.pt P.tb.length P.ct] 37)).alloc (.cells #[.int .i64 0, .int .i64 0, .bool false, .int .i64 0, .int .i64 0, .string ⟨#[]⟩, .string ⟨#[]⟩, .string ⟨#[]⟩, .slice none 0 0, .slice none 0 0] 27)) := by
  have hlt := ht.lt
  have hb1 := below_alloc w (.cells #[.slice P.pf P.fr.length P.cf, .slice P.pt P.tb.length P.ct] 37)
  have hb2 := below_alloc (w.alloc (.cells #[.slice P.pf P.fr.length P.cf, .slice P.pt P.tb.length P.ct] 37)) (.cells #[.int .i64 0, .int .i64 0, .bool false, .int .i64 0, .int .i64 0, .string ⟨#[]⟩, .string ⟨#[]⟩, .string ⟨#[]⟩, .slice none 0 0, .slice none 0 0] 27)
  refine ⟨⟨(ht.below hb1).below hb2, StepT.of_below hb2, ExB.new _ ex0 _, by rw [size_alloc]; omega⟩, (cell2_new _ _ _ _).low hb2, (hP.low hb1).low hb2, hlt, size_alloc _ _, hN, StepT.of_below hb1⟩
end
theorem below_but {b X : Nat} {W u v : World} (h : Below b W u) (hb : ButX X u v) (hX : b ≤ X) : Below b W v :=
  ⟨hb.os.trans h.os, hb.tape.trans h.tape, hb.output.trans h.output, by rw [hb.size]; exact h.size, fun k hk => (hb.block k (by omega)).trans (h.block k hk)⟩
/-- condition for depths so far. -/
def CwDoes (ls : List Nat) (D : Nat) : Prop := ∀ (N : Nat → Prop) (b : Nat) (P : Pl) (depth : Int) (w : World), depth + 1 ≤ D → -900 ≤ depth → P.fr.length + D ≤ 80 → 13 ≤ b → PlAt N w P → (∀ c, N c → c ≠ b) → TapeAt w b → Env ls w →
    Calls Tryz.prog 24 #[.pointer (some ⟨b, 0, none⟩), plV P, .int .i64 depth] w (AExPost b (D + 1) w)
set_option maxHeartbeats 8000000 in
theorem condition_step {D : Nat} (H : EwDoes ls D) : CwDoes ls D := by
  intro N b P depth w hd hd2 hf h8 hP hN ht hE
  have HZ := Lib.hid (size_alloc w (.cells #[.slice P.pf P.fr.length P.cf, .slice P.pt P.tb.length P.ct] 37))
  have HW := Lib.hid (EwW.start (N := N) hP hN ht)
  have HE := Lib.hid hE
  have HEW := Lib.hid H
  have hlt := ht.lt
  clear hP hN hE ht H
  unfold plV
  go_enter Tryz.func24, Tryz.ntmps24
  go_upto_region 1 with (fail)
  generalize hw0 : w.alloc (.cells #[.slice P.pf P.fr.length P.cf, .slice P.pt P.tb.length P.ct] 37) = w0 at *
  clear hw0
  generalize hw1 : w0.alloc (.cells #[.int .i64 0, .int .i64 0, .bool false, .int .i64 0, .int .i64 0, .string ⟨#[]⟩, .string ⟨#[]⟩, .string ⟨#[]⟩, .slice none 0 0, .slice none 0 0] 27) = w1 at *
  clear hw1
  go_wp2_with fail
  refine (next_any b 3 _ (by decide) (by decide) HW.out.an.tape).mono ?_
  rintro e w2 ⟨r, rfl, hr0, hr1, ht2, hs2⟩
  have HW2 := Lib.hid (HW.out.next hs2 ht2)
  clear ht2 hs2 HW
  have hsm : IntKind.i64.wrap (1 + r) = 1 + r := i64w (by omega) (by omega)
  go_wp2_with fail
  refine (next_any b 6 _ (by decide) (by decide) HW2.out.an.tape).mono ?_
  rintro e w3 ⟨k, rfl, hk0, hk1, ht3, hs3⟩
  have HW := Lib.hid (HW2.out.next hs3 ht3)
  clear ht3 hs3 HW2
  have HDW := Lib.hid (show IntKind.i64.wrap (depth - 1) = depth - 1 from i64w (by omega) (by omega))
  have HBL := Lib.hid (show b ≤ w3.drew.heap.size by have := HW.out.all.size; show b ≤ w3.heap.size; omega)
  have hbX : b < w.heap.size + 1 := by omega
  generalize hsome : 1 + r = some1 at *
  have hs1 : 1 ≤ some1 := by omega
  have hs3 : some1 ≤ 3 := by omega
  clear hsome hr0 hr1 hsm
  rcases (show k = 0 ∨ k = 1 ∨ k = 2 ∨ k = 3 ∨ 4 ≤ k by omega) with rfl | rfl | rfl | rfl | hk4
  · have hdw := HDW.out
    obtain ⟨ql, q0, q1, qf⟩ := HW.out.pb
    go_wp2_with fail
    refine (HEW.out N b P 2 (depth - 1) w3 (by omega) (by omega) (by decide) (by decide) (by omega) h8 HW.out.pl HW.out.hN HW.out.an.tape (HE.out.step HW.out.all h8)).mono ?_
    rintro e w4 ⟨E1, rfl, hE5, hV5, ht5, hs5⟩
    have HW4 := Lib.hid (HW.out.next hs5 ht5)
    have hr0 := HW.out.res.lt
    have HX4 := Lib.hid (one_ex (hE5.weak (M := fun c => (w.heap.size + 1) < c) fun c _ hc => by omega) HW4.out.res.lt 27)
    have HV := Lib.hid hV5
    clear hE5 hV5 ht5 hs5 HW ql q0 q1 qf
    dsimp only [exV]
    obtain ⟨xl, x0, x1, x2, x3, x4, x5, x6, x7, x8, x9, xf⟩ := HW4.out.res
    go_wp2
    refine ret_tree (X := (w.heap.size + 1)) (E := argEx 3 0 false (some ⟨w4.heap.size, 0, none⟩) 1 [E1]) (by have h := ten_boxA HW4.out.res (argEx 3 0 false (some ⟨w4.heap.size, 0, none⟩) 1 [E1]) (.cells #[.int .i64 E1.k, .int .i64 E1.op, .bool E1.no, .int .i64 E1.vk, .int .i64 E1.vi, .string E1.vt, .string E1.tb, .string E1.nm, .slice E1.pa E1.args.length E1.ca, .slice E1.ps E1.sub.length E1.cs] 27); simp only [ten, argEx, Ex.mk_k, Ex.mk_op, Ex.mk_no, Ex.mk_vk, Ex.mk_vi, Ex.mk_vt, Ex.mk_tb, Ex.mk_nm, Ex.mk_pa, Ex.mk_ca, Ex.mk_args, Ex.mk_ps, Ex.mk_cs, Ex.mk_sub, List.length_cons, List.length_nil] at h ⊢; exact h) (fun x0 x1 x2 x3 x4 x5 x6 x7 x8 x9 => by simp [results, Tryz.results24, go_sem, x0, x1, x2, x3, x4, x5, x6, x7, x8, x9, exV]) rfl ?_
    exact (HW4.out.low (below_alloc w4 (.cells #[.int .i64 E1.k, .int .i64 E1.op, .bool E1.no, .int .i64 E1.vk, .int .i64 E1.vi, .string E1.vt, .string E1.tb, .string E1.nm, .slice E1.pa E1.args.length E1.ca, .slice E1.ps E1.sub.length E1.cs] 27))).post (args_at (l := [E1]) (show 1 ≤ 3 by decide) HX4.out) (vOf_args (by decide) (by decide) rfl (fun h => absurd h (by decide)) (fun _ => rfl) (fun _ => rfl) (ex_all_one HV.out)) (ten_butA HW4.out.res.lt (argEx 3 0 false (some ⟨w4.heap.size, 0, none⟩) 1 [E1]) (.cells #[.int .i64 E1.k, .int .i64 E1.op, .bool E1.no, .int .i64 E1.vk, .int .i64 E1.vi, .string E1.vt, .string E1.tb, .string E1.nm, .slice E1.pa E1.args.length E1.ca, .slice E1.ps E1.sub.length E1.cs] 27)) rfl
  · have HD0 := HDW.out
    go_upto_region 6 with (fail)
    refine wp_region_rel (use := [[], [0], [1], [], [], [], [5], [3, 4, 6], [], [], [], [10], [8, 9, 11], [2, 7, 12], [13]]) (sl := [[24], [25], [26], [27], [28], [29], [30], [31], [32], [33], [34], [35], [36], [37], []]) (live := [[], [], [], [], [], [], [], [], [], [], [], [], [], [], []]) (late := [14]) (brk := [14]) (B := b) (R := RT b) (J := EwW b w w0 P N) (Φ := fun ix f u => match ix with | 0 => f 24 = .pointer (some ⟨b, 0, none⟩) | 1 => ∃ m : Nat, f 25 = .int .i64 m ∧ m < 2 | 2 => ∃ m : Int, f 26 = .int .i64 m ∧ 1 ≤ m ∧ m < 3 | 3 => f 27 = .pointer (some ⟨b, 0, none⟩) | 4 => f 28 = .agg #[.slice P.pf P.fr.length P.cf, .slice P.pt P.tb.length P.ct] | 5 => f 29 = .int .i64 depth | 6 => f 30 = .int .i64 (depth - 1) | 7 => Tv (w.heap.size + 1) D (f 31) u | 8 => f 32 = .pointer (some ⟨b, 0, none⟩) | 9 => f 33 = .agg #[.slice P.pf P.fr.length P.cf, .slice P.pt P.tb.length P.ct] | 10 => f 34 = .int .i64 depth | 11 => f 35 = .int .i64 (depth - 1) | 12 => Tv (w.heap.size + 1) D (f 36) u | 13 => Tv (w.heap.size + 1) (D + 1) (f 37) u | 14 => Dn b (D + 1) w u | _ => True) (by kernel_rfl) _ rfl (by kernel_rfl) (by kernel_rfl) (fun u v h => ⟨(rt_low (W := w3.drew) h).1, fun h1 h2 => (rt_low h).2 h1 h2 HBL.out⟩) (HW.out.rt ⟨⟨rfl, rfl, rfl, Nat.le_refl _, fun _ _ _ => rfl⟩, fun h => h⟩) (fun u v h hr => h.rt hr) ?_ ?_ ?_ ?_
    · intro jx f g u u2 hs hb h
      match jx, hs, h with
      | 0, hs, h =>
        have e24 := hs 24 (by decide)
        simp only [e24]
        exact h
      | 1, hs, h =>
        have e25 := hs 25 (by decide)
        simp only [e25]
        exact h
      | 2, hs, h =>
        have e26 := hs 26 (by decide)
        simp only [e26]
        exact h
      | 3, hs, h =>
        have e27 := hs 27 (by decide)
        simp only [e27]
        exact h
      | 4, hs, h =>
        have e28 := hs 28 (by decide)
        simp only [e28]
        exact h
      | 5, hs, h =>
        have e29 := hs 29 (by decide)
        simp only [e29]
        exact h
      | 6, hs, h =>
        have e30 := hs 30 (by decide)
        simp only [e30]
        exact h
      | 7, hs, h =>
        have e31 := hs 31 (by decide)
        simp only [e31]
        exact h.rt hb hbX
      | 8, hs, h =>
        have e32 := hs 32 (by decide)
        simp only [e32]
        exact h
      | 9, hs, h =>
        have e33 := hs 33 (by decide)
        simp only [e33]
        exact h
      | 10, hs, h =>
        have e34 := hs 34 (by decide)
        simp only [e34]
        exact h
      | 11, hs, h =>
        have e35 := hs 35 (by decide)
        simp only [e35]
        exact h
      | 12, hs, h =>
        have e36 := hs 36 (by decide)
        simp only [e36]
        exact h.rt hb hbX
      | 13, hs, h =>
        have e37 := hs 37 (by decide)
        simp only [e37]
        exact h.rt hb hbX
      | 14, hs, h =>
        exact h.rt hb hbX
      | _ + 15, _, h => exact h
    · intro ix o hix hne f u hold hbe hgr hJ huse
      obtain ⟨kt, kc, kf⟩ := evF_all f
      match ix, hix, hne with
      | 0, hix, _ =>
        simp only [List.getElem?_cons_zero, Option.some.injEq] at hix
        subst hix
        have h0 : f 0 = .pointer (some ⟨b, 0, none⟩) := (hold 0 (by kernel_rfl)).trans rfl
        clear hold
        refine gives_K fun K hK => ?_
        go_simp
        refine gives_value (hK _ _ ⟨RT.refl _ _, ?_⟩)
        exact upF_self _ _ _
      | 1, hix, _ =>
        simp only [List.getElem?_cons_zero, List.getElem?_cons_succ, Option.some.injEq] at hix
        subst hix
        have u0 := huse 0 (by decide)
        simp only at u0
        have hJw := hJ (by kernel_rfl)
        refine gives_K fun K hK => ?_
        go_simp
        refine gives_enter ((next_any b 2 u (by decide) (by decide) hJw.an.tape).mono ?_)
        rintro e' w3 ⟨r, rfl, h0, h1, ht3, hs3⟩
        exact ⟨_, rfl, hK _ _ ⟨⟨hs3, fun _ => ht3⟩, r.toNat, by rw [upF_self, Int.toNat_of_nonneg h0], by omega⟩⟩
      | 2, hix, _ =>
        simp only [List.getElem?_cons_zero, List.getElem?_cons_succ, Option.some.injEq] at hix
        subst hix
        have u1 := huse 1 (by decide)
        simp only at u1
        obtain ⟨m, hm, hml⟩ := u1
        have hw : IntKind.i64.wrap (1 + (m : Int)) = 1 + (m : Int) := i64w (by omega) (by omega)
        refine gives_K fun K hK => ?_
        go_simp
        refine gives_value (hK _ _ ⟨RT.refl _ _, _, upF_self _ _ _, ?_, ?_⟩)
        · omega
        · omega
      | 3, hix, _ =>
        simp only [List.getElem?_cons_zero, List.getElem?_cons_succ, Option.some.injEq] at hix
        subst hix
        have h0 : f 0 = .pointer (some ⟨b, 0, none⟩) := (hold 0 (by kernel_rfl)).trans rfl
        clear hold
        refine gives_K fun K hK => ?_
        go_simp
        refine gives_value (hK _ _ ⟨RT.refl _ _, ?_⟩)
        exact upF_self _ _ _
      | 4, hix, _ =>
        simp only [List.getElem?_cons_zero, List.getElem?_cons_succ, Option.some.injEq] at hix
        subst hix
        obtain ⟨ql, q0, q1, qf⟩ := (hJ (by kernel_rfl)).pb
        have h4 : f 4 = .pointer (some ⟨w.heap.size, 0, none⟩) := (hold 4 (by kernel_rfl)).trans rfl
        clear hold
        refine gives_K fun K hK => ?_
        go_simp
        refine gives_value (hK _ _ ⟨RT.refl _ _, ?_⟩)
        exact upF_self _ _ _
      | 5, hix, _ =>
        simp only [List.getElem?_cons_zero, List.getElem?_cons_succ, Option.some.injEq] at hix
        subst hix
        have h2 : f 2 = .int .i64 depth := (hold 2 (by kernel_rfl)).trans rfl
        clear hold
        refine gives_K fun K hK => ?_
        go_simp
        refine gives_value (hK _ _ ⟨RT.refl _ _, ?_⟩)
        exact upF_self _ _ _
      | 6, hix, _ =>
        simp only [List.getElem?_cons_zero, List.getElem?_cons_succ, Option.some.injEq] at hix
        subst hix
        have u5 := huse 5 (by decide)
        simp only at u5
        have hdw := HDW.out
        refine gives_K fun K hK => ?_
        go_simp
        refine gives_value (hK _ _ ⟨RT.refl _ _, ?_⟩)
        exact upF_self _ _ _
      | 7, hix, _ =>
        simp only [List.getElem?_cons_zero, List.getElem?_cons_succ, Option.some.injEq] at hix
        subst hix
        have u3 := huse 3 (by decide)
        have u4 := huse 4 (by decide)
        have u6 := huse 6 (by decide)
        simp only at u3 u4 u6
        have hJw := hJ (by kernel_rfl)
        have hr0 := hJw.res.lt
        have HC := HEW.out N b P 2 (depth - 1) u (by omega) (by omega) (by omega) (by omega) (by omega) h8 hJw.pl hJw.hN hJw.an.tape (HE.out.step hJw.all h8)
        unfold plV at HC
        refine gives_K fun K hK => ?_
        go_simp
        refine gives_enter (HC.mono ?_)
        rintro e' w3 ⟨E1, rfl, hE5, hV5, ht5, hs5⟩
        exact ⟨_, rfl, hK _ _ ⟨⟨hs5, fun _ => ht5⟩, by rw [upF_self]; exact ⟨E1, rfl, hE5.weak fun c _ hc => by omega, hV5⟩⟩⟩
      | 8, hix, _ =>
        simp only [List.getElem?_cons_zero, List.getElem?_cons_succ, Option.some.injEq] at hix
        subst hix
        have h0 : f 0 = .pointer (some ⟨b, 0, none⟩) := (hold 0 (by kernel_rfl)).trans rfl
        clear hold
        refine gives_K fun K hK => ?_
        go_simp
        refine gives_value (hK _ _ ⟨RT.refl _ _, ?_⟩)
        exact upF_self _ _ _
      | 9, hix, _ =>
        simp only [List.getElem?_cons_zero, List.getElem?_cons_succ, Option.some.injEq] at hix
        subst hix
        obtain ⟨ql, q0, q1, qf⟩ := (hJ (by kernel_rfl)).pb
        have h4 : f 4 = .pointer (some ⟨w.heap.size, 0, none⟩) := (hold 4 (by kernel_rfl)).trans rfl
        clear hold
        refine gives_K fun K hK => ?_
        go_simp
        refine gives_value (hK _ _ ⟨RT.refl _ _, ?_⟩)
        exact upF_self _ _ _
      | 10, hix, _ =>
        simp only [List.getElem?_cons_zero, List.getElem?_cons_succ, Option.some.injEq] at hix
        subst hix
        have h2 : f 2 = .int .i64 depth := (hold 2 (by kernel_rfl)).trans rfl
        clear hold
        refine gives_K fun K hK => ?_
        go_simp
        refine gives_value (hK _ _ ⟨RT.refl _ _, ?_⟩)
        exact upF_self _ _ _
      | 11, hix, _ =>
        simp only [List.getElem?_cons_zero, List.getElem?_cons_succ, Option.some.injEq] at hix
        subst hix
        have u10 := huse 10 (by decide)
        simp only at u10
        have hdw := HDW.out
        refine gives_K fun K hK => ?_
        go_simp
        refine gives_value (hK _ _ ⟨RT.refl _ _, ?_⟩)
        exact upF_self _ _ _
      | 12, hix, _ =>
        simp only [List.getElem?_cons_zero, List.getElem?_cons_succ, Option.some.injEq] at hix
        subst hix
        have u8 := huse 8 (by decide)
        have u9 := huse 9 (by decide)
        have u11 := huse 11 (by decide)
        simp only at u8 u9 u11
        have hJw := hJ (by kernel_rfl)
        have hr0 := hJw.res.lt
        have HC := HEW.out N b P 2 (depth - 1) u (by omega) (by omega) (by omega) (by omega) (by omega) h8 hJw.pl hJw.hN hJw.an.tape (HE.out.step hJw.all h8)
        unfold plV at HC
        refine gives_K fun K hK => ?_
        go_simp
        refine gives_enter (HC.mono ?_)
        rintro e' w3 ⟨E1, rfl, hE5, hV5, ht5, hs5⟩
        exact ⟨_, rfl, hK _ _ ⟨⟨hs5, fun _ => ht5⟩, by rw [upF_self]; exact ⟨E1, rfl, hE5.weak fun c _ hc => by omega, hV5⟩⟩⟩
      | 13, hix, _ =>
        simp only [List.getElem?_cons_zero, List.getElem?_cons_succ, Option.some.injEq] at hix
        subst hix
        have u2 := huse 2 (by decide)
        have u7 := huse 7 (by decide)
        have u12 := huse 12 (by decide)
        simp only at u2 u7 u12
        have hJw := hJ (by kernel_rfl)
        have hr0 := hJw.res.lt
        obtain ⟨m, hm, hm1, hm2⟩ := u2
        obtain ⟨E, hE, hE1, hE2⟩ := u7
        obtain ⟨F, hF, hF1, hF2⟩ := u12
        have HC := bin_any m E F u
        unfold exV at HC hE hF
        refine gives_K fun K hK => ?_
        go_simp
        refine gives_enter (HC.mono ?_)
        rintro e' w3 ⟨g, rfl, hg, hgl, hA, hB, hb3⟩
        have hl : LAt (fun c => (w.heap.size + 1) < c) w3 (ExAt (fun c => (w.heap.size + 1) < c) w3 D) (some ⟨g, 0, none⟩) [E, F] := two_at hgl (by omega) hA hB (hE1.low hb3) (hF1.low hb3)
        exact ⟨_, rfl, hK _ _ ⟨RT.low hb3, argEx 5 m false (some ⟨g, 0, none⟩) 2 [E, F], by rw [upF_self]; rfl, args_at (l := [E, F]) (show 2 ≤ 3 by decide) hl, vOf_args (by decide) (by decide) rfl (fun _ => by omega) (fun h => absurd rfl h) (fun _ => rfl) (ex_all_two hE2 hF2)⟩⟩
      | 14, _, hne => exact absurd (by decide) hne
      | ix + 15, hix, _ => simp at hix
    · intro ix o hix hin f u hold hbe hgr hJ huse
      obtain ⟨kt, kc, kf⟩ := evF_all f
      match ix, hix, hin with
      | 0, _, hin => exact absurd hin (by decide)
      | 1, _, hin => exact absurd hin (by decide)
      | 2, _, hin => exact absurd hin (by decide)
      | 3, _, hin => exact absurd hin (by decide)
      | 4, _, hin => exact absurd hin (by decide)
      | 5, _, hin => exact absurd hin (by decide)
      | 6, _, hin => exact absurd hin (by decide)
      | 7, _, hin => exact absurd hin (by decide)
      | 8, _, hin => exact absurd hin (by decide)
      | 9, _, hin => exact absurd hin (by decide)
      | 10, _, hin => exact absurd hin (by decide)
      | 11, _, hin => exact absurd hin (by decide)
      | 12, _, hin => exact absurd hin (by decide)
      | 13, _, hin => exact absurd hin (by decide)
      | 14, hix, _ =>
        simp only [List.getElem?_cons_zero, List.getElem?_cons_succ, Option.some.injEq] at hix
        subst hix
        have u13 := huse 13 (by decide)
        simp only at u13
        have hJw := hJ (by kernel_rfl)
        obtain ⟨E, hE, hE1, hE2⟩ := u13
        have HDN := Lib.hid (hJw.dn hE1 hE2)
        unfold exV at hE
        obtain ⟨xl, x0, x1, x2, x3, x4, x5, x6, x7, x8, x9, xf⟩ := hJw.res
        have h6 : f 6 = .pointer (some ⟨(w.heap.size + 1), 0, none⟩) := (hold 6 (by kernel_rfl)).trans rfl
        clear hold
        have hlb := hJw.lt
        have hz0 := hJw.sz
        clear hE1 hE2 hJw
        refine gives_K fun K hK => ?_
        go_simp
        refine gives_skip (hK _ _ ⟨Nat.le_of_eq (ten_but u (w.heap.size + 1) E).size.symm, below_but hbe (ten_but u (w.heap.size + 1) E) (by omega), HDN.out, fun hbk => absurd (by decide) hbk, ?_⟩)
        intro jx hji hl hr hs h
        match jx, hji, hl, hr, hs, h with
        | 0, _, hl, _, _, _ => exact absurd hl (by decide)
        | 1, _, hl, _, _, _ => exact absurd hl (by decide)
        | 2, _, hl, _, _, _ => exact absurd hl (by decide)
        | 3, _, hl, _, _, _ => exact absurd hl (by decide)
        | 4, _, hl, _, _, _ => exact absurd hl (by decide)
        | 5, _, hl, _, _, _ => exact absurd hl (by decide)
        | 6, _, hl, _, _, _ => exact absurd hl (by decide)
        | 7, _, hl, _, _, _ => exact absurd hl (by decide)
        | 8, _, hl, _, _, _ => exact absurd hl (by decide)
        | 9, _, hl, _, _, _ => exact absurd hl (by decide)
        | 10, _, hl, _, _, _ => exact absurd hl (by decide)
        | 11, _, hl, _, _, _ => exact absurd hl (by decide)
        | 12, _, hl, _, _, _ => exact absurd hl (by decide)
        | 13, _, hl, _, _, _ => exact absurd hl (by decide)
        | 14, hji, _, _, _, _ => exact absurd rfl hji
        | jx + 15, _, hl, _, _, _ => exact absurd hl (by simp)
      | ix + 15, hix, _ => simp at hix
    · intro f2 u2 hbe hall
      have u14 := hall 14 (by decide) (by kernel_rfl)
      simp only at u14
      clear hall
      simp only [putAll, List.foldl_cons, List.foldl_nil, Act.put, List.setIfInBounds_toArray, List.set_cons_succ, List.set_cons_zero]
      obtain ⟨E, hBX, hPO⟩ := Dn.post u14
      have HPO := Lib.hid hPO
      have HBX := Lib.hid hBX
      clear hBX hPO u14
      obtain ⟨xl, x0, x1, x2, x3, x4, x5, x6, x7, x8, x9, xf⟩ := HBX.out
      go_wp2
      refine ret_tree (X := (w.heap.size + 1)) (E := E) HBX.out (fun x0 x1 x2 x3 x4 x5 x6 x7 x8 x9 => by simp [results, Tryz.results24, go_sem, x0, x1, x2, x3, x4, x5, x6, x7, x8, x9, exV]) rfl HPO.out
  · have HD0 := HDW.out
    go_upto_region 8 with (fail)
    refine wp_region_rel (use := [[], [0], [], [], [], [], [5], [2, 3, 4, 6], [7], [1, 8], [9]]) (sl := [[40], [41], [42], [43], [44], [45], [46], [47], [48], [49], []]) (live := [[], [], [], [], [], [], [], [], [], [], []]) (late := [10]) (brk := [10]) (B := b) (R := RT b) (J := EwW b w w0 P N) (Φ := fun ix f u => match ix with | 0 => f 40 = .pointer (some ⟨b, 0, none⟩) | 1 => ∃ q : Bool, f 41 = .bool q | 2 => f 42 = .pointer (some ⟨b, 0, none⟩) | 3 => f 43 = .agg #[.slice P.pf P.fr.length P.cf, .slice P.pt P.tb.length P.ct] | 4 => f 44 = .int .i64 some1 | 5 => f 45 = .int .i64 depth | 6 => f 46 = .int .i64 (depth - 1) | 7 => Tv (w.heap.size + 1) D (f 47) u | 8 => ∃ (g : Nat) (E : Ex), f 48 = .slice (some ⟨g, 0, none⟩) 1 1 ∧ LAt (fun c => (w.heap.size + 1) < c) u (ExAt (fun c => (w.heap.size + 1) < c) u D) (some ⟨g, 0, none⟩) [E] ∧ vE D E = true | 9 => Tv (w.heap.size + 1) (D + 1) (f 49) u | 10 => Dn b (D + 1) w u | _ => True) (by kernel_rfl) _ rfl (by kernel_rfl) (by kernel_rfl) (fun u v h => ⟨(rt_low (W := w3.drew) h).1, fun h1 h2 => (rt_low h).2 h1 h2 HBL.out⟩) (HW.out.rt ⟨⟨rfl, rfl, rfl, Nat.le_refl _, fun _ _ _ => rfl⟩, fun h => h⟩) (fun u v h hr => h.rt hr) ?_ ?_ ?_ ?_
    · intro jx f g u u2 hs hb h
      match jx, hs, h with
      | 0, hs, h =>
        have e40 := hs 40 (by decide)
        simp only [e40]
        exact h
      | 1, hs, h =>
        have e41 := hs 41 (by decide)
        simp only [e41]
        exact h
      | 2, hs, h =>
        have e42 := hs 42 (by decide)
        simp only [e42]
        exact h
      | 3, hs, h =>
        have e43 := hs 43 (by decide)
        simp only [e43]
        exact h
      | 4, hs, h =>
        have e44 := hs 44 (by decide)
        simp only [e44]
        exact h
      | 5, hs, h =>
        have e45 := hs 45 (by decide)
        simp only [e45]
        exact h
      | 6, hs, h =>
        have e46 := hs 46 (by decide)
        simp only [e46]
        exact h
      | 7, hs, h =>
        have e47 := hs 47 (by decide)
        simp only [e47]
        exact h.rt hb hbX
      | 8, hs, h =>
        have e48 := hs 48 (by decide)
        simp only [e48]
        exact (by obtain ⟨g, E, h1, h2, h3⟩ := h; exact ⟨g, E, h1, h2.step hb.step (fun c hc => by omega), h3⟩)
      | 9, hs, h =>
        have e49 := hs 49 (by decide)
        simp only [e49]
        exact h.rt hb hbX
      | 10, hs, h =>
        exact h.rt hb hbX
      | _ + 11, _, h => exact h
    · intro ix o hix hne f u hold hbe hgr hJ huse
      obtain ⟨kt, kc, kf⟩ := evF_all f
      match ix, hix, hne with
      | 0, hix, _ =>
        simp only [List.getElem?_cons_zero, Option.some.injEq] at hix
        subst hix
        have h0 : f 0 = .pointer (some ⟨b, 0, none⟩) := (hold 0 (by kernel_rfl)).trans rfl
        clear hold
        refine gives_K fun K hK => ?_
        go_simp
        refine gives_value (hK _ _ ⟨RT.refl _ _, ?_⟩)
        exact upF_self _ _ _
      | 1, hix, _ =>
        simp only [List.getElem?_cons_zero, List.getElem?_cons_succ, Option.some.injEq] at hix
        subst hix
        have u0 := huse 0 (by decide)
        simp only at u0
        have hJw := hJ (by kernel_rfl)
        refine gives_K fun K hK => ?_
        go_simp
        refine gives_enter ((tbool_any b 2 u (by decide) (by decide) hJw.an.tape).mono ?_)
        rintro e' w3 ⟨r, rfl, ht3, hs3⟩
        exact ⟨_, rfl, hK _ _ ⟨⟨hs3, fun _ => ht3⟩, r, upF_self _ _ _⟩⟩
      | 2, hix, _ =>
        simp only [List.getElem?_cons_zero, List.getElem?_cons_succ, Option.some.injEq] at hix
        subst hix
        have h0 : f 0 = .pointer (some ⟨b, 0, none⟩) := (hold 0 (by kernel_rfl)).trans rfl
        clear hold
        refine gives_K fun K hK => ?_
        go_simp
        refine gives_value (hK _ _ ⟨RT.refl _ _, ?_⟩)
        exact upF_self _ _ _
      | 3, hix, _ =>
        simp only [List.getElem?_cons_zero, List.getElem?_cons_succ, Option.some.injEq] at hix
        subst hix
        obtain ⟨ql, q0, q1, qf⟩ := (hJ (by kernel_rfl)).pb
        have h4 : f 4 = .pointer (some ⟨w.heap.size, 0, none⟩) := (hold 4 (by kernel_rfl)).trans rfl
        clear hold
        refine gives_K fun K hK => ?_
        go_simp
        refine gives_value (hK _ _ ⟨RT.refl _ _, ?_⟩)
        exact upF_self _ _ _
      | 4, hix, _ =>
        simp only [List.getElem?_cons_zero, List.getElem?_cons_succ, Option.some.injEq] at hix
        subst hix
        have h7 : f 7 = .int .i64 some1 := (hold 7 (by kernel_rfl)).trans rfl
        clear hold
        refine gives_K fun K hK => ?_
        go_simp
        refine gives_value (hK _ _ ⟨RT.refl _ _, ?_⟩)
        exact upF_self _ _ _
      | 5, hix, _ =>
        simp only [List.getElem?_cons_zero, List.getElem?_cons_succ, Option.some.injEq] at hix
        subst hix
        have h2 : f 2 = .int .i64 depth := (hold 2 (by kernel_rfl)).trans rfl
        clear hold
        refine gives_K fun K hK => ?_
        go_simp
        refine gives_value (hK _ _ ⟨RT.refl _ _, ?_⟩)
        exact upF_self _ _ _
      | 6, hix, _ =>
        simp only [List.getElem?_cons_zero, List.getElem?_cons_succ, Option.some.injEq] at hix
        subst hix
        have u5 := huse 5 (by decide)
        simp only at u5
        have hdw := HDW.out
        refine gives_K fun K hK => ?_
        go_simp
        refine gives_value (hK _ _ ⟨RT.refl _ _, ?_⟩)
        exact upF_self _ _ _
      | 7, hix, _ =>
        simp only [List.getElem?_cons_zero, List.getElem?_cons_succ, Option.some.injEq] at hix
        subst hix
        have u2 := huse 2 (by decide)
        have u3 := huse 3 (by decide)
        have u4 := huse 4 (by decide)
        have u6 := huse 6 (by decide)
        simp only at u2 u3 u4 u6
        have hJw := hJ (by kernel_rfl)
        have hr0 := hJw.res.lt
        have HC := HEW.out N b P some1 (depth - 1) u (by omega) (by omega) (by omega) (by omega) (by omega) h8 hJw.pl hJw.hN hJw.an.tape (HE.out.step hJw.all h8)
        unfold plV at HC
        refine gives_K fun K hK => ?_
        go_simp
        refine gives_enter (HC.mono ?_)
        rintro e' w3 ⟨E1, rfl, hE5, hV5, ht5, hs5⟩
        exact ⟨_, rfl, hK _ _ ⟨⟨hs5, fun _ => ht5⟩, by rw [upF_self]; exact ⟨E1, rfl, hE5.weak fun c _ hc => by omega, hV5⟩⟩⟩
      | 8, hix, _ =>
        simp only [List.getElem?_cons_zero, List.getElem?_cons_succ, Option.some.injEq] at hix
        subst hix
        have u7 := huse 7 (by decide)
        simp only at u7
        have hJw := hJ (by kernel_rfl)
        have hr0 := hJw.res.lt
        obtain ⟨E, hE, hE1, hE2⟩ := u7
        unfold exV at hE
        refine gives_K fun K hK => ?_
        go_simp
        exact gives_value (hK _ _ ⟨RT.low (below_alloc _ _), u.heap.size, E, by rw [upF_self], one_ex hE1 hr0 27, hE2⟩)
      | 9, hix, _ =>
        simp only [List.getElem?_cons_zero, List.getElem?_cons_succ, Option.some.injEq] at hix
        subst hix
        have u1 := huse 1 (by decide)
        have u8 := huse 8 (by decide)
        simp only at u1 u8
        obtain ⟨q, hq⟩ := u1
        obtain ⟨g, E, h48, hl, hv⟩ := u8
        refine gives_K fun K hK => ?_
        go_simp
        exact gives_value (hK _ _ ⟨RT.refl _ _, argEx 6 0 q (some ⟨g, 0, none⟩) 1 [E], by rw [upF_self]; rfl, args_at (l := [E]) (show 1 ≤ 3 by decide) hl, vOf_args (by decide) (by decide) rfl (fun h => absurd h (by decide)) (fun _ => rfl) (fun h => absurd rfl h) (ex_all_one hv)⟩)
      | 10, _, hne => exact absurd (by decide) hne
      | ix + 11, hix, _ => simp at hix
    · intro ix o hix hin f u hold hbe hgr hJ huse
      obtain ⟨kt, kc, kf⟩ := evF_all f
      match ix, hix, hin with
      | 0, _, hin => exact absurd hin (by decide)
      | 1, _, hin => exact absurd hin (by decide)
      | 2, _, hin => exact absurd hin (by decide)
      | 3, _, hin => exact absurd hin (by decide)
      | 4, _, hin => exact absurd hin (by decide)
      | 5, _, hin => exact absurd hin (by decide)
      | 6, _, hin => exact absurd hin (by decide)
      | 7, _, hin => exact absurd hin (by decide)
      | 8, _, hin => exact absurd hin (by decide)
      | 9, _, hin => exact absurd hin (by decide)
      | 10, hix, _ =>
        simp only [List.getElem?_cons_zero, List.getElem?_cons_succ, Option.some.injEq] at hix
        subst hix
        have u9 := huse 9 (by decide)
        simp only at u9
        have hJw := hJ (by kernel_rfl)
        obtain ⟨E, hE, hE1, hE2⟩ := u9
        have HDN := Lib.hid (hJw.dn hE1 hE2)
        unfold exV at hE
        obtain ⟨xl, x0, x1, x2, x3, x4, x5, x6, x7, x8, x9, xf⟩ := hJw.res
        have h6 : f 6 = .pointer (some ⟨(w.heap.size + 1), 0, none⟩) := (hold 6 (by kernel_rfl)).trans rfl
        clear hold
        have hlb := hJw.lt
        have hz0 := hJw.sz
        clear hE1 hE2 hJw
        refine gives_K fun K hK => ?_
        go_simp
        refine gives_skip (hK _ _ ⟨Nat.le_of_eq (ten_but u (w.heap.size + 1) E).size.symm, below_but hbe (ten_but u (w.heap.size + 1) E) (by omega), HDN.out, fun hbk => absurd (by decide) hbk, ?_⟩)
        intro jx hji hl hr hs h
        match jx, hji, hl, hr, hs, h with
        | 0, _, hl, _, _, _ => exact absurd hl (by decide)
        | 1, _, hl, _, _, _ => exact absurd hl (by decide)
        | 2, _, hl, _, _, _ => exact absurd hl (by decide)
        | 3, _, hl, _, _, _ => exact absurd hl (by decide)
        | 4, _, hl, _, _, _ => exact absurd hl (by decide)
        | 5, _, hl, _, _, _ => exact absurd hl (by decide)
        | 6, _, hl, _, _, _ => exact absurd hl (by decide)
        | 7, _, hl, _, _, _ => exact absurd hl (by decide)
        | 8, _, hl, _, _, _ => exact absurd hl (by decide)
        | 9, _, hl, _, _, _ => exact absurd hl (by decide)
        | 10, hji, _, _, _, _ => exact absurd rfl hji
        | jx + 11, _, hl, _, _, _ => exact absurd hl (by simp)
      | ix + 11, hix, _ => simp at hix
    · intro f2 u2 hbe hall
      have u10 := hall 10 (by decide) (by kernel_rfl)
      simp only at u10
      clear hall
      simp only [putAll, List.foldl_cons, List.foldl_nil, Act.put, List.setIfInBounds_toArray, List.set_cons_succ, List.set_cons_zero]
      obtain ⟨E, hBX, hPO⟩ := Dn.post u10
      have HPO := Lib.hid hPO
      have HBX := Lib.hid hBX
      clear hBX hPO u10
      obtain ⟨xl, x0, x1, x2, x3, x4, x5, x6, x7, x8, x9, xf⟩ := HBX.out
      go_wp2
      refine ret_tree (X := (w.heap.size + 1)) (E := E) HBX.out (fun x0 x1 x2 x3 x4 x5 x6 x7 x8 x9 => by simp [results, Tryz.results24, go_sem, x0, x1, x2, x3, x4, x5, x6, x7, x8, x9, exV]) rfl HPO.out
  · have HD0 := HDW.out
    go_upto_region 10 with (fail)
    refine wp_region_rel (use := [[], [], [], [2], [0, 1, 3], [], [], [], [7], [5, 6, 8], [], [], [], [12], [10, 11, 13], [4, 9, 14], [15], [16]]) (sl := [[52], [53], [54], [55], [56], [57], [58], [59], [60], [61], [62], [63], [64], [65], [66], [67], [68], []]) (live := [[], [], [], [], [], [], [], [], [], [], [], [], [], [], [], [], [], []]) (late := [17]) (brk := [17]) (B := b) (R := RT b) (J := EwW b w w0 P N) (Φ := fun ix f u => match ix with | 0 => f 52 = .pointer (some ⟨b, 0, none⟩) | 1 => f 53 = .agg #[.slice P.pf P.fr.length P.cf, .slice P.pt P.tb.length P.ct] | 2 => f 54 = .int .i64 depth | 3 => f 55 = .int .i64 (depth - 1) | 4 => Tv (w.heap.size + 1) D (f 56) u | 5 => f 57 = .pointer (some ⟨b, 0, none⟩) | 6 => f 58 = .agg #[.slice P.pf P.fr.length P.cf, .slice P.pt P.tb.length P.ct] | 7 => f 59 = .int .i64 depth | 8 => f 60 = .int .i64 (depth - 1) | 9 => Tv (w.heap.size + 1) D (f 61) u | 10 => f 62 = .pointer (some ⟨b, 0, none⟩) | 11 => f 63 = .agg #[.slice P.pf P.fr.length P.cf, .slice P.pt P.tb.length P.ct] | 12 => f 64 = .int .i64 depth | 13 => f 65 = .int .i64 (depth - 1) | 14 => Tv (w.heap.size + 1) D (f 66) u | 15 => ∃ (g : Nat) (E F G : Ex), f 67 = .slice (some ⟨g, 0, none⟩) 3 3 ∧ LAt (fun c => (w.heap.size + 1) < c) u (ExAt (fun c => (w.heap.size + 1) < c) u D) (some ⟨g, 0, none⟩) [E, F, G] ∧ vE D E = true ∧ vE D F = true ∧ vE D G = true | 16 => Tv (w.heap.size + 1) (D + 1) (f 68) u | 17 => Dn b (D + 1) w u | _ => True) (by kernel_rfl) _ rfl (by kernel_rfl) (by kernel_rfl) (fun u v h => ⟨(rt_low (W := w3.drew) h).1, fun h1 h2 => (rt_low h).2 h1 h2 HBL.out⟩) (HW.out.rt ⟨⟨rfl, rfl, rfl, Nat.le_refl _, fun _ _ _ => rfl⟩, fun h => h⟩) (fun u v h hr => h.rt hr) ?_ ?_ ?_ ?_
    · intro jx f g u u2 hs hb h
      match jx, hs, h with
      | 0, hs, h =>
        have e52 := hs 52 (by decide)
        simp only [e52]
        exact h
      | 1, hs, h =>
        have e53 := hs 53 (by decide)
        simp only [e53]
        exact h
      | 2, hs, h =>
        have e54 := hs 54 (by decide)
        simp only [e54]
        exact h
      | 3, hs, h =>
        have e55 := hs 55 (by decide)
        simp only [e55]
        exact h
      | 4, hs, h =>
        have e56 := hs 56 (by decide)
        simp only [e56]
        exact h.rt hb hbX
      | 5, hs, h =>
        have e57 := hs 57 (by decide)
        simp only [e57]
        exact h
      | 6, hs, h =>
        have e58 := hs 58 (by decide)
        simp only [e58]
        exact h
      | 7, hs, h =>
        have e59 := hs 59 (by decide)
        simp only [e59]
        exact h
      | 8, hs, h =>
        have e60 := hs 60 (by decide)
        simp only [e60]
        exact h
      | 9, hs, h =>
        have e61 := hs 61 (by decide)
        simp only [e61]
        exact h.rt hb hbX
      | 10, hs, h =>
        have e62 := hs 62 (by decide)
        simp only [e62]
        exact h
      | 11, hs, h =>
        have e63 := hs 63 (by decide)
        simp only [e63]
        exact h
      | 12, hs, h =>
        have e64 := hs 64 (by decide)
        simp only [e64]
        exact h
      | 13, hs, h =>
        have e65 := hs 65 (by decide)
        simp only [e65]
        exact h
      | 14, hs, h =>
        have e66 := hs 66 (by decide)
        simp only [e66]
        exact h.rt hb hbX
      | 15, hs, h =>
        have e67 := hs 67 (by decide)
        simp only [e67]
        exact (by obtain ⟨g, E, F, G, h1, h2, h3⟩ := h; exact ⟨g, E, F, G, h1, h2.step hb.step (fun c hc => by omega), h3⟩)
      | 16, hs, h =>
        have e68 := hs 68 (by decide)
        simp only [e68]
        exact h.rt hb hbX
      | 17, hs, h =>
        exact h.rt hb hbX
      | _ + 18, _, h => exact h
    · intro ix o hix hne f u hold hbe hgr hJ huse
      obtain ⟨kt, kc, kf⟩ := evF_all f
      match ix, hix, hne with
      | 0, hix, _ =>
        simp only [List.getElem?_cons_zero, Option.some.injEq] at hix
        subst hix
        have h0 : f 0 = .pointer (some ⟨b, 0, none⟩) := (hold 0 (by kernel_rfl)).trans rfl
        clear hold
        refine gives_K fun K hK => ?_
        go_simp
        refine gives_value (hK _ _ ⟨RT.refl _ _, ?_⟩)
        exact upF_self _ _ _
      | 1, hix, _ =>
        simp only [List.getElem?_cons_zero, List.getElem?_cons_succ, Option.some.injEq] at hix
        subst hix
        obtain ⟨ql, q0, q1, qf⟩ := (hJ (by kernel_rfl)).pb
        have h4 : f 4 = .pointer (some ⟨w.heap.size, 0, none⟩) := (hold 4 (by kernel_rfl)).trans rfl
        clear hold
        refine gives_K fun K hK => ?_
        go_simp
        refine gives_value (hK _ _ ⟨RT.refl _ _, ?_⟩)
        exact upF_self _ _ _
      | 2, hix, _ =>
        simp only [List.getElem?_cons_zero, List.getElem?_cons_succ, Option.some.injEq] at hix
        subst hix
        have h2 : f 2 = .int .i64 depth := (hold 2 (by kernel_rfl)).trans rfl
        clear hold
        refine gives_K fun K hK => ?_
        go_simp
        refine gives_value (hK _ _ ⟨RT.refl _ _, ?_⟩)
        exact upF_self _ _ _
      | 3, hix, _ =>
        simp only [List.getElem?_cons_zero, List.getElem?_cons_succ, Option.some.injEq] at hix
        subst hix
        have u2 := huse 2 (by decide)
        simp only at u2
        have hdw := HDW.out
        refine gives_K fun K hK => ?_
        go_simp
        refine gives_value (hK _ _ ⟨RT.refl _ _, ?_⟩)
        exact upF_self _ _ _
      | 4, hix, _ =>
        simp only [List.getElem?_cons_zero, List.getElem?_cons_succ, Option.some.injEq] at hix
        subst hix
        have u0 := huse 0 (by decide)
        have u1 := huse 1 (by decide)
        have u3 := huse 3 (by decide)
        simp only at u0 u1 u3
        have hJw := hJ (by kernel_rfl)
        have hr0 := hJw.res.lt
        have HC := HEW.out N b P 1 (depth - 1) u (by omega) (by omega) (by omega) (by omega) (by omega) h8 hJw.pl hJw.hN hJw.an.tape (HE.out.step hJw.all h8)
        unfold plV at HC
        refine gives_K fun K hK => ?_
        go_simp
        refine gives_enter (HC.mono ?_)
        rintro e' w3 ⟨E1, rfl, hE5, hV5, ht5, hs5⟩
        exact ⟨_, rfl, hK _ _ ⟨⟨hs5, fun _ => ht5⟩, by rw [upF_self]; exact ⟨E1, rfl, hE5.weak fun c _ hc => by omega, hV5⟩⟩⟩
      | 5, hix, _ =>
        simp only [List.getElem?_cons_zero, List.getElem?_cons_succ, Option.some.injEq] at hix
        subst hix
        have h0 : f 0 = .pointer (some ⟨b, 0, none⟩) := (hold 0 (by kernel_rfl)).trans rfl
        clear hold
        refine gives_K fun K hK => ?_
        go_simp
        refine gives_value (hK _ _ ⟨RT.refl _ _, ?_⟩)
        exact upF_self _ _ _
      | 6, hix, _ =>
        simp only [List.getElem?_cons_zero, List.getElem?_cons_succ, Option.some.injEq] at hix
        subst hix
        obtain ⟨ql, q0, q1, qf⟩ := (hJ (by kernel_rfl)).pb
        have h4 : f 4 = .pointer (some ⟨w.heap.size, 0, none⟩) := (hold 4 (by kernel_rfl)).trans rfl
        clear hold
        refine gives_K fun K hK => ?_
        go_simp
        refine gives_value (hK _ _ ⟨RT.refl _ _, ?_⟩)
        exact upF_self _ _ _
      | 7, hix, _ =>
        simp only [List.getElem?_cons_zero, List.getElem?_cons_succ, Option.some.injEq] at hix
        subst hix
        have h2 : f 2 = .int .i64 depth := (hold 2 (by kernel_rfl)).trans rfl
        clear hold
        refine gives_K fun K hK => ?_
        go_simp
        refine gives_value (hK _ _ ⟨RT.refl _ _, ?_⟩)
        exact upF_self _ _ _
      | 8, hix, _ =>
        simp only [List.getElem?_cons_zero, List.getElem?_cons_succ, Option.some.injEq] at hix
        subst hix
        have u7 := huse 7 (by decide)
        simp only at u7
        have hdw := HDW.out
        refine gives_K fun K hK => ?_
        go_simp
        refine gives_value (hK _ _ ⟨RT.refl _ _, ?_⟩)
        exact upF_self _ _ _
      | 9, hix, _ =>
        simp only [List.getElem?_cons_zero, List.getElem?_cons_succ, Option.some.injEq] at hix
        subst hix
        have u5 := huse 5 (by decide)
        have u6 := huse 6 (by decide)
        have u8 := huse 8 (by decide)
        simp only at u5 u6 u8
        have hJw := hJ (by kernel_rfl)
        have hr0 := hJw.res.lt
        have HC := HEW.out N b P 1 (depth - 1) u (by omega) (by omega) (by omega) (by omega) (by omega) h8 hJw.pl hJw.hN hJw.an.tape (HE.out.step hJw.all h8)
        unfold plV at HC
        refine gives_K fun K hK => ?_
        go_simp
        refine gives_enter (HC.mono ?_)
        rintro e' w3 ⟨E1, rfl, hE5, hV5, ht5, hs5⟩
        exact ⟨_, rfl, hK _ _ ⟨⟨hs5, fun _ => ht5⟩, by rw [upF_self]; exact ⟨E1, rfl, hE5.weak fun c _ hc => by omega, hV5⟩⟩⟩
      | 10, hix, _ =>
        simp only [List.getElem?_cons_zero, List.getElem?_cons_succ, Option.some.injEq] at hix
        subst hix
        have h0 : f 0 = .pointer (some ⟨b, 0, none⟩) := (hold 0 (by kernel_rfl)).trans rfl
        clear hold
        refine gives_K fun K hK => ?_
        go_simp
        refine gives_value (hK _ _ ⟨RT.refl _ _, ?_⟩)
        exact upF_self _ _ _
      | 11, hix, _ =>
        simp only [List.getElem?_cons_zero, List.getElem?_cons_succ, Option.some.injEq] at hix
        subst hix
        obtain ⟨ql, q0, q1, qf⟩ := (hJ (by kernel_rfl)).pb
        have h4 : f 4 = .pointer (some ⟨w.heap.size, 0, none⟩) := (hold 4 (by kernel_rfl)).trans rfl
        clear hold
        refine gives_K fun K hK => ?_
        go_simp
        refine gives_value (hK _ _ ⟨RT.refl _ _, ?_⟩)
        exact upF_self _ _ _
      | 12, hix, _ =>
        simp only [List.getElem?_cons_zero, List.getElem?_cons_succ, Option.some.injEq] at hix
        subst hix
        have h2 : f 2 = .int .i64 depth := (hold 2 (by kernel_rfl)).trans rfl
        clear hold
        refine gives_K fun K hK => ?_
        go_simp
        refine gives_value (hK _ _ ⟨RT.refl _ _, ?_⟩)
        exact upF_self _ _ _
      | 13, hix, _ =>
        simp only [List.getElem?_cons_zero, List.getElem?_cons_succ, Option.some.injEq] at hix
        subst hix
        have u12 := huse 12 (by decide)
        simp only at u12
        have hdw := HDW.out
        refine gives_K fun K hK => ?_
        go_simp
        refine gives_value (hK _ _ ⟨RT.refl _ _, ?_⟩)
        exact upF_self _ _ _
      | 14, hix, _ =>
        simp only [List.getElem?_cons_zero, List.getElem?_cons_succ, Option.some.injEq] at hix
        subst hix
        have u10 := huse 10 (by decide)
        have u11 := huse 11 (by decide)
        have u13 := huse 13 (by decide)
        simp only at u10 u11 u13
        have hJw := hJ (by kernel_rfl)
        have hr0 := hJw.res.lt
        have HC := HEW.out N b P 1 (depth - 1) u (by omega) (by omega) (by omega) (by omega) (by omega) h8 hJw.pl hJw.hN hJw.an.tape (HE.out.step hJw.all h8)
        unfold plV at HC
        refine gives_K fun K hK => ?_
        go_simp
        refine gives_enter (HC.mono ?_)
        rintro e' w3 ⟨E1, rfl, hE5, hV5, ht5, hs5⟩
        exact ⟨_, rfl, hK _ _ ⟨⟨hs5, fun _ => ht5⟩, by rw [upF_self]; exact ⟨E1, rfl, hE5.weak fun c _ hc => by omega, hV5⟩⟩⟩
      | 15, hix, _ =>
        simp only [List.getElem?_cons_zero, List.getElem?_cons_succ, Option.some.injEq] at hix
        subst hix
        have u4 := huse 4 (by decide)
        have u9 := huse 9 (by decide)
        have u14 := huse 14 (by decide)
        simp only at u4 u9 u14
        have hJw := hJ (by kernel_rfl)
        have hr0 := hJw.res.lt
        obtain ⟨E, hE, hE1, hE2⟩ := u4
        obtain ⟨F, hF, hF1, hF2⟩ := u9
        obtain ⟨G, hG, hG1, hG2⟩ := u14
        unfold exV at hE hF hG
        refine gives_K fun K hK => ?_
        go_simp
        exact gives_value (hK _ _ ⟨RT.low (below_alloc _ _), u.heap.size, E, F, G, by rw [upF_self], three_ex hE1 hF1 hG1 hr0 27, hE2, hF2, hG2⟩)
      | 16, hix, _ =>
        simp only [List.getElem?_cons_zero, List.getElem?_cons_succ, Option.some.injEq] at hix
        subst hix
        have u15 := huse 15 (by decide)
        simp only at u15
        obtain ⟨g, E, F, G, h67, hl, hv1, hv2, hv3⟩ := u15
        refine gives_K fun K hK => ?_
        go_simp
        exact gives_value (hK _ _ ⟨RT.refl _ _, argEx 7 0 false (some ⟨g, 0, none⟩) 3 [E, F, G], by rw [upF_self]; rfl, args_at (l := [E, F, G]) (show 3 ≤ 3 by decide) hl, vOf_args (by decide) (by decide) rfl (fun h => absurd h (by decide)) (fun _ => rfl) (fun _ => rfl) (ex_all_three hv1 hv2 hv3)⟩)
      | 17, _, hne => exact absurd (by decide) hne
      | ix + 18, hix, _ => simp at hix
    · intro ix o hix hin f u hold hbe hgr hJ huse
      obtain ⟨kt, kc, kf⟩ := evF_all f
      match ix, hix, hin with
      | 0, _, hin => exact absurd hin (by decide)
      | 1, _, hin => exact absurd hin (by decide)
      | 2, _, hin => exact absurd hin (by decide)
      | 3, _, hin => exact absurd hin (by decide)
      | 4, _, hin => exact absurd hin (by decide)
      | 5, _, hin => exact absurd hin (by decide)
      | 6, _, hin => exact absurd hin (by decide)
      | 7, _, hin => exact absurd hin (by decide)
      | 8, _, hin => exact absurd hin (by decide)
      | 9, _, hin => exact absurd hin (by decide)
      | 10, _, hin => exact absurd hin (by decide)
      | 11, _, hin => exact absurd hin (by decide)
      | 12, _, hin => exact absurd hin (by decide)
      | 13, _, hin => exact absurd hin (by decide)
      | 14, _, hin => exact absurd hin (by decide)
      | 15, _, hin => exact absurd hin (by decide)
      | 16, _, hin => exact absurd hin (by decide)
      | 17, hix, _ =>
        simp only [List.getElem?_cons_zero, List.getElem?_cons_succ, Option.some.injEq] at hix
        subst hix
        have u16 := huse 16 (by decide)
        simp only at u16
        have hJw := hJ (by kernel_rfl)
        obtain ⟨E, hE, hE1, hE2⟩ := u16
        have HDN := Lib.hid (hJw.dn hE1 hE2)
        unfold exV at hE
        obtain ⟨xl, x0, x1, x2, x3, x4, x5, x6, x7, x8, x9, xf⟩ := hJw.res
        have h6 : f 6 = .pointer (some ⟨(w.heap.size + 1), 0, none⟩) := (hold 6 (by kernel_rfl)).trans rfl
        clear hold
        have hlb := hJw.lt
        have hz0 := hJw.sz
        clear hE1 hE2 hJw
        refine gives_K fun K hK => ?_
        go_simp
        refine gives_skip (hK _ _ ⟨Nat.le_of_eq (ten_but u (w.heap.size + 1) E).size.symm, below_but hbe (ten_but u (w.heap.size + 1) E) (by omega), HDN.out, fun hbk => absurd (by decide) hbk, ?_⟩)
        intro jx hji hl hr hs h
        match jx, hji, hl, hr, hs, h with
        | 0, _, hl, _, _, _ => exact absurd hl (by decide)
        | 1, _, hl, _, _, _ => exact absurd hl (by decide)
        | 2, _, hl, _, _, _ => exact absurd hl (by decide)
        | 3, _, hl, _, _, _ => exact absurd hl (by decide)
        | 4, _, hl, _, _, _ => exact absurd hl (by decide)
        | 5, _, hl, _, _, _ => exact absurd hl (by decide)
        | 6, _, hl, _, _, _ => exact absurd hl (by decide)
        | 7, _, hl, _, _, _ => exact absurd hl (by decide)
        | 8, _, hl, _, _, _ => exact absurd hl (by decide)
        | 9, _, hl, _, _, _ => exact absurd hl (by decide)
        | 10, _, hl, _, _, _ => exact absurd hl (by decide)
        | 11, _, hl, _, _, _ => exact absurd hl (by decide)
        | 12, _, hl, _, _, _ => exact absurd hl (by decide)
        | 13, _, hl, _, _, _ => exact absurd hl (by decide)
        | 14, _, hl, _, _, _ => exact absurd hl (by decide)
        | 15, _, hl, _, _, _ => exact absurd hl (by decide)
        | 16, _, hl, _, _, _ => exact absurd hl (by decide)
        | 17, hji, _, _, _, _ => exact absurd rfl hji
        | jx + 18, _, hl, _, _, _ => exact absurd hl (by simp)
      | ix + 18, hix, _ => simp at hix
    · intro f2 u2 hbe hall
      have u17 := hall 17 (by decide) (by kernel_rfl)
      simp only at u17
      clear hall
      simp only [putAll, List.foldl_cons, List.foldl_nil, Act.put, List.setIfInBounds_toArray, List.set_cons_succ, List.set_cons_zero]
      obtain ⟨E, hBX, hPO⟩ := Dn.post u17
      have HPO := Lib.hid hPO
      have HBX := Lib.hid hBX
      clear hBX hPO u17
      obtain ⟨xl, x0, x1, x2, x3, x4, x5, x6, x7, x8, x9, xf⟩ := HBX.out
      go_wp2
      refine ret_tree (X := (w.heap.size + 1)) (E := E) HBX.out (fun x0 x1 x2 x3 x4 x5 x6 x7 x8 x9 => by simp [results, Tryz.results24, go_sem, x0, x1, x2, x3, x4, x5, x6, x7, x8, x9, exV]) rfl HPO.out
  · have k0 : (k == 0) = false := beq_eq_false_iff_ne.2 (by omega)
    have k1 : (k == 1) = false := beq_eq_false_iff_ne.2 (by omega)
    have k2 : (k == 2) = false := beq_eq_false_iff_ne.2 (by omega)
    have k3 : (k == 3) = false := beq_eq_false_iff_ne.2 (by omega)
    go_upto_region 11 with (fail)
    refine wp_region_rel (use := [[], [0], [1], [], [], [], [], [6], [3, 4, 5, 7], [], [], [], [], [12], [9, 10, 11, 13], [2, 8, 14], [15]]) (sl := [[69], [70], [71], [72], [73], [74], [75], [76], [77], [78], [79], [80], [81], [82], [83], [84], []]) (live := [[], [], [], [], [], [], [], [], [], [], [], [], [], [], [], [], []]) (late := [16]) (brk := [16]) (B := b) (R := RT b) (J := EwW b w w0 P N) (Φ := fun ix f u => match ix with | 0 => f 69 = .pointer (some ⟨b, 0, none⟩) | 1 => ∃ m : Nat, f 70 = .int .i64 m ∧ m < 6 | 2 => ∃ m : Int, f 71 = .int .i64 m ∧ 3 ≤ m ∧ m < 9 | 3 => f 72 = .pointer (some ⟨b, 0, none⟩) | 4 => f 73 = .agg #[.slice P.pf P.fr.length P.cf, .slice P.pt P.tb.length P.ct] | 5 => f 74 = .int .i64 some1 | 6 => f 75 = .int .i64 depth | 7 => f 76 = .int .i64 (depth - 1) | 8 => Tv (w.heap.size + 1) D (f 77) u | 9 => f 78 = .pointer (some ⟨b, 0, none⟩) | 10 => f 79 = .agg #[.slice P.pf P.fr.length P.cf, .slice P.pt P.tb.length P.ct] | 11 => f 80 = .int .i64 some1 | 12 => f 81 = .int .i64 depth | 13 => f 82 = .int .i64 (depth - 1) | 14 => Tv (w.heap.size + 1) D (f 83) u | 15 => Tv (w.heap.size + 1) (D + 1) (f 84) u | 16 => Dn b (D + 1) w u | _ => True) (by kernel_rfl) _ rfl (by kernel_rfl) (by kernel_rfl) (fun u v h => ⟨(rt_low (W := w3.drew) h).1, fun h1 h2 => (rt_low h).2 h1 h2 HBL.out⟩) (HW.out.rt ⟨⟨rfl, rfl, rfl, Nat.le_refl _, fun _ _ _ => rfl⟩, fun h => h⟩) (fun u v h hr => h.rt hr) ?_ ?_ ?_ ?_
    · intro jx f g u u2 hs hb h
      match jx, hs, h with
      | 0, hs, h =>
        have e69 := hs 69 (by decide)
        simp only [e69]
        exact h
      | 1, hs, h =>
        have e70 := hs 70 (by decide)
        simp only [e70]
        exact h
      | 2, hs, h =>
        have e71 := hs 71 (by decide)
        simp only [e71]
        exact h
      | 3, hs, h =>
        have e72 := hs 72 (by decide)
        simp only [e72]
        exact h
      | 4, hs, h =>
        have e73 := hs 73 (by decide)
        simp only [e73]
        exact h
      | 5, hs, h =>
        have e74 := hs 74 (by decide)
        simp only [e74]
        exact h
      | 6, hs, h =>
        have e75 := hs 75 (by decide)
        simp only [e75]
        exact h
      | 7, hs, h =>
        have e76 := hs 76 (by decide)
        simp only [e76]
        exact h
      | 8, hs, h =>
        have e77 := hs 77 (by decide)
        simp only [e77]
        exact h.rt hb hbX
      | 9, hs, h =>
        have e78 := hs 78 (by decide)
        simp only [e78]
        exact h
      | 10, hs, h =>
        have e79 := hs 79 (by decide)
        simp only [e79]
        exact h
      | 11, hs, h =>
        have e80 := hs 80 (by decide)
        simp only [e80]
        exact h
      | 12, hs, h =>
        have e81 := hs 81 (by decide)
        simp only [e81]
        exact h
      | 13, hs, h =>
        have e82 := hs 82 (by decide)
        simp only [e82]
        exact h
      | 14, hs, h =>
        have e83 := hs 83 (by decide)
        simp only [e83]
        exact h.rt hb hbX
      | 15, hs, h =>
        have e84 := hs 84 (by decide)
        simp only [e84]
        exact h.rt hb hbX
      | 16, hs, h =>
        exact h.rt hb hbX
      | _ + 17, _, h => exact h
    · intro ix o hix hne f u hold hbe hgr hJ huse
      obtain ⟨kt, kc, kf⟩ := evF_all f
      match ix, hix, hne with
      | 0, hix, _ =>
        simp only [List.getElem?_cons_zero, Option.some.injEq] at hix
        subst hix
        have h0 : f 0 = .pointer (some ⟨b, 0, none⟩) := (hold 0 (by kernel_rfl)).trans rfl
        clear hold
        refine gives_K fun K hK => ?_
        go_simp
        refine gives_value (hK _ _ ⟨RT.refl _ _, ?_⟩)
        exact upF_self _ _ _
      | 1, hix, _ =>
        simp only [List.getElem?_cons_zero, List.getElem?_cons_succ, Option.some.injEq] at hix
        subst hix
        have u0 := huse 0 (by decide)
        simp only at u0
        have hJw := hJ (by kernel_rfl)
        refine gives_K fun K hK => ?_
        go_simp
        refine gives_enter ((next_any b 6 u (by decide) (by decide) hJw.an.tape).mono ?_)
        rintro e' w3 ⟨r, rfl, h0, h1, ht3, hs3⟩
        exact ⟨_, rfl, hK _ _ ⟨⟨hs3, fun _ => ht3⟩, r.toNat, by rw [upF_self, Int.toNat_of_nonneg h0], by omega⟩⟩
      | 2, hix, _ =>
        simp only [List.getElem?_cons_zero, List.getElem?_cons_succ, Option.some.injEq] at hix
        subst hix
        have u1 := huse 1 (by decide)
        simp only at u1
        obtain ⟨m, hm, hml⟩ := u1
        have hw : IntKind.i64.wrap (3 + (m : Int)) = 3 + (m : Int) := i64w (by omega) (by omega)
        refine gives_K fun K hK => ?_
        go_simp
        refine gives_value (hK _ _ ⟨RT.refl _ _, _, upF_self _ _ _, ?_, ?_⟩)
        · omega
        · omega
      | 3, hix, _ =>
        simp only [List.getElem?_cons_zero, List.getElem?_cons_succ, Option.some.injEq] at hix
        subst hix
        have h0 : f 0 = .pointer (some ⟨b, 0, none⟩) := (hold 0 (by kernel_rfl)).trans rfl
        clear hold
        refine gives_K fun K hK => ?_
        go_simp
        refine gives_value (hK _ _ ⟨RT.refl _ _, ?_⟩)
        exact upF_self _ _ _
      | 4, hix, _ =>
        simp only [List.getElem?_cons_zero, List.getElem?_cons_succ, Option.some.injEq] at hix
        subst hix
        obtain ⟨ql, q0, q1, qf⟩ := (hJ (by kernel_rfl)).pb
        have h4 : f 4 = .pointer (some ⟨w.heap.size, 0, none⟩) := (hold 4 (by kernel_rfl)).trans rfl
        clear hold
        refine gives_K fun K hK => ?_
        go_simp
        refine gives_value (hK _ _ ⟨RT.refl _ _, ?_⟩)
        exact upF_self _ _ _
      | 5, hix, _ =>
        simp only [List.getElem?_cons_zero, List.getElem?_cons_succ, Option.some.injEq] at hix
        subst hix
        have h7 : f 7 = .int .i64 some1 := (hold 7 (by kernel_rfl)).trans rfl
        clear hold
        refine gives_K fun K hK => ?_
        go_simp
        refine gives_value (hK _ _ ⟨RT.refl _ _, ?_⟩)
        exact upF_self _ _ _
      | 6, hix, _ =>
        simp only [List.getElem?_cons_zero, List.getElem?_cons_succ, Option.some.injEq] at hix
        subst hix
        have h2 : f 2 = .int .i64 depth := (hold 2 (by kernel_rfl)).trans rfl
        clear hold
        refine gives_K fun K hK => ?_
        go_simp
        refine gives_value (hK _ _ ⟨RT.refl _ _, ?_⟩)
        exact upF_self _ _ _
      | 7, hix, _ =>
        simp only [List.getElem?_cons_zero, List.getElem?_cons_succ, Option.some.injEq] at hix
        subst hix
        have u6 := huse 6 (by decide)
        simp only at u6
        have hdw := HDW.out
        refine gives_K fun K hK => ?_
        go_simp
        refine gives_value (hK _ _ ⟨RT.refl _ _, ?_⟩)
        exact upF_self _ _ _
      | 8, hix, _ =>
        simp only [List.getElem?_cons_zero, List.getElem?_cons_succ, Option.some.injEq] at hix
        subst hix
        have u3 := huse 3 (by decide)
        have u4 := huse 4 (by decide)
        have u5 := huse 5 (by decide)
        have u7 := huse 7 (by decide)
        simp only at u3 u4 u5 u7
        have hJw := hJ (by kernel_rfl)
        have hr0 := hJw.res.lt
        have HC := HEW.out N b P some1 (depth - 1) u (by omega) (by omega) (by omega) (by omega) (by omega) h8 hJw.pl hJw.hN hJw.an.tape (HE.out.step hJw.all h8)
        unfold plV at HC
        refine gives_K fun K hK => ?_
        go_simp
        refine gives_enter (HC.mono ?_)
        rintro e' w3 ⟨E1, rfl, hE5, hV5, ht5, hs5⟩
        exact ⟨_, rfl, hK _ _ ⟨⟨hs5, fun _ => ht5⟩, by rw [upF_self]; exact ⟨E1, rfl, hE5.weak fun c _ hc => by omega, hV5⟩⟩⟩
      | 9, hix, _ =>
        simp only [List.getElem?_cons_zero, List.getElem?_cons_succ, Option.some.injEq] at hix
        subst hix
        have h0 : f 0 = .pointer (some ⟨b, 0, none⟩) := (hold 0 (by kernel_rfl)).trans rfl
        clear hold
        refine gives_K fun K hK => ?_
        go_simp
        refine gives_value (hK _ _ ⟨RT.refl _ _, ?_⟩)
        exact upF_self _ _ _
      | 10, hix, _ =>
        simp only [List.getElem?_cons_zero, List.getElem?_cons_succ, Option.some.injEq] at hix
        subst hix
        obtain ⟨ql, q0, q1, qf⟩ := (hJ (by kernel_rfl)).pb
        have h4 : f 4 = .pointer (some ⟨w.heap.size, 0, none⟩) := (hold 4 (by kernel_rfl)).trans rfl
        clear hold
        refine gives_K fun K hK => ?_
        go_simp
        refine gives_value (hK _ _ ⟨RT.refl _ _, ?_⟩)
        exact upF_self _ _ _
      | 11, hix, _ =>
        simp only [List.getElem?_cons_zero, List.getElem?_cons_succ, Option.some.injEq] at hix
        subst hix
        have h7 : f 7 = .int .i64 some1 := (hold 7 (by kernel_rfl)).trans rfl
        clear hold
        refine gives_K fun K hK => ?_
        go_simp
        refine gives_value (hK _ _ ⟨RT.refl _ _, ?_⟩)
        exact upF_self _ _ _
      | 12, hix, _ =>
        simp only [List.getElem?_cons_zero, List.getElem?_cons_succ, Option.some.injEq] at hix
        subst hix
        have h2 : f 2 = .int .i64 depth := (hold 2 (by kernel_rfl)).trans rfl
        clear hold
        refine gives_K fun K hK => ?_
        go_simp
        refine gives_value (hK _ _ ⟨RT.refl _ _, ?_⟩)
        exact upF_self _ _ _
      | 13, hix, _ =>
        simp only [List.getElem?_cons_zero, List.getElem?_cons_succ, Option.some.injEq] at hix
        subst hix
        have u12 := huse 12 (by decide)
        simp only at u12
        have hdw := HDW.out
        refine gives_K fun K hK => ?_
        go_simp
        refine gives_value (hK _ _ ⟨RT.refl _ _, ?_⟩)
        exact upF_self _ _ _
      | 14, hix, _ =>
        simp only [List.getElem?_cons_zero, List.getElem?_cons_succ, Option.some.injEq] at hix
        subst hix
        have u9 := huse 9 (by decide)
        have u10 := huse 10 (by decide)
        have u11 := huse 11 (by decide)
        have u13 := huse 13 (by decide)
        simp only at u9 u10 u11 u13
        have hJw := hJ (by kernel_rfl)
        have hr0 := hJw.res.lt
        have HC := HEW.out N b P some1 (depth - 1) u (by omega) (by omega) (by omega) (by omega) (by omega) h8 hJw.pl hJw.hN hJw.an.tape (HE.out.step hJw.all h8)
        unfold plV at HC
        refine gives_K fun K hK => ?_
        go_simp
        refine gives_enter (HC.mono ?_)
        rintro e' w3 ⟨E1, rfl, hE5, hV5, ht5, hs5⟩
        exact ⟨_, rfl, hK _ _ ⟨⟨hs5, fun _ => ht5⟩, by rw [upF_self]; exact ⟨E1, rfl, hE5.weak fun c _ hc => by omega, hV5⟩⟩⟩
      | 15, hix, _ =>
        simp only [List.getElem?_cons_zero, List.getElem?_cons_succ, Option.some.injEq] at hix
        subst hix
        have u2 := huse 2 (by decide)
        have u8 := huse 8 (by decide)
        have u14 := huse 14 (by decide)
        simp only at u2 u8 u14
        have hJw := hJ (by kernel_rfl)
        have hr0 := hJw.res.lt
        obtain ⟨m, hm, hm1, hm2⟩ := u2
        obtain ⟨E, hE, hE1, hE2⟩ := u8
        obtain ⟨F, hF, hF1, hF2⟩ := u14
        have HC := bin_any m E F u
        unfold exV at HC hE hF
        refine gives_K fun K hK => ?_
        go_simp
        refine gives_enter (HC.mono ?_)
        rintro e' w3 ⟨g, rfl, hg, hgl, hA, hB, hb3⟩
        have hl : LAt (fun c => (w.heap.size + 1) < c) w3 (ExAt (fun c => (w.heap.size + 1) < c) w3 D) (some ⟨g, 0, none⟩) [E, F] := two_at hgl (by omega) hA hB (hE1.low hb3) (hF1.low hb3)
        exact ⟨_, rfl, hK _ _ ⟨RT.low hb3, argEx 5 m false (some ⟨g, 0, none⟩) 2 [E, F], by rw [upF_self]; rfl, args_at (l := [E, F]) (show 2 ≤ 3 by decide) hl, vOf_args (by decide) (by decide) rfl (fun _ => by omega) (fun h => absurd rfl h) (fun _ => rfl) (ex_all_two hE2 hF2)⟩⟩
      | 16, _, hne => exact absurd (by decide) hne
      | ix + 17, hix, _ => simp at hix
    · intro ix o hix hin f u hold hbe hgr hJ huse
      obtain ⟨kt, kc, kf⟩ := evF_all f
      match ix, hix, hin with
      | 0, _, hin => exact absurd hin (by decide)
      | 1, _, hin => exact absurd hin (by decide)
      | 2, _, hin => exact absurd hin (by decide)
      | 3, _, hin => exact absurd hin (by decide)
      | 4, _, hin => exact absurd hin (by decide)
      | 5, _, hin => exact absurd hin (by decide)
      | 6, _, hin => exact absurd hin (by decide)
      | 7, _, hin => exact absurd hin (by decide)
      | 8, _, hin => exact absurd hin (by decide)
      | 9, _, hin => exact absurd hin (by decide)
      | 10, _, hin => exact absurd hin (by decide)
      | 11, _, hin => exact absurd hin (by decide)
      | 12, _, hin => exact absurd hin (by decide)
      | 13, _, hin => exact absurd hin (by decide)
      | 14, _, hin => exact absurd hin (by decide)
      | 15, _, hin => exact absurd hin (by decide)
      | 16, hix, _ =>
        simp only [List.getElem?_cons_zero, List.getElem?_cons_succ, Option.some.injEq] at hix
        subst hix
        have u15 := huse 15 (by decide)
        simp only at u15
        have hJw := hJ (by kernel_rfl)
        obtain ⟨E, hE, hE1, hE2⟩ := u15
        have HDN := Lib.hid (hJw.dn hE1 hE2)
        unfold exV at hE
        obtain ⟨xl, x0, x1, x2, x3, x4, x5, x6, x7, x8, x9, xf⟩ := hJw.res
        have h6 : f 6 = .pointer (some ⟨(w.heap.size + 1), 0, none⟩) := (hold 6 (by kernel_rfl)).trans rfl
        clear hold
        have hlb := hJw.lt
        have hz0 := hJw.sz
        clear hE1 hE2 hJw
        refine gives_K fun K hK => ?_
        go_simp
        refine gives_skip (hK _ _ ⟨Nat.le_of_eq (ten_but u (w.heap.size + 1) E).size.symm, below_but hbe (ten_but u (w.heap.size + 1) E) (by omega), HDN.out, fun hbk => absurd (by decide) hbk, ?_⟩)
        intro jx hji hl hr hs h
        match jx, hji, hl, hr, hs, h with
        | 0, _, hl, _, _, _ => exact absurd hl (by decide)
        | 1, _, hl, _, _, _ => exact absurd hl (by decide)
        | 2, _, hl, _, _, _ => exact absurd hl (by decide)
        | 3, _, hl, _, _, _ => exact absurd hl (by decide)
        | 4, _, hl, _, _, _ => exact absurd hl (by decide)
        | 5, _, hl, _, _, _ => exact absurd hl (by decide)
        | 6, _, hl, _, _, _ => exact absurd hl (by decide)
        | 7, _, hl, _, _, _ => exact absurd hl (by decide)
        | 8, _, hl, _, _, _ => exact absurd hl (by decide)
        | 9, _, hl, _, _, _ => exact absurd hl (by decide)
        | 10, _, hl, _, _, _ => exact absurd hl (by decide)
        | 11, _, hl, _, _, _ => exact absurd hl (by decide)
        | 12, _, hl, _, _, _ => exact absurd hl (by decide)
        | 13, _, hl, _, _, _ => exact absurd hl (by decide)
        | 14, _, hl, _, _, _ => exact absurd hl (by decide)
        | 15, _, hl, _, _, _ => exact absurd hl (by decide)
        | 16, hji, _, _, _, _ => exact absurd rfl hji
        | jx + 17, _, hl, _, _, _ => exact absurd hl (by simp)
      | ix + 17, hix, _ => simp at hix
    · intro f2 u2 hbe hall
      have u16 := hall 16 (by decide) (by kernel_rfl)
      simp only at u16
      clear hall
      simp only [putAll, List.foldl_cons, List.foldl_nil, Act.put, List.setIfInBounds_toArray, List.set_cons_succ, List.set_cons_zero]
      obtain ⟨E, hBX, hPO⟩ := Dn.post u16
      have HPO := Lib.hid hPO
      have HBX := Lib.hid hBX
      clear hBX hPO u16
      obtain ⟨xl, x0, x1, x2, x3, x4, x5, x6, x7, x8, x9, xf⟩ := HBX.out
      go_wp2
      refine ret_tree (X := (w.heap.size + 1)) (E := E) HBX.out (fun x0 x1 x2 x3 x4 x5 x6 x7 x8 x9 => by simp [results, Tryz.results24, go_sem, x0, x1, x2, x3, x4, x5, x6, x7, x8, x9, exV]) rfl HPO.out
end Go.Proofs.YtlpaphgmdcpmaaaGreatDoor
/-
  query of the world's tape: a well-formed tree.
-/
namespace Go.Proofs.YtlpaphgmdcpmaaaGreatDoor
set_option maxRecDepth 100000
open Go.RowKit
variable {ls : List Nat}

theorem Cell2.butX {X Y : Nat} {u v : World} {x y : Value} (h : Cell2 u Y x y) (hb : ButX X u v) (hn : Y ≠ X) : Cell2 v Y x y :=
  ⟨by rw [hb.size]; exact h.lt, (World.cell?_of_block (w := u) (hb.block Y hn)).trans h.c0, (World.cell?_of_block (w := u) (hb.block Y hn)).trans h.c1, fun o => (World.frozen?_of_block (w := u) (hb.block Y hn)).trans (h.fz o)⟩
theorem EwW.butX {b Y : Nat} {w w0 u v : World} {P : Pl} {N : Nat → Prop} (h : EwW b w w0 P N u) (hb : ButX Y u v) (hY : w.heap.size + 1 < Y) (hNY : ∀ c, N c → c < u.heap.size → c ≠ Y) : EwW b w w0 P N v :=
  ⟨h.an.but hb (by have := h.sz; omega), h.pb.butX hb (by omega), h.pl.keep (by rw [hb.size]; exact Nat.le_refl _) fun c hc hn => ⟨hb.block c (hNY c hn hc), hn⟩, h.lt, h.sz, h.hN, h.st⟩
/-- What query keeps: the place inside, the query in its box. -/
structure QwW (b Y Z D : Nat) (w w0 : World) (P : Pl) (N : Nat → Prop) (Q : Pl) (N2 : Nat → Prop) (q : Qu) (u : World) : Prop where
  ew : EwW b w w0 P N u
  nlt : ∀ c, N c → c < Z
  qc : Cell2 u Z (.slice Q.pf Q.fr.length Q.cf) (.slice Q.pt Q.tb.length Q.ct)
  xz : w.heap.size + 1 < Z
  zy : Z < Y
  qp : PlAt N2 u Q
  n2 : ∀ c, N2 c → c ≠ b ∧ c < Z
  qb : QuBx u Y q
  fr : q.fr.size ≤ 9223372036854775807
  its : LAt (fun c => Y < c) u (ExAt (fun c => Y < c) u D) q.pi q.items
  whs : LAt (fun c => Y < c) u (ExAt (fun c => Y < c) u D) q.pw q.wh
section
variable {b Y Z D : Nat} {w w0 u v : World} {P : Pl} {N : Nat → Prop} {Q : Pl} {N2 : Nat → Prop} {q : Qu}
theorem QwW.rt (h : QwW b Y Z D w w0 P N Q N2 q u) (hr : RT b u v) : QwW b Y Z D w w0 P N Q N2 q v := by
  have h1 := h.ew.lt
  have h2 := h.xz
  have h3 := h.zy
  exact ⟨h.ew.rt hr, h.nlt, h.qc.step hr.step (by omega), h.xz, h.zy, h.qp.step hr.step (fun c hc => (h.n2 c hc).1), h.n2, h.qb.step hr.step (by omega), h.fr, h.its.step hr.step (fun c hc => by omega), h.whs.step hr.step (fun c hc => by omega)⟩
theorem QwW.next (h : QwW b Y Z D w w0 P N Q N2 q u) (hs : StepT b u v) (ht : TapeAt v b) : QwW b Y Z D w w0 P N Q N2 q v := h.rt ⟨hs, fun _ => ht⟩
theorem QwW.items {st : Bool} {pi : Option Addr} {ci : Nat} {its : List Ex} {fr : ByteArray} {pw : Option Addr} {cw : Nat} {wh : List Ex} (h : QwW b Y Z D w w0 P N Q N2 ⟨st, pi, ci, its, fr, pw, cw, wh⟩ u) {E : Ex} (hE : ExAt (fun c => Y < c) u D E) (t : TypeId) :
    QwW b Y Z D w w0 P N Q N2 ⟨st, some ⟨u.heap.size, 0, none⟩, 1, [E], fr, pw, cw, wh⟩ ((u.setCell ⟨Y, 1, none⟩ (.slice (some ⟨u.heap.size, 0, none⟩) 1 1)).alloc (.cells #[.int .i64 E.k, .int .i64 E.op, .bool E.no, .int .i64 E.vk, .int .i64 E.vi, .string E.vt, .string E.tb, .string E.nm, .slice E.pa E.args.length E.ca, .slice E.ps E.sub.length E.cs] t)) := by
  rw [← World.setCell_alloc_past _ _ _ _ h.qb.lt]
  have hb := below_alloc u (.cells #[.int .i64 E.k, .int .i64 E.op, .bool E.no, .int .i64 E.vk, .int .i64 E.vi, .string E.vt, .string E.tb, .string E.nm, .slice E.pa E.args.length E.ca, .slice E.ps E.sub.length E.cs] t)
  have hone := one_ex hE h.qb.lt t
  have hq := h.qb.low hb
  have h2 := h.rt (RT.low hb)
  generalize u.alloc (.cells #[.int .i64 E.k, .int .i64 E.op, .bool E.no, .int .i64 E.vk, .int .i64 E.vi, .string E.vt, .string E.tb, .string E.nm, .slice E.pa E.args.length E.ca, .slice E.ps E.sub.length E.cs] t) = v at *
  generalize u.heap.size = M at *
  have hx := (ButX.refl Y v).set 1 none (.slice (some ⟨M, 0, none⟩) 1 1)
  have h3 := h.xz
  have h4 := h.zy
  have hN : ∀ c, c < v.heap.size → Y < c → c ≠ Y ∧ Y < c := fun c _ hc => ⟨by omega, hc⟩
  refine ⟨h2.ew.butX hx (by omega) (fun c hc _ => by have := h.nlt c hc; omega), h.nlt, h2.qc.butX hx (by omega), h3, h4, h2.qp.keep (by rw [hx.size]; exact Nat.le_refl _) (fun c _ hn => ⟨hx.block c (by have := (h.n2 c hn).2; omega), hn⟩), h.n2, ?_, h.fr, hone.but hx hN, h2.whs.but hx hN⟩
  obtain ⟨hl, c0, c1, c2, c3, fz⟩ := hq
  refine ⟨by simpa [World.setCell] using hl, ?_, ?_, ?_, ?_, fun o => by rw [World.frozen?_setCell]; exact fz o⟩
  all_goals simp only [List.length_singleton] at *
  all_goals go_simp
theorem QwW.wheres {st : Bool} {pi : Option Addr} {ci : Nat} {its : List Ex} {fr : ByteArray} {pw : Option Addr} {cw : Nat} {wh : List Ex} (h : QwW b Y Z D w w0 P N Q N2 ⟨st, pi, ci, its, fr, pw, cw, wh⟩ u) {E : Ex} (hE : ExAt (fun c => Y < c) u D E) (t : TypeId) :
    QwW b Y Z D w w0 P N Q N2 ⟨st, pi, ci, its, fr, some ⟨u.heap.size, 0, none⟩, 1, [E]⟩ ((u.setCell ⟨Y, 3, none⟩ (.slice (some ⟨u.heap.size, 0, none⟩) 1 1)).alloc (.cells #[.int .i64 E.k, .int .i64 E.op, .bool E.no, .int .i64 E.vk, .int .i64 E.vi, .string E.vt, .string E.tb, .string E.nm, .slice E.pa E.args.length E.ca, .slice E.ps E.sub.length E.cs] t)) := by
  rw [← World.setCell_alloc_past _ _ _ _ h.qb.lt]
  have hb := below_alloc u (.cells #[.int .i64 E.k, .int .i64 E.op, .bool E.no, .int .i64 E.vk, .int .i64 E.vi, .string E.vt, .string E.tb, .string E.nm, .slice E.pa E.args.length E.ca, .slice E.ps E.sub.length E.cs] t)
  have hone := one_ex hE h.qb.lt t
  have hq := h.qb.low hb
  have h2 := h.rt (RT.low hb)
  generalize u.alloc (.cells #[.int .i64 E.k, .int .i64 E.op, .bool E.no, .int .i64 E.vk, .int .i64 E.vi, .string E.vt, .string E.tb, .string E.nm, .slice E.pa E.args.length E.ca, .slice E.ps E.sub.length E.cs] t) = v at *
  generalize u.heap.size = M at *
  have hx := (ButX.refl Y v).set 3 none (.slice (some ⟨M, 0, none⟩) 1 1)
  have h3 := h.xz
  have h4 := h.zy
  have hN : ∀ c, c < v.heap.size → Y < c → c ≠ Y ∧ Y < c := fun c _ hc => ⟨by omega, hc⟩
  refine ⟨h2.ew.butX hx (by omega) (fun c hc _ => by have := h.nlt c hc; omega), h.nlt, h2.qc.butX hx (by omega), h3, h4, h2.qp.keep (by rw [hx.size]; exact Nat.le_refl _) (fun c _ hn => ⟨hx.block c (by have := (h.n2 c hn).2; omega), hn⟩), h.n2, ?_, h.fr, h2.its.but hx hN, hone.but hx hN⟩
  obtain ⟨hl, c0, c1, c2, c3, fz⟩ := hq
  refine ⟨by simpa [World.setCell] using hl, ?_, ?_, ?_, ?_, fun o => by rw [World.frozen?_setCell]; exact fz o⟩
  all_goals simp only [List.length_singleton] at *
  all_goals go_simp
/-- The expression with the query. -/
theorem QwW.tree (h : QwW b Y Z D w w0 P N Q N2 q u) (kd : Int) (hi : q.items.length ≤ 1) (hw : q.wh.length ≤ 1) (t : TypeId) :
    ExAt (fun c => w.heap.size + 1 < c) (u.alloc (.cells #[.bool q.st, .slice q.pi q.items.length q.ci, .string q.fr, .slice q.pw q.wh.length q.cw] t)) (D + 1) (subEx kd (some ⟨u.heap.size, 0, none⟩) 1 q) := by
  have hb := below_alloc u (.cells #[.bool q.st, .slice q.pi q.items.length q.ci, .string q.fr, .slice q.pw q.wh.length q.cw] t)
  obtain ⟨hl, c0, c1, c2, c3, -⟩ := QuBx.new u q t
  have h3 := h.xz
  have h4 := h.zy
  have h5 := h.qb.lt
  have e0 : (⟨#[]⟩ : ByteArray).size ≤ 9223372036854775807 := by decide
  refine ⟨e0, e0, e0, Nat.zero_le _, (show 1 ≤ 9223372036854775807 by decide), LAt.nil _ _ _ _, ?_, i64_zero⟩
  intro i hi2
  have hi0 : i = 0 := by have hi2 : i < 1 := hi2; omega
  subst hi0
  have c0' : (u.alloc (.cells #[.bool q.st, .slice q.pi q.items.length q.ci, .string q.fr, .slice q.pw q.wh.length q.cw] t)).cell? ⟨u.heap.size, 0 + 0 * 4, none⟩ = some (.bool q.st) := c0
  exact ⟨u.heap.size, 0, rfl, hl, by omega, ⟨c0', c1, c2, c3⟩, ⟨h.fr, by show q.items.length ≤ _; omega, by show q.wh.length ≤ _; omega, (h.its.low hb).weak (fun c _ hc => by omega), (h.whs.low hb).weak (fun c _ hc => by omega)⟩⟩
end
/-- query for depths so far. -/
def QwDoes (ls : List Nat) (D : Nat) : Prop := ∀ (N : Nat → Prop) (b : Nat) (P : Pl) (kd depth : Int) (w : World), 8 ≤ kd → kd ≤ 12 → depth + 1 ≤ D → -900 ≤ depth → P.fr.length + 1 + D ≤ 80 → 0 < P.tb.length → 13 ≤ b → PlAt N w P → (∀ c, N c → c ≠ b) → TapeAt w b → Env ls w →
    Calls Tryz.prog 22 #[.pointer (some ⟨b, 0, none⟩), plV P, .int .i64 kd, .int .i64 depth] w (AExPost b (D + 1) w)
set_option maxHeartbeats 8000000 in
theorem query_step {D : Nat} (H : EwDoes ls D) : QwDoes ls D := by
  intro N b P kd depth w hk8 hk12 hd hd2 hf hnt h8 hP hN ht hE
  have HZ := Lib.hid (size_alloc w (.cells #[.slice P.pf P.fr.length P.cf, .slice P.pt P.tb.length P.ct] 37))
  have HW := Lib.hid (EwW.start (N := fun c => N c ∧ c < w.heap.size) (hP.weak fun c hc hn => ⟨hn, hc⟩) (fun c hc => hN c hc.1) ht)
  have HE := Lib.hid hE
  have HEW := Lib.hid H
  have hlt := ht.lt
  clear hP hN hE ht H
  unfold plV
  go_enter Tryz.func22, Tryz.ntmps22
  go_upto_region 1 with (fail)
  generalize hw0 : w.alloc (.cells #[.slice P.pf P.fr.length P.cf, .slice P.pt P.tb.length P.ct] 37) = w0 at *
  clear hw0
  generalize hw1 : w0.alloc (.cells #[.int .i64 0, .int .i64 0, .bool false, .int .i64 0, .int .i64 0, .string ⟨#[]⟩, .string ⟨#[]⟩, .string ⟨#[]⟩, .slice none 0 0, .slice none 0 0] 27) = w1 at *
  clear hw1
  have HBL := Lib.hid (show b ≤ w1.drew.heap.size by have := HW.out.all.size; show b ≤ w1.heap.size; omega)
  refine wp_region_rel (use := [[], [0], [], [], [3], [4], [2, 5], [1, 6], [7], [], [8, 9]]) (sl := [[12], [13], [14], [15], [16], [17], [18], [19], [20], [9], [9]]) (live := [[], [], [], [], [], [], [], [], [], [], []]) (late := [10]) (brk := [10]) (B := b) (R := RT b) (J := EwW b w w0 P (fun c => N c ∧ c < w.heap.size)) (Φ := fun ix f u => match ix with | 0 => f 12 = .pointer (some ⟨w.heap.size, 1, none⟩) | 1 => f 13 = .slice P.pt P.tb.length P.ct | 2 => f 14 = .pointer (some ⟨b, 0, none⟩) | 3 => f 15 = .pointer (some ⟨w.heap.size, 1, none⟩) | 4 => f 16 = .slice P.pt P.tb.length P.ct | 5 => f 17 = .int .i64 P.tb.length | 6 => ∃ m : Nat, f 18 = .int .i64 m ∧ m < P.tb.length | 7 => ∃ (m c o : Nat), f 19 = .pointer (some ⟨c, o + m * 2, none⟩) ∧ m < P.tb.length ∧ P.pt = some ⟨c, o, none⟩ | 8 => ∃ (m : Nat) (hm : m < P.tb.length), f 20 = .agg #[.string P.tb[m].nm, .slice P.tb[m].pc P.tb[m].nc P.tb[m].cc] | 9 => ∃ k : Nat, f 9 = .pointer (some ⟨k, 0, none⟩) ∧ Cell2 u k (.string ⟨#[]⟩) (.slice none 0 0) ∧ w.heap.size + 1 < k | 10 => ∃ (k m : Nat) (hm : m < P.tb.length), f 9 = .pointer (some ⟨k, 0, none⟩) ∧ Cell2 u k (.string P.tb[m].nm) (.slice P.tb[m].pc P.tb[m].nc P.tb[m].cc) ∧ w.heap.size + 1 < k ∧ EwW b w w0 P (fun c => N c ∧ c < w.heap.size) u | _ => True) (by kernel_rfl) _ rfl (by kernel_rfl) (by kernel_rfl) (fun u v h => ⟨(rt_low (W := w1.drew) h).1, fun h1 h2 => (rt_low h).2 h1 h2 HBL.out⟩) (HW.out.rt ⟨⟨rfl, rfl, rfl, Nat.le_refl _, fun _ _ _ => rfl⟩, fun h => h⟩) (fun u v h hr => h.rt hr) ?_ ?_ ?_ ?_
  · intro jx f g u u2 hs hb h
    match jx, hs, h with
    | 0, hs, h =>
      have e12 := hs 12 (by decide)
      simp only [e12]
      exact h
    | 1, hs, h =>
      have e13 := hs 13 (by decide)
      simp only [e13]
      exact h
    | 2, hs, h =>
      have e14 := hs 14 (by decide)
      simp only [e14]
      exact h
    | 3, hs, h =>
      have e15 := hs 15 (by decide)
      simp only [e15]
      exact h
    | 4, hs, h =>
      have e16 := hs 16 (by decide)
      simp only [e16]
      exact h
    | 5, hs, h =>
      have e17 := hs 17 (by decide)
      simp only [e17]
      exact h
    | 6, hs, h =>
      have e18 := hs 18 (by decide)
      simp only [e18]
      exact h
    | 7, hs, h =>
      have e19 := hs 19 (by decide)
      simp only [e19]
      exact h
    | 8, hs, h =>
      have e20 := hs 20 (by decide)
      simp only [e20]
      exact h
    | 9, hs, h =>
      have e9 := hs 9 (by decide)
      simp only [e9]
      exact (by obtain ⟨k, h1, h2, h3⟩ := h; exact ⟨k, h1, h2.step hb.step (by omega), h3⟩)
    | 10, hs, h =>
      have e9 := hs 9 (by decide)
      simp only [e9]
      exact (by obtain ⟨k, m, hm, h1, h2, h3, h4⟩ := h; exact ⟨k, m, hm, h1, h2.step hb.step (by omega), h3, h4.rt hb⟩)
    | _ + 11, _, h => exact h
  · intro ix o hix hne f u hold hbe hgr hJ huse
    obtain ⟨kt, kc, kf⟩ := evF_all f
    match ix, hix, hne with
    | 0, hix, _ =>
      simp only [List.getElem?_cons_zero, Option.some.injEq] at hix
      subst hix
      have h5 : f 5 = .pointer (some ⟨w.heap.size, 0, none⟩) := (hold 5 (by kernel_rfl)).trans rfl
      clear hold
      refine gives_K fun K hK => ?_
      go_simp
      refine gives_value (hK _ _ ⟨RT.refl _ _, ?_⟩)
      exact upF_self _ _ _
    | 1, hix, _ =>
      simp only [List.getElem?_cons_zero, List.getElem?_cons_succ, Option.some.injEq] at hix
      subst hix
      have u0 := huse 0 (by decide)
      simp only at u0
      obtain ⟨ql, q0, q1, qf⟩ := (hJ (by kernel_rfl)).pb
      refine gives_K fun K hK => ?_
      go_simp
      refine gives_value (hK _ _ ⟨RT.refl _ _, ?_⟩)
      exact upF_self _ _ _
    | 2, hix, _ =>
      simp only [List.getElem?_cons_zero, List.getElem?_cons_succ, Option.some.injEq] at hix
      subst hix
      have h0 : f 0 = .pointer (some ⟨b, 0, none⟩) := (hold 0 (by kernel_rfl)).trans rfl
      clear hold
      refine gives_K fun K hK => ?_
      go_simp
      refine gives_value (hK _ _ ⟨RT.refl _ _, ?_⟩)
      exact upF_self _ _ _
    | 3, hix, _ =>
      simp only [List.getElem?_cons_zero, List.getElem?_cons_succ, Option.some.injEq] at hix
      subst hix
      have h5 : f 5 = .pointer (some ⟨w.heap.size, 0, none⟩) := (hold 5 (by kernel_rfl)).trans rfl
      clear hold
      refine gives_K fun K hK => ?_
      go_simp
      refine gives_value (hK _ _ ⟨RT.refl _ _, ?_⟩)
      exact upF_self _ _ _
    | 4, hix, _ =>
      simp only [List.getElem?_cons_zero, List.getElem?_cons_succ, Option.some.injEq] at hix
      subst hix
      have u3 := huse 3 (by decide)
      simp only at u3
      obtain ⟨ql, q0, q1, qf⟩ := (hJ (by kernel_rfl)).pb
      refine gives_K fun K hK => ?_
      go_simp
      refine gives_value (hK _ _ ⟨RT.refl _ _, ?_⟩)
      exact upF_self _ _ _
    | 5, hix, _ =>
      simp only [List.getElem?_cons_zero, List.getElem?_cons_succ, Option.some.injEq] at hix
      subst hix
      have u4 := huse 4 (by decide)
      simp only at u4
      refine gives_K fun K hK => ?_
      go_simp
      refine gives_value (hK _ _ ⟨RT.refl _ _, ?_⟩)
      exact upF_self _ _ _
    | 6, hix, _ =>
      simp only [List.getElem?_cons_zero, List.getElem?_cons_succ, Option.some.injEq] at hix
      subst hix
      have u2 := huse 2 (by decide)
      have u5 := huse 5 (by decide)
      simp only at u2 u5
      have hJw := hJ (by kernel_rfl)
      have hnt := hJw.pl.nt
      refine gives_K fun K hK => ?_
      go_simp
      refine gives_enter ((next_any b _ u (by omega) (by omega) hJw.an.tape).mono ?_)
      rintro e' w3 ⟨r, rfl, h0, h1, ht3, hs3⟩
      exact ⟨_, rfl, hK _ _ ⟨⟨hs3, fun _ => ht3⟩, r.toNat, by rw [upF_self, Int.toNat_of_nonneg h0], by omega⟩⟩
    | 7, hix, _ =>
      simp only [List.getElem?_cons_zero, List.getElem?_cons_succ, Option.some.injEq] at hix
      subst hix
      have u1 := huse 1 (by decide)
      have u6 := huse 6 (by decide)
      simp only at u1 u6
      have hJw := hJ (by kernel_rfl)
      obtain ⟨m, hm, hml⟩ := u6
      obtain ⟨c, o, hp, -⟩ := hJw.pl.tbs m hml
      rw [hp] at u1
      have hmI : (m : Int) < P.tb.length := by omega
      refine gives_K fun K hK => ?_
      go_simp
      exact gives_value (hK _ _ ⟨RT.refl _ _, m, c, o, by rw [upF_self], hml, hp⟩)
    | 8, hix, _ =>
      simp only [List.getElem?_cons_zero, List.getElem?_cons_succ, Option.some.injEq] at hix
      subst hix
      have u7 := huse 7 (by decide)
      simp only at u7
      have hJw := hJ (by kernel_rfl)
      obtain ⟨m, c, o, h19, hml, hp⟩ := u7
      obtain ⟨c', o', hp', hc, hNc, g0, g1, -⟩ := hJw.pl.tbs m hml
      rw [hp] at hp'
      obtain ⟨rfl, rfl⟩ : c = c' ∧ o = o' := by injection hp' with e; injection e with e1 e2; exact ⟨e1, e2⟩
      refine gives_K fun K hK => ?_
      go_simp
      exact gives_value (hK _ _ ⟨RT.refl _ _, m, hml, by rw [upF_self]⟩)
    | 9, hix, _ =>
      simp only [List.getElem?_cons_zero, List.getElem?_cons_succ, Option.some.injEq] at hix
      subst hix
      have hJw := hJ (by kernel_rfl)
      have hr0 := hJw.res.lt
      refine gives_K fun K hK => ?_
      go_simp
      exact gives_value (hK _ _ ⟨RT.low (below_alloc _ _), u.heap.size, by rw [upF_self], cell2_new _ _ _ _, hr0⟩)
    | 10, _, hne => exact absurd (by decide) hne
    | ix + 11, hix, _ => simp at hix
  · intro ix o hix hin f u hold hbe hgr hJ huse
    obtain ⟨kt, kc, kf⟩ := evF_all f
    match ix, hix, hin with
    | 0, _, hin => exact absurd hin (by decide)
    | 1, _, hin => exact absurd hin (by decide)
    | 2, _, hin => exact absurd hin (by decide)
    | 3, _, hin => exact absurd hin (by decide)
    | 4, _, hin => exact absurd hin (by decide)
    | 5, _, hin => exact absurd hin (by decide)
    | 6, _, hin => exact absurd hin (by decide)
    | 7, _, hin => exact absurd hin (by decide)
    | 8, _, hin => exact absurd hin (by decide)
    | 9, _, hin => exact absurd hin (by decide)
    | 10, hix, _ =>
      simp only [List.getElem?_cons_zero, List.getElem?_cons_succ, Option.some.injEq] at hix
      subst hix
      have u8 := huse 8 (by decide)
      have u9 := huse 9 (by decide)
      simp only at u8 u9
      have hJw := hJ (by kernel_rfl)
      obtain ⟨m, hml, h20⟩ := u8
      obtain ⟨k, h9, hc, hk⟩ := u9
      have HC2 := Lib.hid (cell2_set hc (.string P.tb[m].nm) (.slice P.tb[m].pc P.tb[m].nc P.tb[m].cc))
      have HBU := Lib.hid (((ButX.refl k u).set 0 none (.string P.tb[m].nm)).set 1 none (.slice P.tb[m].pc P.tb[m].nc P.tb[m].cc))
      have HJW := Lib.hid hJw
      obtain ⟨kl, k0, k1, kff⟩ := hc
      have hlb := hJw.lt
      clear hJw
      refine gives_K fun K hK => ?_
      go_simp
      refine gives_skip (hK _ _ ⟨Nat.le_of_eq HBU.out.size.symm, below_but hbe HBU.out (by omega), ⟨k, m, hml, h9, HC2.out, hk, HJW.out.butX HBU.out hk (fun c hc _ => by have := hc.2; omega)⟩, fun hbk => absurd (by decide) hbk, ?_⟩)
      intro jx hji hl hr hs h
      match jx, hji, hl, hr, hs, h with
      | 0, _, hl, _, _, _ => exact absurd hl (by decide)
      | 1, _, hl, _, _, _ => exact absurd hl (by decide)
      | 2, _, hl, _, _, _ => exact absurd hl (by decide)
      | 3, _, hl, _, _, _ => exact absurd hl (by decide)
      | 4, _, hl, _, _, _ => exact absurd hl (by decide)
      | 5, _, hl, _, _, _ => exact absurd hl (by decide)
      | 6, _, hl, _, _, _ => exact absurd hl (by decide)
      | 7, _, hl, _, _, _ => exact absurd hl (by decide)
      | 8, _, hl, _, _, _ => exact absurd hl (by decide)
      | 9, _, hl, _, _, _ => exact absurd hl (by decide)
      | 10, hji, _, _, _, _ => exact absurd rfl hji
      | jx + 11, _, hl, _, _, _ => exact absurd hl (by simp)
    | ix + 11, hix, _ => simp at hix
  · intro f2 u2 hbe hall
    have u10 := hall 10 (by decide) (by kernel_rfl)
    simp only at u10
    clear hall
    simp only [putAll, List.foldl_cons, List.foldl_nil, Act.put, List.setIfInBounds_toArray, List.set_cons_succ, List.set_cons_zero]
    obtain ⟨k, m, hm, h9, hc, hk, hW⟩ := u10
    rw [h9]
    have HC := Lib.hid hc
    have HW2 := Lib.hid hW
    clear h9 hc hW hbe HW
    have hsi := HW2.out.pl.tbs m hm
    obtain ⟨-, -, -, -, -, -, -, hSI⟩ := hsi
    have HSI := Lib.hid hSI
    have hfr := (HSI.out).q
    have HFR := Lib.hid hfr
    clear hSI hfr
    generalize hs : P.tb[m] = s at *
    clear hs
    obtain ⟨ql, q0, q1, qf⟩ := HW2.out.pb
    obtain ⟨kl, k0, k1, kf⟩ := HC.out
    have HIN := Lib.hid (inside_any (N := fun c => N c ∧ c < w.heap.size) P s u2 HW2.out.pl HSI.out (by omega) (fun c hc => by have := HW2.out.res.lt; have := hc.2; omega))
    unfold plV scV at HIN
    go_wp2_with fail
    clear ql q0 q1 qf kl k0 k1 kf
    refine (HIN.out).mono ?_
    rintro e w5 ⟨Q, rfl, hQf, -, hQP, hb5⟩
    have HW5 := Lib.hid (HW2.out.low hb5)
    have HC5 := Lib.hid (HC.out.low hb5)
    have hu2 := HW2.out.res.lt
    have HQL := Lib.hid (show Q.fr.length = P.fr.length + 1 by rw [hQf, List.length_append]; rfl)
    have HQP := Lib.hid (hQP.weak (M := fun c => ((N c ∧ c < w.heap.size) ∨ u2.heap.size ≤ c) ∧ c < w5.heap.size) fun c hc hn => ⟨hn, hc⟩)
    clear hQf hQP hb5 HIN
    dsimp only [plV]
    have hal5 := below_alloc w5 (.cells #[.slice Q.pf Q.fr.length Q.cf, .slice Q.pt Q.tb.length Q.ct] 37)
    have HZ6 := Lib.hid (cell2_new w5 (.slice Q.pf Q.fr.length Q.cf) (.slice Q.pt Q.tb.length Q.ct) 37)
    have HW6 := Lib.hid (HW5.out.low hal5)
    have HC6 := Lib.hid (HC5.out.low hal5)
    have HQ6 := Lib.hid (HQP.out.low hal5)
    have hz5 := HW5.out.res.lt
    have hk5 := HC5.out.lt
    clear hal5
    go_upto_region 3 with (fail)
    generalize w5.alloc (.cells #[.slice Q.pf Q.fr.length Q.cf, .slice Q.pt Q.tb.length Q.ct] 37) = w6 at *
    generalize w5.heap.size = Z at *
    obtain ⟨kl, k0, k1, kf⟩ := HC6.out
    have hkb : (kd == 8) = decide (kd = 8) := by by_cases h : kd = 8 <;> simp [h]
    have hal6 := below_alloc w6 (.cells #[.bool (kd == 8), .slice none 0 0, .string s.nm, .slice none 0 0] 53)
    have HQW : Hid (QwW b w6.heap.size Z D w w0 P (fun c => N c ∧ c < w.heap.size) Q (fun c => ((N c ∧ c < w.heap.size) ∨ u2.heap.size ≤ c) ∧ c < Z) ⟨kd == 8, none, 0, [], s.nm, none, 0, []⟩ (w6.alloc (.cells #[.bool (kd == 8), .slice none 0 0, .string s.nm, .slice none 0 0] 53))) :=
      Lib.hid ⟨HW6.out.low hal6, fun c hc => by have := hc.2; omega, HZ6.out.low hal6, by omega, HZ6.out.lt, HQ6.out.low hal6, fun c hc => ⟨by rcases hc.1 with h | h; exact HW6.out.hN c h; have := HW6.out.lt; omega, hc.2⟩, QuBx.new w6 ⟨kd == 8, none, 0, [], s.nm, none, 0, []⟩ _, HSI.out.ns, LAt.nil _ _ _ _, LAt.nil _ _ _ _⟩
    clear hal6
    go_upto_region 4 with (fail)
    clear kl k0 k1 kf HC HC5 HC6 HW2 HW5 HW6 HZ6 HQ6 HQP HSI
    generalize w6.alloc (.cells #[.bool (kd == 8), .slice none 0 0, .string s.nm, .slice none 0 0] 53) = w7 at *
    generalize w6.heap.size = Y at *
    generalize hN2 : (fun c => ((N c ∧ c < w.heap.size) ∨ u2.heap.size ≤ c) ∧ c < Z) = N2 at *
    clear hN2
    have HDW := Lib.hid (show IntKind.i64.wrap (depth - 1) = depth - 1 from i64w (by omega) (by omega))
    have HDW2 := Lib.hid (show IntKind.i64.wrap (depth - 2) = depth - 2 from i64w (by omega) (by omega))
    by_cases hk10 : 10 ≤ kd
    · have hkB : decide (kd ≥ 10) = true := decide_eq_true hk10
      have hkB2 : decide (10 ≤ kd) = true := decide_eq_true hk10
      have hdw := HDW2.out
      obtain ⟨ql, q0, q1, qf⟩ := HQW.out.qc
      have HCE := Lib.hid (HEW.out N2 b Q 1 (depth - 2) _ (by omega) (by omega) (by decide) (by decide) (by have := HQL.out; omega) h8 HQW.out.qp (fun c hc => (HQW.out.n2 c hc).1) HQW.out.ew.an.tape (HE.out.step HQW.out.ew.all h8))
      unfold plV at HCE
      go_wp2_with fail
      clear ql q0 q1 qf
      refine (HCE.out).mono ?_
      rintro e' w8 ⟨E8, rfl, hE5, hV5, ht5, hs5⟩
      have hyl := HQW.out.qb.lt
      have HE8 := Lib.hid (hE5.weak (M := fun c => Y < c) fun c _ hc => by omega)
      have HV8 := Lib.hid hV5
      have HQ8 := Lib.hid (HQW.out.next hs5 ht5)
      clear hE5 hV5 ht5 hs5 HCE hyl hdw
      have HQ8b := Lib.hid (HQ8.out.items HE8.out 27)
      dsimp only [exV]
      obtain ⟨yl, y0, y1, y2, y3, yf⟩ := HQ8.out.qb
      simp only [List.length_nil] at y0 y1 y2 y3
      go_upto_region 6 with (fail)
      clear yl y0 y1 y2 y3 yf HQ8
      generalize World.alloc _ _ = w8b at *
      go_wp2_with fail
      refine (tbool_any b 3 _ (by decide) (by decide) HQ8b.out.ew.an.tape).mono ?_
      rintro e' w9 ⟨q9, rfl, ht9, hs9⟩
      have HQ9 := Lib.hid (HQ8b.out.next hs9 ht9)
      clear ht9 hs9 HQ8b
      cases q9
      · have hdw := HDW.out
        obtain ⟨ql, q0, q1, qf⟩ := HQ9.out.qc
        have HCE := Lib.hid (HEW.out N2 b Q 2 (depth - 1) _ (by omega) (by omega) (by decide) (by decide) (by have := HQL.out; omega) h8 HQ9.out.qp (fun c hc => (HQ9.out.n2 c hc).1) HQ9.out.ew.an.tape (HE.out.step HQ9.out.ew.all h8))
        unfold plV at HCE
        go_wp2_with fail
        clear ql q0 q1 qf
        refine (HCE.out).mono ?_
        rintro e' w10 ⟨E10, rfl, hE5, hV5, ht5, hs5⟩
        have hyl := HQ9.out.qb.lt
        have HE10 := Lib.hid (hE5.weak (M := fun c => Y < c) fun c _ hc => by omega)
        have HV10 := Lib.hid hV5
        have HQ10 := Lib.hid (HQ9.out.next hs5 ht5)
        clear hE5 hV5 ht5 hs5 HCE hyl hdw
        have HQ11 := Lib.hid (HQ10.out.wheres HE10.out 27)
        dsimp only [exV]
        obtain ⟨yl, y0, y1, y2, y3, yf⟩ := HQ10.out.qb
        simp only [List.length_nil] at y0 y1 y2 y3
        go_upto_region 8 with (fail)
        clear yl y0 y1 y2 y3 yf HQ10
        generalize World.alloc _ _ = wq at *
        have HTR := Lib.hid (HQ11.out.tree kd (by simp) (by simp) 53)
        have HEL := Lib.hid (HQ11.out.ew.low (below_alloc wq (.cells #[.bool (kd == 8), .slice (some ⟨w8.heap.size, 0, none⟩) 1 1, .string s.nm, .slice (some ⟨w10.heap.size, 0, none⟩) 1 1] 53)))
        have HRS := Lib.hid HQ11.out.ew.res
        obtain ⟨yl, y0, y1, y2, y3, yf⟩ := HQ11.out.qb
        simp only [List.length_nil] at y0 y1 y2 y3 HTR
        obtain ⟨xl, x0, x1, x2, x3, x4, x5, x6, x7, x8, x9, xf⟩ := HRS.out
        go_wp2
        refine ret_tree (X := w.heap.size + 1) (E := subEx kd (some ⟨wq.heap.size, 0, none⟩) 1 ⟨kd == 8, some ⟨w8.heap.size, 0, none⟩, 1, [E8], s.nm, some ⟨w10.heap.size, 0, none⟩, 1, [E10]⟩) (by have h := ten_boxA HRS.out (subEx kd (some ⟨wq.heap.size, 0, none⟩) 1 ⟨kd == 8, some ⟨w8.heap.size, 0, none⟩, 1, [E8], s.nm, some ⟨w10.heap.size, 0, none⟩, 1, [E10]⟩) (.cells #[.bool (kd == 8), .slice (some ⟨w8.heap.size, 0, none⟩) 1 1, .string s.nm, .slice (some ⟨w10.heap.size, 0, none⟩) 1 1] 53); simp only [ten, subEx, Ex.mk_k, Ex.mk_op, Ex.mk_no, Ex.mk_vk, Ex.mk_vi, Ex.mk_vt, Ex.mk_tb, Ex.mk_nm, Ex.mk_pa, Ex.mk_ca, Ex.mk_args, Ex.mk_ps, Ex.mk_cs, Ex.mk_sub, List.length_cons, List.length_nil] at h ⊢; exact h) (fun x0 x1 x2 x3 x4 x5 x6 x7 x8 x9 => by simp [results, Tryz.results22, go_sem, x0, x1, x2, x3, x4, x5, x6, x7, x8, x9, exV]) rfl ?_
        exact HEL.out.post HTR.out (vOf_sub (by omega) (by omega) (quB_mk hkb (by show 1 = itemN kd; unfold itemN; rw [if_pos (by omega)]) (by simp) HFR.out (ex_all_one HV8.out) (ex_all_one HV10.out))) (ten_butA HRS.out.lt (subEx kd (some ⟨wq.heap.size, 0, none⟩) 1 ⟨kd == 8, some ⟨w8.heap.size, 0, none⟩, 1, [E8], s.nm, some ⟨w10.heap.size, 0, none⟩, 1, [E10]⟩) (.cells #[.bool (kd == 8), .slice (some ⟨w8.heap.size, 0, none⟩) 1 1, .string s.nm, .slice (some ⟨w10.heap.size, 0, none⟩) 1 1] 53)) rfl
      · generalize w9 = wq at *
        have HTR := Lib.hid (HQ9.out.tree kd (by simp) (by simp) 53)
        have HEL := Lib.hid (HQ9.out.ew.low (below_alloc wq (.cells #[.bool (kd == 8), .slice (some ⟨w8.heap.size, 0, none⟩) 1 1, .string s.nm, .slice none 0 0] 53)))
        have HRS := Lib.hid HQ9.out.ew.res
        obtain ⟨yl, y0, y1, y2, y3, yf⟩ := HQ9.out.qb
        simp only [List.length_nil] at y0 y1 y2 y3 HTR
        obtain ⟨xl, x0, x1, x2, x3, x4, x5, x6, x7, x8, x9, xf⟩ := HRS.out
        go_wp2
        refine ret_tree (X := w.heap.size + 1) (E := subEx kd (some ⟨wq.heap.size, 0, none⟩) 1 ⟨kd == 8, some ⟨w8.heap.size, 0, none⟩, 1, [E8], s.nm, none, 0, []⟩) (by have h := ten_boxA HRS.out (subEx kd (some ⟨wq.heap.size, 0, none⟩) 1 ⟨kd == 8, some ⟨w8.heap.size, 0, none⟩, 1, [E8], s.nm, none, 0, []⟩) (.cells #[.bool (kd == 8), .slice (some ⟨w8.heap.size, 0, none⟩) 1 1, .string s.nm, .slice none 0 0] 53); simp only [ten, subEx, Ex.mk_k, Ex.mk_op, Ex.mk_no, Ex.mk_vk, Ex.mk_vi, Ex.mk_vt, Ex.mk_tb, Ex.mk_nm, Ex.mk_pa, Ex.mk_ca, Ex.mk_args, Ex.mk_ps, Ex.mk_cs, Ex.mk_sub, List.length_cons, List.length_nil] at h ⊢; exact h) (fun x0 x1 x2 x3 x4 x5 x6 x7 x8 x9 => by simp [results, Tryz.results22, go_sem, x0, x1, x2, x3, x4, x5, x6, x7, x8, x9, exV]) rfl ?_
        exact HEL.out.post HTR.out (vOf_sub (by omega) (by omega) (quB_mk hkb (by show 1 = itemN kd; unfold itemN; rw [if_pos (by omega)]) (by simp) HFR.out (ex_all_one HV8.out) (fun a ha => by cases ha))) (ten_butA HRS.out.lt (subEx kd (some ⟨wq.heap.size, 0, none⟩) 1 ⟨kd == 8, some ⟨w8.heap.size, 0, none⟩, 1, [E8], s.nm, none, 0, []⟩) (.cells #[.bool (kd == 8), .slice (some ⟨w8.heap.size, 0, none⟩) 1 1, .string s.nm, .slice none 0 0] 53)) rfl
    · have hkB : decide (kd ≥ 10) = false := decide_eq_false hk10
      have hkB2 : decide (10 ≤ kd) = false := decide_eq_false hk10
      go_wp2_with fail
      refine (tbool_any b 3 _ (by decide) (by decide) HQW.out.ew.an.tape).mono ?_
      rintro e' w9 ⟨q9, rfl, ht9, hs9⟩
      have HQ9 := Lib.hid (HQW.out.next hs9 ht9)
      clear ht9 hs9 HQW
      cases q9
      · have hdw := HDW.out
        obtain ⟨ql, q0, q1, qf⟩ := HQ9.out.qc
        have HCE := Lib.hid (HEW.out N2 b Q 2 (depth - 1) _ (by omega) (by omega) (by decide) (by decide) (by have := HQL.out; omega) h8 HQ9.out.qp (fun c hc => (HQ9.out.n2 c hc).1) HQ9.out.ew.an.tape (HE.out.step HQ9.out.ew.all h8))
        unfold plV at HCE
        go_wp2_with fail
        clear ql q0 q1 qf
        refine (HCE.out).mono ?_
        rintro e' w10 ⟨E10, rfl, hE5, hV5, ht5, hs5⟩
        have hyl := HQ9.out.qb.lt
        have HE10 := Lib.hid (hE5.weak (M := fun c => Y < c) fun c _ hc => by omega)
        have HV10 := Lib.hid hV5
        have HQ10 := Lib.hid (HQ9.out.next hs5 ht5)
        clear hE5 hV5 ht5 hs5 HCE hyl hdw
        have HQ11 := Lib.hid (HQ10.out.wheres HE10.out 27)
        dsimp only [exV]
        obtain ⟨yl, y0, y1, y2, y3, yf⟩ := HQ10.out.qb
        simp only [List.length_nil] at y0 y1 y2 y3
        go_upto_region 8 with (fail)
        clear yl y0 y1 y2 y3 yf HQ10
        generalize World.alloc _ _ = wq at *
        have HTR := Lib.hid (HQ11.out.tree kd (by simp) (by simp) 53)
        have HEL := Lib.hid (HQ11.out.ew.low (below_alloc wq (.cells #[.bool (kd == 8), .slice none 0 0, .string s.nm, .slice (some ⟨w10.heap.size, 0, none⟩) 1 1] 53)))
        have HRS := Lib.hid HQ11.out.ew.res
        obtain ⟨yl, y0, y1, y2, y3, yf⟩ := HQ11.out.qb
        simp only [List.length_nil] at y0 y1 y2 y3 HTR
        obtain ⟨xl, x0, x1, x2, x3, x4, x5, x6, x7, x8, x9, xf⟩ := HRS.out
        go_wp2
        refine ret_tree (X := w.heap.size + 1) (E := subEx kd (some ⟨wq.heap.size, 0, none⟩) 1 ⟨kd == 8, none, 0, [], s.nm, some ⟨w10.heap.size, 0, none⟩, 1, [E10]⟩) (by have h := ten_boxA HRS.out (subEx kd (some ⟨wq.heap.size, 0, none⟩) 1 ⟨kd == 8, none, 0, [], s.nm, some ⟨w10.heap.size, 0, none⟩, 1, [E10]⟩) (.cells #[.bool (kd == 8), .slice none 0 0, .string s.nm, .slice (some ⟨w10.heap.size, 0, none⟩) 1 1] 53); simp only [ten, subEx, Ex.mk_k, Ex.mk_op, Ex.mk_no, Ex.mk_vk, Ex.mk_vi, Ex.mk_vt, Ex.mk_tb, Ex.mk_nm, Ex.mk_pa, Ex.mk_ca, Ex.mk_args, Ex.mk_ps, Ex.mk_cs, Ex.mk_sub, List.length_cons, List.length_nil] at h ⊢; exact h) (fun x0 x1 x2 x3 x4 x5 x6 x7 x8 x9 => by simp [results, Tryz.results22, go_sem, x0, x1, x2, x3, x4, x5, x6, x7, x8, x9, exV]) rfl ?_
        exact HEL.out.post HTR.out (vOf_sub (by omega) (by omega) (quB_mk hkb (by show 0 = itemN kd; unfold itemN; rw [if_neg (by omega)]) (by simp) HFR.out (fun a ha => by cases ha) (ex_all_one HV10.out))) (ten_butA HRS.out.lt (subEx kd (some ⟨wq.heap.size, 0, none⟩) 1 ⟨kd == 8, none, 0, [], s.nm, some ⟨w10.heap.size, 0, none⟩, 1, [E10]⟩) (.cells #[.bool (kd == 8), .slice none 0 0, .string s.nm, .slice (some ⟨w10.heap.size, 0, none⟩) 1 1] 53)) rfl
      · generalize w9 = wq at *
        have HTR := Lib.hid (HQ9.out.tree kd (by simp) (by simp) 53)
        have HEL := Lib.hid (HQ9.out.ew.low (below_alloc wq (.cells #[.bool (kd == 8), .slice none 0 0, .string s.nm, .slice none 0 0] 53)))
        have HRS := Lib.hid HQ9.out.ew.res
        obtain ⟨yl, y0, y1, y2, y3, yf⟩ := HQ9.out.qb
        simp only [List.length_nil] at y0 y1 y2 y3 HTR
        obtain ⟨xl, x0, x1, x2, x3, x4, x5, x6, x7, x8, x9, xf⟩ := HRS.out
        go_wp2
        refine ret_tree (X := w.heap.size + 1) (E := subEx kd (some ⟨wq.heap.size, 0, none⟩) 1 ⟨kd == 8, none, 0, [], s.nm, none, 0, []⟩) (by have h := ten_boxA HRS.out (subEx kd (some ⟨wq.heap.size, 0, none⟩) 1 ⟨kd == 8, none, 0, [], s.nm, none, 0, []⟩) (.cells #[.bool (kd == 8), .slice none 0 0, .string s.nm, .slice none 0 0] 53); simp only [ten, subEx, Ex.mk_k, Ex.mk_op, Ex.mk_no, Ex.mk_vk, Ex.mk_vi, Ex.mk_vt, Ex.mk_tb, Ex.mk_nm, Ex.mk_pa, Ex.mk_ca, Ex.mk_args, Ex.mk_ps, Ex.mk_cs, Ex.mk_sub, List.length_cons, List.length_nil] at h ⊢; exact h) (fun x0 x1 x2 x3 x4 x5 x6 x7 x8 x9 => by simp [results, Tryz.results22, go_sem, x0, x1, x2, x3, x4, x5, x6, x7, x8, x9, exV]) rfl ?_
        exact HEL.out.post HTR.out (vOf_sub (by omega) (by omega) (quB_mk hkb (by show 0 = itemN kd; unfold itemN; rw [if_neg (by omega)]) (by simp) HFR.out (fun a ha => by cases ha) (fun a ha => by cases ha))) (ten_butA HRS.out.lt (subEx kd (some ⟨wq.heap.size, 0, none⟩) 1 ⟨kd == 8, none, 0, [], s.nm, none, 0, []⟩) (.cells #[.bool (kd == 8), .slice none 0 0, .string s.nm, .slice none 0 0] 53)) rfl
end Go.Proofs.YtlpaphgmdcpmaaaGreatDoor
