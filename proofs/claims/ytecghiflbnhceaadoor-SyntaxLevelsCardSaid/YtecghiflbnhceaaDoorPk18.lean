/-
  Several texts in one.
-/
import Derived.Test.YtecghiflbnhceaaDoorPk16
import Derived.Test.YtecghiflbnhceaaDoorPk17
import Derived.Deep.RegionLaw
import Derived.Deep.RegionWith
import Derived.Deep.CutRange
import Derived.Deep.CutBlock
import Derived.Test.YtecghiflbnhceaaDoorPk15
/-
  The sanity check of layer 11.
-/
namespace Go.Proofs.YtecghiflbnhceaaDoor
set_option maxRecDepth 100000
open Go.RowKit
variable {ls : List Nat}

set_option maxHeartbeats 2000000 in
theorem bin_any (op : Int) (a b : Ex) (w : World) :
    Calls Tryd.prog 23 #[.int .i64 op, exV a, exV b] w fun e w' => ∃ g, e = .returned (.agg #[.int .i64 5, .int .i64 op, .bool false, .int .i64 0, .int .i64 0, .string ⟨#[]⟩, .string ⟨#[]⟩, .string ⟨#[]⟩, .slice (some ⟨g, 0, none⟩) 2 2, .slice none 0 0]) ∧ w.heap.size ≤ g ∧ g < w'.heap.size ∧ ExC w' g 0 a ∧ ExC w' g 10 b ∧ Below w.heap.size w w' := by
  unfold exV
  go_enter Tryd.func23, Tryd.ntmps23
  go_wp2
  refine bodyPost_ret (v := .agg #[.int .i64 5, .int .i64 op, .bool false, .int .i64 0, .int .i64 0, .string ⟨#[]⟩, .string ⟨#[]⟩, .string ⟨#[]⟩, .slice (some ⟨w.heap.size + 1 + 1 + 1, 0, none⟩) 2 2, .slice none 0 0]) (by simp [results, Tryd.results23, go_sem]) rfl ⟨w.heap.size + 1 + 1 + 1, rfl, by omega, by simp, ?_, ?_, below_new (below_new (below_new (below_alloc _ _) _) _) _⟩
  · constructor <;> go_simp
  · constructor <;> go_simp
def knA : Ex := colEx ⟨#[]⟩ ⟨#[97]⟩
def knB : Ex := colEx ⟨#[116]⟩ ⟨#[98]⟩
def knAnd (p : Option Addr) : Ex := argEx 5 2 false p 2 [knA, knB]
def knNot (p q : Option Addr) : Ex := argEx 3 0 false q 1 [knAnd p]
def knNeg : Ex := litEx 1 (-1) ⟨#[]⟩
theorem knA_valid (V : Ex → Bool) : vOf V knA = true := vOf_col qual_none (by decide +kernel)
theorem knB_valid (V : Ex → Bool) : vOf V knB = true := vOf_col (by decide +kernel) (by decide +kernel)
theorem knNot_valid (p q : Option Addr) : vE 3 (knNot p q) = true := by
  refine vOf_args (by decide) (by decide) rfl (fun h => absurd h (by decide)) (fun _ => rfl) (fun _ => rfl) fun a ha => ?_
  obtain rfl := List.mem_singleton.1 ha
  refine vOf_args (by decide) (by decide) rfl (fun _ => by decide) (fun h => absurd rfl h) (fun _ => rfl) fun a ha => ?_
  rcases List.mem_cons.1 ha with rfl | ha
  · exact knA_valid _
  · obtain rfl := List.mem_singleton.1 ha; exact knB_valid _
theorem knNot_lev (p q : Option Addr) : lev 3 (knNot p q) = 2 := by rfl
theorem knNeg_valid : vE 1 knNeg = false := by
  show vOf _ _ = false
  rw [Bool.eq_false_iff]
  intro h
  have := (vOf_iff.1 h).lit rfl
  exact absurd this.2.1 (by decide)
set_option maxHeartbeats 4000000 in
theorem known11_any (w : World) (hE : Env ls w) (hu : 2 ∈ ls) (ho : 1 ∈ ls) :
    Calls Tryd.prog 9 #[] w fun e w' => e = .returned (.bool true) ∧ Below w.heap.size w w' := by
  have HE := Lib.hid hE
  clear hE
  go_enter Tryd.func9, Tryd.ntmps9
  go_wp2_with fail
  refine (col_agg ⟨#[]⟩ ⟨#[97]⟩ _).mono ?_
  rintro e w1 ⟨rfl, hb1⟩
  have HB1 := Lib.hid hb1
  clear hb1
  go_wp2_with fail
  refine (col_agg ⟨#[116]⟩ ⟨#[98]⟩ _).mono ?_
  rintro e w2 ⟨rfl, hb2⟩
  have HB2 := Lib.hid (below_next HB1.out hb2)
  clear hb2
  go_wp2_with fail
  have hbx := below_new (below_alloc w2 (.cells #[.int .i64 2, .int .i64 0, .bool false, .int .i64 0, .int .i64 0, .string ⟨#[]⟩, .string ⟨#[]⟩, .string ⟨#[97]⟩, .slice none 0 0, .slice none 0 0] 30)) (.cells #[.int .i64 2, .int .i64 0, .bool false, .int .i64 0, .int .i64 0, .string ⟨#[]⟩, .string ⟨#[116]⟩, .string ⟨#[98]⟩, .slice none 0 0, .slice none 0 0] 30)
  have HB3 := Lib.hid (below_next HB2.out hbx)
  clear hbx
  refine (bin_any 2 knA knB _).mono ?_
  rintro e w4 ⟨g, rfl, hg, hgl, hA, hB, hb4⟩
  have HB4 := Lib.hid (below_next HB3.out hb4)
  have hl1 : LAt (fun _ => True) w4 (ExAt (fun _ => True) w4 1) (some ⟨g, 0, none⟩) [knA, knB] := fun i hi => by
    have hi2 : i = 0 ∨ i = 1 := by have hi : i < 2 := hi; omega
    rcases hi2 with rfl | rfl
    · exact ⟨g, 0, rfl, hgl, trivial, hA, ExAt.leaf _ _ 0 2 0 false 0 0 (by decide) (by decide) (by decide)⟩
    · exact ⟨g, 0, rfl, hgl, trivial, hB, ExAt.leaf _ _ 0 2 0 false 0 0 (by decide) (by decide) (by decide)⟩
  have e0 : (⟨#[]⟩ : ByteArray).size ≤ 9223372036854775807 := by decide
  have hand : ExAt (fun _ => True) w4 2 (knAnd (some ⟨g, 0, none⟩)) := ⟨e0, e0, e0, (show (2 : Nat) ≤ 9223372036854775807 by decide), (show (0 : Nat) ≤ 9223372036854775807 by decide), hl1, QAt.nil _ _ _ _⟩
  have hone := one_ex hand trivial 30
  have hnot := fun (v : World) (hb : Below (w4.alloc (.cells #[.int .i64 5, .int .i64 2, .bool false, .int .i64 0, .int .i64 0, .string ⟨#[]⟩, .string ⟨#[]⟩, .string ⟨#[]⟩, .slice (some ⟨g, 0, none⟩) 2 2, .slice none 0 0] 30)).heap.size (w4.alloc (.cells #[.int .i64 5, .int .i64 2, .bool false, .int .i64 0, .int .i64 0, .string ⟨#[]⟩, .string ⟨#[]⟩, .string ⟨#[]⟩, .slice (some ⟨g, 0, none⟩) 2 2, .slice none 0 0] 30)) v) =>
    (show ExAt (fun _ => True) v 3 (knNot (some ⟨g, 0, none⟩) (some ⟨w4.heap.size, 0, none⟩)) from ⟨e0, e0, e0, (show (1 : Nat) ≤ 9223372036854775807 by decide), (show (0 : Nat) ≤ 9223372036854775807 by decide), LAt.low hone hb, QAt.nil _ _ _ _⟩)
  have HNOT := Lib.hid hnot
  clear hA hB hb4 hl1 hand hone hnot hg hgl
  have HBW := Lib.hid (below_next HB4.out (below_alloc w4 (.cells #[.int .i64 5, .int .i64 2, .bool false, .int .i64 0, .int .i64 0, .string ⟨#[]⟩, .string ⟨#[]⟩, .string ⟨#[]⟩, .slice (some ⟨g, 0, none⟩) 2 2, .slice none 0 0] 30)))
  have HE4 := Lib.hid (HE.out.low HBW.out)
  have HV : Hid (∀ v, Below (w4.alloc (.cells #[.int .i64 5, .int .i64 2, .bool false, .int .i64 0, .int .i64 0, .string ⟨#[]⟩, .string ⟨#[]⟩, .string ⟨#[]⟩, .slice (some ⟨g, 0, none⟩) 2 2, .slice none 0 0] 30)).heap.size (w4.alloc (.cells #[.int .i64 5, .int .i64 2, .bool false, .int .i64 0, .int .i64 0, .string ⟨#[]⟩, .string ⟨#[]⟩, .string ⟨#[]⟩, .slice (some ⟨g, 0, none⟩) 2 2, .slice none 0 0] 30)) v → Calls Tryd.prog 12 #[.agg #[.int .i64 3, .int .i64 0, .bool false, .int .i64 0, .int .i64 0, .string ⟨#[]⟩, .string ⟨#[]⟩, .string ⟨#[]⟩, .slice (some ⟨w4.heap.size, 0, none⟩) 1 1, .slice none 0 0]] v fun r w' => r = .returned (.bool true) ∧ Below v.heap.size v w') := Lib.hid fun v hb => by
    have h := validExpr_any hu 3 _ _ v (HNOT.out v hb) (HE4.out.low hb)
    rw [knNot_valid] at h
    exact h
  have HL : Hid (∀ v, Below (w4.alloc (.cells #[.int .i64 5, .int .i64 2, .bool false, .int .i64 0, .int .i64 0, .string ⟨#[]⟩, .string ⟨#[]⟩, .string ⟨#[]⟩, .slice (some ⟨g, 0, none⟩) 2 2, .slice none 0 0] 30)).heap.size (w4.alloc (.cells #[.int .i64 5, .int .i64 2, .bool false, .int .i64 0, .int .i64 0, .string ⟨#[]⟩, .string ⟨#[]⟩, .string ⟨#[]⟩, .slice (some ⟨g, 0, none⟩) 2 2, .slice none 0 0] 30)) v → Calls Tryd.prog 7 #[.agg #[.int .i64 3, .int .i64 0, .bool false, .int .i64 0, .int .i64 0, .string ⟨#[]⟩, .string ⟨#[]⟩, .string ⟨#[]⟩, .slice (some ⟨w4.heap.size, 0, none⟩) 1 1, .slice none 0 0]] v fun r w' => r = .returned (.int .i64 2) ∧ Below v.heap.size v w') := Lib.hid fun v hb => by
    have h := levelsOf_any ho 3 (by decide) _ _ v (HNOT.out v hb) (knNot_valid _ _) (HE4.out.low hb)
    rw [knNot_lev] at h
    exact h
  have HP : Hid (∀ v, Below (w4.alloc (.cells #[.int .i64 5, .int .i64 2, .bool false, .int .i64 0, .int .i64 0, .string ⟨#[]⟩, .string ⟨#[]⟩, .string ⟨#[]⟩, .slice (some ⟨g, 0, none⟩) 2 2, .slice none 0 0] 30)).heap.size (w4.alloc (.cells #[.int .i64 5, .int .i64 2, .bool false, .int .i64 0, .int .i64 0, .string ⟨#[]⟩, .string ⟨#[]⟩, .string ⟨#[]⟩, .slice (some ⟨g, 0, none⟩) 2 2, .slice none 0 0] 30)) v → Calls Tryd.prog 8 #[.agg #[.int .i64 3, .int .i64 0, .bool false, .int .i64 0, .int .i64 0, .string ⟨#[]⟩, .string ⟨#[]⟩, .string ⟨#[]⟩, .slice (some ⟨w4.heap.size, 0, none⟩) 1 1, .slice none 0 0]] v fun r w' => r = .returned (.int .i64 3) ∧ Below v.heap.size v w') := Lib.hid fun v hb =>
    prec_any (knNot (some ⟨g, 0, none⟩) (some ⟨w4.heap.size, 0, none⟩)) v (HE4.out.low hb) ho
  have HN : Hid (∀ v, Env ls v → Calls Tryd.prog 12 #[.agg #[.int .i64 1, .int .i64 0, .bool false, .int .i64 1, .int .i64 (-1), .string ⟨#[]⟩, .string ⟨#[]⟩, .string ⟨#[]⟩, .slice none 0 0, .slice none 0 0]] v fun r w' => r = .returned (.bool false) ∧ Below v.heap.size v w') := Lib.hid fun v hE => by
    have h := validExpr_any hu 1 (fun _ => True) knNeg v (ExAt.leaf _ _ 0 1 0 false 1 (-1) e0 e0 e0) hE
    rw [knNeg_valid] at h
    exact h
  clear HNOT e0
  go_wp2_with fail
  have hsz := size_alloc w4 (.cells #[.int .i64 5, .int .i64 2, .bool false, .int .i64 0, .int .i64 0, .string ⟨#[]⟩, .string ⟨#[]⟩, .string ⟨#[]⟩, .slice (some ⟨g, 0, none⟩) 2 2, .slice none 0 0] 30)
  have hbz := below_alloc (w4.alloc (.cells #[.int .i64 5, .int .i64 2, .bool false, .int .i64 0, .int .i64 0, .string ⟨#[]⟩, .string ⟨#[]⟩, .string ⟨#[]⟩, .slice (some ⟨g, 0, none⟩) 2 2, .slice none 0 0] 30)) (.cells #[.int .i64 3, .int .i64 0, .bool false, .int .i64 0, .int .i64 0, .string ⟨#[]⟩, .string ⟨#[]⟩, .string ⟨#[]⟩, .slice (some ⟨w4.heap.size, 0, none⟩) 1 1, .slice none 0 0] 30)
  generalize (w4.alloc (.cells #[.int .i64 5, .int .i64 2, .bool false, .int .i64 0, .int .i64 0, .string ⟨#[]⟩, .string ⟨#[]⟩, .string ⟨#[]⟩, .slice (some ⟨g, 0, none⟩) 2 2, .slice none 0 0] 30)) = W4 at *
  refine (HV.out _ hbz).mono ?_
  rintro e w5 ⟨rfl, hb5⟩
  have HB5 := Lib.hid (below_next hbz hb5)
  have HX5 := Lib.hid ((ExB.new W4 (.mk 3 0 false 0 0 ⟨#[]⟩ ⟨#[]⟩ ⟨#[]⟩ (some ⟨w4.heap.size, 0, none⟩) 1 [knA] none 0 []) 30).low hb5 |>.at hsz)
  clear hb5 hbz
  obtain ⟨xl, x0, x1, x2, x3, x4, x5, x6, x7, x8, x9, xf⟩ := HX5.out
  simp only [Ex.mk_k, Ex.mk_op, Ex.mk_no, Ex.mk_vk, Ex.mk_vi, Ex.mk_vt, Ex.mk_tb, Ex.mk_nm, Ex.mk_pa, Ex.mk_ca, Ex.mk_args, Ex.mk_ps, Ex.mk_cs, Ex.mk_sub, List.length_singleton, List.length_nil] at x0 x1 x2 x3 x4 x5 x6 x7 x8 x9
  go_wp2_with fail
  refine (HL.out _ HB5.out).mono ?_
  rintro e w6 ⟨rfl, hb6⟩
  have HB6 := Lib.hid (below_next HB5.out hb6)
  have HX6 := Lib.hid (HX5.out.low hb6)
  clear hb6 HB5 HX5 xl x0 x1 x2 x3 x4 x5 x6 x7 x8 x9 xf
  obtain ⟨xl, x0, x1, x2, x3, x4, x5, x6, x7, x8, x9, xf⟩ := HX6.out
  simp only [Ex.mk_k, Ex.mk_op, Ex.mk_no, Ex.mk_vk, Ex.mk_vi, Ex.mk_vt, Ex.mk_tb, Ex.mk_nm, Ex.mk_pa, Ex.mk_ca, Ex.mk_args, Ex.mk_ps, Ex.mk_cs, Ex.mk_sub, List.length_singleton, List.length_nil] at x0 x1 x2 x3 x4 x5 x6 x7 x8 x9
  go_wp2_with fail
  refine (HP.out _ HB6.out).mono ?_
  rintro e w7 ⟨rfl, hb7⟩
  have HB7 := Lib.hid (below_next HB6.out hb7)
  clear hb7 HB6 HX6 xl x0 x1 x2 x3 x4 x5 x6 x7 x8 x9 xf
  go_wp2_with fail
  refine (lit_agg 1 (-1) ⟨#[]⟩ _).mono ?_
  rintro e w8 ⟨rfl, hb8⟩
  have HB8 := Lib.hid (below_next HB7.out hb8)
  clear hb8
  go_wp2_with fail
  refine (HN.out _ (HE4.out.low HB8.out)).mono ?_
  rintro e w9 ⟨rfl, hb9⟩
  have HB9 := Lib.hid (below_next HBW.out (below_next HB8.out hb9))
  clear hb9
  go_wp2
  go_ret
  exact ⟨rfl, HB9.out⟩
end Go.Proofs.YtecghiflbnhceaaDoor
/-
  AnyExpr of the tape gives well-formed trees.
-/
namespace Go.Proofs.YtecghiflbnhceaaDoor
set_option maxRecDepth 100000
open Go.RowKit
variable {ls : List Nat}

/-- AnyExpr for depths below D. -/
def AnyDoes (ls : List Nat) (D : Nat) : Prop := ∀ (b : Nat) (depth : Int) (w : World), depth < D → -1000 ≤ depth → 4 ≤ b → TapeAt w b → Env ls w →
    Calls Tryd.prog 6 #[.pointer (some ⟨b, 0, none⟩), .int .i64 depth] w (AExPost b D w)
theorem leaf_end {b D : Nat} {w u : World} {E : Ex} (hW : AnW b w u) (hE : ∀ v, ExAt (fun c => w.heap.size < c) v D E) (hV : vE D E = true) {v : World} (hb : ButX w.heap.size u v) {e : Ending} (he : e = .returned (exV E)) : AExPost b D w e v :=
  ⟨E, he, hE v, hV, hW.tape.but hb hW.lt, hW.step.but hb (Nat.le_refl _)⟩
theorem tree_end {b X D : Nat} {w u : World} {E : Ex} (hW : AnW b w u) (hE : ExAt (fun c => X < c) u D E) (hX : w.heap.size < X) (hV : vE D E = true) {v : World} (hb : ButX w.heap.size u v) {e : Ending} (he : e = .returned (exV E)) : AExPost b D w e v :=
  ⟨E, he, hE.but hb fun c _ hc => ⟨by omega, by omega⟩, hV, hW.tape.but hb hW.lt, hW.step.but hb (Nat.le_refl _)⟩
set_option maxHeartbeats 4000000 in
theorem anyExpr_step {D : Nat} (hD : D ≤ 100) (H : 1 ≤ D → AnyDoes ls D) (hn : 0 ∈ ls) (hlw : 3 ∈ ls) : AnyDoes ls (D + 1) := by
  intro b depth w hd hd2 h8 ht hE
  have hlt := ht.lt
  have hW0 : AnW b w (w.alloc (.cells #[.int .i64 0, .int .i64 0, .bool false, .int .i64 0, .int .i64 0, .string ⟨#[]⟩, .string ⟨#[]⟩, .string ⟨#[]⟩, .slice none 0 0, .slice none 0 0] 30)) :=
    ⟨ht.alloc _, (StepT.refl b w).alloc _, ExB.new w ex0 _, hlt⟩
  have HW0 := Lib.hid hW0
  have HE := Lib.hid hE
  have hb4 : b ≠ 3 := Nat.ne_of_gt (Nat.lt_of_lt_of_le (show 3 < 4 by decide) h8)
  have HD := Lib.hid H
  clear hW0 hE ht H
  go_enter Tryd.func6, Tryd.ntmps6
  go_wp2_with fail
  refine (next_any b _ _ (by omega) (by omega) HW0.out.tape).mono ?_
  rintro e w1 ⟨r, rfl, hr0, hr1, ht1, hs1⟩
  have HW1 := Lib.hid (HW0.out.next hs1 ht1)
  clear hs1 ht1 HW0
  rcases (show depth ≤ 0 ∨ (0 < depth ∧ r ≤ 1) ∨ (0 < depth ∧ 2 ≤ r) by omega) with h0 | ⟨h0, h1⟩ | ⟨h0, h1⟩
  · have e1 : decide (depth ≤ 0) = true := decide_eq_true h0
    go_wp2_with fail
    refine (tbool_any b 2 _ (by omega) (by omega) HW1.out.tape).mono ?_
    rintro e w2 ⟨q1, rfl, ht2, hs2⟩
    have HW2 := Lib.hid (HW1.out.next hs2 ht2)
    clear hs2 ht2 HW1
    cases q1
    · have HE2 := Lib.hid (HE.out.step HW2.out.step h8)
      go_wp2_with fail
      refine (value_any b _ hb4 HW2.out.tape (HE2.out.words hlw)).mono ?_
      rintro e w3 ⟨k, n, sv, rfl, hv, -, ht3, hs3⟩
      have HV := Lib.hid hv
      have HW3 := Lib.hid (HW2.out.next hs3 ht3)
      clear hv hs3 ht3 HW2
      have hsz : sv.size ≤ 9223372036854775807 := by have := HV.out.size; omega
      by_cases hneg : k = 1 ∧ n < 0
      · obtain ⟨rfl, hn0⟩ := hneg
        obtain ⟨yl, y0, y1, y2, yf⟩ := cell3_new w3 (.int .i64 1) (.int .i64 n) (.string sv) 26
        have HW4 := Lib.hid (HW3.out.low (below_alloc w3 (.cells #[.int .i64 1, .int .i64 n, .string sv] 26)))
        go_wp2_with fail
        refine (next_any b _ _ (by omega) (by omega) HW4.out.tape).mono ?_
        rintro e w4 ⟨m, rfl, hm0, hm1, ht4, hs4⟩
        have HW5 := Lib.hid (HW4.out.next hs4 ht4)
        have hbv : w3.heap.size ≠ b := by have := HW3.out.tape.lt; omega
        have hy := (cell3_new w3 (.int .i64 1) (.int .i64 n) (.string sv) 26).step3 hs4 hbv
        have hwl : w.heap.size < w3.heap.size := HW3.out.res.lt
        clear hs4 ht4 yl y0 y1 y2 yf
        obtain ⟨yl, y0, y1, y2, yf⟩ := hy
        have hbx := (ButX.refl w3.heap.size w4).set 1 none (.int .i64 m)
        have HW6 := Lib.hid (HW5.out.but hbx hwl)
        go_wp2_with fail
        refine (lit_agg 1 m sv _).mono ?_
        rintro e w6 ⟨rfl, hb6⟩
        have HW7 := Lib.hid (HW6.out.low hb6)
        have HVL := Lib.hid (show vE (D + 1) (litEx 1 m sv) = true from vOf_lit (by rcases HV.out with ⟨h, -⟩ | ⟨-, -, rfl⟩ | ⟨h, -⟩ | ⟨h, -⟩ <;> first | omega | simp [validB]) hm0)
        clear hb6 HW3 HW4 HW5 HW6 yl y0 y1 y2 yf hbx
        obtain ⟨xl, c0, c1, c2, c3, c4, c5, c6, c7, c8, c9, xf⟩ := HW7.out.res
        go_wp2
        obtain ⟨x0, x1, x2, x3, x4, x5, x6, x7, x8, x9⟩ := set_ten HW7.out.res (.int .i64 1) (.int .i64 0) (.bool false) (.int .i64 1) (.int .i64 m) (.string sv) (.string ⟨#[]⟩) (.string ⟨#[]⟩) (.slice none 0 0) (.slice none 0 0)
        refine bodyPost_ret (v := .agg #[.int .i64 1, .int .i64 0, .bool false, .int .i64 1, .int .i64 m, .string sv, .string ⟨#[]⟩, .string ⟨#[]⟩, .slice none 0 0, .slice none 0 0]) (by simp [results, Tryd.results6, go_sem, x0, x1, x2, x3, x4, x5, x6, x7, x8, x9]) rfl ?_
        exact leaf_end (E := litEx 1 m sv) HW7.out (fun v => ExAt.leaf _ v D 1 0 false 1 m hsz (by decide) (by decide)) HVL.out (but_ten _ _ _ _ _ _ _ _ _ _ _ _) rfl
      · have HVL := Lib.hid (show vE (D + 1) (litEx k n sv) = true from vOf_lit HV.out.valid (by rcases HV.out with ⟨-, rfl, -⟩ | ⟨rfl, -, -⟩ | ⟨-, h, -, -⟩ | ⟨-, rfl, -⟩ <;> omega))
        have HW4 := Lib.hid (HW3.out.low (below_alloc w3 (.cells #[.int .i64 k, .int .i64 n, .string sv] 26)))
        have e5 : (k == 1 && decide (n < 0)) = false := by
          by_cases h : k = 1
          · simp [h] at hneg ⊢; omega
          · simp [h]
        have hval := lit_agg k n sv
        by_cases hk1 : k = 1
        · have e6 : decide (n < 0) = false := decide_eq_false (by omega)
          subst hk1
          go_wp2_with fail
          refine (hval _).mono ?_
          rintro e w6 ⟨rfl, hb6⟩
          have HW7 := Lib.hid (HW4.out.low hb6)
          clear hb6 HW3 HW4
          obtain ⟨xl, c0, c1, c2, c3, c4, c5, c6, c7, c8, c9, xf⟩ := HW7.out.res
          go_wp2
          obtain ⟨x0, x1, x2, x3, x4, x5, x6, x7, x8, x9⟩ := set_ten HW7.out.res (.int .i64 1) (.int .i64 0) (.bool false) (.int .i64 1) (.int .i64 n) (.string sv) (.string ⟨#[]⟩) (.string ⟨#[]⟩) (.slice none 0 0) (.slice none 0 0)
          refine bodyPost_ret (v := .agg #[.int .i64 1, .int .i64 0, .bool false, .int .i64 1, .int .i64 n, .string sv, .string ⟨#[]⟩, .string ⟨#[]⟩, .slice none 0 0, .slice none 0 0]) (by simp [results, Tryd.results6, go_sem, x0, x1, x2, x3, x4, x5, x6, x7, x8, x9]) rfl ?_
          exact leaf_end (E := litEx 1 n sv) HW7.out (fun v => ExAt.leaf _ v D 1 0 false 1 n hsz (by decide) (by decide)) HVL.out (but_ten _ _ _ _ _ _ _ _ _ _ _ _) rfl
        · have e6 : (k == 1) = false := beq_eq_false_iff_ne.2 hk1
          go_wp2_with fail
          refine (hval _).mono ?_
          rintro e w6 ⟨rfl, hb6⟩
          have HW7 := Lib.hid (HW4.out.low hb6)
          clear hb6 HW3 HW4
          obtain ⟨xl, c0, c1, c2, c3, c4, c5, c6, c7, c8, c9, xf⟩ := HW7.out.res
          go_wp2
          obtain ⟨x0, x1, x2, x3, x4, x5, x6, x7, x8, x9⟩ := set_ten HW7.out.res (.int .i64 1) (.int .i64 0) (.bool false) (.int .i64 k) (.int .i64 n) (.string sv) (.string ⟨#[]⟩) (.string ⟨#[]⟩) (.slice none 0 0) (.slice none 0 0)
          refine bodyPost_ret (v := .agg #[.int .i64 1, .int .i64 0, .bool false, .int .i64 k, .int .i64 n, .string sv, .string ⟨#[]⟩, .string ⟨#[]⟩, .slice none 0 0, .slice none 0 0]) (by simp [results, Tryd.results6, go_sem, x0, x1, x2, x3, x4, x5, x6, x7, x8, x9]) rfl ?_
          exact leaf_end (E := litEx k n sv) HW7.out (fun v => ExAt.leaf _ v D 1 0 false k n hsz (by decide) (by decide)) HVL.out (but_ten _ _ _ _ _ _ _ _ _ _ _ _) rfl
    · go_wp2_with fail
      refine (tbool_any b 3 _ (by omega) (by omega) HW2.out.tape).mono ?_
      rintro e w3 ⟨q2, rfl, ht3, hs3⟩
      have HW3 := Lib.hid (HW2.out.next hs3 ht3)
      clear hs3 ht3 HW2
      cases q2
      · go_wp2_with fail
        refine (name_any b _ h8 HW3.out.tape (HE.out.step HW3.out.step h8) hn).mono ?_
        rintro e w4 ⟨i, rfl, hi, ht4, hs4⟩
        have HW4 := Lib.hid (HW3.out.next hs4 ht4)
        have HVL := Lib.hid (show vE (D + 1) (colEx ⟨#[]⟩ (nameS i)) = true from vOf_col qual_none (names_fine ⟨i, hi⟩).1)
        have hsz := (names_fine ⟨i, hi⟩).2
        simp only at hsz
        clear hs4 ht4 HW3
        generalize nameS i = nv at *
        go_wp2_with fail
        refine (col_agg ⟨#[]⟩ nv _).mono ?_
        rintro e w6 ⟨rfl, hb6⟩
        have HW7 := Lib.hid (HW4.out.low hb6)
        clear hb6 HW4
        obtain ⟨xl, c0, c1, c2, c3, c4, c5, c6, c7, c8, c9, xf⟩ := HW7.out.res
        go_wp2
        obtain ⟨x0, x1, x2, x3, x4, x5, x6, x7, x8, x9⟩ := set_ten HW7.out.res (.int .i64 2) (.int .i64 0) (.bool false) (.int .i64 0) (.int .i64 0) (.string ⟨#[]⟩) (.string ⟨#[]⟩) (.string nv) (.slice none 0 0) (.slice none 0 0)
        refine bodyPost_ret (v := .agg #[.int .i64 2, .int .i64 0, .bool false, .int .i64 0, .int .i64 0, .string ⟨#[]⟩, .string ⟨#[]⟩, .string nv, .slice none 0 0, .slice none 0 0]) (by simp [results, Tryd.results6, go_sem, x0, x1, x2, x3, x4, x5, x6, x7, x8, x9]) rfl ?_
        exact leaf_end (E := colEx ⟨#[]⟩ nv) HW7.out (fun v => ExAt.leaf _ v D 2 0 false 0 0 (by decide) (by decide) hsz) HVL.out (but_ten _ _ _ _ _ _ _ _ _ _ _ _) rfl
      · go_wp2_with fail
        refine (next_any b _ _ (by omega) (by omega) (HW3.out.low (below_alloc _ _)).tape).mono ?_
        rintro e w4 ⟨r4, rfl, hr40, hr41, ht4, hs4⟩
        obtain ⟨j, rfl⟩ : ∃ j : Nat, r4 = j := ⟨r4.toNat, by omega⟩
        have hj5 : j < 5 := by omega
        obtain ⟨hq, hql⟩ := qual_at hs4 HW3.out.tape.lt hj5
        have HW4 := Lib.hid ((HW3.out.low (below_alloc _ _)).next hs4 ht4)
        have hqf := quals_fine ⟨j, hj5⟩
        simp only at hqf
        have HQF := Lib.hid hqf
        clear hs4 ht4 HW3 hqf
        generalize qualS j = qv at *
        go_wp2_with fail
        refine (name_any b _ h8 HW4.out.tape (HE.out.step HW4.out.step h8) hn).mono ?_
        rintro e w5 ⟨i, rfl, hi, ht5, hs5⟩
        have HW5 := Lib.hid (HW4.out.next hs5 ht5)
        have HVL := Lib.hid (show vE (D + 1) (colEx qv (nameS i)) = true from vOf_col HQF.out.1 (names_fine ⟨i, hi⟩).1)
        have hsz := (names_fine ⟨i, hi⟩).2
        simp only at hsz
        clear hs5 ht5 HW4 hq hql
        generalize nameS i = nv at *
        go_wp2_with fail
        refine (col_agg qv nv _).mono ?_
        rintro e w6 ⟨rfl, hb6⟩
        have HW7 := Lib.hid (HW5.out.low hb6)
        clear hb6 HW5
        obtain ⟨xl, c0, c1, c2, c3, c4, c5, c6, c7, c8, c9, xf⟩ := HW7.out.res
        go_wp2
        obtain ⟨x0, x1, x2, x3, x4, x5, x6, x7, x8, x9⟩ := set_ten HW7.out.res (.int .i64 2) (.int .i64 0) (.bool false) (.int .i64 0) (.int .i64 0) (.string ⟨#[]⟩) (.string qv) (.string nv) (.slice none 0 0) (.slice none 0 0)
        refine bodyPost_ret (v := .agg #[.int .i64 2, .int .i64 0, .bool false, .int .i64 0, .int .i64 0, .string ⟨#[]⟩, .string qv, .string nv, .slice none 0 0, .slice none 0 0]) (by simp [results, Tryd.results6, go_sem, x0, x1, x2, x3, x4, x5, x6, x7, x8, x9]) rfl ?_
        exact leaf_end (E := colEx qv nv) HW7.out (fun v => ExAt.leaf _ v D 2 0 false 0 0 (by decide) HQF.out.2 hsz) HVL.out (but_ten _ _ _ _ _ _ _ _ _ _ _ _) rfl
  · have e1 : decide (depth ≤ 0) = false := decide_eq_false (by omega)
    have e2 : decide (1 + r ≤ 2) = true := decide_eq_true (by omega)
    go_wp2_with fail
    refine (tbool_any b 2 _ (by omega) (by omega) HW1.out.tape).mono ?_
    rintro e w2 ⟨q1, rfl, ht2, hs2⟩
    have HW2 := Lib.hid (HW1.out.next hs2 ht2)
    clear hs2 ht2 HW1
    cases q1
    · have HE2 := Lib.hid (HE.out.step HW2.out.step h8)
      go_wp2_with fail
      refine (value_any b _ hb4 HW2.out.tape (HE2.out.words hlw)).mono ?_
      rintro e w3 ⟨k, n, sv, rfl, hv, -, ht3, hs3⟩
      have HV := Lib.hid hv
      have HW3 := Lib.hid (HW2.out.next hs3 ht3)
      clear hv hs3 ht3 HW2
      have hsz : sv.size ≤ 9223372036854775807 := by have := HV.out.size; omega
      by_cases hneg : k = 1 ∧ n < 0
      · obtain ⟨rfl, hn0⟩ := hneg
        obtain ⟨yl, y0, y1, y2, yf⟩ := cell3_new w3 (.int .i64 1) (.int .i64 n) (.string sv) 26
        have HW4 := Lib.hid (HW3.out.low (below_alloc w3 (.cells #[.int .i64 1, .int .i64 n, .string sv] 26)))
        go_wp2_with fail
        refine (next_any b _ _ (by omega) (by omega) HW4.out.tape).mono ?_
        rintro e w4 ⟨m, rfl, hm0, hm1, ht4, hs4⟩
        have HW5 := Lib.hid (HW4.out.next hs4 ht4)
        have hbv : w3.heap.size ≠ b := by have := HW3.out.tape.lt; omega
        have hy := (cell3_new w3 (.int .i64 1) (.int .i64 n) (.string sv) 26).step3 hs4 hbv
        have hwl : w.heap.size < w3.heap.size := HW3.out.res.lt
        clear hs4 ht4 yl y0 y1 y2 yf
        obtain ⟨yl, y0, y1, y2, yf⟩ := hy
        have hbx := (ButX.refl w3.heap.size w4).set 1 none (.int .i64 m)
        have HW6 := Lib.hid (HW5.out.but hbx hwl)
        go_wp2_with fail
        refine (lit_agg 1 m sv _).mono ?_
        rintro e w6 ⟨rfl, hb6⟩
        have HW7 := Lib.hid (HW6.out.low hb6)
        have HVL := Lib.hid (show vE (D + 1) (litEx 1 m sv) = true from vOf_lit (by rcases HV.out with ⟨h, -⟩ | ⟨-, -, rfl⟩ | ⟨h, -⟩ | ⟨h, -⟩ <;> first | omega | simp [validB]) hm0)
        clear hb6 HW3 HW4 HW5 HW6 yl y0 y1 y2 yf hbx
        obtain ⟨xl, c0, c1, c2, c3, c4, c5, c6, c7, c8, c9, xf⟩ := HW7.out.res
        go_wp2
        obtain ⟨x0, x1, x2, x3, x4, x5, x6, x7, x8, x9⟩ := set_ten HW7.out.res (.int .i64 1) (.int .i64 0) (.bool false) (.int .i64 1) (.int .i64 m) (.string sv) (.string ⟨#[]⟩) (.string ⟨#[]⟩) (.slice none 0 0) (.slice none 0 0)
        refine bodyPost_ret (v := .agg #[.int .i64 1, .int .i64 0, .bool false, .int .i64 1, .int .i64 m, .string sv, .string ⟨#[]⟩, .string ⟨#[]⟩, .slice none 0 0, .slice none 0 0]) (by simp [results, Tryd.results6, go_sem, x0, x1, x2, x3, x4, x5, x6, x7, x8, x9]) rfl ?_
        exact leaf_end (E := litEx 1 m sv) HW7.out (fun v => ExAt.leaf _ v D 1 0 false 1 m hsz (by decide) (by decide)) HVL.out (but_ten _ _ _ _ _ _ _ _ _ _ _ _) rfl
      · have HVL := Lib.hid (show vE (D + 1) (litEx k n sv) = true from vOf_lit HV.out.valid (by rcases HV.out with ⟨-, rfl, -⟩ | ⟨rfl, -, -⟩ | ⟨-, h, -, -⟩ | ⟨-, rfl, -⟩ <;> omega))
        have HW4 := Lib.hid (HW3.out.low (below_alloc w3 (.cells #[.int .i64 k, .int .i64 n, .string sv] 26)))
        have e5 : (k == 1 && decide (n < 0)) = false := by
          by_cases h : k = 1
          · simp [h] at hneg ⊢; omega
          · simp [h]
        have hval := lit_agg k n sv
        by_cases hk1 : k = 1
        · have e6 : decide (n < 0) = false := decide_eq_false (by omega)
          subst hk1
          go_wp2_with fail
          refine (hval _).mono ?_
          rintro e w6 ⟨rfl, hb6⟩
          have HW7 := Lib.hid (HW4.out.low hb6)
          clear hb6 HW3 HW4
          obtain ⟨xl, c0, c1, c2, c3, c4, c5, c6, c7, c8, c9, xf⟩ := HW7.out.res
          go_wp2
          obtain ⟨x0, x1, x2, x3, x4, x5, x6, x7, x8, x9⟩ := set_ten HW7.out.res (.int .i64 1) (.int .i64 0) (.bool false) (.int .i64 1) (.int .i64 n) (.string sv) (.string ⟨#[]⟩) (.string ⟨#[]⟩) (.slice none 0 0) (.slice none 0 0)
          refine bodyPost_ret (v := .agg #[.int .i64 1, .int .i64 0, .bool false, .int .i64 1, .int .i64 n, .string sv, .string ⟨#[]⟩, .string ⟨#[]⟩, .slice none 0 0, .slice none 0 0]) (by simp [results, Tryd.results6, go_sem, x0, x1, x2, x3, x4, x5, x6, x7, x8, x9]) rfl ?_
          exact leaf_end (E := litEx 1 n sv) HW7.out (fun v => ExAt.leaf _ v D 1 0 false 1 n hsz (by decide) (by decide)) HVL.out (but_ten _ _ _ _ _ _ _ _ _ _ _ _) rfl
        · have e6 : (k == 1) = false := beq_eq_false_iff_ne.2 hk1
          go_wp2_with fail
          refine (hval _).mono ?_
          rintro e w6 ⟨rfl, hb6⟩
          have HW7 := Lib.hid (HW4.out.low hb6)
          clear hb6 HW3 HW4
          obtain ⟨xl, c0, c1, c2, c3, c4, c5, c6, c7, c8, c9, xf⟩ := HW7.out.res
          go_wp2
          obtain ⟨x0, x1, x2, x3, x4, x5, x6, x7, x8, x9⟩ := set_ten HW7.out.res (.int .i64 1) (.int .i64 0) (.bool false) (.int .i64 k) (.int .i64 n) (.string sv) (.string ⟨#[]⟩) (.string ⟨#[]⟩) (.slice none 0 0) (.slice none 0 0)
          refine bodyPost_ret (v := .agg #[.int .i64 1, .int .i64 0, .bool false, .int .i64 k, .int .i64 n, .string sv, .string ⟨#[]⟩, .string ⟨#[]⟩, .slice none 0 0, .slice none 0 0]) (by simp [results, Tryd.results6, go_sem, x0, x1, x2, x3, x4, x5, x6, x7, x8, x9]) rfl ?_
          exact leaf_end (E := litEx k n sv) HW7.out (fun v => ExAt.leaf _ v D 1 0 false k n hsz (by decide) (by decide)) HVL.out (but_ten _ _ _ _ _ _ _ _ _ _ _ _) rfl
    · go_wp2_with fail
      refine (tbool_any b 3 _ (by omega) (by omega) HW2.out.tape).mono ?_
      rintro e w3 ⟨q2, rfl, ht3, hs3⟩
      have HW3 := Lib.hid (HW2.out.next hs3 ht3)
      clear hs3 ht3 HW2
      cases q2
      · go_wp2_with fail
        refine (name_any b _ h8 HW3.out.tape (HE.out.step HW3.out.step h8) hn).mono ?_
        rintro e w4 ⟨i, rfl, hi, ht4, hs4⟩
        have HW4 := Lib.hid (HW3.out.next hs4 ht4)
        have HVL := Lib.hid (show vE (D + 1) (colEx ⟨#[]⟩ (nameS i)) = true from vOf_col qual_none (names_fine ⟨i, hi⟩).1)
        have hsz := (names_fine ⟨i, hi⟩).2
        simp only at hsz
        clear hs4 ht4 HW3
        generalize nameS i = nv at *
        go_wp2_with fail
        refine (col_agg ⟨#[]⟩ nv _).mono ?_
        rintro e w6 ⟨rfl, hb6⟩
        have HW7 := Lib.hid (HW4.out.low hb6)
        clear hb6 HW4
        obtain ⟨xl, c0, c1, c2, c3, c4, c5, c6, c7, c8, c9, xf⟩ := HW7.out.res
        go_wp2
        obtain ⟨x0, x1, x2, x3, x4, x5, x6, x7, x8, x9⟩ := set_ten HW7.out.res (.int .i64 2) (.int .i64 0) (.bool false) (.int .i64 0) (.int .i64 0) (.string ⟨#[]⟩) (.string ⟨#[]⟩) (.string nv) (.slice none 0 0) (.slice none 0 0)
        refine bodyPost_ret (v := .agg #[.int .i64 2, .int .i64 0, .bool false, .int .i64 0, .int .i64 0, .string ⟨#[]⟩, .string ⟨#[]⟩, .string nv, .slice none 0 0, .slice none 0 0]) (by simp [results, Tryd.results6, go_sem, x0, x1, x2, x3, x4, x5, x6, x7, x8, x9]) rfl ?_
        exact leaf_end (E := colEx ⟨#[]⟩ nv) HW7.out (fun v => ExAt.leaf _ v D 2 0 false 0 0 (by decide) (by decide) hsz) HVL.out (but_ten _ _ _ _ _ _ _ _ _ _ _ _) rfl
      · go_wp2_with fail
        refine (next_any b _ _ (by omega) (by omega) (HW3.out.low (below_alloc _ _)).tape).mono ?_
        rintro e w4 ⟨r4, rfl, hr40, hr41, ht4, hs4⟩
        obtain ⟨j, rfl⟩ : ∃ j : Nat, r4 = j := ⟨r4.toNat, by omega⟩
        have hj5 : j < 5 := by omega
        obtain ⟨hq, hql⟩ := qual_at hs4 HW3.out.tape.lt hj5
        have HW4 := Lib.hid ((HW3.out.low (below_alloc _ _)).next hs4 ht4)
        have hqf := quals_fine ⟨j, hj5⟩
        simp only at hqf
        have HQF := Lib.hid hqf
        clear hs4 ht4 HW3 hqf
        generalize qualS j = qv at *
        go_wp2_with fail
        refine (name_any b _ h8 HW4.out.tape (HE.out.step HW4.out.step h8) hn).mono ?_
        rintro e w5 ⟨i, rfl, hi, ht5, hs5⟩
        have HW5 := Lib.hid (HW4.out.next hs5 ht5)
        have HVL := Lib.hid (show vE (D + 1) (colEx qv (nameS i)) = true from vOf_col HQF.out.1 (names_fine ⟨i, hi⟩).1)
        have hsz := (names_fine ⟨i, hi⟩).2
        simp only at hsz
        clear hs5 ht5 HW4 hq hql
        generalize nameS i = nv at *
        go_wp2_with fail
        refine (col_agg qv nv _).mono ?_
        rintro e w6 ⟨rfl, hb6⟩
        have HW7 := Lib.hid (HW5.out.low hb6)
        clear hb6 HW5
        obtain ⟨xl, c0, c1, c2, c3, c4, c5, c6, c7, c8, c9, xf⟩ := HW7.out.res
        go_wp2
        obtain ⟨x0, x1, x2, x3, x4, x5, x6, x7, x8, x9⟩ := set_ten HW7.out.res (.int .i64 2) (.int .i64 0) (.bool false) (.int .i64 0) (.int .i64 0) (.string ⟨#[]⟩) (.string qv) (.string nv) (.slice none 0 0) (.slice none 0 0)
        refine bodyPost_ret (v := .agg #[.int .i64 2, .int .i64 0, .bool false, .int .i64 0, .int .i64 0, .string ⟨#[]⟩, .string qv, .string nv, .slice none 0 0, .slice none 0 0]) (by simp [results, Tryd.results6, go_sem, x0, x1, x2, x3, x4, x5, x6, x7, x8, x9]) rfl ?_
        exact leaf_end (E := colEx qv nv) HW7.out (fun v => ExAt.leaf _ v D 2 0 false 0 0 (by decide) HQF.out.2 hsz) HVL.out (but_ten _ _ _ _ _ _ _ _ _ _ _ _) rfl
  · skip
    have e1 : decide (depth ≤ 0) = false := decide_eq_false (by omega)
    have e2 : decide (1 + r ≤ 2) = false := decide_eq_false (by omega)
    have hD1 : 1 ≤ D := by omega
    have HDD := Lib.hid (HD.out hD1)
    clear HD
    go_upto_block 0 with (fail)
    obtain ⟨kd, hkd⟩ : ∃ kd, 1 + r = kd := ⟨_, rfl⟩
    rw [hkd]
    have hk3 : 3 ≤ kd := by omega
    have hk12 : kd ≤ 12 := by omega
    clear hkd h1 hr0 hr1 e1 e2
    have hbx := below_alloc w1 (.cells #[.int .i64 kd, .int .i64 0, .bool false, .int .i64 0, .int .i64 0, .string ⟨#[]⟩, .string ⟨#[]⟩, .string ⟨#[]⟩, .slice none 0 0, .slice none 0 0] 30)
    have HX2 := Lib.hid (ExB.new w1 (bareEx kd 0 false none 0 []) 30)
    have HW2 := Lib.hid (HW1.out.low hbx)
    have HXW := Lib.hid HW1.out.res.lt
    simp only [Ex.mk_k, Ex.mk_op, Ex.mk_no, Ex.mk_vk, Ex.mk_vi, Ex.mk_vt, Ex.mk_tb, Ex.mk_nm, Ex.mk_pa, Ex.mk_ca, Ex.mk_args, Ex.mk_ps, Ex.mk_cs, Ex.mk_sub, List.length_nil] at HX2
    clear HW1 hbx
    generalize w1.alloc (.cells #[.int .i64 kd, .int .i64 0, .bool false, .int .i64 0, .int .i64 0, .string ⟨#[]⟩, .string ⟨#[]⟩, .string ⟨#[]⟩, .slice none 0 0, .slice none 0 0] 30) = w2 at *
    generalize w1.heap.size = X at *
    have hXb : X ≠ b := by have := HXW.out; omega
    go_cut [9] from 51 to 94 (fun s9 wx => ∃ (m : Nat) (op : Int) (no : Bool) (ps : Option Addr) (cs : Nat) (sub : List Qu), s9 = .int .i64 m ∧ SwAt b X D w kd m op no ps cs sub wx)
    case first =>
      have hkk : (kd = 3 ∨ kd = 4) ∨ kd = 6 ∨ kd = 5 ∨ kd = 7 ∨ (8 ≤ kd ∧ kd ≤ 9) ∨ 10 ≤ kd := by omega
      rcases hkk with hk | hk | hk | hk | hk | hk
      · rcases hk with rfl | rfl
        all_goals
          go_wp2
          go_meet
          case rel => exact ⟨1, 0, false, none, 0, [], rfl, HW2.out, HX2.out, HXW.out, QAt.nil _ _ _ _, Nat.zero_le _, by decide, good_args (by decide) (by decide) rfl (fun h => absurd h (by decide)) (fun _ => rfl) (fun _ => rfl)⟩
      · subst hk
        go_wp2_with fail
        refine (tbool_any b 2 _ (by omega) (by omega) HW2.out.tape).mono ?_
        rintro e w3 ⟨q1, rfl, ht3, hs3⟩
        have HW3 := Lib.hid (HW2.out.next hs3 ht3)
        have HX3 := Lib.hid (HX2.out.step hs3 hXb)
        clear ht3 hs3
        obtain ⟨xl, x0, x1, x2, x3, x4, x5, x6, x7, x8, x9, xf⟩ := HX3.out
        simp only [Ex.mk_k, Ex.mk_op, Ex.mk_no, Ex.mk_vk, Ex.mk_vi, Ex.mk_vt, Ex.mk_tb, Ex.mk_nm, Ex.mk_pa, Ex.mk_ca, Ex.mk_args, Ex.mk_ps, Ex.mk_cs, Ex.mk_sub, List.length_nil] at x0 x1 x2 x3 x4 x5 x6 x7 x8 x9
        have HW4 := Lib.hid (HW3.out.but ((ButX.refl X w3).set 2 none (.bool q1)) HXW.out)
        have HX4 := Lib.hid (HX3.out.setNo q1)
        go_wp2
        go_meet
        case rel => exact ⟨1, 0, q1, none, 0, [], rfl, HW4.out, HX4.out, HXW.out, QAt.nil _ _ _ _, Nat.zero_le _, by decide, good_args (by decide) (by decide) rfl (fun h => absurd h (by decide)) (fun _ => rfl) (fun h => absurd rfl h)⟩
      · subst hk
        go_wp2_with fail
        refine (next_any b _ _ (by omega) (by omega) HW2.out.tape).mono ?_
        rintro e w3 ⟨n3, rfl, hn0, hn1, ht3, hs3⟩
        have HW3 := Lib.hid (HW2.out.next hs3 ht3)
        have HX3 := Lib.hid (HX2.out.step hs3 hXb)
        clear ht3 hs3
        obtain ⟨xl, x0, x1, x2, x3, x4, x5, x6, x7, x8, x9, xf⟩ := HX3.out
        simp only [Ex.mk_k, Ex.mk_op, Ex.mk_no, Ex.mk_vk, Ex.mk_vi, Ex.mk_vt, Ex.mk_tb, Ex.mk_nm, Ex.mk_pa, Ex.mk_ca, Ex.mk_args, Ex.mk_ps, Ex.mk_cs, Ex.mk_sub, List.length_nil] at x0 x1 x2 x3 x4 x5 x6 x7 x8 x9
        have HW4 := Lib.hid (HW3.out.but ((ButX.refl X w3).set 1 none (.int .i64 (1 + n3))) HXW.out)
        have HX4 := Lib.hid (HX3.out.setOp (1 + n3))
        go_wp2
        go_meet
        case rel => exact ⟨2, 1 + n3, false, none, 0, [], rfl, HW4.out, HX4.out, HXW.out, QAt.nil _ _ _ _, Nat.zero_le _, by decide, good_args (by decide) (by decide) rfl (fun _ => ⟨by omega, by omega⟩) (fun h => absurd rfl h) (fun _ => rfl)⟩
      · subst hk
        go_wp2
        go_meet
        case rel => exact ⟨3, 0, false, none, 0, [], rfl, HW2.out, HX2.out, HXW.out, QAt.nil _ _ _ _, Nat.zero_le _, by decide, good_args (by decide) (by decide) rfl (fun h => absurd h (by decide)) (fun _ => rfl) (fun _ => rfl)⟩
      · skip
        have k3 : (kd == 3) = false := beq_eq_false_iff_ne.2 (by omega)
        have k4 : (kd == 4) = false := beq_eq_false_iff_ne.2 (by omega)
        have k5 : (kd == 5) = false := beq_eq_false_iff_ne.2 (by omega)
        have k6 : (kd == 6) = false := beq_eq_false_iff_ne.2 (by omega)
        have k7 : (kd == 7) = false := beq_eq_false_iff_ne.2 (by omega)
        have k10 : decide (10 ≤ kd) = false := decide_eq_false (by omega)
        go_wp2_with fail
        refine (next_any b _ _ (by omega) (by omega) (HW2.out.low (below_alloc _ _)).tape).mono ?_
        rintro e w3 ⟨r3, rfl, hr30, hr31, ht3, hs3⟩
        obtain ⟨j, rfl⟩ : ∃ j : Nat, r3 = j := ⟨r3.toNat, by omega⟩
        have hj5 : j < 5 := by omega
        obtain ⟨hq, hql⟩ := src_at hs3 HW2.out.tape.lt hj5
        have HW3 := Lib.hid ((HW2.out.low (below_alloc _ _)).next hs3 ht3)
        have HX3 := Lib.hid ((HX2.out.low (below_alloc _ _)).step hs3 hXb)
        have hqf := srcs_fine ⟨j, hj5⟩
        simp only at hqf
        have HQF := Lib.hid hqf
        clear hs3 ht3 HW2 HX2 hqf
        generalize srcS j = fr at *
        have HQ : Hid (QbAt b X w3.heap.size D w kd fr none 0 [] none 0 [] (w3.alloc (.cells #[.bool (kd == 8), .slice none 0 0, .string fr, .slice none 0 0] 34))) := Lib.hid ⟨HW3.out.low (below_alloc _ _), HX3.out.low (below_alloc _ _), HXW.out, QuBx.new w3 ⟨kd == 8, none, 0, [], fr, none, 0, []⟩ _, HX3.out.lt, HQF.out.2, LAt.nil _ _ _ _, LAt.nil _ _ _ _⟩
        clear HW3 HX3
        go_upto_region 18 with (fail)
        clear hq hql
        generalize w3.alloc (.cells #[.bool (kd == 8), .slice none 0 0, .string fr, .slice none 0 0] 34) = w4 at *
        generalize w3.heap.size = Y at *
        go_wp2_with fail
        refine (tbool_any b 2 _ (by omega) (by omega) HQ.out.an.tape).mono ?_
        rintro e w7 ⟨q1, rfl, ht7, hs7⟩
        have HQ3 := Lib.hid (HQ.out.next hs7 ht7)
        clear ht7 hs7 HQ
        cases q1
        · have HS := Lib.hid (HQ3.out.put (by omega) hk12 (by show 0 = itemN kd; unfold itemN; rw [if_neg (by omega)]) (by decide) HQF.out.1 (fun a ha => by cases ha) (fun a ha => by cases ha) 34)
          have HXX := Lib.hid HQ3.out.box
          obtain ⟨yl, y0, y1, y2, y3, yf⟩ := HQ3.out.qb
          simp only [List.length_nil] at y0 y1 y2 y3 HS
          obtain ⟨xl, x0, x1, x2, x3, x4, x5, x6, x7, x8, x9, xf⟩ := HXX.out
          simp only [Ex.mk_k, Ex.mk_op, Ex.mk_no, Ex.mk_vk, Ex.mk_vi, Ex.mk_vt, Ex.mk_tb, Ex.mk_nm, Ex.mk_pa, Ex.mk_ca, Ex.mk_args, Ex.mk_ps, Ex.mk_cs, Ex.mk_sub, List.length_nil] at x0 x1 x2 x3 x4 x5 x6 x7 x8 x9
          go_wp2
          go_meet
          case rel => exact ⟨0, 0, false, _, 1, _, rfl, HS.out⟩
        · skip
          go_wp2_with fail
          refine (HDD.out b (depth - 2) _ (by omega) (by omega) h8 HQ3.out.an.tape (HE.out.step HQ3.out.an.step h8)).mono ?_
          rintro e w5 ⟨E2, rfl, hE5, hV5, ht5, hs5⟩
          have hN5 := hE5.weak (M := fun c => Y < c) (fun c _ hc => Nat.lt_trans HQ3.out.qb.lt hc)
          have HQ3' := Lib.hid (HQ3.out.next hs5 ht5)
          have HQ4 := Lib.hid (HQ3'.out.wheres hN5 30)
          have HVE2 := Lib.hid hV5
          clear hE5 hV5 ht5 hs5 hN5 HQ3
          obtain ⟨yl, y0, y1, y2, y3, yf⟩ := HQ3'.out.qb
          simp only at y0 y1 y2 y3
          dsimp only [exV]
          go_upto_region 20 with (fail)
          clear yl y0 y1 y2 y3 yf HQ3'
          generalize World.alloc _ _ = w8 at *
          have HS := Lib.hid (HQ4.out.put (by omega) hk12 (by show 0 = itemN kd; unfold itemN; rw [if_neg (by omega)]) (Nat.le_refl 1) HQF.out.1 (fun a ha => by cases ha) (by intro a ha; obtain rfl := List.mem_singleton.1 ha; exact HVE2.out) 34)
          have HXX := Lib.hid HQ4.out.box
          obtain ⟨yl, y0, y1, y2, y3, yf⟩ := HQ4.out.qb
          simp only [List.length_singleton] at y0 y1 y2 y3 HS
          obtain ⟨xl, x0, x1, x2, x3, x4, x5, x6, x7, x8, x9, xf⟩ := HXX.out
          simp only [Ex.mk_k, Ex.mk_op, Ex.mk_no, Ex.mk_vk, Ex.mk_vi, Ex.mk_vt, Ex.mk_tb, Ex.mk_nm, Ex.mk_pa, Ex.mk_ca, Ex.mk_args, Ex.mk_ps, Ex.mk_cs, Ex.mk_sub, List.length_nil] at x0 x1 x2 x3 x4 x5 x6 x7 x8 x9
          go_wp2
          go_meet
          case rel => exact ⟨0, 0, false, _, 1, _, rfl, HS.out⟩
      · skip
        have k3 : (kd == 3) = false := beq_eq_false_iff_ne.2 (by omega)
        have k4 : (kd == 4) = false := beq_eq_false_iff_ne.2 (by omega)
        have k5 : (kd == 5) = false := beq_eq_false_iff_ne.2 (by omega)
        have k6 : (kd == 6) = false := beq_eq_false_iff_ne.2 (by omega)
        have k7 : (kd == 7) = false := beq_eq_false_iff_ne.2 (by omega)
        have k10 : decide (10 ≤ kd) = true := decide_eq_true (by omega)
        go_wp2_with fail
        refine (next_any b _ _ (by omega) (by omega) (HW2.out.low (below_alloc _ _)).tape).mono ?_
        rintro e w3 ⟨r3, rfl, hr30, hr31, ht3, hs3⟩
        obtain ⟨j, rfl⟩ : ∃ j : Nat, r3 = j := ⟨r3.toNat, by omega⟩
        have hj5 : j < 5 := by omega
        obtain ⟨hq, hql⟩ := src_at hs3 HW2.out.tape.lt hj5
        have HW3 := Lib.hid ((HW2.out.low (below_alloc _ _)).next hs3 ht3)
        have HX3 := Lib.hid ((HX2.out.low (below_alloc _ _)).step hs3 hXb)
        have hqf := srcs_fine ⟨j, hj5⟩
        simp only at hqf
        have HQF := Lib.hid hqf
        clear hs3 ht3 HW2 HX2 hqf
        generalize srcS j = fr at *
        have HQ : Hid (QbAt b X w3.heap.size D w kd fr none 0 [] none 0 [] (w3.alloc (.cells #[.bool (kd == 8), .slice none 0 0, .string fr, .slice none 0 0] 34))) := Lib.hid ⟨HW3.out.low (below_alloc _ _), HX3.out.low (below_alloc _ _), HXW.out, QuBx.new w3 ⟨kd == 8, none, 0, [], fr, none, 0, []⟩ _, HX3.out.lt, HQF.out.2, LAt.nil _ _ _ _, LAt.nil _ _ _ _⟩
        clear HW3 HX3
        go_upto_region 17 with (fail)
        clear hq hql
        generalize w3.alloc (.cells #[.bool (kd == 8), .slice none 0 0, .string fr, .slice none 0 0] 34) = w4 at *
        generalize w3.heap.size = Y at *
        go_wp2_with fail
        refine (HDD.out b (depth - 2) _ (by omega) (by omega) h8 HQ.out.an.tape (HE.out.step HQ.out.an.step h8)).mono ?_
        rintro e w5 ⟨E1, rfl, hE5, hV5, ht5, hs5⟩
        have hN5 := hE5.weak (M := fun c => Y < c) (fun c _ hc => Nat.lt_trans HQ.out.qb.lt hc)
        have HQ' := Lib.hid (HQ.out.next hs5 ht5)
        have HQ2 := Lib.hid (HQ'.out.items hN5 30)
        have HVE1 := Lib.hid hV5
        clear hE5 hV5 ht5 hs5 hN5 HQ
        obtain ⟨yl, y0, y1, y2, y3, yf⟩ := HQ'.out.qb
        simp only at y0 y1 y2 y3
        dsimp only [exV]
        go_upto_region 18 with (fail)
        clear yl y0 y1 y2 y3 yf HQ'
        generalize World.alloc _ _ = w6 at *
        go_wp2_with fail
        refine (tbool_any b 2 _ (by omega) (by omega) HQ2.out.an.tape).mono ?_
        rintro e w7 ⟨q1, rfl, ht7, hs7⟩
        have HQ3 := Lib.hid (HQ2.out.next hs7 ht7)
        clear ht7 hs7 HQ2
        cases q1
        · have HS := Lib.hid (HQ3.out.put (by omega) hk12 (by show 1 = itemN kd; unfold itemN; rw [if_pos (by omega)]) (by decide) HQF.out.1 (by intro a ha; obtain rfl := List.mem_singleton.1 ha; exact HVE1.out) (fun a ha => by cases ha) 34)
          have HXX := Lib.hid HQ3.out.box
          obtain ⟨yl, y0, y1, y2, y3, yf⟩ := HQ3.out.qb
          simp only [List.length_nil] at y0 y1 y2 y3 HS
          obtain ⟨xl, x0, x1, x2, x3, x4, x5, x6, x7, x8, x9, xf⟩ := HXX.out
          simp only [Ex.mk_k, Ex.mk_op, Ex.mk_no, Ex.mk_vk, Ex.mk_vi, Ex.mk_vt, Ex.mk_tb, Ex.mk_nm, Ex.mk_pa, Ex.mk_ca, Ex.mk_args, Ex.mk_ps, Ex.mk_cs, Ex.mk_sub, List.length_nil] at x0 x1 x2 x3 x4 x5 x6 x7 x8 x9
          go_wp2
          go_meet
          case rel => exact ⟨0, 0, false, _, 1, _, rfl, HS.out⟩
        · skip
          go_wp2_with fail
          refine (HDD.out b (depth - 2) _ (by omega) (by omega) h8 HQ3.out.an.tape (HE.out.step HQ3.out.an.step h8)).mono ?_
          rintro e w5 ⟨E2, rfl, hE5, hV5, ht5, hs5⟩
          have hN5 := hE5.weak (M := fun c => Y < c) (fun c _ hc => Nat.lt_trans HQ3.out.qb.lt hc)
          have HQ3' := Lib.hid (HQ3.out.next hs5 ht5)
          have HQ4 := Lib.hid (HQ3'.out.wheres hN5 30)
          have HVE2 := Lib.hid hV5
          clear hE5 hV5 ht5 hs5 hN5 HQ3
          obtain ⟨yl, y0, y1, y2, y3, yf⟩ := HQ3'.out.qb
          simp only at y0 y1 y2 y3
          dsimp only [exV]
          go_upto_region 20 with (fail)
          clear yl y0 y1 y2 y3 yf HQ3'
          generalize World.alloc _ _ = w8 at *
          have HS := Lib.hid (HQ4.out.put (by omega) hk12 (by show 1 = itemN kd; unfold itemN; rw [if_pos (by omega)]) (Nat.le_refl 1) HQF.out.1 (by intro a ha; obtain rfl := List.mem_singleton.1 ha; exact HVE1.out) (by intro a ha; obtain rfl := List.mem_singleton.1 ha; exact HVE2.out) 34)
          have HXX := Lib.hid HQ4.out.box
          obtain ⟨yl, y0, y1, y2, y3, yf⟩ := HQ4.out.qb
          simp only [List.length_singleton] at y0 y1 y2 y3 HS
          obtain ⟨xl, x0, x1, x2, x3, x4, x5, x6, x7, x8, x9, xf⟩ := HXX.out
          simp only [Ex.mk_k, Ex.mk_op, Ex.mk_no, Ex.mk_vk, Ex.mk_vi, Ex.mk_vt, Ex.mk_tb, Ex.mk_nm, Ex.mk_pa, Ex.mk_ca, Ex.mk_args, Ex.mk_ps, Ex.mk_cs, Ex.mk_sub, List.length_nil] at x0 x1 x2 x3 x4 x5 x6 x7 x8 x9
          go_wp2
          go_meet
          case rel => exact ⟨0, 0, false, _, 1, _, rfl, HS.out⟩
    case rest =>
      obtain ⟨m, op, no, ps, cs, sub, rfl, hS⟩ := hcut
      have HG := Lib.hid hS.good
      have HL1 := Lib.hid hS.lens
      have hm3 := hS.m3
      have hLP : LpAt b X D w kd op no ps cs sub none 0 [] wc := ⟨hS.an, hS.box, hS.xw, own_nil _ _, fun a ha => (by cases ha), hS.subs.weak fun c _ hc => ⟨hc, fun e => by cases e⟩, fun a ha => by cases ha⟩
      have HLP := Lib.hid hLP
      clear hS hLP HW2 HX2
      obtain ⟨i0, hi0, hz0, hs0, hb0⟩ := info_parts info_expr
      go_wp2_with fail
      go_loopw [11] (fun s11 wx => ∃ (vp : Option Addr) (vc : Nat) (args : List Ex), args.length ≤ m ∧ s11 = .int .i64 args.length ∧ LpAt b X D w kd op no ps cs sub vp vc args wx) (fun s11 _ => m - (intOf s11).toNat)
      case atStart => exact ⟨none, 0, [], Nat.zero_le _, rfl, HLP.out⟩
      case round =>
        obtain ⟨vp, vc, args, hla, rfl, hP⟩ := hrel
        have HP := Lib.hid hP
        clear hP HLP
        by_cases hlt2 : args.length < m
        · have hlt' : decide ((args.length : Int) < m) = true := decide_eq_true (by omega)
          go_upto_region 35 with (fail)
          have HPd := Lib.hid (HP.out.low ((Below.refl wr.heap.size wr).drew))
          have HEd := Lib.hid (HE.out.step HPd.out.an.step h8)
          have HCALL := Lib.hid (HDD.out b (depth - 1) wr.drew (by omega) (by omega) h8 HPd.out.an.tape HEd.out)
          obtain ⟨xl, x0, x1, x2, x3, x4, x5, x6, x7, x8, x9, xf⟩ := HPd.out.box
          simp only [Ex.mk_k, Ex.mk_op, Ex.mk_no, Ex.mk_vk, Ex.mk_vi, Ex.mk_vt, Ex.mk_tb, Ex.mk_nm, Ex.mk_pa, Ex.mk_ca, Ex.mk_args, Ex.mk_ps, Ex.mk_cs, Ex.mk_sub] at x0 x1 x2 x3 x4 x5 x6 x7 x8 x9
          have hdw : IntKind.i64.wrap (depth - 1) = depth - 1 := by rw [IntKind.wrap_i64]; omega
          go_region_law (first
            | (go_simp; go_at_call 6; refine HCALL.out.mono ?_; rintro e w5 ⟨E1, rfl, hE5, hV5, ht5, hs5⟩; (have HP5 := Lib.hid (HPd.out.next hs5 ht5)); (have HN5 := Lib.hid (HPd.out.new hE5)); (have HV5 := Lib.hid hV5); clear hE5 hV5 ht5 hs5 xl x0 x1 x2 x3 x4 x5 x6 x7 x8 x9 xf; obtain ⟨xl, x0, x1, x2, x3, x4, x5, x6, x7, x8, x9, xf⟩ := HP5.out.box; simp only [Ex.mk_k, Ex.mk_op, Ex.mk_no, Ex.mk_vk, Ex.mk_vi, Ex.mk_vt, Ex.mk_tb, Ex.mk_nm, Ex.mk_pa, Ex.mk_ca, Ex.mk_args, Ex.mk_ps, Ex.mk_cs, Ex.mk_sub] at x0 x1 x2 x3 x4 x5 x6 x7 x8 x9; dsimp only [exV])
            | (refine step_append_lies _ (by rfl) (.tmp 101) (.tmp 106) 27 (by rfl) (X + 1) 30 i0 _ 10 136 Tryd.underlying27 hi0 hz0 hs0 hb0 rfl (by decide) (.slice vp args.length vc) args.length (ecells args) (by rfl) (HP5.out.low (below_alloc _ _)).own ⟨w5.heap.size, 0, none⟩ 1 1 (excs E1) (by rfl) rfl (news_of (ExB.new w5 E1 _)) (excs_one _) (by omega) (by unfold maxLen; omega) (by omega) (by rw [size_alloc]; have := HP5.out.box.lt; omega) _ rfl ?_; intro g8 c8 w8 hown8 hgr8 hat8 hlt8; obtain ⟨hb8, hp8⟩ := (HP5.out.low (below_alloc _ _)).push (HN5.out.low (below_alloc _ _)) HV5.out hown8 hgr8 hat8; (have HP8 := Lib.hid hp8); clear hown8 hgr8 hat8 hp8 xl x0 x1 x2 x3 x4 x5 x6 x7 x8 x9 xf; obtain ⟨xl, x0, x1, x2, x3, x4, x5, x6, x7, x8, x9, xf⟩ := hb8; simp only [Ex.mk_k, Ex.mk_op, Ex.mk_no, Ex.mk_vk, Ex.mk_vi, Ex.mk_vt, Ex.mk_tb, Ex.mk_nm, Ex.mk_pa, Ex.mk_ca, Ex.mk_args, Ex.mk_ps, Ex.mk_cs, Ex.mk_sub] at x0 x1 x2 x3 x4 x5 x6 x7 x8 x9))
          all_goals
            clear xl x0 x1 x2 x3 x4 x5 x6 x7 x8 x9 xf hlt8 HP5 HN5 HPd HCALL HP
            generalize World.setCell _ _ _ = W9 at HP8 ⊢
            go_wp2
            go_roundw
            case rel => exact ⟨_, _, args ++ [E1], by rw [List.length_append]; show args.length + 1 ≤ m; omega, by rw [List.length_append]; show _ = Value.int .i64 ((args.length + 1 : Nat) : Int); go_num, HP8.out⟩
            case measure => simp [intOf]; omega
        · have hlt' : decide ((args.length : Int) < m) = false := decide_eq_false (by omega)
          have hlm : m = args.length := by omega
          subst hlm
          have HVV := Lib.hid (show vE (D + 1) (argsEx kd op no vp vc args ps cs sub) = true from HG.out vp vc args rfl HP.out.vals)
          have HTR := Lib.hid (HP.out.tree (by omega) HL1.out)
          obtain ⟨xl, x0, x1, x2, x3, x4, x5, x6, x7, x8, x9, xf⟩ := HP.out.box
          simp only [Ex.mk_k, Ex.mk_op, Ex.mk_no, Ex.mk_vk, Ex.mk_vi, Ex.mk_vt, Ex.mk_tb, Ex.mk_nm, Ex.mk_pa, Ex.mk_ca, Ex.mk_args, Ex.mk_ps, Ex.mk_cs, Ex.mk_sub] at x0 x1 x2 x3 x4 x5 x6 x7 x8 x9
          obtain ⟨rl, r0, r1, r2, r3, r4, r5, r6, r7, r8, r9, rf⟩ := HP.out.an.res
          go_wp2
          obtain ⟨y0, y1, y2, y3, y4, y5, y6, y7, y8, y9⟩ := set_ten HP.out.an.res (.int .i64 kd) (.int .i64 op) (.bool no) (.int .i64 0) (.int .i64 0) (.string ⟨#[]⟩) (.string ⟨#[]⟩) (.string ⟨#[]⟩) (.slice vp args.length vc) (.slice ps sub.length cs)
          refine bodyPost_ret (v := .agg #[.int .i64 kd, .int .i64 op, .bool no, .int .i64 0, .int .i64 0, .string ⟨#[]⟩, .string ⟨#[]⟩, .string ⟨#[]⟩, .slice vp args.length vc, .slice ps sub.length cs]) (by simp [results, Tryd.results6, go_sem, y0, y1, y2, y3, y4, y5, y6, y7, y8, y9]) rfl ?_
          exact tree_end (E := argsEx kd op no vp vc args ps cs sub) HP.out.an HTR.out HP.out.xw HVV.out (but_ten _ _ _ _ _ _ _ _ _ _ _ _) rfl
theorem anyExpr_any (hn : 0 ∈ ls) (hlw : 3 ∈ ls) : ∀ D, D ≤ 100 → AnyDoes ls (D + 1)
  | 0, h => anyExpr_step h (fun h => absurd h (by decide)) hn hlw
  | D + 1, h => anyExpr_step h (fun _ => anyExpr_any hn hlw D (by omega)) hn hlw
end Go.Proofs.YtecghiflbnhceaaDoor
/-
  SyntaxLevels returns true for every list of numbers: the walk.
-/
namespace Go.Proofs.YtecghiflbnhceaaDoor
set_option maxRecDepth 100000
open Go.RowKit
variable {ls : List Nat}

theorem lat_src {N : Nat → Prop} {u : World} {P : Ex → Prop} {p : Option Addr} {l : List Ex} (h : LAt N u P p l) : ∀ ad, p = some ad → ∀ j v, (ecells l)[j]? = some v → u.cell? (ad.add j) = some v := by
  intro ad hp j v hj
  have hjl : j < l.length * 10 := by
    have := (List.getElem?_eq_some_iff.1 hj).1
    rw [ecells_length] at this; exact this
  obtain ⟨c, o, hc, -, -, hC, -⟩ := h (j / 10) (by omega)
  rw [hp] at hc
  obtain rfl := Option.some.inj hc
  have hadd : (⟨c, o, none⟩ : Addr).add j = ⟨c, o + j, none⟩ := by unfold Addr.add; split <;> simp_all
  have he : j = j / 10 * 10 + j % 10 := by omega
  have hm : j % 10 < 10 := Nat.mod_lt _ (by decide)
  rw [he, ecells_at l (j / 10) (by omega) _ hm] at hj
  rw [hadd, show o + j = o + j / 10 * 10 + j % 10 by omega, ← hj]
  have h10 : j % 10 = 0 ∨ j % 10 = 1 ∨ j % 10 = 2 ∨ j % 10 = 3 ∨ j % 10 = 4 ∨ j % 10 = 5 ∨ j % 10 = 6 ∨ j % 10 = 7 ∨ j % 10 = 8 ∨ j % 10 = 9 := by omega
  rcases h10 with h | h | h | h | h | h | h | h | h | h <;> rw [h]
  · exact hC.c0
  · exact hC.c1
  · exact hC.c2
  · exact hC.c3
  · exact hC.c4
  · exact hC.c5
  · exact hC.c6
  · exact hC.c7
  · exact hC.c8
  · exact hC.c9
theorem lat_none {N : Nat → Prop} {u : World} {P : Ex → Prop} {p : Option Addr} {l : List Ex} (h : LAt N u P p l) : p = none → ecells l = [] := by
  intro hp
  cases l with
  | nil => rfl
  | cons a l =>
    obtain ⟨c, o, hc, -⟩ := h 0 (by simp)
    rw [hp] at hc; cases hc
theorem lat_mem {N : Nat → Prop} {u : World} {P : Ex → Prop} {p : Option Addr} {l : List Ex} (h : LAt N u P p l) : ∀ a ∈ l, P a := by
  intro a ha
  obtain ⟨i, hi, rfl⟩ := mem_eAt ha
  obtain ⟨c, o, -, -, -, -, hP⟩ := h i hi
  exact hP
theorem eowns_empty (w : World) : (w.alloc (.cells #[] 30)).ownsRow w.heap.size 30 10 (.slice (some ⟨w.heap.size, 0, none⟩) 0 0) 0 (ecells []) := by
  refine ⟨rfl, Or.inr ⟨w.heap.size, 0, #[], rfl, Nat.le_refl _, ?_, Nat.le_refl _, by decide, rfl, rfl⟩⟩
  show (w.heap.push _)[w.heap.size]? = _
  simp
/-- NOT around an expression. -/
theorem not_valid {E : Ex} (h : vE 5 E = true) (p : Option Addr) : vE 6 (argEx 3 0 false p 1 [E]) = true :=
  vOf_args (by decide) (by decide) rfl (fun h => absurd h (by decide)) (fun _ => rfl) (fun _ => rfl) fun a ha => by obtain rfl := List.mem_singleton.1 ha; exact h
theorem not_lev (E : Ex) (p : Option Addr) : lev 6 (argEx 3 0 false p 1 [E]) = lev 5 E + 1 + if prec E.k E.op < 3 then 1 else 0 := by
  have h0 := lev_nonneg 5 E
  show levOf (lev 5) _ = _
  unfold levOf argsLev argEx
  rw [if_pos (.inl rfl)]
  show max (mxN 1 _ + 1) (mxN 0 _) = _
  simp only [mxN]
  have e1 : argLev (lev 5) (Ex.mk 3 0 false 0 0 ⟨#[]⟩ ⟨#[]⟩ ⟨#[]⟩ p 1 [E] none 0 []) 0 = lev 5 E + if prec E.k E.op < 3 then 1 else 0 := by
    unfold argLev inPar
    have hl : least (Ex.mk 3 0 false 0 0 ⟨#[]⟩ ⟨#[]⟩ ⟨#[]⟩ p 1 [E] none 0 []).k (Ex.mk 3 0 false 0 0 ⟨#[]⟩ ⟨#[]⟩ ⟨#[]⟩ p 1 [E] none 0 []).op 0 = 3 := rfl
    rw [hl]
    show lev 5 E + (if decide (prec E.k E.op < 3) then 1 else 0) = _
    by_cases h : prec E.k E.op < 3
    · rw [if_pos h, decide_eq_true h]; rfl
    · rw [if_neg h, decide_eq_false h]; rfl
  rw [e1]
  split <;> omega
set_option maxHeartbeats 8000000 in
theorem syntaxLevels_walk (w : World) (p : Option Addr) (len cap : Nat) (hl : len ≤ cap) (hm : len ≤ 9223372036854775807) (hI : IntsAt w p len) (hE : Env ls w)
    (hn : 0 ∈ ls) (hlw : 3 ∈ ls) (hu : 2 ∈ ls) (ho : 1 ∈ ls) :
    Calls Tryd.prog 3 #[.slice p len cap] w fun e w' => e = .returned (.bool true) ∧ Below w.heap.size w w' := by
  have HE := Lib.hid hE
  have hgn := hE.size
  clear hE
  go_enter Tryd.func3, Tryd.ntmps3
  go_wp2_with fail
  refine (new_any w p len cap hl hm hI).mono ?_
  rintro e w1 ⟨b, rfl, hbw, ht1, hb1⟩
  have HE1 := Lib.hid (HE.out.low hb1)
  go_wp2_with fail
  refine (anyExpr_any hn hlw 4 (by decide) b 4 w1 (by decide) (by decide) (by omega) ht1 HE1.out).mono ?_
  rintro e w2 ⟨E, rfl, hEA, hEV, ht2, hs2⟩
  have HB2 := Lib.hid (hb1.trans (hs2.below hbw hb1.size))
  have HEA := Lib.hid (hEA.weak (M := fun _ => True) fun _ _ _ => trivial)
  have HEV := Lib.hid hEV
  have hF : Fine (vE 4) E := vOf_fine hEV
  clear hEA hEV ht2 hs2 ht1 hb1 HE1
  have HF1 := Lib.hid (fun i (hi : i < E.args.length) => lev_arg (lev 4) E hi)
  have HF2 := Lib.hid (fun i j (hi : i < E.sub.length) (hj : j < (qAt E.sub i).wh.length) => lev_wh (lev 4) E hi hj)
  have HF3 := Lib.hid (fun i j (hi : i < E.sub.length) (hj : j < (qAt E.sub i).items.length) => lev_item (lev 4) E hF hi hj)
  have HF4 := Lib.hid (not_lev E)
  have HF5 := Lib.hid (not_valid HEV.out)
  have HAV := Lib.hid hF.args
  have HSV := Lib.hid (fun q hq => quB_fine (hF.sub q hq))
  have hlna : E.args.length ≤ 3 := fine_three hF
  have hlns : E.sub.length ≤ 1 := by rw [hF.subn]; unfold subN; split <;> omega
  have hn0 := lev_nonneg 5 E
  have hn1 := lev_le 5 E
  clear hF
  have HX := Lib.hid (ExB.new w2 E 30)
  have HB3 := Lib.hid (below_next HB2.out (below_alloc w2 (.cells #[.int .i64 E.k, .int .i64 E.op, .bool E.no, .int .i64 E.vk, .int .i64 E.vi, .string E.vt, .string E.tb, .string E.nm, .slice E.pa E.args.length E.ca, .slice E.ps E.sub.length E.cs] 30)))
  have HT := Lib.hid (HEA.out.low (below_alloc w2 (.cells #[.int .i64 E.k, .int .i64 E.op, .bool E.no, .int .i64 E.vk, .int .i64 E.vi, .string E.vt, .string E.tb, .string E.nm, .slice E.pa E.args.length E.ca, .slice E.ps E.sub.length E.cs] 30)))
  have HL5 := Lib.hid (fun v h => levelsOf_any ho 5 (by decide) (fun _ => True) E v h HEV.out)
  have HPR := Lib.hid (prec_any (ls := ls) E)
  unfold exV at HL5 HPR
  dsimp only [exV]
  go_wp2_with fail
  refine (HL5.out _ HT.out (HE.out.low HB3.out)).mono ?_
  rintro e w4 ⟨rfl, hb4⟩
  have HB4 := Lib.hid (below_next HB3.out hb4)
  have HT4 := Lib.hid (HT.out.low hb4)
  have HX4 := Lib.hid (HX.out.low hb4)
  clear hb4 HB3 HT HX HB2 HEA
  have hlv : lev 5 E = levOf (lev 4) E := rfl
  rw [← hlv] at HF1 HF2 HF3
  generalize hnn : lev 5 E = n at *
  clear hlv hnn
  generalize w2.heap.size = X at *
  obtain ⟨pa, hpaE⟩ : ∃ pa, E.pa = pa := ⟨_, rfl⟩
  obtain ⟨ps, hpsE⟩ : ∃ ps, E.ps = ps := ⟨_, rfl⟩
  have HPA := Lib.hid hpaE
  have HPS := Lib.hid hpsE
  clear hpaE hpsE
  obtain ⟨xl, x0, x1, x2, x3, x4, x5, x6, x7, x8, x9, xf⟩ := HX4.out
  rw [HPA.out] at x8
  rw [HPS.out] at x9
  have hA4 : LAt (fun _ => True) w4 (ExAt (fun _ => True) w4 4) E.pa E.args := HT4.out.args
  have hS4 : QAt (fun _ => True) w4 (ExAt (fun _ => True) w4 4) E.ps E.sub := HT4.out.sub
  rw [HPA.out] at hA4
  rw [HPS.out] at hS4
  have HA4 := Lib.hid hA4
  have HS4 := Lib.hid hS4
  have HE4 := Lib.hid (HE.out.low HB4.out)
  clear hA4 hS4
  go_wp2_with fail
  go_loopw [24] (fun i v => ∃ k : Nat, k ≤ E.args.length ∧ i = .int .i64 k ∧ Below w4.heap.size w4 v) (fun i _ => E.args.length - (intOf i).toNat)
  case atStart => exact ⟨0, Nat.zero_le _, rfl, Below.refl _ _⟩
  case round =>
    obtain ⟨k, hk, rfl, hb⟩ := hrel
    have HB := Lib.hid hb
    clear hb xl x0 x1 x2 x3 x4 x5 x6 x7 x8 x9 xf
    have HXR := Lib.hid (HX4.out.low HB.out)
    obtain ⟨xl, x0, x1, x2, x3, x4, x5, x6, x7, x8, x9, xf⟩ := HXR.out
    rw [HPA.out] at x8
    rw [HPS.out] at x9
    by_cases hlt : k < E.args.length
    · have hlt' : decide ((k : Int) < E.args.length) = true := decide_eq_true (by omega)
      obtain ⟨g, o, rfl, hg, -, hC, hXA⟩ := HA4.out.low HB.out k hlt
      have HXX := Lib.hid hXA
      have HMV := Lib.hid (HAV.out _ (eAt_mem hlt))
      have hle := HF1.out k hlt
      obtain ⟨c0, c1, c2, c3, c4, c5, c6, c7, c8, c9⟩ := hC
      generalize eAt E.args k = x at *
      have HLX := Lib.hid (levelsOf_any ho 4 (by decide) (fun _ => True) x)
      unfold exV at HLX
      go_wp2_with fail
      refine (HLX.out _ (HXX.out.low (below_alloc _ _)) HMV.out ((HE4.out.low HB.out).alloc _)).mono ?_
      rintro e w5 ⟨rfl, hb5⟩
      have hb6 := Below.of_alloc hb5
      have HB5 := Lib.hid (below_next HB.out hb6)
      have HX5 := Lib.hid (HXR.out.low hb6)
      clear hb5 hb6 xl x0 x1 x2 x3 x4 x5 x6 x7 x8 x9 xf c0 c1 c2 c3 c4 c5 c6 c7 c8 c9
      obtain ⟨xl, x0, x1, x2, x3, x4, x5, x6, x7, x8, x9, xf⟩ := HX5.out
      rw [HPA.out] at x8
      rw [HPS.out] at x9
      generalize lev 4 x = m at *
      by_cases hk3 : E.k = 3
      · rw [if_pos hk3] at hle
        have d1 : decide (n < m) = false := decide_eq_false (by omega)
        have d2 : decide (n ≤ m) = false := decide_eq_false (by omega)
        rw [hk3] at x0
        clear hk3
        go_wp2
        go_roundw
        case rel => exact ⟨k + 1, by omega, by go_num, HB5.out⟩
        case measure => simp [intOf]; omega
      · rw [if_neg hk3] at hle
        have d1 : decide (n < m) = false := decide_eq_false (by omega)
        have d2 : (E.k == 3) = false := beq_eq_false_iff_ne.2 hk3
        clear hk3
        go_wp2
        go_roundw
        case rel => exact ⟨k + 1, by omega, by go_num, HB5.out⟩
        case measure => simp [intOf]; omega
    · have hlt' : decide ((k : Int) < E.args.length) = false := decide_eq_false (by omega)
      obtain rfl : k = E.args.length := by omega
      clear HF1 HAV
      have HBw := Lib.hid HB.out
      generalize wr = W5 at *
      clear HB
      obtain ⟨i0, hi0, hz0, hs0, hb0⟩ := info_parts info_expr
      go_wp2_with fail
      go_loopw [47] (fun i v => ∃ k : Nat, k ≤ E.sub.length ∧ i = .int .i64 k ∧ Below W5.heap.size W5 v) (fun i _ => E.sub.length - (intOf i).toNat)
      case atStart => exact ⟨0, Nat.zero_le _, rfl, Below.refl _ _⟩
      case round =>
        obtain ⟨k, hk2, rfl, hb⟩ := hrel
        have HB := Lib.hid hb
        have HBq := Lib.hid (below_next HBw.out hb)
        clear hb xl x0 x1 x2 x3 x4 x5 x6 x7 x8 x9 xf
        by_cases hlt2 : k < E.sub.length
        · have hlt2' : decide ((k : Int) < E.sub.length) = true := decide_eq_true (by omega)
          obtain ⟨g, o, rfl, hg, -, hC, hqi⟩ := HS4.out.low HBq.out k hlt2
          have hsv := HSV.out _ (qAt_mem hlt2)
          have hl2 := fun j h => HF2.out k j hlt2 h
          have hl3 := fun j h => HF3.out k j hlt2 h
          generalize qAt E.sub k = q at *
          have HL2 := Lib.hid hl2
          have HL3 := Lib.hid hl3
          have hni : q.items.length ≤ 1 := by rw [hsv.items]; unfold itemN; split <;> omega
          have hnw : q.wh.length ≤ 1 := hsv.wh
          have HVI := Lib.hid hsv.allI
          have HVW := Lib.hid hsv.allW
          obtain ⟨c0, c1, c2, c3⟩ := hC
          clear hl2 hl3 hsv
          go_upto_region 14 with (fail)
          have hba := below_alloc wr (.cells #[.bool q.st, .slice q.pi q.items.length q.ci, .string q.fr, .slice q.pw q.wh.length q.cw] 34)
          have HQB := Lib.hid (QuBx.new wr q 34)
          have HQI := Lib.hid (hqi.low hba)
          have HB6 := Lib.hid (below_next HB.out hba)
          have hEe := (HE4.out.low HBq.out).low hba
          have HE6 := Lib.hid hEe
          clear hba hqi c0 c1 c2 c3 hg hEe
          generalize wr.alloc (.cells #[.bool q.st, .slice q.pi q.items.length q.ci, .string q.fr, .slice q.pw q.wh.length q.cw] 34) = W6 at *
          generalize wr.heap.size = Y at *
          obtain ⟨L, hL⟩ : ∃ L, q.items ++ q.wh = L := ⟨_, rfl⟩
          have HLQ := Lib.hid hL
          clear hL
          go_cut [57, 58, 59] from 51 to 59 (fun s57 s58 s59 wx => ∃ (p7 : Option Addr) (c7 : Nat), s57 = .slice p7 L.length c7 ∧ s58 = .int .i64 L.length ∧ s59 = .int .i64 0 ∧ LAt (fun _ => True) wx (fun _ => True) p7 L ∧ Below W6.heap.size W6 wx)
          case first =>
            obtain ⟨yl, y0, y1, y2, y3, yf⟩ := HQB.out
            have HB7 := Lib.hid ((below_alloc W6 (.cells #[] 30)).drew)
            have HI1 := Lib.hid (HQI.out.items.low HB7.out)
            have HO1 : Hid ((W6.alloc (.cells #[] 30)).drew.ownsRow W6.heap.size 30 10 (.slice (some ⟨W6.heap.size, 0, none⟩) 0 0) 0 (ecells [])) := Lib.hid (eowns_empty W6)
            have hz1 : W6.heap.size ≤ (W6.alloc (.cells #[] 30)).drew.heap.size := HB7.out.size
            go_region_law (first
              | (refine step_append_any (by rfl) (.tmp 51) (.tmp 53) 27 30 (by rfl) W6.heap.size i0 _ 10 136 Tryd.underlying27 hi0 hz0 hs0 hb0 rfl (by decide) (.slice (some ⟨W6.heap.size, 0, none⟩) 0 0) 0 (ecells []) (by rfl) HO1.out q.pi q.items.length q.ci (ecells q.items) (by rfl) (ecells_length _) (lat_src HI1.out) (lat_none HI1.out) (ecells_one _) (by unfold maxLen; omega) (by omega) hz1 ?_; intro v8 w8 hown8 hgr8; (have hb8 := grown_below HB7.out hz1 hgr8 (fun k hk => by cases hk; exact Nat.le_refl _)); (have HB8 := Lib.hid hb8); (have HO8 := Lib.hid hown8); (have HI8 := Lib.hid (HQI.out.wh.low hb8)); (have HY8 := Lib.hid (HQB.out.low hb8)); clear hown8 hgr8 hb8 yl y0 y1 y2 y3 yf; obtain ⟨yl, y0, y1, y2, y3, yf⟩ := HY8.out)
              | (refine step_append_any (by rfl) (.tmp 54) (.tmp 56) 27 30 (by rfl) W6.heap.size i0 _ 10 136 Tryd.underlying27 hi0 hz0 hs0 hb0 rfl (by decide) v8 (0 + q.items.length) (ecells [] ++ ecells q.items) (by rfl) HO8.out q.pw q.wh.length q.cw (ecells q.wh) (by rfl) (ecells_length _) (lat_src HI8.out) (lat_none HI8.out) (ecells_one _) (by unfold maxLen; omega) (by omega) HB8.out.size ?_; intro v9 w9 hown9 hgr9; (have hb9 := grown_below HB8.out HB8.out.size hgr9 (fun k hk => owns_block HO8.out k hk)); (have HB9 := Lib.hid hb9); (have hown9' : w9.ownsRow W6.heap.size 30 10 v9 L.length (ecells L) := by (rw [← HLQ.out, ecells_append, List.length_append]; rw [Nat.zero_add] at hown9; exact hown9)); obtain ⟨p9, c9', hv9, -, hA9, -⟩ := LAt.own (N := fun _ => True) (P := fun _ => True) hown9' (fun _ _ => trivial) (fun _ _ => trivial); (have HA9 := Lib.hid hA9); clear hown9 hgr9 hb9 hown9' hA9; subst hv9))
            all_goals
              go_wp2
              go_meet
              case rel => exact ⟨p9, c9', rfl, rfl, rfl, HA9.out, HB9.out⟩
          case rest =>
            obtain ⟨p7, c7, rfl, rfl, rfl, hA7, hB7⟩ := hcut
            have HA7 := Lib.hid hA7
            have HB7 := Lib.hid hB7
            have hlf : ∀ a ∈ L, lev 4 a < n ∧ vE 4 a = true ∧ ExAt (fun _ => True) W6 4 a := by
              intro a ha
              rw [← HLQ.out] at ha
              rcases List.mem_append.1 ha with ha | ha
              · obtain ⟨i, hi, rfl⟩ := mem_eAt ha
                exact ⟨HL3.out i hi, HVI.out _ ha, lat_mem HQI.out.items _ ha⟩
              · obtain ⟨i, hi, rfl⟩ := mem_eAt ha
                exact ⟨HL2.out i hi, HVW.out _ ha, lat_mem HQI.out.wh _ ha⟩
            have HLF := Lib.hid hlf
            have hlL : L.length ≤ 2 := by rw [← HLQ.out, List.length_append]; omega
            clear hA7 hB7 hlf
            generalize wr = W9 at *
            go_wp2_with fail
            go_loopw [59] (fun i v => ∃ j : Nat, j ≤ L.length ∧ i = .int .i64 j ∧ Below wc.heap.size wc v) (fun i _ => L.length - (intOf i).toNat)
            case atStart => exact ⟨0, Nat.zero_le _, rfl, Below.refl _ _⟩
            case round =>
              obtain ⟨j, hj, rfl, hbj⟩ := hrel
              have HBJ := Lib.hid hbj
              clear hbj
              by_cases hltj : j < L.length
              · have hltj' : decide ((j : Int) < L.length) = true := decide_eq_true (by omega)
                obtain ⟨g7, o7, rfl, hg7, -, hC7, -⟩ := LAt.keep (M := fun _ => True) (Q := fun _ => True) HA7.out HBJ.out.size (fun c hc hn => ⟨HBJ.out.block c hc, trivial⟩) (fun _ h => h) j hltj
                obtain ⟨hlm, hvm, hxm⟩ := HLF.out _ (eAt_mem hltj)
                have HXM := Lib.hid (hxm.low (below_next HB7.out HBJ.out))
                have HVM := Lib.hid hvm
                obtain ⟨c0, c1, c2, c3, c4, c5, c6, c7', c8, c9⟩ := hC7
                generalize eAt L j = x at *
                have HLX := Lib.hid (levelsOf_any ho 4 (by decide) (fun _ => True) x)
                unfold exV at HLX
                go_wp2_with fail
                refine (HLX.out _ (HXM.out.low (below_alloc _ _)) HVM.out ((HE6.out.low (below_next HB7.out HBJ.out)).alloc _)).mono ?_
                rintro e w5 ⟨rfl, hb5⟩
                have HB5 := Lib.hid (below_next HBJ.out (Below.of_alloc hb5))
                clear hb5 c0 c1 c2 c3 c4 c5 c6 c7' c8 c9 hxm hvm
                generalize lev 4 x = m at *
                have d1 : decide (n ≤ m) = false := decide_eq_false (by omega)
                go_wp2
                go_roundw
                case rel => exact ⟨j + 1, by omega, by go_num, HB5.out⟩
                case measure => simp [intOf]; omega
              · have hltj' : decide ((j : Int) < L.length) = false := decide_eq_false (by omega)
                obtain rfl : j = L.length := by omega
                have HBZ := Lib.hid (below_next (below_next HB6.out HB7.out) HBJ.out)
                go_wp2
                go_roundw
                case rel => exact ⟨k + 1, by omega, by go_num, HBZ.out⟩
                case measure => simp [intOf]; omega
        · have hlt2' : decide ((k : Int) < E.sub.length) = false := decide_eq_false (by omega)
          obtain rfl : k = E.sub.length := by omega
          have HXZ := Lib.hid (HX4.out.low HBq.out)
          have HT7 := Lib.hid (HT4.out.low HBq.out)
          generalize wr = W7 at *
          obtain ⟨xl, x0, x1, x2, x3, x4, x5, x6, x7, x8, x9, xf⟩ := HXZ.out
          have hone := one_ex HT7.out trivial 30
          have e0 : (⟨#[]⟩ : ByteArray).size ≤ 9223372036854775807 := by decide
          have HNT := Lib.hid (fun v hb => (show ExAt (fun _ => True) v 6 (argEx 3 0 false (some ⟨W7.heap.size, 0, none⟩) 1 [E]) from ⟨e0, e0, e0, (show (1 : Nat) ≤ 9223372036854775807 by decide), (show (0 : Nat) ≤ 9223372036854775807 by decide), LAt.low hone hb, QAt.nil _ _ _ _⟩))
          have hsz := size_alloc W7 (.cells #[.int .i64 E.k, .int .i64 E.op, .bool E.no, .int .i64 E.vk, .int .i64 E.vi, .string E.vt, .string E.tb, .string E.nm, .slice E.pa E.args.length E.ca, .slice E.ps E.sub.length E.cs] 30)
          have hbo := below_alloc W7 (.cells #[.int .i64 E.k, .int .i64 E.op, .bool E.no, .int .i64 E.vk, .int .i64 E.vi, .string E.vt, .string E.tb, .string E.nm, .slice E.pa E.args.length E.ca, .slice E.ps E.sub.length E.cs] 30)
          have HBo := Lib.hid (below_next HB4.out (below_next HBq.out hbo))
          have HEo := Lib.hid (HE.out.low HBo.out)
          have HL6 : Hid (∀ v, Below (W7.alloc (.cells #[.int .i64 E.k, .int .i64 E.op, .bool E.no, .int .i64 E.vk, .int .i64 E.vi, .string E.vt, .string E.tb, .string E.nm, .slice E.pa E.args.length E.ca, .slice E.ps E.sub.length E.cs] 30)).heap.size (W7.alloc (.cells #[.int .i64 E.k, .int .i64 E.op, .bool E.no, .int .i64 E.vk, .int .i64 E.vi, .string E.vt, .string E.tb, .string E.nm, .slice E.pa E.args.length E.ca, .slice E.ps E.sub.length E.cs] 30)) v → Calls Tryd.prog 7 #[.agg #[.int .i64 3, .int .i64 0, .bool false, .int .i64 0, .int .i64 0, .string ⟨#[]⟩, .string ⟨#[]⟩, .string ⟨#[]⟩, .slice (some ⟨W7.heap.size, 0, none⟩) 1 1, .slice none 0 0]] v fun r w' => r = .returned (.int .i64 (n + 1 + if prec E.k E.op < 3 then 1 else 0)) ∧ Below v.heap.size v w') := Lib.hid fun v hb => by
            have h := levelsOf_any ho 6 (by decide) _ _ v (HNT.out v hb) (HF5.out _) (HEo.out.low hb)
            rw [HF4.out] at h
            exact h
          have HNB := Lib.hid (ExB.new (W7.alloc (.cells #[.int .i64 E.k, .int .i64 E.op, .bool E.no, .int .i64 E.vk, .int .i64 E.vi, .string E.vt, .string E.tb, .string E.nm, .slice E.pa E.args.length E.ca, .slice E.ps E.sub.length E.cs] 30)) (.mk 3 0 false 0 0 ⟨#[]⟩ ⟨#[]⟩ ⟨#[]⟩ (some ⟨W7.heap.size, 0, none⟩) 1 [E] none 0 []) 30 |>.at hsz)
          clear hone hbo
          go_wp2_with fail
          refine (HPR.out _ (HEo.out.alloc _) ho).mono ?_
          rintro e w8 ⟨rfl, hb8⟩
          have HB8 := Lib.hid (below_next (below_alloc (W7.alloc (.cells #[.int .i64 E.k, .int .i64 E.op, .bool E.no, .int .i64 E.vk, .int .i64 E.vi, .string E.vt, .string E.tb, .string E.nm, .slice E.pa E.args.length E.ca, .slice E.ps E.sub.length E.cs] 30)) _) hb8)
          have HN8 := Lib.hid (HNB.out.low hb8)
          clear hb8 HNB HNT xl x0 x1 x2 x3 x4 x5 x6 x7 x8 x9 xf
          obtain ⟨nl, n0', n1', n2', n3', n4', n5', n6', n7', n8', n9', nf⟩ := HN8.out
          simp only [Ex.mk_k, Ex.mk_op, Ex.mk_no, Ex.mk_vk, Ex.mk_vi, Ex.mk_vt, Ex.mk_tb, Ex.mk_nm, Ex.mk_pa, Ex.mk_ca, Ex.mk_args, Ex.mk_ps, Ex.mk_cs, Ex.mk_sub, List.length_singleton, List.length_nil] at n0' n1' n2' n3' n4' n5' n6' n7' n8' n9'
          by_cases hp : prec E.k E.op < 3
          · have d3 : decide (prec E.k E.op < 3) = true := decide_eq_true hp
            have HPP := Lib.hid hp
            clear hp
            go_wp2_with fail
            refine (HL6.out _ HB8.out).mono ?_
            rintro e w9 ⟨rfl, hb9⟩
            rw [if_pos HPP.out]
            have HB9 := Lib.hid (below_next HB8.out hb9)
            clear hb9 nl n0' n1' n2' n3' n4' n5' n6' n7' n8' n9' nf
            go_wp2_with fail
            refine (known11_any _ (HEo.out.low HB9.out) hu ho).mono ?_
            rintro e w10 ⟨rfl, hb10⟩
            have HB10 := Lib.hid (below_next HBo.out (below_next HB9.out hb10))
            clear hb10
            go_wp2
            go_ret
            exact ⟨rfl, HB10.out⟩
          · have d3 : decide (prec E.k E.op < 3) = false := decide_eq_false hp
            have HPP := Lib.hid hp
            clear hp
            go_wp2_with fail
            refine (HL6.out _ HB8.out).mono ?_
            rintro e w9 ⟨rfl, hb9⟩
            rw [if_neg (by have := HPP.out; omega), Int.add_zero]
            have HB9 := Lib.hid (below_next HB8.out hb9)
            clear hb9 nl n0' n1' n2' n3' n4' n5' n6' n7' n8' n9' nf
            go_wp2_with fail
            refine (known11_any _ (HEo.out.low HB9.out) hu ho).mono ?_
            rintro e w10 ⟨rfl, hb10⟩
            have HB10 := Lib.hid (below_next HBo.out (below_next HB9.out hb10))
            clear hb10
            go_wp2
            go_ret
            exact ⟨rfl, HB10.out⟩
end Go.Proofs.YtecghiflbnhceaaDoor
