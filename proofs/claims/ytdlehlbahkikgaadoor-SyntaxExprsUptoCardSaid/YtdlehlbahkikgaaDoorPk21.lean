/-
  Several texts in one.
-/
import Derived.Test.YtdlehlbahkikgaaDoorPk20
import Derived.Test.YtdlehlbahkikgaaDoorPk07
import Derived.Test.YtdlehlbahkikgaaDoorPk16
/-
  alike of law 11: both answer the same for every tree.
-/
namespace Go.Proofs.YtdlehlbahkikgaaDoor
set_option maxRecDepth 100000
open Go.RowKit
variable {ls : List Nat}

set_option maxHeartbeats 4000000 in
theorem alike11_any {N : Nat → Prop} {d : Nat} (hd : d ≤ 2000000000) (hu : 2 ∈ ls) (ho : 1 ∈ ls) (e : Ex) (w : World) (hA : ExAt N w d e) (hE : Env ls w) :
    Calls Tryd.prog 10 #[exV e] w fun r w' => r = .returned (.bool true) ∧ Below w.heap.size w w' := by
  have HV := Lib.hid (validExpr_any hu d N e)
  have HRV := Lib.hid (rvalid_all d N e)
  have HP := Lib.hid (prec_any (ls := ls) e)
  have HRP := Lib.hid (rprec e)
  have HL := Lib.hid (levelsOf_any ho d hd N e)
  have HRL := Lib.hid (rlevelsOf_any d hd N e)
  have hbx := ExB.new w e 30
  have hal := below_alloc w (.cells #[.int .i64 e.k, .int .i64 e.op, .bool e.no, .int .i64 e.vk, .int .i64 e.vi, .string e.vt, .string e.tb, .string e.nm, .slice e.pa e.args.length e.ca, .slice e.ps e.sub.length e.cs] 30)
  have HA2 := Lib.hid (hA.low hal)
  have HE2 := Lib.hid (hE.low hal)
  have HB2 := Lib.hid hal
  clear hA hE hal
  generalize vE d e = V at *
  generalize lev d e = L at *
  generalize prec e.k e.op = pr at *
  obtain ⟨k, op, no, vk, vi, vt, tb, nm, pa, ca, args, ps, cs, sub⟩ := e
  unfold exV at *
  simp only [Ex.mk_k, Ex.mk_op, Ex.mk_no, Ex.mk_vk, Ex.mk_vi, Ex.mk_vt, Ex.mk_tb, Ex.mk_nm, Ex.mk_pa, Ex.mk_ca, Ex.mk_args, Ex.mk_ps, Ex.mk_cs, Ex.mk_sub] at *
  go_enter Tryd.func10, Tryd.ntmps10
  go_upto_region 1 with (fail)
  generalize World.alloc _ _ = W2 at *
  generalize hXe : w.heap.size = X at *
  have HXE := Lib.hid hXe
  clear hXe
  have l0 := lowW_cell (W := W2) (by exact hbx.lt) hbx.c0
  have l1 := lowW_cell (W := W2) (by exact hbx.lt) hbx.c1
  have l2 := lowW_cell (W := W2) (by exact hbx.lt) hbx.c2
  have l3 := lowW_cell (W := W2) (by exact hbx.lt) hbx.c3
  have l4 := lowW_cell (W := W2) (by exact hbx.lt) hbx.c4
  have l5 := lowW_cell (W := W2) (by exact hbx.lt) hbx.c5
  have l6 := lowW_cell (W := W2) (by exact hbx.lt) hbx.c6
  have l7 := lowW_cell (W := W2) (by exact hbx.lt) hbx.c7
  have l8 := lowW_cell (W := W2) (by exact hbx.lt) hbx.c8
  have l9 := lowW_cell (W := W2) (by exact hbx.lt) hbx.c9
  simp only [Ex.mk_k, Ex.mk_op, Ex.mk_no, Ex.mk_vk, Ex.mk_vi, Ex.mk_vt, Ex.mk_tb, Ex.mk_nm, Ex.mk_pa, Ex.mk_ca, Ex.mk_args, Ex.mk_ps, Ex.mk_cs, Ex.mk_sub] at l0 l1 l2 l3 l4 l5 l6 l7 l8 l9
  have hXW := hbx.lt
  clear hbx
  cases V
  all_goals
    refine wp_region_low (by kernel_rfl) (by kernel_rfl) ?_
    repeat (refine wq_step (fun K hK => ?_); go_simp; first | (refine hK _ ?_; clear hK K) | (apply Exists.intro; refine ⟨fun _ => ?_, hK _ ?_⟩; (first | (go_at_call 12; exact Calls.low_of (HV.out _ (HA2.out.low (lowW_low _ _ _)) (HE2.out.low (lowW_low _ _ _)))) | (go_at_call 24; exact Calls.low_of (HRV.out _ (HA2.out.low (lowW_low _ _ _)))) | (go_at_call 8; exact Calls.low_of (HP.out _ (HE2.out.low (lowW_low _ _ _)) ho)) | (go_at_call 25; exact Calls.low_of (HRP.out _)) | (go_at_call 7; exact Calls.low_of (HL.out _ (HA2.out.low (lowW_low _ _ _)) rfl (HE2.out.low (lowW_low _ _ _)))) | (go_at_call 26; exact Calls.low_of (HRL.out _ (HA2.out.low (lowW_low _ _ _)) rfl))); clear hK K))
    refine wq_nil ?_
    rintro _ ⟨⟨d3, os3⟩, rfl⟩
    dsimp only
    have HB3 := Lib.hid (HB2.out.trans ((lowW_low W2 d3 os3).mono (Nat.le_of_lt hXW)))
    clear l0 l1 l2 l3 l4 l5 l6 l7 l8 l9
    generalize lowW W2 d3 os3 = W3 at HB3 ⊢
    go_wp2
    go_ret
    exact ⟨ret_bool (by simp), by first | exact HB3.out | (rw [HXE.out]; exact HB3.out)⟩
end Go.Proofs.YtdlehlbahkikgaaDoor
/-
  The sanity check of layer 11.
-/
namespace Go.Proofs.YtdlehlbahkikgaaDoor
set_option maxRecDepth 100000
open Go.RowKit
variable {ls : List Nat}

set_option maxHeartbeats 2000000 in
theorem bin_any (op : Int) (a b : Ex) (w : World) :
    Calls Tryd.prog 23 #[.int .i64 op, exV a, exV b] w fun e w' => ∃ g, e = .returned (.agg #[.int .i64 5, .int .i64 op, .bool false, .int .i64 0, .int .i64 0, .string ⟨#[]⟩, .string ⟨#[]⟩, .string ⟨#[]⟩, .slice (some ⟨g, 0, none⟩) 2 2, .slice none 0 0]) ∧ w.heap.size ≤ g ∧ g < w'.heap.size ∧ ExC w' g 0 a ∧ ExC w' g 10 b ∧ Below w.heap.size w w' := by
  unfold exV
  go_enter Tryd.func23, Tryd.ntmps23
  go_wp2
  refine bodyPost_ret (v := .agg #[.int .i64 5, .int .i64 op, .bool false, .int .i64 0, .int .i64 0, .string ⟨#[]⟩, .string ⟨#[]⟩, .string ⟨#[]⟩, .slice (some ⟨w.heap.size + 1 + 1 + 1, 0, none⟩) 2 2, .slice none 0 0]) (by simp [results, Tryd.results23, go_sem]) rfl ⟨w.heap.size + 1 + 1 + 1, rfl, by omega, by simp, ?_, ?_, below_new (below_new (below_new (below_alloc _ _) _) _) _⟩
  · constructor <;> go_simp
  · constructor <;> go_simp
def knA : Ex := colEx ⟨#[]⟩ ⟨#[97]⟩
def knB : Ex := colEx ⟨#[116]⟩ ⟨#[98]⟩
def knAnd (p : Option Addr) : Ex := argEx 5 2 false p 2 [knA, knB]
def knNot (p q : Option Addr) : Ex := argEx 3 0 false q 1 [knAnd p]
def knNeg : Ex := litEx 1 (-1) ⟨#[]⟩
theorem knA_valid (V : Ex → Bool) : vOf V knA = true := vOf_col qual_none (by decide +kernel)
theorem knB_valid (V : Ex → Bool) : vOf V knB = true := vOf_col (by decide +kernel) (by decide +kernel)
theorem knNot_valid (p q : Option Addr) : vE 3 (knNot p q) = true := by
  refine vOf_args (by decide) (by decide) rfl (fun h => absurd h (by decide)) (fun _ => rfl) (fun _ => rfl) fun a ha => ?_
  obtain rfl := List.mem_singleton.1 ha
  refine vOf_args (by decide) (by decide) rfl (fun _ => by decide) (fun h => absurd rfl h) (fun _ => rfl) fun a ha => ?_
  rcases List.mem_cons.1 ha with rfl | ha
  · exact knA_valid _
  · obtain rfl := List.mem_singleton.1 ha; exact knB_valid _
theorem knNot_lev (p q : Option Addr) : lev 3 (knNot p q) = 2 := by rfl
theorem knNeg_valid : vE 1 knNeg = false := by
  show vOf _ _ = false
  rw [Bool.eq_false_iff]
  intro h
  have := (vOf_iff.1 h).lit rfl
  exact absurd this.2.1 (by decide)
set_option maxHeartbeats 4000000 in
theorem known11_any (w : World) (hE : Env ls w) (hu : 2 ∈ ls) (ho : 1 ∈ ls) :
    Calls Tryd.prog 9 #[] w fun e w' => e = .returned (.bool true) ∧ Below w.heap.size w w' := by
  have HE := Lib.hid hE
  clear hE
  go_enter Tryd.func9, Tryd.ntmps9
  go_wp2_with fail
  refine (col_agg ⟨#[]⟩ ⟨#[97]⟩ _).mono ?_
  rintro e w1 ⟨rfl, hb1⟩
  have HB1 := Lib.hid hb1
  clear hb1
  go_wp2_with fail
  refine (col_agg ⟨#[116]⟩ ⟨#[98]⟩ _).mono ?_
  rintro e w2 ⟨rfl, hb2⟩
  have HB2 := Lib.hid (below_next HB1.out hb2)
  clear hb2
  go_wp2_with fail
  have hbx := below_new (below_alloc w2 (.cells #[.int .i64 2, .int .i64 0, .bool false, .int .i64 0, .int .i64 0, .string ⟨#[]⟩, .string ⟨#[]⟩, .string ⟨#[97]⟩, .slice none 0 0, .slice none 0 0] 30)) (.cells #[.int .i64 2, .int .i64 0, .bool false, .int .i64 0, .int .i64 0, .string ⟨#[]⟩, .string ⟨#[116]⟩, .string ⟨#[98]⟩, .slice none 0 0, .slice none 0 0] 30)
  have HB3 := Lib.hid (below_next HB2.out hbx)
  clear hbx
  refine (bin_any 2 knA knB _).mono ?_
  rintro e w4 ⟨g, rfl, hg, hgl, hA, hB, hb4⟩
  have HB4 := Lib.hid (below_next HB3.out hb4)
  have hl1 : LAt (fun _ => True) w4 (ExAt (fun _ => True) w4 1) (some ⟨g, 0, none⟩) [knA, knB] := fun i hi => by
    have hi2 : i = 0 ∨ i = 1 := by have hi : i < 2 := hi; omega
    rcases hi2 with rfl | rfl
    · exact ⟨g, 0, rfl, hgl, trivial, hA, ExAt.leaf _ _ 0 2 0 false 0 0 (by decide) (by decide) (by decide)⟩
    · exact ⟨g, 0, rfl, hgl, trivial, hB, ExAt.leaf _ _ 0 2 0 false 0 0 (by decide) (by decide) (by decide)⟩
  have e0 : (⟨#[]⟩ : ByteArray).size ≤ 9223372036854775807 := by decide
  have hand : ExAt (fun _ => True) w4 2 (knAnd (some ⟨g, 0, none⟩)) := ⟨e0, e0, e0, (show (2 : Nat) ≤ 9223372036854775807 by decide), (show (0 : Nat) ≤ 9223372036854775807 by decide), hl1, QAt.nil _ _ _ _⟩
  have hone := one_ex hand trivial 30
  have hnot := fun (v : World) (hb : Below (w4.alloc (.cells #[.int .i64 5, .int .i64 2, .bool false, .int .i64 0, .int .i64 0, .string ⟨#[]⟩, .string ⟨#[]⟩, .string ⟨#[]⟩, .slice (some ⟨g, 0, none⟩) 2 2, .slice none 0 0] 30)).heap.size (w4.alloc (.cells #[.int .i64 5, .int .i64 2, .bool false, .int .i64 0, .int .i64 0, .string ⟨#[]⟩, .string ⟨#[]⟩, .string ⟨#[]⟩, .slice (some ⟨g, 0, none⟩) 2 2, .slice none 0 0] 30)) v) =>
    (show ExAt (fun _ => True) v 3 (knNot (some ⟨g, 0, none⟩) (some ⟨w4.heap.size, 0, none⟩)) from ⟨e0, e0, e0, (show (1 : Nat) ≤ 9223372036854775807 by decide), (show (0 : Nat) ≤ 9223372036854775807 by decide), LAt.low hone hb, QAt.nil _ _ _ _⟩)
  have HNOT := Lib.hid hnot
  clear hA hB hb4 hl1 hand hone hnot hg hgl
  have HBW := Lib.hid (below_next HB4.out (below_alloc w4 (.cells #[.int .i64 5, .int .i64 2, .bool false, .int .i64 0, .int .i64 0, .string ⟨#[]⟩, .string ⟨#[]⟩, .string ⟨#[]⟩, .slice (some ⟨g, 0, none⟩) 2 2, .slice none 0 0] 30)))
  have HE4 := Lib.hid (HE.out.low HBW.out)
  have HV : Hid (∀ v, Below (w4.alloc (.cells #[.int .i64 5, .int .i64 2, .bool false, .int .i64 0, .int .i64 0, .string ⟨#[]⟩, .string ⟨#[]⟩, .string ⟨#[]⟩, .slice (some ⟨g, 0, none⟩) 2 2, .slice none 0 0] 30)).heap.size (w4.alloc (.cells #[.int .i64 5, .int .i64 2, .bool false, .int .i64 0, .int .i64 0, .string ⟨#[]⟩, .string ⟨#[]⟩, .string ⟨#[]⟩, .slice (some ⟨g, 0, none⟩) 2 2, .slice none 0 0] 30)) v → Calls Tryd.prog 12 #[.agg #[.int .i64 3, .int .i64 0, .bool false, .int .i64 0, .int .i64 0, .string ⟨#[]⟩, .string ⟨#[]⟩, .string ⟨#[]⟩, .slice (some ⟨w4.heap.size, 0, none⟩) 1 1, .slice none 0 0]] v fun r w' => r = .returned (.bool true) ∧ Below v.heap.size v w') := Lib.hid fun v hb => by
    have h := validExpr_any hu 3 _ _ v (HNOT.out v hb) (HE4.out.low hb)
    rw [knNot_valid] at h
    exact h
  have HL : Hid (∀ v, Below (w4.alloc (.cells #[.int .i64 5, .int .i64 2, .bool false, .int .i64 0, .int .i64 0, .string ⟨#[]⟩, .string ⟨#[]⟩, .string ⟨#[]⟩, .slice (some ⟨g, 0, none⟩) 2 2, .slice none 0 0] 30)).heap.size (w4.alloc (.cells #[.int .i64 5, .int .i64 2, .bool false, .int .i64 0, .int .i64 0, .string ⟨#[]⟩, .string ⟨#[]⟩, .string ⟨#[]⟩, .slice (some ⟨g, 0, none⟩) 2 2, .slice none 0 0] 30)) v → Calls Tryd.prog 7 #[.agg #[.int .i64 3, .int .i64 0, .bool false, .int .i64 0, .int .i64 0, .string ⟨#[]⟩, .string ⟨#[]⟩, .string ⟨#[]⟩, .slice (some ⟨w4.heap.size, 0, none⟩) 1 1, .slice none 0 0]] v fun r w' => r = .returned (.int .i64 2) ∧ Below v.heap.size v w') := Lib.hid fun v hb => by
    have h := levelsOf_any ho 3 (by decide) _ _ v (HNOT.out v hb) (knNot_valid _ _) (HE4.out.low hb)
    rw [knNot_lev] at h
    exact h
  have HP : Hid (∀ v, Below (w4.alloc (.cells #[.int .i64 5, .int .i64 2, .bool false, .int .i64 0, .int .i64 0, .string ⟨#[]⟩, .string ⟨#[]⟩, .string ⟨#[]⟩, .slice (some ⟨g, 0, none⟩) 2 2, .slice none 0 0] 30)).heap.size (w4.alloc (.cells #[.int .i64 5, .int .i64 2, .bool false, .int .i64 0, .int .i64 0, .string ⟨#[]⟩, .string ⟨#[]⟩, .string ⟨#[]⟩, .slice (some ⟨g, 0, none⟩) 2 2, .slice none 0 0] 30)) v → Calls Tryd.prog 8 #[.agg #[.int .i64 3, .int .i64 0, .bool false, .int .i64 0, .int .i64 0, .string ⟨#[]⟩, .string ⟨#[]⟩, .string ⟨#[]⟩, .slice (some ⟨w4.heap.size, 0, none⟩) 1 1, .slice none 0 0]] v fun r w' => r = .returned (.int .i64 3) ∧ Below v.heap.size v w') := Lib.hid fun v hb =>
    prec_any (knNot (some ⟨g, 0, none⟩) (some ⟨w4.heap.size, 0, none⟩)) v (HE4.out.low hb) ho
  have HN : Hid (∀ v, Env ls v → Calls Tryd.prog 12 #[.agg #[.int .i64 1, .int .i64 0, .bool false, .int .i64 1, .int .i64 (-1), .string ⟨#[]⟩, .string ⟨#[]⟩, .string ⟨#[]⟩, .slice none 0 0, .slice none 0 0]] v fun r w' => r = .returned (.bool false) ∧ Below v.heap.size v w') := Lib.hid fun v hE => by
    have h := validExpr_any hu 1 (fun _ => True) knNeg v (ExAt.leaf _ _ 0 1 0 false 1 (-1) e0 e0 e0) hE
    rw [knNeg_valid] at h
    exact h
  clear HNOT e0
  go_wp2_with fail
  have hsz := size_alloc w4 (.cells #[.int .i64 5, .int .i64 2, .bool false, .int .i64 0, .int .i64 0, .string ⟨#[]⟩, .string ⟨#[]⟩, .string ⟨#[]⟩, .slice (some ⟨g, 0, none⟩) 2 2, .slice none 0 0] 30)
  have hbz := below_alloc (w4.alloc (.cells #[.int .i64 5, .int .i64 2, .bool false, .int .i64 0, .int .i64 0, .string ⟨#[]⟩, .string ⟨#[]⟩, .string ⟨#[]⟩, .slice (some ⟨g, 0, none⟩) 2 2, .slice none 0 0] 30)) (.cells #[.int .i64 3, .int .i64 0, .bool false, .int .i64 0, .int .i64 0, .string ⟨#[]⟩, .string ⟨#[]⟩, .string ⟨#[]⟩, .slice (some ⟨w4.heap.size, 0, none⟩) 1 1, .slice none 0 0] 30)
  generalize (w4.alloc (.cells #[.int .i64 5, .int .i64 2, .bool false, .int .i64 0, .int .i64 0, .string ⟨#[]⟩, .string ⟨#[]⟩, .string ⟨#[]⟩, .slice (some ⟨g, 0, none⟩) 2 2, .slice none 0 0] 30)) = W4 at *
  refine (HV.out _ hbz).mono ?_
  rintro e w5 ⟨rfl, hb5⟩
  have HB5 := Lib.hid (below_next hbz hb5)
  have HX5 := Lib.hid ((ExB.new W4 (.mk 3 0 false 0 0 ⟨#[]⟩ ⟨#[]⟩ ⟨#[]⟩ (some ⟨w4.heap.size, 0, none⟩) 1 [knA] none 0 []) 30).low hb5 |>.at hsz)
  clear hb5 hbz
  obtain ⟨xl, x0, x1, x2, x3, x4, x5, x6, x7, x8, x9, xf⟩ := HX5.out
  simp only [Ex.mk_k, Ex.mk_op, Ex.mk_no, Ex.mk_vk, Ex.mk_vi, Ex.mk_vt, Ex.mk_tb, Ex.mk_nm, Ex.mk_pa, Ex.mk_ca, Ex.mk_args, Ex.mk_ps, Ex.mk_cs, Ex.mk_sub, List.length_singleton, List.length_nil] at x0 x1 x2 x3 x4 x5 x6 x7 x8 x9
  go_wp2_with fail
  refine (HL.out _ HB5.out).mono ?_
  rintro e w6 ⟨rfl, hb6⟩
  have HB6 := Lib.hid (below_next HB5.out hb6)
  have HX6 := Lib.hid (HX5.out.low hb6)
  clear hb6 HB5 HX5 xl x0 x1 x2 x3 x4 x5 x6 x7 x8 x9 xf
  obtain ⟨xl, x0, x1, x2, x3, x4, x5, x6, x7, x8, x9, xf⟩ := HX6.out
  simp only [Ex.mk_k, Ex.mk_op, Ex.mk_no, Ex.mk_vk, Ex.mk_vi, Ex.mk_vt, Ex.mk_tb, Ex.mk_nm, Ex.mk_pa, Ex.mk_ca, Ex.mk_args, Ex.mk_ps, Ex.mk_cs, Ex.mk_sub, List.length_singleton, List.length_nil] at x0 x1 x2 x3 x4 x5 x6 x7 x8 x9
  go_wp2_with fail
  refine (HP.out _ HB6.out).mono ?_
  rintro e w7 ⟨rfl, hb7⟩
  have HB7 := Lib.hid (below_next HB6.out hb7)
  clear hb7 HB6 HX6 xl x0 x1 x2 x3 x4 x5 x6 x7 x8 x9 xf
  go_wp2_with fail
  refine (lit_agg 1 (-1) ⟨#[]⟩ _).mono ?_
  rintro e w8 ⟨rfl, hb8⟩
  have HB8 := Lib.hid (below_next HB7.out hb8)
  clear hb8
  go_wp2_with fail
  refine (HN.out _ (HE4.out.low HB8.out)).mono ?_
  rintro e w9 ⟨rfl, hb9⟩
  have HB9 := Lib.hid (below_next HBW.out (below_next HB8.out hb9))
  clear hb9
  go_wp2
  go_ret
  exact ⟨rfl, HB9.out⟩
end Go.Proofs.YtdlehlbahkikgaaDoor
/-
  SyntaxExprs returns true for every expression of at most 1500000000 storeys and every list of numbers: the walk.
-/
namespace Go.Proofs.YtdlehlbahkikgaaDoor
set_option maxRecDepth 100000
open Go.RowKit
variable {ls : List Nat}

set_option maxHeartbeats 8000000 in
theorem syntaxExprs_walk (w : World) (R : Ex) (D : Nat) (hD : D ≤ 1500000000) (hR : ExAt (fun _ => True) w D R) (p : Option Addr) (len cap : Nat) (hl : len ≤ cap) (hm : len ≤ 9223372036854775807) (hI : IntsAt w p len) (hE : Env ls w)
    (hn : 0 ∈ ls) (hlw : 3 ∈ ls) (hu : 2 ∈ ls) (ho : 1 ∈ ls) :
    Calls Tryd.prog 4 #[exV R, .slice p len cap] w fun e w' => e = .returned (.bool true) ∧ Below w.heap.size w w' := by
  have hgn := hE.size
  have hal := below_alloc w (.cells #[.int .i64 R.k, .int .i64 R.op, .bool R.no, .int .i64 R.vk, .int .i64 R.vi, .string R.vt, .string R.tb, .string R.nm, .slice R.pa R.args.length R.ca, .slice R.ps R.sub.length R.cs] 30)
  have HXR := Lib.hid (ExB.new w R 30)
  have HE := Lib.hid (hE.low hal)
  have HR := Lib.hid ((hR.weak (M := fun c => c < w.heap.size) fun c hc _ => hc).low hal)
  have HI := Lib.hid (hI.low hal)
  have HB0 := Lib.hid hal
  have HXL := Lib.hid (show w.heap.size < (w.alloc (.cells #[.int .i64 R.k, .int .i64 R.op, .bool R.no, .int .i64 R.vk, .int .i64 R.vi, .string R.vt, .string R.tb, .string R.nm, .slice R.pa R.args.length R.ca, .slice R.ps R.sub.length R.cs] 30)).heap.size by simp)
  clear hal hE hR hI
  unfold exV
  go_enter Tryd.func4, Tryd.ntmps4
  go_wp2_with fail
  generalize w.alloc _ = w0 at HXR HE HR HI HB0 HXL ⊢
  refine (new_any w0 p len cap hl hm HI.out).mono ?_
  rintro e w1 ⟨b, rfl, hbw, ht1, hb1⟩
  have HE1 := Lib.hid (HE.out.low hb1)
  have HB1 := Lib.hid (below_next HB0.out hb1)
  have HXR1 := Lib.hid (HXR.out.low hb1)
  have HR1 := Lib.hid (HR.out.low hb1)
  have hXL := HXL.out
  have hbl := ht1.lt
  clear hb1 HXR HE HR HI HB0
  go_wp2_with fail
  refine (anyExpr_any hn hlw 4 (by decide) b 4 w1 (by decide) (by decide) (by omega) ht1 HE1.out).mono ?_
  rintro e w2 ⟨E, rfl, hEA, hEV, ht2, hs2⟩
  have HEA := Lib.hid hEA
  have HEV := Lib.hid hEV
  have HS2 := Lib.hid hs2
  have HT2 := Lib.hid ht2
  have hal2 := below_alloc w2 (.cells #[.int .i64 E.k, .int .i64 E.op, .bool E.no, .int .i64 E.vk, .int .i64 E.vi, .string E.vt, .string E.tb, .string E.nm, .slice E.pa E.args.length E.ca, .slice E.ps E.sub.length E.cs] 30)
  have HXE := Lib.hid (ExB.new w2 E 30)
  have HS3 := Lib.hid (hs2.trans (StepT.of_below hal2))
  have HT3 := Lib.hid (ht2.below hal2)
  have HE3 := Lib.hid (hEA.low hal2)
  have hbl2 := ht2.lt
  have HYL := Lib.hid hbl2
  clear hEA hEV ht2 hs2 ht1 hal2 HEA HS2 HT2
  dsimp only [exV]
  go_upto_region 3 with (fail)
  generalize w2.alloc _ = w3 at HXE HS3 HT3 HE3 ⊢
  generalize w2.heap.size = Y at HXE HYL hbl2 ⊢
  clear HYL
  go_wp2_with fail
  go_loopw [7] (fun i v => ∃ k : Nat, k ≤ 4 ∧ i = .int .i64 k ∧ TapeAt v b ∧ StepT b w3 v) (fun i _ => 4 - (intOf i).toNat)
  case atStart => exact ⟨0, Nat.zero_le _, rfl, HT3.out, StepT.refl _ _⟩
  case round =>
    obtain ⟨k, hk, rfl, htv, hsv⟩ := hrel
    have HTV := Lib.hid htv
    have HSV := Lib.hid hsv
    clear htv hsv
    have HXV := Lib.hid (HXE.out.step HSV.out (by omega))
    have HEV3 := Lib.hid (HE3.out.step HSV.out (fun c hc => by omega))
    by_cases hlt : k < 4
    · have hlt' : decide ((k : Int) < 4) = true := decide_eq_true (by omega)
      obtain ⟨xl, x0, x1, x2, x3, x4, x5, x6, x7, x8, x9, xf⟩ := HXV.out
      go_wp2_with fail
      clear xl x0 x1 x2 x3 x4 x5 x6 x7 x8 x9 xf
      refine (spoiled11_any hlw 5 (by decide) (fun c => w1.heap.size < c) b E _ (by omega) HTV.out (HE1.out.step (HS3.out.trans HSV.out) (by omega)) (fun c hc => by omega) HEV3.out HEV.out).mono ?_
      rintro e v2 ⟨E2, rfl, hE2, ht2, hs2⟩
      have HS4 := Lib.hid (HSV.out.trans hs2)
      have HT4 := Lib.hid ht2
      have HA4 := Lib.hid (alike11_any (d := 6) (by decide) hu ho E2 v2 hE2 (HE1.out.step (HS3.out.trans (HSV.out.trans hs2)) (by omega)))
      clear hE2 ht2 hs2
      unfold exV at HA4
      dsimp only [exV]
      go_wp2_with fail
      refine HA4.out.mono ?_
      rintro e v3 ⟨rfl, hb3⟩
      have HS5 := Lib.hid (HS4.out.trans (StepT.of_below hb3))
      have HT5 := Lib.hid (HT4.out.below hb3)
      clear hb3
      go_wp2
      go_roundw
      case rel => exact ⟨k + 1, by omega, by go_num, HT5.out, HS5.out⟩
      case measure => simp [intOf]; omega
    · have hlt' : decide ((k : Int) < 4) = false := decide_eq_false (by omega)
      obtain rfl : k = 4 := by omega
      have HSA := Lib.hid (HS3.out.trans HSV.out)
      have HXW := Lib.hid (HXR1.out.step HSA.out (by omega))
      have HRW := Lib.hid (HR1.out.step HSA.out (fun c hc => by omega))
      have HEW := Lib.hid (HE1.out.step HSA.out (by omega))
      have HBW := Lib.hid (HB1.out.trans (HSA.out.below (by omega) HB1.out.size))
      have HA5 := Lib.hid (alike11_any (d := D) (by omega) hu ho R _ HRW.out HEW.out)
      have HA6 := Lib.hid (fun u (hb : Below wr.heap.size wr u) => alike11_any (d := 5) (by decide) hu ho E u (HEV3.out.low hb) (HEW.out.low hb))
      have HA7 := Lib.hid (fun u (hb : Below wr.heap.size wr u) => validExpr_any hu 5 _ E u (HEV3.out.low hb) (HEW.out.low hb))
      rw [HEV.out] at HA7
      unfold exV at HA5 HA6 HA7
      obtain ⟨xl, x0, x1, x2, x3, x4, x5, x6, x7, x8, x9, xf⟩ := HXW.out
      go_wp2_with fail
      clear xl x0 x1 x2 x3 x4 x5 x6 x7 x8 x9 xf
      refine HA5.out.mono ?_
      rintro e v2 ⟨rfl, hb2⟩
      have HC2 := Lib.hid hb2
      clear hb2
      have HXV2 := Lib.hid (HXV.out.low HC2.out)
      obtain ⟨xl, x0, x1, x2, x3, x4, x5, x6, x7, x8, x9, xf⟩ := HXV2.out
      go_wp2_with fail
      clear xl x0 x1 x2 x3 x4 x5 x6 x7 x8 x9 xf
      refine (HA6.out _ HC2.out).mono ?_
      rintro e v3 ⟨rfl, hb3⟩
      have HC3 := Lib.hid (below_next HC2.out hb3)
      clear hb3
      have HXV3 := Lib.hid (HXV.out.low HC3.out)
      obtain ⟨xl, x0, x1, x2, x3, x4, x5, x6, x7, x8, x9, xf⟩ := HXV3.out
      go_wp2_with fail
      clear xl x0 x1 x2 x3 x4 x5 x6 x7 x8 x9 xf
      refine (HA7.out _ HC3.out).mono ?_
      rintro e v4 ⟨rfl, hb4⟩
      have HC4 := Lib.hid (below_next HC3.out hb4)
      clear hb4
      go_wp2_with fail
      refine (known11_any _ (HEW.out.low HC4.out) hu ho).mono ?_
      rintro e v5 ⟨rfl, hb5⟩
      have HC5 := Lib.hid (below_next HC4.out hb5)
      clear hb5
      go_wp2
      go_ret
      exact ⟨rfl, HBW.out.trans (HC5.out.mono HBW.out.size)⟩
end Go.Proofs.YtdlehlbahkikgaaDoor
