/-
  Several texts in one.
-/
import Derived.Test.YtlpaphgmdcpmaaaGreatDoorPk27
import Derived.Test.YtlpaphgmdcpmaaaGreatDoorPk24
import Derived.Test.YtlpaphgmdcpmaaaGreatDoorPk18
/-
  Expr of the world's tape: a well-formed tree.
-/
namespace Go.Proofs.YtlpaphgmdcpmaaaGreatDoor
set_option maxRecDepth 100000
open Go.RowKit
variable {ls : List Nat}

theorem quB_mono {V W : Ex → Bool} (h : ∀ e, V e = true → W e = true) {k : Int} {q : Qu} (hq : quB V k q = true) : quB W k q = true := by
  unfold quB at hq ⊢
  simp only [Bool.and_eq_true, List.all_eq_true] at hq ⊢
  exact ⟨⟨hq.1.1, fun a ha => h a (hq.1.2 a ha)⟩, fun a ha => h a (hq.2 a ha)⟩
theorem vOf_mono {V W : Ex → Bool} (h : ∀ e, V e = true → W e = true) {e : Ex} (he : vOf V e = true) : vOf W e = true := by
  have hf := vOf_iff.1 he
  exact vOf_iff.2 ⟨hf.lo, hf.hi, hf.argn, hf.subn, hf.op5, hf.op0, hf.no6, hf.lit, hf.col, fun h1 h2 => ⟨(hf.rest h1 h2).1, fun a ha => h a ((hf.rest h1 h2).2.1 a ha), fun q hq => quB_mono h ((hf.rest h1 h2).2.2 q hq)⟩⟩
theorem vE_more : ∀ (d : Nat) (e : Ex), vE d e = true → vE (d + 1) e = true
  | 0, _, h => by cases h
  | d + 1, _, h => vOf_mono (vE_more d) h
theorem vE_upto {d D : Nat} {e : Ex} (hd : d ≤ D) (h : vE d e = true) : vE D e = true := by
  induction hd with
  | refl => exact h
  | step _ ih => exact vE_more _ _ ih
/-- The operators of a list in memory. -/
def OpsAt (u : World) (k : Nat) : Prop := ∀ m, m < 6 → ∃ o : Int, u.cell? ⟨k, m, none⟩ = some (.int .i64 o) ∧ 9 ≤ o ∧ o < 14
theorem OpsAt.step {b : Nat} {u v : World} {k : Nat} (h : OpsAt u k) (hs : StepT b u v) (hk : k < u.heap.size) (hb : k ≠ b) : OpsAt v k := fun m hm => by
  obtain ⟨o, hc, h1, h2⟩ := h m hm
  exact ⟨o, by rw [hs.cell (by exact hk) (by exact hb)]; exact hc, h1, h2⟩
theorem ops_new (u : World) (t : TypeId) : OpsAt (u.alloc (.cells #[.int .i64 9, .int .i64 10, .int .i64 11, .int .i64 9, .int .i64 12, .int .i64 13] t)) u.heap.size := by
  intro m hm
  obtain rfl | rfl | rfl | rfl | rfl | rfl : m = 0 ∨ m = 1 ∨ m = 2 ∨ m = 3 ∨ m = 4 ∨ m = 5 := by omega
  · exact ⟨9, by go_simp, by decide, by decide⟩
  · exact ⟨10, by go_simp, by decide, by decide⟩
  · exact ⟨11, by go_simp, by decide, by decide⟩
  · exact ⟨9, by go_simp, by decide, by decide⟩
  · exact ⟨12, by go_simp, by decide, by decide⟩
  · exact ⟨13, by go_simp, by decide, by decide⟩
theorem vE_up2 {N : Nat → Prop} {u : World} {E : Ex} {D : Nat} (_hA : ExAt N u 2 E) (hV : vE 2 E = true) (hD : 1 ≤ D) : vE (D + 1) E = true := vE_upto (by omega) hV
set_option maxHeartbeats 16000000 in
theorem exprW_step {D : Nat} (hD : 1 ≤ D) (hD6 : D ≤ 70) (H : 2 ≤ D → EwDoes ls D) (hlw : 3 ∈ ls) : EwDoes ls (D + 1) := by
  intro N b P want depth w hd hd2 hw1 hw3 hf h8 hP hN ht hE
  have hb4 : b ≠ 3 := Nat.ne_of_gt (Nat.lt_of_lt_of_le (show 3 < 13 by decide) h8)
  have HZ := Lib.hid (size_alloc w (.cells #[.slice P.pf P.fr.length P.cf, .slice P.pt P.tb.length P.ct] 37))
  have HW := Lib.hid (EwW.start (N := N) hP hN ht)
  have HE := Lib.hid hE
  have HEW := Lib.hid H
  have hlt := ht.lt
  clear hP hN hE ht H
  unfold plV
  go_enter Tryz.func7, Tryz.ntmps7
  go_upto_region 1 with (fail)
  generalize hw0 : w.alloc (.cells #[.slice P.pf P.fr.length P.cf, .slice P.pt P.tb.length P.ct] 37) = w0 at *
  clear hw0
  generalize hw1 : w0.alloc (.cells #[.int .i64 0, .int .i64 0, .bool false, .int .i64 0, .int .i64 0, .string ⟨#[]⟩, .string ⟨#[]⟩, .string ⟨#[]⟩, .slice none 0 0, .slice none 0 0] 27) = w1 at *
  clear hw1
  go_wp2_with fail
  refine (next_any b 6 _ (by decide) (by decide) HW.out.an.tape).mono ?_
  rintro e w2 ⟨r, rfl, hr0, hr1, ht2, hs2⟩
  have HW2 := Lib.hid (HW.out.next hs2 ht2)
  clear ht2 hs2 HW
  go_upto_region 2 with (fail)
  go_cut [19] from 14 to 19 (fun s19 wx => ∃ yes : Bool, s19 = .bool yes ∧ (yes = true → 4 ≤ r ∧ 0 < depth) ∧ (yes = false → r < 4 ∨ depth ≤ 0) ∧ w2 = wx)
  case first =>
    by_cases hr4 : 4 ≤ r
    · have e1 : decide (4 ≤ r) = true := decide_eq_true hr4
      have e1b : decide (r ≥ 4) = true := decide_eq_true hr4
      by_cases hdp : 0 < depth
      · have e2 : decide (0 < depth) = true := decide_eq_true hdp
        go_wp2_with fail
        go_meet
        exact ⟨true, rfl, fun _ => ⟨hr4, hdp⟩, fun h => (by cases h), rfl⟩
      · have hdp0 : depth ≤ 0 := by omega
        have e2 : decide (0 < depth) = false := decide_eq_false hdp
        have HD0 := Lib.hid hdp0
        clear hdp hdp0
        go_wp2_with fail
        go_meet
        exact ⟨false, rfl, fun h => (by cases h), fun _ => .inr HD0.out, rfl⟩
    · have e1 : decide (4 ≤ r) = false := decide_eq_false hr4
      have e1b : decide (r ≥ 4) = false := decide_eq_false hr4
      have HR4 := Lib.hid (show r < 4 by omega)
      clear hr4
      go_wp2_with fail
      go_meet
      exact ⟨false, rfl, fun h => (by cases h), fun _ => .inl HR4.out, rfl⟩
  case rest =>
  obtain ⟨yes, rfl, hy1, hy2, rfl⟩ := hcut
  have HY1 := Lib.hid hy1
  have HY2 := Lib.hid hy2
  clear hy1 hy2
  go_upto_if 19 with (fail)
  go_cut [9] from 20 to 21 (fun s9 wx => ∃ k : Int, s9 = .int .i64 k ∧ 0 ≤ k ∧ k ≤ 5 ∧ (0 < depth → k ≤ 3) ∧ EwW b w w0 P N wx)
  case first =>
    cases yes
    · go_wp2_with fail
      go_meet
      exact ⟨r, rfl, hr0, by omega, fun h => by have := HY2.out (by first | rfl | trivial); omega, HW2.out⟩
    · go_wp2_with fail
      refine (next_any b 4 _ (by decide) (by decide) HW2.out.an.tape).mono ?_
      rintro e' w3 ⟨r2, rfl, h0, h1, ht3, hs3⟩
      have HW3 := Lib.hid (HW2.out.next hs3 ht3)
      clear ht3 hs3
      go_wp2_with fail
      go_meet
      exact ⟨r2, rfl, h0, by omega, fun _ => by omega, HW3.out⟩
  case rest =>
    obtain ⟨k, rfl, hk0, hk5, hk3, hW⟩ := hcut
    have HW := Lib.hid hW
    clear hW HW2 hr0 hr1
    by_cases hleaf : depth ≤ 0 ∨ 3 ≤ k
    · have hle := hleaf
      have HNUL := Lib.hid (show vE (D + 1) (litEx 0 0 ⟨#[]⟩) = true from vOf_lit (IsVal.valid (Or.inl ⟨rfl, rfl, rfl⟩)) (by decide))
      have HCL := Lib.hid (tcolumn_any b P want wc HW.out.pl HW.out.an.tape HW.out.hN)
      unfold plV at HCL
      have e3 : (decide (depth ≤ 0) = true) ∨ (decide (depth ≤ 0) = false ∧ decide (3 ≤ k) = true ∧ decide (k ≥ 3) = true) := by
        by_cases h : depth ≤ 0
        · exact .inl (decide_eq_true h)
        · exact .inr ⟨decide_eq_false h, decide_eq_true (by omega), decide_eq_true (by omega)⟩
      obtain ⟨ql, q0, q1, qf⟩ := HW.out.pb
      go_upto_region 4 with (fail)
      go_cut [27] from 22 to 27 (fun s27 wx => s27 = .bool true ∧ wc = wx)
      case first =>
        rcases e3 with e3 | ⟨e3, e4, e5⟩
        all_goals
          go_wp2_with fail
          go_meet
          exact ⟨rfl, rfl⟩
      case rest =>
        obtain ⟨rfl, rfl⟩ := hcut
        go_wp2_with fail
        refine (HCL.out).mono ?_
        rintro e' w4 ⟨E0, ok, rfl, hC, ht4, hs4⟩
        have HW4 := Lib.hid (HW.out.next hs4 ht4)
        have HC := Lib.hid hC
        have hK := ExB.new w4 E0 27
        have HK := Lib.hid hK
        have HWK := Lib.hid (HW4.out.low (below_alloc w4 (.cells #[.int .i64 E0.k, .int .i64 E0.op, .bool E0.no, .int .i64 E0.vk, .int .i64 E0.vi, .string E0.vt, .string E0.tb, .string E0.nm, .slice E0.pa E0.args.length E0.ca, .slice E0.ps E0.sub.length E0.cs] 27)))
        have hKb : w4.heap.size ≠ b := by have := HW4.out.res.lt; have := HW4.out.lt; omega
        clear hC ht4 hs4 hK ql q0 q1 qf HCL
        dsimp only [exV]
        go_upto_region 6 with (fail)
        generalize w4.alloc (.cells #[.int .i64 E0.k, .int .i64 E0.op, .bool E0.no, .int .i64 E0.vk, .int .i64 E0.vi, .string E0.vt, .string E0.tb, .string E0.nm, .slice E0.pa E0.args.length E0.ca, .slice E0.ps E0.sub.length E0.cs] 27) = w4b at *
        generalize w4.heap.size = K at *
        go_cut [40] from 35 to 40 (fun s40 wx => ∃ yes : Bool, s40 = .bool yes ∧ (yes = true → ok = true) ∧ EwW b w w0 P N wx ∧ ExB wx K E0)
        case first =>
          cases ok
          · go_wp2_with fail
            go_meet
            exact ⟨false, rfl, (fun h => by cases h), HWK.out, HK.out⟩
          · go_wp2_with fail
            refine (tbool_any b 3 _ (by decide) (by decide) HWK.out.an.tape).mono ?_
            rintro e' w5 ⟨q5, rfl, ht5, hs5⟩
            have HW5 := Lib.hid (HWK.out.next hs5 ht5)
            have HK5 := Lib.hid (HK.out.step hs5 hKb)
            clear ht5 hs5
            go_wp2_with fail
            go_meet
            exact ⟨!q5, rfl, (fun _ => by first | rfl | trivial), HW5.out, HK5.out⟩
        case rest =>
          obtain ⟨yes, rfl, hyes, hW, hK⟩ := hcut
          have HW6 := Lib.hid hW
          have HK6 := Lib.hid hK
          clear hW hK HWK HK HW4
          cases yes
          · skip
            go_wp2_with fail
            refine (tbool_any b 8 _ (by decide) (by decide) HW6.out.an.tape).mono ?_
            rintro e' w5 ⟨q5, rfl, ht5, hs5⟩
            have HW5 := Lib.hid (HW6.out.next hs5 ht5)
            clear ht5 hs5
            cases q5
            · by_cases hw1 : want = 1
              · have hwB : (want == 1) = true := beq_iff_eq.2 hw1
                go_wp2_with fail
                refine (smallR_any b _ HW5.out.an.tape).mono ?_
                rintro e' w6 ⟨z, rfl, hz0, hz1, ht6, hs6⟩
                have HW6 := Lib.hid (HW5.out.next hs6 ht6)
                clear ht6 hs6
                go_wp2_with fail
                refine (numZ_any z (by omega) (by omega) _).mono ?_
                rintro e' w7 ⟨E, rfl, hEA, hEV, hb7⟩
                have hr6 := HW6.out.res.lt
                have HEA := Lib.hid ((hEA.weak (M := fun c => w.heap.size + 1 < c) fun c _ hc => by omega).upto (D := D + 1) (by omega))
                have HEV := Lib.hid (vE_up2 hEA hEV hD)
                have HW7 := Lib.hid (HW6.out.low hb7)
                clear hEA hEV hb7 HW6 hr6
                obtain ⟨xl, x0, x1, x2, x3, x4, x5, x6, x7, x8, x9, xf⟩ := HW7.out.res
                dsimp only [exV]
                go_wp2
                refine ret_tree (X := w.heap.size + 1) (E := E) (ten_box HW7.out.res E) (fun x0 x1 x2 x3 x4 x5 x6 x7 x8 x9 => by simp [results, Tryz.results7, go_sem, x0, x1, x2, x3, x4, x5, x6, x7, x8, x9, exV]) rfl ?_
                exact HW7.out.post (HEA.out) (HEV.out) (ten_but _ _ E) rfl
              · have hwB : (want == 1) = false := beq_eq_false_iff_ne.2 hw1
                go_wp2_with fail
                refine (typed_any b want _ hb4 HW5.out.an.tape ((HE.out.step HW5.out.all h8).words hlw)).mono ?_
                rintro e' w7 ⟨kv, nv, sv, rfl, hv, hk, ht7, hs7⟩
                have HW7 := Lib.hid (HW5.out.next hs7 ht7)
                have hkw := hk (by omega) (by omega)
                have HVL := Lib.hid (show vE (D + 1) (litEx kv nv sv) = true from vOf_lit hv.valid (by rcases hv with ⟨h, -⟩ | ⟨h, -⟩ | ⟨-, h, -⟩ | ⟨-, h, -⟩ <;> omega))
                have HVI := Lib.hid hv.i64
                have HVS := Lib.hid hv.size
                clear hv hk hkw ht7 hs7
                go_wp2_with fail
                refine (lit_agg kv nv sv _).mono ?_
                rintro e' w8 ⟨rfl, hb8⟩
                have HW8 := Lib.hid (HW7.out.low hb8)
                clear hb8 HW7
                obtain ⟨xl, x0, x1, x2, x3, x4, x5, x6, x7, x8, x9, xf⟩ := HW8.out.res
                go_wp2
                refine ret_tree (X := w.heap.size + 1) (E := (litEx kv nv sv)) (by have h := ten_box HW8.out.res ((litEx kv nv sv)); simp only [ten, litEx, Ex.mk_k, Ex.mk_op, Ex.mk_no, Ex.mk_vk, Ex.mk_vi, Ex.mk_vt, Ex.mk_tb, Ex.mk_nm, Ex.mk_pa, Ex.mk_ca, Ex.mk_args, Ex.mk_ps, Ex.mk_cs, Ex.mk_sub, List.length_nil] at h ⊢; exact h) (fun x0 x1 x2 x3 x4 x5 x6 x7 x8 x9 => by simp [results, Tryz.results7, go_sem, x0, x1, x2, x3, x4, x5, x6, x7, x8, x9, exV]) rfl ?_
                exact HW8.out.post (ExAt.leaf _ _ D 1 0 false kv nv (by have := HVS.out; omega) (by decide) (by decide) HVI.out) (HVL.out) (ten_but _ _ ((litEx kv nv sv))) rfl
            · skip
              go_wp2_with fail
              refine (lit_agg 0 0 ⟨#[]⟩ _).mono ?_
              rintro e' w8 ⟨rfl, hb8⟩
              have HW8 := Lib.hid (HW5.out.low hb8)
              clear hb8
              obtain ⟨xl, x0, x1, x2, x3, x4, x5, x6, x7, x8, x9, xf⟩ := HW8.out.res
              go_wp2
              refine ret_tree (X := w.heap.size + 1) (E := (litEx 0 0 ⟨#[]⟩)) (by have h := ten_box HW8.out.res ((litEx 0 0 ⟨#[]⟩)); simp only [ten, litEx, Ex.mk_k, Ex.mk_op, Ex.mk_no, Ex.mk_vk, Ex.mk_vi, Ex.mk_vt, Ex.mk_tb, Ex.mk_nm, Ex.mk_pa, Ex.mk_ca, Ex.mk_args, Ex.mk_ps, Ex.mk_cs, Ex.mk_sub, List.length_nil] at h ⊢; exact h) (fun x0 x1 x2 x3 x4 x5 x6 x7 x8 x9 => by simp [results, Tryz.results7, go_sem, x0, x1, x2, x3, x4, x5, x6, x7, x8, x9, exV]) rfl ?_
              exact HW8.out.post (ExAt.leaf _ _ D 1 0 false 0 0 (by decide) (by decide) (by decide)) (HNUL.out) (ten_but _ _ ((litEx 0 0 ⟨#[]⟩))) rfl
          · have HCC := Lib.hid (HC.out (hyes rfl))
            obtain ⟨yl, y0, y1, y2, y3, y4, y5, y6, y7, y8, y9, yf⟩ := HK6.out
            obtain ⟨xl, x0, x1, x2, x3, x4, x5, x6, x7, x8, x9, xf⟩ := HW6.out.res
            go_wp2
            refine ret_tree (X := w.heap.size + 1) (E := E0) (ten_box HW6.out.res E0) (fun x0 x1 x2 x3 x4 x5 x6 x7 x8 x9 => by simp [results, Tryz.results7, go_sem, x0, x1, x2, x3, x4, x5, x6, x7, x8, x9, exV]) rfl ?_
            exact HW6.out.post ((HCC.out.at' _ _ D)) (HCC.out.good D) (ten_but _ _ E0) rfl
    · have hdp : 0 < depth := by omega
      have hk2 : k ≤ 2 := by omega
      have e1 : decide (depth ≤ 0) = false := decide_eq_false (by omega)
      have e2 : decide (3 ≤ k) = false := decide_eq_false (by omega)
      have e3 : decide (k ≥ 3) = false := decide_eq_false (by omega)
      have HH := Lib.hid (HEW.out (by omega))
      have HQY := Lib.hid (query_step HH.out)
      have HCY := Lib.hid (condition_step HH.out)
      clear HEW hleaf hk3
      have HDW := Lib.hid (show IntKind.i64.wrap (depth - 1) = depth - 1 from i64w (by omega) (by omega))
      have hbX : b < w.heap.size + 1 := by omega
      have HEW := HH
      rcases (show want = 1 ∨ want = 2 ∨ want = 3 by omega) with rfl | rfl | rfl
      · by_cases hq : k = 0 ∧ 0 < P.tb.length
        · obtain ⟨rfl, hnt⟩ := hq
          have hntI : (0 : Int) < P.tb.length := by omega
          have e4 : decide ((0 : Int) < P.tb.length) = true := decide_eq_true hntI
          obtain ⟨ql, q0, q1, qf⟩ := HW.out.pb
          go_upto_region 14 with (fail)
          clear ql q0 q1 qf
          have HBL := Lib.hid (show b ≤ wc.drew.heap.size by have := HW.out.all.size; show b ≤ wc.heap.size; omega)
          refine wp_region_rel (use := [[], [], [], [2], [3], [], [0, 1, 4, 5], [6]]) (sl := [[67], [68], [69], [70], [71], [72], [73], []]) (live := [[], [], [], [], [], [], [], []]) (late := [7]) (brk := [7]) (B := b) (R := RT b) (J := EwW b w w0 P N) (Φ := fun ix f u => match ix with | 0 => f 67 = .pointer (some ⟨b, 0, none⟩) | 1 => f 68 = .agg #[.slice P.pf P.fr.length P.cf, .slice P.pt P.tb.length P.ct] | 2 => f 69 = .pointer (some ⟨b, 0, none⟩) | 3 => ∃ m : Nat, f 70 = .int .i64 m ∧ m < 4 | 4 => ∃ m : Int, f 71 = .int .i64 m ∧ 9 ≤ m ∧ m < 13 | 5 => f 72 = .int .i64 depth | 6 => Tv (w.heap.size + 1) (D + 1) (f 73) u | 7 => Dn b (D + 1) w u | _ => True) (by kernel_rfl) _ rfl (by kernel_rfl) (by kernel_rfl) (fun u v h => ⟨(rt_low (W := wc.drew) h).1, fun h1 h2 => (rt_low h).2 h1 h2 HBL.out⟩) (HW.out.rt ⟨⟨rfl, rfl, rfl, Nat.le_refl _, fun _ _ _ => rfl⟩, fun h => h⟩) (fun u v h hr => h.rt hr) ?_ ?_ ?_ ?_
          · intro jx f g u u2 hs hb h
            match jx, hs, h with
            | 0, hs, h =>
              have e67 := hs 67 (by decide)
              simp only [e67]
              exact h
            | 1, hs, h =>
              have e68 := hs 68 (by decide)
              simp only [e68]
              exact h
            | 2, hs, h =>
              have e69 := hs 69 (by decide)
              simp only [e69]
              exact h
            | 3, hs, h =>
              have e70 := hs 70 (by decide)
              simp only [e70]
              exact h
            | 4, hs, h =>
              have e71 := hs 71 (by decide)
              simp only [e71]
              exact h
            | 5, hs, h =>
              have e72 := hs 72 (by decide)
              simp only [e72]
              exact h
            | 6, hs, h =>
              have e73 := hs 73 (by decide)
              simp only [e73]
              exact h.rt hb hbX
            | 7, hs, h =>
              exact h.rt hb hbX
            | _ + 8, _, h => exact h
          · intro ix o hix hne f u hold hbe hgr hJ huse
            obtain ⟨kt, kc, kf⟩ := evF_all f
            match ix, hix, hne with
            | 0, hix, _ =>
              simp only [List.getElem?_cons_zero, Option.some.injEq] at hix
              subst hix
              have h0 : f 0 = .pointer (some ⟨b, 0, none⟩) := (hold 0 (by kernel_rfl)).trans rfl
              clear hold
              refine gives_K fun K hK => ?_
              go_simp
              refine gives_value (hK _ _ ⟨RT.refl _ _, ?_⟩)
              exact upF_self _ _ _
            | 1, hix, _ =>
              simp only [List.getElem?_cons_zero, List.getElem?_cons_succ, Option.some.injEq] at hix
              subst hix
              obtain ⟨ql, q0, q1, qf⟩ := (hJ (by kernel_rfl)).pb
              have h5 : f 5 = .pointer (some ⟨w.heap.size, 0, none⟩) := (hold 5 (by kernel_rfl)).trans rfl
              clear hold
              refine gives_K fun K hK => ?_
              go_simp
              refine gives_value (hK _ _ ⟨RT.refl _ _, ?_⟩)
              exact upF_self _ _ _
            | 2, hix, _ =>
              simp only [List.getElem?_cons_zero, List.getElem?_cons_succ, Option.some.injEq] at hix
              subst hix
              have h0 : f 0 = .pointer (some ⟨b, 0, none⟩) := (hold 0 (by kernel_rfl)).trans rfl
              clear hold
              refine gives_K fun K hK => ?_
              go_simp
              refine gives_value (hK _ _ ⟨RT.refl _ _, ?_⟩)
              exact upF_self _ _ _
            | 3, hix, _ =>
              simp only [List.getElem?_cons_zero, List.getElem?_cons_succ, Option.some.injEq] at hix
              subst hix
              have u2 := huse 2 (by decide)
              simp only at u2
              have hJw := hJ (by kernel_rfl)
              refine gives_K fun K hK => ?_
              go_simp
              refine gives_enter ((next_any b 4 u (by decide) (by decide) hJw.an.tape).mono ?_)
              rintro e' w3 ⟨r, rfl, h0, h1, ht3, hs3⟩
              exact ⟨_, rfl, hK _ _ ⟨⟨hs3, fun _ => ht3⟩, r.toNat, by rw [upF_self, Int.toNat_of_nonneg h0], by omega⟩⟩
            | 4, hix, _ =>
              simp only [List.getElem?_cons_zero, List.getElem?_cons_succ, Option.some.injEq] at hix
              subst hix
              have u3 := huse 3 (by decide)
              simp only at u3
              obtain ⟨m, hm, hml⟩ := u3
              have hw : IntKind.i64.wrap (9 + (m : Int)) = 9 + (m : Int) := i64w (by omega) (by omega)
              refine gives_K fun K hK => ?_
              go_simp
              refine gives_value (hK _ _ ⟨RT.refl _ _, _, upF_self _ _ _, ?_, ?_⟩)
              · omega
              · omega
            | 5, hix, _ =>
              simp only [List.getElem?_cons_zero, List.getElem?_cons_succ, Option.some.injEq] at hix
              subst hix
              have h3 : f 3 = .int .i64 depth := (hold 3 (by kernel_rfl)).trans rfl
              clear hold
              refine gives_K fun K hK => ?_
              go_simp
              refine gives_value (hK _ _ ⟨RT.refl _ _, ?_⟩)
              exact upF_self _ _ _
            | 6, hix, _ =>
              simp only [List.getElem?_cons_zero, List.getElem?_cons_succ, Option.some.injEq] at hix
              subst hix
              have u0 := huse 0 (by decide)
              have u1 := huse 1 (by decide)
              have u4 := huse 4 (by decide)
              have u5 := huse 5 (by decide)
              simp only at u0 u1 u4 u5
              have hJw := hJ (by kernel_rfl)
              have hr0 := hJw.res.lt
              obtain ⟨m, hm, hm1, hm2⟩ := u4
              have HC := HQY.out N b P m depth u (by omega) (by omega) (by omega) (by omega) (by omega) hnt h8 hJw.pl hJw.hN hJw.an.tape (HE.out.step hJw.all h8)
              unfold plV at HC
              refine gives_K fun K hK => ?_
              go_simp
              refine gives_enter (HC.mono ?_)
              rintro e' w3 ⟨E1, rfl, hE5, hV5, ht5, hs5⟩
              exact ⟨_, rfl, hK _ _ ⟨⟨hs5, fun _ => ht5⟩, by rw [upF_self]; exact ⟨E1, rfl, hE5.weak fun c _ hc => by omega, hV5⟩⟩⟩
            | 7, _, hne => exact absurd (by decide) hne
            | ix + 8, hix, _ => simp at hix
          · intro ix o hix hin f u hold hbe hgr hJ huse
            obtain ⟨kt, kc, kf⟩ := evF_all f
            match ix, hix, hin with
            | 0, _, hin => exact absurd hin (by decide)
            | 1, _, hin => exact absurd hin (by decide)
            | 2, _, hin => exact absurd hin (by decide)
            | 3, _, hin => exact absurd hin (by decide)
            | 4, _, hin => exact absurd hin (by decide)
            | 5, _, hin => exact absurd hin (by decide)
            | 6, _, hin => exact absurd hin (by decide)
            | 7, hix, _ =>
              simp only [List.getElem?_cons_zero, List.getElem?_cons_succ, Option.some.injEq] at hix
              subst hix
              have u6 := huse 6 (by decide)
              simp only at u6
              have hJw := hJ (by kernel_rfl)
              obtain ⟨E, hE, hE1, hE2⟩ := u6
              have HDN := Lib.hid (hJw.dn hE1 hE2)
              unfold exV at hE
              obtain ⟨xl, x0, x1, x2, x3, x4, x5, x6, x7, x8, x9, xf⟩ := hJw.res
              have h8 : f 8 = .pointer (some ⟨(w.heap.size + 1), 0, none⟩) := (hold 8 (by kernel_rfl)).trans rfl
              clear hold
              have hlb := hJw.lt
              have hz0 := hJw.sz
              clear hE1 hE2 hJw
              refine gives_K fun K hK => ?_
              go_simp
              refine gives_skip (hK _ _ ⟨Nat.le_of_eq (ten_but u (w.heap.size + 1) E).size.symm, below_but hbe (ten_but u (w.heap.size + 1) E) (by omega), HDN.out, fun hbk => absurd (by decide) hbk, ?_⟩)
              intro jx hji hl hr hs h
              match jx, hji, hl, hr, hs, h with
              | 0, _, hl, _, _, _ => exact absurd hl (by decide)
              | 1, _, hl, _, _, _ => exact absurd hl (by decide)
              | 2, _, hl, _, _, _ => exact absurd hl (by decide)
              | 3, _, hl, _, _, _ => exact absurd hl (by decide)
              | 4, _, hl, _, _, _ => exact absurd hl (by decide)
              | 5, _, hl, _, _, _ => exact absurd hl (by decide)
              | 6, _, hl, _, _, _ => exact absurd hl (by decide)
              | 7, hji, _, _, _, _ => exact absurd rfl hji
              | jx + 8, _, hl, _, _, _ => exact absurd hl (by simp)
            | ix + 8, hix, _ => simp at hix
          · intro f2 u2 hbe hall
            have u7 := hall 7 (by decide) (by kernel_rfl)
            simp only at u7
            clear hall
            simp only [putAll, List.foldl_cons, List.foldl_nil, Act.put, List.setIfInBounds_toArray, List.set_cons_succ, List.set_cons_zero]
            obtain ⟨E, hBX, hPO⟩ := Dn.post u7
            have HPO := Lib.hid hPO
            have HBX := Lib.hid hBX
            clear hBX hPO u7
            obtain ⟨xl, x0, x1, x2, x3, x4, x5, x6, x7, x8, x9, xf⟩ := HBX.out
            go_wp2
            refine ret_tree (X := (w.heap.size + 1)) (E := E) HBX.out (fun x0 x1 x2 x3 x4 x5 x6 x7 x8 x9 => by simp [results, Tryz.results7, go_sem, x0, x1, x2, x3, x4, x5, x6, x7, x8, x9, exV]) rfl HPO.out
        · have hq2 : (k == 0) = false ∨ ((k == 0) = true ∧ decide ((0 : Int) < P.tb.length) = false ∧ ¬ (0 : Int) < P.tb.length) := by
            by_cases h : k = 0
            · exact .inr ⟨beq_iff_eq.2 h, decide_eq_false (by omega), by omega⟩
            · exact .inl (beq_eq_false_iff_ne.2 h)
          obtain ⟨ql, q0, q1, qf⟩ := HW.out.pb
          skip
          clear hq
          rcases hq2 with e4 | ⟨e4, e5, e6⟩
          all_goals
            go_wp2_with fail
            clear ql q0 q1 qf
            refine (tbool_any b 6 _ (by decide) (by decide) HW.out.an.tape).mono ?_
            rintro e' w3 ⟨q3, rfl, ht3, hs3⟩
            have HW3 := Lib.hid (HW.out.next hs3 ht3)
            clear ht3 hs3 HW
            have HW := HW3
            clear HW3
            cases q3
            · have HBL := Lib.hid (show b ≤ w3.drew.heap.size by have := HW.out.all.size; show b ≤ w3.heap.size; omega)
              go_upto_region 21 with (fail)
              refine wp_region_rel (use := [[], [], [1], [0, 2], [3], [], [], [], [], [8], [5, 6, 7, 9], [], [], [], [], [14], [11, 12, 13, 15], [4, 10, 16], [17]]) (sl := [[107], [108], [109], [110], [111], [112], [113], [114], [115], [116], [117], [118], [119], [120], [121], [122], [123], [124], []]) (live := [[], [], [], [], [], [], [], [], [], [], [], [], [], [], [], [], [], [], []]) (late := [18]) (brk := [18]) (B := b) (R := RT b) (J := EwW b w w0 P N) (Φ := fun ix f u => match ix with | 0 => ∃ k : Nat, f 107 = .slice (some ⟨k, 0, none⟩) 6 6 ∧ k < u.heap.size ∧ k ≠ b ∧ OpsAt u k | 1 => f 108 = .pointer (some ⟨b, 0, none⟩) | 2 => ∃ m : Nat, f 109 = .int .i64 m ∧ m < 6 | 3 => ∃ (k m : Nat), f 110 = .pointer (some ⟨k, m, none⟩) ∧ m < 6 ∧ k < u.heap.size ∧ k ≠ b ∧ OpsAt u k | 4 => ∃ m : Int, f 111 = .int .i64 m ∧ 9 ≤ m ∧ m < 14 | 5 => f 112 = .pointer (some ⟨b, 0, none⟩) | 6 => f 113 = .agg #[.slice P.pf P.fr.length P.cf, .slice P.pt P.tb.length P.ct] | 7 => f 114 = .int .i64 1 | 8 => f 115 = .int .i64 depth | 9 => f 116 = .int .i64 (depth - 1) | 10 => Tv (w.heap.size + 1) D (f 117) u | 11 => f 118 = .pointer (some ⟨b, 0, none⟩) | 12 => f 119 = .agg #[.slice P.pf P.fr.length P.cf, .slice P.pt P.tb.length P.ct] | 13 => f 120 = .int .i64 1 | 14 => f 121 = .int .i64 depth | 15 => f 122 = .int .i64 (depth - 1) | 16 => Tv (w.heap.size + 1) D (f 123) u | 17 => Tv (w.heap.size + 1) (D + 1) (f 124) u | 18 => Dn b (D + 1) w u | _ => True) (by kernel_rfl) _ rfl (by kernel_rfl) (by kernel_rfl) (fun u v h => ⟨(rt_low (W := w3.drew) h).1, fun h1 h2 => (rt_low h).2 h1 h2 HBL.out⟩) (HW.out.rt ⟨⟨rfl, rfl, rfl, Nat.le_refl _, fun _ _ _ => rfl⟩, fun h => h⟩) (fun u v h hr => h.rt hr) ?_ ?_ ?_ ?_
              · intro jx f g u u2 hs hb h
                match jx, hs, h with
                | 0, hs, h =>
                  have e107 := hs 107 (by decide)
                  simp only [e107]
                  exact (by obtain ⟨k, h1, h2, h3, h4⟩ := h; exact ⟨k, h1, Nat.lt_of_lt_of_le h2 hb.step.size, h3, h4.step hb.step h2 h3⟩)
                | 1, hs, h =>
                  have e108 := hs 108 (by decide)
                  simp only [e108]
                  exact h
                | 2, hs, h =>
                  have e109 := hs 109 (by decide)
                  simp only [e109]
                  exact h
                | 3, hs, h =>
                  have e110 := hs 110 (by decide)
                  simp only [e110]
                  exact (by obtain ⟨k, m, h1, h0, h2, h3, h4⟩ := h; exact ⟨k, m, h1, h0, Nat.lt_of_lt_of_le h2 hb.step.size, h3, h4.step hb.step h2 h3⟩)
                | 4, hs, h =>
                  have e111 := hs 111 (by decide)
                  simp only [e111]
                  exact h
                | 5, hs, h =>
                  have e112 := hs 112 (by decide)
                  simp only [e112]
                  exact h
                | 6, hs, h =>
                  have e113 := hs 113 (by decide)
                  simp only [e113]
                  exact h
                | 7, hs, h =>
                  have e114 := hs 114 (by decide)
                  simp only [e114]
                  exact h
                | 8, hs, h =>
                  have e115 := hs 115 (by decide)
                  simp only [e115]
                  exact h
                | 9, hs, h =>
                  have e116 := hs 116 (by decide)
                  simp only [e116]
                  exact h
                | 10, hs, h =>
                  have e117 := hs 117 (by decide)
                  simp only [e117]
                  exact h.rt hb hbX
                | 11, hs, h =>
                  have e118 := hs 118 (by decide)
                  simp only [e118]
                  exact h
                | 12, hs, h =>
                  have e119 := hs 119 (by decide)
                  simp only [e119]
                  exact h
                | 13, hs, h =>
                  have e120 := hs 120 (by decide)
                  simp only [e120]
                  exact h
                | 14, hs, h =>
                  have e121 := hs 121 (by decide)
                  simp only [e121]
                  exact h
                | 15, hs, h =>
                  have e122 := hs 122 (by decide)
                  simp only [e122]
                  exact h
                | 16, hs, h =>
                  have e123 := hs 123 (by decide)
                  simp only [e123]
                  exact h.rt hb hbX
                | 17, hs, h =>
                  have e124 := hs 124 (by decide)
                  simp only [e124]
                  exact h.rt hb hbX
                | 18, hs, h =>
                  exact h.rt hb hbX
                | _ + 19, _, h => exact h
              · intro ix o hix hne f u hold hbe hgr hJ huse
                obtain ⟨kt, kc, kf⟩ := evF_all f
                match ix, hix, hne with
                | 0, hix, _ =>
                  simp only [List.getElem?_cons_zero, Option.some.injEq] at hix
                  subst hix
                  have hJw := hJ (by kernel_rfl)
                  have hr0 := hJw.res.lt
                  refine gives_K fun K hK => ?_
                  go_simp
                  exact gives_value (hK _ _ ⟨RT.low (below_alloc _ _), u.heap.size, by rw [upF_self], by simp, by omega, ops_new u _⟩)
                | 1, hix, _ =>
                  simp only [List.getElem?_cons_zero, List.getElem?_cons_succ, Option.some.injEq] at hix
                  subst hix
                  have h0 : f 0 = .pointer (some ⟨b, 0, none⟩) := (hold 0 (by kernel_rfl)).trans rfl
                  clear hold
                  refine gives_K fun K hK => ?_
                  go_simp
                  refine gives_value (hK _ _ ⟨RT.refl _ _, ?_⟩)
                  exact upF_self _ _ _
                | 2, hix, _ =>
                  simp only [List.getElem?_cons_zero, List.getElem?_cons_succ, Option.some.injEq] at hix
                  subst hix
                  have u1 := huse 1 (by decide)
                  simp only at u1
                  have hJw := hJ (by kernel_rfl)
                  refine gives_K fun K hK => ?_
                  go_simp
                  refine gives_enter ((next_any b 6 u (by decide) (by decide) hJw.an.tape).mono ?_)
                  rintro e' w3 ⟨r, rfl, h0, h1, ht3, hs3⟩
                  exact ⟨_, rfl, hK _ _ ⟨⟨hs3, fun _ => ht3⟩, r.toNat, by rw [upF_self, Int.toNat_of_nonneg h0], by omega⟩⟩
                | 3, hix, _ =>
                  simp only [List.getElem?_cons_zero, List.getElem?_cons_succ, Option.some.injEq] at hix
                  subst hix
                  have u0 := huse 0 (by decide)
                  have u2 := huse 2 (by decide)
                  simp only at u0 u2
                  obtain ⟨k, h107, hk1, hk2, hO⟩ := u0
                  obtain ⟨m, h109, hm⟩ := u2
                  have hmI : (m : Int) < 6 := by omega
                  refine gives_K fun K hK => ?_
                  go_simp
                  exact gives_value (hK _ _ ⟨RT.refl _ _, k, m, by rw [upF_self], hm, hk1, hk2, hO⟩)
                | 4, hix, _ =>
                  simp only [List.getElem?_cons_zero, List.getElem?_cons_succ, Option.some.injEq] at hix
                  subst hix
                  have u3 := huse 3 (by decide)
                  simp only at u3
                  obtain ⟨k, m, h110, hm, -, -, hO⟩ := u3
                  obtain ⟨o, hc, ho1, ho2⟩ := hO m hm
                  refine gives_K fun K hK => ?_
                  go_simp
                  exact gives_value (hK _ _ ⟨RT.refl _ _, o, upF_self _ _ _, ho1, ho2⟩)
                | 5, hix, _ =>
                  simp only [List.getElem?_cons_zero, List.getElem?_cons_succ, Option.some.injEq] at hix
                  subst hix
                  have h0 : f 0 = .pointer (some ⟨b, 0, none⟩) := (hold 0 (by kernel_rfl)).trans rfl
                  clear hold
                  refine gives_K fun K hK => ?_
                  go_simp
                  refine gives_value (hK _ _ ⟨RT.refl _ _, ?_⟩)
                  exact upF_self _ _ _
                | 6, hix, _ =>
                  simp only [List.getElem?_cons_zero, List.getElem?_cons_succ, Option.some.injEq] at hix
                  subst hix
                  obtain ⟨ql, q0, q1, qf⟩ := (hJ (by kernel_rfl)).pb
                  have h5 : f 5 = .pointer (some ⟨w.heap.size, 0, none⟩) := (hold 5 (by kernel_rfl)).trans rfl
                  clear hold
                  refine gives_K fun K hK => ?_
                  go_simp
                  refine gives_value (hK _ _ ⟨RT.refl _ _, ?_⟩)
                  exact upF_self _ _ _
                | 7, hix, _ =>
                  simp only [List.getElem?_cons_zero, List.getElem?_cons_succ, Option.some.injEq] at hix
                  subst hix
                  have h2 : f 2 = .int .i64 1 := (hold 2 (by kernel_rfl)).trans rfl
                  clear hold
                  refine gives_K fun K hK => ?_
                  go_simp
                  refine gives_value (hK _ _ ⟨RT.refl _ _, ?_⟩)
                  exact upF_self _ _ _
                | 8, hix, _ =>
                  simp only [List.getElem?_cons_zero, List.getElem?_cons_succ, Option.some.injEq] at hix
                  subst hix
                  have h3 : f 3 = .int .i64 depth := (hold 3 (by kernel_rfl)).trans rfl
                  clear hold
                  refine gives_K fun K hK => ?_
                  go_simp
                  refine gives_value (hK _ _ ⟨RT.refl _ _, ?_⟩)
                  exact upF_self _ _ _
                | 9, hix, _ =>
                  simp only [List.getElem?_cons_zero, List.getElem?_cons_succ, Option.some.injEq] at hix
                  subst hix
                  have u8 := huse 8 (by decide)
                  simp only at u8
                  have hdw := HDW.out
                  refine gives_K fun K hK => ?_
                  go_simp
                  refine gives_value (hK _ _ ⟨RT.refl _ _, ?_⟩)
                  exact upF_self _ _ _
                | 10, hix, _ =>
                  simp only [List.getElem?_cons_zero, List.getElem?_cons_succ, Option.some.injEq] at hix
                  subst hix
                  have u5 := huse 5 (by decide)
                  have u6 := huse 6 (by decide)
                  have u7 := huse 7 (by decide)
                  have u9 := huse 9 (by decide)
                  simp only at u5 u6 u7 u9
                  have hJw := hJ (by kernel_rfl)
                  have hr0 := hJw.res.lt
                  have HC := HEW.out N b P 1 (depth - 1) u (by omega) (by omega) (by omega) (by omega) (by omega) h8 hJw.pl hJw.hN hJw.an.tape (HE.out.step hJw.all h8)
                  unfold plV at HC
                  refine gives_K fun K hK => ?_
                  go_simp
                  refine gives_enter (HC.mono ?_)
                  rintro e' w3 ⟨E1, rfl, hE5, hV5, ht5, hs5⟩
                  exact ⟨_, rfl, hK _ _ ⟨⟨hs5, fun _ => ht5⟩, by rw [upF_self]; exact ⟨E1, rfl, hE5.weak fun c _ hc => by omega, hV5⟩⟩⟩
                | 11, hix, _ =>
                  simp only [List.getElem?_cons_zero, List.getElem?_cons_succ, Option.some.injEq] at hix
                  subst hix
                  have h0 : f 0 = .pointer (some ⟨b, 0, none⟩) := (hold 0 (by kernel_rfl)).trans rfl
                  clear hold
                  refine gives_K fun K hK => ?_
                  go_simp
                  refine gives_value (hK _ _ ⟨RT.refl _ _, ?_⟩)
                  exact upF_self _ _ _
                | 12, hix, _ =>
                  simp only [List.getElem?_cons_zero, List.getElem?_cons_succ, Option.some.injEq] at hix
                  subst hix
                  obtain ⟨ql, q0, q1, qf⟩ := (hJ (by kernel_rfl)).pb
                  have h5 : f 5 = .pointer (some ⟨w.heap.size, 0, none⟩) := (hold 5 (by kernel_rfl)).trans rfl
                  clear hold
                  refine gives_K fun K hK => ?_
                  go_simp
                  refine gives_value (hK _ _ ⟨RT.refl _ _, ?_⟩)
                  exact upF_self _ _ _
                | 13, hix, _ =>
                  simp only [List.getElem?_cons_zero, List.getElem?_cons_succ, Option.some.injEq] at hix
                  subst hix
                  have h2 : f 2 = .int .i64 1 := (hold 2 (by kernel_rfl)).trans rfl
                  clear hold
                  refine gives_K fun K hK => ?_
                  go_simp
                  refine gives_value (hK _ _ ⟨RT.refl _ _, ?_⟩)
                  exact upF_self _ _ _
                | 14, hix, _ =>
                  simp only [List.getElem?_cons_zero, List.getElem?_cons_succ, Option.some.injEq] at hix
                  subst hix
                  have h3 : f 3 = .int .i64 depth := (hold 3 (by kernel_rfl)).trans rfl
                  clear hold
                  refine gives_K fun K hK => ?_
                  go_simp
                  refine gives_value (hK _ _ ⟨RT.refl _ _, ?_⟩)
                  exact upF_self _ _ _
                | 15, hix, _ =>
                  simp only [List.getElem?_cons_zero, List.getElem?_cons_succ, Option.some.injEq] at hix
                  subst hix
                  have u14 := huse 14 (by decide)
                  simp only at u14
                  have hdw := HDW.out
                  refine gives_K fun K hK => ?_
                  go_simp
                  refine gives_value (hK _ _ ⟨RT.refl _ _, ?_⟩)
                  exact upF_self _ _ _
                | 16, hix, _ =>
                  simp only [List.getElem?_cons_zero, List.getElem?_cons_succ, Option.some.injEq] at hix
                  subst hix
                  have u11 := huse 11 (by decide)
                  have u12 := huse 12 (by decide)
                  have u13 := huse 13 (by decide)
                  have u15 := huse 15 (by decide)
                  simp only at u11 u12 u13 u15
                  have hJw := hJ (by kernel_rfl)
                  have hr0 := hJw.res.lt
                  have HC := HEW.out N b P 1 (depth - 1) u (by omega) (by omega) (by omega) (by omega) (by omega) h8 hJw.pl hJw.hN hJw.an.tape (HE.out.step hJw.all h8)
                  unfold plV at HC
                  refine gives_K fun K hK => ?_
                  go_simp
                  refine gives_enter (HC.mono ?_)
                  rintro e' w3 ⟨E1, rfl, hE5, hV5, ht5, hs5⟩
                  exact ⟨_, rfl, hK _ _ ⟨⟨hs5, fun _ => ht5⟩, by rw [upF_self]; exact ⟨E1, rfl, hE5.weak fun c _ hc => by omega, hV5⟩⟩⟩
                | 17, hix, _ =>
                  simp only [List.getElem?_cons_zero, List.getElem?_cons_succ, Option.some.injEq] at hix
                  subst hix
                  have u4 := huse 4 (by decide)
                  have u10 := huse 10 (by decide)
                  have u16 := huse 16 (by decide)
                  simp only at u4 u10 u16
                  have hJw := hJ (by kernel_rfl)
                  have hr0 := hJw.res.lt
                  obtain ⟨m, hm, hm1, hm2⟩ := u4
                  obtain ⟨E, hE, hE1, hE2⟩ := u10
                  obtain ⟨F, hF, hF1, hF2⟩ := u16
                  have HC := bin_any m E F u
                  unfold exV at HC hE hF
                  refine gives_K fun K hK => ?_
                  go_simp
                  refine gives_enter (HC.mono ?_)
                  rintro e' w3 ⟨g, rfl, hg, hgl, hA, hB, hb3⟩
                  have hl : LAt (fun c => (w.heap.size + 1) < c) w3 (ExAt (fun c => (w.heap.size + 1) < c) w3 D) (some ⟨g, 0, none⟩) [E, F] := two_at hgl (by omega) hA hB (hE1.low hb3) (hF1.low hb3)
                  exact ⟨_, rfl, hK _ _ ⟨RT.low hb3, argEx 5 m false (some ⟨g, 0, none⟩) 2 [E, F], by rw [upF_self]; rfl, args_at (l := [E, F]) (show 2 ≤ 3 by decide) hl, vOf_args (by decide) (by decide) rfl (fun _ => by omega) (fun h => absurd rfl h) (fun _ => rfl) (ex_all_two hE2 hF2)⟩⟩
                | 18, _, hne => exact absurd (by decide) hne
                | ix + 19, hix, _ => simp at hix
              · intro ix o hix hin f u hold hbe hgr hJ huse
                obtain ⟨kt, kc, kf⟩ := evF_all f
                match ix, hix, hin with
                | 0, _, hin => exact absurd hin (by decide)
                | 1, _, hin => exact absurd hin (by decide)
                | 2, _, hin => exact absurd hin (by decide)
                | 3, _, hin => exact absurd hin (by decide)
                | 4, _, hin => exact absurd hin (by decide)
                | 5, _, hin => exact absurd hin (by decide)
                | 6, _, hin => exact absurd hin (by decide)
                | 7, _, hin => exact absurd hin (by decide)
                | 8, _, hin => exact absurd hin (by decide)
                | 9, _, hin => exact absurd hin (by decide)
                | 10, _, hin => exact absurd hin (by decide)
                | 11, _, hin => exact absurd hin (by decide)
                | 12, _, hin => exact absurd hin (by decide)
                | 13, _, hin => exact absurd hin (by decide)
                | 14, _, hin => exact absurd hin (by decide)
                | 15, _, hin => exact absurd hin (by decide)
                | 16, _, hin => exact absurd hin (by decide)
                | 17, _, hin => exact absurd hin (by decide)
                | 18, hix, _ =>
                  simp only [List.getElem?_cons_zero, List.getElem?_cons_succ, Option.some.injEq] at hix
                  subst hix
                  have u17 := huse 17 (by decide)
                  simp only at u17
                  have hJw := hJ (by kernel_rfl)
                  obtain ⟨E, hE, hE1, hE2⟩ := u17
                  have HDN := Lib.hid (hJw.dn hE1 hE2)
                  unfold exV at hE
                  obtain ⟨xl, x0, x1, x2, x3, x4, x5, x6, x7, x8, x9, xf⟩ := hJw.res
                  have h8 : f 8 = .pointer (some ⟨(w.heap.size + 1), 0, none⟩) := (hold 8 (by kernel_rfl)).trans rfl
                  clear hold
                  have hlb := hJw.lt
                  have hz0 := hJw.sz
                  clear hE1 hE2 hJw
                  refine gives_K fun K hK => ?_
                  go_simp
                  refine gives_skip (hK _ _ ⟨Nat.le_of_eq (ten_but u (w.heap.size + 1) E).size.symm, below_but hbe (ten_but u (w.heap.size + 1) E) (by omega), HDN.out, fun hbk => absurd (by decide) hbk, ?_⟩)
                  intro jx hji hl hr hs h
                  match jx, hji, hl, hr, hs, h with
                  | 0, _, hl, _, _, _ => exact absurd hl (by decide)
                  | 1, _, hl, _, _, _ => exact absurd hl (by decide)
                  | 2, _, hl, _, _, _ => exact absurd hl (by decide)
                  | 3, _, hl, _, _, _ => exact absurd hl (by decide)
                  | 4, _, hl, _, _, _ => exact absurd hl (by decide)
                  | 5, _, hl, _, _, _ => exact absurd hl (by decide)
                  | 6, _, hl, _, _, _ => exact absurd hl (by decide)
                  | 7, _, hl, _, _, _ => exact absurd hl (by decide)
                  | 8, _, hl, _, _, _ => exact absurd hl (by decide)
                  | 9, _, hl, _, _, _ => exact absurd hl (by decide)
                  | 10, _, hl, _, _, _ => exact absurd hl (by decide)
                  | 11, _, hl, _, _, _ => exact absurd hl (by decide)
                  | 12, _, hl, _, _, _ => exact absurd hl (by decide)
                  | 13, _, hl, _, _, _ => exact absurd hl (by decide)
                  | 14, _, hl, _, _, _ => exact absurd hl (by decide)
                  | 15, _, hl, _, _, _ => exact absurd hl (by decide)
                  | 16, _, hl, _, _, _ => exact absurd hl (by decide)
                  | 17, _, hl, _, _, _ => exact absurd hl (by decide)
                  | 18, hji, _, _, _, _ => exact absurd rfl hji
                  | jx + 19, _, hl, _, _, _ => exact absurd hl (by simp)
                | ix + 19, hix, _ => simp at hix
              · intro f2 u2 hbe hall
                have u18 := hall 18 (by decide) (by kernel_rfl)
                simp only at u18
                clear hall
                simp only [putAll, List.foldl_cons, List.foldl_nil, Act.put, List.setIfInBounds_toArray, List.set_cons_succ, List.set_cons_zero]
                obtain ⟨E, hBX, hPO⟩ := Dn.post u18
                have HPO := Lib.hid hPO
                have HBX := Lib.hid hBX
                clear hBX hPO u18
                obtain ⟨xl, x0, x1, x2, x3, x4, x5, x6, x7, x8, x9, xf⟩ := HBX.out
                go_wp2
                refine ret_tree (X := (w.heap.size + 1)) (E := E) HBX.out (fun x0 x1 x2 x3 x4 x5 x6 x7 x8 x9 => by simp [results, Tryz.results7, go_sem, x0, x1, x2, x3, x4, x5, x6, x7, x8, x9, exV]) rfl HPO.out
            · have hdw := HDW.out
              obtain ⟨ql, q0, q1, qf⟩ := HW.out.pb
              have HCE := Lib.hid (HEW.out N b P 1 (depth - 1) w3 (by omega) (by omega) (by decide) (by decide) (by omega) h8 HW.out.pl HW.out.hN HW.out.an.tape (HE.out.step HW.out.all h8))
              unfold plV at HCE
              go_wp2_with fail
              refine (HCE.out).mono ?_
              rintro e' w4 ⟨E1, rfl, hE5, hV5, ht5, hs5⟩
              have HW4 := Lib.hid (HW.out.next hs5 ht5)
              have hr0 := HW.out.res.lt
              have HX4 := Lib.hid (one_ex (hE5.weak (M := fun c => w.heap.size + 1 < c) fun c _ hc => by omega) HW4.out.res.lt 27)
              have HV := Lib.hid hV5
              clear hE5 hV5 ht5 hs5 HW ql q0 q1 qf
              dsimp only [exV]
              obtain ⟨xl, x0, x1, x2, x3, x4, x5, x6, x7, x8, x9, xf⟩ := HW4.out.res
              go_wp2
              refine ret_tree (X := w.heap.size + 1) (E := argEx 4 0 false (some ⟨w4.heap.size, 0, none⟩) 1 [E1]) (by have h := ten_boxA HW4.out.res (argEx 4 0 false (some ⟨w4.heap.size, 0, none⟩) 1 [E1]) (.cells #[.int .i64 E1.k, .int .i64 E1.op, .bool E1.no, .int .i64 E1.vk, .int .i64 E1.vi, .string E1.vt, .string E1.tb, .string E1.nm, .slice E1.pa E1.args.length E1.ca, .slice E1.ps E1.sub.length E1.cs] 27); simp only [ten, argEx, Ex.mk_k, Ex.mk_op, Ex.mk_no, Ex.mk_vk, Ex.mk_vi, Ex.mk_vt, Ex.mk_tb, Ex.mk_nm, Ex.mk_pa, Ex.mk_ca, Ex.mk_args, Ex.mk_ps, Ex.mk_cs, Ex.mk_sub, List.length_cons, List.length_nil] at h ⊢; exact h) (fun x0 x1 x2 x3 x4 x5 x6 x7 x8 x9 => by simp [results, Tryz.results7, go_sem, x0, x1, x2, x3, x4, x5, x6, x7, x8, x9, exV]) rfl ?_
              exact (HW4.out.low (below_alloc w4 (.cells #[.int .i64 E1.k, .int .i64 E1.op, .bool E1.no, .int .i64 E1.vk, .int .i64 E1.vi, .string E1.vt, .string E1.tb, .string E1.nm, .slice E1.pa E1.args.length E1.ca, .slice E1.ps E1.sub.length E1.cs] 27))).post (args_at (l := [E1]) (show 1 ≤ 3 by decide) HX4.out) (vOf_args (by decide) (by decide) rfl (fun h => absurd h (by decide)) (fun _ => rfl) (fun _ => rfl) (ex_all_one HV.out)) (ten_butA HW4.out.res.lt (argEx 4 0 false (some ⟨w4.heap.size, 0, none⟩) 1 [E1]) (.cells #[.int .i64 E1.k, .int .i64 E1.op, .bool E1.no, .int .i64 E1.vk, .int .i64 E1.vi, .string E1.vt, .string E1.tb, .string E1.nm, .slice E1.pa E1.args.length E1.ca, .slice E1.ps E1.sub.length E1.cs] 27)) rfl
      · obtain ⟨ql, q0, q1, qf⟩ := HW.out.pb
        go_upto_region 15 with (fail)
        go_cut [89] from 74 to 89 (fun s89 wx => ∃ yes : Bool, s89 = .bool yes ∧ (yes = true → 0 < P.tb.length) ∧ EwW b w w0 P N wx)
        case first =>
          by_cases hk00 : k = 0
          · have e4 : (k == 0) = true := beq_iff_eq.2 hk00
            clear hk00
            by_cases hnt : 0 < P.tb.length
            · have e5 : decide ((0 : Int) < P.tb.length) = true := decide_eq_true (by omega)
              have e6 : (0 : Int) < P.tb.length := by omega
              go_wp2_with fail
              refine (tbool_any b 2 _ (by decide) (by decide) HW.out.an.tape).mono ?_
              rintro e' w3 ⟨q3, rfl, ht3, hs3⟩
              have HW3 := Lib.hid (HW.out.next hs3 ht3)
              clear ht3 hs3
              go_wp2_with fail
              go_meet
              exact ⟨q3, rfl, fun _ => hnt, HW3.out⟩
            · have e5 : decide ((0 : Int) < P.tb.length) = false := decide_eq_false (by omega)
              have e6 : ¬ (0 : Int) < P.tb.length := by omega
              go_wp2_with fail
              go_meet
              exact ⟨false, rfl, fun h => (by cases h), HW.out⟩
          · have e4 : (k == 0) = false := beq_eq_false_iff_ne.2 hk00
            clear hk00
            go_wp2_with fail
            go_meet
            exact ⟨false, rfl, fun h => (by cases h), HW.out⟩
        case rest =>
          obtain ⟨yes, rfl, hyes, hW⟩ := hcut
          clear HW
          have HW := Lib.hid hW
          clear hW ql q0 q1 qf
          skip
          cases yes
          · skip
            have HCE := Lib.hid (HCY.out N b P depth _ (by omega) (by omega) (by omega) h8 HW.out.pl HW.out.hN HW.out.an.tape (HE.out.step HW.out.all h8))
            unfold plV at HCE
            obtain ⟨ql, q0, q1, qf⟩ := HW.out.pb
            go_wp2_with fail
            clear ql q0 q1 qf
            refine (HCE.out).mono ?_
            rintro e' w9 ⟨E9, rfl, hE9, hV9, ht9, hs9⟩
            have hr9 := HW.out.res.lt
            have HW9 := Lib.hid (HW.out.next hs9 ht9)
            have HE9 := Lib.hid (hE9.weak (M := fun c => w.heap.size + 1 < c) fun c _ hc => by omega)
            have HV9 := Lib.hid hV9
            clear hE9 hV9 ht9 hs9 HCE
            obtain ⟨xl, x0, x1, x2, x3, x4, x5, x6, x7, x8, x9, xf⟩ := HW9.out.res
            dsimp only [exV]
            go_wp2
            refine ret_tree (X := w.heap.size + 1) (E := E9) (ten_box HW9.out.res E9) (fun x0 x1 x2 x3 x4 x5 x6 x7 x8 x9 => by simp [results, Tryz.results7, go_sem, x0, x1, x2, x3, x4, x5, x6, x7, x8, x9, exV]) rfl ?_
            exact HW9.out.post (HE9.out) (HV9.out) (ten_but _ _ E9) rfl
          · have hnt := hyes rfl
            have HCE := Lib.hid (HQY.out N b P 8 depth _ (by decide) (by decide) (by omega) (by omega) (by omega) hnt h8 HW.out.pl HW.out.hN HW.out.an.tape (HE.out.step HW.out.all h8))
            unfold plV at HCE
            obtain ⟨ql, q0, q1, qf⟩ := HW.out.pb
            go_wp2_with fail
            clear ql q0 q1 qf
            refine (HCE.out).mono ?_
            rintro e' w9 ⟨E9, rfl, hE9, hV9, ht9, hs9⟩
            have hr9 := HW.out.res.lt
            have HW9 := Lib.hid (HW.out.next hs9 ht9)
            have HE9 := Lib.hid (hE9.weak (M := fun c => w.heap.size + 1 < c) fun c _ hc => by omega)
            have HV9 := Lib.hid hV9
            clear hE9 hV9 ht9 hs9 HCE
            obtain ⟨xl, x0, x1, x2, x3, x4, x5, x6, x7, x8, x9, xf⟩ := HW9.out.res
            dsimp only [exV]
            go_wp2
            refine ret_tree (X := w.heap.size + 1) (E := E9) (ten_box HW9.out.res E9) (fun x0 x1 x2 x3 x4 x5 x6 x7 x8 x9 => by simp [results, Tryz.results7, go_sem, x0, x1, x2, x3, x4, x5, x6, x7, x8, x9, exV]) rfl ?_
            exact HW9.out.post (HE9.out) (HV9.out) (ten_but _ _ E9) rfl
      · go_wp2_with fail
        refine (typed_any b 3 _ hb4 HW.out.an.tape ((HE.out.step HW.out.all h8).words hlw)).mono ?_
        rintro e' w7 ⟨kv, nv, sv, rfl, hv, hk, ht7, hs7⟩
        have HW7 := Lib.hid (HW.out.next hs7 ht7)
        have hkw := hk (by omega) (by omega)
        have HVL := Lib.hid (show vE (D + 1) (litEx kv nv sv) = true from vOf_lit hv.valid (by rcases hv with ⟨h, -⟩ | ⟨h, -⟩ | ⟨-, h, -⟩ | ⟨-, h, -⟩ <;> omega))
        have HVI := Lib.hid hv.i64
        have HVS := Lib.hid hv.size
        clear hv hk hkw ht7 hs7
        go_wp2_with fail
        refine (lit_agg kv nv sv _).mono ?_
        rintro e' w8 ⟨rfl, hb8⟩
        have HW8 := Lib.hid (HW7.out.low hb8)
        clear hb8 HW7
        obtain ⟨xl, x0, x1, x2, x3, x4, x5, x6, x7, x8, x9, xf⟩ := HW8.out.res
        go_wp2
        refine ret_tree (X := w.heap.size + 1) (E := (litEx kv nv sv)) (by have h := ten_box HW8.out.res ((litEx kv nv sv)); simp only [ten, litEx, Ex.mk_k, Ex.mk_op, Ex.mk_no, Ex.mk_vk, Ex.mk_vi, Ex.mk_vt, Ex.mk_tb, Ex.mk_nm, Ex.mk_pa, Ex.mk_ca, Ex.mk_args, Ex.mk_ps, Ex.mk_cs, Ex.mk_sub, List.length_nil] at h ⊢; exact h) (fun x0 x1 x2 x3 x4 x5 x6 x7 x8 x9 => by simp [results, Tryz.results7, go_sem, x0, x1, x2, x3, x4, x5, x6, x7, x8, x9, exV]) rfl ?_
        exact HW8.out.post (ExAt.leaf _ _ D 1 0 false kv nv (by have := HVS.out; omega) (by decide) (by decide) HVI.out) (HVL.out) (ten_but _ _ ((litEx kv nv sv))) rfl
theorem exprW_any (hlw : 3 ∈ ls) : ∀ D, D ≤ 60 → 1 ≤ D → EwDoes ls (D + 1)
  | 0, _, h => absurd h (by decide)
  | 1, _, _ => exprW_step (by decide) (by decide) (fun h => absurd h (by decide)) hlw
  | D + 2, h, _ => exprW_step (by omega) (by omega) (fun _ => exprW_any hlw (D + 1) (by omega) (by omega)) hlw
end Go.Proofs.YtlpaphgmdcpmaaaGreatDoor
/-
  Shape of reference 11.
-/
namespace Go.Proofs.YtlpaphgmdcpmaaaGreatDoor
set_option maxRecDepth 100000
open Go.RowKit
variable {ls : List Nat}

set_option maxHeartbeats 1000000 in
theorem rshape_k1 (op : Int) (vk vi : Int) (no : Bool) (vt tb nm : ByteArray) (p q : Option Addr) (n c n' c' : Nat) (w : World) :
    Calls Tryz.prog 54 #[.agg #[.int .i64 1, .int .i64 op, .bool no, .int .i64 vk, .int .i64 vi, .string vt, .string tb, .string nm, .slice p n c, .slice q n' c']] w fun r w' => r = .returned (.bool (decide (n = 0) && decide (n' = 0))) ∧ Below w.heap.size w w' := by
  by_cases a : n = 0
  · subst a
    by_cases b : n' = 0
    · subst b
      go_enter Tryz.func54, Tryz.ntmps54
      go_wp2
      go_ret
      exact ⟨ret_bool (by simp), below_alloc _ _⟩
    · have b1 : ((n' : Int) == 0) = false := beq_eq_false_iff_ne.2 (by omega)
      have HB := Lib.hid (decide_eq_false b)
      clear b
      go_enter Tryz.func54, Tryz.ntmps54
      go_wp2
      go_ret
      exact ⟨ret_bool (by rw [HB.out]; simp), below_alloc _ _⟩
  have a1 : ((n : Int) == 0) = false := beq_eq_false_iff_ne.2 (by omega)
  have HB := Lib.hid (decide_eq_false a)
  clear a
  go_enter Tryz.func54, Tryz.ntmps54
  go_wp2
  go_ret
  exact ⟨ret_bool (by rw [HB.out]; simp), below_alloc _ _⟩
set_option maxHeartbeats 1000000 in
theorem rshape_k2 (op : Int) (vk vi : Int) (no : Bool) (vt tb nm : ByteArray) (p q : Option Addr) (n c n' c' : Nat) (w : World) :
    Calls Tryz.prog 54 #[.agg #[.int .i64 2, .int .i64 op, .bool no, .int .i64 vk, .int .i64 vi, .string vt, .string tb, .string nm, .slice p n c, .slice q n' c']] w fun r w' => r = .returned (.bool (decide (n = 0) && decide (n' = 0))) ∧ Below w.heap.size w w' := by
  by_cases a : n = 0
  · subst a
    by_cases b : n' = 0
    · subst b
      go_enter Tryz.func54, Tryz.ntmps54
      go_wp2
      go_ret
      exact ⟨ret_bool (by simp), below_alloc _ _⟩
    · have b1 : ((n' : Int) == 0) = false := beq_eq_false_iff_ne.2 (by omega)
      have HB := Lib.hid (decide_eq_false b)
      clear b
      go_enter Tryz.func54, Tryz.ntmps54
      go_wp2
      go_ret
      exact ⟨ret_bool (by rw [HB.out]; simp), below_alloc _ _⟩
  have a1 : ((n : Int) == 0) = false := beq_eq_false_iff_ne.2 (by omega)
  have HB := Lib.hid (decide_eq_false a)
  clear a
  go_enter Tryz.func54, Tryz.ntmps54
  go_wp2
  go_ret
  exact ⟨ret_bool (by rw [HB.out]; simp), below_alloc _ _⟩
set_option maxHeartbeats 1000000 in
theorem rshape_k3 (op : Int) (vk vi : Int) (no : Bool) (vt tb nm : ByteArray) (p q : Option Addr) (n c n' c' : Nat) (w : World) :
    Calls Tryz.prog 54 #[.agg #[.int .i64 3, .int .i64 op, .bool no, .int .i64 vk, .int .i64 vi, .string vt, .string tb, .string nm, .slice p n c, .slice q n' c']] w fun r w' => r = .returned (.bool (decide (n = 1) && decide (n' = 0))) ∧ Below w.heap.size w w' := by
  by_cases a : n = 1
  · subst a
    by_cases b : n' = 0
    · subst b
      go_enter Tryz.func54, Tryz.ntmps54
      go_wp2
      go_ret
      exact ⟨ret_bool (by simp), below_alloc _ _⟩
    · have b1 : ((n' : Int) == 0) = false := beq_eq_false_iff_ne.2 (by omega)
      have HB := Lib.hid (decide_eq_false b)
      clear b
      go_enter Tryz.func54, Tryz.ntmps54
      go_wp2
      go_ret
      exact ⟨ret_bool (by rw [HB.out]; simp), below_alloc _ _⟩
  have a1 : ((n : Int) == 1) = false := beq_eq_false_iff_ne.2 (by omega)
  have HB := Lib.hid (decide_eq_false a)
  clear a
  go_enter Tryz.func54, Tryz.ntmps54
  go_wp2
  go_ret
  exact ⟨ret_bool (by rw [HB.out]; simp), below_alloc _ _⟩
set_option maxHeartbeats 1000000 in
theorem rshape_k4 (op : Int) (vk vi : Int) (no : Bool) (vt tb nm : ByteArray) (p q : Option Addr) (n c n' c' : Nat) (w : World) :
    Calls Tryz.prog 54 #[.agg #[.int .i64 4, .int .i64 op, .bool no, .int .i64 vk, .int .i64 vi, .string vt, .string tb, .string nm, .slice p n c, .slice q n' c']] w fun r w' => r = .returned (.bool (decide (n = 1) && decide (n' = 0))) ∧ Below w.heap.size w w' := by
  by_cases a : n = 1
  · subst a
    by_cases b : n' = 0
    · subst b
      go_enter Tryz.func54, Tryz.ntmps54
      go_wp2
      go_ret
      exact ⟨ret_bool (by simp), below_alloc _ _⟩
    · have b1 : ((n' : Int) == 0) = false := beq_eq_false_iff_ne.2 (by omega)
      have HB := Lib.hid (decide_eq_false b)
      clear b
      go_enter Tryz.func54, Tryz.ntmps54
      go_wp2
      go_ret
      exact ⟨ret_bool (by rw [HB.out]; simp), below_alloc _ _⟩
  have a1 : ((n : Int) == 1) = false := beq_eq_false_iff_ne.2 (by omega)
  have HB := Lib.hid (decide_eq_false a)
  clear a
  go_enter Tryz.func54, Tryz.ntmps54
  go_wp2
  go_ret
  exact ⟨ret_bool (by rw [HB.out]; simp), below_alloc _ _⟩
set_option maxHeartbeats 1000000 in
theorem rshape_k6 (op : Int) (vk vi : Int) (no : Bool) (vt tb nm : ByteArray) (p q : Option Addr) (n c n' c' : Nat) (w : World) :
    Calls Tryz.prog 54 #[.agg #[.int .i64 6, .int .i64 op, .bool no, .int .i64 vk, .int .i64 vi, .string vt, .string tb, .string nm, .slice p n c, .slice q n' c']] w fun r w' => r = .returned (.bool (decide (n = 1) && decide (n' = 0))) ∧ Below w.heap.size w w' := by
  by_cases a : n = 1
  · subst a
    by_cases b : n' = 0
    · subst b
      go_enter Tryz.func54, Tryz.ntmps54
      go_wp2
      go_ret
      exact ⟨ret_bool (by simp), below_alloc _ _⟩
    · have b1 : ((n' : Int) == 0) = false := beq_eq_false_iff_ne.2 (by omega)
      have HB := Lib.hid (decide_eq_false b)
      clear b
      go_enter Tryz.func54, Tryz.ntmps54
      go_wp2
      go_ret
      exact ⟨ret_bool (by rw [HB.out]; simp), below_alloc _ _⟩
  have a1 : ((n : Int) == 1) = false := beq_eq_false_iff_ne.2 (by omega)
  have HB := Lib.hid (decide_eq_false a)
  clear a
  go_enter Tryz.func54, Tryz.ntmps54
  go_wp2
  go_ret
  exact ⟨ret_bool (by rw [HB.out]; simp), below_alloc _ _⟩
set_option maxHeartbeats 1000000 in
theorem rshape_k7 (op : Int) (vk vi : Int) (no : Bool) (vt tb nm : ByteArray) (p q : Option Addr) (n c n' c' : Nat) (w : World) :
    Calls Tryz.prog 54 #[.agg #[.int .i64 7, .int .i64 op, .bool no, .int .i64 vk, .int .i64 vi, .string vt, .string tb, .string nm, .slice p n c, .slice q n' c']] w fun r w' => r = .returned (.bool (decide (n = 3) && decide (n' = 0))) ∧ Below w.heap.size w w' := by
  by_cases a : n = 3
  · subst a
    by_cases b : n' = 0
    · subst b
      go_enter Tryz.func54, Tryz.ntmps54
      go_wp2
      go_ret
      exact ⟨ret_bool (by simp), below_alloc _ _⟩
    · have b1 : ((n' : Int) == 0) = false := beq_eq_false_iff_ne.2 (by omega)
      have HB := Lib.hid (decide_eq_false b)
      clear b
      go_enter Tryz.func54, Tryz.ntmps54
      go_wp2
      go_ret
      exact ⟨ret_bool (by rw [HB.out]; simp), below_alloc _ _⟩
  have a1 : ((n : Int) == 3) = false := beq_eq_false_iff_ne.2 (by omega)
  have HB := Lib.hid (decide_eq_false a)
  clear a
  go_enter Tryz.func54, Tryz.ntmps54
  go_wp2
  go_ret
  exact ⟨ret_bool (by rw [HB.out]; simp), below_alloc _ _⟩
set_option maxHeartbeats 1000000 in
theorem rshape_k5 (op : Int) (h : 1 ≤ op ∧ op ≤ 13) (vk vi : Int) (no : Bool) (vt tb nm : ByteArray) (p q : Option Addr) (n c n' c' : Nat) (w : World) :
    Calls Tryz.prog 54 #[.agg #[.int .i64 5, .int .i64 op, .bool no, .int .i64 vk, .int .i64 vi, .string vt, .string tb, .string nm, .slice p n c, .slice q n' c']] w fun r w' => r = .returned (.bool (decide (n = 2) && decide (n' = 0))) ∧ Below w.heap.size w w' := by
  have o1 : decide (op < 1) = false := decide_eq_false (by omega)
  have o2 : decide (13 < op) = false := decide_eq_false (by omega)
  clear h
  by_cases a : n = 2
  · subst a
    by_cases b : n' = 0
    · subst b
      go_enter Tryz.func54, Tryz.ntmps54
      go_wp2
      go_ret
      exact ⟨ret_bool (by simp), below_alloc _ _⟩
    · have b1 : ((n' : Int) == 0) = false := beq_eq_false_iff_ne.2 (by omega)
      have HB := Lib.hid (decide_eq_false b)
      clear b
      go_enter Tryz.func54, Tryz.ntmps54
      go_wp2
      go_ret
      exact ⟨ret_bool (by rw [HB.out]; simp), below_alloc _ _⟩
  have a1 : ((n : Int) == 2) = false := beq_eq_false_iff_ne.2 (by omega)
  have HB := Lib.hid (decide_eq_false a)
  clear a
  go_enter Tryz.func54, Tryz.ntmps54
  go_wp2
  go_ret
  exact ⟨ret_bool (by rw [HB.out]; simp), below_alloc _ _⟩
set_option maxHeartbeats 1000000 in
theorem rshape_lo (op : Int) (h : op < 1) (vk vi : Int) (no : Bool) (vt tb nm : ByteArray) (p q : Option Addr) (n c n' c' : Nat) (w : World) :
    Calls Tryz.prog 54 #[.agg #[.int .i64 5, .int .i64 op, .bool no, .int .i64 vk, .int .i64 vi, .string vt, .string tb, .string nm, .slice p n c, .slice q n' c']] w fun r w' => r = .returned (.bool false) ∧ Below w.heap.size w w' := by
  have o1 : decide (op < 1) = true := decide_eq_true h
  clear h
  go_enter Tryz.func54, Tryz.ntmps54
  go_wp2
  go_ret
  exact ⟨rfl, below_alloc _ _⟩
set_option maxHeartbeats 1000000 in
theorem rshape_hi (op : Int) (h : 13 < op) (vk vi : Int) (no : Bool) (vt tb nm : ByteArray) (p q : Option Addr) (n c n' c' : Nat) (w : World) :
    Calls Tryz.prog 54 #[.agg #[.int .i64 5, .int .i64 op, .bool no, .int .i64 vk, .int .i64 vi, .string vt, .string tb, .string nm, .slice p n c, .slice q n' c']] w fun r w' => r = .returned (.bool false) ∧ Below w.heap.size w w' := by
  have o1 : decide (op < 1) = false := decide_eq_false (by omega)
  have o2 : decide (13 < op) = true := decide_eq_true h
  clear h
  go_enter Tryz.func54, Tryz.ntmps54
  go_wp2
  go_ret
  exact ⟨rfl, below_alloc _ _⟩
set_option maxHeartbeats 1000000 in
theorem rshape_other (k op : Int) (h : k < 1 ∨ 12 < k) (vk vi : Int) (no : Bool) (vt tb nm : ByteArray) (p q : Option Addr) (n c n' c' : Nat) (w : World) :
    Calls Tryz.prog 54 #[.agg #[.int .i64 k, .int .i64 op, .bool no, .int .i64 vk, .int .i64 vi, .string vt, .string tb, .string nm, .slice p n c, .slice q n' c']] w fun r w' => r = .returned (.bool false) ∧ Below w.heap.size w w' := by
  have e1 : (k == 1) = false := beq_eq_false_iff_ne.2 (by omega)
  have e2 : (k == 2) = false := beq_eq_false_iff_ne.2 (by omega)
  have e3 : (k == 3) = false := beq_eq_false_iff_ne.2 (by omega)
  have e4 : (k == 4) = false := beq_eq_false_iff_ne.2 (by omega)
  have e5 : (k == 5) = false := beq_eq_false_iff_ne.2 (by omega)
  have e6 : (k == 6) = false := beq_eq_false_iff_ne.2 (by omega)
  have e7 : (k == 7) = false := beq_eq_false_iff_ne.2 (by omega)
  have e8 : (k == 8) = false := beq_eq_false_iff_ne.2 (by omega)
  have e9 : (k == 9) = false := beq_eq_false_iff_ne.2 (by omega)
  have e10 : (k == 10) = false := beq_eq_false_iff_ne.2 (by omega)
  have e11 : (k == 11) = false := beq_eq_false_iff_ne.2 (by omega)
  have e12 : (k == 12) = false := beq_eq_false_iff_ne.2 (by omega)
  clear h
  go_enter Tryz.func54, Tryz.ntmps54
  go_wp2
  go_ret
  exact ⟨rfl, below_alloc _ _⟩
set_option maxHeartbeats 1000000 in
theorem rshape_k8 (op : Int) (vk vi : Int) (no : Bool) (vt tb nm : ByteArray) (p q : Option Addr) (n c n' c' : Nat) (w : World) (pi : Option Addr) (li ci : Nat) (pw : Option Addr) (lw cw : Nat) (hS : n' = 1 → ∃ g o : Nat, q = some ⟨g, o, none⟩ ∧ g < w.heap.size ∧ w.cell? ⟨g, o + 1, none⟩ = some (.slice pi li ci) ∧ w.cell? ⟨g, o + 3, none⟩ = some (.slice pw lw cw)) :
    Calls Tryz.prog 54 #[.agg #[.int .i64 8, .int .i64 op, .bool no, .int .i64 vk, .int .i64 vi, .string vt, .string tb, .string nm, .slice p n c, .slice q n' c']] w fun r w' => r = .returned (.bool (decide (n = 0) && decide (n' = 1) && decide (li = 0) && decide (lw ≤ 1))) ∧ Below w.heap.size w w' := by
  have HS := Lib.hid hS
  clear hS
  by_cases a : n = 0
  · subst a
    by_cases b : n' = 1
    · subst b
      obtain ⟨g, o, rfl, hg, h1, h3⟩ := HS.out rfl
      have hb0 := below_alloc w (.cells #[.int .i64 8, .int .i64 op, .bool no, .int .i64 vk, .int .i64 vi, .string vt, .string tb, .string nm, .slice p 0 c, .slice (some ⟨g, o, none⟩) 1 c'] 27)
      have g1 := (hb0.cell (p := ⟨g, o + 1, none⟩) (by exact hg)).trans h1
      have g3 := (hb0.cell (p := ⟨g, o + 3, none⟩) (by exact hg)).trans h3
      clear hb0 h1 h3 HS
      by_cases d : li = 0
      · subst d
        by_cases e : lw ≤ 1
        · have e1 : decide ((lw : Int) ≤ 1) = true := decide_eq_true (by omega)
          have HB := Lib.hid (decide_eq_true e)
          clear e
          go_enter Tryz.func54, Tryz.ntmps54
          go_wp2
          go_ret
          exact ⟨ret_bool (by rw [HB.out]; simp), below_alloc _ _⟩
        · have e1 : decide ((lw : Int) ≤ 1) = false := decide_eq_false (by omega)
          have HB := Lib.hid (decide_eq_false e)
          clear e
          go_enter Tryz.func54, Tryz.ntmps54
          go_wp2
          go_ret
          exact ⟨ret_bool (by rw [HB.out]; simp), below_alloc _ _⟩
      · have d1 : ((li : Int) == 0) = false := beq_eq_false_iff_ne.2 (by omega)
        have HB := Lib.hid (decide_eq_false d)
        clear d
        go_enter Tryz.func54, Tryz.ntmps54
        go_wp2
        go_ret
        exact ⟨ret_bool (by rw [HB.out]; simp), below_alloc _ _⟩
    · have b1 : ((n' : Int) == 1) = false := beq_eq_false_iff_ne.2 (by omega)
      have HB := Lib.hid (decide_eq_false b)
      clear b
      go_enter Tryz.func54, Tryz.ntmps54
      go_wp2
      go_ret
      exact ⟨ret_bool (by rw [HB.out]; simp), below_alloc _ _⟩
  have a1 : ((n : Int) == 0) = false := beq_eq_false_iff_ne.2 (by omega)
  have HB := Lib.hid (decide_eq_false a)
  clear a
  go_enter Tryz.func54, Tryz.ntmps54
  go_wp2
  go_ret
  exact ⟨ret_bool (by rw [HB.out]; simp), below_alloc _ _⟩
set_option maxHeartbeats 1000000 in
theorem rshape_k9 (op : Int) (vk vi : Int) (no : Bool) (vt tb nm : ByteArray) (p q : Option Addr) (n c n' c' : Nat) (w : World) (pi : Option Addr) (li ci : Nat) (pw : Option Addr) (lw cw : Nat) (hS : n' = 1 → ∃ g o : Nat, q = some ⟨g, o, none⟩ ∧ g < w.heap.size ∧ w.cell? ⟨g, o + 1, none⟩ = some (.slice pi li ci) ∧ w.cell? ⟨g, o + 3, none⟩ = some (.slice pw lw cw)) :
    Calls Tryz.prog 54 #[.agg #[.int .i64 9, .int .i64 op, .bool no, .int .i64 vk, .int .i64 vi, .string vt, .string tb, .string nm, .slice p n c, .slice q n' c']] w fun r w' => r = .returned (.bool (decide (n = 0) && decide (n' = 1) && decide (li = 0) && decide (lw ≤ 1))) ∧ Below w.heap.size w w' := by
  have HS := Lib.hid hS
  clear hS
  by_cases a : n = 0
  · subst a
    by_cases b : n' = 1
    · subst b
      obtain ⟨g, o, rfl, hg, h1, h3⟩ := HS.out rfl
      have hb0 := below_alloc w (.cells #[.int .i64 9, .int .i64 op, .bool no, .int .i64 vk, .int .i64 vi, .string vt, .string tb, .string nm, .slice p 0 c, .slice (some ⟨g, o, none⟩) 1 c'] 27)
      have g1 := (hb0.cell (p := ⟨g, o + 1, none⟩) (by exact hg)).trans h1
      have g3 := (hb0.cell (p := ⟨g, o + 3, none⟩) (by exact hg)).trans h3
      clear hb0 h1 h3 HS
      by_cases d : li = 0
      · subst d
        by_cases e : lw ≤ 1
        · have e1 : decide ((lw : Int) ≤ 1) = true := decide_eq_true (by omega)
          have HB := Lib.hid (decide_eq_true e)
          clear e
          go_enter Tryz.func54, Tryz.ntmps54
          go_wp2
          go_ret
          exact ⟨ret_bool (by rw [HB.out]; simp), below_alloc _ _⟩
        · have e1 : decide ((lw : Int) ≤ 1) = false := decide_eq_false (by omega)
          have HB := Lib.hid (decide_eq_false e)
          clear e
          go_enter Tryz.func54, Tryz.ntmps54
          go_wp2
          go_ret
          exact ⟨ret_bool (by rw [HB.out]; simp), below_alloc _ _⟩
      · have d1 : ((li : Int) == 0) = false := beq_eq_false_iff_ne.2 (by omega)
        have HB := Lib.hid (decide_eq_false d)
        clear d
        go_enter Tryz.func54, Tryz.ntmps54
        go_wp2
        go_ret
        exact ⟨ret_bool (by rw [HB.out]; simp), below_alloc _ _⟩
    · have b1 : ((n' : Int) == 1) = false := beq_eq_false_iff_ne.2 (by omega)
      have HB := Lib.hid (decide_eq_false b)
      clear b
      go_enter Tryz.func54, Tryz.ntmps54
      go_wp2
      go_ret
      exact ⟨ret_bool (by rw [HB.out]; simp), below_alloc _ _⟩
  have a1 : ((n : Int) == 0) = false := beq_eq_false_iff_ne.2 (by omega)
  have HB := Lib.hid (decide_eq_false a)
  clear a
  go_enter Tryz.func54, Tryz.ntmps54
  go_wp2
  go_ret
  exact ⟨ret_bool (by rw [HB.out]; simp), below_alloc _ _⟩
set_option maxHeartbeats 1000000 in
theorem rshape_k10 (op : Int) (vk vi : Int) (no : Bool) (vt tb nm : ByteArray) (p q : Option Addr) (n c n' c' : Nat) (w : World) (pi : Option Addr) (li ci : Nat) (pw : Option Addr) (lw cw : Nat) (hS : n' = 1 → ∃ g o : Nat, q = some ⟨g, o, none⟩ ∧ g < w.heap.size ∧ w.cell? ⟨g, o + 1, none⟩ = some (.slice pi li ci) ∧ w.cell? ⟨g, o + 3, none⟩ = some (.slice pw lw cw)) :
    Calls Tryz.prog 54 #[.agg #[.int .i64 10, .int .i64 op, .bool no, .int .i64 vk, .int .i64 vi, .string vt, .string tb, .string nm, .slice p n c, .slice q n' c']] w fun r w' => r = .returned (.bool (decide (n = 0) && decide (n' = 1) && decide (li = 1) && decide (lw ≤ 1))) ∧ Below w.heap.size w w' := by
  have HS := Lib.hid hS
  clear hS
  by_cases a : n = 0
  · subst a
    by_cases b : n' = 1
    · subst b
      obtain ⟨g, o, rfl, hg, h1, h3⟩ := HS.out rfl
      have hb0 := below_alloc w (.cells #[.int .i64 10, .int .i64 op, .bool no, .int .i64 vk, .int .i64 vi, .string vt, .string tb, .string nm, .slice p 0 c, .slice (some ⟨g, o, none⟩) 1 c'] 27)
      have g1 := (hb0.cell (p := ⟨g, o + 1, none⟩) (by exact hg)).trans h1
      have g3 := (hb0.cell (p := ⟨g, o + 3, none⟩) (by exact hg)).trans h3
      clear hb0 h1 h3 HS
      by_cases d : li = 1
      · subst d
        by_cases e : lw ≤ 1
        · have e1 : decide ((lw : Int) ≤ 1) = true := decide_eq_true (by omega)
          have HB := Lib.hid (decide_eq_true e)
          clear e
          go_enter Tryz.func54, Tryz.ntmps54
          go_wp2
          go_ret
          exact ⟨ret_bool (by rw [HB.out]; simp), below_alloc _ _⟩
        · have e1 : decide ((lw : Int) ≤ 1) = false := decide_eq_false (by omega)
          have HB := Lib.hid (decide_eq_false e)
          clear e
          go_enter Tryz.func54, Tryz.ntmps54
          go_wp2
          go_ret
          exact ⟨ret_bool (by rw [HB.out]; simp), below_alloc _ _⟩
      · have d1 : ((li : Int) == 1) = false := beq_eq_false_iff_ne.2 (by omega)
        have HB := Lib.hid (decide_eq_false d)
        clear d
        go_enter Tryz.func54, Tryz.ntmps54
        go_wp2
        go_ret
        exact ⟨ret_bool (by rw [HB.out]; simp), below_alloc _ _⟩
    · have b1 : ((n' : Int) == 1) = false := beq_eq_false_iff_ne.2 (by omega)
      have HB := Lib.hid (decide_eq_false b)
      clear b
      go_enter Tryz.func54, Tryz.ntmps54
      go_wp2
      go_ret
      exact ⟨ret_bool (by rw [HB.out]; simp), below_alloc _ _⟩
  have a1 : ((n : Int) == 0) = false := beq_eq_false_iff_ne.2 (by omega)
  have HB := Lib.hid (decide_eq_false a)
  clear a
  go_enter Tryz.func54, Tryz.ntmps54
  go_wp2
  go_ret
  exact ⟨ret_bool (by rw [HB.out]; simp), below_alloc _ _⟩
set_option maxHeartbeats 1000000 in
theorem rshape_k11 (op : Int) (vk vi : Int) (no : Bool) (vt tb nm : ByteArray) (p q : Option Addr) (n c n' c' : Nat) (w : World) (pi : Option Addr) (li ci : Nat) (pw : Option Addr) (lw cw : Nat) (hS : n' = 1 → ∃ g o : Nat, q = some ⟨g, o, none⟩ ∧ g < w.heap.size ∧ w.cell? ⟨g, o + 1, none⟩ = some (.slice pi li ci) ∧ w.cell? ⟨g, o + 3, none⟩ = some (.slice pw lw cw)) :
    Calls Tryz.prog 54 #[.agg #[.int .i64 11, .int .i64 op, .bool no, .int .i64 vk, .int .i64 vi, .string vt, .string tb, .string nm, .slice p n c, .slice q n' c']] w fun r w' => r = .returned (.bool (decide (n = 0) && decide (n' = 1) && decide (li = 1) && decide (lw ≤ 1))) ∧ Below w.heap.size w w' := by
  have HS := Lib.hid hS
  clear hS
  by_cases a : n = 0
  · subst a
    by_cases b : n' = 1
    · subst b
      obtain ⟨g, o, rfl, hg, h1, h3⟩ := HS.out rfl
      have hb0 := below_alloc w (.cells #[.int .i64 11, .int .i64 op, .bool no, .int .i64 vk, .int .i64 vi, .string vt, .string tb, .string nm, .slice p 0 c, .slice (some ⟨g, o, none⟩) 1 c'] 27)
      have g1 := (hb0.cell (p := ⟨g, o + 1, none⟩) (by exact hg)).trans h1
      have g3 := (hb0.cell (p := ⟨g, o + 3, none⟩) (by exact hg)).trans h3
      clear hb0 h1 h3 HS
      by_cases d : li = 1
      · subst d
        by_cases e : lw ≤ 1
        · have e1 : decide ((lw : Int) ≤ 1) = true := decide_eq_true (by omega)
          have HB := Lib.hid (decide_eq_true e)
          clear e
          go_enter Tryz.func54, Tryz.ntmps54
          go_wp2
          go_ret
          exact ⟨ret_bool (by rw [HB.out]; simp), below_alloc _ _⟩
        · have e1 : decide ((lw : Int) ≤ 1) = false := decide_eq_false (by omega)
          have HB := Lib.hid (decide_eq_false e)
          clear e
          go_enter Tryz.func54, Tryz.ntmps54
          go_wp2
          go_ret
          exact ⟨ret_bool (by rw [HB.out]; simp), below_alloc _ _⟩
      · have d1 : ((li : Int) == 1) = false := beq_eq_false_iff_ne.2 (by omega)
        have HB := Lib.hid (decide_eq_false d)
        clear d
        go_enter Tryz.func54, Tryz.ntmps54
        go_wp2
        go_ret
        exact ⟨ret_bool (by rw [HB.out]; simp), below_alloc _ _⟩
    · have b1 : ((n' : Int) == 1) = false := beq_eq_false_iff_ne.2 (by omega)
      have HB := Lib.hid (decide_eq_false b)
      clear b
      go_enter Tryz.func54, Tryz.ntmps54
      go_wp2
      go_ret
      exact ⟨ret_bool (by rw [HB.out]; simp), below_alloc _ _⟩
  have a1 : ((n : Int) == 0) = false := beq_eq_false_iff_ne.2 (by omega)
  have HB := Lib.hid (decide_eq_false a)
  clear a
  go_enter Tryz.func54, Tryz.ntmps54
  go_wp2
  go_ret
  exact ⟨ret_bool (by rw [HB.out]; simp), below_alloc _ _⟩
set_option maxHeartbeats 1000000 in
theorem rshape_k12 (op : Int) (vk vi : Int) (no : Bool) (vt tb nm : ByteArray) (p q : Option Addr) (n c n' c' : Nat) (w : World) (pi : Option Addr) (li ci : Nat) (pw : Option Addr) (lw cw : Nat) (hS : n' = 1 → ∃ g o : Nat, q = some ⟨g, o, none⟩ ∧ g < w.heap.size ∧ w.cell? ⟨g, o + 1, none⟩ = some (.slice pi li ci) ∧ w.cell? ⟨g, o + 3, none⟩ = some (.slice pw lw cw)) :
    Calls Tryz.prog 54 #[.agg #[.int .i64 12, .int .i64 op, .bool no, .int .i64 vk, .int .i64 vi, .string vt, .string tb, .string nm, .slice p n c, .slice q n' c']] w fun r w' => r = .returned (.bool (decide (n = 0) && decide (n' = 1) && decide (li = 1) && decide (lw ≤ 1))) ∧ Below w.heap.size w w' := by
  have HS := Lib.hid hS
  clear hS
  by_cases a : n = 0
  · subst a
    by_cases b : n' = 1
    · subst b
      obtain ⟨g, o, rfl, hg, h1, h3⟩ := HS.out rfl
      have hb0 := below_alloc w (.cells #[.int .i64 12, .int .i64 op, .bool no, .int .i64 vk, .int .i64 vi, .string vt, .string tb, .string nm, .slice p 0 c, .slice (some ⟨g, o, none⟩) 1 c'] 27)
      have g1 := (hb0.cell (p := ⟨g, o + 1, none⟩) (by exact hg)).trans h1
      have g3 := (hb0.cell (p := ⟨g, o + 3, none⟩) (by exact hg)).trans h3
      clear hb0 h1 h3 HS
      by_cases d : li = 1
      · subst d
        by_cases e : lw ≤ 1
        · have e1 : decide ((lw : Int) ≤ 1) = true := decide_eq_true (by omega)
          have HB := Lib.hid (decide_eq_true e)
          clear e
          go_enter Tryz.func54, Tryz.ntmps54
          go_wp2
          go_ret
          exact ⟨ret_bool (by rw [HB.out]; simp), below_alloc _ _⟩
        · have e1 : decide ((lw : Int) ≤ 1) = false := decide_eq_false (by omega)
          have HB := Lib.hid (decide_eq_false e)
          clear e
          go_enter Tryz.func54, Tryz.ntmps54
          go_wp2
          go_ret
          exact ⟨ret_bool (by rw [HB.out]; simp), below_alloc _ _⟩
      · have d1 : ((li : Int) == 1) = false := beq_eq_false_iff_ne.2 (by omega)
        have HB := Lib.hid (decide_eq_false d)
        clear d
        go_enter Tryz.func54, Tryz.ntmps54
        go_wp2
        go_ret
        exact ⟨ret_bool (by rw [HB.out]; simp), below_alloc _ _⟩
    · have b1 : ((n' : Int) == 1) = false := beq_eq_false_iff_ne.2 (by omega)
      have HB := Lib.hid (decide_eq_false b)
      clear b
      go_enter Tryz.func54, Tryz.ntmps54
      go_wp2
      go_ret
      exact ⟨ret_bool (by rw [HB.out]; simp), below_alloc _ _⟩
  have a1 : ((n : Int) == 0) = false := beq_eq_false_iff_ne.2 (by omega)
  have HB := Lib.hid (decide_eq_false a)
  clear a
  go_enter Tryz.func54, Tryz.ntmps54
  go_wp2
  go_ret
  exact ⟨ret_bool (by rw [HB.out]; simp), below_alloc _ _⟩
/-- What Shape asks. -/
def shapeB (e : Ex) : Bool :=
  decide (1 ≤ e.k ∧ e.k ≤ 12) && decide (e.args.length = argN e.k) && decide (e.sub.length = subN e.k) && (if e.k = 5 then decide (1 ≤ e.op ∧ e.op ≤ 13) else true)
  && (if 8 ≤ e.k then decide ((qAt e.sub 0).items.length = itemN e.k) && decide ((qAt e.sub 0).wh.length ≤ 1) else true)
theorem rshape {N : Nat → Prop} {P : Ex → Prop} (e : Ex) (w : World) (hQ : QAt N w P e.ps e.sub) :
    Calls Tryz.prog 54 #[exV e] w fun r w' => r = .returned (.bool (shapeB e)) ∧ Below w.heap.size w w' := by
  have hS : e.sub.length = 1 → ∃ g o : Nat, e.ps = some ⟨g, o, none⟩ ∧ g < w.heap.size ∧ w.cell? ⟨g, o + 1, none⟩ = some (.slice (qAt e.sub 0).pi (qAt e.sub 0).items.length (qAt e.sub 0).ci) ∧ w.cell? ⟨g, o + 3, none⟩ = some (.slice (qAt e.sub 0).pw (qAt e.sub 0).wh.length (qAt e.sub 0).cw) := fun h => by
    obtain ⟨g, o, h1, h2, -, h4, -⟩ := hQ 0 (by omega)
    exact ⟨g, o, h1, h2, by simpa using h4.c1, by simpa using h4.c3⟩
  by_cases hr : e.k < 1 ∨ 12 < e.k
  · rw [show shapeB e = false by unfold shapeB; rw [decide_eq_false (by omega)]; rfl]
    exact rshape_other e.k e.op hr _ _ _ _ _ _ _ _ _ _ _ _ w
  have hk : e.k = 1 ∨ e.k = 2 ∨ e.k = 3 ∨ e.k = 4 ∨ e.k = 5 ∨ e.k = 6 ∨ e.k = 7 ∨ e.k = 8 ∨ e.k = 9 ∨ e.k = 10 ∨ e.k = 11 ∨ e.k = 12 := by omega
  clear hr
  unfold shapeB exV
  generalize e.k = k at *
  generalize e.op = op at *
  rcases hk with rfl | rfl | rfl | rfl | rfl | rfl | rfl | rfl | rfl | rfl | rfl | rfl
  case inr.inr.inr.inr.inl =>
    by_cases h1 : op < 1
    · rw [show decide (1 ≤ op ∧ op ≤ 13) = false from decide_eq_false (by omega)]
      exact (rshape_lo op h1 _ _ _ _ _ _ _ _ _ _ _ _ w).mono fun r w' h => ⟨h.1.trans (ret_bool (by simp)), h.2⟩
    by_cases h2 : 13 < op
    · rw [show decide (1 ≤ op ∧ op ≤ 13) = false from decide_eq_false (by omega)]
      exact (rshape_hi op h2 _ _ _ _ _ _ _ _ _ _ _ _ w).mono fun r w' h => ⟨h.1.trans (ret_bool (by simp)), h.2⟩
    · rw [show decide (1 ≤ op ∧ op ≤ 13) = true from decide_eq_true (by omega)]
      exact (rshape_k5 op (by omega) _ _ _ _ _ _ _ _ _ _ _ _ w).mono fun r w' h => ⟨h.1.trans (ret_bool (by simp [argN, subN])), h.2⟩
  case inl => exact (rshape_k1 op _ _ _ _ _ _ _ _ _ _ _ _ w).mono fun r w' h => ⟨h.1.trans (ret_bool (by simp [argN, subN])), h.2⟩
  case inr.inl => exact (rshape_k2 op _ _ _ _ _ _ _ _ _ _ _ _ w).mono fun r w' h => ⟨h.1.trans (ret_bool (by simp [argN, subN])), h.2⟩
  case inr.inr.inl => exact (rshape_k3 op _ _ _ _ _ _ _ _ _ _ _ _ w).mono fun r w' h => ⟨h.1.trans (ret_bool (by simp [argN, subN])), h.2⟩
  case inr.inr.inr.inl => exact (rshape_k4 op _ _ _ _ _ _ _ _ _ _ _ _ w).mono fun r w' h => ⟨h.1.trans (ret_bool (by simp [argN, subN])), h.2⟩
  case inr.inr.inr.inr.inr.inl => exact (rshape_k6 op _ _ _ _ _ _ _ _ _ _ _ _ w).mono fun r w' h => ⟨h.1.trans (ret_bool (by simp [argN, subN])), h.2⟩
  case inr.inr.inr.inr.inr.inr.inl => exact (rshape_k7 op _ _ _ _ _ _ _ _ _ _ _ _ w).mono fun r w' h => ⟨h.1.trans (ret_bool (by simp [argN, subN])), h.2⟩
  case inr.inr.inr.inr.inr.inr.inr.inl => exact (rshape_k8 op _ _ _ _ _ _ _ _ _ _ _ _ w _ _ _ _ _ _ hS).mono fun r w' h => ⟨h.1.trans (ret_bool (by simp [argN, subN, itemN, Bool.and_assoc])), h.2⟩
  case inr.inr.inr.inr.inr.inr.inr.inr.inl => exact (rshape_k9 op _ _ _ _ _ _ _ _ _ _ _ _ w _ _ _ _ _ _ hS).mono fun r w' h => ⟨h.1.trans (ret_bool (by simp [argN, subN, itemN, Bool.and_assoc])), h.2⟩
  case inr.inr.inr.inr.inr.inr.inr.inr.inr.inl => exact (rshape_k10 op _ _ _ _ _ _ _ _ _ _ _ _ w _ _ _ _ _ _ hS).mono fun r w' h => ⟨h.1.trans (ret_bool (by simp [argN, subN, itemN, Bool.and_assoc])), h.2⟩
  case inr.inr.inr.inr.inr.inr.inr.inr.inr.inr.inl => exact (rshape_k11 op _ _ _ _ _ _ _ _ _ _ _ _ w _ _ _ _ _ _ hS).mono fun r w' h => ⟨h.1.trans (ret_bool (by simp [argN, subN, itemN, Bool.and_assoc])), h.2⟩
  case inr.inr.inr.inr.inr.inr.inr.inr.inr.inr.inr => exact (rshape_k12 op _ _ _ _ _ _ _ _ _ _ _ _ w _ _ _ _ _ _ hS).mono fun r w' h => ⟨h.1.trans (ret_bool (by simp [argN, subN, itemN, Bool.and_assoc])), h.2⟩
end Go.Proofs.YtlpaphgmdcpmaaaGreatDoor
/-
  ValidExpr of reference 11, and what it calls: over trees in memory.
-/
namespace Go.Proofs.YtlpaphgmdcpmaaaGreatDoor
set_option maxRecDepth 100000
open Go.RowKit
variable {ls : List Nat}

/-- ValidExpr over trees of at most d storeys. -/
def RValDoes (d : Nat) : Prop := ∀ (N : Nat → Prop) (e : Ex) (w : World), ExAt N w d e →
    Calls Tryz.prog 29 #[exV e] w fun r w' => r = .returned (.bool (vE d e)) ∧ Below w.heap.size w w'
set_option maxHeartbeats 1000000 in
theorem rall_any {d : Nat} (H : RValDoes d) {N : Nat → Prop} (p : Option Addr) (l : List Ex) (cap : Nat) (w : World) (hA : LAt N w (ExAt N w d) p l) (hz : l.length ≤ 9223372036854775807) :
    Calls Tryz.prog 59 #[.slice p l.length cap] w fun r w' => r = .returned (.bool (l.all (vE d))) ∧ Below w.heap.size w w' := by
  have HA := Lib.hid hA
  have HD := Lib.hid H
  clear hA H
  have HH := Lib.hid (fun k hk h => all_hit (V := vE d) (l := l) (k := k) hk h)
  have HNN := Lib.hid (fun h => all_none (V := vE d) (l := l) h)
  generalize l.all (vE d) = res at *
  generalize hn : l.length = n at *
  have HN := Lib.hid hn
  clear hn
  go_enter Tryz.func59, Tryz.ntmps59
  go_wp2_with fail
  go_loopw [7] (fun i v => ∃ k : Nat, k ≤ n ∧ i = .int .i64 k ∧ (∀ j, j < k → vE d (eAt l j) = true) ∧ Below w.heap.size w v) (fun i _ => n - (intOf i).toNat)
  case atStart => exact ⟨0, Nat.zero_le _, rfl, fun j hj => by omega, Below.refl _ _⟩
  case round =>
    obtain ⟨k, hk, rfl, ha, hb⟩ := hrel
    have HB := Lib.hid hb
    have HAK := Lib.hid ha
    clear hb ha
    by_cases hlt : k < n
    · have hlt' : decide ((k : Int) < n) = true := decide_eq_true (by omega)
      have hkl : k < l.length := by rw [HN.out]; exact hlt
      obtain ⟨g, o, rfl, hg, hN, hC, hX⟩ := HA.out.low HB.out k hkl
      have HX := Lib.hid hX
      have HHK := Lib.hid (HH.out k hlt)
      clear hX
      obtain ⟨c0, c1, c2, c3, c4, c5, c6, c7, c8, c9⟩ := hC
      generalize hxe : eAt l k = x at *
      have HXE := Lib.hid hxe
      clear hxe
      go_wp2_with fail
      refine (HD.out N x _ (HX.out.low (below_alloc _ _))).mono ?_
      rintro e w' ⟨rfl, hb⟩
      have HB2 := Lib.hid (below_next HB.out (Below.of_alloc hb))
      clear hb c0 c1 c2 c3 c4 c5 c6 c7 c8 c9
      cases hv : vE d x
      · have HV := Lib.hid (HHK.out hv)
        clear hv
        go_wp2
        go_ret
        exact ⟨ret_bool HV.out.symm, HB2.out⟩
      · have HV := Lib.hid hv
        clear hv
        go_wp2
        go_roundw
        case rel => exact ⟨k + 1, by omega, by go_num, all_succ HAK.out (by rw [HXE.out]; exact HV.out), HB2.out⟩
        case measure => simp [intOf]; omega
    · have hlt' : decide ((k : Int) < n) = false := decide_eq_false (by omega)
      obtain rfl : k = n := by omega
      have HV := Lib.hid (HNN.out HAK.out)
      go_wp2
      go_ret
      exact ⟨ret_bool HV.out.symm, HB.out⟩

theorem sub_shape {V : Ex → Bool} {k : Int} {l : List Qu} : (decide (l.length = 1) && l.all (quB V k)) = (decide (l.length = 1) && (decide ((qAt l 0).items.length = itemN k) && decide ((qAt l 0).wh.length ≤ 1)) && l.all (quB V k)) := by
  match l with
  | [] => rfl
  | [q] =>
    show (true && (quB V k q && true)) = (true && (decide (q.items.length = itemN k) && decide (q.wh.length ≤ 1)) && (quB V k q && true))
    unfold quB
    generalize (q.st == decide (k = 8)) = a
    generalize decide (q.items.length = itemN k) = b
    generalize decide (q.wh.length ≤ 1) = c
    generalize srcB q.fr = d
    generalize q.items.all V = e
    generalize q.wh.all V = f
    revert a b c d e f
    decide
  | _ :: _ :: _ => simp
theorem shape_sub : ∀ (a s sa di p aa o n : Bool), (s && sa) = (s && di && sa) → (true && a && s && o && (!n || false) && (p && aa && sa)) = ((true && a && s && true && di) && (false || o) && (false || !n) && (p && aa && sa)) := by decide
theorem shape_five : ∀ (a s r n p : Bool), (true && a && s && r && (!n || false) && p) = ((true && a && s && r && true) && true && (false || !n) && p) := by decide
theorem shape_rest : ∀ (a s o n k6 p : Bool), (true && a && s && o && (!n || k6) && p) = ((true && a && s && true && true) && (false || o) && (k6 || !n) && p) := by decide
/-- What is well-formed, by its shape and the rest. -/
theorem vOf_shape {V : Ex → Bool} {e : Ex} : vOf V e = (shapeB e && (decide (e.k = 5) || decide (e.op = 0)) && (decide (e.k = 6) || !e.no)
    && (if e.k = 1 then validB e.vk e.vi e.vt && decide (0 ≤ e.vi) && eqT e.tb ⟨#[]⟩ && eqT e.nm ⟨#[]⟩
      else if e.k = 2 then noVal e && qualB e.tb && nameOK e.nm
      else plainB e && e.args.all V && e.sub.all (quB V e.k))) := by
  unfold vOf shapeB
  by_cases hr : 1 ≤ e.k ∧ e.k ≤ 12
  · rw [decide_eq_true hr]
    by_cases h8 : 8 ≤ e.k
    · have h1 : ¬ e.k = 1 := by omega
      have h2 : ¬ e.k = 2 := by omega
      have h5 : ¬ e.k = 5 := by omega
      have h6 : ¬ e.k = 6 := by omega
      rw [if_neg h5, if_neg h5, if_pos h8, if_neg h1, if_neg h2, decide_eq_false h5, decide_eq_false h6, show subN e.k = 1 from if_pos ⟨h8, hr.2⟩]
      exact shape_sub _ _ _ _ _ _ _ _ sub_shape
    · rw [if_neg h8]
      by_cases h5 : e.k = 5
      · have h6 : ¬ e.k = 6 := by omega
        rw [if_pos h5, if_pos h5, decide_eq_true h5, decide_eq_false h6, Bool.true_or]
        exact shape_five _ _ _ _ _
      · rw [if_neg h5, if_neg h5, decide_eq_false h5]
        exact shape_rest _ _ _ _ _ _
  · rw [decide_eq_false hr]
    simp only [Bool.false_and]
end Go.Proofs.YtlpaphgmdcpmaaaGreatDoor
/-
  ValidExpr of reference 11, by cases.
-/
namespace Go.Proofs.YtlpaphgmdcpmaaaGreatDoor
set_option maxRecDepth 100000
open Go.RowKit
variable {ls : List Nat}

set_option maxHeartbeats 1000000 in
theorem rvalid_bad {N : Nat → Prop} {d : Nat} (e : Ex) (w : World) (hQ : QAt N w (ExAt N w d) e.ps e.sub) (h : shapeB e = false ∨ (e.k ≠ 5 ∧ e.op ≠ 0) ∨ (e.k ≠ 6 ∧ e.no = true)) :
    Calls Tryz.prog 29 #[exV e] w fun r w' => r = .returned (.bool false) ∧ Below w.heap.size w w' := by
  have HS := Lib.hid fun u (hb : Below w.heap.size w u) => rshape e u (hQ.low hb)
  clear hQ
  generalize shapeB e = sh at *
  obtain ⟨k, op, no, vk, vi, vt, tb, nm, pa, ca, args, ps, cs, sub⟩ := e
  unfold exV at *
  simp only [Ex.mk_k, Ex.mk_op, Ex.mk_no, Ex.mk_vk, Ex.mk_vi, Ex.mk_vt, Ex.mk_tb, Ex.mk_nm, Ex.mk_pa, Ex.mk_ca, Ex.mk_args, Ex.mk_ps, Ex.mk_cs, Ex.mk_sub] at *
  cases sh
  · clear h
    go_enter Tryz.func29, Tryz.ntmps29
    go_wp2_with fail
    refine (HS.out _ (below_alloc _ _)).mono ?_
    rintro e w' ⟨rfl, hb⟩
    have hbx := ExB.new w (Ex.mk k op no vk vi vt tb nm pa ca args ps cs sub) 27
    simp only [Ex.mk_k, Ex.mk_op, Ex.mk_no, Ex.mk_vk, Ex.mk_vi, Ex.mk_vt, Ex.mk_tb, Ex.mk_nm, Ex.mk_pa, Ex.mk_ca, Ex.mk_args, Ex.mk_ps, Ex.mk_cs, Ex.mk_sub] at hbx
    have HXB := Lib.hid (hbx.low hb)
    have HB := Lib.hid (Below.of_alloc hb)
    clear hb hbx
    obtain ⟨xl, x0, x1, x2, x3, x4, x5, x6, x7, x8, x9, -⟩ := HXB.out
    simp only [Ex.mk_k, Ex.mk_op, Ex.mk_no, Ex.mk_vk, Ex.mk_vi, Ex.mk_vt, Ex.mk_tb, Ex.mk_nm, Ex.mk_pa, Ex.mk_ca, Ex.mk_args, Ex.mk_ps, Ex.mk_cs, Ex.mk_sub] at x0 x1 x2 x3 x4 x5 x6 x7 x8 x9
    go_wp2
    go_ret
    exact ⟨rfl, HB.out⟩
  replace h : (k ≠ 5 ∧ op ≠ 0) ∨ (k ≠ 6 ∧ no = true) := by rcases h with h | h; exact absurd h (by decide); exact h
  by_cases h5 : k = 5
  · have h6 : ¬ k = 6 := by omega
    obtain rfl : no = true := by rcases h with h | h; exact absurd h5 h.1; exact h.2
    clear h
    have b5 : (k == 5) = true := beq_iff_eq.2 h5
    have b5' : (k != 5) = false := by rw [bne, b5]; rfl
    have b6 : (k == 6) = false := beq_eq_false_iff_ne.2 h6
    have b6' : (k != 6) = true := by rw [bne, b6]; rfl
    clear h5 h6
    go_enter Tryz.func29, Tryz.ntmps29
    go_wp2_with fail
    refine (HS.out _ (below_alloc _ _)).mono ?_
    rintro e w' ⟨rfl, hb⟩
    have hbx := ExB.new w (Ex.mk k op true vk vi vt tb nm pa ca args ps cs sub) 27
    simp only [Ex.mk_k, Ex.mk_op, Ex.mk_no, Ex.mk_vk, Ex.mk_vi, Ex.mk_vt, Ex.mk_tb, Ex.mk_nm, Ex.mk_pa, Ex.mk_ca, Ex.mk_args, Ex.mk_ps, Ex.mk_cs, Ex.mk_sub] at hbx
    have HXB := Lib.hid (hbx.low hb)
    have HB := Lib.hid (Below.of_alloc hb)
    clear hb hbx
    obtain ⟨xl, x0, x1, x2, x3, x4, x5, x6, x7, x8, x9, -⟩ := HXB.out
    simp only [Ex.mk_k, Ex.mk_op, Ex.mk_no, Ex.mk_vk, Ex.mk_vi, Ex.mk_vt, Ex.mk_tb, Ex.mk_nm, Ex.mk_pa, Ex.mk_ca, Ex.mk_args, Ex.mk_ps, Ex.mk_cs, Ex.mk_sub] at x0 x1 x2 x3 x4 x5 x6 x7 x8 x9
    go_wp2
    go_ret
    exact ⟨rfl, HB.out⟩
  have b5 : (k == 5) = false := beq_eq_false_iff_ne.2 h5
  have b5' : (k != 5) = true := by rw [bne, b5]; rfl
  by_cases ho : op = 0
  · obtain ⟨h6, rfl⟩ : k ≠ 6 ∧ no = true := by rcases h with h | h; exact absurd ho h.2; exact h
    clear h h5
    have o1 : (op == 0) = true := beq_iff_eq.2 ho
    have o1' : (op != 0) = false := by rw [bne, o1]; rfl
    have b6 : (k == 6) = false := beq_eq_false_iff_ne.2 h6
    have b6' : (k != 6) = true := by rw [bne, b6]; rfl
    clear ho h6
    go_enter Tryz.func29, Tryz.ntmps29
    go_wp2_with fail
    refine (HS.out _ (below_alloc _ _)).mono ?_
    rintro e w' ⟨rfl, hb⟩
    have hbx := ExB.new w (Ex.mk k op true vk vi vt tb nm pa ca args ps cs sub) 27
    simp only [Ex.mk_k, Ex.mk_op, Ex.mk_no, Ex.mk_vk, Ex.mk_vi, Ex.mk_vt, Ex.mk_tb, Ex.mk_nm, Ex.mk_pa, Ex.mk_ca, Ex.mk_args, Ex.mk_ps, Ex.mk_cs, Ex.mk_sub] at hbx
    have HXB := Lib.hid (hbx.low hb)
    have HB := Lib.hid (Below.of_alloc hb)
    clear hb hbx
    obtain ⟨xl, x0, x1, x2, x3, x4, x5, x6, x7, x8, x9, -⟩ := HXB.out
    simp only [Ex.mk_k, Ex.mk_op, Ex.mk_no, Ex.mk_vk, Ex.mk_vi, Ex.mk_vt, Ex.mk_tb, Ex.mk_nm, Ex.mk_pa, Ex.mk_ca, Ex.mk_args, Ex.mk_ps, Ex.mk_cs, Ex.mk_sub] at x0 x1 x2 x3 x4 x5 x6 x7 x8 x9
    go_wp2
    go_ret
    exact ⟨rfl, HB.out⟩
  have o1 : (op == 0) = false := beq_eq_false_iff_ne.2 ho
  have o1' : (op != 0) = true := by rw [bne, o1]; rfl
  clear h h5 ho
  go_enter Tryz.func29, Tryz.ntmps29
  go_wp2_with fail
  refine (HS.out _ (below_alloc _ _)).mono ?_
  rintro e w' ⟨rfl, hb⟩
  have hbx := ExB.new w (Ex.mk k op no vk vi vt tb nm pa ca args ps cs sub) 27
  simp only [Ex.mk_k, Ex.mk_op, Ex.mk_no, Ex.mk_vk, Ex.mk_vi, Ex.mk_vt, Ex.mk_tb, Ex.mk_nm, Ex.mk_pa, Ex.mk_ca, Ex.mk_args, Ex.mk_ps, Ex.mk_cs, Ex.mk_sub] at hbx
  have HXB := Lib.hid (hbx.low hb)
  have HB := Lib.hid (Below.of_alloc hb)
  clear hb hbx
  obtain ⟨xl, x0, x1, x2, x3, x4, x5, x6, x7, x8, x9, -⟩ := HXB.out
  simp only [Ex.mk_k, Ex.mk_op, Ex.mk_no, Ex.mk_vk, Ex.mk_vi, Ex.mk_vt, Ex.mk_tb, Ex.mk_nm, Ex.mk_pa, Ex.mk_ca, Ex.mk_args, Ex.mk_ps, Ex.mk_cs, Ex.mk_sub] at x0 x1 x2 x3 x4 x5 x6 x7 x8 x9
  go_wp2
  go_ret
  exact ⟨rfl, HB.out⟩
theorem valid_neg {k n : Int} {s : ByteArray} (h : validB k n s = true) (hn : n < 0) : k = 1 := by
  unfold validB at h
  by_cases h1 : k = 1
  · exact h1
  · exfalso
    revert h
    repeat' split
    all_goals (simp; try omega)
set_option maxHeartbeats 1000000 in
theorem rvalid_k1 {N : Nat → Prop} {d : Nat} (e : Ex) (w : World) (hQ : QAt N w (ExAt N w d) e.ps e.sub) (hz : e.vt.size ≤ 9223372036854775807) (hs : shapeB e = true) (ho : e.op = 0) (hn : e.no = false) (hk : e.k = 1) :
    Calls Tryz.prog 29 #[exV e] w fun r w' => r = .returned (.bool (validB e.vk e.vi e.vt && decide (0 ≤ e.vi) && eqT e.tb ⟨#[]⟩ && eqT e.nm ⟨#[]⟩)) ∧ Below w.heap.size w w' := by
  have HS := Lib.hid fun u (hb : Below w.heap.size w u) => rshape e u (hQ.low hb)
  clear hQ
  rw [hs] at HS
  clear hs
  rw [← empty_eqT, ← empty_eqT]
  obtain ⟨k, op, no, vk, vi, vt, tb, nm, pa, ca, args, ps, cs, sub⟩ := e
  unfold exV at *
  simp only [Ex.mk_k, Ex.mk_op, Ex.mk_no, Ex.mk_vk, Ex.mk_vi, Ex.mk_vt, Ex.mk_tb, Ex.mk_nm, Ex.mk_pa, Ex.mk_ca, Ex.mk_args, Ex.mk_ps, Ex.mk_cs, Ex.mk_sub] at *
  subst hk ho hn
  have HZ := Lib.hid hz
  clear hz
  cases hv : validB vk vi vt
  all_goals
    have HV := Lib.hid (fun u => rval_eq HZ.out hv u)
    have hvt := hv
    clear hv
  · clear hvt
    go_enter Tryz.func29, Tryz.ntmps29
    go_wp2_with fail
    refine (HS.out _ (below_alloc _ _)).mono ?_
    rintro e w' ⟨rfl, hb⟩
    have hbx := ExB.new w (Ex.mk 1 0 false vk vi vt tb nm pa ca args ps cs sub) 27
    simp only [Ex.mk_k, Ex.mk_op, Ex.mk_no, Ex.mk_vk, Ex.mk_vi, Ex.mk_vt, Ex.mk_tb, Ex.mk_nm, Ex.mk_pa, Ex.mk_ca, Ex.mk_args, Ex.mk_ps, Ex.mk_cs, Ex.mk_sub] at hbx
    have HXB := Lib.hid (hbx.low hb)
    have HB := Lib.hid (Below.of_alloc hb)
    clear hb hbx
    obtain ⟨xl, x0, x1, x2, x3, x4, x5, x6, x7, x8, x9, -⟩ := HXB.out
    simp only [Ex.mk_k, Ex.mk_op, Ex.mk_no, Ex.mk_vk, Ex.mk_vi, Ex.mk_vt, Ex.mk_tb, Ex.mk_nm, Ex.mk_pa, Ex.mk_ca, Ex.mk_args, Ex.mk_ps, Ex.mk_cs, Ex.mk_sub] at x0 x1 x2 x3 x4 x5 x6 x7 x8 x9
    go_wp2_with fail
    refine (HV.out _).mono ?_
    rintro e w2 ⟨rfl, hb2⟩
    have HB2 := Lib.hid (below_next HB.out hb2)
    have HX2 := Lib.hid (HXB.out.low hb2)
    clear hb2 xl x0 x1 x2 x3 x4 x5 x6 x7 x8 x9
    obtain ⟨xl, x0, x1, x2, x3, x4, x5, x6, x7, x8, x9, -⟩ := HX2.out
    simp only [Ex.mk_k, Ex.mk_op, Ex.mk_no, Ex.mk_vk, Ex.mk_vi, Ex.mk_vt, Ex.mk_tb, Ex.mk_nm, Ex.mk_pa, Ex.mk_ca, Ex.mk_args, Ex.mk_ps, Ex.mk_cs, Ex.mk_sub] at x0 x1 x2 x3 x4 x5 x6 x7 x8 x9
    go_wp2
    go_ret
    exact ⟨rfl, HB2.out⟩
  by_cases hi : 0 ≤ vi
  case neg =>
    obtain rfl : vk = 1 := valid_neg hvt (by omega)
    have HI := Lib.hid (decide_eq_false hi)
    have i1 : decide (0 ≤ vi) = false := decide_eq_false hi
    clear hi hvt
    go_enter Tryz.func29, Tryz.ntmps29
    go_wp2_with fail
    refine (HS.out _ (below_alloc _ _)).mono ?_
    rintro e w' ⟨rfl, hb⟩
    have hbx := ExB.new w (Ex.mk 1 0 false 1 vi vt tb nm pa ca args ps cs sub) 27
    simp only [Ex.mk_k, Ex.mk_op, Ex.mk_no, Ex.mk_vk, Ex.mk_vi, Ex.mk_vt, Ex.mk_tb, Ex.mk_nm, Ex.mk_pa, Ex.mk_ca, Ex.mk_args, Ex.mk_ps, Ex.mk_cs, Ex.mk_sub] at hbx
    have HXB := Lib.hid (hbx.low hb)
    have HB := Lib.hid (Below.of_alloc hb)
    clear hb hbx
    obtain ⟨xl, x0, x1, x2, x3, x4, x5, x6, x7, x8, x9, -⟩ := HXB.out
    simp only [Ex.mk_k, Ex.mk_op, Ex.mk_no, Ex.mk_vk, Ex.mk_vi, Ex.mk_vt, Ex.mk_tb, Ex.mk_nm, Ex.mk_pa, Ex.mk_ca, Ex.mk_args, Ex.mk_ps, Ex.mk_cs, Ex.mk_sub] at x0 x1 x2 x3 x4 x5 x6 x7 x8 x9
    go_wp2_with fail
    refine (HV.out _).mono ?_
    rintro e w2 ⟨rfl, hb2⟩
    have HB2 := Lib.hid (below_next HB.out hb2)
    have HX2 := Lib.hid (HXB.out.low hb2)
    clear hb2 xl x0 x1 x2 x3 x4 x5 x6 x7 x8 x9
    obtain ⟨xl, x0, x1, x2, x3, x4, x5, x6, x7, x8, x9, -⟩ := HX2.out
    simp only [Ex.mk_k, Ex.mk_op, Ex.mk_no, Ex.mk_vk, Ex.mk_vi, Ex.mk_vt, Ex.mk_tb, Ex.mk_nm, Ex.mk_pa, Ex.mk_ca, Ex.mk_args, Ex.mk_ps, Ex.mk_cs, Ex.mk_sub] at x0 x1 x2 x3 x4 x5 x6 x7 x8 x9
    go_wp2
    go_ret
    exact ⟨ret_bool (by have h := of_decide_eq_false HI.out; simp [h]), HB2.out⟩
  clear hvt
  have HI := Lib.hid (decide_eq_true hi)
  have i1 : decide (0 ≤ vi) = true := decide_eq_true hi
  clear hi
  have hT : Hid (tb.toList.isEmpty = true) ∧ tb.toList = [] ∨ Hid (tb.toList.isEmpty = false) ∧ (tb.toList == []) = false := by
    cases h : tb.toList <;> simp [Hid]
  have hN : Hid (nm.toList.isEmpty = true) ∧ nm.toList = [] ∨ Hid (nm.toList.isEmpty = false) ∧ (nm.toList == []) = false := by
    cases h : nm.toList <;> simp [Hid]
  have hK : ((vk == 1) = true ∧ (vk != 1) = false) ∨ ((vk == 1) = false ∧ (vk != 1) = true) := by
    rw [bne]; cases (vk == 1) <;> simp
  rcases hT with ⟨HT, t1⟩ | ⟨HT, t1⟩ <;> rcases hN with ⟨HN, n1⟩ | ⟨HN, n1⟩ <;> rcases hK with ⟨v1, v1'⟩ | ⟨v1, v1'⟩
  all_goals
    go_enter Tryz.func29, Tryz.ntmps29
    go_wp2_with fail
    refine (HS.out _ (below_alloc _ _)).mono ?_
    rintro e w' ⟨rfl, hb⟩
    have hbx := ExB.new w (Ex.mk 1 0 false vk vi vt tb nm pa ca args ps cs sub) 27
    simp only [Ex.mk_k, Ex.mk_op, Ex.mk_no, Ex.mk_vk, Ex.mk_vi, Ex.mk_vt, Ex.mk_tb, Ex.mk_nm, Ex.mk_pa, Ex.mk_ca, Ex.mk_args, Ex.mk_ps, Ex.mk_cs, Ex.mk_sub] at hbx
    have HXB := Lib.hid (hbx.low hb)
    have HB := Lib.hid (Below.of_alloc hb)
    clear hb hbx
    obtain ⟨xl, x0, x1, x2, x3, x4, x5, x6, x7, x8, x9, -⟩ := HXB.out
    simp only [Ex.mk_k, Ex.mk_op, Ex.mk_no, Ex.mk_vk, Ex.mk_vi, Ex.mk_vt, Ex.mk_tb, Ex.mk_nm, Ex.mk_pa, Ex.mk_ca, Ex.mk_args, Ex.mk_ps, Ex.mk_cs, Ex.mk_sub] at x0 x1 x2 x3 x4 x5 x6 x7 x8 x9
    go_wp2_with fail
    refine (HV.out _).mono ?_
    rintro e w2 ⟨rfl, hb2⟩
    have HB2 := Lib.hid (below_next HB.out hb2)
    have HX2 := Lib.hid (HXB.out.low hb2)
    clear hb2 xl x0 x1 x2 x3 x4 x5 x6 x7 x8 x9
    obtain ⟨xl, x0, x1, x2, x3, x4, x5, x6, x7, x8, x9, -⟩ := HX2.out
    simp only [Ex.mk_k, Ex.mk_op, Ex.mk_no, Ex.mk_vk, Ex.mk_vi, Ex.mk_vt, Ex.mk_tb, Ex.mk_nm, Ex.mk_pa, Ex.mk_ca, Ex.mk_args, Ex.mk_ps, Ex.mk_cs, Ex.mk_sub] at x0 x1 x2 x3 x4 x5 x6 x7 x8 x9
    go_wp2
    go_ret
    exact ⟨ret_bool (by rw [HT.out, HN.out]; have h := of_decide_eq_true HI.out; simp [h]), HB2.out⟩
set_option maxHeartbeats 2000000 in
theorem rvalid_k2 {N : Nat → Prop} {d : Nat} (e : Ex) (w : World) (hQ : QAt N w (ExAt N w d) e.ps e.sub) (hzt : e.tb.size ≤ 9223372036854775807) (hzn : e.nm.size ≤ 9223372036854775807) (hs : shapeB e = true) (ho : e.op = 0) (hn : e.no = false) (hk : e.k = 2) :
    Calls Tryz.prog 29 #[exV e] w fun r w' => r = .returned (.bool (noVal e && qualB e.tb && nameOK e.nm)) ∧ Below w.heap.size w w' := by
  have HS := Lib.hid fun u (hb : Below w.heap.size w u) => rshape e u (hQ.low hb)
  clear hQ
  rw [hs] at HS
  clear hs
  rw [noVal_same]
  obtain ⟨k, op, no, vk, vi, vt, tb, nm, pa, ca, args, ps, cs, sub⟩ := e
  unfold exV at *
  simp only [Ex.mk_k, Ex.mk_op, Ex.mk_no, Ex.mk_vk, Ex.mk_vi, Ex.mk_vt, Ex.mk_tb, Ex.mk_nm, Ex.mk_pa, Ex.mk_ca, Ex.mk_args, Ex.mk_ps, Ex.mk_cs, Ex.mk_sub] at *
  have hd : qualB tb = (decide (tb.toList = []) || srcB tb || decide (tb.toList = [78, 69, 87]) || decide (tb.toList = [79, 76, 68])) := by rw [← eqT_lit, ← eqT_lit, ← eqT_lit]; rfl
  subst hk ho hn
  have HSC := Lib.hid (rsource_any tb hzt)
  have HZN := Lib.hid hzn
  clear hzt hzn
  have hN : ∃ b, Hid (nameOK nm = b) ∧ Hid (∀ u, Calls Tryz.prog 57 #[.string nm] u fun e w' => e = .returned (.bool b) ∧ w' = u) := ⟨_, Lib.hid rfl, Lib.hid fun u => rvname_eq HZN.out rfl u⟩
  have hV : ∃ b, Hid (sameV vk vi vt 0 0 ⟨#[]⟩ = b) ∧ ∀ u, (binOp .eql 23 (.agg #[.int .i64 vk, .int .i64 vi, .string vt]) (.agg #[.int .i64 0, .int .i64 0, .string ⟨#[]⟩])).run Tryz.prog u = .ok (.bool b) u := ⟨_, Lib.hid rfl, fun u => eql_val _ _ _ _ _ _ u⟩
  obtain ⟨bn, HBN, HN⟩ := hN
  obtain ⟨bv, HBV, hq⟩ := hV
  obtain ⟨bs, HBS⟩ : ∃ b, Hid (srcB tb = b) := ⟨_, Lib.hid rfl⟩
  rw [HBS.out] at HSC hd
  by_cases h0 : tb.toList = []
  · have HD := Lib.hid (show qualB tb = true by rw [hd]; simp [h0])
    clear hd
    go_enter Tryz.func29, Tryz.ntmps29
    go_wp2_with fail
    refine (HS.out _ (below_alloc _ _)).mono ?_
    rintro e w' ⟨rfl, hb⟩
    have hbx := ExB.new w (Ex.mk 2 0 false vk vi vt tb nm pa ca args ps cs sub) 27
    simp only [Ex.mk_k, Ex.mk_op, Ex.mk_no, Ex.mk_vk, Ex.mk_vi, Ex.mk_vt, Ex.mk_tb, Ex.mk_nm, Ex.mk_pa, Ex.mk_ca, Ex.mk_args, Ex.mk_ps, Ex.mk_cs, Ex.mk_sub] at hbx
    have HXB := Lib.hid (hbx.low hb)
    have HB := Lib.hid (Below.of_alloc hb)
    clear hb hbx
    obtain ⟨xl, x0, x1, x2, x3, x4, x5, x6, x7, x8, x9, -⟩ := HXB.out
    simp only [Ex.mk_k, Ex.mk_op, Ex.mk_no, Ex.mk_vk, Ex.mk_vi, Ex.mk_vt, Ex.mk_tb, Ex.mk_nm, Ex.mk_pa, Ex.mk_ca, Ex.mk_args, Ex.mk_ps, Ex.mk_cs, Ex.mk_sub] at x0 x1 x2 x3 x4 x5 x6 x7 x8 x9
    go_wp2_with fail
    refine (HN.out _).mono ?_
    rintro e w3 ⟨rfl, rfl⟩
    cases bn
    all_goals
      go_wp2
      go_ret
      exact ⟨ret_bool (by rw [HBV.out, HBN.out, HD.out]; simp), HB.out⟩
  have e0 : (tb.toList == []) = false := by simpa using h0
  cases bs
  case true =>
    have HD := Lib.hid (show qualB tb = true by rw [hd]; simp)
    clear hd h0
    go_enter Tryz.func29, Tryz.ntmps29
    go_wp2_with fail
    refine (HS.out _ (below_alloc _ _)).mono ?_
    rintro e w' ⟨rfl, hb⟩
    have hbx := ExB.new w (Ex.mk 2 0 false vk vi vt tb nm pa ca args ps cs sub) 27
    simp only [Ex.mk_k, Ex.mk_op, Ex.mk_no, Ex.mk_vk, Ex.mk_vi, Ex.mk_vt, Ex.mk_tb, Ex.mk_nm, Ex.mk_pa, Ex.mk_ca, Ex.mk_args, Ex.mk_ps, Ex.mk_cs, Ex.mk_sub] at hbx
    have HXB := Lib.hid (hbx.low hb)
    have HB := Lib.hid (Below.of_alloc hb)
    clear hb hbx
    obtain ⟨xl, x0, x1, x2, x3, x4, x5, x6, x7, x8, x9, -⟩ := HXB.out
    simp only [Ex.mk_k, Ex.mk_op, Ex.mk_no, Ex.mk_vk, Ex.mk_vi, Ex.mk_vt, Ex.mk_tb, Ex.mk_nm, Ex.mk_pa, Ex.mk_ca, Ex.mk_args, Ex.mk_ps, Ex.mk_cs, Ex.mk_sub] at x0 x1 x2 x3 x4 x5 x6 x7 x8 x9
    go_wp2_with fail
    refine (HSC.out _).mono ?_
    rintro e w2 ⟨rfl, hb2⟩
    have HB2 := Lib.hid (below_next HB.out hb2)
    have HX2 := Lib.hid (HXB.out.low hb2)
    clear hb2 xl x0 x1 x2 x3 x4 x5 x6 x7 x8 x9
    obtain ⟨xl, x0, x1, x2, x3, x4, x5, x6, x7, x8, x9, -⟩ := HX2.out
    simp only [Ex.mk_k, Ex.mk_op, Ex.mk_no, Ex.mk_vk, Ex.mk_vi, Ex.mk_vt, Ex.mk_tb, Ex.mk_nm, Ex.mk_pa, Ex.mk_ca, Ex.mk_args, Ex.mk_ps, Ex.mk_cs, Ex.mk_sub] at x0 x1 x2 x3 x4 x5 x6 x7 x8 x9
    go_wp2_with fail
    refine (HN.out _).mono ?_
    rintro e w3 ⟨rfl, rfl⟩
    cases bn
    all_goals
      go_wp2
      go_ret
      exact ⟨ret_bool (by rw [HBV.out, HBN.out, HD.out]; simp), HB2.out⟩
  by_cases h1 : tb.toList = [78, 69, 87]
  · have HD := Lib.hid (show qualB tb = true by rw [hd]; simp [h1])
    clear hd h0
    go_enter Tryz.func29, Tryz.ntmps29
    go_wp2_with fail
    refine (HS.out _ (below_alloc _ _)).mono ?_
    rintro e w' ⟨rfl, hb⟩
    have hbx := ExB.new w (Ex.mk 2 0 false vk vi vt tb nm pa ca args ps cs sub) 27
    simp only [Ex.mk_k, Ex.mk_op, Ex.mk_no, Ex.mk_vk, Ex.mk_vi, Ex.mk_vt, Ex.mk_tb, Ex.mk_nm, Ex.mk_pa, Ex.mk_ca, Ex.mk_args, Ex.mk_ps, Ex.mk_cs, Ex.mk_sub] at hbx
    have HXB := Lib.hid (hbx.low hb)
    have HB := Lib.hid (Below.of_alloc hb)
    clear hb hbx
    obtain ⟨xl, x0, x1, x2, x3, x4, x5, x6, x7, x8, x9, -⟩ := HXB.out
    simp only [Ex.mk_k, Ex.mk_op, Ex.mk_no, Ex.mk_vk, Ex.mk_vi, Ex.mk_vt, Ex.mk_tb, Ex.mk_nm, Ex.mk_pa, Ex.mk_ca, Ex.mk_args, Ex.mk_ps, Ex.mk_cs, Ex.mk_sub] at x0 x1 x2 x3 x4 x5 x6 x7 x8 x9
    go_wp2_with fail
    refine (HSC.out _).mono ?_
    rintro e w2 ⟨rfl, hb2⟩
    have HB2 := Lib.hid (below_next HB.out hb2)
    have HX2 := Lib.hid (HXB.out.low hb2)
    clear hb2 xl x0 x1 x2 x3 x4 x5 x6 x7 x8 x9
    obtain ⟨xl, x0, x1, x2, x3, x4, x5, x6, x7, x8, x9, -⟩ := HX2.out
    simp only [Ex.mk_k, Ex.mk_op, Ex.mk_no, Ex.mk_vk, Ex.mk_vi, Ex.mk_vt, Ex.mk_tb, Ex.mk_nm, Ex.mk_pa, Ex.mk_ca, Ex.mk_args, Ex.mk_ps, Ex.mk_cs, Ex.mk_sub] at x0 x1 x2 x3 x4 x5 x6 x7 x8 x9
    go_wp2_with fail
    refine (HN.out _).mono ?_
    rintro e w3 ⟨rfl, rfl⟩
    cases bn
    all_goals
      go_wp2
      go_ret
      exact ⟨ret_bool (by rw [HBV.out, HBN.out, HD.out]; simp), HB2.out⟩
  have e1 : (tb.toList == [78, 69, 87]) = false := by simpa using h1
  by_cases h2 : tb.toList = [79, 76, 68]
  · have HD := Lib.hid (show qualB tb = true by rw [hd]; simp [h2])
    clear hd h0 h1
    go_enter Tryz.func29, Tryz.ntmps29
    go_wp2_with fail
    refine (HS.out _ (below_alloc _ _)).mono ?_
    rintro e w' ⟨rfl, hb⟩
    have hbx := ExB.new w (Ex.mk 2 0 false vk vi vt tb nm pa ca args ps cs sub) 27
    simp only [Ex.mk_k, Ex.mk_op, Ex.mk_no, Ex.mk_vk, Ex.mk_vi, Ex.mk_vt, Ex.mk_tb, Ex.mk_nm, Ex.mk_pa, Ex.mk_ca, Ex.mk_args, Ex.mk_ps, Ex.mk_cs, Ex.mk_sub] at hbx
    have HXB := Lib.hid (hbx.low hb)
    have HB := Lib.hid (Below.of_alloc hb)
    clear hb hbx
    obtain ⟨xl, x0, x1, x2, x3, x4, x5, x6, x7, x8, x9, -⟩ := HXB.out
    simp only [Ex.mk_k, Ex.mk_op, Ex.mk_no, Ex.mk_vk, Ex.mk_vi, Ex.mk_vt, Ex.mk_tb, Ex.mk_nm, Ex.mk_pa, Ex.mk_ca, Ex.mk_args, Ex.mk_ps, Ex.mk_cs, Ex.mk_sub] at x0 x1 x2 x3 x4 x5 x6 x7 x8 x9
    go_wp2_with fail
    refine (HSC.out _).mono ?_
    rintro e w2 ⟨rfl, hb2⟩
    have HB2 := Lib.hid (below_next HB.out hb2)
    have HX2 := Lib.hid (HXB.out.low hb2)
    clear hb2 xl x0 x1 x2 x3 x4 x5 x6 x7 x8 x9
    obtain ⟨xl, x0, x1, x2, x3, x4, x5, x6, x7, x8, x9, -⟩ := HX2.out
    simp only [Ex.mk_k, Ex.mk_op, Ex.mk_no, Ex.mk_vk, Ex.mk_vi, Ex.mk_vt, Ex.mk_tb, Ex.mk_nm, Ex.mk_pa, Ex.mk_ca, Ex.mk_args, Ex.mk_ps, Ex.mk_cs, Ex.mk_sub] at x0 x1 x2 x3 x4 x5 x6 x7 x8 x9
    go_wp2_with fail
    refine (HN.out _).mono ?_
    rintro e w3 ⟨rfl, rfl⟩
    cases bn
    all_goals
      go_wp2
      go_ret
      exact ⟨ret_bool (by rw [HBV.out, HBN.out, HD.out]; simp), HB2.out⟩
  have e2 : (tb.toList == [79, 76, 68]) = false := by simpa using h2
  have HD := Lib.hid (show qualB tb = false by rw [hd]; simp [h0, h1, h2])
  clear hd h0 h1 h2
  go_enter Tryz.func29, Tryz.ntmps29
  go_wp2_with fail
  refine (HS.out _ (below_alloc _ _)).mono ?_
  rintro e w' ⟨rfl, hb⟩
  have hbx := ExB.new w (Ex.mk 2 0 false vk vi vt tb nm pa ca args ps cs sub) 27
  simp only [Ex.mk_k, Ex.mk_op, Ex.mk_no, Ex.mk_vk, Ex.mk_vi, Ex.mk_vt, Ex.mk_tb, Ex.mk_nm, Ex.mk_pa, Ex.mk_ca, Ex.mk_args, Ex.mk_ps, Ex.mk_cs, Ex.mk_sub] at hbx
  have HXB := Lib.hid (hbx.low hb)
  have HB := Lib.hid (Below.of_alloc hb)
  clear hb hbx
  obtain ⟨xl, x0, x1, x2, x3, x4, x5, x6, x7, x8, x9, -⟩ := HXB.out
  simp only [Ex.mk_k, Ex.mk_op, Ex.mk_no, Ex.mk_vk, Ex.mk_vi, Ex.mk_vt, Ex.mk_tb, Ex.mk_nm, Ex.mk_pa, Ex.mk_ca, Ex.mk_args, Ex.mk_ps, Ex.mk_cs, Ex.mk_sub] at x0 x1 x2 x3 x4 x5 x6 x7 x8 x9
  go_wp2_with fail
  refine (HSC.out _).mono ?_
  rintro e w2 ⟨rfl, hb2⟩
  have HB2 := Lib.hid (below_next HB.out hb2)
  have HX2 := Lib.hid (HXB.out.low hb2)
  clear hb2 xl x0 x1 x2 x3 x4 x5 x6 x7 x8 x9
  obtain ⟨xl, x0, x1, x2, x3, x4, x5, x6, x7, x8, x9, -⟩ := HX2.out
  simp only [Ex.mk_k, Ex.mk_op, Ex.mk_no, Ex.mk_vk, Ex.mk_vi, Ex.mk_vt, Ex.mk_tb, Ex.mk_nm, Ex.mk_pa, Ex.mk_ca, Ex.mk_args, Ex.mk_ps, Ex.mk_cs, Ex.mk_sub] at x0 x1 x2 x3 x4 x5 x6 x7 x8 x9
  go_wp2
  go_ret
  exact ⟨ret_bool (by rw [HD.out]; simp), HB2.out⟩
end Go.Proofs.YtlpaphgmdcpmaaaGreatDoor
