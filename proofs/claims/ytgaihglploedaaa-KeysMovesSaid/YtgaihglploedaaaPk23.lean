/-
  Several texts in one.
-/
import Derived.Test.YtgaihglploedaaaPk22
/-
  The law KeysMoves, walked.
-/
namespace Go.Proofs.Ytgaihglploedaaa
set_option maxRecDepth 100000
open Go.RowKit
variable {ls : List Nat}

theorem rows2_lit (u : World) (a b : Int) (A B : Nat) (h1 : RowAt u (some ⟨A, 0, none⟩) (kyL a)) (h2 : RowAt u (some ⟨B, 0, none⟩) (kyL b)) :
    TRowsAt (u.alloc (.cells #[.int .i64 1, .slice (some ⟨A, 0, none⟩) 3 3, .int .i64 2, .slice (some ⟨B, 0, none⟩) 3 3] 34)) (some ⟨u.heap.size, 0, none⟩) (R2 a b) := by
  have hb := below_alloc u (.cells #[.int .i64 1, .slice (some ⟨A, 0, none⟩) 3 3, .int .i64 2, .slice (some ⟨B, 0, none⟩) 3 3] 34)
  intro i hi
  have hi2 : i < 2 := hi
  obtain rfl | rfl : i = 0 ∨ i = 1 := by omega
  · refine ⟨u.heap.size, 0, some ⟨A, 0, none⟩, 3, rfl, by rw [size_alloc]; omega, ?_, ?_, h1.low hb, by show 3 * 32 ≤ 140737488355328; omega, fun h => (by cases h)⟩
    · show World.cell? _ _ = some (.int .i64 1)
      go_simp
    · show World.cell? _ _ = some (.slice (some ⟨A, 0, none⟩) 3 3)
      go_simp
  · refine ⟨u.heap.size, 0, some ⟨B, 0, none⟩, 3, rfl, by rw [size_alloc]; omega, ?_, ?_, h2.low hb, by show 3 * 32 ≤ 140737488355328; omega, fun h => (by cases h)⟩
    · show World.cell? _ _ = some (.int .i64 2)
      go_simp
    · show World.cell? _ _ = some (.slice (some ⟨B, 0, none⟩) 3 3)
      go_simp
theorem r2_sized (a b : Int) : ∀ r ∈ R2 a b, ValsSized r.2 := by
  intro r hr
  simp only [R2, List.mem_cons, List.not_mem_nil, or_false] at hr
  rcases hr with rfl | rfl <;> exact kyL_sized _
set_option maxHeartbeats 16000000 in
theorem moves_walk (a b : Int) (w : World) : Calls Try.prog 4 #[.int .i64 a, .int .i64 b] w fun e w' => e = .returned (.bool true) ∧ Below w.heap.size w w' := by
  by_cases hab : a = b
  · have hab' : (a == b) = true := beq_iff_eq.2 hab
    clear hab
    go_enter Try.func4, Try.ntmps4
    go_wp2_with fail
    refine (known7_any _).mono ?_
    rintro e w1 ⟨rfl, hb1⟩
    have HB1 := Lib.hid hb1
    clear hb1
    go_wp2
    go_ret
    exact ⟨rfl, HB1.out⟩
  · have hab' : (a == b) = false := beq_eq_false_iff_ne.2 hab
    have HAB : Hid (a ≠ b) := Lib.hid hab
    clear hab
    go_enter Try.func4, Try.ntmps4
    go_wp2_with fail
    refine (schemaU_any _).mono ?_
    rintro e w1 ⟨Z, rfl, hZ, -, hb1⟩
    unfold schV
    have HZ1 := Lib.hid hZ
    have HB1 := Lib.hid hb1
    clear hZ hb1
    go_wp2_with fail
    refine (keyed7_any a _).mono ?_
    rintro e w2 ⟨A, rfl, hA, hb2⟩
    have HA2 := Lib.hid hA
    have HZ2 := Lib.hid (HZ1.out.low hb2)
    have HB2 := Lib.hid (below_next HB1.out hb2)
    clear hA hb2 HZ1 HB1
    go_wp2_with fail
    refine (keyed7_any b _).mono ?_
    rintro e w3 ⟨B, rfl, hB, hb3⟩
    have hbr := below_alloc w3 (.cells #[.int .i64 1, .slice (some ⟨A, 0, none⟩) 3 3, .int .i64 2, .slice (some ⟨B, 0, none⟩) 3 3] 34)
    have hbx := below_alloc (w3.alloc (.cells #[.int .i64 1, .slice (some ⟨A, 0, none⟩) 3 3, .int .i64 2, .slice (some ⟨B, 0, none⟩) 3 3] 34)) (.cells #[.string ⟨#[117]⟩, .slice (some ⟨Z, 0, none⟩) 3 3, .int .i64 3, .slice (some ⟨w3.heap.size, 0, none⟩) 2 2] 29)
    have HT3 : Hid (Tab2 ((w3.alloc (.cells #[.int .i64 1, .slice (some ⟨A, 0, none⟩) 3 3, .int .i64 2, .slice (some ⟨B, 0, none⟩) 3 3] 34)).alloc (.cells #[.string ⟨#[117]⟩, .slice (some ⟨Z, 0, none⟩) 3 3, .int .i64 3, .slice (some ⟨w3.heap.size, 0, none⟩) 2 2] 29)) (w3.heap.size + 1) Z (some ⟨w3.heap.size, 0, none⟩) 2 a b) :=
      Lib.hid ⟨(cell4_new _ _ _ _ _ _).at (size_alloc _ _), ⟨(by decide : (1 : Nat) ≤ 9223372036854775807), (by decide : (3 : Nat) ≤ 9223372036854775807), ((HZ2.out.low hb3).low hbr).low hbx, (rows2_lit w3 a b A B (HA2.out.low hb3) hB).low hbx, (by decide : (2 : Nat) ≤ 1000), r2_sized a b, (by decide : (3 : Int) ≤ 9223372036854775807)⟩⟩
    have HB3 := Lib.hid (below_next (below_next (below_next HB2.out hb3) hbr) hbx)
    clear hB hb3 hbr hbx HA2 HZ2 HB2
    go_upto_region 4 with (fail)
    generalize World.alloc _ _ = W3 at HT3 HB3 ⊢
    generalize hX : w3.heap.size + 1 = X at HT3 ⊢
    clear hX
    generalize w3.heap.size = Y at HT3 ⊢
    refine wp_region_slots (use := [[], [], [], [2], [3], [4, 1], [0, 5, 4, 1], [], [7, 6], [7, 6], [], [10, 8, 7, 6], [9]]) (sl := [[28], [29], [30], [31], [32], [33, 32, 29], [34], [27, 34], [35, 27], [36], [6], [6], [7]]) (live := [false, false, false, false, false, false, true, true, false, true, false, true, true]) (st := 11) (B := W3.drew.heap.size) (J := fun w => Tab2 w X Z (some ⟨Y, 0, none⟩) 2 a b) (Φ := fun i f lo hi w => match i with | 0 => f 28 = .agg #[.string ⟨#[117]⟩, .slice (some ⟨Z, 0, none⟩) 3 3, .int .i64 3, .slice (some ⟨Y, 0, none⟩) 2 2] | 1 => isNums [1] 1 (f 29) w | 2 => f 30 = .int .i64 a | 3 => isKey a (f 31) w | 4 => isRows [kyL a] 1 (f 32) w | 5 => f 33 = .agg #[f 32, f 29, .slice none 0 0] | 6 => isRes 0 (fun S => S.R.length = 2 ∧ S.nx = 4) (f 34) lo hi w | 7 => f 27 = f 34 | 8 => ∃ y, f 27 = .tuple #[f 35, y] | 9 => f 36 = .int .i64 0 | 10 => f 6 = .pointer (some ⟨lo, 0, none⟩) ∧ lo < hi ∧ Cell4 w lo (.string ⟨#[]⟩) (.slice none 0 0) (.int .i64 0) (.slice none 0 0) | 11 => isBox (fun S => S.R.length = 2 ∧ S.nx = 4) (f 6) w | 12 => f 7 = .int .i64 0 | _ => True) (by kernel_rfl) _ rfl (by kernel_rfl) (by kernel_rfl) (by exact Nat.le_refl _) (HT3.out.low (Below.refl _ _).drew) (fun _ _ h hb => h.low hb) ?_ ?_ ?_ ?_
    · intro j f g lo hi w w2 hs hb h
      match j, hs, h with
      | 0, hs, h =>
        have e28 := hs 28 (by decide)
        simp only [e28]
        exact h
      | 1, hs, h =>
        have e29 := hs 29 (by decide)
        simp only [e29]
        exact h.low hb
      | 2, hs, h =>
        have e30 := hs 30 (by decide)
        simp only [e30]
        exact h
      | 3, hs, h =>
        have e31 := hs 31 (by decide)
        simp only [e31]
        exact h.low hb
      | 4, hs, h =>
        have e32 := hs 32 (by decide)
        simp only [e32]
        exact h.low hb
      | 5, hs, h =>
        have e33 := hs 33 (by decide)
        have e32 := hs 32 (by decide)
        have e29 := hs 29 (by decide)
        simp only [e33, e32, e29]
        exact h
      | 6, hs, h =>
        have e34 := hs 34 (by decide)
        simp only [e34]
        exact h.low hb
      | 7, hs, h =>
        have e27 := hs 27 (by decide)
        have e34 := hs 34 (by decide)
        simp only [e27, e34]
        exact h
      | 8, hs, h =>
        have e35 := hs 35 (by decide)
        have e27 := hs 27 (by decide)
        simp only [e35, e27]
        exact h
      | 9, hs, h =>
        have e36 := hs 36 (by decide)
        simp only [e36]
        exact h
      | 10, hs, h =>
        have e6 := hs 6 (by decide)
        simp only [e6]
        exact ⟨h.1, h.2.1, h.2.2.low hb⟩
      | 11, hs, h =>
        have e6 := hs 6 (by decide)
        simp only [e6]
        exact h.low hb
      | 12, hs, h =>
        have e7 := hs 7 (by decide)
        simp only [e7]
        exact h
      | _ + 13, _, h => exact h
    · intro i o hi hne f w lo hi2 hold hbe hgr hJ huse
      obtain ⟨kt, kc, kf⟩ := evF_all f
      match i, hi, hne with
      | 0, hi, _ =>
        simp only [List.getElem?_cons_zero, List.getElem?_cons_succ, Option.some.injEq] at hi
        subst hi
        have hj := hJ (.inl (by kernel_rfl))
        obtain ⟨xl, x0, x1, x2, x3, -⟩ := hj.box
        have h0 : f 5 = .pointer (some ⟨X, 0, none⟩) := (hold 5 (by kernel_rfl)).trans rfl
        clear hold huse hJ hbe hgr
        refine gives_K fun K hK => ?_
        go_simp
        exact gives_value (hK _ _ ⟨Below.refl _ _, by simp [upF]⟩)
      | 1, hi, _ =>
        simp only [List.getElem?_cons_zero, List.getElem?_cons_succ, Option.some.injEq] at hi
        subst hi
        clear hold huse hJ hbe hgr
        refine gives_K fun K hK => ?_
        go_simp
        exact gives_value (hK _ _ ⟨below_alloc _ _, _, by simp [upF], nums1_lit w 1⟩)
      | 2, hi, _ =>
        simp only [List.getElem?_cons_zero, List.getElem?_cons_succ, Option.some.injEq] at hi
        subst hi
        have h0 : f 0 = .int .i64 a := (hold 0 (by kernel_rfl)).trans rfl
        clear hold huse hJ hbe hgr
        refine gives_K fun K hK => ?_
        go_simp
        exact gives_value (hK _ _ ⟨Below.refl _ _, by simp [upF]⟩)
      | 3, hi, _ =>
        simp only [List.getElem?_cons_zero, List.getElem?_cons_succ, Option.some.injEq] at hi
        subst hi
        have u2 := huse 2 (by decide)
        simp only at u2
        clear hold huse hJ hbe hgr
        refine gives_K fun K hK => ?_
        go_simp
        refine gives_enter ((keyed7_any a _).mono ?_)
        rintro e w2 ⟨Z1, rfl, hr, hb⟩
        exact ⟨_, rfl, hK _ _ ⟨hb, Z1, by simp [upF], hr⟩⟩
      | 4, hi, _ =>
        simp only [List.getElem?_cons_zero, List.getElem?_cons_succ, Option.some.injEq] at hi
        subst hi
        have u3 := huse 3 (by decide)
        simp only at u3
        obtain ⟨Z1, h1, hr1⟩ := u3
        clear hold huse hJ hbe hgr
        refine gives_K fun K hK => ?_
        go_simp
        exact gives_value (hK _ _ ⟨below_alloc _ _, _, by simp [upF], rows1_lit w a _ hr1⟩)
      | 5, hi, _ =>
        simp only [List.getElem?_cons_zero, List.getElem?_cons_succ, Option.some.injEq] at hi
        subst hi
        have u4 := huse 4 (by decide)
        have u1 := huse 1 (by decide)
        simp only at u4
        simp only at u1
        obtain ⟨p32, h32, -⟩ := u4
        obtain ⟨p29, h29, -⟩ := u1
        clear hold huse hJ hbe hgr
        refine gives_K fun K hK => ?_
        go_simp
        exact gives_value (hK _ _ ⟨Below.refl _ _, by simp [upF, h32, h29]⟩)
      | 6, hi, _ =>
        simp only [List.getElem?_cons_zero, List.getElem?_cons_succ, Option.some.injEq] at hi
        subst hi
        have u0 := huse 0 (by decide)
        have u5 := huse 5 (by decide)
        have u4 := huse 4 (by decide)
        have u1 := huse 1 (by decide)
        simp only at u0
        simp only at u5
        simp only at u4
        simp only at u1
        have hj := hJ (.inl (by kernel_rfl))
        obtain ⟨p32, h32, hr32⟩ := u4
        obtain ⟨p29, h29, hr29⟩ := u1
        rw [h32, h29] at u5
        have hU1 : PairsAt w none [] := fun i hi => by simp at hi
        have hI2 : ∀ l ∈ ([kyL a] : List (List Val)), ∃ n, l = kyL n := by simp only [List.mem_cons, List.not_mem_nil, or_false]; rintro l rfl; exact ⟨_, rfl⟩
        have hU2 : ∀ u ∈ ([] : List PRow), ∃ n, u.2.2 = kyL n := fun u hu => by cases hu
        have HC := Lib.hid (chg_lit (w := w) (I := [kyL a]) (D := [1]) (U := []) hr32 hr29 hU1 rfl rfl rfl (by simp) (by simp) (by simp) hI2 hU2)
        have HJ := Lib.hid hj
        clear hj hr32 hr29 hU1 hI2 hU2
        clear hold huse hJ hbe hgr
        refine gives_K fun K hK => ?_
        go_simp
        refine gives_enter ((apply2_lit (E := 0) (SF := (fun S => S.R.length = 2 ∧ S.nx = 4)) HJ.out HC.out rfl rfl rfl (moved HAB.out).1 (fun _ S h1 h2 => ⟨by rw [h2, (moved HAB.out).2]; rfl, by rw [h1]; rfl⟩) (fun h => absurd rfl h)).mono ?_)
        rintro e w2 ⟨v, rfl, hb, hr⟩
        exact ⟨_, rfl, hK _ _ ⟨hb, by simpa [upF] using hr⟩⟩
      | 7, hi, _ =>
        simp only [List.getElem?_cons_zero, List.getElem?_cons_succ, Option.some.injEq] at hi
        subst hi
        clear hold huse hJ hbe hgr
        refine gives_K fun K hK => ?_
        go_simp
        exact gives_value (hK _ _ ⟨Below.refl _ _, by simp [upF]⟩)
      | 8, hi, _ =>
        simp only [List.getElem?_cons_zero, List.getElem?_cons_succ, Option.some.injEq] at hi
        subst hi
        have u7 := huse 7 (by decide)
        have u6 := huse 6 (by decide)
        simp only at u7
        simp only at u6
        obtain ⟨S, h1, -⟩ := u6
        have h2 : f 27 = .tuple #[S.v, .int .i64 0] := u7.trans h1
        clear h1 u7
        clear hold huse hJ hbe hgr
        refine gives_K fun K hK => ?_
        go_simp
        exact gives_value (hK _ _ ⟨Below.refl _ _, .int .i64 0, by simp [upF, h2]⟩)
      | 9, hi, _ =>
        simp only [List.getElem?_cons_zero, List.getElem?_cons_succ, Option.some.injEq] at hi
        subst hi
        have u7 := huse 7 (by decide)
        have u6 := huse 6 (by decide)
        simp only at u7
        simp only at u6
        obtain ⟨S, h1, -⟩ := u6
        have h2 : f 27 = .tuple #[S.v, .int .i64 0] := u7.trans h1
        clear h1 u7
        clear hold huse hJ hbe hgr
        refine gives_K fun K hK => ?_
        go_simp
        exact gives_value (hK _ _ ⟨Below.refl _ _, by simp [upF]⟩)
      | 10, hi, _ =>
        simp only [List.getElem?_cons_zero, List.getElem?_cons_succ, Option.some.injEq] at hi
        subst hi
        clear hold huse hJ hbe hgr
        refine gives_K fun K hK => ?_
        go_simp
        exact gives_value (hK _ _ ⟨below_alloc _ _, by simp [upF], by rw [size_alloc]; omega, cell4_new _ _ _ _ _ _⟩)
      | 11, _, hne => exact absurd rfl hne
      | 12, hi, _ =>
        simp only [List.getElem?_cons_zero, List.getElem?_cons_succ, Option.some.injEq] at hi
        subst hi
        have u9 := huse 9 (by decide)
        simp only at u9
        clear hold huse hJ hbe hgr
        refine gives_K fun K hK => ?_
        go_simp
        exact gives_value (hK _ _ ⟨Below.refl _ _, by simp [upF]⟩)
      | i + 13, hi, _ => simp at hi
    · intro o hi f w lo hi2 L hold hbe hgr hJ huse hL hseg hap
      obtain ⟨kt, kc, kf⟩ := evF_all f
      simp only [List.getElem?_cons_zero, List.getElem?_cons_succ, Option.some.injEq] at hi
      subst hi
      have u10 := huse 10 (by decide)
      have u8 := huse 8 (by decide)
      have u7 := huse 7 (by decide)
      have u6 := huse 6 (by decide)
      simp only at u10
      simp only at u8
      simp only at u7
      simp only at u6
      obtain ⟨hal, hlo, hcell⟩ := u10
      obtain ⟨S, h1, hsf, hsg⟩ := u6
      obtain ⟨y, h2⟩ := u8
      have h3 : f 35 = S.v := by
        have h4 := h2.symm.trans (u7.trans h1)
        injection h4 with h4
        exact (Array.mk.inj h4 |> List.cons.inj).1
      have hd := hap 6 10 (hL 6 (by decide)) (hL 10 (by decide)) (by decide)
      have hsz := (hseg 10 (hL 10 (by decide))).2.2
      have HSG := Lib.hid hsg
      have HSF := Lib.hid hsf
      have HCE := Lib.hid hcell
      have HBE := Lib.hid hbe
      generalize lo 10 = X at hal hlo hd hsz HCE
      have hX : X < lo 6 ∨ hi2 6 ≤ X := by omega
      obtain ⟨zl, z0, z1, z2, z3, zf⟩ := HCE.out
      unfold Tab.v at h3
      clear hold huse hJ hbe hgr hseg hap hL h1 h2 u7 hsg hcell hd hlo hsf
      refine gives_K fun K hK => ?_
      go_simp
      refine gives_skip (hK _ _ ⟨?_, ?_, ?_, ?_⟩)
      · simp [World.setCell]
      · exact (((HBE.out.setCell (by exact hsz) _).setCell (by exact hsz) _).setCell (by exact hsz) _).setCell (by exact hsz) _
      · exact ⟨S, X, hal, HSF.out, cell4_put w HCE.out _ _ _ _, ((((HSG.out.set hX _).set hX _).set hX _).set hX _).at⟩
      · intro j hj hne hl hs h
        match j, hne, hl, h with
        | 0, _, hl, _ => exact absurd hl (by decide)
        | 1, _, hl, _ => exact absurd hl (by decide)
        | 2, _, hl, _ => exact absurd hl (by decide)
        | 3, _, hl, _ => exact absurd hl (by decide)
        | 4, _, hl, _ => exact absurd hl (by decide)
        | 5, _, hl, _ => exact absurd hl (by decide)
        | 6, _, _, h =>
          obtain ⟨S2, q1, q2, q3⟩ := h
          exact ⟨S2, q1, q2, (((q3.set hX _).set hX _).set hX _).set hX _⟩
        | 7, _, _, h => exact h
        | 8, _, hl, _ => exact absurd hl (by decide)
        | 9, _, _, h => exact h
        | 10, _, hl, _ => exact absurd hl (by decide)
        | 11, hne, _, _ => exact absurd rfl hne
        | 12, _, _, h => exact h
        | j + 13, _, hl, _ => exact absurd hl (by simp)
    · intro f4 lo hi w4 hbe _ hall _ hseg
      have u6 := hall 6 (by decide) (.inl rfl)
      simp only at u6
      have u7 := hall 7 (by decide) (.inl rfl)
      simp only at u7
      have u9 := hall 9 (by decide) (.inl rfl)
      simp only at u9
      have u11 := hall 11 (by decide) (.inl rfl)
      simp only at u11
      have u12 := hall 12 (by decide) (.inl rfl)
      simp only at u12
      clear hall hseg
      obtain ⟨S4, X4, e2, hSF4, hbox⟩ := u11
      simp only [putAll, List.foldl_cons, List.foldl_nil, Act.put, List.setIfInBounds_toArray, List.set_cons_succ, List.set_cons_zero, e2, u12]
      have hb := undrewB (B := W3.heap.size) hbe
      have HT4 := Lib.hid (HT3.out.low hb)
      have HB4 := Lib.hid (below_next HB3.out hb)
      have HX4 := Lib.hid hbox
      clear u6 u7 u9 u12 e2 hbe hb hbox HT3 HB3
      have HSF4 := Lib.hid hSF4
      clear hSF4
      go_upto_region 5 with (fail)
      refine wp_region_slots (use := [[], [], [1], [], [3], [2, 4], [], [6], [], [8], [7, 9], [5, 2, 4, 10, 7, 9], [11], [0, 12, 11], [], [14, 13], [14, 13], [], [17, 15, 14, 13], [16]]) (sl := [[38], [39], [40], [41], [42], [43, 40, 42], [44], [45], [46], [47], [48, 45, 47], [49], [50, 49], [51], [37, 51], [52, 37], [53], [8], [8], [9]]) (live := [false, false, false, false, false, false, false, false, false, false, false, false, false, true, true, false, true, false, true, true]) (st := 18) (B := w4.drew.heap.size) (J := fun w => Tab2 w X Z (some ⟨Y, 0, none⟩) 2 a b) (Φ := fun i f lo hi w => match i with | 0 => f 38 = .agg #[.string ⟨#[117]⟩, .slice (some ⟨Z, 0, none⟩) 3 3, .int .i64 3, .slice (some ⟨Y, 0, none⟩) 2 2] | 1 => f 39 = .int .i64 a | 2 => isKey a (f 40) w | 3 => f 41 = .int .i64 b | 4 => isKey b (f 42) w | 5 => f 43 = .agg #[.int .i64 1, f 40, f 42] | 6 => f 44 = .int .i64 b | 7 => isKey b (f 45) w | 8 => f 46 = .int .i64 a | 9 => isKey a (f 47) w | 10 => f 48 = .agg #[.int .i64 2, f 45, f 47] | 11 => isPairs [(1, kyL a, kyL b), (2, kyL b, kyL a)] 2 (f 49) w | 12 => f 50 = .agg #[.slice none 0 0, .slice none 0 0, f 49] | 13 => isRes 0 (fun S => S.R.length = 2 ∧ S.nx = 3) (f 51) lo hi w | 14 => f 37 = f 51 | 15 => ∃ y, f 37 = .tuple #[f 52, y] | 16 => f 53 = .int .i64 0 | 17 => f 8 = .pointer (some ⟨lo, 0, none⟩) ∧ lo < hi ∧ Cell4 w lo (.string ⟨#[]⟩) (.slice none 0 0) (.int .i64 0) (.slice none 0 0) | 18 => isBox (fun S => S.R.length = 2 ∧ S.nx = 3) (f 8) w | 19 => f 9 = .int .i64 0 | _ => True) (by kernel_rfl) _ rfl (by kernel_rfl) (by kernel_rfl) (by exact Nat.le_refl _) (HT4.out.low (Below.refl _ _).drew) (fun _ _ h hb => h.low hb) ?_ ?_ ?_ ?_
      · intro j f g lo hi w w2 hs hb h
        match j, hs, h with
        | 0, hs, h =>
          have e38 := hs 38 (by decide)
          simp only [e38]
          exact h
        | 1, hs, h =>
          have e39 := hs 39 (by decide)
          simp only [e39]
          exact h
        | 2, hs, h =>
          have e40 := hs 40 (by decide)
          simp only [e40]
          exact h.low hb
        | 3, hs, h =>
          have e41 := hs 41 (by decide)
          simp only [e41]
          exact h
        | 4, hs, h =>
          have e42 := hs 42 (by decide)
          simp only [e42]
          exact h.low hb
        | 5, hs, h =>
          have e43 := hs 43 (by decide)
          have e40 := hs 40 (by decide)
          have e42 := hs 42 (by decide)
          simp only [e43, e40, e42]
          exact h
        | 6, hs, h =>
          have e44 := hs 44 (by decide)
          simp only [e44]
          exact h
        | 7, hs, h =>
          have e45 := hs 45 (by decide)
          simp only [e45]
          exact h.low hb
        | 8, hs, h =>
          have e46 := hs 46 (by decide)
          simp only [e46]
          exact h
        | 9, hs, h =>
          have e47 := hs 47 (by decide)
          simp only [e47]
          exact h.low hb
        | 10, hs, h =>
          have e48 := hs 48 (by decide)
          have e45 := hs 45 (by decide)
          have e47 := hs 47 (by decide)
          simp only [e48, e45, e47]
          exact h
        | 11, hs, h =>
          have e49 := hs 49 (by decide)
          simp only [e49]
          exact h.low hb
        | 12, hs, h =>
          have e50 := hs 50 (by decide)
          have e49 := hs 49 (by decide)
          simp only [e50, e49]
          exact h
        | 13, hs, h =>
          have e51 := hs 51 (by decide)
          simp only [e51]
          exact h.low hb
        | 14, hs, h =>
          have e37 := hs 37 (by decide)
          have e51 := hs 51 (by decide)
          simp only [e37, e51]
          exact h
        | 15, hs, h =>
          have e52 := hs 52 (by decide)
          have e37 := hs 37 (by decide)
          simp only [e52, e37]
          exact h
        | 16, hs, h =>
          have e53 := hs 53 (by decide)
          simp only [e53]
          exact h
        | 17, hs, h =>
          have e8 := hs 8 (by decide)
          simp only [e8]
          exact ⟨h.1, h.2.1, h.2.2.low hb⟩
        | 18, hs, h =>
          have e8 := hs 8 (by decide)
          simp only [e8]
          exact h.low hb
        | 19, hs, h =>
          have e9 := hs 9 (by decide)
          simp only [e9]
          exact h
        | _ + 20, _, h => exact h
      · intro i o hi hne f w lo hi2 hold hbe hgr hJ huse
        obtain ⟨kt, kc, kf⟩ := evF_all f
        match i, hi, hne with
        | 0, hi, _ =>
          simp only [List.getElem?_cons_zero, List.getElem?_cons_succ, Option.some.injEq] at hi
          subst hi
          have hj := hJ (.inl (by kernel_rfl))
          obtain ⟨xl, x0, x1, x2, x3, -⟩ := hj.box
          have h0 : f 5 = .pointer (some ⟨X, 0, none⟩) := (hold 5 (by kernel_rfl)).trans rfl
          clear hold huse hJ hbe hgr
          refine gives_K fun K hK => ?_
          go_simp
          exact gives_value (hK _ _ ⟨Below.refl _ _, by simp [upF]⟩)
        | 1, hi, _ =>
          simp only [List.getElem?_cons_zero, List.getElem?_cons_succ, Option.some.injEq] at hi
          subst hi
          have h0 : f 0 = .int .i64 a := (hold 0 (by kernel_rfl)).trans rfl
          clear hold huse hJ hbe hgr
          refine gives_K fun K hK => ?_
          go_simp
          exact gives_value (hK _ _ ⟨Below.refl _ _, by simp [upF]⟩)
        | 2, hi, _ =>
          simp only [List.getElem?_cons_zero, List.getElem?_cons_succ, Option.some.injEq] at hi
          subst hi
          have u1 := huse 1 (by decide)
          simp only at u1
          clear hold huse hJ hbe hgr
          refine gives_K fun K hK => ?_
          go_simp
          refine gives_enter ((keyed7_any a _).mono ?_)
          rintro e w2 ⟨Z1, rfl, hr, hb⟩
          exact ⟨_, rfl, hK _ _ ⟨hb, Z1, by simp [upF], hr⟩⟩
        | 3, hi, _ =>
          simp only [List.getElem?_cons_zero, List.getElem?_cons_succ, Option.some.injEq] at hi
          subst hi
          have h0 : f 1 = .int .i64 b := (hold 1 (by kernel_rfl)).trans rfl
          clear hold huse hJ hbe hgr
          refine gives_K fun K hK => ?_
          go_simp
          exact gives_value (hK _ _ ⟨Below.refl _ _, by simp [upF]⟩)
        | 4, hi, _ =>
          simp only [List.getElem?_cons_zero, List.getElem?_cons_succ, Option.some.injEq] at hi
          subst hi
          have u3 := huse 3 (by decide)
          simp only at u3
          clear hold huse hJ hbe hgr
          refine gives_K fun K hK => ?_
          go_simp
          refine gives_enter ((keyed7_any b _).mono ?_)
          rintro e w2 ⟨Z1, rfl, hr, hb⟩
          exact ⟨_, rfl, hK _ _ ⟨hb, Z1, by simp [upF], hr⟩⟩
        | 5, hi, _ =>
          simp only [List.getElem?_cons_zero, List.getElem?_cons_succ, Option.some.injEq] at hi
          subst hi
          have u2 := huse 2 (by decide)
          have u4 := huse 4 (by decide)
          simp only at u2
          simp only at u4
          obtain ⟨Z1, h1, -⟩ := u2
          obtain ⟨Z2, h2, -⟩ := u4
          clear hold huse hJ hbe hgr
          refine gives_K fun K hK => ?_
          go_simp
          exact gives_value (hK _ _ ⟨Below.refl _ _, by simp [upF, h1, h2]⟩)
        | 6, hi, _ =>
          simp only [List.getElem?_cons_zero, List.getElem?_cons_succ, Option.some.injEq] at hi
          subst hi
          have h0 : f 1 = .int .i64 b := (hold 1 (by kernel_rfl)).trans rfl
          clear hold huse hJ hbe hgr
          refine gives_K fun K hK => ?_
          go_simp
          exact gives_value (hK _ _ ⟨Below.refl _ _, by simp [upF]⟩)
        | 7, hi, _ =>
          simp only [List.getElem?_cons_zero, List.getElem?_cons_succ, Option.some.injEq] at hi
          subst hi
          have u6 := huse 6 (by decide)
          simp only at u6
          clear hold huse hJ hbe hgr
          refine gives_K fun K hK => ?_
          go_simp
          refine gives_enter ((keyed7_any b _).mono ?_)
          rintro e w2 ⟨Z1, rfl, hr, hb⟩
          exact ⟨_, rfl, hK _ _ ⟨hb, Z1, by simp [upF], hr⟩⟩
        | 8, hi, _ =>
          simp only [List.getElem?_cons_zero, List.getElem?_cons_succ, Option.some.injEq] at hi
          subst hi
          have h0 : f 0 = .int .i64 a := (hold 0 (by kernel_rfl)).trans rfl
          clear hold huse hJ hbe hgr
          refine gives_K fun K hK => ?_
          go_simp
          exact gives_value (hK _ _ ⟨Below.refl _ _, by simp [upF]⟩)
        | 9, hi, _ =>
          simp only [List.getElem?_cons_zero, List.getElem?_cons_succ, Option.some.injEq] at hi
          subst hi
          have u8 := huse 8 (by decide)
          simp only at u8
          clear hold huse hJ hbe hgr
          refine gives_K fun K hK => ?_
          go_simp
          refine gives_enter ((keyed7_any a _).mono ?_)
          rintro e w2 ⟨Z1, rfl, hr, hb⟩
          exact ⟨_, rfl, hK _ _ ⟨hb, Z1, by simp [upF], hr⟩⟩
        | 10, hi, _ =>
          simp only [List.getElem?_cons_zero, List.getElem?_cons_succ, Option.some.injEq] at hi
          subst hi
          have u7 := huse 7 (by decide)
          have u9 := huse 9 (by decide)
          simp only at u7
          simp only at u9
          obtain ⟨Z1, h1, -⟩ := u7
          obtain ⟨Z2, h2, -⟩ := u9
          clear hold huse hJ hbe hgr
          refine gives_K fun K hK => ?_
          go_simp
          exact gives_value (hK _ _ ⟨Below.refl _ _, by simp [upF, h1, h2]⟩)
        | 11, hi, _ =>
          simp only [List.getElem?_cons_zero, List.getElem?_cons_succ, Option.some.injEq] at hi
          subst hi
          have u5 := huse 5 (by decide)
          have u2 := huse 2 (by decide)
          have u4 := huse 4 (by decide)
          have u10 := huse 10 (by decide)
          have u7 := huse 7 (by decide)
          have u9 := huse 9 (by decide)
          simp only at u5
          simp only at u2
          simp only at u4
          simp only at u10
          simp only at u7
          simp only at u9
          obtain ⟨A40, h40, hr40⟩ := u2
          obtain ⟨A42, h42, hr42⟩ := u4
          rw [h40, h42] at u5
          obtain ⟨A45, h45, hr45⟩ := u7
          obtain ⟨A47, h47, hr47⟩ := u9
          rw [h45, h47] at u10
          clear hold huse hJ hbe hgr
          refine gives_K fun K hK => ?_
          go_simp
          exact gives_value (hK _ _ ⟨below_alloc _ _, _, by simp [upF], pairs2_lit w 1 2 a b b a _ _ _ _ hr40 hr42 hr45 hr47⟩)
        | 12, hi, _ =>
          simp only [List.getElem?_cons_zero, List.getElem?_cons_succ, Option.some.injEq] at hi
          subst hi
          have u11 := huse 11 (by decide)
          simp only at u11
          obtain ⟨p49, h49, -⟩ := u11
          clear hold huse hJ hbe hgr
          refine gives_K fun K hK => ?_
          go_simp
          exact gives_value (hK _ _ ⟨Below.refl _ _, by simp [upF, h49]⟩)
        | 13, hi, _ =>
          simp only [List.getElem?_cons_zero, List.getElem?_cons_succ, Option.some.injEq] at hi
          subst hi
          have u0 := huse 0 (by decide)
          have u12 := huse 12 (by decide)
          have u11 := huse 11 (by decide)
          simp only at u0
          simp only at u12
          simp only at u11
          have hj := hJ (.inl (by kernel_rfl))
          obtain ⟨p49, h49, hr49⟩ := u11
          rw [h49] at u12
          have hI1 : RowsAt w none [] := fun i hi => by simp at hi
          have hD1 : NumAt w none [] := fun i hi => by simp at hi
          have hI2 : ∀ l ∈ ([] : List (List Val)), ∃ n, l = kyL n := by simp only [List.mem_cons, List.not_mem_nil, or_false]; intro l hl; exact hl.elim
          have hU2 : ∀ u ∈ ([(1, kyL a, kyL b), (2, kyL b, kyL a)] : List PRow), ∃ n, u.2.2 = kyL n := by simp only [List.mem_cons, List.not_mem_nil, or_false]; rintro u (rfl | rfl) <;> exact ⟨_, rfl⟩
          have HC := Lib.hid (chg_lit (w := w) (I := []) (D := []) (U := [(1, kyL a, kyL b), (2, kyL b, kyL a)]) hI1 hD1 hr49 rfl rfl rfl (by simp) (by simp) (by simp) hI2 hU2)
          have HJ := Lib.hid hj
          clear hj hr49 hI1 hD1 hI2 hU2
          clear hold huse hJ hbe hgr
          refine gives_K fun K hK => ?_
          go_simp
          refine gives_enter ((apply2_lit (E := 0) (SF := (fun S => S.R.length = 2 ∧ S.nx = 3)) HJ.out HC.out rfl rfl rfl (exch HAB.out).1 (fun _ S h1 h2 => ⟨by rw [h2, (exch HAB.out).2]; rfl, by rw [h1]; rfl⟩) (fun h => absurd rfl h)).mono ?_)
          rintro e w2 ⟨v, rfl, hb, hr⟩
          exact ⟨_, rfl, hK _ _ ⟨hb, by simpa [upF] using hr⟩⟩
        | 14, hi, _ =>
          simp only [List.getElem?_cons_zero, List.getElem?_cons_succ, Option.some.injEq] at hi
          subst hi
          clear hold huse hJ hbe hgr
          refine gives_K fun K hK => ?_
          go_simp
          exact gives_value (hK _ _ ⟨Below.refl _ _, by simp [upF]⟩)
        | 15, hi, _ =>
          simp only [List.getElem?_cons_zero, List.getElem?_cons_succ, Option.some.injEq] at hi
          subst hi
          have u14 := huse 14 (by decide)
          have u13 := huse 13 (by decide)
          simp only at u14
          simp only at u13
          obtain ⟨S, h1, -⟩ := u13
          have h2 : f 37 = .tuple #[S.v, .int .i64 0] := u14.trans h1
          clear h1 u14
          clear hold huse hJ hbe hgr
          refine gives_K fun K hK => ?_
          go_simp
          exact gives_value (hK _ _ ⟨Below.refl _ _, .int .i64 0, by simp [upF, h2]⟩)
        | 16, hi, _ =>
          simp only [List.getElem?_cons_zero, List.getElem?_cons_succ, Option.some.injEq] at hi
          subst hi
          have u14 := huse 14 (by decide)
          have u13 := huse 13 (by decide)
          simp only at u14
          simp only at u13
          obtain ⟨S, h1, -⟩ := u13
          have h2 : f 37 = .tuple #[S.v, .int .i64 0] := u14.trans h1
          clear h1 u14
          clear hold huse hJ hbe hgr
          refine gives_K fun K hK => ?_
          go_simp
          exact gives_value (hK _ _ ⟨Below.refl _ _, by simp [upF]⟩)
        | 17, hi, _ =>
          simp only [List.getElem?_cons_zero, List.getElem?_cons_succ, Option.some.injEq] at hi
          subst hi
          clear hold huse hJ hbe hgr
          refine gives_K fun K hK => ?_
          go_simp
          exact gives_value (hK _ _ ⟨below_alloc _ _, by simp [upF], by rw [size_alloc]; omega, cell4_new _ _ _ _ _ _⟩)
        | 18, _, hne => exact absurd rfl hne
        | 19, hi, _ =>
          simp only [List.getElem?_cons_zero, List.getElem?_cons_succ, Option.some.injEq] at hi
          subst hi
          have u16 := huse 16 (by decide)
          simp only at u16
          clear hold huse hJ hbe hgr
          refine gives_K fun K hK => ?_
          go_simp
          exact gives_value (hK _ _ ⟨Below.refl _ _, by simp [upF]⟩)
        | i + 20, hi, _ => simp at hi
      · intro o hi f w lo hi2 L hold hbe hgr hJ huse hL hseg hap
        obtain ⟨kt, kc, kf⟩ := evF_all f
        simp only [List.getElem?_cons_zero, List.getElem?_cons_succ, Option.some.injEq] at hi
        subst hi
        have u17 := huse 17 (by decide)
        have u15 := huse 15 (by decide)
        have u14 := huse 14 (by decide)
        have u13 := huse 13 (by decide)
        simp only at u17
        simp only at u15
        simp only at u14
        simp only at u13
        obtain ⟨hal, hlo, hcell⟩ := u17
        obtain ⟨S, h1, hsf, hsg⟩ := u13
        obtain ⟨y, h2⟩ := u15
        have h3 : f 52 = S.v := by
          have h4 := h2.symm.trans (u14.trans h1)
          injection h4 with h4
          exact (Array.mk.inj h4 |> List.cons.inj).1
        have hd := hap 13 17 (hL 13 (by decide)) (hL 17 (by decide)) (by decide)
        have hsz := (hseg 17 (hL 17 (by decide))).2.2
        have HSG := Lib.hid hsg
        have HSF := Lib.hid hsf
        have HCE := Lib.hid hcell
        have HBE := Lib.hid hbe
        generalize lo 17 = X at hal hlo hd hsz HCE
        have hX : X < lo 13 ∨ hi2 13 ≤ X := by omega
        obtain ⟨zl, z0, z1, z2, z3, zf⟩ := HCE.out
        unfold Tab.v at h3
        clear hold huse hJ hbe hgr hseg hap hL h1 h2 u14 hsg hcell hd hlo hsf
        refine gives_K fun K hK => ?_
        go_simp
        refine gives_skip (hK _ _ ⟨?_, ?_, ?_, ?_⟩)
        · simp [World.setCell]
        · exact (((HBE.out.setCell (by exact hsz) _).setCell (by exact hsz) _).setCell (by exact hsz) _).setCell (by exact hsz) _
        · exact ⟨S, X, hal, HSF.out, cell4_put w HCE.out _ _ _ _, ((((HSG.out.set hX _).set hX _).set hX _).set hX _).at⟩
        · intro j hj hne hl hs h
          match j, hne, hl, h with
          | 0, _, hl, _ => exact absurd hl (by decide)
          | 1, _, hl, _ => exact absurd hl (by decide)
          | 2, _, hl, _ => exact absurd hl (by decide)
          | 3, _, hl, _ => exact absurd hl (by decide)
          | 4, _, hl, _ => exact absurd hl (by decide)
          | 5, _, hl, _ => exact absurd hl (by decide)
          | 6, _, hl, _ => exact absurd hl (by decide)
          | 7, _, hl, _ => exact absurd hl (by decide)
          | 8, _, hl, _ => exact absurd hl (by decide)
          | 9, _, hl, _ => exact absurd hl (by decide)
          | 10, _, hl, _ => exact absurd hl (by decide)
          | 11, _, hl, _ => exact absurd hl (by decide)
          | 12, _, hl, _ => exact absurd hl (by decide)
          | 13, _, _, h =>
            obtain ⟨S2, q1, q2, q3⟩ := h
            exact ⟨S2, q1, q2, (((q3.set hX _).set hX _).set hX _).set hX _⟩
          | 14, _, _, h => exact h
          | 15, _, hl, _ => exact absurd hl (by decide)
          | 16, _, _, h => exact h
          | 17, _, hl, _ => exact absurd hl (by decide)
          | 18, hne, _, _ => exact absurd rfl hne
          | 19, _, _, h => exact h
          | j + 20, _, hl, _ => exact absurd hl (by simp)
      · intro f5 lo hi w5 hbe _ hall _ hseg
        have u13 := hall 13 (by decide) (.inl rfl)
        simp only at u13
        have u14 := hall 14 (by decide) (.inl rfl)
        simp only at u14
        have u16 := hall 16 (by decide) (.inl rfl)
        simp only at u16
        have u18 := hall 18 (by decide) (.inl rfl)
        simp only at u18
        have u19 := hall 19 (by decide) (.inl rfl)
        simp only at u19
        clear hall hseg
        obtain ⟨S5, X5, e2, hSF5, hbox⟩ := u18
        simp only [putAll, List.foldl_cons, List.foldl_nil, Act.put, List.setIfInBounds_toArray, List.set_cons_succ, List.set_cons_zero, e2, u19]
        have hb := undrewB (B := w4.heap.size) hbe
        have HT5 := Lib.hid (HT4.out.low hb)
        have HB5 := Lib.hid (below_next HB4.out hb)
        have HX4 := Lib.hid (HX4.out.low hb)
        have HX5 := Lib.hid hbox
        clear u13 u14 u16 u19 e2 hbe hb hbox HT4 HB4
        have HSF5 := Lib.hid hSF5
        clear hSF5
        go_upto_region 6 with (fail)
        refine wp_region_slots (use := [[], [], [1], [], [3], [2, 4], [5, 2, 4], [6], [0, 7, 6], [], [9, 8], [9, 8], [], [12, 10, 9, 8], [11]]) (sl := [[55], [56], [57], [58], [59], [60, 57, 59], [61], [62, 61], [63], [54, 63], [64, 54], [65], [10], [10], [11]]) (live := [false, false, false, false, false, false, false, false, true, true, false, true, false, true, true]) (st := 13) (B := w5.drew.heap.size) (J := fun w => Tab2 w X Z (some ⟨Y, 0, none⟩) 2 a b) (Φ := fun i f lo hi w => match i with | 0 => f 55 = .agg #[.string ⟨#[117]⟩, .slice (some ⟨Z, 0, none⟩) 3 3, .int .i64 3, .slice (some ⟨Y, 0, none⟩) 2 2] | 1 => f 56 = .int .i64 a | 2 => isKey a (f 57) w | 3 => f 58 = .int .i64 b | 4 => isKey b (f 59) w | 5 => f 60 = .agg #[.int .i64 1, f 57, f 59] | 6 => isPairs [(1, kyL a, kyL b)] 1 (f 61) w | 7 => f 62 = .agg #[.slice none 0 0, .slice none 0 0, f 61] | 8 => isRes 9 (fun _ => True) (f 63) lo hi w | 9 => f 54 = f 63 | 10 => ∃ y, f 54 = .tuple #[f 64, y] | 11 => f 65 = .int .i64 9 | 12 => f 10 = .pointer (some ⟨lo, 0, none⟩) ∧ lo < hi ∧ Cell4 w lo (.string ⟨#[]⟩) (.slice none 0 0) (.int .i64 0) (.slice none 0 0) | 13 => isBox (fun _ => True) (f 10) w | 14 => f 11 = .int .i64 9 | _ => True) (by kernel_rfl) _ rfl (by kernel_rfl) (by kernel_rfl) (by exact Nat.le_refl _) (HT5.out.low (Below.refl _ _).drew) (fun _ _ h hb => h.low hb) ?_ ?_ ?_ ?_
        · intro j f g lo hi w w2 hs hb h
          match j, hs, h with
          | 0, hs, h =>
            have e55 := hs 55 (by decide)
            simp only [e55]
            exact h
          | 1, hs, h =>
            have e56 := hs 56 (by decide)
            simp only [e56]
            exact h
          | 2, hs, h =>
            have e57 := hs 57 (by decide)
            simp only [e57]
            exact h.low hb
          | 3, hs, h =>
            have e58 := hs 58 (by decide)
            simp only [e58]
            exact h
          | 4, hs, h =>
            have e59 := hs 59 (by decide)
            simp only [e59]
            exact h.low hb
          | 5, hs, h =>
            have e60 := hs 60 (by decide)
            have e57 := hs 57 (by decide)
            have e59 := hs 59 (by decide)
            simp only [e60, e57, e59]
            exact h
          | 6, hs, h =>
            have e61 := hs 61 (by decide)
            simp only [e61]
            exact h.low hb
          | 7, hs, h =>
            have e62 := hs 62 (by decide)
            have e61 := hs 61 (by decide)
            simp only [e62, e61]
            exact h
          | 8, hs, h =>
            have e63 := hs 63 (by decide)
            simp only [e63]
            exact h.low hb
          | 9, hs, h =>
            have e54 := hs 54 (by decide)
            have e63 := hs 63 (by decide)
            simp only [e54, e63]
            exact h
          | 10, hs, h =>
            have e64 := hs 64 (by decide)
            have e54 := hs 54 (by decide)
            simp only [e64, e54]
            exact h
          | 11, hs, h =>
            have e65 := hs 65 (by decide)
            simp only [e65]
            exact h
          | 12, hs, h =>
            have e10 := hs 10 (by decide)
            simp only [e10]
            exact ⟨h.1, h.2.1, h.2.2.low hb⟩
          | 13, hs, h =>
            have e10 := hs 10 (by decide)
            simp only [e10]
            exact h.low hb
          | 14, hs, h =>
            have e11 := hs 11 (by decide)
            simp only [e11]
            exact h
          | _ + 15, _, h => exact h
        · intro i o hi hne f w lo hi2 hold hbe hgr hJ huse
          obtain ⟨kt, kc, kf⟩ := evF_all f
          match i, hi, hne with
          | 0, hi, _ =>
            simp only [List.getElem?_cons_zero, List.getElem?_cons_succ, Option.some.injEq] at hi
            subst hi
            have hj := hJ (.inl (by kernel_rfl))
            obtain ⟨xl, x0, x1, x2, x3, -⟩ := hj.box
            have h0 : f 5 = .pointer (some ⟨X, 0, none⟩) := (hold 5 (by kernel_rfl)).trans rfl
            clear hold huse hJ hbe hgr
            refine gives_K fun K hK => ?_
            go_simp
            exact gives_value (hK _ _ ⟨Below.refl _ _, by simp [upF]⟩)
          | 1, hi, _ =>
            simp only [List.getElem?_cons_zero, List.getElem?_cons_succ, Option.some.injEq] at hi
            subst hi
            have h0 : f 0 = .int .i64 a := (hold 0 (by kernel_rfl)).trans rfl
            clear hold huse hJ hbe hgr
            refine gives_K fun K hK => ?_
            go_simp
            exact gives_value (hK _ _ ⟨Below.refl _ _, by simp [upF]⟩)
          | 2, hi, _ =>
            simp only [List.getElem?_cons_zero, List.getElem?_cons_succ, Option.some.injEq] at hi
            subst hi
            have u1 := huse 1 (by decide)
            simp only at u1
            clear hold huse hJ hbe hgr
            refine gives_K fun K hK => ?_
            go_simp
            refine gives_enter ((keyed7_any a _).mono ?_)
            rintro e w2 ⟨Z1, rfl, hr, hb⟩
            exact ⟨_, rfl, hK _ _ ⟨hb, Z1, by simp [upF], hr⟩⟩
          | 3, hi, _ =>
            simp only [List.getElem?_cons_zero, List.getElem?_cons_succ, Option.some.injEq] at hi
            subst hi
            have h0 : f 1 = .int .i64 b := (hold 1 (by kernel_rfl)).trans rfl
            clear hold huse hJ hbe hgr
            refine gives_K fun K hK => ?_
            go_simp
            exact gives_value (hK _ _ ⟨Below.refl _ _, by simp [upF]⟩)
          | 4, hi, _ =>
            simp only [List.getElem?_cons_zero, List.getElem?_cons_succ, Option.some.injEq] at hi
            subst hi
            have u3 := huse 3 (by decide)
            simp only at u3
            clear hold huse hJ hbe hgr
            refine gives_K fun K hK => ?_
            go_simp
            refine gives_enter ((keyed7_any b _).mono ?_)
            rintro e w2 ⟨Z1, rfl, hr, hb⟩
            exact ⟨_, rfl, hK _ _ ⟨hb, Z1, by simp [upF], hr⟩⟩
          | 5, hi, _ =>
            simp only [List.getElem?_cons_zero, List.getElem?_cons_succ, Option.some.injEq] at hi
            subst hi
            have u2 := huse 2 (by decide)
            have u4 := huse 4 (by decide)
            simp only at u2
            simp only at u4
            obtain ⟨Z1, h1, -⟩ := u2
            obtain ⟨Z2, h2, -⟩ := u4
            clear hold huse hJ hbe hgr
            refine gives_K fun K hK => ?_
            go_simp
            exact gives_value (hK _ _ ⟨Below.refl _ _, by simp [upF, h1, h2]⟩)
          | 6, hi, _ =>
            simp only [List.getElem?_cons_zero, List.getElem?_cons_succ, Option.some.injEq] at hi
            subst hi
            have u5 := huse 5 (by decide)
            have u2 := huse 2 (by decide)
            have u4 := huse 4 (by decide)
            simp only at u5
            simp only at u2
            simp only at u4
            obtain ⟨A57, h57, hr57⟩ := u2
            obtain ⟨A59, h59, hr59⟩ := u4
            rw [h57, h59] at u5
            clear hold huse hJ hbe hgr
            refine gives_K fun K hK => ?_
            go_simp
            exact gives_value (hK _ _ ⟨below_alloc _ _, _, by simp [upF], pairs1_lit w 1 a b _ _ hr57 hr59⟩)
          | 7, hi, _ =>
            simp only [List.getElem?_cons_zero, List.getElem?_cons_succ, Option.some.injEq] at hi
            subst hi
            have u6 := huse 6 (by decide)
            simp only at u6
            obtain ⟨p61, h61, -⟩ := u6
            clear hold huse hJ hbe hgr
            refine gives_K fun K hK => ?_
            go_simp
            exact gives_value (hK _ _ ⟨Below.refl _ _, by simp [upF, h61]⟩)
          | 8, hi, _ =>
            simp only [List.getElem?_cons_zero, List.getElem?_cons_succ, Option.some.injEq] at hi
            subst hi
            have u0 := huse 0 (by decide)
            have u7 := huse 7 (by decide)
            have u6 := huse 6 (by decide)
            simp only at u0
            simp only at u7
            simp only at u6
            have hj := hJ (.inl (by kernel_rfl))
            obtain ⟨p61, h61, hr61⟩ := u6
            rw [h61] at u7
            have hI1 : RowsAt w none [] := fun i hi => by simp at hi
            have hD1 : NumAt w none [] := fun i hi => by simp at hi
            have hI2 : ∀ l ∈ ([] : List (List Val)), ∃ n, l = kyL n := by simp only [List.mem_cons, List.not_mem_nil, or_false]; intro l hl; exact hl.elim
            have hU2 : ∀ u ∈ ([(1, kyL a, kyL b)] : List PRow), ∃ n, u.2.2 = kyL n := by simp only [List.mem_cons, List.not_mem_nil, or_false]; rintro u rfl; exact ⟨_, rfl⟩
            have HC := Lib.hid (chg_lit (w := w) (I := []) (D := []) (U := [(1, kyL a, kyL b)]) hI1 hD1 hr61 rfl rfl rfl (by simp) (by simp) (by simp) hI2 hU2)
            have HJ := Lib.hid hj
            clear hj hr61 hI1 hD1 hI2 hU2
            clear hold huse hJ hbe hgr
            refine gives_K fun K hK => ?_
            go_simp
            refine gives_enter ((apply2_lit (E := 9) (SF := (fun _ => True)) HJ.out HC.out rfl rfl rfl (clash1 HAB.out) (fun _ _ _ _ => trivial) (fun _ _ => trivial)).mono ?_)
            rintro e w2 ⟨v, rfl, hb, hr⟩
            exact ⟨_, rfl, hK _ _ ⟨hb, by simpa [upF] using hr⟩⟩
          | 9, hi, _ =>
            simp only [List.getElem?_cons_zero, List.getElem?_cons_succ, Option.some.injEq] at hi
            subst hi
            clear hold huse hJ hbe hgr
            refine gives_K fun K hK => ?_
            go_simp
            exact gives_value (hK _ _ ⟨Below.refl _ _, by simp [upF]⟩)
          | 10, hi, _ =>
            simp only [List.getElem?_cons_zero, List.getElem?_cons_succ, Option.some.injEq] at hi
            subst hi
            have u9 := huse 9 (by decide)
            have u8 := huse 8 (by decide)
            simp only at u9
            simp only at u8
            obtain ⟨S, h1, -⟩ := u8
            have h2 : f 54 = .tuple #[S.v, .int .i64 9] := u9.trans h1
            clear h1 u9
            clear hold huse hJ hbe hgr
            refine gives_K fun K hK => ?_
            go_simp
            exact gives_value (hK _ _ ⟨Below.refl _ _, .int .i64 9, by simp [upF, h2]⟩)
          | 11, hi, _ =>
            simp only [List.getElem?_cons_zero, List.getElem?_cons_succ, Option.some.injEq] at hi
            subst hi
            have u9 := huse 9 (by decide)
            have u8 := huse 8 (by decide)
            simp only at u9
            simp only at u8
            obtain ⟨S, h1, -⟩ := u8
            have h2 : f 54 = .tuple #[S.v, .int .i64 9] := u9.trans h1
            clear h1 u9
            clear hold huse hJ hbe hgr
            refine gives_K fun K hK => ?_
            go_simp
            exact gives_value (hK _ _ ⟨Below.refl _ _, by simp [upF]⟩)
          | 12, hi, _ =>
            simp only [List.getElem?_cons_zero, List.getElem?_cons_succ, Option.some.injEq] at hi
            subst hi
            clear hold huse hJ hbe hgr
            refine gives_K fun K hK => ?_
            go_simp
            exact gives_value (hK _ _ ⟨below_alloc _ _, by simp [upF], by rw [size_alloc]; omega, cell4_new _ _ _ _ _ _⟩)
          | 13, _, hne => exact absurd rfl hne
          | 14, hi, _ =>
            simp only [List.getElem?_cons_zero, List.getElem?_cons_succ, Option.some.injEq] at hi
            subst hi
            have u11 := huse 11 (by decide)
            simp only at u11
            clear hold huse hJ hbe hgr
            refine gives_K fun K hK => ?_
            go_simp
            exact gives_value (hK _ _ ⟨Below.refl _ _, by simp [upF]⟩)
          | i + 15, hi, _ => simp at hi
        · intro o hi f w lo hi2 L hold hbe hgr hJ huse hL hseg hap
          obtain ⟨kt, kc, kf⟩ := evF_all f
          simp only [List.getElem?_cons_zero, List.getElem?_cons_succ, Option.some.injEq] at hi
          subst hi
          have u12 := huse 12 (by decide)
          have u10 := huse 10 (by decide)
          have u9 := huse 9 (by decide)
          have u8 := huse 8 (by decide)
          simp only at u12
          simp only at u10
          simp only at u9
          simp only at u8
          obtain ⟨hal, hlo, hcell⟩ := u12
          obtain ⟨S, h1, hsf, hsg⟩ := u8
          obtain ⟨y, h2⟩ := u10
          have h3 : f 64 = S.v := by
            have h4 := h2.symm.trans (u9.trans h1)
            injection h4 with h4
            exact (Array.mk.inj h4 |> List.cons.inj).1
          have hd := hap 8 12 (hL 8 (by decide)) (hL 12 (by decide)) (by decide)
          have hsz := (hseg 12 (hL 12 (by decide))).2.2
          have HSG := Lib.hid hsg
          have HSF := Lib.hid hsf
          have HCE := Lib.hid hcell
          have HBE := Lib.hid hbe
          generalize lo 12 = X at hal hlo hd hsz HCE
          have hX : X < lo 8 ∨ hi2 8 ≤ X := by omega
          obtain ⟨zl, z0, z1, z2, z3, zf⟩ := HCE.out
          unfold Tab.v at h3
          clear hold huse hJ hbe hgr hseg hap hL h1 h2 u9 hsg hcell hd hlo hsf
          refine gives_K fun K hK => ?_
          go_simp
          refine gives_skip (hK _ _ ⟨?_, ?_, ?_, ?_⟩)
          · simp [World.setCell]
          · exact (((HBE.out.setCell (by exact hsz) _).setCell (by exact hsz) _).setCell (by exact hsz) _).setCell (by exact hsz) _
          · exact ⟨S, X, hal, HSF.out, cell4_put w HCE.out _ _ _ _, ((((HSG.out.set hX _).set hX _).set hX _).set hX _).at⟩
          · intro j hj hne hl hs h
            match j, hne, hl, h with
            | 0, _, hl, _ => exact absurd hl (by decide)
            | 1, _, hl, _ => exact absurd hl (by decide)
            | 2, _, hl, _ => exact absurd hl (by decide)
            | 3, _, hl, _ => exact absurd hl (by decide)
            | 4, _, hl, _ => exact absurd hl (by decide)
            | 5, _, hl, _ => exact absurd hl (by decide)
            | 6, _, hl, _ => exact absurd hl (by decide)
            | 7, _, hl, _ => exact absurd hl (by decide)
            | 8, _, _, h =>
              obtain ⟨S2, q1, q2, q3⟩ := h
              exact ⟨S2, q1, q2, (((q3.set hX _).set hX _).set hX _).set hX _⟩
            | 9, _, _, h => exact h
            | 10, _, hl, _ => exact absurd hl (by decide)
            | 11, _, _, h => exact h
            | 12, _, hl, _ => exact absurd hl (by decide)
            | 13, hne, _, _ => exact absurd rfl hne
            | 14, _, _, h => exact h
            | j + 15, _, hl, _ => exact absurd hl (by simp)
        · intro f6 lo hi w6 hbe _ hall _ hseg
          have u8 := hall 8 (by decide) (.inl rfl)
          simp only at u8
          have u9 := hall 9 (by decide) (.inl rfl)
          simp only at u9
          have u11 := hall 11 (by decide) (.inl rfl)
          simp only at u11
          have u13 := hall 13 (by decide) (.inl rfl)
          simp only at u13
          have u14 := hall 14 (by decide) (.inl rfl)
          simp only at u14
          clear hall hseg
          obtain ⟨S6, X6, e2, hSF6, hbox⟩ := u13
          simp only [putAll, List.foldl_cons, List.foldl_nil, Act.put, List.setIfInBounds_toArray, List.set_cons_succ, List.set_cons_zero, e2, u14]
          have hb := undrewB (B := w5.heap.size) hbe
          have HT6 := Lib.hid (HT5.out.low hb)
          have HB6 := Lib.hid (below_next HB5.out hb)
          have HX4 := Lib.hid (HX4.out.low hb)
          have HX5 := Lib.hid (HX5.out.low hb)
          have HX6 := Lib.hid hbox
          clear u8 u9 u11 u14 e2 hbe hb hbox HT5 HB5
          clear hSF6 HX6
          go_upto_region 7 with (fail)
          refine wp_region_slots (use := [[], [], [1], [2], [], [3, 4], [0, 5, 3, 4], [], [7, 6], [7, 6], [], [10, 8, 7, 6], [9]]) (sl := [[67], [68], [69], [70], [71], [72, 70, 71], [73], [66, 73], [74, 66], [75], [12], [12], [13]]) (live := [false, false, false, false, false, false, true, true, false, true, false, true, true]) (st := 11) (B := w6.drew.heap.size) (J := fun w => Tab2 w X Z (some ⟨Y, 0, none⟩) 2 a b) (Φ := fun i f lo hi w => match i with | 0 => f 67 = .agg #[.string ⟨#[117]⟩, .slice (some ⟨Z, 0, none⟩) 3 3, .int .i64 3, .slice (some ⟨Y, 0, none⟩) 2 2] | 1 => f 68 = .int .i64 a | 2 => isKey a (f 69) w | 3 => isRows [kyL a] 1 (f 70) w | 4 => isNums [2] 1 (f 71) w | 5 => f 72 = .agg #[f 70, f 71, .slice none 0 0] | 6 => isRes 9 (fun _ => True) (f 73) lo hi w | 7 => f 66 = f 73 | 8 => ∃ y, f 66 = .tuple #[f 74, y] | 9 => f 75 = .int .i64 9 | 10 => f 12 = .pointer (some ⟨lo, 0, none⟩) ∧ lo < hi ∧ Cell4 w lo (.string ⟨#[]⟩) (.slice none 0 0) (.int .i64 0) (.slice none 0 0) | 11 => isBox (fun _ => True) (f 12) w | 12 => f 13 = .int .i64 9 | _ => True) (by kernel_rfl) _ rfl (by kernel_rfl) (by kernel_rfl) (by exact Nat.le_refl _) (HT6.out.low (Below.refl _ _).drew) (fun _ _ h hb => h.low hb) ?_ ?_ ?_ ?_
          · intro j f g lo hi w w2 hs hb h
            match j, hs, h with
            | 0, hs, h =>
              have e67 := hs 67 (by decide)
              simp only [e67]
              exact h
            | 1, hs, h =>
              have e68 := hs 68 (by decide)
              simp only [e68]
              exact h
            | 2, hs, h =>
              have e69 := hs 69 (by decide)
              simp only [e69]
              exact h.low hb
            | 3, hs, h =>
              have e70 := hs 70 (by decide)
              simp only [e70]
              exact h.low hb
            | 4, hs, h =>
              have e71 := hs 71 (by decide)
              simp only [e71]
              exact h.low hb
            | 5, hs, h =>
              have e72 := hs 72 (by decide)
              have e70 := hs 70 (by decide)
              have e71 := hs 71 (by decide)
              simp only [e72, e70, e71]
              exact h
            | 6, hs, h =>
              have e73 := hs 73 (by decide)
              simp only [e73]
              exact h.low hb
            | 7, hs, h =>
              have e66 := hs 66 (by decide)
              have e73 := hs 73 (by decide)
              simp only [e66, e73]
              exact h
            | 8, hs, h =>
              have e74 := hs 74 (by decide)
              have e66 := hs 66 (by decide)
              simp only [e74, e66]
              exact h
            | 9, hs, h =>
              have e75 := hs 75 (by decide)
              simp only [e75]
              exact h
            | 10, hs, h =>
              have e12 := hs 12 (by decide)
              simp only [e12]
              exact ⟨h.1, h.2.1, h.2.2.low hb⟩
            | 11, hs, h =>
              have e12 := hs 12 (by decide)
              simp only [e12]
              exact h.low hb
            | 12, hs, h =>
              have e13 := hs 13 (by decide)
              simp only [e13]
              exact h
            | _ + 13, _, h => exact h
          · intro i o hi hne f w lo hi2 hold hbe hgr hJ huse
            obtain ⟨kt, kc, kf⟩ := evF_all f
            match i, hi, hne with
            | 0, hi, _ =>
              simp only [List.getElem?_cons_zero, List.getElem?_cons_succ, Option.some.injEq] at hi
              subst hi
              have hj := hJ (.inl (by kernel_rfl))
              obtain ⟨xl, x0, x1, x2, x3, -⟩ := hj.box
              have h0 : f 5 = .pointer (some ⟨X, 0, none⟩) := (hold 5 (by kernel_rfl)).trans rfl
              clear hold huse hJ hbe hgr
              refine gives_K fun K hK => ?_
              go_simp
              exact gives_value (hK _ _ ⟨Below.refl _ _, by simp [upF]⟩)
            | 1, hi, _ =>
              simp only [List.getElem?_cons_zero, List.getElem?_cons_succ, Option.some.injEq] at hi
              subst hi
              have h0 : f 0 = .int .i64 a := (hold 0 (by kernel_rfl)).trans rfl
              clear hold huse hJ hbe hgr
              refine gives_K fun K hK => ?_
              go_simp
              exact gives_value (hK _ _ ⟨Below.refl _ _, by simp [upF]⟩)
            | 2, hi, _ =>
              simp only [List.getElem?_cons_zero, List.getElem?_cons_succ, Option.some.injEq] at hi
              subst hi
              have u1 := huse 1 (by decide)
              simp only at u1
              clear hold huse hJ hbe hgr
              refine gives_K fun K hK => ?_
              go_simp
              refine gives_enter ((keyed7_any a _).mono ?_)
              rintro e w2 ⟨Z1, rfl, hr, hb⟩
              exact ⟨_, rfl, hK _ _ ⟨hb, Z1, by simp [upF], hr⟩⟩
            | 3, hi, _ =>
              simp only [List.getElem?_cons_zero, List.getElem?_cons_succ, Option.some.injEq] at hi
              subst hi
              have u2 := huse 2 (by decide)
              simp only at u2
              obtain ⟨Z1, h1, hr1⟩ := u2
              clear hold huse hJ hbe hgr
              refine gives_K fun K hK => ?_
              go_simp
              exact gives_value (hK _ _ ⟨below_alloc _ _, _, by simp [upF], rows1_lit w a _ hr1⟩)
            | 4, hi, _ =>
              simp only [List.getElem?_cons_zero, List.getElem?_cons_succ, Option.some.injEq] at hi
              subst hi
              clear hold huse hJ hbe hgr
              refine gives_K fun K hK => ?_
              go_simp
              exact gives_value (hK _ _ ⟨below_alloc _ _, _, by simp [upF], nums1_lit w 2⟩)
            | 5, hi, _ =>
              simp only [List.getElem?_cons_zero, List.getElem?_cons_succ, Option.some.injEq] at hi
              subst hi
              have u3 := huse 3 (by decide)
              have u4 := huse 4 (by decide)
              simp only at u3
              simp only at u4
              obtain ⟨p70, h70, -⟩ := u3
              obtain ⟨p71, h71, -⟩ := u4
              clear hold huse hJ hbe hgr
              refine gives_K fun K hK => ?_
              go_simp
              exact gives_value (hK _ _ ⟨Below.refl _ _, by simp [upF, h70, h71]⟩)
            | 6, hi, _ =>
              simp only [List.getElem?_cons_zero, List.getElem?_cons_succ, Option.some.injEq] at hi
              subst hi
              have u0 := huse 0 (by decide)
              have u5 := huse 5 (by decide)
              have u3 := huse 3 (by decide)
              have u4 := huse 4 (by decide)
              simp only at u0
              simp only at u5
              simp only at u3
              simp only at u4
              have hj := hJ (.inl (by kernel_rfl))
              obtain ⟨p70, h70, hr70⟩ := u3
              obtain ⟨p71, h71, hr71⟩ := u4
              rw [h70, h71] at u5
              have hU1 : PairsAt w none [] := fun i hi => by simp at hi
              have hI2 : ∀ l ∈ ([kyL a] : List (List Val)), ∃ n, l = kyL n := by simp only [List.mem_cons, List.not_mem_nil, or_false]; rintro l rfl; exact ⟨_, rfl⟩
              have hU2 : ∀ u ∈ ([] : List PRow), ∃ n, u.2.2 = kyL n := fun u hu => by cases hu
              have HC := Lib.hid (chg_lit (w := w) (I := [kyL a]) (D := [2]) (U := []) hr70 hr71 hU1 rfl rfl rfl (by simp) (by simp) (by simp) hI2 hU2)
              have HJ := Lib.hid hj
              clear hj hr70 hr71 hU1 hI2 hU2
              clear hold huse hJ hbe hgr
              refine gives_K fun K hK => ?_
              go_simp
              refine gives_enter ((apply2_lit (E := 9) (SF := (fun _ => True)) HJ.out HC.out rfl rfl rfl (clash2 HAB.out) (fun _ _ _ _ => trivial) (fun _ _ => trivial)).mono ?_)
              rintro e w2 ⟨v, rfl, hb, hr⟩
              exact ⟨_, rfl, hK _ _ ⟨hb, by simpa [upF] using hr⟩⟩
            | 7, hi, _ =>
              simp only [List.getElem?_cons_zero, List.getElem?_cons_succ, Option.some.injEq] at hi
              subst hi
              clear hold huse hJ hbe hgr
              refine gives_K fun K hK => ?_
              go_simp
              exact gives_value (hK _ _ ⟨Below.refl _ _, by simp [upF]⟩)
            | 8, hi, _ =>
              simp only [List.getElem?_cons_zero, List.getElem?_cons_succ, Option.some.injEq] at hi
              subst hi
              have u7 := huse 7 (by decide)
              have u6 := huse 6 (by decide)
              simp only at u7
              simp only at u6
              obtain ⟨S, h1, -⟩ := u6
              have h2 : f 66 = .tuple #[S.v, .int .i64 9] := u7.trans h1
              clear h1 u7
              clear hold huse hJ hbe hgr
              refine gives_K fun K hK => ?_
              go_simp
              exact gives_value (hK _ _ ⟨Below.refl _ _, .int .i64 9, by simp [upF, h2]⟩)
            | 9, hi, _ =>
              simp only [List.getElem?_cons_zero, List.getElem?_cons_succ, Option.some.injEq] at hi
              subst hi
              have u7 := huse 7 (by decide)
              have u6 := huse 6 (by decide)
              simp only at u7
              simp only at u6
              obtain ⟨S, h1, -⟩ := u6
              have h2 : f 66 = .tuple #[S.v, .int .i64 9] := u7.trans h1
              clear h1 u7
              clear hold huse hJ hbe hgr
              refine gives_K fun K hK => ?_
              go_simp
              exact gives_value (hK _ _ ⟨Below.refl _ _, by simp [upF]⟩)
            | 10, hi, _ =>
              simp only [List.getElem?_cons_zero, List.getElem?_cons_succ, Option.some.injEq] at hi
              subst hi
              clear hold huse hJ hbe hgr
              refine gives_K fun K hK => ?_
              go_simp
              exact gives_value (hK _ _ ⟨below_alloc _ _, by simp [upF], by rw [size_alloc]; omega, cell4_new _ _ _ _ _ _⟩)
            | 11, _, hne => exact absurd rfl hne
            | 12, hi, _ =>
              simp only [List.getElem?_cons_zero, List.getElem?_cons_succ, Option.some.injEq] at hi
              subst hi
              have u9 := huse 9 (by decide)
              simp only at u9
              clear hold huse hJ hbe hgr
              refine gives_K fun K hK => ?_
              go_simp
              exact gives_value (hK _ _ ⟨Below.refl _ _, by simp [upF]⟩)
            | i + 13, hi, _ => simp at hi
          · intro o hi f w lo hi2 L hold hbe hgr hJ huse hL hseg hap
            obtain ⟨kt, kc, kf⟩ := evF_all f
            simp only [List.getElem?_cons_zero, List.getElem?_cons_succ, Option.some.injEq] at hi
            subst hi
            have u10 := huse 10 (by decide)
            have u8 := huse 8 (by decide)
            have u7 := huse 7 (by decide)
            have u6 := huse 6 (by decide)
            simp only at u10
            simp only at u8
            simp only at u7
            simp only at u6
            obtain ⟨hal, hlo, hcell⟩ := u10
            obtain ⟨S, h1, hsf, hsg⟩ := u6
            obtain ⟨y, h2⟩ := u8
            have h3 : f 74 = S.v := by
              have h4 := h2.symm.trans (u7.trans h1)
              injection h4 with h4
              exact (Array.mk.inj h4 |> List.cons.inj).1
            have hd := hap 6 10 (hL 6 (by decide)) (hL 10 (by decide)) (by decide)
            have hsz := (hseg 10 (hL 10 (by decide))).2.2
            have HSG := Lib.hid hsg
            have HSF := Lib.hid hsf
            have HCE := Lib.hid hcell
            have HBE := Lib.hid hbe
            generalize lo 10 = X at hal hlo hd hsz HCE
            have hX : X < lo 6 ∨ hi2 6 ≤ X := by omega
            obtain ⟨zl, z0, z1, z2, z3, zf⟩ := HCE.out
            unfold Tab.v at h3
            clear hold huse hJ hbe hgr hseg hap hL h1 h2 u7 hsg hcell hd hlo hsf
            refine gives_K fun K hK => ?_
            go_simp
            refine gives_skip (hK _ _ ⟨?_, ?_, ?_, ?_⟩)
            · simp [World.setCell]
            · exact (((HBE.out.setCell (by exact hsz) _).setCell (by exact hsz) _).setCell (by exact hsz) _).setCell (by exact hsz) _
            · exact ⟨S, X, hal, HSF.out, cell4_put w HCE.out _ _ _ _, ((((HSG.out.set hX _).set hX _).set hX _).set hX _).at⟩
            · intro j hj hne hl hs h
              match j, hne, hl, h with
              | 0, _, hl, _ => exact absurd hl (by decide)
              | 1, _, hl, _ => exact absurd hl (by decide)
              | 2, _, hl, _ => exact absurd hl (by decide)
              | 3, _, hl, _ => exact absurd hl (by decide)
              | 4, _, hl, _ => exact absurd hl (by decide)
              | 5, _, hl, _ => exact absurd hl (by decide)
              | 6, _, _, h =>
                obtain ⟨S2, q1, q2, q3⟩ := h
                exact ⟨S2, q1, q2, (((q3.set hX _).set hX _).set hX _).set hX _⟩
              | 7, _, _, h => exact h
              | 8, _, hl, _ => exact absurd hl (by decide)
              | 9, _, _, h => exact h
              | 10, _, hl, _ => exact absurd hl (by decide)
              | 11, hne, _, _ => exact absurd rfl hne
              | 12, _, _, h => exact h
              | j + 13, _, hl, _ => exact absurd hl (by simp)
          · intro f7 lo hi w7 hbe _ hall _ hseg
            have u6 := hall 6 (by decide) (.inl rfl)
            simp only at u6
            have u7 := hall 7 (by decide) (.inl rfl)
            simp only at u7
            have u9 := hall 9 (by decide) (.inl rfl)
            simp only at u9
            have u11 := hall 11 (by decide) (.inl rfl)
            simp only at u11
            have u12 := hall 12 (by decide) (.inl rfl)
            simp only at u12
            clear hall hseg
            obtain ⟨S7, X7, e2, hSF7, hbox⟩ := u11
            simp only [putAll, List.foldl_cons, List.foldl_nil, Act.put, List.setIfInBounds_toArray, List.set_cons_succ, List.set_cons_zero, e2, u12]
            have hb := undrewB (B := w6.heap.size) hbe
            have HT7 := Lib.hid (HT6.out.low hb)
            have HB7 := Lib.hid (below_next HB6.out hb)
            have HX4 := Lib.hid (HX4.out.low hb)
            have HX5 := Lib.hid (HX5.out.low hb)
            have HX7 := Lib.hid hbox
            clear u6 u7 u9 u12 e2 hbe hb hbox HT6 HB6
            clear hSF7 HX7 HT7
            obtain ⟨h41, h42⟩ := HSF4.out
            obtain ⟨h51, h52⟩ := HSF5.out
            have hx4 := HX4.out.box
            have hx5 := HX5.out.box
            rw [h41, h42] at hx4
            rw [h51, h52] at hx5
            clear h41 h42 h51 h52 HX4 HX5 HSF4 HSF5 HAB
            obtain ⟨xl, x0, x1, x2, x3, -⟩ := hx4
            obtain ⟨yl, y0, y1, y2, y3, -⟩ := hx5
            go_wp2_with fail
            refine (known7_any _).mono ?_
            rintro e w8 ⟨rfl, hb8⟩
            have HB8 := Lib.hid (below_next HB7.out hb8)
            clear hb8 HB7 xl x0 x1 x2 x3 yl y0 y1 y2 y3
            go_wp2
            go_ret
            exact ⟨rfl, HB8.out⟩
end Go.Proofs.Ytgaihglploedaaa
