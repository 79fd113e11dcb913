/-
  THE STATEMENT LogicForms, as a walk; and the statements' sanity check.
-/
import Derived.Test.YtlnjdgmolmeklaaDoorLogicAlike
import Derived.Test.YtlnjdgmolmeklaaDoorLists
namespace Go.Proofs.YtlnjdgmolmeklaaDoor
open Go.RowKit
variable {ls : List Nat}

theorem list8 {W wq : World} {t : TypeId} {a0 b0 a1 b1 a2 b2 a3 b3 a4 b4 a5 b5 a6 b6 a7 b7 : Int} {c0 c1 c2 c3 c4 c5 c6 c7 : ByteArray}
    (h : wq.alloc (.cells #[.int .i64 a0, .int .i64 b0, .string c0, .int .i64 a1, .int .i64 b1, .string c1, .int .i64 a2, .int .i64 b2, .string c2, .int .i64 a3, .int .i64 b3, .string c3, .int .i64 a4, .int .i64 b4, .string c4, .int .i64 a5, .int .i64 b5, .string c5, .int .i64 a6, .int .i64 b6, .string c6, .int .i64 a7, .int .i64 b7, .string c7] t) = W)
    (f0 : Fair (a0, b0, c0)) (f1 : Fair (a1, b1, c1)) (f2 : Fair (a2, b2, c2)) (f3 : Fair (a3, b3, c3)) (f4 : Fair (a4, b4, c4)) (f5 : Fair (a5, b5, c5)) (f6 : Fair (a6, b6, c6)) (f7 : Fair (a7, b7, c7)) :
    ∃ V, ListAt W wq.heap.size 8 V ∧ ∀ i, Fair (V i) := by
  subst h
  refine ⟨fun i => match i with | 0 => (a0, b0, c0) | 1 => (a1, b1, c1) | 2 => (a2, b2, c2) | 3 => (a3, b3, c3) | 4 => (a4, b4, c4) | 5 => (a5, b5, c5) | 6 => (a6, b6, c6) | _ => (a7, b7, c7), ⟨by simp, fun i hi => ?_⟩, fun i => ?_⟩
  · have hi' : i = 0 ∨ i = 1 ∨ i = 2 ∨ i = 3 ∨ i = 4 ∨ i = 5 ∨ i = 6 ∨ i = 7 := by omega
    rcases hi' with rfl | rfl | rfl | rfl | rfl | rfl | rfl | rfl
    all_goals
      refine ⟨?_, ?_, ?_⟩
      all_goals go_simp
  · match i with
    | 0 => exact f0
    | 1 => exact f1
    | 2 => exact f2
    | 3 => exact f3
    | 4 => exact f4
    | 5 => exact f5
    | 6 => exact f6
    | _ + 7 => exact f7

theorem and_known : andQ 0 0 ⟨#[]⟩ 2 0 ⟨#[]⟩ = 0 := by
  unfold andQ
  rw [log0, log1, place0, place1]
  rfl

set_option maxRecDepth 100000 in
set_option maxHeartbeats 1000000 in
theorem known2_any (w : World) (hE : Env ls w) (hlA : 0 ∈ ls) :
    Calls Tryd.prog 13 #[] w fun e w' => e = .returned (.bool true) ∧ Below w.heap.size w w' := by
  have HK := Lib.hid and_known
  have HT := Lib.hid (show sameV 2 1 ⟨#[]⟩ 2 1 ⟨#[]⟩ = true by simp [sameV])
  have HN := Lib.hid (show sameV 0 0 ⟨#[]⟩ 2 1 ⟨#[]⟩ = false by simp [sameV])
  have HL0 := Lib.hid log0
  have HL1 := Lib.hid log1
  go_enter Tryd.func13, Tryd.ntmps13
  go_wp2_with fail
  refine (rtruth_any false _).mono ?_
  rintro e w1 ⟨rfl, hb1⟩
  have hE1 := hE.low hb1
  go_wp2_with fail
  refine (and_any 0 0 ⟨#[]⟩ 2 0 ⟨#[]⟩ _ hE1 hlA (by decide) (by decide)).mono ?_
  rintro e w2 ⟨rfl, hb2⟩
  rw [HK.out, HL0.out, HL1.out]
  have hW := Below.next hb1 hb2
  clear hE hE1 hb1 hb2
  go_upto_region 2 with (fail)
  have hV := cell3_new w2 (.int .i64 (tvK 0)) (.int .i64 (tvN 0)) (.string ⟨#[]⟩) 23
  replace hW := Below.next hW (below_alloc w2 (.cells #[.int .i64 (tvK 0), .int .i64 (tvN 0), .string ⟨#[]⟩] 23))
  have hl := hW.size
  generalize w2.alloc _ = u at hV hW hl ⊢
  generalize w2.heap.size = B at hV ⊢
  obtain ⟨vz, v0, v1, v2, -⟩ := hV
  go_region_held3 (fun u => u.cell? ⟨B, 0, none⟩ = some (.int .i64 2) ∧ u.cell? ⟨B, 1, none⟩ = some (.int .i64 0) ∧ u.cell? ⟨B, 2, none⟩ = some (.string ⟨#[]⟩) ∧ B < u.heap.size ∧ Below w.heap.size w u ∧ w.heap.size ≤ u.heap.size)
    (first
      | exact ⟨v0, v1, v2, vz, hW.drew, hl⟩
      | exact keepB hbq (by assumption))
    (first
      | (go_at_call 7; refine (rtruth_any _ _).mono ?_; rintro e wq ⟨rfl, hbq⟩)
      | (go_at_call 30; refine (isTrue_any _ _ _ _).mono ?_; rintro e wq ⟨rfl, hbq⟩; (first | rw [HT.out] | rw [HN.out])))
  all_goals
    rename_i hHeld
    have hB9 := hHeld.2.2.2.2.1
    clear hHeld
    go_wp2
    go_ret
    exact ⟨rfl, hB9⟩

set_option maxRecDepth 100000 in
set_option maxHeartbeats 8000000 in
theorem lforms_walk (w : World) (ka na : Int) (sa : ByteArray) (kb nb : Int) (sb : ByteArray) (hna : -9223372036854775808 ≤ na) (hna' : na ≤ 9223372036854775807) (hnb : -9223372036854775808 ≤ nb) (hnb' : nb ≤ 9223372036854775807) (hsa : sa.size ≤ 9223372036854775807) (hsb : sb.size ≤ 9223372036854775807)
    (p : Option Addr) (len cap : Nat) (hl : len ≤ cap) (hm : len ≤ 9223372036854775807) (h : IntsAt w p len) (hE : Env ls w) (hlw : 2 ∈ ls) (hlA : 0 ∈ ls) (hlO : 1 ∈ ls) :
    Calls Tryd.prog 3 #[.agg #[.int .i64 ka, .int .i64 na, .string sa], .agg #[.int .i64 kb, .int .i64 nb, .string sb], .slice p len cap] w fun e w' => e = .returned (.bool true) ∧ Below w.heap.size w w' := by
  have hz8 := hE.size
  have HI' := Lib.hid ((h.low (low_alloc w (.cells #[.int .i64 ka, .int .i64 na, .string sa] 23))).low (low_alloc _ (.cells #[.int .i64 kb, .int .i64 nb, .string sb] 23)))
  have FA := Lib.hid (fair_mk (k := ka) hna hna' hsa)
  have FB := Lib.hid (fair_mk (k := kb) hnb hnb' hsb)
  clear h hna hna' hnb hnb' hsa hsb
  go_enter Tryd.func3, Tryd.ntmps3
  go_wp2_with fail
  refine (new_any _ p len cap hl hm HI'.out).mono ?_
  rintro e w1 ⟨b, rfl, hb0, ht, hb1⟩
  have hb0' : w.heap.size + 1 < b := Nat.lt_of_lt_of_le (Nat.lt_succ_self _) (by simpa using hb0)
  have h8b : 4 ≤ b := by omega
  obtain ⟨⟨a0, a1, a2⟩, -, ⟨d0, d1, d2⟩, hz1, hB1⟩ := boxes2 hb1
  have hE1 : Env ls w1 := hE.low hB1
  have hbw : b ≠ 2 := by omega
  have hz1' : w.heap.size < w1.heap.size := by omega
  have hbr : w.heap.size < b := by omega
  have hbW : w.heap.size ≤ b := by omega
  clear HI' hb1 hb0 hE
  go_wp2_with fail
  have HT := Lib.hid ht
  clear ht
  go_region_held3 (fun u => u.cell? ⟨w.heap.size, 0, none⟩ = some (.int .i64 ka) ∧ u.cell? ⟨w.heap.size, 1, none⟩ = some (.int .i64 na) ∧ u.cell? ⟨w.heap.size, 2, none⟩ = some (.string sa) ∧ u.cell? ⟨w.heap.size + 1, 0, none⟩ = some (.int .i64 kb) ∧ u.cell? ⟨w.heap.size + 1, 1, none⟩ = some (.int .i64 nb) ∧ u.cell? ⟨w.heap.size + 1, 2, none⟩ = some (.string sb) ∧ TapeAt u b ∧ Env ls u ∧ Below w.heap.size w u ∧ w.heap.size < u.heap.size ∧ w.heap.size + 1 < u.heap.size)
    (first
      | exact ⟨a0, a1, a2, d0, d1, d2, HT.out, hE1.drew, hB1.drew, hz1', hz1⟩
      | exact keepS6 hsq htq h8b hbr hb0' hbW (by assumption)
      | exact keepZ6 hbq h8b hbr hb0' hbW (by assumption)
      | exact keepA6 h8b hbr hb0' hbW (by assumption))
    (first
      | (go_at_call 7; refine (rtruth_any _ _).mono ?_; rintro e wq ⟨rfl, hbq⟩)
      | (go_at_call 10; refine (rnum_any _ _).mono ?_; rintro e wl ⟨rfl, hbq⟩)
      | (go_at_call 11; refine (number_any b _ ?_).mono ?_; (go_split_ands; assumption); rintro e wq ⟨nm, rfl, hnm, htq, hsq⟩)
      | (go_at_call 8; refine (value_any b _ hbw ?_ ?_).mono ?_; (go_split_ands; assumption); (go_split_ands; exact Env.words (by assumption) hlw); rintro e wq ⟨k, n, s, rfl, hv, -, htq, hsq⟩)
      | (go_at_call 9; refine (odd_any b _ hbw ?_ ?_).mono ?_; (go_split_ands; assumption); (go_split_ands; exact Env.words (by assumption) hlw); rintro e wo ⟨ko, no, so, rfl, ho, htq, hsq⟩))
  rename_i hHeld
  obtain ⟨-, -, -, -, -, -, -, hE2, hB2, -⟩ := hHeld
  clear a0 a1 a2 d0 d1 d2 hE1 hB1 HT hbw h8b hb0' hz1 hz1' hbr hbW
  have fv : Fair (k, n, s) := ⟨hv.odd.2.2.1, hv.odd.2.2.2.1, by have := hv.short; show s.size ≤ _; omega⟩
  have fo : Fair (ko, no, so) := ⟨ho.2.2.1, ho.2.2.2.1, by have := ho.2.2.2.2; show so.size ≤ _; omega⟩
  have fn : Fair (1, nm, ⟨#[]⟩) := fair_mk (by unfold IsNum at hnm; omega) (by unfold IsNum at hnm; omega) (by decide)
  clear hv ho hnm
  generalize hW : wl.alloc _ = W5 at hE2 hB2 ⊢
  obtain ⟨V, hV, hF⟩ := list8 hW FA.out FB.out (fair_mk (by decide) (by decide) (by decide)) (fair_mk (by decide) (by decide) (by decide)) (fair_mk (by decide) (by decide) (by decide)) fv fo fn
  clear hW fv fo fn FA FB
  generalize wl.heap.size = L at hV ⊢
  have HF := Lib.hid hF
  clear hF
  go_wp2
  go_loopw [10, 12, 30] (fun _ _ i wr => ∃ c : Nat, c ≤ 8 ∧ i = .int .i64 c ∧ Env ls wr ∧ ListAt wr L 8 V ∧ Below w.heap.size w wr) (fun _ _ i _ => 8 - (intOf i).toNat)
  case atStart => exact ⟨0, by omega, rfl, hE2, hV, hB2⟩
  case round =>
    clear hE2 hB2 hV
    obtain ⟨c, hc, rfl, hE, hV, hB⟩ := hrel
    by_cases hlt : c < 8
    · have hz := hB.size
      have hVz := hV.1
      obtain ⟨v0, v1, v2⟩ := hV.2 c hlt
      have hdc : decide ((c : Int) < 8) = true := by simp; omega
      go_wp2
      have hb1 := low_alloc wr (.cells #[.int .i64 (V c).1, .int .i64 (V c).2.1, .string (V c).2.2] 23)
      have hE1 := hE.low hb1
      have hV1 := hV.low hb1
      have hX1 := BoxAt.new wr (V c) 23
      have hB1 := Below.next hB hb1
      clear hE hV hB v0 v1 v2 hb1 hz hVz
      generalize wr.alloc _ = Wx at hE1 hV1 hX1 hB1 ⊢
      generalize wr.heap.size = X at hX1 ⊢
      go_loopw [12, 36] (fun _ i wr2 => ∃ d : Nat, d ≤ 8 ∧ i = .int .i64 d ∧ Env ls wr2 ∧ ListAt wr2 L 8 V ∧ BoxAt wr2 X (V c) ∧ Below w.heap.size w wr2) (fun _ i _ => 8 - (intOf i).toNat)
      case atStart => exact ⟨0, by omega, rfl, hE1, hV1, hX1, hB1⟩
      case round =>
        clear hE1 hB1 hV1 hX1
        obtain ⟨d, hd, rfl, hE, hV, hX, hB⟩ := hrel
        by_cases hlt2 : d < 8
        · have hz := hB.size
          have hVz := hV.1
          obtain ⟨v0, v1, v2⟩ := hV.2 d hlt2
          obtain ⟨hxz, x0, x1, x2⟩ := id hX
          have hdd : decide ((d : Int) < 8) = true := by simp; omega
          go_wp2_with fail
          have hb1 := low_alloc wr (.cells #[.int .i64 (V d).1, .int .i64 (V d).2.1, .string (V d).2.2] 23)
          have hE1 := hE.low hb1
          have hV1 := hV.low hb1
          have hX1 := hX.low hb1
          have hB1 := Below.next hB hb1
          clear hE hV hB v0 v1 v2 hb1 hz hVz hX hxz x0 x1 x2
          refine (alike_any _ _ _ _ _ _ _ hE1 hlA hlO (HF.out c).2.2 (HF.out d).2.2).mono ?_
          rintro e wq ⟨rfl, hbq⟩
          replace hE1 := hE1.low hbq
          replace hV1 := hV1.low hbq
          replace hX1 := hX1.low hbq
          replace hB1 := Below.next hB1 hbq
          clear hbq
          go_wp2
          go_roundw
          case rel => exact ⟨d + 1, by omega, by go_num, hE1, hV1, hX1, hB1⟩
          case measure => simp [intOf]; omega
        · go_wp2
          go_roundw
          case rel => exact ⟨c + 1, by omega, by go_num, hE, hV, hB⟩
          case measure => simp [intOf]; omega
    · go_wp2_with fail
      refine (known2_any _ hE hlA).mono ?_
      rintro e wi ⟨rfl, hbi⟩
      go_wp2
      go_ret
      exact ⟨rfl, Below.next hB hbi⟩
end Go.Proofs.YtlnjdgmolmeklaaDoor
