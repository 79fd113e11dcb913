/-
  Several texts in one.
-/
import Derived.Test.YtlnbpobipmejfaaGreatDoorPk38
import Derived.Test.YtlnbpobipmejfaaGreatDoorPk33
import Derived.Test.YtlnbpobipmejfaaGreatDoorPk03
import Derived.Test.YtlnbpobipmejfaaGreatDoorPk12
import Derived.Test.YtlnbpobipmejfaaGreatDoorPk04
import Derived.Deep.QuietTactic
import Derived.Deep.LoopGhost
import Derived.WalkMore
import Derived.Test.YtlnbpobipmejfaaGreatDoorPk24
import Derived.Test.YtlnbpobipmejfaaGreatDoorPk34
/-
  Bags of the reference's package delta: the rows that left, and those that came, in order.
-/
namespace Go.Proofs.YtlnbpobipmejfaaGreatDoor
set_option maxRecDepth 100000
open Go.RowKit
variable {ls : List Nat}

set_option maxHeartbeats 4000000 in
theorem rdbags_any (E : Dlt) (w : World) (hE : DltAt w E) (hl : E.D.length + E.I.length + E.U.length ≤ 1000) :
    Calls Tryz.prog 13 #[.agg #[.string E.nm, .slice E.pi E.I.length E.ci, .slice E.pd E.D.length E.cd, .slice E.pu E.U.length E.cu]] w (BagsPost E w) := by
  obtain ⟨nm, pi, ci, I, pd, cd, D, pu, cu, U⟩ := E
  dsimp only at hl ⊢
  obtain ⟨i25, hi25, hz25, hs25, hb25⟩ := info_parts info_row
  have HE := Lib.hid hE
  have HW0 := Lib.hid (BgW.mk (cell4_new w (.string nm) (.slice pi I.length ci) (.slice pd D.length cd) (.slice pu U.length cu) 25) ⟨[], ⟨rfl, Or.inl ⟨rfl, rfl⟩⟩, HeadsAt.nil _⟩ ⟨[], ⟨rfl, Or.inl ⟨rfl, rfl⟩⟩, HeadsAt.nil _⟩ (fun g hg => by cases hg) (below_alloc w (.cells #[.string nm, .slice pi I.length ci, .slice pd D.length cd, .slice pu U.length cu] 25)) : BgW w (.string nm) (.slice pi I.length ci) (.slice pd D.length cd) (.slice pu U.length cu) (.slice none 0 0) (.slice none 0 0) [] [] _)
  clear hE
  go_enter Tryz.func13, Tryz.ntmps13
  go_upto_region 1 with (fail)
  generalize World.alloc _ _ = W1 at HW0 ⊢
  obtain ⟨bl, b0, b1, b2, b3, -⟩ := HW0.out.box
  go_wp2_with fail
  go_loopw [4, 15] (fun s i v => ∃ k : Nat, k ≤ D.length ∧ i = .int .i64 k ∧ BgW w (.string nm) (.slice pi I.length ci) (.slice pd D.length cd) (.slice pu U.length cu) s (.slice none 0 0) ((D.take k).map (·.2)) [] v) (fun _ i _ => D.length - (intOf i).toNat)
  case atStart => exact ⟨0, Nat.zero_le _, rfl, HW0.out⟩
  clear HW0
  case round =>
    rename_i s
    obtain ⟨k, hk, rfl, hw⟩ := hrel
    obtain ⟨p1, n1, hs⟩ := hw.shapeL
    have hLn : ((D.take k).map (·.2)).length = k := by rw [List.length_map, List.length_take]; omega
    rw [hLn] at hs
    subst hs
    have HW := Lib.hid hw
    clear hw
    by_cases hlt : k < D.length
    · have hlt' : decide ((k : Int) < D.length) = true := decide_eq_true (by omega)
      obtain ⟨c, o, q, cp, hp, hc', h0', h1', hr, hs, hqn⟩ := HE.out.del k hlt
      dsimp only at hc' h0' h1' hr hs hqn
      have hc := Nat.lt_of_lt_of_le hc' HW.out.low.size
      have h0 : wr.cell? ⟨c, o + k * 2, none⟩ = some (.int .i64 (tAt D k).1) := by rw [HW.out.low.cell (by exact hc')]; exact h0'
      have h1 : wr.cell? ⟨c, o + k * 2 + 1, none⟩ = some (.slice q (tAt D k).2.length cp) := by rw [HW.out.low.cell (by exact hc')]; exact h1'
      have hb7 := below_new (below_new (Below.refl wr.heap.size wr) (.cells #[.int .i64 (tAt D k).1, .slice q (tAt D k).2.length cp] 58)) (.cells #[.slice q (tAt D k).2.length cp] 56)
      have HW7 := Lib.hid (HW.out.to hb7)
      obtain ⟨xs, ho7, hg7⟩ := HW7.out.l
      rw [hLn] at ho7
      have HO7 := Lib.hid ho7
      have HX := Lib.hid (heads_add hg7 hr hs hqn)
      have HNEW := Lib.hid (head_news wr (.cells #[.int .i64 (tAt D k).1, .slice q (tAt D k).2.length cp] 58) (.slice q (tAt D k).2.length cp))
      have HZ : Hid (w.heap.size + 1 ≤ ((wr.alloc (.cells #[.int .i64 (tAt D k).1, .slice q (tAt D k).2.length cp] 58)).alloc (.cells #[.slice q (tAt D k).2.length cp] 56)).heap.size) := Lib.hid (Nat.succ_le_of_lt HW7.out.box.lt)
      clear hr hqn h0' h1' hc' hb7 ho7 hg7
      dsimp only at hp
      subst hp
      go_wp2_with (at_builtin; refine wpList_append_lies _ rfl (.tmp 19) (.tmp 22) 43 rfl (w.heap.size + 1) 56 i25 _ 1 24 Tryz.underlying43 hi25 hz25 hs25 hb25 rfl (by decide) (.slice p1 k n1) k xs (by rfl) HO7.out ⟨wr.heap.size + 1, 0, none⟩ 1 1 [.slice q (tAt D k).2.length cp] (by rfl) rfl HNEW.out (by intro u hu; obtain rfl := List.mem_singleton.1 hu; rfl) (by decide) (by unfold maxLen; omega) (by omega) HZ.out _ rfl ?_; intro g8 c8 w8 hown8 hgr8 hat8 hlt8; (have HW8 := Lib.hid (HW7.out.pushL hLn HX.out HO7.out hown8 hgr8 hat8)); clear hown8 hgr8 hat8 hlt8)
      go_roundw
      case rel => exact ⟨k + 1, by omega, by go_num, by rw [bag_take hlt]; exact HW8.out⟩
      case measure => simp [intOf]; omega
    · have hlt' : decide ((k : Int) < D.length) = false := decide_eq_false (by omega)
      obtain rfl : k = D.length := by omega
      have hw := HW.out
      rw [List.take_length] at hw
      have HWA := Lib.hid hw
      obtain ⟨bl, b0, b1, b2, b3, -⟩ := HWA.out.box
      clear hw HW hLn
      go_wp2_with fail
      go_loopw [5, 28] (fun s i v => ∃ k : Nat, k ≤ I.length ∧ i = .int .i64 k ∧ BgW w (.string nm) (.slice pi I.length ci) (.slice pd D.length cd) (.slice pu U.length cu) (.slice p1 D.length n1) s (D.map (·.2)) ((I.take k).map (·.2)) v) (fun _ i _ => I.length - (intOf i).toNat)
      case atStart => exact ⟨0, Nat.zero_le _, rfl, HWA.out⟩
      clear HWA
      case round =>
        rename_i s
        obtain ⟨k, hk, rfl, hw⟩ := hrel
        obtain ⟨p2, n2, hs⟩ := hw.shapeC
        have hLn : ((I.take k).map (·.2)).length = k := by rw [List.length_map, List.length_take]; omega
        rw [hLn] at hs
        subst hs
        have HW := Lib.hid hw
        clear hw
        by_cases hlt : k < I.length
        · have hlt' : decide ((k : Int) < I.length) = true := decide_eq_true (by omega)
          obtain ⟨c, o, q, cp, hp, hc', h0', h1', hr, hs, hqn⟩ := HE.out.ins k hlt
          dsimp only at hc' h0' h1' hr hs hqn
          have hc := Nat.lt_of_lt_of_le hc' HW.out.low.size
          have h0 : wr.cell? ⟨c, o + k * 2, none⟩ = some (.int .i64 (tAt I k).1) := by rw [HW.out.low.cell (by exact hc')]; exact h0'
          have h1 : wr.cell? ⟨c, o + k * 2 + 1, none⟩ = some (.slice q (tAt I k).2.length cp) := by rw [HW.out.low.cell (by exact hc')]; exact h1'
          have hb7 := below_new (below_new (Below.refl wr.heap.size wr) (.cells #[.int .i64 (tAt I k).1, .slice q (tAt I k).2.length cp] 58)) (.cells #[.slice q (tAt I k).2.length cp] 56)
          have HW7 := Lib.hid (HW.out.to hb7)
          obtain ⟨xs, ho7, hg7⟩ := HW7.out.c
          rw [hLn] at ho7
          have HO7 := Lib.hid ho7
          have HX := Lib.hid (heads_add hg7 hr hs hqn)
          have HNEW := Lib.hid (head_news wr (.cells #[.int .i64 (tAt I k).1, .slice q (tAt I k).2.length cp] 58) (.slice q (tAt I k).2.length cp))
          have HZ : Hid (w.heap.size + 1 ≤ ((wr.alloc (.cells #[.int .i64 (tAt I k).1, .slice q (tAt I k).2.length cp] 58)).alloc (.cells #[.slice q (tAt I k).2.length cp] 56)).heap.size) := Lib.hid (Nat.succ_le_of_lt HW7.out.box.lt)
          clear hr hqn h0' h1' hc' hb7 ho7 hg7
          dsimp only at hp
          subst hp
          go_wp2_with (at_builtin; refine wpList_append_lies _ rfl (.tmp 32) (.tmp 35) 43 rfl (w.heap.size + 1) 56 i25 _ 1 24 Tryz.underlying43 hi25 hz25 hs25 hb25 rfl (by decide) (.slice p2 k n2) k xs (by rfl) HO7.out ⟨wr.heap.size + 1, 0, none⟩ 1 1 [.slice q (tAt I k).2.length cp] (by rfl) rfl HNEW.out (by intro u hu; obtain rfl := List.mem_singleton.1 hu; rfl) (by decide) (by unfold maxLen; omega) (by omega) HZ.out _ rfl ?_; intro g8 c8 w8 hown8 hgr8 hat8 hlt8; (have HW8 := Lib.hid (HW7.out.pushC hLn HX.out HO7.out hown8 hgr8 hat8)); clear hown8 hgr8 hat8 hlt8)
          go_roundw
          case rel => exact ⟨k + 1, by omega, by go_num, by rw [bag_take hlt]; exact HW8.out⟩
          case measure => simp [intOf]; omega
        · have hlt' : decide ((k : Int) < I.length) = false := decide_eq_false (by omega)
          obtain rfl : k = I.length := by omega
          have hw := HW.out
          rw [List.take_length] at hw
          have HWB := Lib.hid hw
          obtain ⟨bl, b0, b1, b2, b3, -⟩ := HWB.out.box
          clear hw HW hLn
          go_wp2_with fail
          go_loopw [4, 5, 41] (fun sl sc i v => ∃ k : Nat, k ≤ U.length ∧ i = .int .i64 k ∧ BgW w (.string nm) (.slice pi I.length ci) (.slice pd D.length cd) (.slice pu U.length cu) sl sc (D.map (·.2) ++ (U.take k).map (·.2.1)) (I.map (·.2) ++ (U.take k).map (·.2.2)) v) (fun _ _ i _ => U.length - (intOf i).toNat)
          case atStart => exact ⟨0, Nat.zero_le _, rfl, by simpa using HWB.out⟩
          clear HWB
          case round =>
            rename_i sl sc
            obtain ⟨k, hk, rfl, hw⟩ := hrel
            obtain ⟨pl, nl, hsl⟩ := hw.shapeL
            obtain ⟨pc, nc, hsc⟩ := hw.shapeC
            have hLl : (D.map (·.2) ++ (U.take k).map (·.2.1)).length = D.length + k := by rw [List.length_append, List.length_map, List.length_map, List.length_take]; omega
            have hMl : (I.map (·.2) ++ (U.take k).map (·.2.2)).length = I.length + k := by rw [List.length_append, List.length_map, List.length_map, List.length_take]; omega
            rw [hLl] at hsl
            rw [hMl] at hsc
            subst hsl hsc
            have HW := Lib.hid hw
            clear hw
            by_cases hlt : k < U.length
            · have hlt' : decide ((k : Int) < U.length) = true := decide_eq_true (by omega)
              obtain ⟨c, o, q, cq, r, cr, hp, hc', h0', h1', h2', hr, hr2, hs, hs2, hqn, hrn⟩ := HE.out.upd k hlt
              dsimp only at hc' h0' h1' h2' hr hr2 hs hs2 hqn hrn
              have hc := Nat.lt_of_lt_of_le hc' HW.out.low.size
              have h0 : wr.cell? ⟨c, o + k * 3, none⟩ = some (.int .i64 (pAt U k).1) := by rw [HW.out.low.cell (by exact hc')]; exact h0'
              have h1 : wr.cell? ⟨c, o + k * 3 + 1, none⟩ = some (.slice q (pAt U k).2.1.length cq) := by rw [HW.out.low.cell (by exact hc')]; exact h1'
              have h2 : wr.cell? ⟨c, o + k * 3 + 2, none⟩ = some (.slice r (pAt U k).2.2.length cr) := by rw [HW.out.low.cell (by exact hc')]; exact h2'
              have HWP := Lib.hid (HW.out.to (below_alloc wr (.cells #[.int .i64 (pAt U k).1, .slice q (pAt U k).2.1.length cq, .slice r (pAt U k).2.2.length cr] 75)))
              have HP := Lib.hid (cell3_new wr (.int .i64 (pAt U k).1) (.slice q (pAt U k).2.1.length cq) (.slice r (pAt U k).2.2.length cr) 75)
              have HRQ := Lib.hid hr
              have HRR := Lib.hid hr2
              have HQN := Lib.hid hqn
              have HRN := Lib.hid hrn
              clear hr hr2 hqn hrn h0' h1' h2' hc'
              obtain ⟨_, ho5, -⟩ := HW.out.l
              have HLT := Lib.hid (owns_lt ho5)
              clear ho5
              dsimp only at hp
              subst hp
              go_upto_region 15 with (fail)
              clear h0 h1 h2 hc HW
              generalize World.alloc _ _ = W5 at HWP HP ⊢
              generalize wr.heap.size = Y at HP HLT ⊢
              have HW6 := Lib.hid (HWP.out.to (below_alloc W5 (.cells #[.slice q (pAt U k).2.1.length cq] 56)))
              obtain ⟨xs, ho6, hg6⟩ := HW6.out.l
              rw [hLl] at ho6
              have HO6 := Lib.hid ho6
              have HX := Lib.hid (heads_add hg6 HRQ.out hs HQN.out)
              have HNEW := Lib.hid (one_news W5 (.slice q (pAt U k).2.1.length cq))
              have HZ : Hid (w.heap.size + 1 ≤ (W5.alloc (.cells #[.slice q (pAt U k).2.1.length cq] 56)).heap.size) := Lib.hid (Nat.succ_le_of_lt HW6.out.box.lt)
              have HP6 := Lib.hid (HP.out.low (below_alloc W5 (.cells #[.slice q (pAt U k).2.1.length cq] 56)))
              obtain ⟨yl, y0, y1, y2, -⟩ := HP.out
              clear ho6 hg6
              go_upto_region 16 with (at_builtin; refine wpList_append_lies _ rfl (.tmp 45) (.tmp 48) 43 rfl (w.heap.size + 1) 56 i25 _ 1 24 Tryz.underlying43 hi25 hz25 hs25 hb25 rfl (by decide) (.slice pl (D.length + k) nl) (D.length + k) xs (by rfl) HO6.out ⟨W5.heap.size, 0, none⟩ 1 1 [.slice q (pAt U k).2.1.length cq] (by rfl) rfl HNEW.out (by intro u hu; obtain rfl := List.mem_singleton.1 hu; rfl) (by decide) (by unfold maxLen; omega) (by omega) HZ.out _ rfl ?_; intro g8 c8 w8 hown8 hgr8 hat8 hlt8; (have HW8 := Lib.hid (HW6.out.pushL hLl HX.out HO6.out hown8 hgr8 hat8)); (have HP8 := Lib.hid (cell3_grownR HP6.out hgr8 HLT.out)); clear hown8 hgr8 hat8 hlt8)
              clear HWP HP HW6 HO6 HX HNEW HZ HP6 yl y0 y1 y2
              have HW9 := Lib.hid (HW8.out.to (below_alloc w8 (.cells #[.slice r (pAt U k).2.2.length cr] 56)))
              obtain ⟨ys, ho9, hg9⟩ := HW9.out.c
              rw [hMl] at ho9
              have HO9 := Lib.hid ho9
              have HX := Lib.hid (heads_add hg9 HRR.out hs2 HRN.out)
              have HNEW := Lib.hid (one_news w8 (.slice r (pAt U k).2.2.length cr))
              have HZ : Hid (w.heap.size + 1 ≤ (w8.alloc (.cells #[.slice r (pAt U k).2.2.length cr] 56)).heap.size) := Lib.hid (Nat.succ_le_of_lt HW9.out.box.lt)
              obtain ⟨yl, y0, y1, y2, -⟩ := HP8.out
              clear ho9 hg9
              go_wp2_with (at_builtin; refine wpList_append_lies _ rfl (.tmp 50) (.tmp 53) 43 rfl (w.heap.size + 1) 56 i25 _ 1 24 Tryz.underlying43 hi25 hz25 hs25 hb25 rfl (by decide) (.slice pc (I.length + k) nc) (I.length + k) ys (by rfl) HO9.out ⟨w8.heap.size, 0, none⟩ 1 1 [.slice r (pAt U k).2.2.length cr] (by rfl) rfl HNEW.out (by intro u hu; obtain rfl := List.mem_singleton.1 hu; rfl) (by decide) (by unfold maxLen; omega) (by omega) HZ.out _ rfl ?_; intro g9 c9 w10 hown9 hgr9 hat9 hlt9; (have HWT := Lib.hid (HW9.out.pushC hMl HX.out HO9.out hown9 hgr9 hat9)); clear hown9 hgr9 hat9 hlt9)
              go_roundw
              case rel => exact ⟨k + 1, by omega, by go_num, by rw [upd_take1 hlt, upd_take2 hlt, ← List.append_assoc, ← List.append_assoc]; exact HWT.out⟩
              case measure => simp [intOf]; omega
            · have hlt' : decide ((k : Int) < U.length) = false := decide_eq_false (by omega)
              obtain rfl : k = U.length := by omega
              have hw := HW.out
              rw [List.take_length] at hw
              obtain ⟨xs, ho1, hg1⟩ := hw.l
              obtain ⟨ys, ho2, hg2⟩ := hw.c
              have HL := Lib.hid (rows_of_heads ho1 (hg1.low hw.low) : RowsAt wr pl (leftR ⟨nm, pi, ci, I, pd, cd, D, pu, cu, U⟩))
              have HM := Lib.hid (rows_of_heads ho2 (hg2.low hw.low) : RowsAt wr pc (cameR ⟨nm, pi, ci, I, pd, cd, D, pu, cu, U⟩))
              have HB := Lib.hid hw.low
              have hL9 : (leftR ⟨nm, pi, ci, I, pd, cd, D, pu, cu, U⟩).length ≤ 1000 := by unfold leftR; rw [List.length_append, List.length_map, List.length_map]; dsimp only; omega
              have hM9 : (cameR ⟨nm, pi, ci, I, pd, cd, D, pu, cu, U⟩).length ≤ 1000 := by unfold cameR; rw [List.length_append, List.length_map, List.length_map]; dsimp only; omega
              have hLe : (leftR ⟨nm, pi, ci, I, pd, cd, D, pu, cu, U⟩).length = D.length + U.length := by unfold leftR; rw [List.length_append, List.length_map, List.length_map]
              have hMe : (cameR ⟨nm, pi, ci, I, pd, cd, D, pu, cu, U⟩).length = I.length + U.length := by unfold cameR; rw [List.length_append, List.length_map, List.length_map]
              have HSL := Lib.hid (rsorted_any (leftR ⟨nm, pi, ci, I, pd, cd, D, pu, cu, U⟩) pl nl _ hL9 HL.out)
              rw [hLe] at HSL
              clear hw HW ho1 ho2 hg1 hg2 hLl hMl
              go_wp2_with fail
              refine HSL.out.mono ?_
              rintro e w3 ⟨p3, c3, rfl, hr3, hl3, hb3⟩
              have HR3 := Lib.hid hr3
              have HM3 := Lib.hid (HM.out.low hb3)
              have HB3 := Lib.hid (below_next HB.out hb3)
              clear hr3 hl3 hb3
              go_wp2_with fail
              have HSM := Lib.hid (rsorted_any (cameR ⟨nm, pi, ci, I, pd, cd, D, pu, cu, U⟩) pc nc _ hM9 HM3.out)
              rw [hMe] at HSM
              refine HSM.out.mono ?_
              rintro e w4 ⟨p4, c4, rfl, hr4, hl4, hb4⟩
              have HR4 := Lib.hid (HR3.out.low hb4)
              have HR5 := Lib.hid hr4
              have HB4 := Lib.hid (below_next HB3.out hb4)
              clear hr4 hl4 hb4
              go_wp2
              go_ret2
              exact ⟨p3, c3, p4, c4, rfl, HR4.out, HR5.out, HB4.out⟩
end Go.Proofs.YtlnbpobipmejfaaGreatDoor
/-
  Changed, of package delta and of the reference: the columns in which an update differs.
-/
namespace Go.Proofs.YtlnbpobipmejfaaGreatDoor
set_option maxRecDepth 100000
open Go.RowKit
variable {ls : List Nat}

/-- Does an update differ in a column? -/
def sameAt (a b : List Val) (i : Nat) : Bool := sameV (vAt a i).1 (vAt a i).2.1 (vAt a i).2.2 (vAt b i).1 (vAt b i).2.1 (vAt b i).2.2
def diffP (i : Nat) (p : PRow) : Bool := decide (i < p.2.1.length) && (decide (i < p.2.2.length) && !sameAt p.2.1 p.2.2 i)
/-- The names of the columns in which an update differs. -/
def changedL (U : List PRow) (f : Nat → Col) : Nat → List ByteArray
  | 0 => []
  | n + 1 => changedL U f n ++ if U.any (diffP n) then [(f n).nm] else []
theorem changedL_length (U : List PRow) (f : Nat → Col) : ∀ n, (changedL U f n).length ≤ n
  | 0 => Nat.le_refl _
  | n + 1 => by
    have := changedL_length U f n
    rw [changedL, List.length_append]
    split <;> simp <;> omega
theorem any_take {U : List PRow} {q : PRow → Bool} {k : Nat} (h : k < U.length) : (U.take (k + 1)).any q = ((U.take k).any q || q (pAt U k)) := by
  rw [List.take_succ_eq_append_getElem h, List.any_append, pAt_get h]; simp
theorem any_hit {U : List PRow} {q : PRow → Bool} {k : Nat} (h : k < U.length) (hq : q (pAt U k) = true) : U.any q = true :=
  List.any_eq_true.2 ⟨pAt U k, pAt_mem h, hq⟩
theorem neq_val8 (k n : Int) (s : ByteArray) (k' n' : Int) (s' : ByteArray) (w : World) :
    (binOp .neq 55 (.agg #[.int .i64 k, .int .i64 n, .string s]) (.agg #[.int .i64 k', .int .i64 n', .string s'])).run Tryz.prog w = .ok (.bool (!sameV k n s k' n' s')) w := by
  go_simp
  unfold sameV
  by_cases h1 : k = k'
  · by_cases h2 : n = n'
    · by_cases h3 : s = s'
      · simp [h1, h2, h3]
      · have h4 : ¬ s.toList = s'.toList := fun h => h3 (WideShapes.bytes_inj (by rw [ByteArray.toList_eq, ByteArray.toList_eq] at h; exact h))
        simp [h1, h2, h3, h4]
    · simp [h1, h2]
  · simp [h1]
/-- The cells of one update. -/
abbrev pairV (id : Int) (q : Option Addr) (l cq : Nat) (r : Option Addr) (m cr : Nat) : Value := .agg #[.int .i64 id, .slice q l cq, .slice r m cr]
theorem below_drewN8 (w : World) (n : Nat) : Below w.heap.size w (w.drewN n) := ⟨rfl, rfl, rfl, Nat.le_refl _, fun _ _ => rfl⟩
set_option maxHeartbeats 2000000 in
theorem rdiffers_any (id : Int) (a b : List Val) (q : Option Addr) (cq : Nat) (r : Option Addr) (cr i : Nat) (w : World) (ha : RowAt w q a) (hb : RowAt w r b) (_hla : a.length * 32 ≤ 140737488355328) (_hlb : b.length * 32 ≤ 140737488355328) :
    Calls Tryz.prog 42 #[.agg #[.int .i64 id, .slice q a.length cq, .slice r b.length cr], .int .i64 i] w fun e w' => e = .returned (.bool (diffP i (id, a, b))) ∧ Below w.heap.size w w' := by
  have hb0 := below_new (Below.refl w.heap.size w) (.cells #[.int .i64 id, .slice q a.length cq, .slice r b.length cr] 75)
  have HB := Lib.hid hb0
  have HX := Lib.hid (cell3_new w (.int .i64 id) (.slice q a.length cq) (.slice r b.length cr) 75)
  have HA := Lib.hid (ha.low hb0)
  have HBR := Lib.hid (hb.low hb0)
  clear hb0 ha hb
  by_cases h1 : i < a.length
  · have e1 : decide ((i : Int) < a.length) = true := decide_eq_true (by omega)
    by_cases h2 : i < b.length
    · have e2 : decide ((i : Int) < b.length) = true := decide_eq_true (by omega)
      have HV : Hid (diffP i (id, a, b) = !sameAt a b i) := Lib.hid (by unfold diffP; dsimp only; rw [decide_eq_true h1, decide_eq_true h2]; simp)
      have hq := neq_val8 (vAt a i).1 (vAt a i).2.1 (vAt a i).2.2 (vAt b i).1 (vAt b i).2.1 (vAt b i).2.2
      go_enter Tryz.func42, Tryz.ntmps42
      go_upto_region 1 with (fail)
      generalize World.alloc _ _ = W0 at HX HB HA HBR ⊢
      obtain ⟨xl, x0, x1, x2, -⟩ := HX.out
      obtain ⟨c, o, rfl, hc, a0, a1, a2⟩ := HA.out i h1
      obtain ⟨d, p, rfl, hd, b0, b1, b2⟩ := HBR.out i h2
      go_quiet (fail)
      go_wp2
      go_ret
      exact ⟨ret_b (by rw [HV.out]; rfl), below_next HB.out (below_drewN8 _ _)⟩
    · have e2 : decide ((i : Int) < b.length) = false := decide_eq_false (by omega)
      have HV : Hid (diffP i (id, a, b) = false) := Lib.hid (by unfold diffP; dsimp only; rw [decide_eq_false h2]; simp)
      go_enter Tryz.func42, Tryz.ntmps42
      go_upto_region 1 with (fail)
      generalize World.alloc _ _ = W0 at HX HB HA HBR ⊢
      obtain ⟨xl, x0, x1, x2, -⟩ := HX.out
      go_quiet (fail)
      go_wp2
      go_ret
      exact ⟨ret_b (by rw [HV.out]), below_next HB.out (below_drewN8 _ _)⟩
  · have e1 : decide ((i : Int) < a.length) = false := decide_eq_false (by omega)
    have HV : Hid (diffP i (id, a, b) = false) := Lib.hid (by unfold diffP; dsimp only; rw [decide_eq_false h1]; rfl)
    go_enter Tryz.func42, Tryz.ntmps42
    go_upto_region 1 with (fail)
    generalize World.alloc _ _ = W0 at HX HB HA HBR ⊢
    obtain ⟨xl, x0, x1, x2, -⟩ := HX.out
    go_quiet (fail)
    go_wp2
    go_ret
    exact ⟨ret_b (by rw [HV.out]), below_next HB.out (below_drewN8 _ _)⟩
set_option maxHeartbeats 2000000 in
theorem differs_any (id : Int) (a b : List Val) (q : Option Addr) (cq : Nat) (r : Option Addr) (cr i B : Nat) (w : World) (ha : RowAt w q a) (hb : RowAt w r b) (_hla : a.length * 32 ≤ 140737488355328) (_hlb : b.length * 32 ≤ 140737488355328) (hB : B < w.heap.size) (hi : w.cell? ⟨B, 0, none⟩ = some (.int .i64 i)) :
    Calls Tryz.prog 39 #[.agg #[.int .i64 id, .slice q a.length cq, .slice r b.length cr], .pointer (some ⟨B, 0, none⟩)] w fun e w' => e = .returned (.bool (diffP i (id, a, b))) ∧ Below w.heap.size w w' := by
  have hb0 := below_new (Below.refl w.heap.size w) (.cells #[.int .i64 id, .slice q a.length cq, .slice r b.length cr] 75)
  have HB := Lib.hid hb0
  have HX := Lib.hid (cell3_new w (.int .i64 id) (.slice q a.length cq) (.slice r b.length cr) 75)
  have HA := Lib.hid (ha.low (below_alloc w (.cells #[.int .i64 id, .slice q a.length cq, .slice r b.length cr] 75)))
  have HBR := Lib.hid (hb.low (below_alloc w (.cells #[.int .i64 id, .slice q a.length cq, .slice r b.length cr] 75)))
  have HI : Hid ((w.alloc (.cells #[.int .i64 id, .slice q a.length cq, .slice r b.length cr] 75)).cell? ⟨B, 0, none⟩ = some (.int .i64 i) ∧ B < (w.alloc (.cells #[.int .i64 id, .slice q a.length cq, .slice r b.length cr] 75)).heap.size) := Lib.hid ⟨by rw [(below_alloc w _).cell (by exact hB)]; exact hi, Nat.lt_of_lt_of_le hB (below_alloc w _).size⟩
  clear hb0 ha hb hi
  by_cases h1 : i < a.length
  · have e1 : decide ((i : Int) < a.length) = true := decide_eq_true (by omega)
    by_cases h2 : i < b.length
    · have e2 : decide ((i : Int) < b.length) = true := decide_eq_true (by omega)
      have HV : Hid (diffP i (id, a, b) = !sameAt a b i) := Lib.hid (by unfold diffP; dsimp only; rw [decide_eq_true h1, decide_eq_true h2]; simp)
      go_enter Tryz.func39, Tryz.ntmps39
      go_upto_region 1 with (fail)
      generalize World.alloc _ _ = W0 at HX HB HA HBR HI ⊢
      obtain ⟨xl, x0, x1, x2, -⟩ := HX.out
      obtain ⟨hi0, hiB⟩ := HI.out
      obtain ⟨c, o, rfl, hc, a0, a1, a2⟩ := HA.out i h1
      obtain ⟨d, p, rfl, hd, b0, b1, b2⟩ := HBR.out i h2
      have l0 := lowW_cell (a := ⟨w.heap.size, 0, none⟩) xl x0
      have l1 := lowW_cell (a := ⟨w.heap.size, 1, none⟩) xl x1
      have l2 := lowW_cell (a := ⟨w.heap.size, 2, none⟩) xl x2
      have li := lowW_cell (a := ⟨B, 0, none⟩) hiB hi0
      have m0 := lowW_cell (a := ⟨c, o + i * 3, none⟩) hc a0
      have m1 := lowW_cell (a := ⟨c, o + i * 3 + 1, none⟩) hc a1
      have m2 := lowW_cell (a := ⟨c, o + i * 3 + 2, none⟩) hc a2
      have n0 := lowW_cell (a := ⟨d, p + i * 3, none⟩) hd b0
      have n1 := lowW_cell (a := ⟨d, p + i * 3 + 1, none⟩) hd b1
      have n2 := lowW_cell (a := ⟨d, p + i * 3 + 2, none⟩) hd b2
      clear x0 x1 x2 hi0 a0 a1 a2 b0 b1 b2
      refine wp_region_low (by kernel_rfl) (by kernel_rfl) ?_
      repeat (refine wq_step (fun K hK => ?_); go_simp; first | (refine hK _ ?_; clear hK K) | (apply Exists.intro; refine ⟨fun _ => ?_, hK _ ?_⟩; (go_at_call 40; exact Calls.low_of (same_any _ _ _ _ _ _ _)); clear hK K))
      refine wq_nil ?_
      rintro _ ⟨⟨d3, os3⟩, rfl⟩
      dsimp only
      have HB3 := Lib.hid (below_next HB.out (lowW_low W0 d3 os3))
      clear l0 l1 l2 li m0 m1 m2 n0 n1 n2
      generalize lowW W0 d3 os3 = w4 at HB3 ⊢
      go_wp2
      go_ret
      exact ⟨ret_b (by rw [HV.out]; rfl), HB3.out⟩
    · have e2 : decide ((i : Int) < b.length) = false := decide_eq_false (by omega)
      have HV : Hid (diffP i (id, a, b) = false) := Lib.hid (by unfold diffP; dsimp only; rw [decide_eq_false h2]; simp)
      go_enter Tryz.func39, Tryz.ntmps39
      go_upto_region 1 with (fail)
      generalize World.alloc _ _ = W0 at HX HB HA HBR HI ⊢
      obtain ⟨xl, x0, x1, x2, -⟩ := HX.out
      obtain ⟨hi0, hiB⟩ := HI.out
      go_quiet (fail)
      go_wp2
      go_ret
      exact ⟨ret_b (by rw [HV.out]), below_next HB.out (below_drewN8 _ _)⟩
  · have e1 : decide ((i : Int) < a.length) = false := decide_eq_false (by omega)
    have HV : Hid (diffP i (id, a, b) = false) := Lib.hid (by unfold diffP; dsimp only; rw [decide_eq_false h1]; rfl)
    go_enter Tryz.func39, Tryz.ntmps39
    go_upto_region 1 with (fail)
    generalize World.alloc _ _ = W0 at HX HB HA HBR HI ⊢
    obtain ⟨xl, x0, x1, x2, -⟩ := HX.out
    obtain ⟨hi0, hiB⟩ := HI.out
    go_quiet (fail)
    go_wp2
    go_ret
    exact ⟨ret_b (by rw [HV.out]), below_next HB.out (below_drewN8 _ _)⟩
end Go.Proofs.YtlnbpobipmejfaaGreatDoor
/-
  Changed, of package delta and of the reference: the lists of names; slices.Equal at them.
-/
namespace Go.Proofs.YtlnbpobipmejfaaGreatDoor
set_option maxRecDepth 100000
open Go.RowKit
variable {ls : List Nat}

/-- Texts in memory. -/
def StrsAt (w : World) (p : Option Addr) (L : List ByteArray) : Prop := ∀ j, (h : j < L.length) → ∃ (c o : Nat), p = some ⟨c, o, none⟩ ∧ c < w.heap.size ∧ w.cell? ⟨c, o + j, none⟩ = some (.string L[j])
theorem StrsAt.low {u v : World} {p : Option Addr} {L : List ByteArray} (h : StrsAt u p L) (hb : Below u.heap.size u v) : StrsAt v p L := fun j hj => by
  obtain ⟨c, o, h1, h2, h3⟩ := h j hj
  exact ⟨c, o, h1, Nat.lt_of_lt_of_le h2 hb.size, by rw [hb.cell (by exact h2)]; exact h3⟩
def scells (L : List ByteArray) : List Value := L.map Value.string
theorem info_str : (Tryz.prog.info? 9).map (fun i => (i.zero, i.size, i.bytes)) = some (some (.string ⟨#[]⟩), 1, 16) := by kernel_rfl
theorem strs_of_owns {w : World} {base : Nat} {v : Value} {L : List ByteArray} (h : w.ownsRow base 9 1 v L.length (scells L)) : ∃ p c, v = .slice p L.length c ∧ StrsAt w p L := by
  rcases h.2 with ⟨rfl, h0⟩ | ⟨g, cap', cur, rfl, hg, hh, hcap, hm, hcur, htake⟩
  · exact ⟨none, 0, by rw [h0], fun i hi => by omega⟩
  · refine ⟨_, cap', rfl, fun i hi => ⟨g, 0, rfl, (Array.getElem?_eq_some_iff.1 hh).1, ?_⟩⟩
    have hget : cur[i]? = (scells L)[i]? := by
      rw [← htake, List.getElem?_take, if_pos (by omega)]; simp
    rw [Nat.zero_add]
    simp only [World.cell?, hh]
    rw [if_neg (by simp), hget]
    unfold scells
    rw [List.getElem?_map, List.getElem?_eq_getElem hi]; rfl
/-- append(v, s) of a text, v the call's own. -/
theorem wpList_append_str {w : World} {ops : Array Oper} {rest : List Oper} {o : Oper} {a : Act} {Q : Exit → Act → World → Prop} (hgd : o.guard = none) (s x : Operand)
    (ho : o.op = .call { callee := .builtin .append, args := #[s, x], argTypes := #[51, 51] })
    (base : Nat) (v : Value) (L : List ByteArray) (hs : a.eval s = v) (hown : w.ownsRow base 9 1 v L.length (scells L))
    (N : Nat) (z : ByteArray) (hx : a.eval x = .slice (some ⟨N, 0, none⟩) 1 1) (h0 : w.cell? ⟨N, 0, none⟩ = some (.string z)) (hsum : (L.length + 1) * 16 ≤ 140737488355328) (hbase : base ≤ w.heap.size)
    (h : ∀ v' w', w'.ownsRow base 9 1 v' (L ++ [z]).length (scells (L ++ [z])) → w.grownBy w' v.ownBlock → wpList Tryz.prog ops Q rest (a.put o.dst v') w') : wpList Tryz.prog ops Q (o :: rest) a w := by
  obtain ⟨i0, hi, hz0, hz1, hz2⟩ := info_parts info_str
  refine wpList_append_own w hgd s x 51 ho base 9 i0 _ 1 16 Tryz.underlying51 hi hz0 hz1 hz2 rfl (by decide) v L.length (scells L) hs hown ⟨N, 0, none⟩ 1 1 [.string z] hx rfl (fun j u hj => by
    have hlt := (List.getElem?_eq_some_iff.1 hj).1
    have hj0 : j = 0 := by simpa using hlt
    subst hj0
    have e : (⟨N, 0, none⟩ : Addr).add 0 = ⟨N, 0, none⟩ := by unfold Addr.add; split <;> simp_all
    rw [e, h0]; exact hj) (fun u hu => by
    obtain rfl := List.mem_singleton.1 hu; rfl) (by unfold maxLen; omega) hsum hbase ?_
  intro v' w' h1 h2 _
  refine h v' w' ?_ h2
  have e : scells (L ++ [z]) = scells L ++ [.string z] := by unfold scells; simp
  rw [List.length_append, List.length_singleton, e]
  exact h1
theorem changedL_no {U : List PRow} {f : Nat → Col} {k : Nat} (h : U.any (diffP k) = false) : changedL U f (k + 1) = changedL U f k := by rw [changedL, h]; simp
theorem changedL_yes {U : List PRow} {f : Nat → Col} {k : Nat} (h : U.any (diffP k) = true) : changedL U f (k + 1) = changedL U f k ++ [(f k).nm] := by rw [changedL, h]; simp
theorem cell1_new (w : World) (x : Value) (t : TypeId) : (w.alloc (.cells #[x] t)).cell? ⟨w.heap.size, 0, none⟩ = some x := by go_simp
/-- What Changed gives. -/
def ChangedPost (L : List ByteArray) (w : World) (e : Ending) (w' : World) : Prop := ∃ (p : Option Addr) (c : Nat), e = .returned (.slice p L.length c) ∧ StrsAt w' p L ∧ Below w.heap.size w w'
set_option maxHeartbeats 2000000 in
theorem idxpair_any (U : List PRow) (pu : Option Addr) (cu i B : Nat) (w : World) (hU : PairsAt w pu U) (hl : U.length ≤ 9223372036854775807) (hB : B < w.heap.size) (hi : w.cell? ⟨B, 0, none⟩ = some (.int .i64 i)) :
    Calls Tryz.prog 61 #[.slice pu U.length cu, .func (.func 39) #[] #[.pointer (some ⟨B, 0, none⟩)]] w fun e w' => ∃ z : Int, e = .returned (.int .i64 z) ∧ decide (0 ≤ z) = U.any (diffP i) ∧ Below w.heap.size w w' := by
  have HU := Lib.hid hU
  have HI := Lib.hid hi
  clear hU hi
  go_enter Tryz.func61, Tryz.ntmps61
  go_wp2_with fail
  go_loopw [5, 8] (fun _ s8 v => ∃ k : Nat, k ≤ U.length ∧ s8 = .int .i64 k ∧ (U.take k).any (diffP i) = false ∧ Below w.heap.size w v) (fun _ s8 _ => U.length - (intOf s8).toNat)
  case atStart => exact ⟨0, Nat.zero_le _, rfl, rfl, Below.refl _ _⟩
  case round =>
    obtain ⟨k, hk, rfl, ha, hb⟩ := hrel
    have HA := Lib.hid ha
    have HB := Lib.hid hb
    clear ha hb
    by_cases hlt : k < U.length
    · have hlt' : decide ((k : Int) < U.length) = true := decide_eq_true (by omega)
      obtain ⟨c, o, q, cq, r, cr, hp, hc, h0, h1, h2, h3, h4, h5, h6, -, -⟩ := HU.out.low HB.out k hlt
      subst hp
      obtain ⟨⟨id, oa, ob⟩, hpk⟩ : ∃ x, pAt U k = x := ⟨_, rfl⟩
      rw [hpk] at h0 h1 h2 h3 h4 h5 h6
      dsimp only at h0 h1 h2 h3 h4 h5 h6
      have HNX := Lib.hid (any_take (q := diffP i) hlt)
      rw [hpk] at HNX
      have HC := Lib.hid (differs_any id oa ob q cq r cr i B wr h3 h4 h5 h6 (Nat.lt_of_lt_of_le hB HB.out.size) (by rw [HB.out.cell (by exact hB)]; exact HI.out))
      clear h3 h4 h5 h6
      go_wp2_with fail
      refine HC.out.mono ?_
      rintro e w2 ⟨rfl, hb2⟩
      have HB2 := Lib.hid (below_next HB.out hb2)
      clear HC hb2 h0 h1 h2 hc
      cases hd : diffP i (id, oa, ob)
      · have HD := Lib.hid hd
        go_wp2
        go_roundw
        case rel => exact ⟨k + 1, by omega, by go_num, by rw [HNX.out, HA.out, HD.out]; rfl, HB2.out⟩
        case measure => simp [intOf]; omega
      · have HD : Hid (U.any (diffP i) = true) := Lib.hid (any_hit hlt (by rw [hpk]; exact hd))
        go_wp2
        go_ret
        exact ⟨k, rfl, by rw [HD.out]; exact decide_eq_true (by omega), HB2.out⟩
    · have hlt' : decide ((k : Int) < U.length) = false := decide_eq_false (by omega)
      obtain rfl : k = U.length := by omega
      have HD : Hid (U.any (diffP i) = false) := Lib.hid (by have := HA.out; rw [List.take_length] at this; exact this)
      go_wp2
      go_ret
      exact ⟨-1, rfl, by rw [HD.out]; rfl, HB.out⟩
theorem contpair_any (U : List PRow) (pu : Option Addr) (cu i B : Nat) (w : World) (hU : PairsAt w pu U) (hl : U.length ≤ 9223372036854775807) (hB : B < w.heap.size) (hi : w.cell? ⟨B, 0, none⟩ = some (.int .i64 i)) :
    Calls Tryz.prog 41 #[.slice pu U.length cu, .func (.func 39) #[] #[.pointer (some ⟨B, 0, none⟩)]] w fun e w' => e = .returned (.bool (U.any (diffP i))) ∧ Below w.heap.size w w' := by
  have HC := Lib.hid (idxpair_any U pu cu i B w hU hl hB hi)
  clear hU hi
  go_enter Tryz.func41, Tryz.ntmps41
  go_wp2_with fail
  refine HC.out.mono ?_
  rintro e w2 ⟨z, rfl, hz, hb2⟩
  have HZ := Lib.hid hz
  have HB2 := Lib.hid hb2
  clear hz hb2 HC
  go_wp2
  go_ret
  exact ⟨ret_b HZ.out, HB2.out⟩
set_option maxHeartbeats 4000000 in
theorem changed8_any (E : Dlt) (nm : ByteArray) (pc : Option Addr) (n cc : Nat) (f : Nat → Col) (w : World) (hD : PairsAt w E.pu E.U) (hul : E.U.length ≤ 9223372036854775807) (hC : ColsAt w pc n f) (hn : n * 32 ≤ 140737488355328) :
    Calls Tryz.prog 21 #[E.v, schV nm pc n cc] w (ChangedPost (changedL E.U f n) w) := by
  obtain ⟨dn, pi, ci, I, pd, cd, D, pu, cu, U⟩ := E
  unfold Dlt.v schV ChangedPost
  dsimp only at *
  have hb0 := below_new (below_new (Below.refl w.heap.size w) (.cells #[.string dn, .slice pi I.length ci, .slice pd D.length cd, .slice pu U.length cu] 25)) (.cells #[.string nm, .slice pc n cc] 28)
  have hX := (cell4_new w (.string dn) (.slice pi I.length ci) (.slice pd D.length cd) (.slice pu U.length cu) 25).low (below_alloc _ (.cells #[.string nm, .slice pc n cc] 28))
  have hY := cell2_new (w.alloc (.cells #[.string dn, .slice pi I.length ci, .slice pd D.length cd, .slice pu U.length cu] 25)) (.string nm) (.slice pc n cc) 28
  rw [size_alloc] at hY
  have HX := Lib.hid hX
  have HY := Lib.hid hY
  have HU := Lib.hid (hD.low hb0)
  have HC := Lib.hid (hC.low hb0)
  have HB0 := Lib.hid hb0
  clear hb0 hX hY hD hC
  go_enter Tryz.func21, Tryz.ntmps21
  go_upto_region 2 with (fail)
  generalize World.alloc _ _ = W0 at HX HY HU HC HB0 ⊢
  obtain ⟨xl, x0, x1, x2, x3, -⟩ := HX.out
  obtain ⟨yl, y0, y1, -⟩ := HY.out
  go_wp2_with fail
  clear x0 x1 x2 x3 y0 y1
  go_loopw [5, 12] (fun s5 s12 v => ∃ k : Nat, k ≤ n ∧ s12 = .int .i64 k ∧ v.ownsRow W0.heap.size 9 1 s5 (changedL U f k).length (scells (changedL U f k)) ∧ Below W0.heap.size W0 v) (fun _ s12 _ => n - (intOf s12).toNat)
  case atStart => exact ⟨0, Nat.zero_le _, rfl, ⟨rfl, Or.inl ⟨rfl, rfl⟩⟩, Below.refl _ _⟩
  case round =>
    obtain ⟨k, hk, rfl, hown, hb⟩ := hrel
    obtain ⟨p5, c5, rfl, hst⟩ := strs_of_owns hown
    have HO := Lib.hid hown
    have HB := Lib.hid hb
    have HLN := Lib.hid (changedL_length U f k)
    clear hown hb
    by_cases hlt : k < n
    · have hlt' : decide ((k : Int) < n) = true := decide_eq_true (by omega)
      obtain ⟨c, o, hp, hc, -, k0, k1, k2, k3⟩ := HC.out.low HB.out k hlt
      subst hp
      have hbn := below_new (below_new (Below.refl wr.heap.size wr) (.cells #[.int .i64 k] 3)) (.cells #[.string (f k).nm, .int .i64 (f k).ty, .bool (f k).nn, .bool (f k).key] 63)
      have hq := cell4_new (wr.alloc (.cells #[.int .i64 k] 3)) (.string (f k).nm) (.int .i64 (f k).ty) (.bool (f k).nn) (.bool (f k).key) 63
      rw [size_alloc] at hq
      have HQ := Lib.hid hq
      have HI : Hid (((wr.alloc (.cells #[.int .i64 k] 3)).alloc (.cells #[.string (f k).nm, .int .i64 (f k).ty, .bool (f k).nn, .bool (f k).key] 63)).cell? ⟨wr.heap.size, 0, none⟩ = some (.int .i64 k)) := Lib.hid (by rw [(below_alloc (wr.alloc (.cells #[.int .i64 k] 3)) _).cell (by rw [size_alloc]; exact Nat.lt_succ_self _)]; exact cell1_new _ _ _)
      have HX7 := Lib.hid (HX.out.low (below_next HB.out hbn))
      have HU7 := Lib.hid (HU.out.low (below_next HB.out hbn))
      have HO7 := Lib.hid (owns_below HO.out hbn)
      have HB7 := Lib.hid (below_next HB.out hbn)
      clear hbn hq
      go_upto_region 5 with (fail)
      generalize World.alloc _ _ = W7 at HQ HI HX7 HU7 HO7 HB7 ⊢
      clear k0 k1 k2 k3 hc
      obtain ⟨xl, x0, x1, x2, x3, -⟩ := HX7.out
      have hil : wr.heap.size < W7.heap.size := by have := HQ.out.lt; omega
      go_wp2_with fail
      refine (contpair_any U pu cu k wr.heap.size _ HU7.out hul hil HI.out).mono ?_
      rintro e w8 ⟨rfl, hb8⟩
      have HQ8 := Lib.hid (HQ.out.low hb8)
      have HO8 := Lib.hid (owns_below HO7.out hb8)
      have HB8 := Lib.hid (below_next HB7.out hb8)
      clear hb8 x0 x1 x2 x3 HQ HI HX7 HU7 HO7 HB7
      cases hany : U.any (diffP k)
      · have HE := Lib.hid (changedL_no (f := f) hany)
        go_wp2
        go_roundw
        case rel => exact ⟨k + 1, by omega, by go_num, by rw [HE.out]; exact HO8.out, HB8.out⟩
        case measure => simp [intOf]; omega
      · have HE := Lib.hid (changedL_yes (f := f) hany)
        obtain ⟨ql, q0, q1, q2, q3, -⟩ := HQ8.out
        have HO9 := Lib.hid (owns_below HO8.out (below_alloc w8 (.cells #[.string (f k).nm] 9)))
        have HN9 := Lib.hid (cell1_new w8 (.string (f k).nm) 9)
        have HB9 := Lib.hid (below_new HB8.out (.cells #[.string (f k).nm] 9))
        have HZ9 := Lib.hid HB9.out.size
        have hsum : ((changedL U f k).length + 1) * 16 ≤ 140737488355328 := by have := HLN.out; omega
        have HSUM := Lib.hid hsum
        clear hsum
        go_wp2_with (at_builtin; refine wpList_append_str rfl (.tmp 22) (.tmp 25) rfl W0.heap.size (.slice p5 (changedL U f k).length c5) (changedL U f k) (by rfl) HO9.out w8.heap.size (f k).nm (by rfl) HN9.out HSUM.out HZ9.out ?_; intro v10 w10 hown10 hgr10; (have HO10 := Lib.hid hown10); (have HB10 := Lib.hid (HB9.out.grown hgr10 HZ9.out (owns_block HO9.out))); clear hown10 hgr10)
        go_roundw
        case rel => exact ⟨k + 1, by omega, by go_num, by rw [HE.out]; exact HO10.out, HB10.out⟩
        case measure => simp [intOf]; omega
    · have hlt' : decide ((k : Int) < n) = false := decide_eq_false (by omega)
      obtain rfl : k = n := by omega
      have HST := Lib.hid hst
      clear hst
      go_wp2
      go_ret
      exact ⟨p5, c5, rfl, HST.out, below_next HB0.out HB.out⟩
set_option maxHeartbeats 4000000 in
theorem rchanged8_any (E : Dlt) (nm : ByteArray) (pc : Option Addr) (n cc : Nat) (f : Nat → Col) (w : World) (hD : PairsAt w E.pu E.U) (hul : E.U.length ≤ 9223372036854775807) (hC : ColsAt w pc n f) (hn : n * 32 ≤ 140737488355328) :
    Calls Tryz.prog 22 #[E.v, schV nm pc n cc] w (ChangedPost (changedL E.U f n) w) := by
  obtain ⟨dn, pi, ci, I, pd, cd, D, pu, cu, U⟩ := E
  unfold Dlt.v schV ChangedPost
  dsimp only at *
  have hb0 := below_new (below_new (Below.refl w.heap.size w) (.cells #[.string dn, .slice pi I.length ci, .slice pd D.length cd, .slice pu U.length cu] 25)) (.cells #[.string nm, .slice pc n cc] 28)
  have hX := (cell4_new w (.string dn) (.slice pi I.length ci) (.slice pd D.length cd) (.slice pu U.length cu) 25).low (below_alloc _ (.cells #[.string nm, .slice pc n cc] 28))
  have hY := cell2_new (w.alloc (.cells #[.string dn, .slice pi I.length ci, .slice pd D.length cd, .slice pu U.length cu] 25)) (.string nm) (.slice pc n cc) 28
  rw [size_alloc] at hY
  have HX := Lib.hid hX
  have HY := Lib.hid hY
  have HU := Lib.hid (hD.low hb0)
  have HC := Lib.hid (hC.low hb0)
  have HB0 := Lib.hid hb0
  clear hb0 hX hY hD hC
  go_enter Tryz.func22, Tryz.ntmps22
  go_upto_region 2 with (fail)
  generalize World.alloc _ _ = W0 at HX HY HU HC HB0 ⊢
  obtain ⟨xl, x0, x1, x2, x3, -⟩ := HX.out
  obtain ⟨yl, y0, y1, -⟩ := HY.out
  go_wp2_with fail
  clear x0 x1 x2 x3 y0 y1
  go_loopw [5, 13] (fun s5 s13 v => ∃ k : Nat, k ≤ n ∧ s13 = .int .i64 k ∧ v.ownsRow W0.heap.size 9 1 s5 (changedL U f k).length (scells (changedL U f k)) ∧ Below W0.heap.size W0 v) (fun _ s13 _ => n - (intOf s13).toNat)
  case atStart => exact ⟨0, Nat.zero_le _, rfl, ⟨rfl, Or.inl ⟨rfl, rfl⟩⟩, Below.refl _ _⟩
  case round =>
    obtain ⟨k, hk, rfl, hown, hb⟩ := hrel
    obtain ⟨p5, c5, rfl, hst⟩ := strs_of_owns hown
    have HO := Lib.hid hown
    have HB := Lib.hid hb
    have HLN := Lib.hid (changedL_length U f k)
    clear hown hb
    by_cases hlt : k < n
    · have hlt' : decide ((k : Int) < n) = true := decide_eq_true (by omega)
      obtain ⟨c, o, hp, hc, -, k0, k1, k2, k3⟩ := HC.out.low HB.out k hlt
      subst hp
      have hbn := below_alloc wr (.cells #[.string (f k).nm, .int .i64 (f k).ty, .bool (f k).nn, .bool (f k).key] 63)
      have HQ := Lib.hid (cell4_new wr (.string (f k).nm) (.int .i64 (f k).ty) (.bool (f k).nn) (.bool (f k).key) 63)
      have HX7 := Lib.hid (HX.out.low (below_next HB.out hbn))
      have HO7 := Lib.hid (owns_below HO.out hbn)
      have HB7 := Lib.hid (below_next HB.out hbn)
      clear hbn
      go_upto_region 5 with (fail)
      generalize wr.heap.size = Q at HQ ⊢
      generalize World.alloc _ _ = W7 at HQ HX7 HO7 HB7 ⊢
      clear k0 k1 k2 k3 hc
      obtain ⟨xl, x0, x1, x2, x3, -⟩ := HX7.out
      go_wp2_with fail
      clear x0 x1 x2 x3
      go_loopw [5, 21] (fun t5 t21 v => ∃ j : Nat, j ≤ U.length ∧ t5 = .slice p5 (changedL U f k).length c5 ∧ t21 = .int .i64 j ∧ (U.take j).any (diffP k) = false ∧ Below W7.heap.size W7 v) (fun _ t21 _ => U.length - (intOf t21).toNat)
      case atStart => exact ⟨0, Nat.zero_le _, rfl, rfl, rfl, Below.refl _ _⟩
      case round =>
        obtain ⟨j, hj, rfl, rfl, hja, hjb⟩ := hrel
        have HA := Lib.hid hja
        have HJ := Lib.hid hjb
        have HBJ := Lib.hid (below_next HB7.out hjb)
        clear hja hjb
        by_cases hjl : j < U.length
        · have hjd : decide ((j : Int) < U.length) = true := decide_eq_true (by omega)
          obtain ⟨d, g, q, cq, r, cr, hp, hd, h0, h1, h2, h3, h4, h5, h6, -, -⟩ := HU.out.low HBJ.out j hjl
          subst hp
          obtain ⟨⟨id, oa, ob⟩, hpk⟩ : ∃ x, pAt U j = x := ⟨_, rfl⟩
          rw [hpk] at h0 h1 h2 h3 h4 h5 h6
          dsimp only at h0 h1 h2 h3 h4 h5 h6
          have HNX := Lib.hid (any_take (q := diffP k) hjl)
          rw [hpk] at HNX
          have hbp := below_alloc wr (.cells #[.int .i64 id, .slice q oa.length cq, .slice r ob.length cr] 75)
          have HP := Lib.hid (cell3_new wr (.int .i64 id) (.slice q oa.length cq) (.slice r ob.length cr) 75)
          have HC8 := Lib.hid (rdiffers_any id oa ob q cq r cr k _ (h3.low hbp) (h4.low hbp) h5 h6)
          have HJ8 := Lib.hid (below_next HJ.out hbp)
          clear h3 h4 h5 h6 hbp
          go_upto_region 8 with (fail)
          generalize World.alloc _ _ = W9 at HP HC8 HJ8 ⊢
          clear h0 h1 h2 hd
          obtain ⟨pl, y0, y1, y2, -⟩ := HP.out
          go_wp2_with fail
          refine HC8.out.mono ?_
          rintro e w8 ⟨rfl, hb8⟩
          have HJ9 := Lib.hid (below_next HJ8.out hb8)
          clear hb8 HC8 HP y0 y1 y2 pl HJ8
          cases hd : diffP k (id, oa, ob)
          · have HD := Lib.hid hd
            go_wp2
            go_roundw
            case rel => exact ⟨j + 1, by omega, rfl, by go_num, by rw [HNX.out, HA.out, HD.out]; rfl, HJ9.out⟩
            case measure => simp [intOf]; omega
          · have HE := Lib.hid (changedL_yes (f := f) (any_hit hjl (by rw [hpk]; exact hd)))
            have HQ8 := Lib.hid (HQ.out.low HJ9.out)
            have HO8 := Lib.hid (owns_below HO7.out HJ9.out)
            have HB8 := Lib.hid (below_next HB7.out HJ9.out)
            obtain ⟨ql, q0, q1, q2, q3, -⟩ := HQ8.out
            have HO9 := Lib.hid (owns_below HO8.out (below_alloc w8 (.cells #[.string (f k).nm] 9)))
            have HN9 := Lib.hid (cell1_new w8 (.string (f k).nm) 9)
            have HB9 := Lib.hid (below_new HB8.out (.cells #[.string (f k).nm] 9))
            have HZ9 := Lib.hid HB9.out.size
            have hsum : ((changedL U f k).length + 1) * 16 ≤ 140737488355328 := by have := HLN.out; omega
            have HSUM := Lib.hid hsum
            clear hsum
            go_wp2_with (at_builtin; refine wpList_append_str rfl (.tmp 28) (.tmp 31) rfl W0.heap.size (.slice p5 (changedL U f k).length c5) (changedL U f k) (by rfl) HO9.out w8.heap.size (f k).nm (by rfl) HN9.out HSUM.out HZ9.out ?_; intro v10 w10 hown10 hgr10; (have HO10 := Lib.hid hown10); (have HB10 := Lib.hid (HB9.out.grown hgr10 HZ9.out (owns_block HO9.out))); clear hown10 hgr10)
            go_roundw
            case rel => exact ⟨k + 1, by omega, by go_num, by rw [HE.out]; exact HO10.out, HB10.out⟩
            case measure => simp [intOf]; omega
        · have hjd : decide ((j : Int) < U.length) = false := decide_eq_false (by omega)
          obtain rfl : j = U.length := by omega
          have HE := Lib.hid (changedL_no (f := f) (k := k) (by have := HA.out; rw [List.take_length] at this; exact this))
          have HO8 := Lib.hid (owns_below HO7.out HJ.out)
          go_wp2
          go_roundw
          case rel => exact ⟨k + 1, by omega, by go_num, by rw [HE.out]; exact HO8.out, HBJ.out⟩
          case measure => simp [intOf]; omega
    · have hlt' : decide ((k : Int) < n) = false := decide_eq_false (by omega)
      obtain rfl : k = n := by omega
      have HST := Lib.hid hst
      clear hst
      go_wp2
      go_ret
      exact ⟨p5, c5, rfl, HST.out, below_next HB0.out HB.out⟩
theorem streq_any (L : List ByteArray) (p q : Option Addr) (c d : Nat) (w : World) (hl : L.length ≤ 9223372036854775807) (hp : StrsAt w p L) (hq : StrsAt w q L) :
    Calls Tryz.prog 20 #[.slice p L.length c, .slice q L.length d] w fun e w' => e = .returned (.bool true) ∧ Below w.heap.size w w' := by
  by_cases h0 : L.length = 0
  · rw [h0]
    refine (Tryz.slices_Equal_string_empty p q c 0 d w (by omega)).mono ?_
    rintro e w' ⟨rfl, rfl⟩
    exact ⟨rfl, Below.refl _ _⟩
  · obtain ⟨b1, o1, rfl, -, -⟩ := hp 0 (by omega)
    obtain ⟨b2, o2, rfl, -, -⟩ := hq 0 (by omega)
    have key : ∀ (b o : Nat), StrsAt w (some ⟨b, o, none⟩) L → ∀ j, j < L.length → w.cell? ⟨b, o + j, none⟩ = some (.string (L.getD j ByteArray.empty)) := fun b o h j hj => by
      obtain ⟨c', o', he, -, hc⟩ := h j hj
      injection he with he
      injection he with e1 e2 _
      subst e1 e2
      rw [hc, List.getD, List.getElem?_eq_getElem hj]; rfl
    refine (Tryz.slices_Equal_string b1 o1 L.length c b2 o2 L.length d L L w (Nat.le_refl _) (Nat.le_refl _) hl hl (key _ _ hp) (key _ _ hq)).mono ?_
    rintro e w' ⟨rfl, q, rfl⟩
    exact ⟨by simp, below_drewN8 _ _⟩
end Go.Proofs.YtlnbpobipmejfaaGreatDoor
/-
  A change whose lists are copied: pairs and rows of another's memory in a list of one's own.
-/
namespace Go.Proofs.YtlnbpobipmejfaaGreatDoor
set_option maxRecDepth 100000
open Go.RowKit
variable {ls : List Nat}

/-- A slice value that holds these values. -/
def Holds (v : World) (x : Value × List Val) : Prop := ∃ (q : Option Addr) (c : Nat), x.1 = .slice q x.2.length c ∧ RowAt v q x.2 ∧ x.2.length * 32 ≤ 140737488355328 ∧ (q = none → x.2 = [] ∧ c = 0)
theorem Holds.low {u v : World} {x : Value × List Val} (h : Holds u x) (hb : Below u.heap.size u v) : Holds v x := by
  obtain ⟨q, c, h1, h2, h3, h4⟩ := h
  exact ⟨q, c, h1, h2.low hb, h3, h4⟩
theorem Holds.nil (v : World) : Holds v (.slice none 0 0, []) := ⟨none, 0, rfl, fun i hi => by simp at hi, by simp, fun _ => ⟨rfl, rfl⟩⟩
theorem Holds.one {v : World} {x : Value × List Val} (h : Holds v x) : x.1.oneCell' = true := by
  obtain ⟨q, c, h1, -⟩ := h
  rw [h1]; rfl
abbrev unP (p : GPair) : PRow := (p.1, p.2.1.2, p.2.2.2)
theorem pairsAt_own {base : Nat} {v : World} {p : Option Addr} {n c : Nat} {P : List GPair} (h : v.ownsRow base 75 3 (.slice p n c) P.length (pcells P)) (hG : ∀ x ∈ P, Holds v x.2.1 ∧ Holds v x.2.2) : PairsAt v p (P.map unP) := by
  intro i hi
  have hi' : i < P.length := by rw [List.length_map] at hi; exact hi
  obtain ⟨⟨q, cq, hx, hr, hl, hq⟩, ⟨q', cq', hx', hr', hl', hq'⟩⟩ := hG _ (List.getElem_mem hi')
  obtain ⟨e0, e1, e2⟩ := pcells_at P i hi'
  obtain ⟨b, hp, hc, k0⟩ := own_cell h e0
  obtain ⟨b', hp', -, k1⟩ := own_cell h e1
  rw [hp] at hp'
  cases hp'
  obtain ⟨b', hp', -, k2⟩ := own_cell h e2
  rw [hp] at hp'
  cases hp'
  have e : pAt (P.map unP) i = unP P[i] := by rw [pAt_get hi, List.getElem_map]
  rw [e]
  exact ⟨b, 0, q, cq, q', cq', hp, hc, k0, by rw [← hx]; exact k1, by rw [← hx']; exact k2, hr, hr', hl, hl', hq, hq'⟩
theorem numAt_own {base : Nat} {v : World} {p : Option Addr} {n c : Nat} {D : List Int} (h : v.ownsRow base 3 1 (.slice p n c) D.length (icells D)) : NumAt v p D := by
  intro i hi
  obtain ⟨b, hp, hc, hcell⟩ := own_cell h (i := i) (x := .int .i64 (iAt D i)) (by unfold icells; rw [List.getElem?_map, List.getElem?_eq_getElem hi, iAt_get hi]; rfl)
  exact ⟨b, 0, hp, hc, hcell⟩
theorem rowsAt_own {base : Nat} {v : World} {p : Option Addr} {n c : Nat} {G : List (Value × List Val)} (h : v.ownsRow base 56 1 (.slice p n c) G.length (G.map (·.1))) (hG : ∀ x ∈ G, Holds v x) : RowsAt v p (G.map (·.2)) := by
  intro i hi
  have hi' : i < G.length := by rw [List.length_map] at hi; exact hi
  obtain ⟨q, cq, hx, hr, hl, hq⟩ := hG _ (List.getElem_mem hi')
  obtain ⟨b, hp, hc, hcell⟩ := own_cell h (i := i) (x := G[i].1) (by simp [hi'])
  have e : rAt (G.map (·.2)) i = G[i].2 := by rw [rAt_get hi, List.getElem_map]
  rw [e]
  exact ⟨b, 0, q, cq, hp, hc, by rw [← hx]; exact hcell, hr, hl, hq⟩
/-- The pairs of a change that the tape leaves alone, as values. -/
theorem pairs_list {b : Nat} {w : World} {pu : Option Addr} {U : List PRow} (HP : ∀ v, StepT b w v → PairsAt v pu U) : ∀ m, m ≤ U.length → ∃ P : List GPair, P.length = m ∧ P.map unP = U.take m ∧
    (∀ v, StepT b w v → ∀ x ∈ P, Holds v x.2.1 ∧ Holds v x.2.2) ∧
    (∀ v, StepT b w v → ∀ i (hi : i < P.length), ∃ c o, pu = some ⟨c, o, none⟩ ∧ v.cell? ⟨c, o + i * 3, none⟩ = some (.int .i64 P[i].1) ∧ v.cell? ⟨c, o + i * 3 + 1, none⟩ = some P[i].2.1.1 ∧ v.cell? ⟨c, o + i * 3 + 2, none⟩ = some P[i].2.2.1) := by
  intro m
  induction m with
  | zero => intro _; exact ⟨[], rfl, rfl, fun _ _ x hx => (by cases hx), fun _ _ i hi => (by simp at hi)⟩
  | succ m ih =>
    intro hm
    obtain ⟨P, hP, hU, hG, hC⟩ := ih (by omega)
    have hmU : m < U.length := by omega
    obtain ⟨c, o, q, cq, r, cr, hp, hc, h0, h1, h2, -, -, hl1, hl2, hq, hr⟩ := HP w (StepT.refl b w) m hmU
    subst hp
    have hcb : c ≠ b := fun e => by
      subst e
      obtain ⟨c', o', q', cq', r', cr', hp', -, k0, -⟩ := HP _ (bare_step c w) m hmU
      cases hp'
      exact bare_cell k0
    have hrow : ∀ v, StepT b w v → RowAt v q (pAt U m).2.1 ∧ RowAt v r (pAt U m).2.2 := fun v hv => by
      obtain ⟨c', o', q', cq', r', cr', hp', -, -, k1, k2, hr1, hr2, -⟩ := HP v hv m hmU
      cases hp'
      rw [hv.cell (by exact hc) (by exact hcb), h1] at k1
      rw [hv.cell (by exact hc) (by exact hcb), h2] at k2
      injection k1 with k1
      injection k1 with e1
      injection k2 with k2
      injection k2 with e2
      subst e1 e2
      exact ⟨hr1, hr2⟩
    refine ⟨P ++ [((pAt U m).1, (.slice q (pAt U m).2.1.length cq, (pAt U m).2.1), (.slice r (pAt U m).2.2.length cr, (pAt U m).2.2))], by rw [List.length_append, hP]; rfl, ?_, ?_, ?_⟩
    · rw [List.map_append, hU, List.take_add_one, List.getElem?_eq_getElem hmU, ← pAt_get hmU]
      rfl
    · intro v hv x hx
      rcases List.mem_append.1 hx with hx | hx
      · exact hG v hv x hx
      · obtain rfl := List.mem_singleton.1 hx
        exact ⟨⟨q, cq, rfl, (hrow v hv).1, hl1, hq⟩, ⟨r, cr, rfl, (hrow v hv).2, hl2, hr⟩⟩
    · intro v hv i hi
      by_cases him : i < P.length
      · obtain ⟨c', o', hp', k0, k1, k2⟩ := hC v hv i him
        rw [List.getElem_append_left him]
        exact ⟨c', o', hp', k0, k1, k2⟩
      · have : i = m := by rw [List.length_append, hP] at hi; simp at hi; omega
        subst this
        rw [List.getElem_append_right (by omega)]
        simp only [hP, Nat.sub_self, List.getElem_cons_zero]
        exact ⟨c, o, rfl, by rw [hv.cell (by exact hc) (by exact hcb)]; exact h0, by rw [hv.cell (by exact hc) (by exact hcb)]; exact h1, by rw [hv.cell (by exact hc) (by exact hcb)]; exact h2⟩
theorem pairs_news {v : World} {pu : Option Addr} {P : List GPair} (h : ∀ i (hi : i < P.length), ∃ c o, pu = some ⟨c, o, none⟩ ∧ v.cell? ⟨c, o + i * 3, none⟩ = some (.int .i64 P[i].1) ∧ v.cell? ⟨c, o + i * 3 + 1, none⟩ = some P[i].2.1.1 ∧ v.cell? ⟨c, o + i * 3 + 2, none⟩ = some P[i].2.2.1) (ad : Addr) (hp : pu = some ad) :
    ∀ j y, (pcells P)[j]? = some y → v.cell? (ad.add j) = some y := by
  intro j y hj
  have hlt := (List.getElem?_eq_some_iff.1 hj).1
  rw [pcells_length] at hlt
  obtain ⟨i, k, hk, rfl⟩ : ∃ i k, k < 3 ∧ j = i * 3 + k := ⟨j / 3, j % 3, Nat.mod_lt _ (by decide), by omega⟩
  have hi : i < P.length := by omega
  obtain ⟨c, o, hpu, k0, k1, k2⟩ := h i hi
  rw [hp] at hpu
  cases hpu
  obtain ⟨e0, e1, e2⟩ := pcells_at P i hi
  have hadd : ∀ m, (⟨c, o, none⟩ : Addr).add m = ⟨c, o + m, none⟩ := fun m => by unfold Addr.add; split <;> simp_all
  rw [hadd]
  obtain rfl | rfl | rfl : k = 0 ∨ k = 1 ∨ k = 2 := by omega
  · rw [Nat.add_zero] at hj ⊢
    rw [e0] at hj
    rw [k0]; exact hj
  · rw [e1] at hj
    rw [← Nat.add_assoc, k1]; exact hj
  · rw [e2] at hj
    rw [← Nat.add_assoc, k2]; exact hj
theorem pcells_one {v : World} {P : List GPair} (h : ∀ x ∈ P, Holds v x.2.1 ∧ Holds v x.2.2) : ∀ y ∈ pcells P, y.oneCell' = true := by
  intro y hy
  unfold pcells at hy
  obtain ⟨x, hx, hy⟩ := List.mem_flatMap.1 hy
  obtain ⟨h1, h2⟩ := h x hx
  simp only [List.mem_cons, List.not_mem_nil, or_false] at hy
  rcases hy with rfl | rfl | rfl
  · rfl
  · exact h1.one
  · exact h2.one
theorem nums_news {v : World} {p : Option Addr} {D : List Int} (h : NumAt v p D) (ad : Addr) (hp : p = some ad) : ∀ j y, (icells D)[j]? = some y → v.cell? (ad.add j) = some y := by
  intro j y hj
  unfold icells at hj
  rw [List.getElem?_map] at hj
  by_cases hlt : j < D.length
  · obtain ⟨c, o, hp', hc, hcell⟩ := h j hlt
    rw [hp] at hp'
    cases hp'
    have hadd : (⟨c, o, none⟩ : Addr).add j = ⟨c, o + j, none⟩ := by unfold Addr.add; split <;> simp_all
    rw [hadd, hcell, ← hj, List.getElem?_eq_getElem hlt, iAt_get hlt]
    rfl
  · rw [List.getElem?_eq_none (by omega)] at hj
    cases hj
theorem nums_nil {v : World} {p : Option Addr} {D : List Int} (h : NumAt v p D) (hp : p = none) : icells D = [] := by
  cases D with
  | nil => rfl
  | cons z D => obtain ⟨c, o, hp', -⟩ := h 0 (Nat.succ_pos _); rw [hp] at hp'; cases hp'
theorem icells_one (D : List Int) : ∀ u ∈ icells D, u.oneCell' = true := by
  intro u hu
  obtain ⟨z, -, rfl⟩ := List.mem_map.1 hu
  rfl
theorem iowns_empty (w : World) : (w.alloc (.cells #[] 3)).ownsRow w.heap.size 3 1 (.slice (some ⟨w.heap.size, 0, none⟩) 0 0) 0 (icells []) := by
  refine ⟨rfl, Or.inr ⟨w.heap.size, 0, #[], rfl, Nat.le_refl _, ?_, Nat.le_refl _, by decide, rfl, rfl⟩⟩
  show (w.heap.push _)[w.heap.size]? = _
  simp
theorem powns_empty (w : World) : (w.alloc (.cells #[] 75)).ownsRow w.heap.size 75 3 (.slice (some ⟨w.heap.size, 0, none⟩) 0 0) 0 (pcells []) := by
  refine ⟨rfl, Or.inr ⟨w.heap.size, 0, #[], rfl, Nat.le_refl _, ?_, Nat.le_refl _, by decide, rfl, rfl⟩⟩
  show (w.heap.push _)[w.heap.size]? = _
  simp
/-- The rows of a change that the tape leaves alone, as values. -/
theorem rows_list {b : Nat} {w : World} {pi : Option Addr} {I : List (List Val)} (HP : ∀ v, StepT b w v → RowsAt v pi I) : ∀ m, m ≤ I.length → ∃ G : List (Value × List Val), G.length = m ∧ G.map (·.2) = I.take m ∧
    (∀ v, StepT b w v → ∀ x ∈ G, Holds v x) ∧
    (∀ v, StepT b w v → ∀ i (hi : i < G.length), ∃ c o, pi = some ⟨c, o, none⟩ ∧ v.cell? ⟨c, o + i, none⟩ = some G[i].1) := by
  intro m
  induction m with
  | zero => intro _; exact ⟨[], rfl, rfl, fun _ _ x hx => (by cases hx), fun _ _ i hi => (by simp at hi)⟩
  | succ m ih =>
    intro hm
    obtain ⟨G, hG, hI, hH, hC⟩ := ih (by omega)
    have hmI : m < I.length := by omega
    obtain ⟨c, o, q, cq, hp, hc, h0, -, hl, hq⟩ := HP w (StepT.refl b w) m hmI
    subst hp
    have hcb : c ≠ b := fun e => by
      subst e
      obtain ⟨c', o', q', cq', hp', -, k0, -⟩ := HP _ (bare_step c w) m hmI
      cases hp'
      exact bare_cell k0
    have hrow : ∀ v, StepT b w v → RowAt v q (rAt I m) := fun v hv => by
      obtain ⟨c', o', q', cq', hp', -, k0, hr, -⟩ := HP v hv m hmI
      cases hp'
      rw [hv.cell (by exact hc) (by exact hcb), h0] at k0
      injection k0 with k0
      injection k0 with e1
      subst e1
      exact hr
    refine ⟨G ++ [(.slice q (rAt I m).length cq, rAt I m)], by rw [List.length_append, hG]; rfl, ?_, ?_, ?_⟩
    · rw [List.map_append, hI, List.take_add_one, List.getElem?_eq_getElem hmI, ← rAt_get hmI]
      rfl
    · intro v hv x hx
      rcases List.mem_append.1 hx with hx | hx
      · exact hH v hv x hx
      · obtain rfl := List.mem_singleton.1 hx
        exact ⟨q, cq, rfl, hrow v hv, hl, hq⟩
    · intro v hv i hi
      by_cases him : i < G.length
      · obtain ⟨c', o', hp', k0⟩ := hC v hv i him
        rw [List.getElem_append_left him]
        exact ⟨c', o', hp', k0⟩
      · have : i = m := by rw [List.length_append, hG] at hi; simp at hi; omega
        subst this
        rw [List.getElem_append_right (by omega)]
        simp only [hG, Nat.sub_self, List.getElem_cons_zero]
        exact ⟨c, o, rfl, by rw [hv.cell (by exact hc) (by exact hcb)]; exact h0⟩
theorem rows_news {v : World} {pi : Option Addr} {G : List (Value × List Val)} (h : ∀ i (hi : i < G.length), ∃ c o, pi = some ⟨c, o, none⟩ ∧ v.cell? ⟨c, o + i, none⟩ = some G[i].1) (ad : Addr) (hp : pi = some ad) :
    ∀ j y, (G.map (·.1))[j]? = some y → v.cell? (ad.add j) = some y := by
  intro j y hj
  have hlt := (List.getElem?_eq_some_iff.1 hj).1
  rw [List.length_map] at hlt
  obtain ⟨c, o, hpi, k0⟩ := h j hlt
  rw [hp] at hpi
  cases hpi
  have hadd : (⟨c, o, none⟩ : Addr).add j = ⟨c, o + j, none⟩ := by unfold Addr.add; split <;> simp_all
  rw [hadd, k0, ← hj, List.getElem?_map, List.getElem?_eq_getElem hlt]
  rfl
theorem rows_nil {v : World} {pi : Option Addr} {G : List (Value × List Val)} (h : ∀ i (hi : i < G.length), ∃ c o, pi = some ⟨c, o, none⟩ ∧ v.cell? ⟨c, o + i, none⟩ = some G[i].1) (hp : pi = none) : G.map (·.1) = [] := by
  cases G with
  | nil => rfl
  | cons x G => obtain ⟨c, o, hp', -⟩ := h 0 (Nat.succ_pos _); rw [hp] at hp'; cases hp'
theorem rows_one {v : World} {G : List (Value × List Val)} (h : ∀ x ∈ G, Holds v x) : ∀ y ∈ G.map (·.1), y.oneCell' = true := by
  intro y hy
  obtain ⟨x, hx, rfl⟩ := List.mem_map.1 hy
  exact (h x hx).one
theorem rowns_empty (w : World) : (w.alloc (.cells #[] 56)).ownsRow w.heap.size 56 1 (.slice (some ⟨w.heap.size, 0, none⟩) 0 0) 0 [] := by
  refine ⟨rfl, Or.inr ⟨w.heap.size, 0, #[], rfl, Nat.le_refl _, ?_, Nat.le_refl _, by decide, rfl, rfl⟩⟩
  show (w.heap.push _)[w.heap.size]? = _
  simp
theorem holds_zero (w : World) : Holds (w.alloc (.cells #[.int .i64 0, .int .i64 0, .string ⟨#[]⟩] 55)) (.slice (some ⟨w.heap.size, 0, none⟩) 1 1, [(0, 0, ⟨#[]⟩)]) := by
  refine ⟨some ⟨w.heap.size, 0, none⟩, 1, rfl, fun i hi => ?_, (by show 1 * 32 ≤ 140737488355328; omega), fun e => by cases e⟩
  obtain rfl : i = 0 := by simpa using hi
  have h := cell3_new w (.int .i64 0) (.int .i64 0) (.string ⟨#[]⟩) 55
  exact ⟨w.heap.size, 0, rfl, h.lt, h.c0, h.c1, h.c2⟩
theorem Holds.keepB {u v : World} {q : Addr} {n c : Nat} {l : List Val} (h : Holds u (.slice (some q) n c, l)) (hz : u.heap.size ≤ v.heap.size) (hk : v.heap[q.block]? = u.heap[q.block]?) : Holds v (.slice (some q) n c, l) := by
  obtain ⟨q', c', h1, h2, h3, h4⟩ := h
  injection h1 with e1 e2 e3
  subst e1
  exact ⟨some q, c', by rw [e2, e3], h2.keep hz fun a ha => by cases ha; exact hk, h3, h4⟩
theorem own_setCell {u : World} {base n size g m c j : Nat} {e : TypeId} {xs : List Value} (h : u.ownsRow base e size (.slice (some ⟨g, 0, none⟩) m c) n xs) (y : Value) :
    (u.setCell ⟨g, j, none⟩ y).ownsRow base e size (.slice (some ⟨g, 0, none⟩) m c) n (xs.set j y) := by
  rcases h.2 with ⟨hv, h0⟩ | ⟨g', cap', cur, hv, hg, hh, hcap, hm, hcur, htake⟩
  · cases hv
  · injection hv with h1 h2 h3
    injection h1 with h1
    injection h1 with h1
    subst h1 h2 h3
    refine ⟨by rw [List.length_set]; exact h.1, .inr ⟨g, c, _, rfl, hg, heap_setCell_same _ _ _ _ _ _ hh, hcap, hm, by simp [hcur], ?_⟩⟩
    rw [← htake]
    simp [List.take_set]
theorem pcells_set (P : List GPair) (i : Nat) (hi : i < P.length) (y : Value × List Val) : (pcells P).set (i * 3 + 1) y.1 = pcells (P.set i (P[i].1, y, P[i].2.2)) := by
  induction P generalizing i with
  | nil => simp at hi
  | cons x P ih =>
    have e : ∀ x : GPair, ∀ P, pcells (x :: P) = .int .i64 x.1 :: x.2.1.1 :: x.2.2.1 :: pcells P := fun _ _ => rfl
    cases i with
    | zero => rw [e]; rfl
    | succ i =>
      rw [List.length_cons] at hi
      have := ih i (by omega)
      rw [e, show (i + 1) * 3 + 1 = i * 3 + 1 + 1 + 1 + 1 by omega, List.set_cons_succ, List.set_cons_succ, List.set_cons_succ, this]
      rfl
theorem own_frozen {u : World} {base n size g m c : Nat} {e : TypeId} {xs : List Value} (h : u.ownsRow base e size (.slice (some ⟨g, 0, none⟩) m c) n xs) (o : Nat) : u.frozen? ⟨g, o, none⟩ = false := by
  rcases h.2 with ⟨hv, h0⟩ | ⟨g', cap', cur, hv, hg, hh, -⟩
  · cases hv
  · injection hv with h1 h2 h3
    injection h1 with h1
    injection h1 with h1
    subst h1
    simp [World.frozen?, hh]
end Go.Proofs.YtlnbpobipmejfaaGreatDoor
