/-
  Valid of schemas, of the program and of the reference.
-/
import Derived.Test.YtgcbgojbjabhkaaDoorCols
namespace Go.Proofs.YtgcbgojbjabhkaaDoor
open Go.RowKit
variable {ls : List Nat}

theorem four_one {w w' : World} {a b c d : Value} {t : TypeId} (hb : Below (w.alloc (.cells #[a, b, c, d] t)).heap.size (w.alloc (.cells #[a, b, c, d] t)) w') : Cell4 w' w.heap.size a b c d ∧ Below w.heap.size w w' :=
  ⟨(cell4_new _ _ _ _ _ _).low hb, Below.of_alloc hb⟩
theorem two_one {w w' : World} {a b : Value} {t : TypeId} (hb : Below (w.alloc (.cells #[a, b] t)).heap.size (w.alloc (.cells #[a, b] t)) w') : Cell2 w' w.heap.size a b ∧ Below w.heap.size w w' :=
  ⟨(cell2_new _ _ _ _).low hb, Below.of_alloc hb⟩

set_option maxHeartbeats 400000 in
theorem validType_any (t : Int) (w : World) : Calls Tryd.prog 42 #[.int .i64 t] w fun e w' => e = .returned (.bool (tyOK t)) ∧ w = w' := by
  by_cases h1 : t = 1
  · subst h1
    go_enter Tryd.func42, Tryd.ntmps42
    go_wp2
    go_ret
    exact ⟨rfl, rfl⟩
  by_cases h2 : t = 2
  · subst h2
    go_enter Tryd.func42, Tryd.ntmps42
    go_wp2
    go_ret
    exact ⟨rfl, rfl⟩
  by_cases h3 : t = 3
  · subst h3
    go_enter Tryd.func42, Tryd.ntmps42
    go_wp2
    go_ret
    exact ⟨rfl, rfl⟩
  have e1 : (t == 1) = false := beq_eq_false_iff_ne.2 h1
  have e2 : (t == 2) = false := beq_eq_false_iff_ne.2 h2
  have e3 : (t == 3) = false := beq_eq_false_iff_ne.2 h3
  have HT : Hid (tyOK t = false) := Lib.hid (decide_eq_false (by omega))
  clear h1 h2 h3
  go_enter Tryd.func42, Tryd.ntmps42
  go_wp2
  go_ret
  exact ⟨ret_b HT.out.symm, rfl⟩

theorem validType_eq {t : Int} {b : Bool} (h : tyOK t = b) (w : World) : Calls Tryd.prog 42 #[.int .i64 t] w fun e w' => e = .returned (.bool b) ∧ w = w' := by
  subst h; exact validType_any t w
theorem validName_eq {s : ByteArray} {b : Bool} (hs : s.size ≤ 9223372036854775807) (h : nameOK s = b) (w : World) : Calls Tryd.prog 9 #[.string s] w fun e w' => e = .returned (.bool b) ∧ Below w.heap.size w w' := by
  subst h; exact validName_any s w hs
theorem rvalidName_eq {s : ByteArray} {b : Bool} (hs : s.size ≤ 9223372036854775807) (h : nameOK s = b) (w : World) : Calls Tryd.prog 10 #[.string s] w fun e w' => e = .returned (.bool b) ∧ w = w' := by
  subst h; exact rvalidName_any s w hs
set_option maxHeartbeats 1000000 in
theorem validColumn_any (c : Col) (w : World) (hs : c.nm.size ≤ 9223372036854775807) :
    Calls Tryd.prog 35 #[colV c] w fun e w' => e = .returned (.bool (colOK c)) ∧ Below w.heap.size w w' := by
  unfold colV
  obtain ⟨nm, ty, nn, key⟩ := c
  cases hn : nameOK nm
  · have HN := Lib.hid hn
    clear hn
    go_enter Tryd.func35, Tryd.ntmps35
    go_wp2_with fail
    refine (validName_eq hs HN.out _).mono ?_
    rintro e w1 ⟨rfl, hb⟩
    obtain ⟨⟨hz, c0, c1, c2, c3, fz⟩, hb'⟩ := four_one hb
    have HB := Lib.hid hb'
    clear hb hb'
    go_wp2
    go_ret
    exact ⟨ret_b (colOK_name HN.out).symm, HB.out⟩
  cases ht : tyOK ty
  · have HN := Lib.hid hn
    have HT := Lib.hid ht
    clear hn ht
    go_enter Tryd.func35, Tryd.ntmps35
    go_wp2_with fail
    refine (validName_eq hs HN.out _).mono ?_
    rintro e w1 ⟨rfl, hb⟩
    obtain ⟨⟨hz, c0, c1, c2, c3, fz⟩, hb'⟩ := four_one hb
    have HB := Lib.hid hb'
    clear hb hb'
    go_wp2_with fail
    refine (validType_eq HT.out _).mono ?_
    rintro e w2 ⟨rfl, rfl⟩
    go_wp2
    go_ret
    exact ⟨ret_b (by unfold colOK; simp only [HN.out, HT.out]; rfl), HB.out⟩
  have HN := Lib.hid hn
  have HT := Lib.hid ht
  clear hn ht
  cases nn
  · go_enter Tryd.func35, Tryd.ntmps35
    go_wp2_with fail
    refine (validName_eq hs HN.out _).mono ?_
    rintro e w1 ⟨rfl, hb⟩
    obtain ⟨⟨hz, c0, c1, c2, c3, fz⟩, hb'⟩ := four_one hb
    have HB := Lib.hid hb'
    clear hb hb'
    go_wp2_with fail
    refine (validType_eq HT.out _).mono ?_
    rintro e w2 ⟨rfl, rfl⟩
    go_wp2
    go_ret
    exact ⟨ret_b (by unfold colOK; simp only [HN.out, HT.out]; cases key <;> rfl), HB.out⟩
  · go_enter Tryd.func35, Tryd.ntmps35
    go_wp2_with fail
    refine (validName_eq hs HN.out _).mono ?_
    rintro e w1 ⟨rfl, hb⟩
    obtain ⟨⟨hz, c0, c1, c2, c3, fz⟩, hb'⟩ := four_one hb
    have HB := Lib.hid hb'
    clear hb hb'
    go_wp2_with fail
    refine (validType_eq HT.out _).mono ?_
    rintro e w2 ⟨rfl, rfl⟩
    go_wp2
    go_ret
    exact ⟨ret_b (by unfold colOK; simp only [HN.out, HT.out]; cases key <;> rfl), HB.out⟩
theorem validColumn_eq (c : Col) {b : Bool} (hs : c.nm.size ≤ 9223372036854775807) (h : colOK c = b) (w : World) : Calls Tryd.prog 35 #[colV c] w fun e w' => e = .returned (.bool b) ∧ Below w.heap.size w w' := by
  subst h; exact validColumn_any c w hs
set_option maxHeartbeats 2000000 in
theorem svalid_any (nm : ByteArray) (p : Option Addr) (n cap : Nat) (f : Nat → Col) (w : World) (hs : nm.size ≤ 9223372036854775807) (hn : n ≤ 9223372036854775807) (hC : ColsAt w p n f) :
    Calls Tryd.prog 16 #[.agg #[.string nm, .slice p n cap]] w fun e w' => e = .returned (.bool (schemaOK nm n f)) ∧ Below w.heap.size w w' := by
  have HC := Lib.hid hC
  clear hC
  cases hnm : nameOK nm
  · have HN := Lib.hid hnm
    clear hnm
    go_enter Tryd.func16, Tryd.ntmps16
    go_wp2_with fail
    refine (validName_eq hs HN.out _).mono ?_
    rintro e w1 ⟨rfl, hb⟩
    obtain ⟨⟨hz, c0, c1, fz⟩, hb'⟩ := two_one hb
    have HB := Lib.hid hb'
    clear hb hb'
    go_wp2
    go_ret
    exact ⟨ret_b (schemaOK_name HN.out).symm, HB.out⟩
  have HN := Lib.hid hnm
  clear hnm
  by_cases h1 : n < 1
  · have e0 : ((n : Int) == 0) = true := beq_iff_eq.2 (by omega)
    have H1 := Lib.hid h1
    clear h1
    go_enter Tryd.func16, Tryd.ntmps16
    go_wp2_with fail
    refine (validName_eq hs HN.out _).mono ?_
    rintro e w1 ⟨rfl, hb⟩
    obtain ⟨⟨hz, c0, c1, fz⟩, hb'⟩ := two_one hb
    have HB := Lib.hid hb'
    clear hb hb'
    go_wp2
    go_ret
    exact ⟨ret_b (schemaOK_len (.inl H1.out)).symm, HB.out⟩
  have e0 : ((n : Int) == 0) = false := beq_eq_false_iff_ne.2 (by omega)
  by_cases h6 : 6 < n
  · have e6 : decide ((6 : Int) < n) = true := decide_eq_true (by omega)
    have H1 := Lib.hid h6
    clear h6 h1
    go_enter Tryd.func16, Tryd.ntmps16
    go_wp2_with fail
    refine (validName_eq hs HN.out _).mono ?_
    rintro e w1 ⟨rfl, hb⟩
    obtain ⟨⟨hz, c0, c1, fz⟩, hb'⟩ := two_one hb
    have HB := Lib.hid hb'
    clear hb hb'
    go_wp2
    go_ret
    exact ⟨ret_b (schemaOK_len (.inr H1.out)).symm, HB.out⟩
  have e6 : decide ((6 : Int) < n) = false := decide_eq_false (by omega)
  have H1 : Hid (1 ≤ n) := Lib.hid (by omega)
  have H6 : Hid (n ≤ 6) := Lib.hid (by omega)
  clear h1 h6
  · skip
    go_enter Tryd.func16, Tryd.ntmps16
    go_wp2_with fail
    refine (validName_eq hs HN.out _).mono ?_
    rintro e w1 ⟨rfl, hb⟩
    obtain ⟨⟨hz, c0, c1, fz⟩, hb'⟩ := two_one hb
    have HB := Lib.hid hb'
    clear hb hb'
    go_wp2_with fail
    refine (keycol_any nm p n cap f _ hn (HC.out.low HB.out)).mono ?_
    rintro e w2 ⟨rfl, hb2⟩
    have HB2 := Lib.hid (below_next HB.out hb2)
    obtain ⟨dz, d0, d1, dfz⟩ := Cell2.low ⟨hz, c0, c1, fz⟩ hb2
    clear hb2 HB hz c0 c1 fz
    go_wp2_with fail
    go_loopw [27] (fun i v => ∃ k : Nat, k ≤ n ∧ i = .int .i64 k ∧ (∀ i, i < k → Good f i) ∧ Below w.heap.size w v ∧ Cell2 v w.heap.size (.string nm) (.slice p n cap)) (fun i _ => n - (intOf i).toNat)
    case atStart => exact ⟨0, Nat.zero_le _, rfl, fun j hj => by omega, HB2.out, ⟨dz, d0, d1, dfz⟩⟩
    clear HB2 dz d0 d1 dfz
    case round =>
      obtain ⟨k, hk, rfl, ha, hb, hq⟩ := hrel
      have HA := Lib.hid ha
      have HB := Lib.hid hb
      clear ha hb
      by_cases hlt : k < n
      · have hlt' : decide ((k : Int) < n) = true := decide_eq_true (by omega)
        obtain ⟨c, o, rfl, hc, hnm, h0, h1, h2, h3⟩ := HC.out.low HB.out k hlt
        cases hcol : colOK (f k)
        · have HK := Lib.hid hcol
          clear hcol
          go_wp2_with fail
          refine (validColumn_eq (f k) hnm HK.out _).mono ?_
          rintro e v1 ⟨rfl, hb1⟩
          have HB1 := Lib.hid (below_next HB.out (Below.of_alloc hb1))
          clear hb1
          go_wp2
          go_ret
          exact ⟨ret_b (schemaOK_bad hlt (bad_col HK.out)).symm, HB1.out⟩
        have HK := Lib.hid hcol
        clear hcol
        go_wp2_with fail
        refine (validColumn_eq (f k) hnm HK.out _).mono ?_
        rintro e v1 ⟨rfl, hb1⟩
        obtain ⟨⟨qz, q0, q1, q2, q3, qf⟩, hb2⟩ := four_one hb1
        have HB1 := Lib.hid (below_next HB.out hb2)
        have HQ1 := Lib.hid (hq.low hb2)
        obtain ⟨rz, r0, r1, rf⟩ := hq.low hb2
        clear hq hb1 hb2 h0 h1 h2 h3
        go_wp2_with fail
        refine (find_any nm (f k).nm _ n cap f _ hn (HC.out.low HB1.out)).mono ?_
        rintro e v2 ⟨rfl, hb3⟩
        obtain ⟨sz, s0, s1, s2, s3, sf⟩ := Cell4.low ⟨qz, q0, q1, q2, q3, qf⟩ hb3
        have HB2 := Lib.hid (below_next HB1.out hb3)
        have HQ2 := Lib.hid (HQ1.out.low hb3)
        clear hb3 qz q0 q1 q2 q3 qf rz r0 r1 rf HB1 HQ1
        cases hfd : (findName f n (f k).nm == (k : Int))
        · have HF := Lib.hid hfd
          have hne := beq_eq_false_iff_ne.1 hfd
          have hne' := fun h => hne (Eq.symm h)
          clear s1 s2 s3
          go_wp2
          go_ret
          exact ⟨ret_b (schemaOK_bad hlt (bad_find hlt HF.out)).symm, HB2.out⟩
        have HF := Lib.hid hfd
        rw [beq_iff_eq.1 hfd]
        clear hfd
        cases hkey : (f k).key
        · have HY := Lib.hid hkey
          rw [hkey] at s3
          clear hkey
          go_wp2
          go_roundw
          case rel => exact ⟨k + 1, by omega, by go_num, all_succ HA.out (is_good hlt HK.out HF.out (fun h => by rw [HY.out] at h; cases h)), HB2.out, HQ2.out⟩
          case measure => simp [intOf]; omega
        · have HY := Lib.hid hkey
          rw [hkey] at s3
          clear hkey
          cases hkk : (findKey f n == (k : Int))
          · have HW := Lib.hid hkk
            go_wp2
            go_ret
            exact ⟨ret_b (schemaOK_bad hlt (bad_key hlt HY.out HW.out)).symm, HB2.out⟩
          · have HW := Lib.hid hkk
            go_wp2
            go_roundw
            case rel => exact ⟨k + 1, by omega, by go_num, all_succ HA.out (is_good hlt HK.out HF.out (fun _ => HW.out)), HB2.out, HQ2.out⟩
            case measure => simp [intOf]; omega
      · have hlt' : decide ((k : Int) < n) = false := decide_eq_false (by omega)
        obtain rfl : k = n := by omega
        go_wp2
        go_ret
        exact ⟨ret_b (schemaOK_yes HN.out H1.out H6.out HA.out).symm, HB.out⟩
end Go.Proofs.YtgcbgojbjabhkaaDoor
