/-
  Valid of schemas, of the reference.
-/
import Derived.Test.YtgcbgojbjabhkaaDoorSchemaValid
namespace Go.Proofs.YtgcbgojbjabhkaaDoor
open Go.RowKit
variable {ls : List Nat}

theorem rvname_eq {s : ByteArray} {b : Bool} (hs : s.size ≤ 9223372036854775807) (h : nameOK s = b) (w : World) : Calls Tryd.prog 10 #[.string s] w fun e w' => e = .returned (.bool b) ∧ w' = w := (rvalidName_eq hs h w).mono fun _ _ he => ⟨he.1, he.2.symm⟩
theorem keysN_succ (f : Nat → Col) (k : Nat) : keysN f (k + 1) = keysN f k + if (f k).key then 1 else 0 := rfl
theorem keys_yes {f : Nat → Col} {k : Nat} (h : (f k).key = true) : ((keysN f k : Nat) : Int) + 1 = ((keysN f (k + 1) : Nat) : Int) := by rw [keysN_succ, h]; simp
theorem keys_no {f : Nat → Col} {k : Nat} (h : (f k).key = false) : ((keysN f k : Nat) : Int) = ((keysN f (k + 1) : Nat) : Int) := by rw [keysN_succ, h]; simp

set_option maxHeartbeats 2000000 in
theorem rsvalid_any (nm : ByteArray) (p : Option Addr) (n cap : Nat) (f : Nat → Col) (w : World) (hs : nm.size ≤ 9223372036854775807) (hn : n ≤ 9223372036854775807) (hC : ColsAt w p n f) :
    Calls Tryd.prog 17 #[.agg #[.string nm, .slice p n cap]] w fun e w' => e = .returned (.bool (schemaOK nm n f)) ∧ Below w.heap.size w w' := by
  have HC := Lib.hid hC
  clear hC
  cases hnm : nameOK nm
  · have HN := Lib.hid hnm
    clear hnm
    go_enter Tryd.func17, Tryd.ntmps17
    go_wp2_with fail
    refine (rvname_eq hs HN.out _).mono ?_
    rintro e w1 ⟨rfl, rfl⟩
    go_wp2
    go_ret
    exact ⟨ret_b (schemaOK_name HN.out).symm, below_new (Below.refl _ _) _⟩
  have HN := Lib.hid hnm
  clear hnm
  by_cases h1 : n < 1
  · have e0 : decide ((n : Int) < 1) = true := decide_eq_true (by omega)
    have H1 := Lib.hid h1
    clear h1
    go_enter Tryd.func17, Tryd.ntmps17
    go_wp2_with fail
    refine (rvname_eq hs HN.out _).mono ?_
    rintro e w1 ⟨rfl, rfl⟩
    go_wp2
    go_ret
    exact ⟨ret_b (schemaOK_len (.inl H1.out)).symm, below_new (Below.refl _ _) _⟩
  have e0 : decide ((n : Int) < 1) = false := decide_eq_false (by omega)
  by_cases h6 : 6 < n
  · have e6 : decide ((6 : Int) < n) = true := decide_eq_true (by omega)
    have H1 := Lib.hid h6
    clear h6 h1
    go_enter Tryd.func17, Tryd.ntmps17
    go_wp2_with fail
    refine (rvname_eq hs HN.out _).mono ?_
    rintro e w1 ⟨rfl, rfl⟩
    go_wp2
    go_ret
    exact ⟨ret_b (schemaOK_len (.inr H1.out)).symm, below_new (Below.refl _ _) _⟩
  have e6 : decide ((6 : Int) < n) = false := decide_eq_false (by omega)
  have H1 : Hid (1 ≤ n) := Lib.hid (by omega)
  have H6 : Hid (n ≤ 6) := Lib.hid (by omega)
  clear h1 h6
  · skip
    go_enter Tryd.func17, Tryd.ntmps17
    go_wp2_with fail
    refine (rvname_eq hs HN.out _).mono ?_
    rintro e w1 ⟨rfl, rfl⟩
    have HQ := Lib.hid (cell2_new w (.string nm) (.slice p n cap) 34)
    have HB := Lib.hid (below_alloc w (.cells #[.string nm, .slice p n cap] 34))
    go_wp2_with fail
    go_loopw [3, 25] (fun q i v => ∃ k : Nat, k ≤ n ∧ i = .int .i64 k ∧ q = .int .i64 (keysN f k : Nat) ∧ (∀ i, i < k → FairC f i) ∧ Below w.heap.size w v ∧ Cell2 v w.heap.size (.string nm) (.slice p n cap)) (fun _ i _ => n - (intOf i).toNat)
    case atStart => exact ⟨0, Nat.zero_le _, rfl, rfl, fun j hj => by omega, HB.out, HQ.out⟩
    clear HB HQ
    case round =>
      obtain ⟨k, hk, rfl, rfl, ha, hb, hq⟩ := hrel
      have HA := Lib.hid ha
      have HB := Lib.hid hb
      clear ha hb
      by_cases hlt : k < n
      · have hlt' : decide ((k : Int) < n) = true := decide_eq_true (by omega)
        obtain ⟨c, o, rfl, hc, hnm, h0, h1, h2, h3⟩ := HC.out.low HB.out k hlt
        cases hcn : nameOK (f k).nm
        · have HK := Lib.hid hcn
          clear hcn
          go_wp2_with fail
          refine (rvname_eq hnm HK.out _).mono ?_
          rintro e v1 ⟨rfl, rfl⟩
          go_wp2
          go_ret
          exact ⟨ret_b (schemaOK_bad hlt (bad_col (colOK_name HK.out))).symm, below_new HB.out _⟩
        have HK := Lib.hid hcn
        clear hcn
        by_cases ht1 : (f k).ty < 1
        · have e1 : decide ((f k).ty < 1) = true := decide_eq_true ht1
          have HT := Lib.hid ht1
          clear ht1
          go_wp2_with fail
          refine (rvname_eq hnm HK.out _).mono ?_
          rintro e v1 ⟨rfl, rfl⟩
          go_wp2
          go_ret
          exact ⟨ret_b (schemaOK_bad hlt (bad_col (colOK_type (.inl HT.out)))).symm, below_new HB.out _⟩
        have e1 : decide ((f k).ty < 1) = false := decide_eq_false ht1
        by_cases ht3 : 3 < (f k).ty
        · have e3 : decide (3 < (f k).ty) = true := decide_eq_true ht3
          have HT := Lib.hid ht3
          clear ht3 ht1
          go_wp2_with fail
          refine (rvname_eq hnm HK.out _).mono ?_
          rintro e v1 ⟨rfl, rfl⟩
          go_wp2
          go_ret
          exact ⟨ret_b (schemaOK_bad hlt (bad_col (colOK_type (.inr HT.out)))).symm, below_new HB.out _⟩
        have e3 : decide (3 < (f k).ty) = false := decide_eq_false ht3
        have HT1 : Hid (1 ≤ (f k).ty) := Lib.hid (by omega)
        have HT3 : Hid ((f k).ty ≤ 3) := Lib.hid (by omega)
        clear ht1 ht3
        by_cases hkn : (f k).nn = false ∧ (f k).key = true
        · have HKN := Lib.hid hkn
          rw [hkn.1] at h2
          rw [hkn.2] at h3
          clear hkn
          go_wp2_with fail
          refine (rvname_eq hnm HK.out _).mono ?_
          rintro e v1 ⟨rfl, rfl⟩
          go_wp2
          go_ret
          exact ⟨ret_b (schemaOK_bad hlt (bad_col (colOK_null HKN.out.1 HKN.out.2))).symm, below_new HB.out _⟩
        have hor : (f k).nn = true ∨ (f k).key = false := by
          cases hx : (f k).nn <;> cases hy : (f k).key <;> simp_all
        have HOK := Lib.hid (colOK_yes HK.out HT1.out HT3.out hor)
        clear hkn
        cases hkey : (f k).key
        · have HY := Lib.hid hkey
          rw [hkey] at h3
          clear hkey hor
          have HQ := Lib.hid hq
          obtain ⟨qz, q0, q1, qf⟩ := hq
          go_wp2_with fail
          refine (rvname_eq hnm HK.out _).mono ?_
          rintro e v1 ⟨rfl, rfl⟩
          go_wp2_with fail
          refine (rfind_any nm (f k).nm _ n cap f _ hn (HC.out.low (below_new HB.out _))).mono ?_
          rintro e v2 ⟨rfl, hb3⟩
          obtain ⟨⟨sz, s0, s1, s2, s3, sf⟩, hb4⟩ := four_one hb3
          have HB2 := Lib.hid (below_next HB.out hb4)
          have HQ2 := Lib.hid (HQ.out.low hb4)
          obtain ⟨rz, r0, r1, rf⟩ := HQ.out.low hb4
          clear HQ qz q0 q1 qf hb3 hb4 h0 h1 h2 h3
          cases hfd : (findName f n (f k).nm == (k : Int))
          · have HF := Lib.hid hfd
            have hne := beq_eq_false_iff_ne.1 hfd
            have hne' := fun h => hne (Eq.symm h)
            clear hfd s1 s2 s3
            go_wp2
            go_ret
            exact ⟨ret_b (schemaOK_bad hlt (bad_find hlt HF.out)).symm, HB2.out⟩
          · have HF := Lib.hid hfd
            rw [beq_iff_eq.1 hfd]
            clear hfd
            skip
            go_wp2
            go_roundw
            case rel => exact ⟨k + 1, by omega, by go_num, by rw [← keys_no HY.out], all_succ HA.out (is_fair hlt HOK.out HF.out), HB2.out, HQ2.out⟩
            case measure => simp [intOf]; omega
        · have HY := Lib.hid hkey
          rw [hkey] at h3
          rw [show (f k).nn = true from by rcases hor with h | h; exact h; rw [hkey] at h; cases h] at h2
          clear hkey hor
          have HQ := Lib.hid hq
          obtain ⟨qz, q0, q1, qf⟩ := hq
          go_wp2_with fail
          refine (rvname_eq hnm HK.out _).mono ?_
          rintro e v1 ⟨rfl, rfl⟩
          go_wp2_with fail
          refine (rfind_any nm (f k).nm _ n cap f _ hn (HC.out.low (below_new HB.out _))).mono ?_
          rintro e v2 ⟨rfl, hb3⟩
          obtain ⟨⟨sz, s0, s1, s2, s3, sf⟩, hb4⟩ := four_one hb3
          have HB2 := Lib.hid (below_next HB.out hb4)
          have HQ2 := Lib.hid (HQ.out.low hb4)
          obtain ⟨rz, r0, r1, rf⟩ := HQ.out.low hb4
          clear HQ qz q0 q1 qf hb3 hb4 h0 h1 h2 h3
          cases hfd : (findName f n (f k).nm == (k : Int))
          · have HF := Lib.hid hfd
            have hne := beq_eq_false_iff_ne.1 hfd
            have hne' := fun h => hne (Eq.symm h)
            clear hfd s1 s2 s3
            go_wp2
            go_ret
            exact ⟨ret_b (schemaOK_bad hlt (bad_find hlt HF.out)).symm, HB2.out⟩
          · have HF := Lib.hid hfd
            rw [beq_iff_eq.1 hfd]
            clear hfd
            have hle : ((keysN f k : Nat) : Int) < n := by have := keysN_le f k; omega
            go_wp2
            go_roundw
            case rel => exact ⟨k + 1, by omega, by go_num, by rw [← keys_yes HY.out], all_succ HA.out (is_fair hlt HOK.out HF.out), HB2.out, HQ2.out⟩
            case measure => simp [intOf]; omega
      · have hlt' : decide ((k : Int) < n) = false := decide_eq_false (by omega)
        obtain rfl : k = n := by omega
        go_wp2
        go_ret
        exact ⟨ret_b (fair_end HN.out H1.out H6.out HA.out), HB.out⟩
end Go.Proofs.YtgcbgojbjabhkaaDoor
