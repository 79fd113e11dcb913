/-
  Fits, of the program and of the reference.
-/
import Derived.Test.YtlgagibmndbimaaDoorCols
import Derived.Test.YtlgagibmndbimaaDoorValFacts
namespace Go.Proofs.YtlgagibmndbimaaDoor
open Go.RowKit
variable {ls : List Nat}

theorem four_three {w w' : World} {a b c d x y z : Value} {t t' : TypeId} (hb : Below ((w.alloc (.cells #[a, b, c, d] t)).alloc (.cells #[x, y, z] t')).heap.size ((w.alloc (.cells #[a, b, c, d] t)).alloc (.cells #[x, y, z] t')) w') :
    Cell4 w' w.heap.size a b c d ∧ Cell3 w' (w.heap.size + 1) x y z ∧ Below w.heap.size w w' :=
  ⟨((cell4_new _ _ _ _ _ _).low (below_alloc _ _)).low hb, ((cell3_new _ _ _ _ _).low hb).at (size_alloc _ _), Below.of_alloc (Below.of_alloc hb)⟩
theorem fitsE_bad {ty k n : Int} {nn : Bool} {s : ByteArray} (h : validB k n s = false) : fitsE ty nn k n s = 17 := by unfold fitsE; rw [h]; rfl
theorem fitsE_free {ty n : Int} {s : ByteArray} (h : validB 0 n s = true) : fitsE ty false 0 n s = 0 := by unfold fitsE; rw [h]; rfl
theorem fitsE_null {ty n : Int} {s : ByteArray} (h : validB 0 n s = true) : fitsE ty true 0 n s = 8 := by unfold fitsE; rw [h]; rfl
theorem fitsE_type {ty k n : Int} {nn : Bool} {s : ByteArray} (h : validB k n s = true) (h0 : ¬ k = 0) (ht : (k == ty) = false) : fitsE ty nn k n s = 5 := by
  unfold fitsE; rw [h, if_pos rfl, if_neg h0, if_neg (beq_eq_false_iff_ne.1 ht)]
theorem fitsE_ok {k n : Int} {nn : Bool} {s : ByteArray} (h : validB k n s = true) (h0 : ¬ k = 0) : fitsE k nn k n s = 0 := by
  unfold fitsE; rw [h, if_pos rfl, if_neg h0, if_pos rfl]
theorem val_eq {k n : Int} {s : ByteArray} {b : Bool} (hs : s.size ≤ 9223372036854775807) (h : validB k n s = b) (w : World) : Calls Tryd.prog 45 #[.agg #[.int .i64 k, .int .i64 n, .string s]] w fun e w' => e = .returned (.bool b) ∧ Below w.heap.size w w' := by
  subst h; exact valid_any k n s w hs
theorem rval_eq {k n : Int} {s : ByteArray} {b : Bool} (hs : s.size ≤ 9223372036854775807) (h : validB k n s = b) (w : World) : Calls Tryd.prog 46 #[.agg #[.int .i64 k, .int .i64 n, .string s]] w fun e w' => e = .returned (.bool b) ∧ Below w.heap.size w w' := by
  subst h; exact rvalid_any k n s w hs
set_option maxHeartbeats 1000000 in
theorem fits_any (c : Col) (k n : Int) (s : ByteArray) (w : World) (hs : s.size ≤ 9223372036854775807) :
    Calls Tryd.prog 30 #[colV c, .agg #[.int .i64 k, .int .i64 n, .string s]] w fun e w' => e = .returned (.int .i64 (fitsE c.ty c.nn k n s)) ∧ Below w.heap.size w w' := by
  unfold colV
  obtain ⟨nm, ty, nn, key⟩ := c
  cases hv : validB k n s
  · have HV := Lib.hid hv
    clear hv
    go_enter Tryd.func30, Tryd.ntmps30
    go_wp2_with fail
    refine (val_eq hs HV.out _).mono ?_
    rintro e w1 ⟨rfl, hb⟩
    obtain ⟨⟨hz, c0, c1, c2, c3, fz⟩, ⟨dz, d0, d1, d2, dfz⟩, hb'⟩ := four_three hb
    have HB := Lib.hid hb'
    clear hb hb'
    go_wp2
    go_ret
    exact ⟨ret_int (fitsE_bad HV.out).symm, HB.out⟩
  have HV := Lib.hid hv
  clear hv
  by_cases hk : k = 0
  · subst hk
    cases nn
    · skip
      go_enter Tryd.func30, Tryd.ntmps30
      go_wp2_with fail
      refine (val_eq hs HV.out _).mono ?_
      rintro e w1 ⟨rfl, hb⟩
      obtain ⟨⟨hz, c0, c1, c2, c3, fz⟩, ⟨dz, d0, d1, d2, dfz⟩, hb'⟩ := four_three hb
      have HB := Lib.hid hb'
      clear hb hb'
      go_wp2
      go_ret
      exact ⟨ret_int (fitsE_free HV.out).symm, HB.out⟩
    · skip
      go_enter Tryd.func30, Tryd.ntmps30
      go_wp2_with fail
      refine (val_eq hs HV.out _).mono ?_
      rintro e w1 ⟨rfl, hb⟩
      obtain ⟨⟨hz, c0, c1, c2, c3, fz⟩, ⟨dz, d0, d1, d2, dfz⟩, hb'⟩ := four_three hb
      have HB := Lib.hid hb'
      clear hb hb'
      go_wp2
      go_ret
      exact ⟨ret_int (fitsE_null HV.out).symm, HB.out⟩
  have hk0 : (k == 0) = false := beq_eq_false_iff_ne.2 hk
  have HK := Lib.hid hk
  cases ht : (k == ty)
  · have HT := Lib.hid ht
    have hne : ¬ k = ty := beq_eq_false_iff_ne.1 ht
    have hb1 : (k != 0) = true := bne_iff_ne.2 hk
    have hb2 : (k != ty) = true := bne_iff_ne.2 hne
    go_enter Tryd.func30, Tryd.ntmps30
    go_wp2_with fail
    refine (val_eq hs HV.out _).mono ?_
    rintro e w1 ⟨rfl, hb⟩
    obtain ⟨⟨hz, c0, c1, c2, c3, fz⟩, ⟨dz, d0, d1, d2, dfz⟩, hb'⟩ := four_three hb
    have HB := Lib.hid hb'
    clear hb hb'
    go_wp2
    go_ret
    exact ⟨ret_int (fitsE_type HV.out HK.out HT.out).symm, HB.out⟩
  · have HT := Lib.hid ht
    have hne : k = ty := beq_iff_eq.1 ht
    subst hne
    go_enter Tryd.func30, Tryd.ntmps30
    go_wp2_with fail
    refine (val_eq hs HV.out _).mono ?_
    rintro e w1 ⟨rfl, hb⟩
    obtain ⟨⟨hz, c0, c1, c2, c3, fz⟩, ⟨dz, d0, d1, d2, dfz⟩, hb'⟩ := four_three hb
    have HB := Lib.hid hb'
    clear hb hb'
    go_wp2
    go_ret
    exact ⟨ret_int (fitsE_ok HV.out HK.out).symm, HB.out⟩
set_option maxHeartbeats 1000000 in
theorem rfits_any (c : Col) (k n : Int) (s : ByteArray) (w : World) (hs : s.size ≤ 9223372036854775807) :
    Calls Tryd.prog 33 #[colV c, .agg #[.int .i64 k, .int .i64 n, .string s]] w fun e w' => e = .returned (.int .i64 (fitsE c.ty c.nn k n s)) ∧ Below w.heap.size w w' := by
  unfold colV
  obtain ⟨nm, ty, nn, key⟩ := c
  cases hv : validB k n s
  · have HV := Lib.hid hv
    clear hv
    go_enter Tryd.func33, Tryd.ntmps33
    go_wp2_with fail
    refine (rval_eq hs HV.out _).mono ?_
    rintro e w1 ⟨rfl, hb⟩
    obtain ⟨⟨hz, c0, c1, c2, c3, fz⟩, ⟨dz, d0, d1, d2, dfz⟩, hb'⟩ := four_three hb
    have HB := Lib.hid hb'
    clear hb hb'
    go_wp2
    go_ret
    exact ⟨ret_int (fitsE_bad HV.out).symm, HB.out⟩
  have HV := Lib.hid hv
  clear hv
  by_cases hk : k = 0
  · subst hk
    cases nn
    · skip
      go_enter Tryd.func33, Tryd.ntmps33
      go_wp2_with fail
      refine (rval_eq hs HV.out _).mono ?_
      rintro e w1 ⟨rfl, hb⟩
      obtain ⟨⟨hz, c0, c1, c2, c3, fz⟩, ⟨dz, d0, d1, d2, dfz⟩, hb'⟩ := four_three hb
      have HB := Lib.hid hb'
      clear hb hb'
      go_wp2
      go_ret
      exact ⟨ret_int (fitsE_free HV.out).symm, HB.out⟩
    · skip
      go_enter Tryd.func33, Tryd.ntmps33
      go_wp2_with fail
      refine (rval_eq hs HV.out _).mono ?_
      rintro e w1 ⟨rfl, hb⟩
      obtain ⟨⟨hz, c0, c1, c2, c3, fz⟩, ⟨dz, d0, d1, d2, dfz⟩, hb'⟩ := four_three hb
      have HB := Lib.hid hb'
      clear hb hb'
      go_wp2
      go_ret
      exact ⟨ret_int (fitsE_null HV.out).symm, HB.out⟩
  have hk0 : (k == 0) = false := beq_eq_false_iff_ne.2 hk
  have HK := Lib.hid hk
  cases ht : (k == ty)
  · have HT := Lib.hid ht
    have hne : ¬ k = ty := beq_eq_false_iff_ne.1 ht
    have hb1 : (k != 0) = true := bne_iff_ne.2 hk
    have hb2 : (k != ty) = true := bne_iff_ne.2 hne
    go_enter Tryd.func33, Tryd.ntmps33
    go_wp2_with fail
    refine (rval_eq hs HV.out _).mono ?_
    rintro e w1 ⟨rfl, hb⟩
    obtain ⟨⟨hz, c0, c1, c2, c3, fz⟩, ⟨dz, d0, d1, d2, dfz⟩, hb'⟩ := four_three hb
    have HB := Lib.hid hb'
    clear hb hb'
    go_wp2
    go_ret
    exact ⟨ret_int (fitsE_type HV.out HK.out HT.out).symm, HB.out⟩
  · have HT := Lib.hid ht
    have hne : k = ty := beq_iff_eq.1 ht
    subst hne
    go_enter Tryd.func33, Tryd.ntmps33
    go_wp2_with fail
    refine (rval_eq hs HV.out _).mono ?_
    rintro e w1 ⟨rfl, hb⟩
    obtain ⟨⟨hz, c0, c1, c2, c3, fz⟩, ⟨dz, d0, d1, d2, dfz⟩, hb'⟩ := four_three hb
    have HB := Lib.hid hb'
    clear hb hb'
    go_wp2
    go_ret
    exact ⟨ret_int (fitsE_ok HV.out HK.out).symm, HB.out⟩
end Go.Proofs.YtlgagibmndbimaaDoor
