/-
  Not, And, Or of the program and of the reference, on all values.
-/
import Derived.Test.YtlnjdgmolmeklaaDoorLogic
import Derived.Test.YtlnjdgmolmeklaaDoorBoxes
namespace Go.Proofs.YtlnjdgmolmeklaaDoor
open Go.RowKit

/-- The place of the answer of Not, And, Or. -/
def notQ (k n : Int) (s : ByteArray) : Int := if logB k n s then 2 - placeI k n s else 1
def andQ (k n : Int) (s : ByteArray) (k' n' : Int) (s' : ByteArray) : Int := if logB k n s && logB k' n' s' then andP (placeI k n s) (placeI k' n' s') else 1
def orQ (k n : Int) (s : ByteArray) (k' n' : Int) (s' : ByteArray) : Int := if logB k n s && logB k' n' s' then orP (placeI k n s) (placeI k' n' s') else 1

/-- What such a call returns. -/
abbrev ans (p : Int) (ok : Bool) : Ending := .returned (.tuple #[.agg #[.int .i64 (tvK p), .int .i64 (tvN p), .string ⟨#[]⟩], .bool ok])
theorem place0 : placeI 0 0 ⟨#[]⟩ = 1 := by simp [placeI, sameV]
theorem place1 : placeI 2 0 ⟨#[]⟩ = 0 := by simp [placeI, sameV]
theorem place2 : placeI 2 1 ⟨#[]⟩ = 2 := by simp [placeI, sameV]
theorem k1 : tvK 1 = 0 := rfl
theorem n1 : tvN 1 = 0 := rfl

set_option maxHeartbeats 400000 in
theorem not_bad (k n : Int) (s : ByteArray) (w : World) (hs : s.size ≤ 9223372036854775807) (hl : logB k n s = false) :
    Calls Tryd.prog 16 #[.agg #[.int .i64 k, .int .i64 n, .string s]] w fun e w' => e = ans 1 false ∧ Below w.heap.size w w' := by
  have HL := Lib.hid hl
  clear hl
  go_enter Tryd.func16, Tryd.ntmps16
  go_wp2_with fail
  refine (logic_valid _ _ _ _ hs).mono ?_
  rintro e w' ⟨rfl, hb⟩
  rw [HL.out]
  obtain ⟨⟨az, a0, a1, a2, af⟩, ⟨rz, r0, r1, r2, rf⟩, hb'⟩ := box_two _ _ _ _ _ _ _ _ _ hb
  clear hb
  go_wp2
  exact bodyPost_ret (v := .tuple #[.agg #[.int .i64 0, .int .i64 0, .string ⟨#[]⟩], .bool false]) (by simp [results, Tryd.results16, go_sem, r0, r1, r2]) rfl ⟨rfl, Below.three1 hb' _ _ _⟩

set_option maxHeartbeats 400000 in
theorem not_good (k n : Int) (s : ByteArray) (w : World) (hs : s.size ≤ 9223372036854775807) (hl : logB k n s = true) :
    Calls Tryd.prog 16 #[.agg #[.int .i64 k, .int .i64 n, .string s]] w fun e w' => e = ans (2 - placeI k n s) true ∧ Below w.heap.size w w' := by
  have HL := Lib.hid hl
  clear hl
  have hp0 := (place_bd k n s).1
  have hp1 := (place_bd k n s).2
  go_enter Tryd.func16, Tryd.ntmps16
  go_wp2_with fail
  refine (logic_valid _ _ _ _ hs).mono ?_
  rintro e w' ⟨rfl, hb⟩
  rw [HL.out]
  obtain ⟨hA, hR, hb'⟩ := box_two _ _ _ _ _ _ _ _ _ hb
  clear hb
  obtain ⟨az, a0, a1, a2, af⟩ := id hA
  go_wp2_with fail
  refine (place_any _ _ _ _).mono ?_
  rintro e w2 ⟨rfl, hb2⟩
  go_wp2_with fail
  refine (valueAt_any _ _).mono ?_
  rintro e w3 ⟨rfl, hb3⟩
  clear az a0 a1 a2 af
  have hb23 := Below.next hb2 hb3
  have hb3' := Below.next hb' hb23
  obtain ⟨rz, r0, r1, r2, rf⟩ := hR.low hb23
  clear hA hR hb2 hb3 hb23 hb'
  go_wp2
  exact bodyPost_ret (v := .tuple #[.agg #[.int .i64 (tvK (2 - placeI k n s)), .int .i64 (tvN (2 - placeI k n s)), .string ⟨#[]⟩], .bool true]) (by simp [results, Tryd.results16, go_sem, r0, r1, r2]) rfl ⟨rfl, Below.three1 hb3' _ _ _⟩

theorem not_any (k n : Int) (s : ByteArray) (w : World) (hs : s.size ≤ 9223372036854775807) :
    Calls Tryd.prog 16 #[.agg #[.int .i64 k, .int .i64 n, .string s]] w fun e w' => e = ans (notQ k n s) (logB k n s) ∧ Below w.heap.size w w' := by
  cases hl : logB k n s
  · rw [show notQ k n s = 1 by unfold notQ; rw [hl]; rfl]; exact not_bad k n s w hs hl
  · rw [show notQ k n s = 2 - placeI k n s by unfold notQ; rw [hl]; rfl]; exact not_good k n s w hs hl

set_option maxHeartbeats 400000 in
theorem rnot_bad (k n : Int) (s : ByteArray) (w : World) (hs : s.size ≤ 9223372036854775807) (hl : logB k n s = false) :
    Calls Tryd.prog 23 #[.agg #[.int .i64 k, .int .i64 n, .string s]] w fun e w' => e = ans 1 false ∧ Below w.heap.size w w' := by
  have HL := Lib.hid hl
  clear hl
  go_enter Tryd.func23, Tryd.ntmps23
  go_wp2_with fail
  refine (rlogic_valid _ _ _ _ hs).mono ?_
  rintro e w' ⟨rfl, hb⟩
  rw [HL.out]
  obtain ⟨⟨az, a0, a1, a2, af⟩, ⟨rz, r0, r1, r2, rf⟩, hb'⟩ := box_two _ _ _ _ _ _ _ _ _ hb
  clear hb
  go_wp2
  exact bodyPost_ret (v := .tuple #[.agg #[.int .i64 0, .int .i64 0, .string ⟨#[]⟩], .bool false]) (by simp [results, Tryd.results23, go_sem, r0, r1, r2]) rfl ⟨rfl, Below.three1 hb' _ _ _⟩

set_option maxHeartbeats 1000000 in
theorem rnot_good (k n : Int) (s : ByteArray) (w : World) (hs : s.size ≤ 9223372036854775807) (hl : logB k n s = true) :
    Calls Tryd.prog 23 #[.agg #[.int .i64 k, .int .i64 n, .string s]] w fun e w' => e = ans (2 - placeI k n s) true ∧ Below w.heap.size w w' := by
  rcases log_three hl with ⟨rfl, rfl, rfl⟩ | ⟨rfl, rfl, rfl⟩ | ⟨rfl, rfl, rfl⟩
  · rw [place0]
    have HL := Lib.hid hl
    clear hl
    go_enter Tryd.func23, Tryd.ntmps23
    go_wp2_with fail
    refine (rlogic_valid _ _ _ _ hs).mono ?_
    rintro e w' ⟨rfl, hb⟩
    rw [HL.out]
    obtain ⟨⟨az, a0, a1, a2, af⟩, ⟨rz, r0, r1, r2, rf⟩, hb'⟩ := box_two _ _ _ _ _ _ _ _ _ hb
    clear hb
    go_wp2
    exact bodyPost_ret (v := .tuple #[.agg #[.int .i64 0, .int .i64 0, .string ⟨#[]⟩], .bool true]) (by simp [results, Tryd.results23, go_sem, r0, r1, r2]) rfl ⟨rfl, Below.three1 hb' _ _ _⟩
  · rw [place1]
    have HL := Lib.hid hl
    clear hl
    go_enter Tryd.func23, Tryd.ntmps23
    go_wp2_with fail
    refine (rlogic_valid _ _ _ _ hs).mono ?_
    rintro e w' ⟨rfl, hb⟩
    rw [HL.out]
    obtain ⟨⟨az, a0, a1, a2, af⟩, hR, hb'⟩ := box_two _ _ _ _ _ _ _ _ _ hb
    clear hb
    go_wp2_with fail
    refine (rtruth_any true _).mono ?_
    rintro e w2 ⟨rfl, hb2⟩
    obtain ⟨rz, r0, r1, r2, rf⟩ := hR.low hb2
    have hb3 := Below.next hb' hb2
    clear hb2 hb' hR az a0 a1 a2 af
    go_wp2
    exact bodyPost_ret (v := .tuple #[.agg #[.int .i64 2, .int .i64 1, .string ⟨#[]⟩], .bool true]) (by simp [results, Tryd.results23, go_sem, r0, r1, r2]) rfl ⟨rfl, Below.three1 hb3 _ _ _⟩
  · rw [place2]
    have HL := Lib.hid hl
    clear hl
    go_enter Tryd.func23, Tryd.ntmps23
    go_wp2_with fail
    refine (rlogic_valid _ _ _ _ hs).mono ?_
    rintro e w' ⟨rfl, hb⟩
    rw [HL.out]
    obtain ⟨⟨az, a0, a1, a2, af⟩, hR, hb'⟩ := box_two _ _ _ _ _ _ _ _ _ hb
    clear hb
    go_wp2_with fail
    refine (rtruth_any false _).mono ?_
    rintro e w2 ⟨rfl, hb2⟩
    obtain ⟨rz, r0, r1, r2, rf⟩ := hR.low hb2
    have hb3 := Below.next hb' hb2
    clear hb2 hb' hR az a0 a1 a2 af
    go_wp2
    exact bodyPost_ret (v := .tuple #[.agg #[.int .i64 2, .int .i64 0, .string ⟨#[]⟩], .bool true]) (by simp [results, Tryd.results23, go_sem, r0, r1, r2]) rfl ⟨rfl, Below.three1 hb3 _ _ _⟩

theorem rnot_any (k n : Int) (s : ByteArray) (w : World) (hs : s.size ≤ 9223372036854775807) :
    Calls Tryd.prog 23 #[.agg #[.int .i64 k, .int .i64 n, .string s]] w fun e w' => e = ans (notQ k n s) (logB k n s) ∧ Below w.heap.size w w' := by
  cases hl : logB k n s
  · rw [show notQ k n s = 1 by unfold notQ; rw [hl]; rfl]; exact rnot_bad k n s w hs hl
  · rw [show notQ k n s = 2 - placeI k n s by unfold notQ; rw [hl]; rfl]; exact rnot_good k n s w hs hl
end Go.Proofs.YtlnjdgmolmeklaaDoor
