/-
  The sanity check of the statements about schemas holds.
-/
import Derived.Test.YtgcbgojbjabhkaaDoorWorldSchema
namespace Go.Proofs.YtgcbgojbjabhkaaDoor
open Go.RowKit
variable {ls : List Nat}

theorem svalid_eq {nm : ByteArray} {p : Option Addr} {n cap : Nat} {f : Nat → Col} {w : World} {b : Bool} (hs : nm.size ≤ 9223372036854775807) (hn : n ≤ 9223372036854775807) (hC : ColsAt w p n f) (h : schemaOK nm n f = b) :
    Calls Tryd.prog 16 #[.agg #[.string nm, .slice p n cap]] w fun e w' => e = .returned (.bool b) ∧ Below w.heap.size w w' := by
  subst h; exact svalid_any nm p n cap f w hs hn hC
theorem keycol_eq {nm : ByteArray} {p : Option Addr} {n cap : Nat} {f : Nat → Col} {w : World} {r : Int} (hn : n ≤ 9223372036854775807) (hC : ColsAt w p n f) (h : findKey f n = r) :
    Calls Tryd.prog 18 #[.agg #[.string nm, .slice p n cap]] w fun e w' => e = .returned (.int .i64 r) ∧ Below w.heap.size w w' := by
  subst h; exact keycol_any nm p n cap f w hn hC
theorem find_eq {nm s : ByteArray} {p : Option Addr} {n cap : Nat} {f : Nat → Col} {w : World} {r : Int} (hn : n ≤ 9223372036854775807) (hC : ColsAt w p n f) (h : findName f n s = r) :
    Calls Tryd.prog 20 #[.agg #[.string nm, .slice p n cap], .string s] w fun e w' => e = .returned (.int .i64 r) ∧ Below w.heap.size w w' := by
  subst h; exact find_any nm s p n cap f w hn hC
theorem keyword_eq {s : ByteArray} {w : World} {b : Bool} (hE : Env ls w) (hm : 1 ∈ ls) (h : keyB s = b) :
    Calls Tryd.prog 11 #[.string s] w fun e w' => e = .returned (.bool b) ∧ w = w' := by
  subst h; exact keyword_any s w hE hm

set_option maxHeartbeats 1000000 in
theorem known_any (w : World) (hE : Env ls w) (hm : 1 ∈ ls) :
    Calls Tryd.prog 13 #[] w fun e w' => e = .returned (.bool true) ∧ Below w.heap.size w w' := by
  have HE := Lib.hid hE
  clear hE
  go_enter Tryd.func13, Tryd.ntmps13
  go_wp2_with fail
  refine (schemaT_any _).mono ?_
  rintro e w1 ⟨Z, rfl, hC, hb⟩
  have HC := Lib.hid hC
  have HB := Lib.hid hb
  clear hC hb
  unfold schV
  have hbox := cell2_new w1 (.string ⟨#[116]⟩) (.slice (some ⟨Z, 0, none⟩) 4 4) 34
  have HX := Lib.hid hbox
  have HC1 : Hid (ColsAt (w1.alloc (.cells #[.string ⟨#[116]⟩, .slice (some ⟨Z, 0, none⟩) 4 4] 34)) (some ⟨Z, 0, none⟩) 4 colT) := Lib.hid (HC.out.low (below_alloc _ _))
  have HB1 : Hid (Below w.heap.size w (w1.alloc (.cells #[.string ⟨#[116]⟩, .slice (some ⟨Z, 0, none⟩) 4 4] 34))) := Lib.hid (below_new HB.out _)
  obtain ⟨hz, c0, c1, fz⟩ := hbox
  clear HC HB
  go_wp2_with fail
  refine (svalid_eq (b := true) (f := colT) (by decide) (by decide) HC1.out (by decide +kernel)).mono ?_
  rintro e w2 ⟨rfl, hb⟩
  have HX2 := Lib.hid (HX.out.low hb)
  have HC2 := Lib.hid (HC1.out.low hb)
  have HB2 := Lib.hid (below_next HB1.out hb)
  clear hb hz c0 c1 fz HX HC1 HB1
  obtain ⟨hz, c0, c1, fz⟩ := HX2.out
  go_wp2_with fail
  refine (keycol_eq (r := 0) (f := colT) (by decide) HC2.out (by decide +kernel)).mono ?_
  rintro e w3 ⟨rfl, hb⟩
  have HX3 := Lib.hid (HX2.out.low hb)
  have HC3 := Lib.hid (HC2.out.low hb)
  have HB3 := Lib.hid (below_next HB2.out hb)
  clear hb hz c0 c1 fz HX2 HC2 HB2
  obtain ⟨hz, c0, c1, fz⟩ := HX3.out
  go_wp2_with fail
  refine (find_eq (r := 2) (f := colT) (by decide) HC3.out (by decide +kernel)).mono ?_
  rintro e w4 ⟨rfl, hb⟩
  have HB4 := Lib.hid (below_next HB3.out hb)
  clear hb hz c0 c1 fz HX3 HC3 HB3
  go_wp2_with fail
  refine (validName_eq (b := true) (by decide) (by decide +kernel) _).mono ?_
  rintro e w5 ⟨rfl, hb⟩
  have HB5 := Lib.hid (below_next HB4.out hb)
  clear hb HB4
  go_wp2_with fail
  refine (validName_eq (b := false) (by decide) (by decide +kernel) _).mono ?_
  rintro e w6 ⟨rfl, hb⟩
  have HB6 := Lib.hid (below_next HB5.out hb)
  clear hb HB5
  go_wp2_with fail
  refine (keyword_eq (b := true) (HE.out.low HB6.out) hm (by decide +kernel)).mono ?_
  rintro e w7 ⟨rfl, rfl⟩
  go_wp2
  go_ret
  exact ⟨rfl, HB6.out⟩
end Go.Proofs.YtgcbgojbjabhkaaDoor
