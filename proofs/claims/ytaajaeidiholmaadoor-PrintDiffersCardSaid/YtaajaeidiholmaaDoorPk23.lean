/-
  Several texts in one.
-/
import Derived.Test.YtaajaeidiholmaaDoorPk20
import Derived.Test.YtaajaeidiholmaaDoorPk21
import Derived.Test.YtaajaeidiholmaaDoorPk22
/-
  PrintDiffers returns true for every list of numbers: the walk.
-/
namespace Go.Proofs.YtaajaeidiholmaaDoor
set_option maxRecDepth 100000
open Go.RowKit
variable {ls : List Nat}

set_option maxHeartbeats 8000000 in
theorem printDiffers_walk (w : World) (p : Option Addr) (len cap : Nat) (hl : len ≤ cap) (hm : len ≤ 9223372036854775807) (hI : IntsAt w p len) (hE : Env ls w)
    (hn : 0 ∈ ls) (hlw : 4 ∈ ls) (hu : 2 ∈ ls) (ho : 6 ∈ ls) (hp : 1 ∈ ls) (hN : 3 ∈ ls) (hP : 5 ∈ ls) :
    Calls Tryd.prog 3 #[.slice p len cap] w fun e w' => e = .returned (.bool true) ∧ Below w.heap.size w w' := by
  have HE := Lib.hid hE
  have hgn := hE.size
  have HPX := Lib.hid (fun e v h1 h2 h3 => pexpr_any (ls := ls) (N := fun _ => True) (d := 3) hu ho hp hN hP e v h1 h2 h3)
  have HKN := Lib.hid (fun v h => known12_any (ls := ls) v h hu ho hp hN hP)
  clear hE hu ho hp hN hP
  go_enter Tryd.func3, Tryd.ntmps3
  go_wp2_with fail
  refine (new_any w p len cap hl hm hI).mono ?_
  rintro e w1 ⟨b, rfl, hbw, ht1, hb1⟩
  have HE1 := Lib.hid (HE.out.low hb1)
  go_wp2_with fail
  refine (anyExpr_any hn hlw 2 (by decide) b 2 w1 (by decide) (by decide) (by omega) ht1 HE1.out).mono ?_
  rintro e w2 ⟨E, rfl, hEA, hEV, ht2, hs2⟩
  have HB2 := Lib.hid (hb1.trans (hs2.below hbw hb1.size))
  have HE2 := Lib.hid (HE.out.low HB2.out)
  have hEA2 := hEA.weak (M := fun c => c ≠ b) fun c _ hc => by have := ht1.lt; omega
  have HEA := Lib.hid hEA2
  have HEV := Lib.hid hEV
  have hz1 := hb1.size
  clear hEA hEV ht1 hb1 HE1 hEA2 hs2
  dsimp only [exV]
  go_wp2_with fail
  refine (anyExpr_any hn hlw 2 (by decide) b 2 w2 (by decide) (by decide) (by omega) ht2 HE2.out).mono ?_
  rintro e w3 ⟨F, rfl, hFA, hFV, ht3, hs3⟩
  have HB3 := Lib.hid (HB2.out.trans (hs3.below hbw HB2.out.size))
  have HEA3 := Lib.hid ((HEA.out.step hs3 (fun c hc => hc)).weak (M := fun _ => True) fun _ _ _ => trivial)
  have HFA := Lib.hid (hFA.weak (M := fun _ => True) fun _ _ _ => trivial)
  have HFV := Lib.hid hFV
  clear hFA hFV ht2 ht3 hs3 HEA HB2 HE2 hz1 hgn hbw
  dsimp only [exV]
  go_upto_region 3 with (fail)
  have hp1 := fun v h1 h2 => HPX.out E v h1 h2 (Nat.le_trans (part_ok 3 E HEA3.out HEV.out).2 (by decide))
  have hp2 := fun v h1 h2 => HPX.out F v h1 h2 (Nat.le_trans (part_ok 3 F HFA.out HFV.out).2 (by decide))
  have e1 : prV 3 E = .tuple #[.string (joinS (wT 3 E)), .bool true] := by unfold prV; rw [show vE 3 E = true from HEV.out, if_pos rfl]
  have e2 : prV 3 F = .tuple #[.string (joinS (wT 3 F)), .bool true] := by unfold prV; rw [show vE 3 F = true from HFV.out, if_pos rfl]
  rw [e1] at hp1
  rw [e2] at hp2
  have HP1 := Lib.hid hp1
  have HP2 := Lib.hid hp2
  have HSE := Lib.hid (fun v h1 h2 => sameEx_any 3 (fun _ => True) E F v h1 h2)
  have HTX := Lib.hid (text_same (d := 3) HEV.out HFV.out)
  unfold exV at HP1 HP2 HSE
  generalize joinS (wT 3 E) = sA at *
  generalize joinS (wT 3 F) = sB at *
  generalize sameB 3 E F = sm at *
  clear e1 e2 hp1 hp2 HPX HEV HFV
  have HX1 := Lib.hid ((ExB.new w3 E 30).low (below_alloc (w3.alloc (.cells #[.int .i64 E.k, .int .i64 E.op, .bool E.no, .int .i64 E.vk, .int .i64 E.vi, .string E.vt, .string E.tb, .string E.nm, .slice E.pa E.args.length E.ca, .slice E.ps E.sub.length E.cs] 30)) (.cells #[.int .i64 F.k, .int .i64 F.op, .bool F.no, .int .i64 F.vk, .int .i64 F.vi, .string F.vt, .string F.tb, .string F.nm, .slice F.pa F.args.length F.ca, .slice F.ps F.sub.length F.cs] 30)))
  have HY1 := Lib.hid ((ExB.new (w3.alloc (.cells #[.int .i64 E.k, .int .i64 E.op, .bool E.no, .int .i64 E.vk, .int .i64 E.vi, .string E.vt, .string E.tb, .string E.nm, .slice E.pa E.args.length E.ca, .slice E.ps E.sub.length E.cs] 30)) F 30).at (size_alloc w3 (.cells #[.int .i64 E.k, .int .i64 E.op, .bool E.no, .int .i64 E.vk, .int .i64 E.vi, .string E.vt, .string E.tb, .string E.nm, .slice E.pa E.args.length E.ca, .slice E.ps E.sub.length E.cs] 30)))
  have hb4 := below_new (below_alloc w3 (.cells #[.int .i64 E.k, .int .i64 E.op, .bool E.no, .int .i64 E.vk, .int .i64 E.vi, .string E.vt, .string E.tb, .string E.nm, .slice E.pa E.args.length E.ca, .slice E.ps E.sub.length E.cs] 30)) (.cells #[.int .i64 F.k, .int .i64 F.op, .bool F.no, .int .i64 F.vk, .int .i64 F.vi, .string F.vt, .string F.tb, .string F.nm, .slice F.pa F.args.length F.ca, .slice F.ps F.sub.length F.cs] 30)
  have HB4 := Lib.hid (below_next HB3.out hb4)
  have HEA4 := Lib.hid (HEA3.out.low hb4)
  have HFA4 := Lib.hid (HFA.out.low hb4)
  have HE4 := Lib.hid (HE.out.low HB4.out)
  clear hb4 HEA3 HFA HB3
  generalize World.alloc _ _ = u4 at *
  obtain ⟨xl, x0, x1, x2, x3, x4, x5, x6, x7, x8, x9, -⟩ := HX1.out
  go_wp2_with fail
  refine (HP1.out _ HEA4.out HE4.out).mono ?_
  rintro e w5 ⟨rfl, hb5⟩
  have HB5 := Lib.hid (below_next HB4.out hb5)
  have HEA5 := Lib.hid (HEA4.out.low hb5)
  have HFA5 := Lib.hid (HFA4.out.low hb5)
  have HX5 := Lib.hid (HX1.out.low hb5)
  have HY5 := Lib.hid (HY1.out.low hb5)
  have HE5 := Lib.hid (HE.out.low HB5.out)
  clear hb5 HB4 HEA4 HFA4 HX1 HY1 HE4 xl x0 x1 x2 x3 x4 x5 x6 x7 x8 x9
  obtain ⟨yl, y0, y1, y2, y3, y4, y5, y6, y7, y8, y9, -⟩ := HY5.out
  go_wp2_with fail
  refine (HP2.out _ HFA5.out HE5.out).mono ?_
  rintro e w6 ⟨rfl, hb6⟩
  have HB6 := Lib.hid (below_next HB5.out hb6)
  have HEA6 := Lib.hid (HEA5.out.low hb6)
  have HFA6 := Lib.hid (HFA5.out.low hb6)
  have HX6 := Lib.hid (HX5.out.low hb6)
  have HY6 := Lib.hid (HY5.out.low hb6)
  clear hb6 HB5 HEA5 HFA5 HX5 HY5 HE5 yl y0 y1 y2 y3 y4 y5 y6 y7 y8 y9
  obtain ⟨xl, x0, x1, x2, x3, x4, x5, x6, x7, x8, x9, -⟩ := HX6.out
  obtain ⟨yl, y0, y1, y2, y3, y4, y5, y6, y7, y8, y9, -⟩ := HY6.out
  cases sm
  · have hst : (sA.toList == sB.toList) = false := by
      cases hq : sA.toList == sB.toList
      · rfl
      · exact absurd (HTX.out.1 (eqT_iff.1 hq)) (by decide)
    go_wp2_with fail
    refine (HSE.out _ HEA6.out HFA6.out).mono ?_
    rintro e w7 ⟨rfl, hb7⟩
    have HB7 := Lib.hid (below_next HB6.out hb7)
    clear hb7 HB6 HX6 HY6 xl x0 x1 x2 x3 x4 x5 x6 x7 x8 x9 yl y0 y1 y2 y3 y4 y5 y6 y7 y8 y9
    go_wp2_with fail
    refine (HKN.out _ (HE.out.low HB7.out)).mono ?_
    rintro e w8 ⟨rfl, hb8⟩
    have HB8 := Lib.hid (below_next HB7.out hb8)
    clear hb8
    go_wp2
    go_ret
    exact ⟨rfl, HB8.out⟩
  · obtain rfl : sA = sB := HTX.out.2 rfl
    go_wp2_with fail
    refine (HSE.out _ HEA6.out HFA6.out).mono ?_
    rintro e w7 ⟨rfl, hb7⟩
    have HB7 := Lib.hid (below_next HB6.out hb7)
    clear hb7 HB6 HX6 HY6 xl x0 x1 x2 x3 x4 x5 x6 x7 x8 x9 yl y0 y1 y2 y3 y4 y5 y6 y7 y8 y9
    go_wp2_with fail
    refine (HKN.out _ (HE.out.low HB7.out)).mono ?_
    rintro e w8 ⟨rfl, hb8⟩
    have HB8 := Lib.hid (below_next HB7.out hb8)
    clear hb8
    go_wp2
    go_ret
    exact ⟨rfl, HB8.out⟩
end Go.Proofs.YtaajaeidiholmaaDoor
