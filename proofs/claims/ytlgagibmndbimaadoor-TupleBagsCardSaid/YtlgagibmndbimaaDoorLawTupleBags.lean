/-
  THE STATEMENT TupleBags, as a walk.
-/
import Derived.Test.YtlgagibmndbimaaDoorBagFacts
namespace Go.Proofs.YtlgagibmndbimaaDoor
open Go.RowKit
variable {ls : List Nat}

/-- The lists of rows, in an array. -/
def ListsAt (u : World) (g : Nat) : Prop := g < u.heap.size ∧ ∀ i, i < 4 → ∃ (p : Option Addr) (L : List (List Val)) (c : Nat), u.cell? ⟨g, i, none⟩ = some (.slice p L.length c) ∧ RowsAt u p L ∧ L.length ≤ 30
theorem ListsAt.low {u v : World} {g : Nat} (h : ListsAt u g) (hb : Below u.heap.size u v) : ListsAt v g :=
  ⟨Nat.lt_of_lt_of_le h.1 hb.size, fun i hi => by obtain ⟨p, L, c, h0, h1, h2⟩ := h.2 i hi; exact ⟨p, L, c, by rw [hb.cell (by exact h.1)]; exact h0, h1.low hb, h2⟩⟩
theorem lists_new {u : World} {p0 p1 p2 p3 : Option Addr} {L0 L1 L2 L3 : List (List Val)} {c0 c1 c2 c3 : Nat} (h0 : RowsAt u p0 L0) (h1 : RowsAt u p1 L1) (h2 : RowsAt u p2 L2) (h3 : RowsAt u p3 L3) (l0 : L0.length ≤ 30) (l1 : L1.length ≤ 30) (l2 : L2.length ≤ 30) (l3 : L3.length ≤ 30) (t : TypeId) :
    ListsAt (u.alloc (.cells #[.slice p0 L0.length c0, .slice p1 L1.length c1, .slice p2 L2.length c2, .slice p3 L3.length c3] t)) u.heap.size := by
  refine ⟨by go_simp, fun i hi => ?_⟩
  match i, hi with
  | 0, _ => exact ⟨p0, L0, c0, by go_simp, h0.new _, l0⟩
  | 1, _ => exact ⟨p1, L1, c1, by go_simp, h1.new _, l1⟩
  | 2, _ => exact ⟨p2, L2, c2, by go_simp, h2.new _, l2⟩
  | 3, _ => exact ⟨p3, L3, c3, by go_simp, h3.new _, l3⟩

set_option maxRecDepth 100000 in
set_option maxHeartbeats 8000000 in
theorem tbags_walk (hT : TupleDoes) (w : World) (p0 : Option Addr) (L0 : List (List Val)) (c0 : Nat) (p1 : Option Addr) (L1 : List (List Val)) (c1 : Nat) (h0 : RowsAt w p0 L0) (h1 : RowsAt w p1 L1) (p : Option Addr) (len cap : Nat) (hl : len ≤ cap) (hm : len ≤ 9223372036854775807) (h : IntsAt w p len) (hE : Env ls w) (hlw : 1 ∈ ls) :
    Calls Tryd.prog 4 #[.slice p0 L0.length c0, .slice p1 L1.length c1, .slice p len cap] w fun e w' => e = .returned (.bool true) ∧ Below w.heap.size w w' := by
  have HI := Lib.hid h
  have H0 := Lib.hid h0
  have H1 := Lib.hid h1
  clear h h0 h1
  have hz8 := hE.size
  go_enter Tryd.func4, Tryd.ntmps4
  by_cases hl0 : 30 < L0.length
  · have hd0 : decide (30 < L0.length) = true := decide_eq_true hl0
    go_wp2_with fail
    refine (known5_any hT _).mono ?_
    rintro e w1 ⟨rfl, hb⟩
    have HB := Lib.hid hb
    clear hb
    go_wp2_with fail
    go_ret
    exact ⟨rfl, HB.out⟩
  have hd0 : decide (30 < L0.length) = false := decide_eq_false hl0
  by_cases hl1 : 30 < L1.length
  · have hd1 : decide (30 < L1.length) = true := decide_eq_true hl1
    go_wp2_with fail
    refine (known5_any hT _).mono ?_
    rintro e w1 ⟨rfl, hb⟩
    have HB := Lib.hid hb
    clear hb
    go_wp2_with fail
    go_ret
    exact ⟨rfl, HB.out⟩
  have hd1 : decide (30 < L1.length) = false := decide_eq_false hl1
  go_wp2_with fail
  refine (new_any w p len cap hl hm HI.out).mono ?_
  rintro e w1 ⟨b, rfl, hb0, ht, hb1⟩
  have hE1 := hE.low hb1
  have h8b : 3 ≤ b := by omega
  have hbw : b ≠ 1 := by omega
  have hbB : b < w1.heap.size := ht.lt
  go_wp2_with fail
  refine (rows_any b 7 w1 (by omega) hbw ht (hE1.words hlw)).mono ?_
  rintro e w2 ⟨va, GA, rfl, hGA, hna, ht2, hs2⟩
  have hE2 := hE1.step hs2 h8b
  have hB2 := hb1.trans (hs2.below hb0 hb1.size)
  have hbB2 : b < w2.heap.size := ht2.lt
  have HGA := Lib.hid hGA
  clear HI hE ht hE1 hb1 hGA
  go_wp2_with fail
  refine (rows_any b 7 w2 (by omega) hbw ht2 (hE2.words hlw)).mono ?_
  rintro e w3 ⟨vb, GB, rfl, hGB, hnb, ht3, hs3⟩
  have hB3 := hB2.trans (hs3.below hb0 hB2.size)
  have HA3 := Lib.hid (HGA.out.step hbB hs3).bag
  have HBB3 := Lib.hid hGB.bag
  have hla : (GA.map (·.2)).length ≤ 30 := by rw [List.length_map]; omega
  have hlb : (GB.map (·.2)).length ≤ 30 := by rw [List.length_map]; omega
  have HB3 := Lib.hid hB3
  clear ht2 hE2 hB2 hGB ht3 hs3 hs2 HGA hB3 hna hnb
  generalize GA.map (·.2) = LA at *
  generalize GB.map (·.2) = LB at *
  generalize GA.map (·.1) = xa at *
  generalize GB.map (·.1) = xb at *
  obtain ⟨pa, ca, rfl⟩ := HA3.out.shape
  obtain ⟨pb, cb, rfl⟩ := HBB3.out.shape
  have h0' : L0.length ≤ 30 := by omega
  have h1' : L1.length ≤ 30 := by omega
  have h03 : RowsAt w3 p0 L0 := by intro i hi; obtain ⟨c, o, q, cp, hp, hc, k0, k1, k2, k3⟩ := H0.out i hi; exact ⟨c, o, q, cp, hp, Nat.lt_of_lt_of_le hc HB3.out.size, by rw [HB3.out.cell (by exact hc)]; exact k0, k1.low HB3.out, k2, k3⟩
  have h13 : RowsAt w3 p1 L1 := by intro i hi; obtain ⟨c, o, q, cp, hp, hc, k0, k1, k2, k3⟩ := H1.out i hi; exact ⟨c, o, q, cp, hp, Nat.lt_of_lt_of_le hc HB3.out.size, by rw [HB3.out.cell (by exact hc)]; exact k0, k1.low HB3.out, k2, k3⟩
  have HLI := Lib.hid (lists_new (c0 := c0) (c1 := c1) (c2 := ca) (c3 := cb) h03 h13 HA3.out.rows HBB3.out.rows h0' h1' hla hlb 39)
  have HB4 := Lib.hid (below_new HB3.out (.cells #[.slice p0 L0.length c0, .slice p1 L1.length c1, .slice pa LA.length ca, .slice pb LB.length cb] 39))
  clear h03 h13 H0 H1 HA3 HBB3 HB3
  go_wp2_with fail
  generalize w3.heap.size = g at *
  go_loopw [39] (fun i v => ∃ k : Nat, k ≤ 4 ∧ i = .int .i64 k ∧ ListsAt v g ∧ Below w.heap.size w v) (fun i _ => 4 - (intOf i).toNat)
  case atStart => exact ⟨0, Nat.zero_le _, rfl, HLI.out, HB4.out⟩
  clear HLI HB4
  case round =>
    obtain ⟨k, hk, rfl, hli, hb⟩ := hrel
    have HLI := Lib.hid hli
    have HB := Lib.hid hb
    clear hli hb
    by_cases hlt : k < 4
    · have hlt' : decide ((k : Int) < 4) = true := decide_eq_true (by omega)
      have hgz := HLI.out.1
      obtain ⟨px, X, cx, x0, hX, hlx⟩ := HLI.out.2 k hlt
      have HX := Lib.hid hX
      clear hX
      go_wp2_with fail
      go_loopw [45] (fun i v => ∃ m : Nat, m ≤ 4 ∧ i = .int .i64 m ∧ ListsAt v g ∧ RowsAt v px X ∧ Below w.heap.size w v) (fun i _ => 4 - (intOf i).toNat)
      case atStart => exact ⟨0, Nat.zero_le _, rfl, HLI.out, HX.out, HB.out⟩
      clear HLI HX HB x0 hgz
      case round =>
        obtain ⟨m, hm4, rfl, hli, hx, hb⟩ := hrel
        have HLI := Lib.hid hli
        have HX := Lib.hid hx
        have HB := Lib.hid hb
        clear hli hx hb
        by_cases hltm : m < 4
        · have hltm' : decide ((m : Int) < 4) = true := decide_eq_true (by omega)
          have hgz := HLI.out.1
          obtain ⟨py, Y, cy, y0, hY, hly⟩ := HLI.out.2 m hltm
          have HY := Lib.hid hY
          clear hY
          go_wp2_with fail
          refine (hT.same X Y px py cx cy _ (by omega) (by omega) HX.out HY.out).mono ?_
          rintro e v1 ⟨rfl, hb⟩
          have HLI1 := Lib.hid (HLI.out.low hb)
          have HX1 := Lib.hid (HX.out.low hb)
          have HY1 := Lib.hid (HY.out.low hb)
          have HB1 := Lib.hid (below_next HB.out hb)
          clear hb HLI HX HY HB y0 hgz
          go_wp2_with fail
          refine (rsamebag_any X Y px py cx cy _ (by omega) (by omega) HX1.out HY1.out).mono ?_
          rintro e v2 ⟨rfl, hb⟩
          have HLI2 := Lib.hid (HLI1.out.low hb)
          have HX2 := Lib.hid (HX1.out.low hb)
          have HY2 := Lib.hid (HY1.out.low hb)
          have HB2 := Lib.hid (below_next HB1.out hb)
          clear hb HLI1 HX1 HY1 HB1
          have hnn : ∀ a : Bool, (a != a) = false := fun a => bne_self_eq_false a
          generalize decide (srt X = srt Y) = sb
          have hsb := hnn sb
          clear hnn
          go_wp2_with fail
          refine (hT.minus X Y px py cx cy _ (by omega) (by omega) HX2.out HY2.out).mono ?_
          rintro e v3 ⟨pd, cd, rfl, hd, hb⟩
          have HLI3 := Lib.hid (HLI2.out.low hb)
          have HX3 := Lib.hid (HX2.out.low hb)
          have HY3 := Lib.hid (HY2.out.low hb)
          have HB3 := Lib.hid (below_next HB2.out hb)
          have HD3 := Lib.hid hd
          clear hb hd HLI2 HX2 HY2 HB2
          go_wp2_with fail
          refine (rminus_any X Y px py cx cy _ (by omega) (by omega) HX3.out HY3.out).mono ?_
          rintro e v4 ⟨pe, ce, rfl, hd, hb⟩
          have HLI4 := Lib.hid (HLI3.out.low hb)
          have HX4 := Lib.hid (HX3.out.low hb)
          have HY4 := Lib.hid (HY3.out.low hb)
          have HB4 := Lib.hid (below_next HB3.out hb)
          have HD4 := Lib.hid (HD3.out.low hb)
          have HE4 := Lib.hid hd
          clear hb hd HLI3 HX3 HY3 HB3 HD3
          have hml := minR_le X Y
          go_wp2_with fail
          refine (sametuples_any (minR X Y) (minR X Y) pd pe cd ce _ (by omega) HD4.out HE4.out).mono ?_
          rintro e v5 ⟨rfl, hb⟩
          have HLI5 := Lib.hid (HLI4.out.low hb)
          have HX5 := Lib.hid (HX4.out.low hb)
          have HY5 := Lib.hid (HY4.out.low hb)
          have HB5 := Lib.hid (below_next HB4.out hb)
          rw [show decide (minR X Y = minR X Y) = true from decide_eq_true rfl]
          clear hb HLI4 HX4 HY4 HB4 HD4 HE4 hml
          go_wp2_with fail
          go_loopw [68] (fun i v => ∃ j : Nat, j ≤ Y.length ∧ i = .int .i64 j ∧ ListsAt v g ∧ RowsAt v px X ∧ RowsAt v py Y ∧ Below w.heap.size w v) (fun i _ => Y.length - (intOf i).toNat)
          case atStart => exact ⟨0, Nat.zero_le _, rfl, HLI5.out, HX5.out, HY5.out, HB5.out⟩
          clear HLI5 HX5 HY5 HB5
          case round =>
            obtain ⟨j, hj, rfl, hli, hx, hy, hb⟩ := hrel
            have HLI := Lib.hid hli
            have HX := Lib.hid hx
            have HY := Lib.hid hy
            have HB := Lib.hid hb
            clear hli hx hy hb
            by_cases hltj : j < Y.length
            · have hltj' : decide ((j : Int) < Y.length) = true := decide_eq_true (by omega)
              obtain ⟨c, o, q, cp, rfl, hc, r0, hr, hs, -⟩ := HY.out j hltj
              have HR := Lib.hid hr
              have ht63 : (rAt Y j).length ≤ 9223372036854775807 := by omega
              clear hr
              go_wp2_with fail
              refine (hT.count X px cx (rAt Y j) q cp _ (by omega) hs HX.out HR.out).mono ?_
              rintro e v6 ⟨rfl, hb⟩
              have HLI6 := Lib.hid (HLI.out.low hb)
              have HX6 := Lib.hid (HX.out.low hb)
              have HY6 := Lib.hid (HY.out.low hb)
              have HR6 := Lib.hid (HR.out.low hb)
              have HB6 := Lib.hid (below_next HB.out hb)
              clear hb HLI HX HY HB HR r0 hc
              go_wp2_with fail
              refine (rcount_any X px cx (rAt Y j) q cp _ (by omega) ht63 HX6.out HR6.out).mono ?_
              rintro e v7 ⟨rfl, hb⟩
              have HLI7 := Lib.hid (HLI6.out.low hb)
              have HX7 := Lib.hid (HX6.out.low hb)
              have HY7 := Lib.hid (HY6.out.low hb)
              have HB7 := Lib.hid (below_next HB6.out hb)
              clear hb HLI6 HX6 HY6 HB6 HR6
              go_wp2_with fail
              go_roundw
              case rel => exact ⟨j + 1, by omega, by go_num, HLI7.out, HX7.out, HY7.out, HB7.out⟩
              case measure => simp [intOf]; omega
            · obtain rfl : j = Y.length := by omega
              have hltj' : decide ((Y.length : Int) < Y.length) = false := decide_eq_false (by omega)
              go_wp2_with fail
              go_roundw
              case rel => exact ⟨m + 1, by omega, by go_num, HLI.out, HX.out, HB.out⟩
              case measure => simp [intOf]; omega
        · obtain rfl : m = 4 := by omega
          have HS1 := Lib.hid (fun (u : World) (hu : RowsAt u px X) => hT.sort X px cx u (by omega) hu)
          have HS2 := Lib.hid (fun (u : World) (hu : RowsAt u px X) => rsorted_any X px cx u (by omega) hu)
          have hsl := srt_length X
          unfold SortedPost at HS1 HS2
          generalize srt X = S at HS1 HS2 hsl
          have hs63 : S.length ≤ 9223372036854775807 := by omega
          clear hsl
          go_wp2_with fail
          refine (HS1.out _ HX.out).mono ?_
          rintro e v1 ⟨ps, cs, rfl, hs, -, hb⟩
          have HLI1 := Lib.hid (HLI.out.low hb)
          have HX1 := Lib.hid (HX.out.low hb)
          have HP1 := Lib.hid hs
          have HB1 := Lib.hid (below_next HB.out hb)
          clear hb hs HLI HX HB
          go_wp2_with fail
          refine (HS2.out _ HX1.out).mono ?_
          rintro e v2 ⟨pt, ct, rfl, hs, -, hb⟩
          have HLI2 := Lib.hid (HLI1.out.low hb)
          have HP2 := Lib.hid (HP1.out.low hb)
          have HQ2 := Lib.hid hs
          have HB2 := Lib.hid (below_next HB1.out hb)
          clear hb hs HLI1 HX1 HB1 HP1
          go_wp2_with fail
          refine (sametuples_any S S ps pt cs ct _ hs63 HP2.out HQ2.out).mono ?_
          rintro e v3 ⟨rfl, hb⟩
          have HLI3 := Lib.hid (HLI2.out.low hb)
          have HB3 := Lib.hid (below_next HB2.out hb)
          rw [show decide (S = S) = true from decide_eq_true rfl]
          clear hb HLI2 HB2 HP2 HQ2
          go_wp2_with fail
          go_roundw
          case rel => exact ⟨k + 1, by omega, by go_num, HLI3.out, HB3.out⟩
          case measure => simp [intOf]; omega
    · obtain rfl : k = 4 := by omega
      go_wp2_with fail
      refine (known5_any hT _).mono ?_
      rintro e v1 ⟨rfl, hb⟩
      have HB1 := Lib.hid (below_next HB.out hb)
      clear hb
      go_wp2_with fail
      go_ret
      exact ⟨rfl, HB1.out⟩
end Go.Proofs.YtlgagibmndbimaaDoor
