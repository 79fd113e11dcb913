/-
  Several texts in one.
-/
import Derived.Test.YtgaihglploedaaaDoorPk08
import Derived.Test.YtgaihglploedaaaDoorPk07
import Derived.Test.YtgaihglploedaaaDoorPk06
import Derived.Test.YtgaihglploedaaaDoorPk03
import Derived.Deep.RegionHeld3
/-
  THE STATEMENT TupleBags, as a walk.
-/
namespace Go.Proofs.YtgaihglploedaaaDoor
set_option maxRecDepth 100000
open Go.RowKit
variable {ls : List Nat}

/-- The lists of rows, in an array. -/
def ListsAt (u : World) (g : Nat) : Prop := g < u.heap.size ∧ ∀ i, i < 4 → ∃ (p : Option Addr) (L : List (List Val)) (c : Nat), u.cell? ⟨g, i, none⟩ = some (.slice p L.length c) ∧ RowsAt u p L ∧ L.length ≤ 30
theorem ListsAt.low {u v : World} {g : Nat} (h : ListsAt u g) (hb : Below u.heap.size u v) : ListsAt v g :=
  ⟨Nat.lt_of_lt_of_le h.1 hb.size, fun i hi => by obtain ⟨p, L, c, h0, h1, h2⟩ := h.2 i hi; exact ⟨p, L, c, by rw [hb.cell (by exact h.1)]; exact h0, h1.low hb, h2⟩⟩
theorem lists_new {u : World} {p0 p1 p2 p3 : Option Addr} {L0 L1 L2 L3 : List (List Val)} {c0 c1 c2 c3 : Nat} (h0 : RowsAt u p0 L0) (h1 : RowsAt u p1 L1) (h2 : RowsAt u p2 L2) (h3 : RowsAt u p3 L3) (l0 : L0.length ≤ 30) (l1 : L1.length ≤ 30) (l2 : L2.length ≤ 30) (l3 : L3.length ≤ 30) (t : TypeId) :
    ListsAt (u.alloc (.cells #[.slice p0 L0.length c0, .slice p1 L1.length c1, .slice p2 L2.length c2, .slice p3 L3.length c3] t)) u.heap.size := by
  refine ⟨by go_simp, fun i hi => ?_⟩
  match i, hi with
  | 0, _ => exact ⟨p0, L0, c0, by go_simp, h0.new _, l0⟩
  | 1, _ => exact ⟨p1, L1, c1, by go_simp, h1.new _, l1⟩
  | 2, _ => exact ⟨p2, L2, c2, by go_simp, h2.new _, l2⟩
  | 3, _ => exact ⟨p3, L3, c3, by go_simp, h3.new _, l3⟩

set_option maxRecDepth 100000 in
set_option maxHeartbeats 8000000 in
theorem tbags_walk (hT : TupleDoes) (w : World) (p0 : Option Addr) (L0 : List (List Val)) (c0 : Nat) (p1 : Option Addr) (L1 : List (List Val)) (c1 : Nat) (h0 : RowsAt w p0 L0) (h1 : RowsAt w p1 L1) (p : Option Addr) (len cap : Nat) (hl : len ≤ cap) (hm : len ≤ 9223372036854775807) (h : IntsAt w p len) (hE : Env ls w) (hlw : 1 ∈ ls) :
    Calls Tryd.prog 4 #[.slice p0 L0.length c0, .slice p1 L1.length c1, .slice p len cap] w fun e w' => e = .returned (.bool true) ∧ Below w.heap.size w w' := by
  have HI := Lib.hid h
  have H0 := Lib.hid h0
  have H1 := Lib.hid h1
  clear h h0 h1
  have hz8 := hE.size
  go_enter Tryd.func4, Tryd.ntmps4
  by_cases hl0 : 30 < L0.length
  · have hd0 : decide (30 < L0.length) = true := decide_eq_true hl0
    go_wp2_with fail
    refine (known5_any hT _).mono ?_
    rintro e w1 ⟨rfl, hb⟩
    have HB := Lib.hid hb
    clear hb
    go_wp2_with fail
    go_ret
    exact ⟨rfl, HB.out⟩
  have hd0 : decide (30 < L0.length) = false := decide_eq_false hl0
  by_cases hl1 : 30 < L1.length
  · have hd1 : decide (30 < L1.length) = true := decide_eq_true hl1
    go_wp2_with fail
    refine (known5_any hT _).mono ?_
    rintro e w1 ⟨rfl, hb⟩
    have HB := Lib.hid hb
    clear hb
    go_wp2_with fail
    go_ret
    exact ⟨rfl, HB.out⟩
  have hd1 : decide (30 < L1.length) = false := decide_eq_false hl1
  go_wp2_with fail
  refine (new_any w p len cap hl hm HI.out).mono ?_
  rintro e w1 ⟨b, rfl, hb0, ht, hb1⟩
  have hE1 := hE.low hb1
  have h8b : 3 ≤ b := by omega
  have hbw : b ≠ 1 := by omega
  have hbB : b < w1.heap.size := ht.lt
  go_wp2_with fail
  refine (rows_any b 7 w1 (by omega) hbw ht (hE1.words hlw)).mono ?_
  rintro e w2 ⟨va, GA, rfl, hGA, hna, ht2, hs2⟩
  have hE2 := hE1.step hs2 h8b
  have hB2 := hb1.trans (hs2.below hb0 hb1.size)
  have hbB2 : b < w2.heap.size := ht2.lt
  have HGA := Lib.hid hGA
  clear HI hE ht hE1 hb1 hGA
  go_wp2_with fail
  refine (rows_any b 7 w2 (by omega) hbw ht2 (hE2.words hlw)).mono ?_
  rintro e w3 ⟨vb, GB, rfl, hGB, hnb, ht3, hs3⟩
  have hB3 := hB2.trans (hs3.below hb0 hB2.size)
  have HA3 := Lib.hid (HGA.out.step hbB hs3).bag
  have HBB3 := Lib.hid hGB.bag
  have hla : (GA.map (·.2)).length ≤ 30 := by rw [List.length_map]; omega
  have hlb : (GB.map (·.2)).length ≤ 30 := by rw [List.length_map]; omega
  have HB3 := Lib.hid hB3
  clear ht2 hE2 hB2 hGB ht3 hs3 hs2 HGA hB3 hna hnb
  generalize GA.map (·.2) = LA at *
  generalize GB.map (·.2) = LB at *
  generalize GA.map (·.1) = xa at *
  generalize GB.map (·.1) = xb at *
  obtain ⟨pa, ca, rfl⟩ := HA3.out.shape
  obtain ⟨pb, cb, rfl⟩ := HBB3.out.shape
  have h0' : L0.length ≤ 30 := by omega
  have h1' : L1.length ≤ 30 := by omega
  have h03 : RowsAt w3 p0 L0 := by intro i hi; obtain ⟨c, o, q, cp, hp, hc, k0, k1, k2, k3⟩ := H0.out i hi; exact ⟨c, o, q, cp, hp, Nat.lt_of_lt_of_le hc HB3.out.size, by rw [HB3.out.cell (by exact hc)]; exact k0, k1.low HB3.out, k2, k3⟩
  have h13 : RowsAt w3 p1 L1 := by intro i hi; obtain ⟨c, o, q, cp, hp, hc, k0, k1, k2, k3⟩ := H1.out i hi; exact ⟨c, o, q, cp, hp, Nat.lt_of_lt_of_le hc HB3.out.size, by rw [HB3.out.cell (by exact hc)]; exact k0, k1.low HB3.out, k2, k3⟩
  have HLI := Lib.hid (lists_new (c0 := c0) (c1 := c1) (c2 := ca) (c3 := cb) h03 h13 HA3.out.rows HBB3.out.rows h0' h1' hla hlb 39)
  have HB4 := Lib.hid (below_new HB3.out (.cells #[.slice p0 L0.length c0, .slice p1 L1.length c1, .slice pa LA.length ca, .slice pb LB.length cb] 39))
  clear h03 h13 H0 H1 HA3 HBB3 HB3
  go_wp2_with fail
  generalize w3.heap.size = g at *
  go_loopw [39] (fun i v => ∃ k : Nat, k ≤ 4 ∧ i = .int .i64 k ∧ ListsAt v g ∧ Below w.heap.size w v) (fun i _ => 4 - (intOf i).toNat)
  case atStart => exact ⟨0, Nat.zero_le _, rfl, HLI.out, HB4.out⟩
  clear HLI HB4
  case round =>
    obtain ⟨k, hk, rfl, hli, hb⟩ := hrel
    have HLI := Lib.hid hli
    have HB := Lib.hid hb
    clear hli hb
    by_cases hlt : k < 4
    · have hlt' : decide ((k : Int) < 4) = true := decide_eq_true (by omega)
      have hgz := HLI.out.1
      obtain ⟨px, X, cx, x0, hX, hlx⟩ := HLI.out.2 k hlt
      have HX := Lib.hid hX
      clear hX
      go_wp2_with fail
      go_loopw [45] (fun i v => ∃ m : Nat, m ≤ 4 ∧ i = .int .i64 m ∧ ListsAt v g ∧ RowsAt v px X ∧ Below w.heap.size w v) (fun i _ => 4 - (intOf i).toNat)
      case atStart => exact ⟨0, Nat.zero_le _, rfl, HLI.out, HX.out, HB.out⟩
      clear HLI HX HB x0 hgz
      case round =>
        obtain ⟨m, hm4, rfl, hli, hx, hb⟩ := hrel
        have HLI := Lib.hid hli
        have HX := Lib.hid hx
        have HB := Lib.hid hb
        clear hli hx hb
        by_cases hltm : m < 4
        · have hltm' : decide ((m : Int) < 4) = true := decide_eq_true (by omega)
          have hgz := HLI.out.1
          obtain ⟨py, Y, cy, y0, hY, hly⟩ := HLI.out.2 m hltm
          have HY := Lib.hid hY
          clear hY
          go_wp2_with fail
          refine (hT.same X Y px py cx cy _ (by omega) (by omega) HX.out HY.out).mono ?_
          rintro e v1 ⟨rfl, hb⟩
          have HLI1 := Lib.hid (HLI.out.low hb)
          have HX1 := Lib.hid (HX.out.low hb)
          have HY1 := Lib.hid (HY.out.low hb)
          have HB1 := Lib.hid (below_next HB.out hb)
          clear hb HLI HX HY HB y0 hgz
          go_wp2_with fail
          refine (rsamebag_any X Y px py cx cy _ (by omega) (by omega) HX1.out HY1.out).mono ?_
          rintro e v2 ⟨rfl, hb⟩
          have HLI2 := Lib.hid (HLI1.out.low hb)
          have HX2 := Lib.hid (HX1.out.low hb)
          have HY2 := Lib.hid (HY1.out.low hb)
          have HB2 := Lib.hid (below_next HB1.out hb)
          clear hb HLI1 HX1 HY1 HB1
          have hnn : ∀ a : Bool, (a != a) = false := fun a => bne_self_eq_false a
          generalize decide (srt X = srt Y) = sb
          have hsb := hnn sb
          clear hnn
          go_wp2_with fail
          refine (hT.minus X Y px py cx cy _ (by omega) (by omega) HX2.out HY2.out).mono ?_
          rintro e v3 ⟨pd, cd, rfl, hd, hb⟩
          have HLI3 := Lib.hid (HLI2.out.low hb)
          have HX3 := Lib.hid (HX2.out.low hb)
          have HY3 := Lib.hid (HY2.out.low hb)
          have HB3 := Lib.hid (below_next HB2.out hb)
          have HD3 := Lib.hid hd
          clear hb hd HLI2 HX2 HY2 HB2
          go_wp2_with fail
          refine (rminus_any X Y px py cx cy _ (by omega) (by omega) HX3.out HY3.out).mono ?_
          rintro e v4 ⟨pe, ce, rfl, hd, hb⟩
          have HLI4 := Lib.hid (HLI3.out.low hb)
          have HX4 := Lib.hid (HX3.out.low hb)
          have HY4 := Lib.hid (HY3.out.low hb)
          have HB4 := Lib.hid (below_next HB3.out hb)
          have HD4 := Lib.hid (HD3.out.low hb)
          have HE4 := Lib.hid hd
          clear hb hd HLI3 HX3 HY3 HB3 HD3
          have hml := minR_le X Y
          go_wp2_with fail
          refine (sametuples_any (minR X Y) (minR X Y) pd pe cd ce _ (by omega) HD4.out HE4.out).mono ?_
          rintro e v5 ⟨rfl, hb⟩
          have HLI5 := Lib.hid (HLI4.out.low hb)
          have HX5 := Lib.hid (HX4.out.low hb)
          have HY5 := Lib.hid (HY4.out.low hb)
          have HB5 := Lib.hid (below_next HB4.out hb)
          rw [show decide (minR X Y = minR X Y) = true from decide_eq_true rfl]
          clear hb HLI4 HX4 HY4 HB4 HD4 HE4 hml
          go_wp2_with fail
          go_loopw [68] (fun i v => ∃ j : Nat, j ≤ Y.length ∧ i = .int .i64 j ∧ ListsAt v g ∧ RowsAt v px X ∧ RowsAt v py Y ∧ Below w.heap.size w v) (fun i _ => Y.length - (intOf i).toNat)
          case atStart => exact ⟨0, Nat.zero_le _, rfl, HLI5.out, HX5.out, HY5.out, HB5.out⟩
          clear HLI5 HX5 HY5 HB5
          case round =>
            obtain ⟨j, hj, rfl, hli, hx, hy, hb⟩ := hrel
            have HLI := Lib.hid hli
            have HX := Lib.hid hx
            have HY := Lib.hid hy
            have HB := Lib.hid hb
            clear hli hx hy hb
            by_cases hltj : j < Y.length
            · have hltj' : decide ((j : Int) < Y.length) = true := decide_eq_true (by omega)
              obtain ⟨c, o, q, cp, rfl, hc, r0, hr, hs, -⟩ := HY.out j hltj
              have HR := Lib.hid hr
              have ht63 : (rAt Y j).length ≤ 9223372036854775807 := by omega
              clear hr
              go_wp2_with fail
              refine (hT.count X px cx (rAt Y j) q cp _ (by omega) hs HX.out HR.out).mono ?_
              rintro e v6 ⟨rfl, hb⟩
              have HLI6 := Lib.hid (HLI.out.low hb)
              have HX6 := Lib.hid (HX.out.low hb)
              have HY6 := Lib.hid (HY.out.low hb)
              have HR6 := Lib.hid (HR.out.low hb)
              have HB6 := Lib.hid (below_next HB.out hb)
              clear hb HLI HX HY HB HR r0 hc
              go_wp2_with fail
              refine (rcount_any X px cx (rAt Y j) q cp _ (by omega) ht63 HX6.out HR6.out).mono ?_
              rintro e v7 ⟨rfl, hb⟩
              have HLI7 := Lib.hid (HLI6.out.low hb)
              have HX7 := Lib.hid (HX6.out.low hb)
              have HY7 := Lib.hid (HY6.out.low hb)
              have HB7 := Lib.hid (below_next HB6.out hb)
              clear hb HLI6 HX6 HY6 HB6 HR6
              go_wp2_with fail
              go_roundw
              case rel => exact ⟨j + 1, by omega, by go_num, HLI7.out, HX7.out, HY7.out, HB7.out⟩
              case measure => simp [intOf]; omega
            · obtain rfl : j = Y.length := by omega
              have hltj' : decide ((Y.length : Int) < Y.length) = false := decide_eq_false (by omega)
              go_wp2_with fail
              go_roundw
              case rel => exact ⟨m + 1, by omega, by go_num, HLI.out, HX.out, HB.out⟩
              case measure => simp [intOf]; omega
        · obtain rfl : m = 4 := by omega
          have HS1 := Lib.hid (fun (u : World) (hu : RowsAt u px X) => hT.sort X px cx u (by omega) hu)
          have HS2 := Lib.hid (fun (u : World) (hu : RowsAt u px X) => rsorted_any X px cx u (by omega) hu)
          have hsl := srt_length X
          unfold SortedPost at HS1 HS2
          generalize srt X = S at HS1 HS2 hsl
          have hs63 : S.length ≤ 9223372036854775807 := by omega
          clear hsl
          go_wp2_with fail
          refine (HS1.out _ HX.out).mono ?_
          rintro e v1 ⟨ps, cs, rfl, hs, -, hb⟩
          have HLI1 := Lib.hid (HLI.out.low hb)
          have HX1 := Lib.hid (HX.out.low hb)
          have HP1 := Lib.hid hs
          have HB1 := Lib.hid (below_next HB.out hb)
          clear hb hs HLI HX HB
          go_wp2_with fail
          refine (HS2.out _ HX1.out).mono ?_
          rintro e v2 ⟨pt, ct, rfl, hs, -, hb⟩
          have HLI2 := Lib.hid (HLI1.out.low hb)
          have HP2 := Lib.hid (HP1.out.low hb)
          have HQ2 := Lib.hid hs
          have HB2 := Lib.hid (below_next HB1.out hb)
          clear hb hs HLI1 HX1 HB1 HP1
          go_wp2_with fail
          refine (sametuples_any S S ps pt cs ct _ hs63 HP2.out HQ2.out).mono ?_
          rintro e v3 ⟨rfl, hb⟩
          have HLI3 := Lib.hid (HLI2.out.low hb)
          have HB3 := Lib.hid (below_next HB2.out hb)
          rw [show decide (S = S) = true from decide_eq_true rfl]
          clear hb HLI2 HB2 HP2 HQ2
          go_wp2_with fail
          go_roundw
          case rel => exact ⟨k + 1, by omega, by go_num, HLI3.out, HB3.out⟩
          case measure => simp [intOf]; omega
    · obtain rfl : k = 4 := by omega
      go_wp2_with fail
      refine (known5_any hT _).mono ?_
      rintro e v1 ⟨rfl, hb⟩
      have HB1 := Lib.hid (below_next HB.out hb)
      clear hb
      go_wp2_with fail
      go_ret
      exact ⟨rfl, HB1.out⟩
end Go.Proofs.YtgaihglploedaaaDoor
/-
  Fits, of the program and of the reference.
-/
namespace Go.Proofs.YtgaihglploedaaaDoor
set_option maxRecDepth 100000
open Go.RowKit
variable {ls : List Nat}

theorem four_three {w w' : World} {a b c d x y z : Value} {t t' : TypeId} (hb : Below ((w.alloc (.cells #[a, b, c, d] t)).alloc (.cells #[x, y, z] t')).heap.size ((w.alloc (.cells #[a, b, c, d] t)).alloc (.cells #[x, y, z] t')) w') :
    Cell4 w' w.heap.size a b c d ∧ Cell3 w' (w.heap.size + 1) x y z ∧ Below w.heap.size w w' :=
  ⟨((cell4_new _ _ _ _ _ _).low (below_alloc _ _)).low hb, ((cell3_new _ _ _ _ _).low hb).at (size_alloc _ _), Below.of_alloc (Below.of_alloc hb)⟩
theorem fitsE_bad {ty k n : Int} {nn : Bool} {s : ByteArray} (h : validB k n s = false) : fitsE ty nn k n s = 17 := by unfold fitsE; rw [h]; rfl
theorem fitsE_free {ty n : Int} {s : ByteArray} (h : validB 0 n s = true) : fitsE ty false 0 n s = 0 := by unfold fitsE; rw [h]; rfl
theorem fitsE_null {ty n : Int} {s : ByteArray} (h : validB 0 n s = true) : fitsE ty true 0 n s = 8 := by unfold fitsE; rw [h]; rfl
theorem fitsE_type {ty k n : Int} {nn : Bool} {s : ByteArray} (h : validB k n s = true) (h0 : ¬ k = 0) (ht : (k == ty) = false) : fitsE ty nn k n s = 5 := by
  unfold fitsE; rw [h, if_pos rfl, if_neg h0, if_neg (beq_eq_false_iff_ne.1 ht)]
theorem fitsE_ok {k n : Int} {nn : Bool} {s : ByteArray} (h : validB k n s = true) (h0 : ¬ k = 0) : fitsE k nn k n s = 0 := by
  unfold fitsE; rw [h, if_pos rfl, if_neg h0, if_pos rfl]
theorem val_eq {k n : Int} {s : ByteArray} {b : Bool} (hs : s.size ≤ 9223372036854775807) (h : validB k n s = b) (w : World) : Calls Tryd.prog 96 #[.agg #[.int .i64 k, .int .i64 n, .string s]] w fun e w' => e = .returned (.bool b) ∧ Below w.heap.size w w' := by
  subst h; exact valid_any k n s w hs
theorem rval_eq {k n : Int} {s : ByteArray} {b : Bool} (hs : s.size ≤ 9223372036854775807) (h : validB k n s = b) (w : World) : Calls Tryd.prog 97 #[.agg #[.int .i64 k, .int .i64 n, .string s]] w fun e w' => e = .returned (.bool b) ∧ Below w.heap.size w w' := by
  subst h; exact rvalid_any k n s w hs
set_option maxHeartbeats 1000000 in
theorem fits_any (c : Col) (k n : Int) (s : ByteArray) (w : World) (hs : s.size ≤ 9223372036854775807) :
    Calls Tryd.prog 56 #[colV c, .agg #[.int .i64 k, .int .i64 n, .string s]] w fun e w' => e = .returned (.int .i64 (fitsE c.ty c.nn k n s)) ∧ Below w.heap.size w w' := by
  unfold colV
  obtain ⟨nm, ty, nn, key⟩ := c
  cases hv : validB k n s
  · have HV := Lib.hid hv
    clear hv
    go_enter Tryd.func56, Tryd.ntmps56
    go_wp2_with fail
    refine (val_eq hs HV.out _).mono ?_
    rintro e w1 ⟨rfl, hb⟩
    obtain ⟨⟨hz, c0, c1, c2, c3, fz⟩, ⟨dz, d0, d1, d2, dfz⟩, hb'⟩ := four_three hb
    have HB := Lib.hid hb'
    clear hb hb'
    go_wp2
    go_ret
    exact ⟨ret_int (fitsE_bad HV.out).symm, HB.out⟩
  have HV := Lib.hid hv
  clear hv
  by_cases hk : k = 0
  · subst hk
    cases nn
    · skip
      go_enter Tryd.func56, Tryd.ntmps56
      go_wp2_with fail
      refine (val_eq hs HV.out _).mono ?_
      rintro e w1 ⟨rfl, hb⟩
      obtain ⟨⟨hz, c0, c1, c2, c3, fz⟩, ⟨dz, d0, d1, d2, dfz⟩, hb'⟩ := four_three hb
      have HB := Lib.hid hb'
      clear hb hb'
      go_wp2
      go_ret
      exact ⟨ret_int (fitsE_free HV.out).symm, HB.out⟩
    · skip
      go_enter Tryd.func56, Tryd.ntmps56
      go_wp2_with fail
      refine (val_eq hs HV.out _).mono ?_
      rintro e w1 ⟨rfl, hb⟩
      obtain ⟨⟨hz, c0, c1, c2, c3, fz⟩, ⟨dz, d0, d1, d2, dfz⟩, hb'⟩ := four_three hb
      have HB := Lib.hid hb'
      clear hb hb'
      go_wp2
      go_ret
      exact ⟨ret_int (fitsE_null HV.out).symm, HB.out⟩
  have hk0 : (k == 0) = false := beq_eq_false_iff_ne.2 hk
  have HK := Lib.hid hk
  cases ht : (k == ty)
  · have HT := Lib.hid ht
    have hne : ¬ k = ty := beq_eq_false_iff_ne.1 ht
    have hb1 : (k != 0) = true := bne_iff_ne.2 hk
    have hb2 : (k != ty) = true := bne_iff_ne.2 hne
    go_enter Tryd.func56, Tryd.ntmps56
    go_wp2_with fail
    refine (val_eq hs HV.out _).mono ?_
    rintro e w1 ⟨rfl, hb⟩
    obtain ⟨⟨hz, c0, c1, c2, c3, fz⟩, ⟨dz, d0, d1, d2, dfz⟩, hb'⟩ := four_three hb
    have HB := Lib.hid hb'
    clear hb hb'
    go_wp2
    go_ret
    exact ⟨ret_int (fitsE_type HV.out HK.out HT.out).symm, HB.out⟩
  · have HT := Lib.hid ht
    have hne : k = ty := beq_iff_eq.1 ht
    subst hne
    go_enter Tryd.func56, Tryd.ntmps56
    go_wp2_with fail
    refine (val_eq hs HV.out _).mono ?_
    rintro e w1 ⟨rfl, hb⟩
    obtain ⟨⟨hz, c0, c1, c2, c3, fz⟩, ⟨dz, d0, d1, d2, dfz⟩, hb'⟩ := four_three hb
    have HB := Lib.hid hb'
    clear hb hb'
    go_wp2
    go_ret
    exact ⟨ret_int (fitsE_ok HV.out HK.out).symm, HB.out⟩
set_option maxHeartbeats 1000000 in
theorem rfits_any (c : Col) (k n : Int) (s : ByteArray) (w : World) (hs : s.size ≤ 9223372036854775807) :
    Calls Tryd.prog 59 #[colV c, .agg #[.int .i64 k, .int .i64 n, .string s]] w fun e w' => e = .returned (.int .i64 (fitsE c.ty c.nn k n s)) ∧ Below w.heap.size w w' := by
  unfold colV
  obtain ⟨nm, ty, nn, key⟩ := c
  cases hv : validB k n s
  · have HV := Lib.hid hv
    clear hv
    go_enter Tryd.func59, Tryd.ntmps59
    go_wp2_with fail
    refine (rval_eq hs HV.out _).mono ?_
    rintro e w1 ⟨rfl, hb⟩
    obtain ⟨⟨hz, c0, c1, c2, c3, fz⟩, ⟨dz, d0, d1, d2, dfz⟩, hb'⟩ := four_three hb
    have HB := Lib.hid hb'
    clear hb hb'
    go_wp2
    go_ret
    exact ⟨ret_int (fitsE_bad HV.out).symm, HB.out⟩
  have HV := Lib.hid hv
  clear hv
  by_cases hk : k = 0
  · subst hk
    cases nn
    · skip
      go_enter Tryd.func59, Tryd.ntmps59
      go_wp2_with fail
      refine (rval_eq hs HV.out _).mono ?_
      rintro e w1 ⟨rfl, hb⟩
      obtain ⟨⟨hz, c0, c1, c2, c3, fz⟩, ⟨dz, d0, d1, d2, dfz⟩, hb'⟩ := four_three hb
      have HB := Lib.hid hb'
      clear hb hb'
      go_wp2
      go_ret
      exact ⟨ret_int (fitsE_free HV.out).symm, HB.out⟩
    · skip
      go_enter Tryd.func59, Tryd.ntmps59
      go_wp2_with fail
      refine (rval_eq hs HV.out _).mono ?_
      rintro e w1 ⟨rfl, hb⟩
      obtain ⟨⟨hz, c0, c1, c2, c3, fz⟩, ⟨dz, d0, d1, d2, dfz⟩, hb'⟩ := four_three hb
      have HB := Lib.hid hb'
      clear hb hb'
      go_wp2
      go_ret
      exact ⟨ret_int (fitsE_null HV.out).symm, HB.out⟩
  have hk0 : (k == 0) = false := beq_eq_false_iff_ne.2 hk
  have HK := Lib.hid hk
  cases ht : (k == ty)
  · have HT := Lib.hid ht
    have hne : ¬ k = ty := beq_eq_false_iff_ne.1 ht
    have hb1 : (k != 0) = true := bne_iff_ne.2 hk
    have hb2 : (k != ty) = true := bne_iff_ne.2 hne
    go_enter Tryd.func59, Tryd.ntmps59
    go_wp2_with fail
    refine (rval_eq hs HV.out _).mono ?_
    rintro e w1 ⟨rfl, hb⟩
    obtain ⟨⟨hz, c0, c1, c2, c3, fz⟩, ⟨dz, d0, d1, d2, dfz⟩, hb'⟩ := four_three hb
    have HB := Lib.hid hb'
    clear hb hb'
    go_wp2
    go_ret
    exact ⟨ret_int (fitsE_type HV.out HK.out HT.out).symm, HB.out⟩
  · have HT := Lib.hid ht
    have hne : k = ty := beq_iff_eq.1 ht
    subst hne
    go_enter Tryd.func59, Tryd.ntmps59
    go_wp2_with fail
    refine (rval_eq hs HV.out _).mono ?_
    rintro e w1 ⟨rfl, hb⟩
    obtain ⟨⟨hz, c0, c1, c2, c3, fz⟩, ⟨dz, d0, d1, d2, dfz⟩, hb'⟩ := four_three hb
    have HB := Lib.hid hb'
    clear hb hb'
    go_wp2
    go_ret
    exact ⟨ret_int (fitsE_ok HV.out HK.out).symm, HB.out⟩
end Go.Proofs.YtgaihglploedaaaDoor
/-
  Boxes of columns; columns behind a call that turns one block.
-/
namespace Go.Proofs.YtgaihglploedaaaDoor
set_option maxRecDepth 100000
open Go.RowKit
variable {ls : List Nat}

/-- A box with a column. -/
def ColBox (u : World) (X : Nat) (c : Col) : Prop :=
  X < u.heap.size ∧ u.cell? ⟨X, 0, none⟩ = some (.string c.nm) ∧ u.cell? ⟨X, 1, none⟩ = some (.int .i64 c.ty) ∧ u.cell? ⟨X, 2, none⟩ = some (.bool c.nn) ∧ u.cell? ⟨X, 3, none⟩ = some (.bool c.key)
theorem ColBox.low {u v : World} {X : Nat} {c : Col} (h : ColBox u X c) (hb : Below u.heap.size u v) : ColBox v X c :=
  ⟨Nat.lt_of_lt_of_le h.1 hb.size, by rw [hb.cell (by exact h.1)]; exact h.2.1, by rw [hb.cell (by exact h.1)]; exact h.2.2.1, by rw [hb.cell (by exact h.1)]; exact h.2.2.2.1, by rw [hb.cell (by exact h.1)]; exact h.2.2.2.2⟩
theorem ColBox.new (u : World) (c : Col) (t : TypeId) : ColBox (u.alloc (.cells #[.string c.nm, .int .i64 c.ty, .bool c.nn, .bool c.key] t)) u.heap.size c := by
  refine ⟨by simp, ?_, ?_, ?_, ?_⟩
  all_goals go_simp
theorem ColBox.step {u v : World} {X b : Nat} {c : Col} (h : ColBox u X c) (hs : StepT b u v) (hn : X ≠ b) : ColBox v X c :=
  ⟨Nat.lt_of_lt_of_le h.1 hs.size, by rw [hs.cell (by exact h.1) (by exact hn)]; exact h.2.1, by rw [hs.cell (by exact h.1) (by exact hn)]; exact h.2.2.1, by rw [hs.cell (by exact h.1) (by exact hn)]; exact h.2.2.2.1, by rw [hs.cell (by exact h.1) (by exact hn)]; exact h.2.2.2.2⟩
theorem BoxAt.step {u v : World} {X b : Nat} {x : Int × Int × ByteArray} (h : BoxAt u X x) (hs : StepT b u v) (hn : X ≠ b) : BoxAt v X x :=
  ⟨Nat.lt_of_lt_of_le h.1 hs.size, by rw [hs.cell (by exact h.1) (by exact hn)]; exact h.2.1, by rw [hs.cell (by exact h.1) (by exact hn)]; exact h.2.2.1, by rw [hs.cell (by exact h.1) (by exact hn)]; exact h.2.2.2⟩
theorem ColsAt.step {u v : World} {b n : Nat} {p : Option Addr} {f : Nat → Col} (h : ColsAt u p n f) (hs : StepT b u v) (hn : ∀ q, p = some q → q.block ≠ b) : ColsAt v p n f := by
  intro i hi
  obtain ⟨c, o, hp, hc, hsz, h0, h1, h2, h3⟩ := h i hi
  have hne := hn _ hp
  have hk := hs.block c hc hne
  exact ⟨c, o, hp, Nat.lt_of_lt_of_le hc hs.size, hsz, by rw [World.cell?_of_block (w := u) hk]; exact h0, by rw [World.cell?_of_block (w := u) hk]; exact h1, by rw [World.cell?_of_block (w := u) hk]; exact h2, by rw [World.cell?_of_block (w := u) hk]; exact h3⟩

theorem ColsAt.at0 {u : World} {L n i : Nat} {f : Nat → Col} (h : ColsAt u (some ⟨L, 0, none⟩) n f) (hi : i < n) : L < u.heap.size ∧ (f i).nm.size ≤ 9223372036854775807
    ∧ u.cell? ⟨L, i * 4, none⟩ = some (.string (f i).nm) ∧ u.cell? ⟨L, i * 4 + 1, none⟩ = some (.int .i64 (f i).ty) ∧ u.cell? ⟨L, i * 4 + 2, none⟩ = some (.bool (f i).nn) ∧ u.cell? ⟨L, i * 4 + 3, none⟩ = some (.bool (f i).key) := by
  obtain ⟨c, o, hp, hc, hs, h0, h1, h2, h3⟩ := h i hi
  cases hp
  rw [Nat.zero_add] at h0 h1 h2 h3
  exact ⟨hc, hs, h0, h1, h2, h3⟩
end Go.Proofs.YtgaihglploedaaaDoor
/-
  Fits of rows: what it answers; the reference's.
-/
namespace Go.Proofs.YtgaihglploedaaaDoor
set_option maxRecDepth 100000
open Go.RowKit
variable {ls : List Nat}

def fitE (f : Nat → Col) (l : List Val) (i : Nat) : Int := fitsE (f i).ty (f i).nn (vAt l i).1 (vAt l i).2.1 (vAt l i).2.2
/-- What Fits answers for a row. -/
def fitsRow (f : Nat → Col) (n : Nat) (l : List Val) : Int := if l.length = n then (match (List.range n).find? (fun i => decide (fitE f l i ≠ 0)) with | some i => fitE f l i | none => 0) else 17
theorem fitsRow_len {f : Nat → Col} {n : Nat} {l : List Val} (h : ¬ l.length = n) : fitsRow f n l = 17 := by unfold fitsRow; rw [if_neg h]
theorem fitsRow_hit {f : Nat → Col} {n i : Nat} {l : List Val} (h : l.length = n) (hi : i < n) (he : ¬ fitE f l i = 0) (hj : ∀ j, j < i → fitE f l j = 0) : fitsRow f n l = fitE f l i := by
  unfold fitsRow
  rw [if_pos h]
  have : (List.range n).find? (fun i => decide (fitE f l i ≠ 0)) = some i := List.find?_range_eq_some.2 ⟨decide_eq_true he, List.mem_range.2 hi, fun j hji => by rw [hj j hji]; rfl⟩
  rw [this]
theorem fitsRow_ok {f : Nat → Col} {n : Nat} {l : List Val} (h : l.length = n) (hj : ∀ j, j < n → fitE f l j = 0) : fitsRow f n l = 0 := by
  unfold fitsRow
  rw [if_pos h]
  have : (List.range n).find? (fun i => decide (fitE f l i ≠ 0)) = none := List.find?_range_eq_none.2 fun j hji => by rw [hj j hji]; rfl
  rw [this]
/-- Texts of a row that Go could hold. -/
def ValsSized (l : List Val) : Prop := ∀ i, i < l.length → (vAt l i).2.2.size ≤ 9223372036854775807

theorem keepRF {W u v : World} {X c o : Nat} {a : Col} {b : Val} {k : Nat} {p q : Option Addr} {n : Nat} {f : Nat → Col} {l : List Val} {nm : ByteArray} {R : Nat} {sv : Value} (hb : Below u.heap.size u v)
    (h : u.cell? ⟨X, 0, none⟩ = some (.string a.nm) ∧ u.cell? ⟨X, 1, none⟩ = some (.int .i64 a.ty) ∧ u.cell? ⟨X, 2, none⟩ = some (.bool a.nn) ∧ u.cell? ⟨X, 3, none⟩ = some (.bool a.key) ∧ u.cell? ⟨c, o + k * 3, none⟩ = some (.int .i64 b.1) ∧ u.cell? ⟨c, o + k * 3 + 1, none⟩ = some (.int .i64 b.2.1) ∧ u.cell? ⟨c, o + k * 3 + 2, none⟩ = some (.string b.2.2) ∧ X < u.heap.size ∧ c < u.heap.size ∧ ColsAt u p n f ∧ RowAt u q l ∧ Cell2 u R (.string nm) sv ∧ Below W.heap.size W u) :
    v.cell? ⟨X, 0, none⟩ = some (.string a.nm) ∧ v.cell? ⟨X, 1, none⟩ = some (.int .i64 a.ty) ∧ v.cell? ⟨X, 2, none⟩ = some (.bool a.nn) ∧ v.cell? ⟨X, 3, none⟩ = some (.bool a.key) ∧ v.cell? ⟨c, o + k * 3, none⟩ = some (.int .i64 b.1) ∧ v.cell? ⟨c, o + k * 3 + 1, none⟩ = some (.int .i64 b.2.1) ∧ v.cell? ⟨c, o + k * 3 + 2, none⟩ = some (.string b.2.2) ∧ X < v.heap.size ∧ c < v.heap.size ∧ ColsAt v p n f ∧ RowAt v q l ∧ Cell2 v R (.string nm) sv ∧ Below W.heap.size W v := by
  obtain ⟨h0, h1, h2, h3, h4, h5, h6, hx, hc, hco, hr, h7, hB⟩ := h
  exact ⟨by rw [hb.cell (by exact hx)]; exact h0, by rw [hb.cell (by exact hx)]; exact h1, by rw [hb.cell (by exact hx)]; exact h2, by rw [hb.cell (by exact hx)]; exact h3, by rw [hb.cell (by exact hc)]; exact h4, by rw [hb.cell (by exact hc)]; exact h5, by rw [hb.cell (by exact hc)]; exact h6, Nat.lt_of_lt_of_le hx hb.size, Nat.lt_of_lt_of_le hc hb.size, hco.low hb, hr.low hb, h7.low hb, below_next hB hb⟩

set_option maxRecDepth 100000 in
set_option maxHeartbeats 2000000 in
theorem rrowfits_any (nm : ByteArray) (p : Option Addr) (n cap : Nat) (f : Nat → Col) (q : Option Addr) (l : List Val) (cq : Nat) (w : World) (hn : n ≤ 9223372036854775807) (hC : ColsAt w p n f) (hR : RowAt w q l) (hS : ValsSized l) :
    Calls Tryd.prog 18 #[schV nm p n cap, .slice q l.length cq] w fun e w' => e = .returned (.int .i64 (fitsRow f n l)) ∧ Below w.heap.size w w' := by
  unfold schV
  have HC := Lib.hid (hC.low (below_alloc w (.cells #[.string nm, .slice p n cap] 24)))
  have HR := Lib.hid (hR.low (below_alloc w (.cells #[.string nm, .slice p n cap] 24)))
  have HB := Lib.hid (below_alloc w (.cells #[.string nm, .slice p n cap] 24))
  have HX := Lib.hid (cell2_new w (.string nm) (.slice p n cap) 24)
  have HS := Lib.hid hS
  clear hC hR hS
  by_cases hln : l.length = n
  · have hlI : ((l.length : Int) != (n : Int)) = false := by simp [hln]
    have HLN := Lib.hid hln
    have hle : l.length ≤ n := by omega
    have hge : n ≤ l.length := by omega
    clear hln
    go_enter Tryd.func18, Tryd.ntmps18
    go_wp2_with fail
    go_loopw [17] (fun i v => ∃ k : Nat, k ≤ n ∧ i = .int .i64 k ∧ (∀ j, j < k → fitE f l j = 0) ∧ ColsAt v p n f ∧ RowAt v q l ∧ Cell2 v w.heap.size (.string nm) (.slice p n cap) ∧ Below w.heap.size w v) (fun i _ => n - (intOf i).toNat)
    case atStart => exact ⟨0, Nat.zero_le _, rfl, fun j hj => by omega, HC.out, HR.out, HX.out, HB.out⟩
    clear HC HR HX HB
    case round =>
      obtain ⟨k, hk, rfl, heq, hc0, hr0, hx0, hb0⟩ := hrel
      have HEQ := Lib.hid heq
      have HC := Lib.hid hc0
      have HR := Lib.hid hr0
      have HX := Lib.hid hx0
      have HB := Lib.hid hb0
      clear heq hb0 hx0
      by_cases hlt : k < n
      · have hlt' : decide ((k : Int) < n) = true := decide_eq_true (by omega)
        have hkl : k < l.length := by omega
        have hkI : (k : Int) < (l.length : Int) := by omega
        obtain ⟨c, o, rfl, hc, hsz, c0, c1, c2, c3⟩ := hc0 k hlt
        obtain ⟨c', o', rfl, hc', r0, r1, r2⟩ := hr0 k hkl
        clear hc0 hr0
        go_wp2_with fail
        have hb1 := below_alloc wr (.cells #[.string (f k).nm, .int .i64 (f k).ty, .bool (f k).nn, .bool (f k).key] 75)
        have HC1 := Lib.hid (HC.out.low hb1)
        have HR1 := Lib.hid (HR.out.low hb1)
        have HX1 := Lib.hid (HX.out.low hb1)
        have HB1 := Lib.hid (below_next HB.out hb1)
        obtain ⟨xz, x0, x1, x2, x3⟩ := ColBox.new wr (f k) 75
        have r0' : (wr.alloc (.cells #[.string (f k).nm, .int .i64 (f k).ty, .bool (f k).nn, .bool (f k).key] 75)).cell? ⟨c', o' + k * 3, none⟩ = some (.int .i64 (vAt l k).1) := by rw [hb1.cell (by exact hc')]; exact r0
        have r1' : (wr.alloc (.cells #[.string (f k).nm, .int .i64 (f k).ty, .bool (f k).nn, .bool (f k).key] 75)).cell? ⟨c', o' + k * 3 + 1, none⟩ = some (.int .i64 (vAt l k).2.1) := by rw [hb1.cell (by exact hc')]; exact r1
        have r2' : (wr.alloc (.cells #[.string (f k).nm, .int .i64 (f k).ty, .bool (f k).nn, .bool (f k).key] 75)).cell? ⟨c', o' + k * 3 + 2, none⟩ = some (.string (vAt l k).2.2) := by rw [hb1.cell (by exact hc')]; exact r2
        have hc2' := Nat.lt_of_lt_of_le hc' hb1.size
        clear HC HR HX HB hb1 c0 c1 c2 c3 r0 r1 r2 hc hc'
        generalize wr.alloc _ = W1 at HC1 HR1 HX1 HB1 xz x0 x1 x2 x3 r0' r1' r2' hc2' ⊢
        generalize wr.heap.size = X at xz x0 x1 x2 x3 ⊢
        go_region_held3 (fun u => u.cell? ⟨X, 0, none⟩ = some (.string (f k).nm) ∧ u.cell? ⟨X, 1, none⟩ = some (.int .i64 (f k).ty) ∧ u.cell? ⟨X, 2, none⟩ = some (.bool (f k).nn) ∧ u.cell? ⟨X, 3, none⟩ = some (.bool (f k).key) ∧ u.cell? ⟨c', o' + k * 3, none⟩ = some (.int .i64 (vAt l k).1) ∧ u.cell? ⟨c', o' + k * 3 + 1, none⟩ = some (.int .i64 (vAt l k).2.1) ∧ u.cell? ⟨c', o' + k * 3 + 2, none⟩ = some (.string (vAt l k).2.2) ∧ X < u.heap.size ∧ c' < u.heap.size ∧ ColsAt u (some ⟨c, o, none⟩) n f ∧ RowAt u (some ⟨c', o', none⟩) l ∧ Cell2 u w.heap.size (.string nm) (.slice (some ⟨c, o, none⟩) n cap) ∧ Below w.heap.size w u)
          (first
            | exact ⟨x0, x1, x2, x3, r0', r1', r2', xz, hc2', HC1.out, HR1.out, ⟨HX1.out.lt, HX1.out.c0, HX1.out.c1, HX1.out.fz⟩, HB1.out.drew⟩
            | exact keepRF hbq (by assumption))
          (first
            | (go_at_call 59; refine (rfits_any (f k) _ _ _ _ (HS.out k hkl)).mono ?_; rintro e wq ⟨rfl, hbq⟩))
        rename_i hHeld
        obtain ⟨-, -, -, -, -, -, -, -, -, hc5, hr5, hx5, hb5⟩ := hHeld
        clear xz x0 x1 x2 x3 r0' r1' r2' hc2' HC1 HR1 HX1 HB1 hbq
        cases hz : (fitE f l k != 0)
        · have hz' : (fitsE (f k).ty (f k).nn (vAt l k).1 (vAt l k).2.1 (vAt l k).2.2 != 0) = false := hz
          have HZ : Hid (fitE f l k = 0) := Lib.hid (by simpa using hz)
          go_wp2
          go_roundw
          case rel => exact ⟨k + 1, by omega, by go_num, fun j hj => by
            by_cases hjk : j = k
            · subst hjk; exact HZ.out
            · exact HEQ.out j (by omega), hc5, hr5, hx5, hb5⟩
          case measure => simp [intOf]; omega
        · have hz' : (fitsE (f k).ty (f k).nn (vAt l k).1 (vAt l k).2.1 (vAt l k).2.2 != 0) = true := hz
          have HZ : Hid (¬ fitE f l k = 0) := Lib.hid (bne_iff_ne.1 hz)
          have HB5 := Lib.hid hb5
          go_wp2
          go_ret
          exact ⟨ret_int (fitsRow_hit HLN.out hlt HZ.out HEQ.out).symm, HB5.out⟩
      · have hlt' : decide ((k : Int) < n) = false := decide_eq_false (by omega)
        obtain rfl : k = n := by omega
        clear hc0 hr0
        go_wp2
        go_ret
        exact ⟨ret_int (fitsRow_ok HLN.out HEQ.out).symm, HB.out⟩
  · have hlI : ((l.length : Int) != (n : Int)) = true := bne_iff_ne.2 (by omega)
    have HLN := Lib.hid hln
    clear hln
    go_enter Tryd.func18, Tryd.ntmps18
    go_wp2
    go_ret
    exact ⟨ret_int (fitsRow_len HLN.out).symm, HB.out⟩
end Go.Proofs.YtgaihglploedaaaDoor
