/-
  THE WALK of ArithForms.
-/
import Derived.Test.YtkimoioljcpcoaaArithKnown
import Derived.Test.YtkimoioljcpcoaaArithRef2
import Derived.Test.YtkimoioljcpcoaaVals
namespace Go.Proofs.Ytkimoioljcpcoaa
open Go.RowKit

section
variable (a b : Int) (w : World)
set_option maxHeartbeats 1000000 in
theorem aalike_any (ha : -9223372036854775808 ≤ a) (ha' : a ≤ 9223372036854775807) (hb : -9223372036854775808 ≤ b) (hb' : b ≤ 9223372036854775807) :
    Calls Try.prog 9 #[.int .i64 a, .int .i64 b] w fun e w' => e = .returned (.bool true) ∧ Below w.heap.size w w' := by
  by_cases h0 : b = 0
  · subst h0
    go_enter Try.func9, Try.ntmps9
    go_wp2_with fail
    refine (add_any a 0 _ ha ha' hb hb').mono ?_
    rintro e w' ⟨rfl, rfl⟩
    go_wp2_with fail
    refine (radd_any a 0 _ ha ha' hb hb').mono ?_
    rintro e w1 ⟨rfl, h1⟩
    go_wp2_with fail
    refine (sub_any a 0 _ ha ha' hb hb').mono ?_
    rintro e w' ⟨rfl, rfl⟩
    go_wp2_with fail
    refine (rsub_any a 0 _ ha ha' hb hb').mono ?_
    rintro e w2 ⟨rfl, h2⟩
    go_wp2_with fail
    refine (mul_any a 0 _ ha ha' hb hb').mono ?_
    rintro e w' ⟨rfl, rfl⟩
    go_wp2_with fail
    refine (rmul_any a 0 _ ha ha' hb hb').mono ?_
    rintro e w3 ⟨rfl, h3⟩
    go_wp2_with fail
    refine (div_zero a _).mono ?_
    rintro e w' ⟨rfl, rfl⟩
    go_wp2_with fail
    refine (rdiv_zero a _).mono ?_
    rintro e w4 ⟨rfl, h4⟩
    go_wp2_with fail
    refine (rem_zero a _).mono ?_
    rintro e w' ⟨rfl, rfl⟩
    go_wp2_with fail
    refine (rrem_zero a _).mono ?_
    rintro e w5 ⟨rfl, h5⟩
    go_wp2_with fail
    refine (neg_any a _ ha ha').mono ?_
    rintro e w' ⟨rfl, rfl⟩
    go_wp2_with fail
    refine (rneg_any a _ ha ha').mono ?_
    rintro e w6 ⟨rfl, h6⟩
    go_wp2
    go_ret
    exact ⟨rfl, onto (onto (onto (onto (onto h1 h2) h3) h4) h5) h6⟩
  · go_enter Try.func9, Try.ntmps9
    go_wp2_with fail
    refine (add_any a b _ ha ha' hb hb').mono ?_
    rintro e w' ⟨rfl, rfl⟩
    go_wp2_with fail
    refine (radd_any a b _ ha ha' hb hb').mono ?_
    rintro e w1 ⟨rfl, h1⟩
    go_wp2_with fail
    refine (sub_any a b _ ha ha' hb hb').mono ?_
    rintro e w' ⟨rfl, rfl⟩
    go_wp2_with fail
    refine (rsub_any a b _ ha ha' hb hb').mono ?_
    rintro e w2 ⟨rfl, h2⟩
    go_wp2_with fail
    refine (mul_any a b _ ha ha' hb hb').mono ?_
    rintro e w' ⟨rfl, rfl⟩
    go_wp2_with fail
    refine (rmul_any a b _ ha ha' hb hb').mono ?_
    rintro e w3 ⟨rfl, h3⟩
    go_wp2_with fail
    refine (div_any a b _ ha ha' hb hb' h0).mono ?_
    rintro e w' ⟨rfl, rfl⟩
    go_wp2_with fail
    refine (rdiv_any a b _ ha ha' hb hb' h0).mono ?_
    rintro e w4 ⟨rfl, h4⟩
    go_wp2_with fail
    refine (rem_any a b _ h0).mono ?_
    rintro e w' ⟨rfl, rfl⟩
    go_wp2_with fail
    refine (rrem_any a b _ ha ha' hb hb' h0).mono ?_
    rintro e w5 ⟨rfl, h5⟩
    go_wp2_with fail
    refine (neg_any a _ ha ha').mono ?_
    rintro e w' ⟨rfl, rfl⟩
    go_wp2_with fail
    refine (rneg_any a _ ha ha').mono ?_
    rintro e w6 ⟨rfl, h6⟩
    go_wp2
    go_ret
    exact ⟨rfl, onto (onto (onto (onto (onto h1 h2) h3) h4) h5) h6⟩
end

theorem NumsAt.low {u v : World} {p : Option Addr} {f : Nat → Int} {n : Nat} (h : NumsAt u p f n) (hb : Below u.heap.size u v) : NumsAt v p f n := fun i hi => by
  obtain ⟨c, o, hp, hc, h1⟩ := h i hi
  exact ⟨c, o, hp, by rw [hb.cell (World.block_lt_of_cell? u _ hc)]; exact hc, h1⟩

/-- The numbers of the list. -/
def elevF (a b x y : Int) : Nat → Int
  | 0 => a
  | 1 => b
  | 2 => a / 4294967296
  | 3 => b / 8589934592
  | 4 => x
  | 5 => y
  | 6 => 0
  | 7 => 1
  | 8 => -1
  | 9 => -9223372036854775808
  | _ => 9223372036854775807

theorem elev_at (a b x y : Int) (w : World) (ha : -9223372036854775808 ≤ a ∧ a ≤ 9223372036854775807) (hb : -9223372036854775808 ≤ b ∧ b ≤ 9223372036854775807) (hx : IsNum x) (hy : IsNum y) :
    NumsAt (w.alloc (.cells #[.int .i64 a, .int .i64 b, .int .i64 (a / 4294967296), .int .i64 (b / 8589934592), .int .i64 x, .int .i64 y, .int .i64 0, .int .i64 1, .int .i64 (-1), .int .i64 (-9223372036854775808), .int .i64 9223372036854775807] 2)) (some ⟨w.heap.size, 0, none⟩) (elevF a b x y) 11 := by
  intro i hi
  unfold IsNum at hx hy
  rcases (by omega : i = 0 ∨ i = 1 ∨ i = 2 ∨ i = 3 ∨ i = 4 ∨ i = 5 ∨ i = 6 ∨ i = 7 ∨ i = 8 ∨ i = 9 ∨ i = 10) with rfl | rfl | rfl | rfl | rfl | rfl | rfl | rfl | rfl | rfl | rfl
  all_goals refine ⟨w.heap.size, 0, rfl, ?_, ?_, ?_⟩
  all_goals first | (simp [elevF, go_sem]; done) | (simp only [elevF]; omega)

theorem Below.of_step {b B : Nat} {u v : World} (h : StepT b u v) (hB : B ≤ b) (hu : B ≤ u.heap.size) : Below B u v := h.below hB hu
/-- What holds at the head of a round. -/
def ElevAt (w u : World) (L : Nat) (f : Nat → Int) : Prop := NumsAt u (some ⟨L, 0, none⟩) f 11 ∧ Below w.heap.size w u
theorem ElevAt.low {w u v : World} {L : Nat} {f : Nat → Int} (h : ElevAt w u L f) (hb : Below u.heap.size u v) : ElevAt w v L f := ⟨h.1.low hb, onto h.2 hb⟩
theorem ElevAt.get {w u : World} {L : Nat} {f : Nat → Int} (h : ElevAt w u L f) {k : Nat} (hk : k < 11) : u.cell? ⟨L, k, none⟩ = some (.int .i64 (f k)) ∧ -9223372036854775808 ≤ f k ∧ f k ≤ 9223372036854775807 := by
  obtain ⟨c, o, hp, hc, h1⟩ := h.1 k hk
  obtain ⟨rfl, rfl, -⟩ := by simpa using hp
  rw [Nat.zero_add] at hc
  exact ⟨hc, h1⟩

set_option maxHeartbeats 1000000 in
theorem aforms_walk (a b : Int) (p : Option Addr) (len cap : Nat) (w : World) (ha : -9223372036854775808 ≤ a) (ha' : a ≤ 9223372036854775807) (hb : -9223372036854775808 ≤ b) (hb' : b ≤ 9223372036854775807) (hl : len ≤ cap) (hm : len ≤ 9223372036854775807) (hI : IntsAt w p len) :
    Calls Try.prog 3 #[.int .i64 a, .int .i64 b, .slice p len cap] w fun e w' => e = .returned (.bool true) ∧ Below w.heap.size w w' := by
  have HI := Lib.hid hI
  clear hI
  go_enter Try.func3, Try.ntmps3
  go_wp2_with fail
  refine (new_any _ p len cap hl hm HI.out).mono ?_
  rintro e w1 ⟨t, rfl, ht, hT, hb1⟩
  go_wp2_with fail
  refine (number_any t _ hT).mono ?_
  rintro e w2 ⟨x, rfl, hx, hT2, hs2⟩
  go_wp2_with fail
  refine (number_any t _ hT2).mono ?_
  rintro e w3 ⟨y, rfl, hy, hT3, hs3⟩
  go_wp2_with fail
  have HE : ElevAt w _ w3.heap.size (elevF a b x y) := ⟨elev_at a b x y w3 ⟨ha, ha'⟩ ⟨hb, hb'⟩ hx hy, (hb1.trans ((hs2.trans hs3).below ht hb1.size)).alloc (Nat.le_trans hb1.size (hs2.trans hs3).size) _⟩
  generalize w3.heap.size = L at *
  generalize w3.alloc (.cells #[.int .i64 a, .int .i64 b, .int .i64 (a / 4294967296), .int .i64 (b / 8589934592), .int .i64 x, .int .i64 y, .int .i64 0, .int .i64 1, .int .i64 (-1), .int .i64 (-9223372036854775808), .int .i64 9223372036854775807] 2) = u at *
  generalize elevF a b x y = f at *
  clear ht hT hb1 hx hT2 hs2 hy hT3 hs3 HI ha ha' hb hb'
  go_loopw [28] (fun i v => ∃ k : Nat, k ≤ 11 ∧ i = .int .i64 k ∧ ElevAt w v L f) (fun i _ => 11 - (intOf i).toNat)
  case atStart => exact ⟨0, by omega, rfl, HE⟩
  case round =>
    obtain ⟨k, hk, rfl, HK⟩ := hrel
    rename_i v
    by_cases hlt : k < 11
    · have ht : decide ((k : Int) < 11) = true := decide_eq_true (by omega)
      obtain ⟨hc, h1, h2⟩ := HK.get hlt
      have HH := Lib.hid HK
      clear HK HE
      go_wp2_with fail
      clear hc
      go_loopw [34] (fun i v => ∃ j : Nat, j ≤ 11 ∧ i = .int .i64 j ∧ ElevAt w v L f) (fun i _ => 11 - (intOf i).toNat)
      case atStart => exact ⟨0, by omega, rfl, HH.out⟩
      case round =>
        obtain ⟨j, hj, rfl, HJ⟩ := hrel
        by_cases hjt : j < 11
        · have htj : decide ((j : Int) < 11) = true := decide_eq_true (by omega)
          obtain ⟨hc, g1, g2⟩ := HJ.get hjt
          have HG := Lib.hid HJ
          clear HJ HH
          go_wp2_with fail
          refine (aalike_any (f k) (f j) _ h1 h2 g1 g2).mono ?_
          rintro e v2 ⟨rfl, hb⟩
          go_wp2
          go_roundw
          case rel => exact ⟨j + 1, by omega, by go_num, HG.out.low hb⟩
          case measure => simp [intOf]; omega
        · have htj : decide ((j : Int) < 11) = false := decide_eq_false (by omega)
          have HG := Lib.hid HJ
          clear HJ HH
          go_wp2
          go_roundw
          case rel => exact ⟨k + 1, by omega, by go_num, HG.out⟩
          case measure => simp [intOf]; omega
    · have ht : decide ((k : Int) < 11) = false := decide_eq_false (by omega)
      have HB := Lib.hid HK.2
      clear HK HE
      go_wp2_with fail
      refine (known_any _).mono ?_
      rintro e v2 ⟨rfl, hb⟩
      go_wp2
      go_ret
      exact ⟨rfl, onto HB.out hb⟩
end Go.Proofs.Ytkimoioljcpcoaa
