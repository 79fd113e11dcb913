/-
  THE WALK of ArithSums.
-/
import Derived.Test.YtkimoioljcpcoaaArithKnown
import Derived.Test.YtkimoioljcpcoaaNumRow
import Derived.Test.YtkimoioljcpcoaaVals
namespace Go.Proofs.Ytkimoioljcpcoaa
open Go.RowKit

/-- Two slices of numbers in block L. -/
structure Pair (w u : World) (L : Nat) : Prop where
  each : ∀ k, k < 2 → ∃ (p : Option Addr) (n cap : Nat) (f : Nat → Int), u.cell? ⟨L, k, none⟩ = some (.slice p n cap) ∧ n ≤ 17592186044415 ∧ NumsAt u p f n
  below : Below w.heap.size w u
theorem Pair.low {w u v : World} {L : Nat} (h : Pair w u L) (hb : Below u.heap.size u v) : Pair w v L := by
  refine ⟨fun k hk => ?_, onto h.below hb⟩
  obtain ⟨p, n, cap, f, hc, hn, hN⟩ := h.each k hk
  exact ⟨p, n, cap, f, by rw [hb.cell (World.block_lt_of_cell? u _ hc)]; exact hc, hn, hN.low hb⟩
theorem Pair.made {w u : World} {p q : Option Addr} {n m cp cq : Nat} {f g : Nat → Int} {t : TypeId} (hb : Below w.heap.size w u) (hp : NumsAt u p f n) (hn : n ≤ 17592186044415) (hq : NumsAt u q g m) (hm : m ≤ 17592186044415) :
    Pair w (u.alloc (.cells #[.slice p n cp, .slice q m cq] t)) u.heap.size := by
  have h1 : Below u.heap.size u (u.alloc (.cells #[.slice p n cp, .slice q m cq] t)) := (Below.refl _ _).alloc (Nat.le_refl _) _
  refine ⟨fun k hk => ?_, onto hb h1⟩
  rcases (by omega : k = 0 ∨ k = 1) with rfl | rfl
  · exact ⟨p, n, cp, f, by go_simp, hn, hp.low h1⟩
  · exact ⟨q, m, cq, g, by go_simp, hm, hq.low h1⟩

theorem TapeAt.grown {b : Nat} {u v : World} {row : Option Nat} (h : TapeAt u b) (hg : u.grownBy v row) (hr : ∀ k, row = some k → b < k) : TapeAt v b :=
  h.keep (fun k hk => hg.block k (Nat.lt_of_le_of_lt hk h.lt) (fun e => by have := hr k e.symm; omega)) hg.size

theorem StepT.grown {b : Nat} {u v : World} (h : StepT b u v) : u.grownBy v (some b) := ⟨h.os, h.tape, h.output, h.size, fun k hk hb => h.block k hk (fun e => hb (by rw [e]))⟩
theorem NumRow.step {b base n : Nat} {u v : World} {x : Value} {g : Nat → Int} (h : NumRow u base x n g) (hs : StepT b u v) (hb : b < base) : NumRow v base x n g :=
  ⟨h.rng, h.own.kept hs.grown (by
    cases hx : x.ownBlock with
    | none => exact .inl rfl
    | some k => exact .inr (fun e => by have := h.block k hx; have e1 : k = b := Option.some.inj e; omega))⟩
/-- One number more. -/
def extF (g : Nat → Int) (c : Nat) (z : Int) : Nat → Int := fun i => if i < c then g i else z
theorem extF_old (g : Nat → Int) (c : Nat) (z : Int) : ∀ i, i < c → extF g c z i = g i := fun i hi => by unfold extF; exact if_pos hi
theorem extF_new (g : Nat → Int) (c : Nat) (z : Int) : extF g c z c = z := by unfold extF; exact if_neg (Nat.lt_irrefl _)
theorem num_range {z : Int} (h : IsNum z) : -9223372036854775808 ≤ z ∧ z ≤ 9223372036854775807 := by unfold IsNum at h; omega
theorem num_cell (u : World) (g : Nat → Int) (c : Nat) (z : Int) (t : TypeId) : (u.alloc (.cells #[.int .i64 z] t)).cell? ⟨u.heap.size, 0, none⟩ = some (.int .i64 (extF g c z c)) := by rw [extF_new]; go_simp

theorem sum_back (p : Option Addr) (f : Nat → Int) (n cap : Nat) (w : World) (hn : n ≤ 17592186044416) (h : NumsAt w p (fun i => f (n - 1 - i)) n) :
    Calls Try.prog 12 #[.slice p n cap] w fun e w' => e = .returned (.tuple #[.int .i64 (fitI (psum f n)), .bool (fitB (psum f n))]) ∧ w = w' := by
  have := sum_any p _ n cap w hn h
  rw [psum_back] at this
  exact this
theorem back_cell {u : World} {f : Nat → Int} {n m : Nat} {t : TypeId} (h : m < n) : (u.alloc (.cells #[.int .i64 (f m)] t)).cell? ⟨u.heap.size, 0, none⟩ = some (.int .i64 ((fun i => f (n - 1 - i)) (n - (m + 1)))) := by
  have : n - 1 - (n - (m + 1)) = m := by omega
  simp only [this]
  go_simp

theorem back_range {f : Nat → Int} {n m : Nat} (h : m < n) (h1 : -9223372036854775808 ≤ f m) (h2 : f m ≤ 9223372036854775807) : -9223372036854775808 ≤ (fun i => f (n - 1 - i)) (n - (m + 1)) ∧ (fun i => f (n - 1 - i)) (n - (m + 1)) ≤ 9223372036854775807 := by
  have : n - 1 - (n - (m + 1)) = m := by omega
  simp only [this]
  exact ⟨h1, h2⟩
theorem back_next {u : World} {B n m : Nat} {v : Value} {g : Nat → Int} (h : m < n) (hR : NumRow u B v (n - (m + 1) + 1) g) : NumRow u B v (n - m) g := by
  rw [show n - m = n - (m + 1) + 1 by omega]; exact hR

set_option maxHeartbeats 1000000 in
theorem asums_walk (p : Option Addr) (n cap : Nat) (f : Nat → Int) (q : Option Addr) (len ct : Nat) (w : World) (hn : n ≤ 17592186044415) (hN : NumsAt w p f n) (hl : len ≤ ct) (hm : len ≤ 9223372036854775807) (hI : IntsAt w q len) :
    Calls Try.prog 4 #[.slice p n cap, .slice q len ct] w fun e w' => e = .returned (.bool true) ∧ Below w.heap.size w w' := by
  have HI := Lib.hid hI
  have HN := Lib.hid hN
  clear hI hN
  go_enter Try.func4, Try.ntmps4
  go_wp2_with fail
  refine (new_any _ q len ct hl hm HI.out).mono ?_
  rintro e w1 ⟨t, rfl, ht, hT, hb1⟩
  go_wp2_with fail
  refine (next_any t 8 _ (by omega) (by omega) hT).mono ?_
  rintro e w2 ⟨r, rfl, hr0, hr1, hT2, hs2⟩
  have HB2 := Lib.hid (hb1.trans (hs2.below ht hb1.size))
  have hT2l := hT2.lt
  have HT2 := Lib.hid hT2
  clear hT hb1 hs2 hT2 HI
  go_wp2_with fail
  go_loopw [6, 7] (fun m i v => ∃ (j : Int) (c : Nat) (g : Nat → Int), 0 ≤ j ∧ c + j ≤ 7 ∧ i = .int .i64 j ∧ NumRow v w2.heap.size m c g ∧ TapeAt v t ∧ Below w.heap.size w v ∧ w2.heap.size ≤ v.heap.size) (fun _ i _ => (intOf i).toNat)
  case atStart => exact ⟨r, 0, fun _ => 0, hr0, by omega, rfl, NumRow.nil _ _ _, HT2.out, HB2.out, Nat.le_refl _⟩
  case round =>
    obtain ⟨j, c, g, hj, hcj, rfl, hR, hT, hB, hz⟩ := hrel
    have HR := Lib.hid hR
    have HT := Lib.hid hT
    have HB := Lib.hid hB
    clear hR hT hB HB2 HT2
    by_cases hpos : 0 < j
    · go_wp2_with fail
      refine (number_any t _ HT.out).mono ?_
      rintro e v1 ⟨z, rfl, hz1, hT1, hs1⟩
      have HR1 := Lib.hid (((HR.out.step hs1 hT2l).alloc (.cells #[.int .i64 z] 2)).congr (extF_old g c z))
      have HC1 := Lib.hid (num_cell v1 g c z 2)
      have HZ1 : Hid (w2.heap.size ≤ (v1.alloc (.cells #[.int .i64 z] 2)).heap.size) := Lib.hid (by have := hs1.size; simp; omega)
      have HG1 : Hid (-9223372036854775808 ≤ extF g c z c ∧ extF g c z c ≤ 9223372036854775807) := Lib.hid (by rw [extF_new]; exact num_range hz1)
      go_wp2_with (at_builtin; refine wpList_append_num rfl (.tmp 26) (.tmp 29) rfl w2.heap.size _ c (extF g c z) rfl HR1.out v1.heap.size rfl HC1.out HG1.out ?_ HZ1.out ?_; (omega); (intro v' w' hR2 hg2))
      go_roundw
      case rel => exact ⟨j - 1, c + 1, extF g c z, by omega, by omega, rfl, hR2, (hT1.alloc _).grown hg2 (fun k hk => Nat.lt_of_lt_of_le hT2l (HR1.out.block k hk)), num_below ((HB.out.trans (hs1.below ht HB.out.size)).alloc (Nat.le_trans HB.out.size hs1.size) _) (by have := HB.out.size; have := hs1.size; simp; omega) hg2 (fun k hk => by have := HR1.out.block k hk; omega), Nat.le_trans HZ1.out hg2.size⟩
      case measure => simp [intOf]; omega
    · have hneg : decide (0 < j) = false := decide_eq_false hpos
      obtain ⟨pm, cm, rfl, hM⟩ := HR.out.nums
      have HP := Lib.hid (Pair.made (cp := cap) (cq := cm) (t := 27) HB.out (HN.out.low HB.out) hn hM (by omega))
      clear HR hM HT
      go_wp2_with fail
      generalize wr.heap.size = L at *
      generalize wr.alloc (.cells #[.slice p n cap, .slice pm c cm] 27) = u0 at *
      go_loopw [35] (fun i u => ∃ k : Nat, k ≤ 2 ∧ i = .int .i64 k ∧ Pair w u L) (fun i _ => 2 - (intOf i).toNat)
      case atStart => exact ⟨0, by omega, rfl, HP.out⟩
      case round =>
        obtain ⟨k, hk, rfl, hP⟩ := hrel
        by_cases hlt : k < 2
        · have hlt' : decide ((k : Int) < 2) = true := decide_eq_true (by omega)
          obtain ⟨px, nx, cx, fx, hcell, hnx, hNx⟩ := hP.each k hlt
          have HX := Lib.hid hNx
          have HQ := Lib.hid hP
          clear hP HP hNx
          go_wp2_with fail
          generalize wr = ux at *
          go_loopw [10, 11] (fun bk i v => ∃ j : Nat, j ≤ nx ∧ i = .int .i64 ((j : Int) - 1) ∧ NumRow v ux.heap.size bk (nx - j) (fun i => fx (nx - 1 - i)) ∧ Below ux.heap.size ux v) (fun _ i _ => (intOf i + 1).toNat)
          case atStart => exact ⟨nx, Nat.le_refl _, rfl, by rw [Nat.sub_self]; exact NumRow.nil _ _ _, Below.refl _ _⟩
          case round =>
            obtain ⟨j, hj, rfl, hR, hB⟩ := hrel
            have HR := Lib.hid hR
            have HS := Lib.hid hB
            clear hR hB
            rcases j with _ | m
            · have e1 : (((0 : Nat) : Int) - 1) = -1 := rfl
              rw [e1]
              clear e1
              obtain ⟨pb, cb, rfl, hNb⟩ := HR.out.nums
              rw [Nat.sub_zero] at hNb
              have HNb := Lib.hid hNb
              clear hNb HR
              go_wp2_with fail
              refine (sum_any px fx nx cx _ (by omega) (HX.out.low HS.out)).mono ?_
              rintro e v2 ⟨rfl, rfl⟩
              go_wp2_with fail
              refine (rsum_any px fx nx cx _ (by omega) (HX.out.low HS.out)).mono ?_
              rintro e v3 ⟨rfl, hb3⟩
              go_wp2_with fail
              refine (sum_back pb fx nx cb _ (by omega) (HNb.out.low hb3)).mono ?_
              rintro e v4 ⟨rfl, rfl⟩
              go_wp2
              go_roundw
              case rel => exact ⟨k + 1, by omega, by go_num, (HQ.out.low HS.out).low hb3⟩
              case measure => simp [intOf]; omega
            · have e1 : (((m + 1 : Nat) : Int) - 1) = (m : Int) := by omega
              rw [e1]
              clear e1
              have hm0 : decide ((m : Int) ≥ 0) = true := decide_eq_true (by omega)
              have hmn : m < nx := by omega
              obtain ⟨cc, oo, rfl, hcl, hf1, hf2⟩ := HX.out.low HS.out m hmn
              have HR1 := Lib.hid (HR.out.alloc (.cells #[.int .i64 (fx m)] 2))
              have HC1 := Lib.hid (back_cell (u := wr) (f := fx) (t := 2) hmn)
              have HG1 := Lib.hid (back_range hmn hf1 hf2)
              have HZ1 : Hid (ux.heap.size ≤ (wr.alloc (.cells #[.int .i64 (fx m)] 2)).heap.size) := Lib.hid (by have := HS.out.size; simp; omega)
              go_wp2_with (at_builtin; refine wpList_append_num rfl (.tmp 46) (.tmp 51) rfl ux.heap.size _ (nx - (m + 1)) (fun i => fx (nx - 1 - i)) rfl HR1.out wr.heap.size rfl HC1.out HG1.out ?_ HZ1.out ?_; (omega); (intro v' w' hR2 hg2))
              go_roundw
              case rel => exact ⟨m, by omega, rfl, back_next hmn hR2, num_below (HS.out.alloc HS.out.size _) HZ1.out hg2 (fun k hk => HR1.out.block k hk)⟩
              case measure => simp [intOf]
        · have hlt' : decide ((k : Int) < 2) = false := decide_eq_false (by omega)
          have HQ := Lib.hid hP.below
          clear hP HP
          go_wp2_with fail
          refine (known_any _).mono ?_
          rintro e v2 ⟨rfl, hb⟩
          go_wp2
          go_ret
          exact ⟨rfl, onto HQ.out hb⟩
end Go.Proofs.Ytkimoioljcpcoaa
