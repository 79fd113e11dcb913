/-
  Several texts in one.
-/
import Derived.Test.YtgaihglploedaaaDoorPk18
import Derived.Test.YtgaihglploedaaaDoorPk14
import Derived.Test.YtgaihglploedaaaDoorPk01
import Derived.Test.YtgaihglploedaaaDoorPk17
import Derived.Test.YtgaihglploedaaaDoorPk08
import Derived.Test.YtgaihglploedaaaDoorPk12
/-
  Tables: Valid and New of the reference.
-/
namespace Go.Proofs.YtgaihglploedaaaDoor
set_option maxRecDepth 100000
open Go.RowKit
variable {ls : List Nat}

theorem rowfits_agg (nm : ByteArray) (p : Option Addr) (n cap : Nat) (f : Nat → Col) (q : Option Addr) (l : List Val) (cq : Nat) (w : World) (hn : n ≤ 9223372036854775807) (hC : ColsAt w p n f) (hR : RowAt w q l) (hS : ValsSized l) :
    Calls Tryd.prog 18 #[.agg #[.string nm, .slice p n cap], .slice q l.length cq] w fun e w' => e = .returned (.int .i64 (fitsRow f n l)) ∧ Below w.heap.size w w' := by
  have := rrowfits_any nm p n cap f q l cq w hn hC hR hS
  unfold schV at this
  exact this
theorem not_ok_lo {f : Nat → Col} {n : Nat} {nx : Int} {R : List TRow} {i : Nat} (h : (tAt R i).1 < 1) : ¬ RowOK f n nx R i := fun hc => by have := hc.1; omega
theorem not_ok_hi {f : Nat → Col} {n : Nat} {nx : Int} {R : List TRow} {i : Nat} (h : nx ≤ (tAt R i).1) : ¬ RowOK f n nx R i := fun hc => by have := hc.2.1; omega
theorem not_ok_prev {f : Nat → Col} {n : Nat} {nx : Int} {R : List TRow} {i : Nat} (hi : 0 < i) (h : (tAt R i).1 ≤ (tAt R (i - 1)).1) : ¬ RowOK f n nx R i := fun hc => by have := hc.2.2.1 hi; omega
theorem not_ok_fit {f : Nat → Col} {n : Nat} {nx : Int} {R : List TRow} {i : Nat} (h : ¬ fitsRow f n (tAt R i).2 = 0) : ¬ RowOK f n nx R i := fun hc => h hc.2.2.2
set_option maxHeartbeats 2000000 in
theorem rtvalid_any (T : Tab) (w : World) (hT : TabAt w T) :
    Calls Tryd.prog 72 #[T.v] w fun e w' => e = .returned (.bool T.valid) ∧ Below w.heap.size w w' := by
  have HT := Lib.hid hT
  obtain ⟨nm, pc, n, cc, f, nx, pr, cr, R⟩ := T
  obtain ⟨hnm, hn, hC, hR, hl, hz⟩ := hT
  unfold Tab.v Tab.valid
  dsimp only at *
  have HR := Lib.hid hR
  have HZ := Lib.hid hz
  have hb0 : Below w.heap.size w (w.alloc (.cells #[.string nm, .slice pc n cc, .int .i64 nx, .slice pr R.length cr] 51)) := below_new (Below.refl _ _) _
  have HC := Lib.hid (hC.low hb0)
  have HX := Lib.hid (cell4_new w (.string nm) (.slice pc n cc) (.int .i64 nx) (.slice pr R.length cr) 51)
  have HB0 := Lib.hid hb0
  clear hC hR hz hb0
  go_enter Tryd.func72, Tryd.ntmps72
  go_wp2_with fail
  refine (rsvalid_any nm pc n cc f _ hnm hn HC.out).mono ?_
  rintro e w1 ⟨rfl, hb1⟩
  have HX1 := Lib.hid (HX.out.low hb1)
  have HC1 := Lib.hid (HC.out.low hb1)
  have HB1 := Lib.hid (below_next HB0.out hb1)
  obtain ⟨hxl, x0, x1, x2, x3, -⟩ := HX1.out
  clear HC HX HB0 hb1
  cases hso : schemaOK nm n f
  · have HV := Lib.hid (validT_schema (nx := nx) (R := R) hso)
    go_wp2
    go_ret
    exact ⟨ret_b HV.out.symm, HB1.out⟩
  · have HSO := Lib.hid hso
    by_cases hh : R.length ≤ 100 ∧ 1 ≤ nx ∧ nx ≤ 2147483648
    · have HH := Lib.hid hh
      have g1 : decide ((100 : Int) < (R.length : Int)) = false := decide_eq_false (by omega)
      have g2 : decide (nx < 1) = false := decide_eq_false (by omega)
      have g3 : decide ((2147483648 : Int) < nx) = false := decide_eq_false (by omega)
      clear hh
      go_wp2_with fail
      go_loopw [28] (fun i v => ∃ k : Nat, k ≤ R.length ∧ i = .int .i64 k ∧ (∀ j, j < k → RowOK f n nx R j) ∧ Cell4 v w.heap.size (.string nm) (.slice pc n cc) (.int .i64 nx) (.slice pr R.length cr) ∧ ColsAt v pc n f ∧ Below w.heap.size w v) (fun i _ => R.length - (intOf i).toNat)
      case atStart => exact ⟨0, Nat.zero_le _, rfl, fun j hj => by omega, HX1.out, HC1.out, HB1.out⟩
      clear HX1 HC1 HB1 x0 x1 x2 x3 hxl
      case round =>
        obtain ⟨k, hk, rfl, hok, hx, hc, hb⟩ := hrel
        have HOK := Lib.hid hok
        have HX := Lib.hid hx
        have HC := Lib.hid hc
        have HB := Lib.hid hb
        clear hok hx hc hb
        by_cases hlt : k < R.length
        · have hlt' : decide ((k : Int) < R.length) = true := decide_eq_true (by omega)
          have HR1 := Lib.hid (HR.out.low HB.out)
          obtain ⟨c, o, q, cp, rfl, hc, h0, h1, hr, hs, hqn⟩ := HR1.out k hlt
          have HQ := Lib.hid hr
          have HPREV : Hid (0 < k → wr.cell? ⟨c, o + (k - 1) * 2, none⟩ = some (.int .i64 (tAt R (k - 1)).1)) := Lib.hid (by
            intro h0k
            obtain ⟨c', o', q', cp', he, hc', h0', -⟩ := HR1.out (k - 1) (by omega)
            cases he
            exact h0')
          clear hr hqn
          go_wp2_with fail
          have hbn := below_alloc wr (.cells #[.int .i64 (tAt R k).1, .slice q (tAt R k).2.length cp] 68)
          have HX2 := Lib.hid (HX.out.low hbn)
          have HC2 := Lib.hid (HC.out.low hbn)
          have HB2 := Lib.hid (below_next HB.out hbn)
          have HQ2 := Lib.hid (HQ.out.low hbn)
          have HR2 := Lib.hid (HR1.out.low hbn)
          have HPREV2 : Hid (0 < k → (wr.alloc (.cells #[.int .i64 (tAt R k).1, .slice q (tAt R k).2.length cp] 68)).cell? ⟨c, o + (k - 1) * 2, none⟩ = some (.int .i64 (tAt R (k - 1)).1)) := Lib.hid (fun h0k => by rw [hbn.cell (by exact hc)]; exact HPREV.out h0k)
          have hXl : wr.heap.size < (wr.alloc (.cells #[.int .i64 (tAt R k).1, .slice q (tAt R k).2.length cp] 68)).heap.size := by simp
          obtain ⟨hxl, x0, x1, x2, x3, -⟩ := HX2.out
          obtain ⟨r0, r1⟩ := row2_new wr (.int .i64 (tAt R k).1) (.slice q (tAt R k).2.length cp) 68
          have hcl : c < (wr.alloc (.cells #[.int .i64 (tAt R k).1, .slice q (tAt R k).2.length cp] 68)).heap.size := Nat.lt_of_lt_of_le hc hbn.size
          clear HX HC HB HQ HR1 HPREV hbn h0 h1 hc
          generalize wr.alloc _ = W2 at HX2 HC2 HB2 HQ2 HR2 HPREV2 hXl hcl hxl x0 x1 x2 x3 r0 r1 ⊢
          generalize wr.heap.size = X at hXl r0 r1 ⊢
          have l0 := lowW_cell (a := ⟨w.heap.size, 0, none⟩) hxl x0
          have l1 := lowW_cell (a := ⟨w.heap.size, 1, none⟩) hxl x1
          have l2 := lowW_cell (a := ⟨w.heap.size, 2, none⟩) hxl x2
          have l3 := lowW_cell (a := ⟨w.heap.size, 3, none⟩) hxl x3
          have m0 := lowW_cell (a := ⟨X, 0, none⟩) hXl r0
          have m1 := lowW_cell (a := ⟨X, 1, none⟩) hXl r1
          by_cases h1 : (tAt R k).1 < 1
          · have e1 : decide ((tAt R k).1 < 1) = true := decide_eq_true h1
            have HV := Lib.hid (validT_row (nm := nm) hlt (not_ok_lo (f := f) (n := n) (nx := nx) h1))
            go_quiet (fail)
            go_wp2
            go_ret
            exact ⟨ret_b HV.out.symm, drewN_low HB2.out _⟩
          · have e1 : decide ((tAt R k).1 < 1) = false := decide_eq_false h1
            by_cases h2 : nx ≤ (tAt R k).1
            · have e2 : decide (nx ≤ (tAt R k).1) = true := decide_eq_true h2
              have HV := Lib.hid (validT_row (nm := nm) hlt (not_ok_hi (f := f) (n := n) (nx := nx) h2))
              go_quiet (fail)
              go_wp2
              go_ret
              exact ⟨ret_b HV.out.symm, drewN_low HB2.out _⟩
            · have e2 : decide (nx ≤ (tAt R k).1) = false := decide_eq_false h2
              by_cases h3 : 0 < k
              · have e3 : decide ((0 : Int) < (k : Int)) = true := decide_eq_true (by omega)
                have e3n : decide (0 < k) = true := decide_eq_true h3
                have hp := HPREV2.out h3
                have hw1 : IntKind.i64.wrap ((k : Int) - 1) = (k : Int) - 1 := i64w (by omega) (by omega)
                have ht1 : ((k : Int) - 1).toNat = k - 1 := by omega
                have hlo : (1 : Int) ≤ (k : Int) := by omega
                have hhi : (k : Int) - 1 < (R.length : Int) := by omega
                by_cases h4 : (tAt R k).1 ≤ (tAt R (k - 1)).1
                · have e4 : decide ((tAt R k).1 ≤ (tAt R (k - 1)).1) = true := decide_eq_true h4
                  have HV := Lib.hid (validT_row (nm := nm) hlt (not_ok_prev (f := f) (n := n) (nx := nx) h3 h4))
                  go_quiet (fail)
                  go_wp2
                  go_ret
                  exact ⟨ret_b HV.out.symm, drewN_low HB2.out _⟩
                · have e4 : decide ((tAt R k).1 ≤ (tAt R (k - 1)).1) = false := decide_eq_false h4
                  have lp := lowW_cell (a := ⟨c, o + (k - 1) * 2, none⟩) hcl hp
                  refine wp_region_low (by kernel_rfl) (by kernel_rfl) ?_
                  repeat (refine wq_step (fun K hK => ?_); go_simp; first | (refine hK _ ?_; clear hK K) | (apply Exists.intro; refine ⟨fun _ => ?_, hK _ ?_⟩; (go_at_call 18; exact Calls.low_of (rowfits_agg nm pc n cc f q (tAt R k).2 cp _ hn (HC2.out.low (lowW_low _ _ _)) (HQ2.out.low (lowW_low _ _ _)) (HZ.out _ (tAt_mem hlt)))); clear hK K))
                  refine wq_nil ?_
                  rintro _ ⟨⟨d3, os3⟩, rfl⟩
                  dsimp only
                  have hlow := lowW_low W2 d3 os3
                  clear lp hp l0 l1 l2 l3 m0 m1 x0 x1 x2 x3 r0 r1 hXl hcl hxl HQ2 HR2 HPREV2
                  generalize lowW W2 d3 os3 = W3 at hlow ⊢
                  have HX3 := Lib.hid (HX2.out.low hlow)
                  have HC3 := Lib.hid (HC2.out.low hlow)
                  have HB3 := Lib.hid (below_next HB2.out hlow)
                  clear hlow HX2 HC2 HB2
                  cases hz : (fitsRow f n (tAt R k).2 != 0)
                  · have HROW : Hid (RowOK f n nx R k) := Lib.hid ⟨by omega, by omega, (fun _ => by omega), by simpa using hz⟩
                    go_wp2
                    go_roundw
                    case rel => exact ⟨k + 1, by omega, by go_num, all_succ HOK.out HROW.out, HX3.out, HC3.out, HB3.out⟩
                    case measure => simp [intOf]; omega
                  · have HV := Lib.hid (validT_row (nm := nm) hlt (not_ok_fit (f := f) (n := n) (nx := nx) (bne_iff_ne.1 hz)))
                    go_wp2
                    go_ret
                    exact ⟨ret_b HV.out.symm, HB3.out⟩
              · have e3 : decide ((0 : Int) < (k : Int)) = false := decide_eq_false (by omega)
                have e3n : decide (0 < k) = false := decide_eq_false h3
                refine wp_region_low (by kernel_rfl) (by kernel_rfl) ?_
                repeat (refine wq_step (fun K hK => ?_); go_simp; first | (refine hK _ ?_; clear hK K) | (apply Exists.intro; refine ⟨fun _ => ?_, hK _ ?_⟩; (go_at_call 18; exact Calls.low_of (rowfits_agg nm pc n cc f q (tAt R k).2 cp _ hn (HC2.out.low (lowW_low _ _ _)) (HQ2.out.low (lowW_low _ _ _)) (HZ.out _ (tAt_mem hlt)))); clear hK K))
                refine wq_nil ?_
                rintro _ ⟨⟨d3, os3⟩, rfl⟩
                dsimp only
                have hlow := lowW_low W2 d3 os3
                clear l0 l1 l2 l3 m0 m1 x0 x1 x2 x3 r0 r1 hXl hcl hxl HQ2 HR2 HPREV2
                generalize lowW W2 d3 os3 = W3 at hlow ⊢
                have HX3 := Lib.hid (HX2.out.low hlow)
                have HC3 := Lib.hid (HC2.out.low hlow)
                have HB3 := Lib.hid (below_next HB2.out hlow)
                clear hlow HX2 HC2 HB2
                cases hz : (fitsRow f n (tAt R k).2 != 0)
                · have HROW : Hid (RowOK f n nx R k) := Lib.hid ⟨by omega, by omega, (fun h => absurd h h3), by simpa using hz⟩
                  go_wp2
                  go_roundw
                  case rel => exact ⟨k + 1, by omega, by go_num, all_succ HOK.out HROW.out, HX3.out, HC3.out, HB3.out⟩
                  case measure => simp [intOf]; omega
                · have HV := Lib.hid (validT_row (nm := nm) hlt (not_ok_fit (f := f) (n := n) (nx := nx) (bne_iff_ne.1 hz)))
                  go_wp2
                  go_ret
                  exact ⟨ret_b HV.out.symm, HB3.out⟩
        · have hlt' : decide ((k : Int) < R.length) = false := decide_eq_false (by omega)
          obtain rfl : k = R.length := by omega
          obtain ⟨hxl, x0, x1, x2, x3, -⟩ := HX.out
          have HV := Lib.hid (validT_dup HSO.out HH.out HOK.out)
          go_wp2_with fail
          refine (rdup_any ⟨nm, pc, n, cc, f, nx, pr, cr, R⟩ _ (HT.out.low HB.out)).mono ?_
          rintro e w9 ⟨rfl, hb9⟩
          have HB9 := Lib.hid (below_next HB.out hb9)
          clear hb9
          go_wp2
          go_ret
          exact ⟨ret_b HV.out.symm, HB9.out⟩
    · have HV := Lib.hid (validT_head (nm := nm) (n := n) (f := f) hh)
      by_cases h1 : 100 < R.length
      · have g1 : decide ((100 : Int) < (R.length : Int)) = true := decide_eq_true (by omega)
        go_wp2
        go_ret
        exact ⟨ret_b HV.out.symm, HB1.out⟩
      · have g1 : decide ((100 : Int) < (R.length : Int)) = false := decide_eq_false (by omega)
        by_cases h2 : nx < 1
        · have g2 : decide (nx < 1) = true := decide_eq_true h2
          go_wp2
          go_ret
          exact ⟨ret_b HV.out.symm, HB1.out⟩
        · have g2 : decide (nx < 1) = false := decide_eq_false h2
          have g3 : decide ((2147483648 : Int) < nx) = true := decide_eq_true (by omega)
          go_wp2
          go_ret
          exact ⟨ret_b HV.out.symm, HB1.out⟩
end Go.Proofs.YtgaihglploedaaaDoor
/-
  Tables: New of the reference.
-/
namespace Go.Proofs.YtgaihglploedaaaDoor
set_option maxRecDepth 100000
open Go.RowKit
variable {ls : List Nat}

/-- What New gives. -/
def TNewPost (nm : ByteArray) (n : Nat) (f : Nat → Col) (w : World) (e : Ending) (w' : World) : Prop := ∃ (T : Tab) (er : Int), e = .returned (.tuple #[T.v, .int .i64 er]) ∧ TabAt w' T ∧ T.R = [] ∧ Below w.heap.size w w' ∧
  ((schemaOK nm n f = true ∧ er = 0 ∧ T.nm = nm ∧ T.n = n ∧ (∀ i, i < n → T.f i = f i) ∧ T.nx = 1) ∨ (schemaOK nm n f = false ∧ er = 17 ∧ T.nm = ⟨#[]⟩ ∧ T.n = 0 ∧ T.nx = 0))
theorem schemaOK_range {nm : ByteArray} {n : Nat} {f : Nat → Col} (h : schemaOK nm n f = true) : 1 ≤ n ∧ n ≤ 6 := by
  unfold schemaOK at h
  simp only [Bool.and_eq_true, decide_eq_true_eq] at h
  exact h.1.2
theorem ColsAt.ptr {w : World} {p : Option Addr} {n : Nat} {f : Nat → Col} (h : ColsAt w p n f) (hn : 0 < n) : ∃ c o, p = some ⟨c, o, none⟩ ∧ c < w.heap.size := by
  obtain ⟨c, o, hp, hc, -⟩ := h 0 hn
  exact ⟨c, o, hp, hc⟩
theorem Cell4.far {u : World} {X Y : Nat} {a b c d : Value} (h : Cell4 u X a b c d) (hn : X ≠ Y) {o : Nat} (v : Value) : Cell4 (u.setCell ⟨Y, o, none⟩ v) X a b c d := by
  have hb : ∀ o', (u.setCell ⟨Y, o, none⟩ v).cell? ⟨X, o', none⟩ = u.cell? ⟨X, o', none⟩ := fun o' => World.cell?_of_block (w := u) (Below.heap_setCell _ _ _ _ hn)
  exact ⟨by simpa [World.setCell] using h.lt, by rw [hb]; exact h.c0, by rw [hb]; exact h.c1, by rw [hb]; exact h.c2, by rw [hb]; exact h.c3, fun o' => by rw [World.frozen?_setCell]; exact h.fz o'⟩
theorem Cell4.set2 {u : World} {X : Nat} {a b c d : Value} (h : Cell4 u X a b c d) (y : Value) : Cell4 (u.setCell ⟨X, 2, none⟩ y) X a b y d := by
  obtain ⟨hl, c0, c1, c2, c3, fz⟩ := h
  refine ⟨by simpa [World.setCell] using hl, ?_, ?_, ?_, ?_, fun o => ?_⟩
  · go_simp
  · go_simp
  · go_simp
  · go_simp
  · rw [World.frozen?_setCell]; exact fz o
theorem Cell4.set3 {u : World} {X : Nat} {a b c d : Value} (h : Cell4 u X a b c d) (y : Value) : Cell4 (u.setCell ⟨X, 3, none⟩ y) X a b c y := by
  obtain ⟨hl, c0, c1, c2, c3, fz⟩ := h
  refine ⟨by simpa [World.setCell] using hl, ?_, ?_, ?_, ?_, fun o => ?_⟩
  · go_simp
  · go_simp
  · go_simp
  · go_simp
  · rw [World.frozen?_setCell]; exact fz o
theorem cell4_put (u : World) {X : Nat} {a b c d : Value} (h : Cell4 u X a b c d) (x y z t : Value) : Cell4 ((((u.setCell ⟨X, 0, none⟩ x).setCell ⟨X, 1, none⟩ y).setCell ⟨X, 2, none⟩ z).setCell ⟨X, 3, none⟩ t) X x y z t := by
  obtain ⟨hl, c0, c1, c2, c3, fz⟩ := h
  refine ⟨by simpa [World.setCell] using hl, ?_, ?_, ?_, ?_, fun o => ?_⟩
  · go_simp
  · go_simp
  · go_simp
  · go_simp
  · rw [World.frozen?_setCell, World.frozen?_setCell, World.frozen?_setCell, World.frozen?_setCell]; exact fz o
def zeroTab : Tab := ⟨⟨#[]⟩, none, 0, 0, fun _ => default, 0, none, 0, []⟩
theorem zeroTab_at (w : World) : TabAt w zeroTab := ⟨by decide, by decide, (fun i hi => absurd hi (Nat.not_lt_zero _)), TRowsAt.nil _ _, by decide, fun r hr => absurd hr (List.not_mem_nil), by decide⟩
set_option maxHeartbeats 1000000 in
theorem rtnew_any (nm : ByteArray) (p : Option Addr) (n cap : Nat) (f : Nat → Col) (w : World) (hnm : nm.size ≤ 9223372036854775807) (hn : n ≤ 9223372036854775807) (hC : ColsAt w p n f) :
    Calls Tryd.prog 41 #[schV nm p n cap] w (TNewPost nm n f w) := by
  unfold schV TNewPost
  have hb0 : Below w.heap.size w ((w.alloc (.cells #[.string nm, .slice p n cap] 24)).alloc (.cells #[.string ⟨#[]⟩, .slice none 0 0, .int .i64 0, .slice none 0 0] 51)) := below_new (below_new (Below.refl _ _) _) _
  have HC := Lib.hid (hC.low hb0)
  have HX := Lib.hid ((cell2_new w (.string nm) (.slice p n cap) 24).low (below_alloc _ (.cells #[.string ⟨#[]⟩, .slice none 0 0, .int .i64 0, .slice none 0 0] 51)))
  have HY := Lib.hid ((cell4_new (w.alloc (.cells #[.string nm, .slice p n cap] 24)) (.string ⟨#[]⟩) (.slice none 0 0) (.int .i64 0) (.slice none 0 0) 51).at (size_alloc _ _))
  have HB0 := Lib.hid hb0
  clear hC hb0
  go_enter Tryd.func41, Tryd.ntmps41
  go_wp2_with fail
  refine (rsvalid_any nm p n cap f _ hnm hn HC.out).mono ?_
  rintro e w1 ⟨rfl, hb1⟩
  have HX1 := Lib.hid (HX.out.low hb1)
  have HY1 := Lib.hid (HY.out.low hb1)
  have HC1 := Lib.hid (HC.out.low hb1)
  have HB1 := Lib.hid (below_next HB0.out hb1)
  obtain ⟨hxl, x0, x1, xf⟩ := HX1.out
  obtain ⟨hyl, y0, y1, y2, y3, yf⟩ := HY1.out
  clear HC HX HY HB0 hb1
  cases hso : schemaOK nm n f
  · have HSO := Lib.hid hso
    have HYS := Lib.hid (cell4_put w1 HY1.out (.string ⟨#[]⟩) (.slice none 0 0) (.int .i64 0) (.slice none 0 0))
    go_wp2
    obtain ⟨-, s0, s1, s2, s3, -⟩ := HYS.out
    exact bodyPost_ret (v := .tuple #[zeroTab.v, .int .i64 17]) (by simp [results, Tryd.results41, go_sem, s0, s1, s2, s3, Tab.v, zeroTab]) rfl
      ⟨zeroTab, 17, rfl, zeroTab_at _, rfl, (((HB1.out.setCell (by exact Nat.le_succ _) _).setCell (by exact Nat.le_succ _) _).setCell (by exact Nat.le_succ _) _).setCell (by exact Nat.le_succ _) _, .inr ⟨HSO.out, rfl, rfl, rfl, rfl⟩⟩
  · have HSO := Lib.hid hso
    obtain ⟨hn1, hn6⟩ := schemaOK_range hso
    obtain ⟨c, o, rfl, -⟩ := HC1.out.ptr (by omega)
    obtain ⟨l, hl, hlf⟩ := cols_list n f
    have hcl : ColsAt w1 (some ⟨c, o, none⟩) l.length (cAt l) := by rw [hl]; exact HC1.out.congr hlf
    have HCL := Lib.hid hcl
    have HLF := Lib.hid hlf
    have hsz : Sized l := fun i hi => by
      obtain ⟨-, -, -, -, hs, -⟩ := hcl i hi
      exact hs
    have HSZ := Lib.hid hsz
    have hown0 : w1.ownsRow w1.heap.size 75 4 (.slice none 0 0) 0 (ccells []) := ⟨rfl, Or.inl ⟨rfl, rfl⟩⟩
    have HO := Lib.hid hown0
    have hZ : w.heap.size + 1 < w1.heap.size := hyl
    clear hown0 hcl hlf hsz
    go_wp2_with (at_builtin; refine wpList_append_cols rfl _ (.tmp 9) rfl w1.heap.size _ 0 [] rfl HO.out ⟨c, o, none⟩ l cap n rfl hl HCL.out (by omega) (Nat.le_refl _) ?_; intro v2 w2 hown2 hgr2; (have hb2 := grown_below (Below.refl w1.heap.size w1) (Nat.le_refl _) hgr2 (fun k hk => by cases hk)); (have hX2 := HX1.out.low hb2); (have hY2 := HY1.out.low hb2); (have HB2 := Lib.hid (below_next HB1.out hb2)); rw [Nat.zero_add, List.nil_append] at hown2; obtain ⟨p2, c2, rfl, -, hc2, hq2⟩ := cols_of_owns hown2 HSZ.out; rw [hl] at hc2; (have HC2 := Lib.hid hc2); (have HQ2 := Lib.hid hq2); (have HX2 := Lib.hid hX2); (have HY2 := Lib.hid hY2); obtain ⟨xl2, z0, z1, zf⟩ := hX2; obtain ⟨yl2, t0, t1, t2, t3, tf⟩ := hY2; clear hown2 hgr2 hb2 hc2 hq2 x0 x1 y0 y1 y2 y3 xf yf)
    have hfar : ∀ q, p2 = some q → q.block ≠ w.heap.size ∧ q.block ≠ w.heap.size + 1 := fun q hq => by have := (HQ2.out q hq).1; omega
    have hYS := cell4_put (w2.setCell ⟨w.heap.size, 1, none⟩ (.slice p2 n c2)) (X := w.heap.size + 1) (a := .string ⟨#[]⟩) (b := .slice none 0 0) (c := .int .i64 0) (d := .slice none 0 0) (HY2.out.far (by omega) _) (.string nm) (.slice p2 n c2) (.int .i64 1) (.slice none 0 0)
    obtain ⟨-, s0, s1, s2, s3, -⟩ := hYS
    exact bodyPost_ret (v := .tuple #[Tab.v ⟨nm, p2, n, c2, cAt l, 1, none, 0, []⟩, .int .i64 0]) (by simp [results, Tryd.results41, go_sem, s0, s1, s2, s3, Tab.v]) rfl
      ⟨⟨nm, p2, n, c2, cAt l, 1, none, 0, []⟩, 0, rfl, ⟨hnm, hn, ((((HC2.out.set (fun q hq => (hfar q hq).1) _).set (fun q hq => (hfar q hq).2) _).set (fun q hq => (hfar q hq).2) _).set (fun q hq => (hfar q hq).2) _).set (fun q hq => (hfar q hq).2) _, TRowsAt.nil _ _, Nat.zero_le _, fun r hr => absurd hr (List.not_mem_nil), by show (1 : Int) ≤ 9223372036854775807; decide⟩, rfl,
        ((((HB2.out.setCell (by exact Nat.le_refl _) _).setCell (by exact Nat.le_succ _) _).setCell (by exact Nat.le_succ _) _).setCell (by exact Nat.le_succ _) _).setCell (by exact Nat.le_succ _) _, .inl ⟨HSO.out, rfl, rfl, rfl, HLF.out, rfl⟩⟩
end Go.Proofs.YtgaihglploedaaaDoor
/-
  Equal texts.
-/
namespace Go.Proofs.YtgaihglploedaaaDoor
set_option maxRecDepth 100000
open Go.RowKit
theorem eq_texts {a b : ByteArray} (h : a = b) : (a.toList == b.toList) = true := by rw [h]; exact beq_self_eq_true _
theorem ne_texts {a b : ByteArray} (h : a ≠ b) : (a.toList == b.toList) = false := by
  rw [beq_eq_false_iff_ne, ByteArray.toList_eq, ByteArray.toList_eq]
  exact fun hc => h (ByteArray.ext (Array.toList_inj.1 hc))

end Go.Proofs.YtgaihglploedaaaDoor
/-
  SameTable of the world.
-/
namespace Go.Proofs.YtgaihglploedaaaDoor
set_option maxRecDepth 100000
open Go.RowKit
variable {ls : List Nat}

def sameC (a b : Col) : Bool := eqT a.nm b.nm && (a.ty == b.ty && (a.nn == b.nn && a.key == b.key))
theorem sameC_iff {a b : Col} : sameC a b = true ↔ a = b := by
  unfold sameC
  obtain ⟨a1, a2, a3, a4⟩ := a
  obtain ⟨b1, b2, b3, b4⟩ := b
  simp only [Bool.and_eq_true, eqT_iff, beq_iff_eq, Col.mk.injEq]
theorem neq_col (a b : Col) (w : World) : (binOp .neq 75 (.agg #[.string a.nm, .int .i64 a.ty, .bool a.nn, .bool a.key]) (.agg #[.string b.nm, .int .i64 b.ty, .bool b.nn, .bool b.key])).run Tryd.prog w = .ok (.bool (!sameC a b)) w := by
  go_simp
  unfold sameC eqT
  cases h1 : (a.nm.toList == b.nm.toList) <;> cases h2 : (a.ty == b.ty) <;> cases h3 : (a.nn == b.nn) <;> cases h4 : (a.key == b.key) <;> simp_all
instance : DecidableEq Col := fun a b => decidable_of_iff (sameC a b = true) sameC_iff
/-- Are the columns the same? -/
def sameCols (n : Nat) (f : Nat → Col) (m : Nat) (g : Nat → Col) : Bool := decide (n = m ∧ ∀ i, i < n → f i = g i)
theorem sameCols_no {n m : Nat} {f g : Nat → Col} {k : Nat} (hk : k < n) (h : ¬ f k = g k) : sameCols n f m g = false := decide_eq_false fun hc => h (hc.2 k hk)
theorem sameCols_len {n m : Nat} {f g : Nat → Col} (h : ¬ n = m) : sameCols n f m g = false := decide_eq_false fun hc => h hc.1
theorem sameCols_yes {n : Nat} {f g : Nat → Col} (h : ∀ i, i < n → f i = g i) : sameCols n f n g = true := decide_eq_true ⟨rfl, h⟩
set_option maxHeartbeats 1000000 in
theorem equalcols_any (p q : Option Addr) (n m : Nat) (f g : Nat → Col) (ca cb : Nat) (w : World) (hn : n ≤ 9223372036854775807) (ha : ColsAt w p n f) (hb : ColsAt w q m g) :
    Calls Tryd.prog 108 #[.slice p n ca, .slice q m cb] w fun e w' => e = .returned (.bool (sameCols n f m g)) ∧ Below w.heap.size w w' := by
  have HP := Lib.hid ha
  have HQ := Lib.hid hb
  clear ha hb
  by_cases hl : n = m
  · subst hl
    have hlI : ((n : Int) != (n : Int)) = false := by simp
    go_enter Tryd.func108, Tryd.ntmps108
    go_wp2_with fail
    go_loopw [13] (fun i v => ∃ k : Nat, k ≤ n ∧ i = .int .i64 k ∧ (∀ j, j < k → f j = g j) ∧ Below w.heap.size w v) (fun i _ => n - (intOf i).toNat)
    case atStart => exact ⟨0, Nat.zero_le _, rfl, fun j hj => by omega, Below.refl _ _⟩
    case round =>
      obtain ⟨k, hk, rfl, heq, hb⟩ := hrel
      have HEQ := Lib.hid heq
      have HB := Lib.hid hb
      clear heq hb
      by_cases hlt : k < n
      · have hlt' : decide ((k : Int) < n) = true := decide_eq_true (by omega)
        have hkI : (k : Int) < (n : Int) := by omega
        obtain ⟨c, o, rfl, hc, -, x0, x1, x2, x3⟩ := HP.out.low HB.out k hlt
        obtain ⟨c', o', rfl, hc', -, y0, y1, y2, y3⟩ := HQ.out.low HB.out k hlt
        have hq := neq_col (f k) (g k)
        cases hsame : sameC (f k) (g k)
        · have HD : Hid (¬ f k = g k) := Lib.hid (fun h => by
            rw [sameC_iff.2 h] at hsame
            cases hsame)
          rw [hsame] at hq
          go_wp2_with fail
          go_quiet (fail)
          go_wp2
          go_ret
          exact ⟨ret_b (sameCols_no hlt HD.out).symm, below_drewN HB.out _⟩
        · have HS := Lib.hid (sameC_iff.1 hsame)
          rw [hsame] at hq
          go_wp2_with fail
          go_quiet (fail)
          go_wp2
          go_roundw
          case rel => exact ⟨k + 1, by omega, by go_num, all_succ HEQ.out HS.out, below_drewN HB.out _⟩
          case measure => simp [intOf]; omega
      · have hlt' : decide ((k : Int) < n) = false := decide_eq_false (by omega)
        obtain rfl : k = n := by omega
        go_wp2
        go_ret
        exact ⟨ret_b (sameCols_yes HEQ.out).symm, HB.out⟩
  · have hlI : ((n : Int) != (m : Int)) = true := bne_iff_ne.2 (by omega)
    have HD := Lib.hid hl
    clear hl
    go_enter Tryd.func108, Tryd.ntmps108
    go_wp2
    go_ret
    exact ⟨ret_b (sameCols_len HD.out).symm, Below.refl _ _⟩
def sameR (a b : TRow) : Bool := decide (a.1 = b.1) && decide (a.2 = b.2)
theorem sameR_iff {a b : TRow} : sameR a b = true ↔ a = b := by
  unfold sameR
  obtain ⟨a1, a2⟩ := a
  obtain ⟨b1, b2⟩ := b
  simp
set_option maxHeartbeats 1000000 in
theorem samerowW_any (a b : TRow) (p q : Option Addr) (ca cb : Nat) (w : World) (hla : a.2.length ≤ 9223372036854775807) (ha : RowAt w p a.2) (hb : RowAt w q b.2) :
    Calls Tryd.prog 82 #[.agg #[.int .i64 a.1, .slice p a.2.length ca], .agg #[.int .i64 b.1, .slice q b.2.length cb]] w fun e w' => e = .returned (.bool (sameR a b)) ∧ Below w.heap.size w w' := by
  have HA := Lib.hid ha
  have HB := Lib.hid hb
  unfold sameR
  clear ha hb
  have hb0 : Below w.heap.size w ((w.alloc (.cells #[.int .i64 a.1, .slice p a.2.length ca] 68)).alloc (.cells #[.int .i64 b.1, .slice q b.2.length cb] 68)) := below_new (below_new (Below.refl _ _) _) _
  have HB0 := Lib.hid hb0
  have HA1 := Lib.hid (HA.out.low hb0)
  have HB1 := Lib.hid (HB.out.low hb0)
  clear hb0
  go_enter Tryd.func82, Tryd.ntmps82
  cases hid : (a.1 == b.1)
  · have hne := beq_eq_false_iff_ne.1 hid
    have HE : Hid ((decide (a.1 = b.1) && decide (a.2 = b.2)) = false) := Lib.hid (by rw [decide_eq_false hne]; rfl)
    clear hne
    go_wp2
    go_ret
    exact ⟨ret_b HE.out.symm, HB0.out⟩
  · have HE : Hid ((decide (a.1 = b.1) && decide (a.2 = b.2)) = decide (a.2 = b.2)) := Lib.hid (by rw [decide_eq_true (beq_iff_eq.1 hid)]; rfl)
    go_wp2_with fail
    refine (equal_any p q a.2 b.2 ca cb _ hla HA1.out HB1.out).mono ?_
    rintro e w2 ⟨rfl, hb2⟩
    have HB2 := Lib.hid (below_next HB0.out hb2)
    clear hb2
    go_wp2
    go_ret
    exact ⟨ret_b HE.out.symm, HB2.out⟩
theorem ext_trows {A B : List TRow} (hl : A.length = B.length) (h : ∀ i, i < A.length → tAt A i = tAt B i) : A = B := by
  apply List.ext_getElem hl
  intro i h1 h2
  have := h i h1
  rw [tAt_get h1, tAt_get h2] at this
  exact this
set_option maxHeartbeats 1000000 in
theorem equalrows_any (A B : List TRow) (p q : Option Addr) (ca cb : Nat) (w : World) (hA : A.length ≤ 1000) (hp : TRowsAt w p A) (hq : TRowsAt w q B) :
    Calls Tryd.prog 81 #[.slice p A.length ca, .slice q B.length cb, .func (.func 82) #[] #[]] w fun e w' => e = .returned (.bool (decide (A = B))) ∧ Below w.heap.size w w' := by
  have HP := Lib.hid hp
  have HQ := Lib.hid hq
  clear hp hq
  by_cases hl : A.length = B.length
  · have hlI : ((A.length : Int) != (B.length : Int)) = false := by simp [hl]
    have HL := Lib.hid hl
    clear hl
    go_enter Tryd.func81, Tryd.ntmps81
    go_wp2_with fail
    go_loopw [17] (fun i v => ∃ k : Nat, k ≤ A.length ∧ i = .int .i64 k ∧ (∀ j, j < k → tAt A j = tAt B j) ∧ Below w.heap.size w v) (fun i _ => A.length - (intOf i).toNat)
    case atStart => exact ⟨0, Nat.zero_le _, rfl, fun j hj => by omega, Below.refl _ _⟩
    case round =>
      obtain ⟨k, hk, rfl, heq, hb⟩ := hrel
      have HEQ := Lib.hid heq
      have HB := Lib.hid hb
      clear heq hb
      by_cases hlt : k < A.length
      · have hlt' : decide ((k : Int) < A.length) = true := decide_eq_true (by omega)
        have hky : k < B.length := by have := HL.out; omega
        have hkI : (k : Int) < (B.length : Int) := by omega
        obtain ⟨c, o, q1, c1, rfl, hc, h0, h1, hr1, hs1, -⟩ := HP.out.low HB.out k hlt
        have hbn := below_alloc wr (.cells #[.int .i64 (tAt A k).1, .slice q1 (tAt A k).2.length c1] 68)
        obtain ⟨c', o', q2, c2, rfl, hc', h0', h1', hr2, hs2, -⟩ := (HQ.out.low HB.out).low hbn k hky
        have HR1 := Lib.hid (hr1.low hbn)
        have HR2 := Lib.hid hr2
        have HB1 := Lib.hid (below_next HB.out hbn)
        clear hr1 hr2 hbn
        go_wp2_with fail
        have hbm := below_alloc (wr.alloc (.cells #[.int .i64 (tAt A k).1, .slice q1 (tAt A k).2.length c1] 68)) (.cells #[.int .i64 (tAt B k).1, .slice q2 (tAt B k).2.length c2] 68)
        have HB2 := Lib.hid (below_next HB1.out hbm)
        have HR1b := Lib.hid (HR1.out.low hbm)
        have HR2b := Lib.hid (HR2.out.low hbm)
        clear hbm HB1 HR1 HR2
        refine (samerowW_any (tAt A k) (tAt B k) q1 q2 c1 c2 _ (by omega) HR1b.out HR2b.out).mono ?_
        rintro e v1 ⟨rfl, hb1⟩
        have HB3 := Lib.hid (below_next HB2.out hb1)
        clear HB HB2 hb1 h0 h0' h1 h1' hc hc' HR1b HR2b
        cases hz : sameR (tAt A k) (tAt B k)
        · have HD : Hid (¬ A = B) := Lib.hid (fun h => by
            rw [h, sameR_iff.2 rfl] at hz
            cases hz)
          go_wp2
          go_ret
          exact ⟨ret_b (decide_eq_false HD.out).symm, HB3.out⟩
        · have HZ := Lib.hid (sameR_iff.1 hz)
          go_wp2
          go_roundw
          case rel => exact ⟨k + 1, by omega, by go_num, all_succ HEQ.out HZ.out, HB3.out⟩
          case measure => simp [intOf]; omega
      · have hlt' : decide ((k : Int) < A.length) = false := decide_eq_false (by omega)
        obtain rfl : k = A.length := by omega
        have HD : Hid (A = B) := Lib.hid (ext_trows HL.out HEQ.out)
        go_wp2
        go_ret
        exact ⟨ret_b (decide_eq_true HD.out).symm, HB.out⟩
  · have hlI : ((A.length : Int) != (B.length : Int)) = true := bne_iff_ne.2 (by omega)
    have HD : Hid (¬ A = B) := Lib.hid (fun h => hl (by rw [h]))
    clear hl
    go_enter Tryd.func81, Tryd.ntmps81
    go_wp2
    go_ret
    exact ⟨ret_b (decide_eq_false HD.out).symm, Below.refl _ _⟩
set_option maxHeartbeats 1000000 in
theorem sameschema_any (nm nm' : ByteArray) (p q : Option Addr) (n m : Nat) (f g : Nat → Col) (ca cb : Nat) (w : World) (hn : n ≤ 9223372036854775807) (ha : ColsAt w p n f) (hb : ColsAt w q m g) :
    Calls Tryd.prog 80 #[.agg #[.string nm, .slice p n ca], .agg #[.string nm', .slice q m cb]] w fun e w' => e = .returned (.bool (eqT nm nm' && sameCols n f m g)) ∧ Below w.heap.size w w' := by
  have hb0 : Below w.heap.size w ((w.alloc (.cells #[.string nm, .slice p n ca] 24)).alloc (.cells #[.string nm', .slice q m cb] 24)) := below_new (below_new (Below.refl _ _) _) _
  have HB0 := Lib.hid hb0
  have HA1 := Lib.hid (ha.low hb0)
  have HB1 := Lib.hid (hb.low hb0)
  clear hb0 ha hb
  go_enter Tryd.func80, Tryd.ntmps80
  cases hid : eqT nm nm'
  · have hid' : (nm.toList == nm'.toList) = false := hid
    go_wp2
    go_ret
    exact ⟨rfl, HB0.out⟩
  · have hid' : (nm.toList == nm'.toList) = true := hid
    go_wp2_with fail
    refine (equalcols_any p q n m f g ca cb _ hn HA1.out HB1.out).mono ?_
    rintro e w2 ⟨rfl, hb2⟩
    have HB2 := Lib.hid (below_next HB0.out hb2)
    clear hb2
    go_wp2
    go_ret
    exact ⟨rfl, HB2.out⟩
def sameT (T S : Tab) : Bool := (eqT T.nm S.nm && sameCols T.n T.f S.n S.f) && (T.nx == S.nx && decide (T.R = S.R))
set_option maxHeartbeats 1000000 in
theorem sametable_any (T S : Tab) (w : World) (hT : TabAt w T) (hS : TabAt w S) :
    Calls Tryd.prog 42 #[T.v, S.v] w fun e w' => e = .returned (.bool (sameT T S)) ∧ Below w.heap.size w w' := by
  obtain ⟨nm, pc, n, cc, f, nx, pr, cr, R⟩ := T
  obtain ⟨nm', pc', n', cc', f', nx', pr', cr', R'⟩ := S
  unfold Tab.v sameT
  have hb0 : Below w.heap.size w ((w.alloc (.cells #[.string nm, .slice pc n cc, .int .i64 nx, .slice pr R.length cr] 51)).alloc (.cells #[.string nm', .slice pc' n' cc', .int .i64 nx', .slice pr' R'.length cr'] 51)) := below_new (below_new (Below.refl _ _) _) _
  have HX := Lib.hid ((cell4_new w (.string nm) (.slice pc n cc) (.int .i64 nx) (.slice pr R.length cr) 51).low (below_alloc _ (.cells #[.string nm', .slice pc' n' cc', .int .i64 nx', .slice pr' R'.length cr'] 51)))
  have HY := Lib.hid ((cell4_new (w.alloc (.cells #[.string nm, .slice pc n cc, .int .i64 nx, .slice pr R.length cr] 51)) (.string nm') (.slice pc' n' cc') (.int .i64 nx') (.slice pr' R'.length cr') 51).at (size_alloc _ _))
  have HB0 := Lib.hid hb0
  have HT0 := Lib.hid (hT.low hb0)
  have HS0 := Lib.hid (hS.low hb0)
  have hn := hT.n
  have hl := hT.len
  dsimp only at hn hl ⊢
  clear hb0 hT hS
  go_enter Tryd.func42, Tryd.ntmps42
  go_wp2_with fail
  refine (sameschema_any nm nm' pc pc' n n' f f' cc cc' _ hn HT0.out.cols HS0.out.cols).mono ?_
  rintro e w1 ⟨rfl, hb1⟩
  have HT1 := Lib.hid (HT0.out.low hb1)
  have HS1 := Lib.hid (HS0.out.low hb1)
  have HB1 := Lib.hid (below_next HB0.out hb1)
  obtain ⟨xl, x0, x1, x2, x3, -⟩ := HX.out.low hb1
  obtain ⟨yl, y0, y1, y2, y3, -⟩ := HY.out.low hb1
  clear HX HY HB0 HT0 HS0 hb1
  cases h1 : (eqT nm nm' && sameCols n f n' f')
  · have HE : Hid (((eqT nm nm' && sameCols n f n' f') && (nx == nx' && decide (R = R'))) = false) := Lib.hid (by rw [h1]; rfl)
    go_wp2
    go_ret
    exact ⟨ret_b HE.out.symm, HB1.out⟩
  · cases h2 : (nx == nx')
    · have HE : Hid (((eqT nm nm' && sameCols n f n' f') && (nx == nx' && decide (R = R'))) = false) := Lib.hid (by rw [h1, h2]; rfl)
      go_wp2
      go_ret
      exact ⟨ret_b HE.out.symm, HB1.out⟩
    · have HE : Hid (((eqT nm nm' && sameCols n f n' f') && (nx == nx' && decide (R = R'))) = decide (R = R')) := Lib.hid (by rw [h1, h2]; rfl)
      go_wp2_with fail
      refine (equalrows_any R R' pr pr' cr cr' _ hl HT1.out.rows HS1.out.rows).mono ?_
      rintro e w2 ⟨rfl, hb2⟩
      have HB2 := Lib.hid (below_next HB1.out hb2)
      clear hb2
      go_wp2
      go_ret
      exact ⟨ret_b HE.out.symm, HB2.out⟩
end Go.Proofs.YtgaihglploedaaaDoor
