/-
  Several texts in one.
-/
import Derived.Test.YtnahjnomidlppaaDoorPk12
import Derived.Test.YtnahjnomidlppaaDoorPk10
import Derived.Test.YtnahjnomidlppaaDoorPk01
import Derived.Test.YtnahjnomidlppaaDoorPk09
/-
  Tables: Valid and New of the reference.
-/
namespace Go.Proofs.YtnahjnomidlppaaDoor
set_option maxRecDepth 100000
open Go.RowKit
variable {ls : List Nat}

theorem rowfits_agg (nm : ByteArray) (p : Option Addr) (n cap : Nat) (f : Nat → Col) (q : Option Addr) (l : List Val) (cq : Nat) (w : World) (hn : n ≤ 9223372036854775807) (hC : ColsAt w p n f) (hR : RowAt w q l) (hS : ValsSized l) :
    Calls Tryd.prog 40 #[.agg #[.string nm, .slice p n cap], .slice q l.length cq] w fun e w' => e = .returned (.int .i64 (fitsRow f n l)) ∧ Below w.heap.size w w' := by
  have := rrowfits_any nm p n cap f q l cq w hn hC hR hS
  unfold schV at this
  exact this
theorem not_ok_lo {f : Nat → Col} {n : Nat} {nx : Int} {R : List TRow} {i : Nat} (h : (tAt R i).1 < 1) : ¬ RowOK f n nx R i := fun hc => by have := hc.1; omega
theorem not_ok_hi {f : Nat → Col} {n : Nat} {nx : Int} {R : List TRow} {i : Nat} (h : nx ≤ (tAt R i).1) : ¬ RowOK f n nx R i := fun hc => by have := hc.2.1; omega
theorem not_ok_prev {f : Nat → Col} {n : Nat} {nx : Int} {R : List TRow} {i : Nat} (hi : 0 < i) (h : (tAt R i).1 ≤ (tAt R (i - 1)).1) : ¬ RowOK f n nx R i := fun hc => by have := hc.2.2.1 hi; omega
theorem not_ok_fit {f : Nat → Col} {n : Nat} {nx : Int} {R : List TRow} {i : Nat} (h : ¬ fitsRow f n (tAt R i).2 = 0) : ¬ RowOK f n nx R i := fun hc => h hc.2.2.2
set_option maxHeartbeats 2000000 in
theorem rtvalid_any (T : Tab) (w : World) (hT : TabAt w T) :
    Calls Tryd.prog 29 #[T.v] w fun e w' => e = .returned (.bool T.valid) ∧ Below w.heap.size w w' := by
  have HT := Lib.hid hT
  obtain ⟨nm, pc, n, cc, f, nx, pr, cr, R⟩ := T
  obtain ⟨hnm, hn, hC, hR, hl, hz⟩ := hT
  unfold Tab.v Tab.valid
  dsimp only at *
  have HR := Lib.hid hR
  have HZ := Lib.hid hz
  have hb0 : Below w.heap.size w (w.alloc (.cells #[.string nm, .slice pc n cc, .int .i64 nx, .slice pr R.length cr] 27)) := below_new (Below.refl _ _) _
  have HC := Lib.hid (hC.low hb0)
  have HX := Lib.hid (cell4_new w (.string nm) (.slice pc n cc) (.int .i64 nx) (.slice pr R.length cr) 27)
  have HB0 := Lib.hid hb0
  clear hC hR hz hb0
  go_enter Tryd.func29, Tryd.ntmps29
  go_wp2_with fail
  refine (rsvalid_any nm pc n cc f _ hnm hn HC.out).mono ?_
  rintro e w1 ⟨rfl, hb1⟩
  have HX1 := Lib.hid (HX.out.low hb1)
  have HC1 := Lib.hid (HC.out.low hb1)
  have HB1 := Lib.hid (below_next HB0.out hb1)
  obtain ⟨hxl, x0, x1, x2, x3, -⟩ := HX1.out
  clear HC HX HB0 hb1
  cases hso : schemaOK nm n f
  · have HV := Lib.hid (validT_schema (nx := nx) (R := R) hso)
    go_wp2
    go_ret
    exact ⟨ret_b HV.out.symm, HB1.out⟩
  · have HSO := Lib.hid hso
    by_cases hh : R.length ≤ 100 ∧ 1 ≤ nx ∧ nx ≤ 2147483648
    · have HH := Lib.hid hh
      have g1 : decide ((100 : Int) < (R.length : Int)) = false := decide_eq_false (by omega)
      have g2 : decide (nx < 1) = false := decide_eq_false (by omega)
      have g3 : decide ((2147483648 : Int) < nx) = false := decide_eq_false (by omega)
      clear hh
      go_wp2_with fail
      go_loopw [28] (fun i v => ∃ k : Nat, k ≤ R.length ∧ i = .int .i64 k ∧ (∀ j, j < k → RowOK f n nx R j) ∧ Cell4 v w.heap.size (.string nm) (.slice pc n cc) (.int .i64 nx) (.slice pr R.length cr) ∧ ColsAt v pc n f ∧ Below w.heap.size w v) (fun i _ => R.length - (intOf i).toNat)
      case atStart => exact ⟨0, Nat.zero_le _, rfl, fun j hj => by omega, HX1.out, HC1.out, HB1.out⟩
      clear HX1 HC1 HB1 x0 x1 x2 x3 hxl
      case round =>
        obtain ⟨k, hk, rfl, hok, hx, hc, hb⟩ := hrel
        have HOK := Lib.hid hok
        have HX := Lib.hid hx
        have HC := Lib.hid hc
        have HB := Lib.hid hb
        clear hok hx hc hb
        by_cases hlt : k < R.length
        · have hlt' : decide ((k : Int) < R.length) = true := decide_eq_true (by omega)
          have HR1 := Lib.hid (HR.out.low HB.out)
          obtain ⟨c, o, q, cp, rfl, hc, h0, h1, hr, hs, hqn⟩ := HR1.out k hlt
          have HQ := Lib.hid hr
          have HPREV : Hid (0 < k → wr.cell? ⟨c, o + (k - 1) * 2, none⟩ = some (.int .i64 (tAt R (k - 1)).1)) := Lib.hid (by
            intro h0k
            obtain ⟨c', o', q', cp', he, hc', h0', -⟩ := HR1.out (k - 1) (by omega)
            cases he
            exact h0')
          clear hr hqn
          go_wp2_with fail
          have hbn := below_alloc wr (.cells #[.int .i64 (tAt R k).1, .slice q (tAt R k).2.length cp] 49)
          have HX2 := Lib.hid (HX.out.low hbn)
          have HC2 := Lib.hid (HC.out.low hbn)
          have HB2 := Lib.hid (below_next HB.out hbn)
          have HQ2 := Lib.hid (HQ.out.low hbn)
          have HR2 := Lib.hid (HR1.out.low hbn)
          have HPREV2 : Hid (0 < k → (wr.alloc (.cells #[.int .i64 (tAt R k).1, .slice q (tAt R k).2.length cp] 49)).cell? ⟨c, o + (k - 1) * 2, none⟩ = some (.int .i64 (tAt R (k - 1)).1)) := Lib.hid (fun h0k => by rw [hbn.cell (by exact hc)]; exact HPREV.out h0k)
          have hXl : wr.heap.size < (wr.alloc (.cells #[.int .i64 (tAt R k).1, .slice q (tAt R k).2.length cp] 49)).heap.size := by simp
          obtain ⟨hxl, x0, x1, x2, x3, -⟩ := HX2.out
          obtain ⟨r0, r1⟩ := row2_new wr (.int .i64 (tAt R k).1) (.slice q (tAt R k).2.length cp) 49
          have hcl : c < (wr.alloc (.cells #[.int .i64 (tAt R k).1, .slice q (tAt R k).2.length cp] 49)).heap.size := Nat.lt_of_lt_of_le hc hbn.size
          clear HX HC HB HQ HR1 HPREV hbn h0 h1 hc
          generalize wr.alloc _ = W2 at HX2 HC2 HB2 HQ2 HR2 HPREV2 hXl hcl hxl x0 x1 x2 x3 r0 r1 ⊢
          generalize wr.heap.size = X at hXl r0 r1 ⊢
          have l0 := lowW_cell (a := ⟨w.heap.size, 0, none⟩) hxl x0
          have l1 := lowW_cell (a := ⟨w.heap.size, 1, none⟩) hxl x1
          have l2 := lowW_cell (a := ⟨w.heap.size, 2, none⟩) hxl x2
          have l3 := lowW_cell (a := ⟨w.heap.size, 3, none⟩) hxl x3
          have m0 := lowW_cell (a := ⟨X, 0, none⟩) hXl r0
          have m1 := lowW_cell (a := ⟨X, 1, none⟩) hXl r1
          by_cases h1 : (tAt R k).1 < 1
          · have e1 : decide ((tAt R k).1 < 1) = true := decide_eq_true h1
            have HV := Lib.hid (validT_row (nm := nm) hlt (not_ok_lo (f := f) (n := n) (nx := nx) h1))
            go_quiet (fail)
            go_wp2
            go_ret
            exact ⟨ret_b HV.out.symm, drewN_low HB2.out _⟩
          · have e1 : decide ((tAt R k).1 < 1) = false := decide_eq_false h1
            by_cases h2 : nx ≤ (tAt R k).1
            · have e2 : decide (nx ≤ (tAt R k).1) = true := decide_eq_true h2
              have HV := Lib.hid (validT_row (nm := nm) hlt (not_ok_hi (f := f) (n := n) (nx := nx) h2))
              go_quiet (fail)
              go_wp2
              go_ret
              exact ⟨ret_b HV.out.symm, drewN_low HB2.out _⟩
            · have e2 : decide (nx ≤ (tAt R k).1) = false := decide_eq_false h2
              by_cases h3 : 0 < k
              · have e3 : decide ((0 : Int) < (k : Int)) = true := decide_eq_true (by omega)
                have e3n : decide (0 < k) = true := decide_eq_true h3
                have hp := HPREV2.out h3
                have hw1 : IntKind.i64.wrap ((k : Int) - 1) = (k : Int) - 1 := i64w (by omega) (by omega)
                have ht1 : ((k : Int) - 1).toNat = k - 1 := by omega
                have hlo : (1 : Int) ≤ (k : Int) := by omega
                have hhi : (k : Int) - 1 < (R.length : Int) := by omega
                by_cases h4 : (tAt R k).1 ≤ (tAt R (k - 1)).1
                · have e4 : decide ((tAt R k).1 ≤ (tAt R (k - 1)).1) = true := decide_eq_true h4
                  have HV := Lib.hid (validT_row (nm := nm) hlt (not_ok_prev (f := f) (n := n) (nx := nx) h3 h4))
                  go_quiet (fail)
                  go_wp2
                  go_ret
                  exact ⟨ret_b HV.out.symm, drewN_low HB2.out _⟩
                · have e4 : decide ((tAt R k).1 ≤ (tAt R (k - 1)).1) = false := decide_eq_false h4
                  have lp := lowW_cell (a := ⟨c, o + (k - 1) * 2, none⟩) hcl hp
                  refine wp_region_low (by kernel_rfl) (by kernel_rfl) ?_
                  repeat (refine wq_step (fun K hK => ?_); go_simp; first | (refine hK _ ?_; clear hK K) | (apply Exists.intro; refine ⟨fun _ => ?_, hK _ ?_⟩; (go_at_call 40; exact Calls.low_of (rowfits_agg nm pc n cc f q (tAt R k).2 cp _ hn (HC2.out.low (lowW_low _ _ _)) (HQ2.out.low (lowW_low _ _ _)) (HZ.out _ (tAt_mem hlt)))); clear hK K))
                  refine wq_nil ?_
                  rintro _ ⟨⟨d3, os3⟩, rfl⟩
                  dsimp only
                  have hlow := lowW_low W2 d3 os3
                  clear lp hp l0 l1 l2 l3 m0 m1 x0 x1 x2 x3 r0 r1 hXl hcl hxl HQ2 HR2 HPREV2
                  generalize lowW W2 d3 os3 = W3 at hlow ⊢
                  have HX3 := Lib.hid (HX2.out.low hlow)
                  have HC3 := Lib.hid (HC2.out.low hlow)
                  have HB3 := Lib.hid (below_next HB2.out hlow)
                  clear hlow HX2 HC2 HB2
                  cases hz : (fitsRow f n (tAt R k).2 != 0)
                  · have HROW : Hid (RowOK f n nx R k) := Lib.hid ⟨by omega, by omega, (fun _ => by omega), by simpa using hz⟩
                    go_wp2
                    go_roundw
                    case rel => exact ⟨k + 1, by omega, by go_num, all_succ HOK.out HROW.out, HX3.out, HC3.out, HB3.out⟩
                    case measure => simp [intOf]; omega
                  · have HV := Lib.hid (validT_row (nm := nm) hlt (not_ok_fit (f := f) (n := n) (nx := nx) (bne_iff_ne.1 hz)))
                    go_wp2
                    go_ret
                    exact ⟨ret_b HV.out.symm, HB3.out⟩
              · have e3 : decide ((0 : Int) < (k : Int)) = false := decide_eq_false (by omega)
                have e3n : decide (0 < k) = false := decide_eq_false h3
                refine wp_region_low (by kernel_rfl) (by kernel_rfl) ?_
                repeat (refine wq_step (fun K hK => ?_); go_simp; first | (refine hK _ ?_; clear hK K) | (apply Exists.intro; refine ⟨fun _ => ?_, hK _ ?_⟩; (go_at_call 40; exact Calls.low_of (rowfits_agg nm pc n cc f q (tAt R k).2 cp _ hn (HC2.out.low (lowW_low _ _ _)) (HQ2.out.low (lowW_low _ _ _)) (HZ.out _ (tAt_mem hlt)))); clear hK K))
                refine wq_nil ?_
                rintro _ ⟨⟨d3, os3⟩, rfl⟩
                dsimp only
                have hlow := lowW_low W2 d3 os3
                clear l0 l1 l2 l3 m0 m1 x0 x1 x2 x3 r0 r1 hXl hcl hxl HQ2 HR2 HPREV2
                generalize lowW W2 d3 os3 = W3 at hlow ⊢
                have HX3 := Lib.hid (HX2.out.low hlow)
                have HC3 := Lib.hid (HC2.out.low hlow)
                have HB3 := Lib.hid (below_next HB2.out hlow)
                clear hlow HX2 HC2 HB2
                cases hz : (fitsRow f n (tAt R k).2 != 0)
                · have HROW : Hid (RowOK f n nx R k) := Lib.hid ⟨by omega, by omega, (fun h => absurd h h3), by simpa using hz⟩
                  go_wp2
                  go_roundw
                  case rel => exact ⟨k + 1, by omega, by go_num, all_succ HOK.out HROW.out, HX3.out, HC3.out, HB3.out⟩
                  case measure => simp [intOf]; omega
                · have HV := Lib.hid (validT_row (nm := nm) hlt (not_ok_fit (f := f) (n := n) (nx := nx) (bne_iff_ne.1 hz)))
                  go_wp2
                  go_ret
                  exact ⟨ret_b HV.out.symm, HB3.out⟩
        · have hlt' : decide ((k : Int) < R.length) = false := decide_eq_false (by omega)
          obtain rfl : k = R.length := by omega
          obtain ⟨hxl, x0, x1, x2, x3, -⟩ := HX.out
          have HV := Lib.hid (validT_dup HSO.out HH.out HOK.out)
          go_wp2_with fail
          refine (rdup_any ⟨nm, pc, n, cc, f, nx, pr, cr, R⟩ _ (HT.out.low HB.out)).mono ?_
          rintro e w9 ⟨rfl, hb9⟩
          have HB9 := Lib.hid (below_next HB.out hb9)
          clear hb9
          go_wp2
          go_ret
          exact ⟨ret_b HV.out.symm, HB9.out⟩
    · have HV := Lib.hid (validT_head (nm := nm) (n := n) (f := f) hh)
      by_cases h1 : 100 < R.length
      · have g1 : decide ((100 : Int) < (R.length : Int)) = true := decide_eq_true (by omega)
        go_wp2
        go_ret
        exact ⟨ret_b HV.out.symm, HB1.out⟩
      · have g1 : decide ((100 : Int) < (R.length : Int)) = false := decide_eq_false (by omega)
        by_cases h2 : nx < 1
        · have g2 : decide (nx < 1) = true := decide_eq_true h2
          go_wp2
          go_ret
          exact ⟨ret_b HV.out.symm, HB1.out⟩
        · have g2 : decide (nx < 1) = false := decide_eq_false h2
          have g3 : decide ((2147483648 : Int) < nx) = true := decide_eq_true (by omega)
          go_wp2
          go_ret
          exact ⟨ret_b HV.out.symm, HB1.out⟩
end Go.Proofs.YtnahjnomidlppaaDoor
/-
  Tables: New of the reference.
-/
namespace Go.Proofs.YtnahjnomidlppaaDoor
set_option maxRecDepth 100000
open Go.RowKit
variable {ls : List Nat}

/-- What New gives. -/
def TNewPost (nm : ByteArray) (n : Nat) (f : Nat → Col) (w : World) (e : Ending) (w' : World) : Prop := ∃ (T : Tab) (er : Int), e = .returned (.tuple #[T.v, .int .i64 er]) ∧ TabAt w' T ∧ T.R = [] ∧ Below w.heap.size w w' ∧
  ((schemaOK nm n f = true ∧ er = 0 ∧ T.nm = nm ∧ T.n = n ∧ (∀ i, i < n → T.f i = f i) ∧ T.nx = 1) ∨ (schemaOK nm n f = false ∧ er = 17 ∧ T.nm = ⟨#[]⟩ ∧ T.n = 0 ∧ T.nx = 0))
theorem schemaOK_range {nm : ByteArray} {n : Nat} {f : Nat → Col} (h : schemaOK nm n f = true) : 1 ≤ n ∧ n ≤ 6 := by
  unfold schemaOK at h
  simp only [Bool.and_eq_true, decide_eq_true_eq] at h
  exact h.1.2
theorem ColsAt.ptr {w : World} {p : Option Addr} {n : Nat} {f : Nat → Col} (h : ColsAt w p n f) (hn : 0 < n) : ∃ c o, p = some ⟨c, o, none⟩ ∧ c < w.heap.size := by
  obtain ⟨c, o, hp, hc, -⟩ := h 0 hn
  exact ⟨c, o, hp, hc⟩
theorem Cell4.far {u : World} {X Y : Nat} {a b c d : Value} (h : Cell4 u X a b c d) (hn : X ≠ Y) {o : Nat} (v : Value) : Cell4 (u.setCell ⟨Y, o, none⟩ v) X a b c d := by
  have hb : ∀ o', (u.setCell ⟨Y, o, none⟩ v).cell? ⟨X, o', none⟩ = u.cell? ⟨X, o', none⟩ := fun o' => World.cell?_of_block (w := u) (Below.heap_setCell _ _ _ _ hn)
  exact ⟨by simpa [World.setCell] using h.lt, by rw [hb]; exact h.c0, by rw [hb]; exact h.c1, by rw [hb]; exact h.c2, by rw [hb]; exact h.c3, fun o' => by rw [World.frozen?_setCell]; exact h.fz o'⟩
theorem Cell4.set2 {u : World} {X : Nat} {a b c d : Value} (h : Cell4 u X a b c d) (y : Value) : Cell4 (u.setCell ⟨X, 2, none⟩ y) X a b y d := by
  obtain ⟨hl, c0, c1, c2, c3, fz⟩ := h
  refine ⟨by simpa [World.setCell] using hl, ?_, ?_, ?_, ?_, fun o => ?_⟩
  · go_simp
  · go_simp
  · go_simp
  · go_simp
  · rw [World.frozen?_setCell]; exact fz o
theorem Cell4.set3 {u : World} {X : Nat} {a b c d : Value} (h : Cell4 u X a b c d) (y : Value) : Cell4 (u.setCell ⟨X, 3, none⟩ y) X a b c y := by
  obtain ⟨hl, c0, c1, c2, c3, fz⟩ := h
  refine ⟨by simpa [World.setCell] using hl, ?_, ?_, ?_, ?_, fun o => ?_⟩
  · go_simp
  · go_simp
  · go_simp
  · go_simp
  · rw [World.frozen?_setCell]; exact fz o
theorem cell4_put (u : World) {X : Nat} {a b c d : Value} (h : Cell4 u X a b c d) (x y z t : Value) : Cell4 ((((u.setCell ⟨X, 0, none⟩ x).setCell ⟨X, 1, none⟩ y).setCell ⟨X, 2, none⟩ z).setCell ⟨X, 3, none⟩ t) X x y z t := by
  obtain ⟨hl, c0, c1, c2, c3, fz⟩ := h
  refine ⟨by simpa [World.setCell] using hl, ?_, ?_, ?_, ?_, fun o => ?_⟩
  · go_simp
  · go_simp
  · go_simp
  · go_simp
  · rw [World.frozen?_setCell, World.frozen?_setCell, World.frozen?_setCell, World.frozen?_setCell]; exact fz o
def zeroTab : Tab := ⟨⟨#[]⟩, none, 0, 0, fun _ => default, 0, none, 0, []⟩
theorem zeroTab_at (w : World) : TabAt w zeroTab := ⟨by decide, by decide, (fun i hi => absurd hi (Nat.not_lt_zero _)), TRowsAt.nil _ _, by decide, fun r hr => absurd hr (List.not_mem_nil), by decide⟩
end Go.Proofs.YtnahjnomidlppaaDoor
/-
  Equal texts.
-/
namespace Go.Proofs.YtnahjnomidlppaaDoor
set_option maxRecDepth 100000
open Go.RowKit
theorem eq_texts {a b : ByteArray} (h : a = b) : (a.toList == b.toList) = true := by rw [h]; exact beq_self_eq_true _
theorem ne_texts {a b : ByteArray} (h : a ≠ b) : (a.toList == b.toList) = false := by
  rw [beq_eq_false_iff_ne, ByteArray.toList_eq, ByteArray.toList_eq]
  exact fun hc => h (ByteArray.ext (Array.toList_inj.1 hc))

end Go.Proofs.YtnahjnomidlppaaDoor
/-
  The schemas of the world.
-/
namespace Go.Proofs.YtnahjnomidlppaaDoor
set_option maxRecDepth 100000
open Go.RowKit
variable {ls : List Nat}

def colLog : Nat → Col := fun i => match i with | 0 => ⟨⟨#[110]⟩, 1, false, false⟩ | _ => ⟨⟨#[115]⟩, 3, false, false⟩
def colT : Nat → Col := fun i => match i with | 0 => ⟨⟨#[105, 100]⟩, 1, true, true⟩ | 1 => ⟨⟨#[110]⟩, 1, false, false⟩ | 2 => ⟨⟨#[98]⟩, 2, false, false⟩ | _ => ⟨⟨#[115]⟩, 3, false, false⟩
def colU : Nat → Col := fun i => match i with | 0 => ⟨⟨#[105, 100]⟩, 1, true, true⟩ | 1 => ⟨⟨#[110]⟩, 1, true, false⟩ | _ => ⟨⟨#[109]⟩, 1, false, false⟩
/-- The list of the three schemas. -/
structure SchemasAt (u : World) (X Y Z U : Nat) : Prop where
  lt : X < u.heap.size
  c0 : u.cell? ⟨X, 0, none⟩ = some (.string ⟨#[108, 111, 103]⟩)
  c1 : u.cell? ⟨X, 1, none⟩ = some (.slice (some ⟨Y, 0, none⟩) 2 2)
  c2 : u.cell? ⟨X, 2, none⟩ = some (.string ⟨#[116]⟩)
  c3 : u.cell? ⟨X, 3, none⟩ = some (.slice (some ⟨Z, 0, none⟩) 4 4)
  c4 : u.cell? ⟨X, 4, none⟩ = some (.string ⟨#[117]⟩)
  c5 : u.cell? ⟨X, 5, none⟩ = some (.slice (some ⟨U, 0, none⟩) 3 3)
  logC : ColsAt u (some ⟨Y, 0, none⟩) 2 colLog
  tC : ColsAt u (some ⟨Z, 0, none⟩) 4 colT
  uC : ColsAt u (some ⟨U, 0, none⟩) 3 colU
theorem SchemasAt.low {u v : World} {X Y Z U : Nat} (h : SchemasAt u X Y Z U) (hb : Below u.heap.size u v) : SchemasAt v X Y Z U := by
  obtain ⟨hl, c0, c1, c2, c3, c4, c5, a, b, c⟩ := h
  exact ⟨Nat.lt_of_lt_of_le hl hb.size, by rw [hb.cell (by exact hl)]; exact c0, by rw [hb.cell (by exact hl)]; exact c1, by rw [hb.cell (by exact hl)]; exact c2, by rw [hb.cell (by exact hl)]; exact c3, by rw [hb.cell (by exact hl)]; exact c4, by rw [hb.cell (by exact hl)]; exact c5, a.low hb, b.low hb, c.low hb⟩

theorem log_new (w : World) (t : TypeId) : ColsAt (w.alloc (.cells #[.string ⟨#[110]⟩, .int .i64 1, .bool false, .bool false, .string ⟨#[115]⟩, .int .i64 3, .bool false, .bool false] t)) (some ⟨w.heap.size, 0, none⟩) 2 colLog := by
  intro i hi
  obtain rfl | rfl : i = 0 ∨ i = 1 := by omega
  all_goals
    refine ⟨w.heap.size, 0, rfl, by simp, by decide, ?_, ?_, ?_, ?_⟩
    all_goals simp only [colLog]; go_simp
theorem t_new (w : World) (t : TypeId) : ColsAt (w.alloc (.cells #[.string ⟨#[105, 100]⟩, .int .i64 1, .bool true, .bool true, .string ⟨#[110]⟩, .int .i64 1, .bool false, .bool false, .string ⟨#[98]⟩, .int .i64 2, .bool false, .bool false, .string ⟨#[115]⟩, .int .i64 3, .bool false, .bool false] t)) (some ⟨w.heap.size, 0, none⟩) 4 colT := by
  intro i hi
  obtain rfl | rfl | rfl | rfl : i = 0 ∨ i = 1 ∨ i = 2 ∨ i = 3 := by omega
  all_goals
    refine ⟨w.heap.size, 0, rfl, by simp, by decide, ?_, ?_, ?_, ?_⟩
    all_goals simp only [colT]; go_simp
theorem u_new (w : World) (t : TypeId) : ColsAt (w.alloc (.cells #[.string ⟨#[105, 100]⟩, .int .i64 1, .bool true, .bool true, .string ⟨#[110]⟩, .int .i64 1, .bool true, .bool false, .string ⟨#[109]⟩, .int .i64 1, .bool false, .bool false] t)) (some ⟨w.heap.size, 0, none⟩) 3 colU := by
  intro i hi
  obtain rfl | rfl | rfl : i = 0 ∨ i = 1 ∨ i = 2 := by omega
  all_goals
    refine ⟨w.heap.size, 0, rfl, by simp, by decide, ?_, ?_, ?_, ?_⟩
    all_goals simp only [colU]; go_simp

def SchemasPost (w : World) (e : Ending) (w' : World) : Prop := ∃ X Y Z U : Nat, e = .returned (.slice (some ⟨X, 0, none⟩) 3 3) ∧ SchemasAt w' X Y Z U ∧ w.heap.size ≤ X ∧ w.heap.size ≤ Y ∧ w.heap.size ≤ Z ∧ w.heap.size ≤ U ∧ Below w.heap.size w w'
set_option maxHeartbeats 1000000 in
theorem schemas_any (w : World) :
    Calls Tryd.prog 22 #[] w (SchemasPost w) := by
  go_enter Tryd.func22, Tryd.ntmps22
  go_wp2
  go_ret
  refine ⟨w.heap.size + 1 + 1 + 1, w.heap.size, w.heap.size + 1, w.heap.size + 1 + 1, rfl, ⟨by simp, ?_, ?_, ?_, ?_, ?_, ?_, ?_, ?_, ?_⟩, by omega, by omega, by omega, by omega, ?_⟩
  · go_simp
  · go_simp
  · go_simp
  · go_simp
  · go_simp
  · go_simp
  · exact (((log_new w _).low (below_alloc _ _)).low (below_alloc _ _)).low (below_alloc _ _)
  · exact ColsAt.low (ColsAt.low (cols_at (size_alloc _ _) (t_new _ _)) (below_alloc _ _)) (below_alloc _ _)
  · exact ColsAt.low (cols_at (by rw [size_alloc, size_alloc]) (u_new _ _)) (below_alloc _ _)
  · exact below_new (below_new (below_new (below_new (Below.refl _ _) _) _) _) _

def SchemaTPost (w : World) (e : Ending) (w' : World) : Prop := ∃ Z : Nat, e = .returned (schV ⟨#[116]⟩ (some ⟨Z, 0, none⟩) 4 4) ∧ ColsAt w' (some ⟨Z, 0, none⟩) 4 colT ∧ w.heap.size < Z ∧ Below w.heap.size w w'
set_option maxHeartbeats 1000000 in
theorem schemaT_any (w : World) :
    Calls Tryd.prog 8 #[.string ⟨#[116]⟩] w (SchemaTPost w) := by
  go_enter Tryd.func8, Tryd.ntmps8
  go_wp2_with fail
  refine (schemas_any _).mono ?_
  rintro e w1 ⟨X, Y, Z, U, rfl, hS, hX, hY, hZ, hU, hb⟩
  obtain ⟨hq, hb'⟩ := two_one hb
  have HZ : Hid (w.heap.size < Z) := Lib.hid (by rw [size_alloc] at hZ; omega)
  have HX : Hid (w.heap.size < X) := Lib.hid (by rw [size_alloc] at hX; omega)
  have HS := Lib.hid hS
  have HQ := Lib.hid hq
  have HB := Lib.hid hb'
  clear hX hY hZ hU hS hb hb' hq
  have e0 : ((⟨#[108, 111, 103]⟩ : ByteArray).toList == (⟨#[116]⟩ : ByteArray).toList) = false := ne_texts (by decide)
  have e1 : ((⟨#[116]⟩ : ByteArray).toList == (⟨#[116]⟩ : ByteArray).toList) = true := eq_texts rfl
  go_wp2_with fail
  go_loopw [7] (fun i v => ∃ k : Nat, k ≤ 1 ∧ i = .int .i64 k ∧ Below w.heap.size w v ∧ SchemasAt v X Y Z U ∧ Cell2 v w.heap.size (.string ⟨#[]⟩) (.slice none 0 0)) (fun i _ => 3 - (intOf i).toNat)
  case atStart => exact ⟨0, Nat.zero_le _, rfl, HB.out, HS.out, HQ.out⟩
  case round =>
    obtain ⟨k, hk, rfl, hb, hs, hq⟩ := hrel
    have HB1 := Lib.hid hb
    have HS1 := Lib.hid hs
    have HQ1 := Lib.hid hq
    obtain ⟨hl, c0, c1, c2, c3, c4, c5, hcl, hct, hcu⟩ := hs
    obtain ⟨dz, d0, d1, dfz⟩ := hq
    clear hb hcl hct hcu
    obtain rfl | rfl : k = 0 ∨ k = 1 := by omega
    · go_wp2
      go_roundw
      case rel => exact ⟨1, by omega, by go_num, below_new HB1.out _, HS1.out.low (below_alloc _ _), HQ1.out.low (below_alloc _ _)⟩
      case measure => simp [intOf]
    · go_wp2
      obtain ⟨sz, s0, s1, sf⟩ := (cell2_set HQ1.out (.string ⟨#[116]⟩) (.slice (some ⟨Z, 0, none⟩) 4 4)).low (below_alloc _ (.cells #[.string ⟨#[116]⟩, .slice (some ⟨Z, 0, none⟩) 4 4] 24))
      exact bodyPost_ret (v := schV ⟨#[116]⟩ (some ⟨Z, 0, none⟩) 4 4) (by simp [results, Tryd.results8, go_sem, s0, s1, schV]) rfl ⟨Z, rfl, ((HS1.out.tC.set (fun q hq => by cases hq; exact Nat.ne_of_gt HZ.out) _).set (fun q hq => by cases hq; exact Nat.ne_of_gt HZ.out) _).low (below_alloc _ _), HZ.out, below_new ((HB1.out.setCell (by exact Nat.le_refl _) _).setCell (by exact Nat.le_refl _) _) _⟩
end Go.Proofs.YtnahjnomidlppaaDoor
