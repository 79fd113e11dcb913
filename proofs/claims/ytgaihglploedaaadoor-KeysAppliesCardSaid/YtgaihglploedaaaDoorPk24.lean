/-
  Several texts in one.
-/
import Derived.Test.YtgaihglploedaaaDoorPk23
import Derived.Test.YtgaihglploedaaaDoorPk18
import Derived.Test.YtgaihglploedaaaDoorPk16
import Derived.Test.YtgaihglploedaaaDoorPk19
import Derived.Test.YtgaihglploedaaaDoorPk20
import Derived.Test.YtgaihglploedaaaDoorPk22
/-
  Package table: Valid.
-/
namespace Go.Proofs.YtgaihglploedaaaDoor
set_option maxRecDepth 100000
open Go.RowKit
variable {ls : List Nat}

theorem row_hi {f : Nat → Col} {n : Nat} {nx : Int} {R : List TRow} {i : Nat} (h : nx ≤ (tAt R i).1) : ¬ RowOK f n nx R i := fun hc => by have := hc.2.1; omega
theorem row_fit {f : Nat → Col} {n : Nat} {nx : Int} {R : List TRow} {i : Nat} (h : ¬ fitsRow f n (tAt R i).2 = 0) : ¬ RowOK f n nx R i := fun hc => h hc.2.2.2
theorem rowfits6_any (nm : ByteArray) (p : Option Addr) (n cap : Nat) (f : Nat → Col) (q : Option Addr) (l : List Val) (cq : Nat) (w : World) (hn : n ≤ 9223372036854775807) (hC : ColsAt w p n f) (hR : RowAt w q l) (hS : ValsSized l) :
    Calls Tryd.prog 15 #[.agg #[.string nm, .slice p n cap], .slice q l.length cq] w fun e w' => e = .returned (.int .i64 (fitsRow f n l)) ∧ Below w.heap.size w w' := by
  have := rowfits_any nm p n cap f q l cq w hn hC hR hS
  unfold schV at this
  exact this
def nextOK (nx : Int) : Bool := decide (1 ≤ nx ∧ nx ≤ 2147483648)
set_option maxHeartbeats 400000 in
theorem validnext_any (nx : Int) (w : World) (hn : nx ≤ 9223372036854775807) :
    Calls Tryd.prog 76 #[.int .i64 nx] w fun e w' => e = .returned (.bool (nextOK nx)) ∧ Below w.heap.size w w' := by
  by_cases h1 : 1 ≤ nx
  · have g1 : decide (1 ≤ nx) = true := decide_eq_true h1
    have hw : IntKind.i64.wrap (nx - 1) = nx - 1 := i64w (by omega) (by omega)
    have hr : decide (nx - 1 ≤ 2147483647) = nextOK nx := by unfold nextOK; rw [decide_eq_decide]; omega
    go_enter Tryd.func76, Tryd.ntmps76
    go_wp2
    go_ret
    exact ⟨rfl, Below.refl _ _⟩
  · have g1 : decide (1 ≤ nx) = false := decide_eq_false h1
    have hr : nextOK nx = false := decide_eq_false (fun h => h1 h.1)
    go_enter Tryd.func76, Tryd.ntmps76
    go_wp2
    go_ret
    exact ⟨rfl, Below.refl _ _⟩
/-- The rows up to k are right. -/
def rowsOK (f : Nat → Col) (n : Nat) (nx : Int) (R : List TRow) : Bool := decide (∀ i, i < R.length → RowOK f n nx R i)
/-- The number of the row before row k. -/
def befR (R : List TRow) (k : Nat) : Int := if k = 0 then 0 else (tAt R (k - 1)).1
theorem befR_succ (R : List TRow) (k : Nat) : befR R (k + 1) = (tAt R k).1 := by unfold befR; rw [if_neg (by omega), Nat.add_sub_cancel]
theorem row_not_bef {f : Nat → Col} {n : Nat} {nx : Int} {R : List TRow} {k : Nat} (h : (tAt R k).1 ≤ befR R k) : ¬ RowOK f n nx R k := by
  intro hc
  unfold befR at h
  split at h
  · have := hc.1; omega
  · have := hc.2.2.1 (by omega); omega
theorem row_yes {f : Nat → Col} {n : Nat} {nx : Int} {R : List TRow} {k : Nat} (hp : ∀ j, j < k → RowOK f n nx R j) (h1 : ¬ (tAt R k).1 ≤ befR R k) (h2 : ¬ nx ≤ (tAt R k).1) (h3 : fitsRow f n (tAt R k).2 = 0) : RowOK f n nx R k := by
  unfold befR at h1
  split at h1
  · exact ⟨by omega, by omega, fun h => by omega, h3⟩
  · have := (hp (k - 1) (by omega)).1
    exact ⟨by omega, by omega, fun h => by omega, h3⟩
theorem rowsOK_no {f : Nat → Col} {n : Nat} {nx : Int} {R : List TRow} {k : Nat} (hk : k < R.length) (h : ¬ RowOK f n nx R k) : rowsOK f n nx R = false := decide_eq_false fun hc => h (hc k hk)
theorem rowsOK_yes {f : Nat → Col} {n : Nat} {nx : Int} {R : List TRow} (h : ∀ i, i < R.length → RowOK f n nx R i) : rowsOK f n nx R = true := decide_eq_true h
set_option maxHeartbeats 2000000 in
theorem validrows_any (T : Tab) (w : World) (hT : TabAt w T) :
    Calls Tryd.prog 77 #[T.v] w fun e w' => e = .returned (.bool (rowsOK T.f T.n T.nx T.R)) ∧ Below w.heap.size w w' := by
  obtain ⟨nm, pc, n, cc, f, nx, pr, cr, R⟩ := T
  obtain ⟨hnm, hn, hC, hR, hl, hz⟩ := hT
  unfold Tab.v
  dsimp only at *
  have HR := Lib.hid hR
  have HZ := Lib.hid hz
  have hb0 : Below w.heap.size w (w.alloc (.cells #[.string nm, .slice pc n cc, .int .i64 nx, .slice pr R.length cr] 51)) := below_new (Below.refl _ _) _
  have HC := Lib.hid (hC.low hb0)
  have HX := Lib.hid (cell4_new w (.string nm) (.slice pc n cc) (.int .i64 nx) (.slice pr R.length cr) 51)
  have HB0 := Lib.hid hb0
  clear hC hR hz hb0
  go_enter Tryd.func77, Tryd.ntmps77
  go_wp2_with fail
  go_loopw [3, 9] (fun bv i v => ∃ k : Nat, k ≤ R.length ∧ i = .int .i64 k ∧ bv = .int .i64 (befR R k) ∧ (∀ j, j < k → RowOK f n nx R j) ∧ Cell4 v w.heap.size (.string nm) (.slice pc n cc) (.int .i64 nx) (.slice pr R.length cr) ∧ ColsAt v pc n f ∧ Below w.heap.size w v) (fun _ i _ => R.length - (intOf i).toNat)
  case atStart => exact ⟨0, Nat.zero_le _, rfl, rfl, fun j hj => by omega, HX.out, HC.out, HB0.out⟩
  clear HX HC HB0
  case round =>
    obtain ⟨k, hk, rfl, rfl, hok, hx, hc, hb⟩ := hrel
    have HOK := Lib.hid hok
    have HX := Lib.hid hx
    have HC := Lib.hid hc
    have HB := Lib.hid hb
    clear hok hx hc hb
    by_cases hlt : k < R.length
    · have hlt' : decide ((k : Int) < R.length) = true := decide_eq_true (by omega)
      obtain ⟨c, o, q, cp, rfl, hc, h0, h1, hr, hs, hqn⟩ := HR.out.low HB.out k hlt
      have HQ := Lib.hid hr
      clear hr hqn
      have hbn := below_alloc wr (.cells #[.int .i64 (tAt R k).1, .slice q (tAt R k).2.length cp] 68)
      have HX2 := Lib.hid (HX.out.low hbn)
      have HC2 := Lib.hid (HC.out.low hbn)
      have HB2 := Lib.hid (below_next HB.out hbn)
      have HQ2 := Lib.hid (HQ.out.low hbn)
      obtain ⟨hxl, x0, x1, x2, x3, -⟩ := HX2.out
      obtain ⟨hxl9, y0, y1, y2, y3, -⟩ := HX.out
      have HR0 := Lib.hid (row2_new wr (.int .i64 (tAt R k).1) (.slice q (tAt R k).2.length cp) 68)
      clear HX HC HB HQ hbn
      by_cases h1 : (tAt R k).1 ≤ befR R k
      · have e1 : decide ((tAt R k).1 ≤ befR R k) = true := decide_eq_true h1
        have HV := Lib.hid (rowsOK_no hlt (row_not_bef (f := f) (n := n) (nx := nx) h1))
        go_wp2
        go_ret
        exact ⟨ret_b HV.out.symm, HB2.out⟩
      · have e1 : decide ((tAt R k).1 ≤ befR R k) = false := decide_eq_false h1
        by_cases h2 : nx ≤ (tAt R k).1
        · have e2 : decide (nx ≤ (tAt R k).1) = true := decide_eq_true h2
          have HV := Lib.hid (rowsOK_no hlt (row_hi (f := f) (n := n) (nx := nx) h2))
          go_wp2
          go_ret
          exact ⟨ret_b HV.out.symm, HB2.out⟩
        · have e2 : decide (nx ≤ (tAt R k).1) = false := decide_eq_false h2
          go_wp2_with fail
          refine (rowfits6_any nm pc n cc f q (tAt R k).2 cp _ hn HC2.out HQ2.out (HZ.out _ (tAt_mem hlt))).mono ?_
          rintro e w3 ⟨rfl, hb3⟩
          have r4 : w3.cell? ⟨wr.heap.size, 0, none⟩ = some (.int .i64 (tAt R k).1) := by rw [hb3.cell (by simp)]; exact HR0.out.1
          have HX3 := Lib.hid (HX2.out.low hb3)
          have HC3 := Lib.hid (HC2.out.low hb3)
          have HB3 := Lib.hid (below_next HB2.out hb3)
          clear hb3 HX2 HC2 HB2 HR0 hxl x0 x1 x2 x3 hxl9 y0 y1 y2 y3 h0 hc
          cases hz : (fitsRow f n (tAt R k).2 != 0)
          · have HROW : Hid (RowOK f n nx R k) := Lib.hid (row_yes HOK.out (by omega) (by omega) (by simpa using hz))
            go_wp2
            go_roundw
            case rel => exact ⟨k + 1, by omega, by go_num, by rw [befR_succ], all_succ HOK.out HROW.out, HX3.out, HC3.out, HB3.out⟩
            case measure => simp [intOf]; omega
          · have HV := Lib.hid (rowsOK_no hlt (row_fit (f := f) (n := n) (nx := nx) (bne_iff_ne.1 hz)))
            go_wp2
            go_ret
            exact ⟨ret_b HV.out.symm, HB3.out⟩
    · have hlt' : decide ((k : Int) < R.length) = false := decide_eq_false (by omega)
      obtain rfl : k = R.length := by omega
      have HV := Lib.hid (rowsOK_yes HOK.out)
      go_wp2
      go_ret
      exact ⟨ret_b HV.out.symm, HB.out⟩
theorem svalid6_eq {nm : ByteArray} {p : Option Addr} {n cap : Nat} {f : Nat → Col} {w : World} {b : Bool} (hs : nm.size ≤ 9223372036854775807) (hn : n ≤ 9223372036854775807) (hC : ColsAt w p n f) (h : schemaOK nm n f = b) :
    Calls Tryd.prog 75 #[.agg #[.string nm, .slice p n cap]] w fun e w' => e = .returned (.bool b) ∧ Below w.heap.size w w' := by
  subst h; exact svalid_any nm p n cap f w hs hn hC
theorem validnext_eq {nx : Int} {b : Bool} (hn : nx ≤ 9223372036854775807) (h : nextOK nx = b) (w : World) :
    Calls Tryd.prog 76 #[.int .i64 nx] w fun e w' => e = .returned (.bool b) ∧ Below w.heap.size w w' := by
  subst h; exact validnext_any nx w hn
theorem valid_is {nm : ByteArray} {n : Nat} {f : Nat → Col} {nx : Int} {R : List TRow} {a b c d e : Bool} (h1 : schemaOK nm n f = a) (h2 : nextOK nx = b) (h3 : decide ((R.length : Int) ≤ 100) = c) (h4 : rowsOK f n nx R = d) (h5 : dupR (findKey f n) R = e) : validT nm n f nx R = (a && b && c && d && !e) := by
  subst h1 h2 h3 h4 h5
  unfold validT nextOK rowsOK
  have : decide (R.length ≤ 100 ∧ 1 ≤ nx ∧ nx ≤ 2147483648) = (decide (1 ≤ nx ∧ nx ≤ 2147483648) && decide ((R.length : Int) ≤ 100)) := by
    rw [← Bool.decide_and, decide_eq_decide]
    omega
  rw [this]
  simp only [Bool.and_assoc]
set_option maxHeartbeats 2000000 in
theorem tvalid_any (T : Tab) (w : World) (hT : TabAt w T) :
    Calls Tryd.prog 39 #[T.v] w fun e w' => e = .returned (.bool T.valid) ∧ Below w.heap.size w w' := by
  have hnx := hT.nxr
  obtain ⟨nm, pc, n, cc, f, nx, pr, cr, R⟩ := T
  obtain ⟨hnm, hn, hC, -⟩ := id hT
  have hvr : ∀ v (b : Bool), rowsOK f n nx R = b → TabAt v ⟨nm, pc, n, cc, f, nx, pr, cr, R⟩ → Calls Tryd.prog 77 #[Tab.v ⟨nm, pc, n, cc, f, nx, pr, cr, R⟩] v fun e w' => e = .returned (.bool b) ∧ Below v.heap.size v w' := by
    intro v b h hv
    subst h
    exact validrows_any ⟨nm, pc, n, cc, f, nx, pr, cr, R⟩ v hv
  have hdp := fun v (hv : TabAt v ⟨nm, pc, n, cc, f, nx, pr, cr, R⟩) => dup_any ⟨nm, pc, n, cc, f, nx, pr, cr, R⟩ v hv
  unfold Tab.v at hvr
  unfold Tab.v Tab.key at hdp
  unfold Tab.v Tab.valid
  dsimp only at hnm hn hC hnx hvr hdp ⊢
  have hb0 : Below w.heap.size w (w.alloc (.cells #[.string nm, .slice pc n cc, .int .i64 nx, .slice pr R.length cr] 51)) := below_new (Below.refl _ _) _
  have HT := Lib.hid (hT.low hb0)
  have HC := Lib.hid (hC.low hb0)
  have HB := Lib.hid hb0
  have HX := Lib.hid (cell4_new w (.string nm) (.slice pc n cc) (.int .i64 nx) (.slice pr R.length cr) 51)
  obtain ⟨hxl, x0, x1, x2, x3, -⟩ := HX.out
  have HVR := Lib.hid hvr
  have HDP := Lib.hid hdp
  clear hT hC hb0 hvr hdp
  obtain ⟨e5, h5⟩ : ∃ e, dupR (findKey f n) R = e := ⟨_, rfl⟩
  go_enter Tryd.func39, Tryd.ntmps39
  go_wp2_with fail
  refine (svalid_any nm pc n cc f _ hnm hn HC.out).mono ?_
  rintro e w1 ⟨rfl, hb⟩
  have HX1 := Lib.hid (HX.out.low hb)
  have HT1 := Lib.hid (HT.out.low hb)
  have HB1 := Lib.hid (below_next HB.out hb)
  clear hb HX HT HB x0 x1 x2 x3 hxl
  obtain ⟨hxl, x0, x1, x2, x3, -⟩ := HX1.out
  cases h1 : schemaOK nm n f
  · have HV := Lib.hid (validT_schema (nx := nx) (R := R) h1)
    go_wp2
    go_ret
    exact ⟨ret_b HV.out.symm, HB1.out⟩
  · go_wp2_with fail
    refine (validnext_any nx _ hnx).mono ?_
    rintro e w2 ⟨rfl, hb⟩
    have HX2 := Lib.hid (HX1.out.low hb)
    have HT2 := Lib.hid (HT1.out.low hb)
    have HB2 := Lib.hid (below_next HB1.out hb)
    clear hb HX1 HT1 HB1 x0 x1 x2 x3 hxl
    obtain ⟨hxl, x0, x1, x2, x3, -⟩ := HX2.out
    cases h2 : nextOK nx
    · have HV := Lib.hid (valid_is h1 h2 rfl rfl h5)
      go_wp2
      go_ret
      exact ⟨ret_b HV.out.symm, HB2.out⟩
    · cases h3 : decide ((R.length : Int) ≤ 100)
      · have HV := Lib.hid (valid_is h1 h2 h3 rfl h5)
        go_wp2
        go_ret
        exact ⟨ret_b HV.out.symm, HB2.out⟩
      · go_wp2_with fail
        refine (HVR.out _ _ rfl HT2.out).mono ?_
        rintro e w3 ⟨rfl, hb⟩
        have HX3 := Lib.hid (HX2.out.low hb)
        have HT3 := Lib.hid (HT2.out.low hb)
        have HB3 := Lib.hid (below_next HB2.out hb)
        clear hb HX2 HT2 HB2 x0 x1 x2 x3 hxl
        obtain ⟨hxl, x0, x1, x2, x3, -⟩ := HX3.out
        cases h4 : rowsOK f n nx R
        · have HV := Lib.hid (valid_is h1 h2 h3 h4 h5)
          go_wp2
          go_ret
          exact ⟨ret_b HV.out.symm, HB3.out⟩
        · have HV := Lib.hid (valid_is h1 h2 h3 h4 h5)
          go_wp2_with fail
          refine (HDP.out _ HT3.out).mono ?_
          rintro e w4 ⟨rfl, hb⟩
          have HB4 := Lib.hid (below_next HB3.out hb)
          clear hb
          go_wp2
          go_ret
          exact ⟨ret_b HV.out.symm, HB4.out⟩
end Go.Proofs.YtgaihglploedaaaDoor
/-
  What package table does: the contracts of the landed code.
-/
namespace Go.Proofs.YtgaihglploedaaaDoor
set_option maxRecDepth 100000
open Go.RowKit

theorem table_does : TableDoes := ⟨tvalid_any, tnew_any, get_any, bag_any, look_any, dup_any⟩
end Go.Proofs.YtgaihglploedaaaDoor
