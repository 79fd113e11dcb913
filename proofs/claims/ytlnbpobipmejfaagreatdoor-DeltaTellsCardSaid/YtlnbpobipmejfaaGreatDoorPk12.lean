/-
  Several texts in one.
-/
import Derived.Test.YtlnbpobipmejfaaGreatDoorPk11
import Derived.Test.YtlnbpobipmejfaaGreatDoorPk07
import Derived.Deep.QuietTactic
import Derived.Test.YtlnbpobipmejfaaGreatDoorPk10
/-
  Valid of schemas, of the reference.
-/
namespace Go.Proofs.YtlnbpobipmejfaaGreatDoor
set_option maxRecDepth 100000
open Go.RowKit
variable {ls : List Nat}

theorem rvname_eq {s : ByteArray} {b : Bool} (hs : s.size ≤ 9223372036854775807) (h : nameOK s = b) (w : World) : Calls Tryz.prog 71 #[.string s] w fun e w' => e = .returned (.bool b) ∧ w' = w := (rvalidName_eq hs h w).mono fun _ _ he => ⟨he.1, he.2.symm⟩
theorem keysN_succ (f : Nat → Col) (k : Nat) : keysN f (k + 1) = keysN f k + if (f k).key then 1 else 0 := rfl
theorem keys_yes {f : Nat → Col} {k : Nat} (h : (f k).key = true) : ((keysN f k : Nat) : Int) + 1 = ((keysN f (k + 1) : Nat) : Int) := by rw [keysN_succ, h]; simp
theorem keys_no {f : Nat → Col} {k : Nat} (h : (f k).key = false) : ((keysN f k : Nat) : Int) = ((keysN f (k + 1) : Nat) : Int) := by rw [keysN_succ, h]; simp

set_option maxHeartbeats 2000000 in
theorem rsvalid_any (nm : ByteArray) (p : Option Addr) (n cap : Nat) (f : Nat → Col) (w : World) (hs : nm.size ≤ 9223372036854775807) (hn : n ≤ 9223372036854775807) (hC : ColsAt w p n f) :
    Calls Tryz.prog 49 #[.agg #[.string nm, .slice p n cap]] w fun e w' => e = .returned (.bool (schemaOK nm n f)) ∧ Below w.heap.size w w' := by
  have HC := Lib.hid hC
  clear hC
  cases hnm : nameOK nm
  · have HN := Lib.hid hnm
    clear hnm
    go_enter Tryz.func49, Tryz.ntmps49
    go_wp2_with fail
    refine (rvname_eq hs HN.out _).mono ?_
    rintro e w1 ⟨rfl, rfl⟩
    go_wp2
    go_ret
    exact ⟨ret_b (schemaOK_name HN.out).symm, below_new (Below.refl _ _) _⟩
  have HN := Lib.hid hnm
  clear hnm
  by_cases h1 : n < 1
  · have e0 : decide ((n : Int) < 1) = true := decide_eq_true (by omega)
    have H1 := Lib.hid h1
    clear h1
    go_enter Tryz.func49, Tryz.ntmps49
    go_wp2_with fail
    refine (rvname_eq hs HN.out _).mono ?_
    rintro e w1 ⟨rfl, rfl⟩
    go_wp2
    go_ret
    exact ⟨ret_b (schemaOK_len (.inl H1.out)).symm, below_new (Below.refl _ _) _⟩
  have e0 : decide ((n : Int) < 1) = false := decide_eq_false (by omega)
  by_cases h6 : 6 < n
  · have e6 : decide ((6 : Int) < n) = true := decide_eq_true (by omega)
    have H1 := Lib.hid h6
    clear h6 h1
    go_enter Tryz.func49, Tryz.ntmps49
    go_wp2_with fail
    refine (rvname_eq hs HN.out _).mono ?_
    rintro e w1 ⟨rfl, rfl⟩
    go_wp2
    go_ret
    exact ⟨ret_b (schemaOK_len (.inr H1.out)).symm, below_new (Below.refl _ _) _⟩
  have e6 : decide ((6 : Int) < n) = false := decide_eq_false (by omega)
  have H1 : Hid (1 ≤ n) := Lib.hid (by omega)
  have H6 : Hid (n ≤ 6) := Lib.hid (by omega)
  clear h1 h6
  · skip
    go_enter Tryz.func49, Tryz.ntmps49
    go_wp2_with fail
    refine (rvname_eq hs HN.out _).mono ?_
    rintro e w1 ⟨rfl, rfl⟩
    have HQ := Lib.hid (cell2_new w (.string nm) (.slice p n cap) 28)
    have HB := Lib.hid (below_alloc w (.cells #[.string nm, .slice p n cap] 28))
    go_wp2_with fail
    go_loopw [3, 25] (fun q i v => ∃ k : Nat, k ≤ n ∧ i = .int .i64 k ∧ q = .int .i64 (keysN f k : Nat) ∧ (∀ i, i < k → FairC f i) ∧ Below w.heap.size w v ∧ Cell2 v w.heap.size (.string nm) (.slice p n cap)) (fun _ i _ => n - (intOf i).toNat)
    case atStart => exact ⟨0, Nat.zero_le _, rfl, rfl, fun j hj => by omega, HB.out, HQ.out⟩
    clear HB HQ
    case round =>
      obtain ⟨k, hk, rfl, rfl, ha, hb, hq⟩ := hrel
      have HA := Lib.hid ha
      have HB := Lib.hid hb
      clear ha hb
      by_cases hlt : k < n
      · have hlt' : decide ((k : Int) < n) = true := decide_eq_true (by omega)
        obtain ⟨c, o, rfl, hc, hnm, h0, h1, h2, h3⟩ := HC.out.low HB.out k hlt
        cases hcn : nameOK (f k).nm
        · have HK := Lib.hid hcn
          clear hcn
          go_wp2_with fail
          refine (rvname_eq hnm HK.out _).mono ?_
          rintro e v1 ⟨rfl, rfl⟩
          go_wp2
          go_ret
          exact ⟨ret_b (schemaOK_bad hlt (bad_col (colOK_name HK.out))).symm, below_new HB.out _⟩
        have HK := Lib.hid hcn
        clear hcn
        by_cases ht1 : (f k).ty < 1
        · have e1 : decide ((f k).ty < 1) = true := decide_eq_true ht1
          have HT := Lib.hid ht1
          clear ht1
          go_wp2_with fail
          refine (rvname_eq hnm HK.out _).mono ?_
          rintro e v1 ⟨rfl, rfl⟩
          go_wp2
          go_ret
          exact ⟨ret_b (schemaOK_bad hlt (bad_col (colOK_type (.inl HT.out)))).symm, below_new HB.out _⟩
        have e1 : decide ((f k).ty < 1) = false := decide_eq_false ht1
        by_cases ht3 : 3 < (f k).ty
        · have e3 : decide (3 < (f k).ty) = true := decide_eq_true ht3
          have HT := Lib.hid ht3
          clear ht3 ht1
          go_wp2_with fail
          refine (rvname_eq hnm HK.out _).mono ?_
          rintro e v1 ⟨rfl, rfl⟩
          go_wp2
          go_ret
          exact ⟨ret_b (schemaOK_bad hlt (bad_col (colOK_type (.inr HT.out)))).symm, below_new HB.out _⟩
        have e3 : decide (3 < (f k).ty) = false := decide_eq_false ht3
        have HT1 : Hid (1 ≤ (f k).ty) := Lib.hid (by omega)
        have HT3 : Hid ((f k).ty ≤ 3) := Lib.hid (by omega)
        clear ht1 ht3
        by_cases hkn : (f k).nn = false ∧ (f k).key = true
        · have HKN := Lib.hid hkn
          rw [hkn.1] at h2
          rw [hkn.2] at h3
          clear hkn
          go_wp2_with fail
          refine (rvname_eq hnm HK.out _).mono ?_
          rintro e v1 ⟨rfl, rfl⟩
          go_wp2
          go_ret
          exact ⟨ret_b (schemaOK_bad hlt (bad_col (colOK_null HKN.out.1 HKN.out.2))).symm, below_new HB.out _⟩
        have hor : (f k).nn = true ∨ (f k).key = false := by
          cases hx : (f k).nn <;> cases hy : (f k).key <;> simp_all
        have HOK := Lib.hid (colOK_yes HK.out HT1.out HT3.out hor)
        clear hkn
        cases hkey : (f k).key
        · have HY := Lib.hid hkey
          rw [hkey] at h3
          clear hkey hor
          have HQ := Lib.hid hq
          obtain ⟨qz, q0, q1, qf⟩ := hq
          go_wp2_with fail
          refine (rvname_eq hnm HK.out _).mono ?_
          rintro e v1 ⟨rfl, rfl⟩
          go_wp2_with fail
          refine (rfind_any nm (f k).nm _ n cap f _ hn (HC.out.low (below_new HB.out _))).mono ?_
          rintro e v2 ⟨rfl, hb3⟩
          obtain ⟨⟨sz, s0, s1, s2, s3, sf⟩, hb4⟩ := four_one hb3
          have HB2 := Lib.hid (below_next HB.out hb4)
          have HQ2 := Lib.hid (HQ.out.low hb4)
          obtain ⟨rz, r0, r1, rf⟩ := HQ.out.low hb4
          clear HQ qz q0 q1 qf hb3 hb4 h0 h1 h2 h3
          cases hfd : (findName f n (f k).nm == (k : Int))
          · have HF := Lib.hid hfd
            have hne := beq_eq_false_iff_ne.1 hfd
            have hne' := fun h => hne (Eq.symm h)
            clear hfd s1 s2 s3
            go_wp2
            go_ret
            exact ⟨ret_b (schemaOK_bad hlt (bad_find hlt HF.out)).symm, HB2.out⟩
          · have HF := Lib.hid hfd
            rw [beq_iff_eq.1 hfd]
            clear hfd
            skip
            go_wp2
            go_roundw
            case rel => exact ⟨k + 1, by omega, by go_num, by rw [← keys_no HY.out], all_succ HA.out (is_fair hlt HOK.out HF.out), HB2.out, HQ2.out⟩
            case measure => simp [intOf]; omega
        · have HY := Lib.hid hkey
          rw [hkey] at h3
          rw [show (f k).nn = true from by rcases hor with h | h; exact h; rw [hkey] at h; cases h] at h2
          clear hkey hor
          have HQ := Lib.hid hq
          obtain ⟨qz, q0, q1, qf⟩ := hq
          go_wp2_with fail
          refine (rvname_eq hnm HK.out _).mono ?_
          rintro e v1 ⟨rfl, rfl⟩
          go_wp2_with fail
          refine (rfind_any nm (f k).nm _ n cap f _ hn (HC.out.low (below_new HB.out _))).mono ?_
          rintro e v2 ⟨rfl, hb3⟩
          obtain ⟨⟨sz, s0, s1, s2, s3, sf⟩, hb4⟩ := four_one hb3
          have HB2 := Lib.hid (below_next HB.out hb4)
          have HQ2 := Lib.hid (HQ.out.low hb4)
          obtain ⟨rz, r0, r1, rf⟩ := HQ.out.low hb4
          clear HQ qz q0 q1 qf hb3 hb4 h0 h1 h2 h3
          cases hfd : (findName f n (f k).nm == (k : Int))
          · have HF := Lib.hid hfd
            have hne := beq_eq_false_iff_ne.1 hfd
            have hne' := fun h => hne (Eq.symm h)
            clear hfd s1 s2 s3
            go_wp2
            go_ret
            exact ⟨ret_b (schemaOK_bad hlt (bad_find hlt HF.out)).symm, HB2.out⟩
          · have HF := Lib.hid hfd
            rw [beq_iff_eq.1 hfd]
            clear hfd
            have hle : ((keysN f k : Nat) : Int) < n := by have := keysN_le f k; omega
            go_wp2
            go_roundw
            case rel => exact ⟨k + 1, by omega, by go_num, by rw [← keys_yes HY.out], all_succ HA.out (is_fair hlt HOK.out HF.out), HB2.out, HQ2.out⟩
            case measure => simp [intOf]; omega
      · have hlt' : decide ((k : Int) < n) = false := decide_eq_false (by omega)
        obtain rfl : k = n := by omega
        go_wp2
        go_ret
        exact ⟨ret_b (fair_end HN.out H1.out H6.out HA.out), HB.out⟩
end Go.Proofs.YtlnbpobipmejfaaGreatDoor
/-
  A drawn region with guards, whose calls make memory: it is walked once, in the text's order, over the worlds in which nothing old is turned.
-/
namespace Go.Proofs.YtlnbpobipmejfaaGreatDoor
set_option maxRecDepth 100000
open Go.RowKit

/-- How far such a world is from W: its draws, the blocks behind. -/
structure LowBy where
  d : Nat
  os : Array Obj
  deriving Inhabited
def lowW (W : World) (d : Nat) (os : Array Obj) : World := { W with drawn := d, heap := W.heap ++ os }
theorem lowW_low (W : World) (d : Nat) (os : Array Obj) : Below W.heap.size W (lowW W d os) :=
  ⟨rfl, rfl, rfl, by show W.heap.size ≤ (W.heap ++ os).size; simp, fun k hk => by show (W.heap ++ os)[k]? = _; rw [Array.getElem?_append_left hk]⟩
theorem low_eq {W w' : World} (h : Below W.heap.size W w') : ∃ p : LowBy, w' = lowW W p.d p.os := by
  refine ⟨⟨w'.drawn, w'.heap.extract W.heap.size w'.heap.size⟩, ?_⟩
  have hh : W.heap ++ w'.heap.extract W.heap.size w'.heap.size = w'.heap := by
    apply Array.ext_getElem?
    intro i
    have hs := h.size
    by_cases hi : i < W.heap.size
    · rw [Array.getElem?_append_left hi, h.block i hi]
    · rw [Array.getElem?_append_right (by omega), Array.getElem?_extract]
      by_cases hj : i < w'.heap.size
      · rw [if_pos (by omega), show W.heap.size + (i - W.heap.size) = i by omega]
      · rw [if_neg (by omega), Array.getElem?_eq_none (by omega)]
  have h1 := h.os
  have h2 := h.tape
  have h3 := h.output
  cases W
  cases w'
  simp only [lowW] at *
  subst h1 h2 h3
  rw [hh]
theorem lowW_cell {W : World} {a : Addr} {v : Value} (hb : a.block < W.heap.size) (h : W.cell? a = some v) (d : Nat) (os : Array Obj) : (lowW W d os).cell? a = some v := by rw [(lowW_low W d os).cell hb]; exact h
/-- The walk over the class; it does not unfold by itself (a chain of operations that are not wanted is unfolded at every look). -/
@[irreducible] def wq (P : Program) (ops : Array Oper) (C : World → Prop) (Q : Act → Prop) (l : List Oper) (a : Act) : Prop := wpQuiet P ops C Q l a
theorem wq_nil {P : Program} {ops : Array Oper} {C : World → Prop} {Q : Act → Prop} {a : Act} (h : Q a) : wq P ops C Q [] a := by unfold wq; exact h
theorem wq_step {P : Program} {ops : Array Oper} {C : World → Prop} {Q : Act → Prop} {a : Act} {o : Oper} {rest : List Oper}
    (h : ∀ K : Act → Prop, (∀ a, wq P ops C Q rest a → K a) → if Region.wanted o (yielded ops a.tmps) then o.quiet P a C K else K (a.put o.dst undef)) : wq P ops C Q (o :: rest) a := by
  unfold wq at h ⊢
  exact wpQuiet_step h
theorem wp_region_low {P : Program} {id : Nat} {Q : Exit → Act → World → Prop} {a : Act} {w : World} {l : List Oper} (hm : P.follows .mixedOrders = true) (hB : Region.lexB .any l.toArray = true)
    (h : wq P l.toArray (fun w' => ∃ p : LowBy, w' = lowW w p.d p.os) (fun a' => ∀ w', (∃ p : LowBy, w' = lowW w p.d p.os) → Q .normal a' w') l a) : (Code.region id l.toArray true).wp P Q a w := by
  unfold wq at h
  exact wp_region_quiet (C := fun w' => ∃ p : LowBy, w' = lowW w p.d p.os) hm hB ⟨⟨w.drawn + 1, #[]⟩, by simp [lowW]⟩ (by simpa using h)
/-- A callee's contract, met in a world of the class. -/
theorem Calls.low_of {P : Program} {f : FuncId} {args : Array Value} {W : World} {d : Nat} {os : Array Obj} {v : Value}
    (h : Calls P f args (lowW W d os) fun e w' => e = .returned v ∧ Below (lowW W d os).heap.size (lowW W d os) w') : Calls P f args (lowW W d os) fun e w'' => e = .returned v ∧ ∃ p : LowBy, w'' = lowW W p.d p.os :=
  h.mono fun _ _ ⟨he, hb⟩ => ⟨he, low_eq ((lowW_low W d os).trans (hb.mono (lowW_low W d os).size))⟩
end Go.Proofs.YtlnbpobipmejfaaGreatDoor
/-
  Tables: Valid and New of the reference.
-/
namespace Go.Proofs.YtlnbpobipmejfaaGreatDoor
set_option maxRecDepth 100000
open Go.RowKit
variable {ls : List Nat}

theorem rowfits_agg (nm : ByteArray) (p : Option Addr) (n cap : Nat) (f : Nat → Col) (q : Option Addr) (l : List Val) (cq : Nat) (w : World) (hn : n ≤ 9223372036854775807) (hC : ColsAt w p n f) (hR : RowAt w q l) (hS : ValsSized l) :
    Calls Tryz.prog 50 #[.agg #[.string nm, .slice p n cap], .slice q l.length cq] w fun e w' => e = .returned (.int .i64 (fitsRow f n l)) ∧ Below w.heap.size w w' := by
  have := rrowfits_any nm p n cap f q l cq w hn hC hR hS
  unfold schV at this
  exact this
theorem not_ok_lo {f : Nat → Col} {n : Nat} {nx : Int} {R : List TRow} {i : Nat} (h : (tAt R i).1 < 1) : ¬ RowOK f n nx R i := fun hc => by have := hc.1; omega
theorem not_ok_hi {f : Nat → Col} {n : Nat} {nx : Int} {R : List TRow} {i : Nat} (h : nx ≤ (tAt R i).1) : ¬ RowOK f n nx R i := fun hc => by have := hc.2.1; omega
theorem not_ok_prev {f : Nat → Col} {n : Nat} {nx : Int} {R : List TRow} {i : Nat} (hi : 0 < i) (h : (tAt R i).1 ≤ (tAt R (i - 1)).1) : ¬ RowOK f n nx R i := fun hc => by have := hc.2.2.1 hi; omega
theorem not_ok_fit {f : Nat → Col} {n : Nat} {nx : Int} {R : List TRow} {i : Nat} (h : ¬ fitsRow f n (tAt R i).2 = 0) : ¬ RowOK f n nx R i := fun hc => h hc.2.2.2
set_option maxHeartbeats 2000000 in
theorem rtvalid_any (T : Tab) (w : World) (hT : TabAt w T) :
    Calls Tryz.prog 27 #[T.v] w fun e w' => e = .returned (.bool T.valid) ∧ Below w.heap.size w w' := by
  have HT := Lib.hid hT
  obtain ⟨nm, pc, n, cc, f, nx, pr, cr, R⟩ := T
  obtain ⟨hnm, hn, hC, hR, hl, hz⟩ := hT
  unfold Tab.v Tab.valid
  dsimp only at *
  have HR := Lib.hid hR
  have HZ := Lib.hid hz
  have hb0 : Below w.heap.size w (w.alloc (.cells #[.string nm, .slice pc n cc, .int .i64 nx, .slice pr R.length cr] 34)) := below_new (Below.refl _ _) _
  have HC := Lib.hid (hC.low hb0)
  have HX := Lib.hid (cell4_new w (.string nm) (.slice pc n cc) (.int .i64 nx) (.slice pr R.length cr) 34)
  have HB0 := Lib.hid hb0
  clear hC hR hz hb0
  go_enter Tryz.func27, Tryz.ntmps27
  go_wp2_with fail
  refine (rsvalid_any nm pc n cc f _ hnm hn HC.out).mono ?_
  rintro e w1 ⟨rfl, hb1⟩
  have HX1 := Lib.hid (HX.out.low hb1)
  have HC1 := Lib.hid (HC.out.low hb1)
  have HB1 := Lib.hid (below_next HB0.out hb1)
  obtain ⟨hxl, x0, x1, x2, x3, -⟩ := HX1.out
  clear HC HX HB0 hb1
  cases hso : schemaOK nm n f
  · have HV := Lib.hid (validT_schema (nx := nx) (R := R) hso)
    go_wp2
    go_ret
    exact ⟨ret_b HV.out.symm, HB1.out⟩
  · have HSO := Lib.hid hso
    by_cases hh : R.length ≤ 100 ∧ 1 ≤ nx ∧ nx ≤ 2147483648
    · have HH := Lib.hid hh
      have g1 : decide ((100 : Int) < (R.length : Int)) = false := decide_eq_false (by omega)
      have g2 : decide (nx < 1) = false := decide_eq_false (by omega)
      have g3 : decide ((2147483648 : Int) < nx) = false := decide_eq_false (by omega)
      clear hh
      go_wp2_with fail
      go_loopw [28] (fun i v => ∃ k : Nat, k ≤ R.length ∧ i = .int .i64 k ∧ (∀ j, j < k → RowOK f n nx R j) ∧ Cell4 v w.heap.size (.string nm) (.slice pc n cc) (.int .i64 nx) (.slice pr R.length cr) ∧ ColsAt v pc n f ∧ Below w.heap.size w v) (fun i _ => R.length - (intOf i).toNat)
      case atStart => exact ⟨0, Nat.zero_le _, rfl, fun j hj => by omega, HX1.out, HC1.out, HB1.out⟩
      clear HX1 HC1 HB1 x0 x1 x2 x3 hxl
      case round =>
        obtain ⟨k, hk, rfl, hok, hx, hc, hb⟩ := hrel
        have HOK := Lib.hid hok
        have HX := Lib.hid hx
        have HC := Lib.hid hc
        have HB := Lib.hid hb
        clear hok hx hc hb
        by_cases hlt : k < R.length
        · have hlt' : decide ((k : Int) < R.length) = true := decide_eq_true (by omega)
          have HR1 := Lib.hid (HR.out.low HB.out)
          obtain ⟨c, o, q, cp, rfl, hc, h0, h1, hr, hs, hqn⟩ := HR1.out k hlt
          have HQ := Lib.hid hr
          have HPREV : Hid (0 < k → wr.cell? ⟨c, o + (k - 1) * 2, none⟩ = some (.int .i64 (tAt R (k - 1)).1)) := Lib.hid (by
            intro h0k
            obtain ⟨c', o', q', cp', he, hc', h0', -⟩ := HR1.out (k - 1) (by omega)
            cases he
            exact h0')
          clear hr hqn
          go_wp2_with fail
          have hbn := below_alloc wr (.cells #[.int .i64 (tAt R k).1, .slice q (tAt R k).2.length cp] 58)
          have HX2 := Lib.hid (HX.out.low hbn)
          have HC2 := Lib.hid (HC.out.low hbn)
          have HB2 := Lib.hid (below_next HB.out hbn)
          have HQ2 := Lib.hid (HQ.out.low hbn)
          have HR2 := Lib.hid (HR1.out.low hbn)
          have HPREV2 : Hid (0 < k → (wr.alloc (.cells #[.int .i64 (tAt R k).1, .slice q (tAt R k).2.length cp] 58)).cell? ⟨c, o + (k - 1) * 2, none⟩ = some (.int .i64 (tAt R (k - 1)).1)) := Lib.hid (fun h0k => by rw [hbn.cell (by exact hc)]; exact HPREV.out h0k)
          have hXl : wr.heap.size < (wr.alloc (.cells #[.int .i64 (tAt R k).1, .slice q (tAt R k).2.length cp] 58)).heap.size := by simp
          obtain ⟨hxl, x0, x1, x2, x3, -⟩ := HX2.out
          obtain ⟨r0, r1⟩ := row2_new wr (.int .i64 (tAt R k).1) (.slice q (tAt R k).2.length cp) 58
          have hcl : c < (wr.alloc (.cells #[.int .i64 (tAt R k).1, .slice q (tAt R k).2.length cp] 58)).heap.size := Nat.lt_of_lt_of_le hc hbn.size
          clear HX HC HB HQ HR1 HPREV hbn h0 h1 hc
          generalize wr.alloc _ = W2 at HX2 HC2 HB2 HQ2 HR2 HPREV2 hXl hcl hxl x0 x1 x2 x3 r0 r1 ⊢
          generalize wr.heap.size = X at hXl r0 r1 ⊢
          have l0 := lowW_cell (a := ⟨w.heap.size, 0, none⟩) hxl x0
          have l1 := lowW_cell (a := ⟨w.heap.size, 1, none⟩) hxl x1
          have l2 := lowW_cell (a := ⟨w.heap.size, 2, none⟩) hxl x2
          have l3 := lowW_cell (a := ⟨w.heap.size, 3, none⟩) hxl x3
          have m0 := lowW_cell (a := ⟨X, 0, none⟩) hXl r0
          have m1 := lowW_cell (a := ⟨X, 1, none⟩) hXl r1
          by_cases h1 : (tAt R k).1 < 1
          · have e1 : decide ((tAt R k).1 < 1) = true := decide_eq_true h1
            have HV := Lib.hid (validT_row (nm := nm) hlt (not_ok_lo (f := f) (n := n) (nx := nx) h1))
            go_quiet (fail)
            go_wp2
            go_ret
            exact ⟨ret_b HV.out.symm, drewN_low HB2.out _⟩
          · have e1 : decide ((tAt R k).1 < 1) = false := decide_eq_false h1
            by_cases h2 : nx ≤ (tAt R k).1
            · have e2 : decide (nx ≤ (tAt R k).1) = true := decide_eq_true h2
              have HV := Lib.hid (validT_row (nm := nm) hlt (not_ok_hi (f := f) (n := n) (nx := nx) h2))
              go_quiet (fail)
              go_wp2
              go_ret
              exact ⟨ret_b HV.out.symm, drewN_low HB2.out _⟩
            · have e2 : decide (nx ≤ (tAt R k).1) = false := decide_eq_false h2
              by_cases h3 : 0 < k
              · have e3 : decide ((0 : Int) < (k : Int)) = true := decide_eq_true (by omega)
                have e3n : decide (0 < k) = true := decide_eq_true h3
                have hp := HPREV2.out h3
                have hw1 : IntKind.i64.wrap ((k : Int) - 1) = (k : Int) - 1 := i64w (by omega) (by omega)
                have ht1 : ((k : Int) - 1).toNat = k - 1 := by omega
                have hlo : (1 : Int) ≤ (k : Int) := by omega
                have hhi : (k : Int) - 1 < (R.length : Int) := by omega
                by_cases h4 : (tAt R k).1 ≤ (tAt R (k - 1)).1
                · have e4 : decide ((tAt R k).1 ≤ (tAt R (k - 1)).1) = true := decide_eq_true h4
                  have HV := Lib.hid (validT_row (nm := nm) hlt (not_ok_prev (f := f) (n := n) (nx := nx) h3 h4))
                  go_quiet (fail)
                  go_wp2
                  go_ret
                  exact ⟨ret_b HV.out.symm, drewN_low HB2.out _⟩
                · have e4 : decide ((tAt R k).1 ≤ (tAt R (k - 1)).1) = false := decide_eq_false h4
                  have lp := lowW_cell (a := ⟨c, o + (k - 1) * 2, none⟩) hcl hp
                  refine wp_region_low (by kernel_rfl) (by kernel_rfl) ?_
                  repeat (refine wq_step (fun K hK => ?_); go_simp; first | (refine hK _ ?_; clear hK K) | (apply Exists.intro; refine ⟨fun _ => ?_, hK _ ?_⟩; (go_at_call 50; exact Calls.low_of (rowfits_agg nm pc n cc f q (tAt R k).2 cp _ hn (HC2.out.low (lowW_low _ _ _)) (HQ2.out.low (lowW_low _ _ _)) (HZ.out _ (tAt_mem hlt)))); clear hK K))
                  refine wq_nil ?_
                  rintro _ ⟨⟨d3, os3⟩, rfl⟩
                  dsimp only
                  have hlow := lowW_low W2 d3 os3
                  clear lp hp l0 l1 l2 l3 m0 m1 x0 x1 x2 x3 r0 r1 hXl hcl hxl HQ2 HR2 HPREV2
                  generalize lowW W2 d3 os3 = W3 at hlow ⊢
                  have HX3 := Lib.hid (HX2.out.low hlow)
                  have HC3 := Lib.hid (HC2.out.low hlow)
                  have HB3 := Lib.hid (below_next HB2.out hlow)
                  clear hlow HX2 HC2 HB2
                  cases hz : (fitsRow f n (tAt R k).2 != 0)
                  · have HROW : Hid (RowOK f n nx R k) := Lib.hid ⟨by omega, by omega, (fun _ => by omega), by simpa using hz⟩
                    go_wp2
                    go_roundw
                    case rel => exact ⟨k + 1, by omega, by go_num, all_succ HOK.out HROW.out, HX3.out, HC3.out, HB3.out⟩
                    case measure => simp [intOf]; omega
                  · have HV := Lib.hid (validT_row (nm := nm) hlt (not_ok_fit (f := f) (n := n) (nx := nx) (bne_iff_ne.1 hz)))
                    go_wp2
                    go_ret
                    exact ⟨ret_b HV.out.symm, HB3.out⟩
              · have e3 : decide ((0 : Int) < (k : Int)) = false := decide_eq_false (by omega)
                have e3n : decide (0 < k) = false := decide_eq_false h3
                refine wp_region_low (by kernel_rfl) (by kernel_rfl) ?_
                repeat (refine wq_step (fun K hK => ?_); go_simp; first | (refine hK _ ?_; clear hK K) | (apply Exists.intro; refine ⟨fun _ => ?_, hK _ ?_⟩; (go_at_call 50; exact Calls.low_of (rowfits_agg nm pc n cc f q (tAt R k).2 cp _ hn (HC2.out.low (lowW_low _ _ _)) (HQ2.out.low (lowW_low _ _ _)) (HZ.out _ (tAt_mem hlt)))); clear hK K))
                refine wq_nil ?_
                rintro _ ⟨⟨d3, os3⟩, rfl⟩
                dsimp only
                have hlow := lowW_low W2 d3 os3
                clear l0 l1 l2 l3 m0 m1 x0 x1 x2 x3 r0 r1 hXl hcl hxl HQ2 HR2 HPREV2
                generalize lowW W2 d3 os3 = W3 at hlow ⊢
                have HX3 := Lib.hid (HX2.out.low hlow)
                have HC3 := Lib.hid (HC2.out.low hlow)
                have HB3 := Lib.hid (below_next HB2.out hlow)
                clear hlow HX2 HC2 HB2
                cases hz : (fitsRow f n (tAt R k).2 != 0)
                · have HROW : Hid (RowOK f n nx R k) := Lib.hid ⟨by omega, by omega, (fun h => absurd h h3), by simpa using hz⟩
                  go_wp2
                  go_roundw
                  case rel => exact ⟨k + 1, by omega, by go_num, all_succ HOK.out HROW.out, HX3.out, HC3.out, HB3.out⟩
                  case measure => simp [intOf]; omega
                · have HV := Lib.hid (validT_row (nm := nm) hlt (not_ok_fit (f := f) (n := n) (nx := nx) (bne_iff_ne.1 hz)))
                  go_wp2
                  go_ret
                  exact ⟨ret_b HV.out.symm, HB3.out⟩
        · have hlt' : decide ((k : Int) < R.length) = false := decide_eq_false (by omega)
          obtain rfl : k = R.length := by omega
          obtain ⟨hxl, x0, x1, x2, x3, -⟩ := HX.out
          have HV := Lib.hid (validT_dup HSO.out HH.out HOK.out)
          go_wp2_with fail
          refine (rdup_any ⟨nm, pc, n, cc, f, nx, pr, cr, R⟩ _ (HT.out.low HB.out)).mono ?_
          rintro e w9 ⟨rfl, hb9⟩
          have HB9 := Lib.hid (below_next HB.out hb9)
          clear hb9
          go_wp2
          go_ret
          exact ⟨ret_b HV.out.symm, HB9.out⟩
    · have HV := Lib.hid (validT_head (nm := nm) (n := n) (f := f) hh)
      by_cases h1 : 100 < R.length
      · have g1 : decide ((100 : Int) < (R.length : Int)) = true := decide_eq_true (by omega)
        go_wp2
        go_ret
        exact ⟨ret_b HV.out.symm, HB1.out⟩
      · have g1 : decide ((100 : Int) < (R.length : Int)) = false := decide_eq_false (by omega)
        by_cases h2 : nx < 1
        · have g2 : decide (nx < 1) = true := decide_eq_true h2
          go_wp2
          go_ret
          exact ⟨ret_b HV.out.symm, HB1.out⟩
        · have g2 : decide (nx < 1) = false := decide_eq_false h2
          have g3 : decide ((2147483648 : Int) < nx) = true := decide_eq_true (by omega)
          go_wp2
          go_ret
          exact ⟨ret_b HV.out.symm, HB1.out⟩
end Go.Proofs.YtlnbpobipmejfaaGreatDoor
/-
  Tables: New of the reference.
-/
namespace Go.Proofs.YtlnbpobipmejfaaGreatDoor
set_option maxRecDepth 100000
open Go.RowKit
variable {ls : List Nat}

/-- What New gives. -/
def TNewPost (nm : ByteArray) (n : Nat) (f : Nat → Col) (w : World) (e : Ending) (w' : World) : Prop := ∃ (T : Tab) (er : Int), e = .returned (.tuple #[T.v, .int .i64 er]) ∧ TabAt w' T ∧ T.R = [] ∧ Below w.heap.size w w' ∧
  ((schemaOK nm n f = true ∧ er = 0 ∧ T.nm = nm ∧ T.n = n ∧ (∀ i, i < n → T.f i = f i) ∧ T.nx = 1) ∨ (schemaOK nm n f = false ∧ er = 17 ∧ T.nm = ⟨#[]⟩ ∧ T.n = 0 ∧ T.nx = 0))
theorem schemaOK_range {nm : ByteArray} {n : Nat} {f : Nat → Col} (h : schemaOK nm n f = true) : 1 ≤ n ∧ n ≤ 6 := by
  unfold schemaOK at h
  simp only [Bool.and_eq_true, decide_eq_true_eq] at h
  exact h.1.2
theorem ColsAt.ptr {w : World} {p : Option Addr} {n : Nat} {f : Nat → Col} (h : ColsAt w p n f) (hn : 0 < n) : ∃ c o, p = some ⟨c, o, none⟩ ∧ c < w.heap.size := by
  obtain ⟨c, o, hp, hc, -⟩ := h 0 hn
  exact ⟨c, o, hp, hc⟩
theorem Cell4.far {u : World} {X Y : Nat} {a b c d : Value} (h : Cell4 u X a b c d) (hn : X ≠ Y) {o : Nat} (v : Value) : Cell4 (u.setCell ⟨Y, o, none⟩ v) X a b c d := by
  have hb : ∀ o', (u.setCell ⟨Y, o, none⟩ v).cell? ⟨X, o', none⟩ = u.cell? ⟨X, o', none⟩ := fun o' => World.cell?_of_block (w := u) (Below.heap_setCell _ _ _ _ hn)
  exact ⟨by simpa [World.setCell] using h.lt, by rw [hb]; exact h.c0, by rw [hb]; exact h.c1, by rw [hb]; exact h.c2, by rw [hb]; exact h.c3, fun o' => by rw [World.frozen?_setCell]; exact h.fz o'⟩
theorem Cell4.set2 {u : World} {X : Nat} {a b c d : Value} (h : Cell4 u X a b c d) (y : Value) : Cell4 (u.setCell ⟨X, 2, none⟩ y) X a b y d := by
  obtain ⟨hl, c0, c1, c2, c3, fz⟩ := h
  refine ⟨by simpa [World.setCell] using hl, ?_, ?_, ?_, ?_, fun o => ?_⟩
  · go_simp
  · go_simp
  · go_simp
  · go_simp
  · rw [World.frozen?_setCell]; exact fz o
theorem Cell4.set3 {u : World} {X : Nat} {a b c d : Value} (h : Cell4 u X a b c d) (y : Value) : Cell4 (u.setCell ⟨X, 3, none⟩ y) X a b c y := by
  obtain ⟨hl, c0, c1, c2, c3, fz⟩ := h
  refine ⟨by simpa [World.setCell] using hl, ?_, ?_, ?_, ?_, fun o => ?_⟩
  · go_simp
  · go_simp
  · go_simp
  · go_simp
  · rw [World.frozen?_setCell]; exact fz o
theorem cell4_put (u : World) {X : Nat} {a b c d : Value} (h : Cell4 u X a b c d) (x y z t : Value) : Cell4 ((((u.setCell ⟨X, 0, none⟩ x).setCell ⟨X, 1, none⟩ y).setCell ⟨X, 2, none⟩ z).setCell ⟨X, 3, none⟩ t) X x y z t := by
  obtain ⟨hl, c0, c1, c2, c3, fz⟩ := h
  refine ⟨by simpa [World.setCell] using hl, ?_, ?_, ?_, ?_, fun o => ?_⟩
  · go_simp
  · go_simp
  · go_simp
  · go_simp
  · rw [World.frozen?_setCell, World.frozen?_setCell, World.frozen?_setCell, World.frozen?_setCell]; exact fz o
def zeroTab : Tab := ⟨⟨#[]⟩, none, 0, 0, fun _ => default, 0, none, 0, []⟩
theorem zeroTab_at (w : World) : TabAt w zeroTab := ⟨by decide, by decide, (fun i hi => absurd hi (Nat.not_lt_zero _)), TRowsAt.nil _ _, by decide, fun r hr => absurd hr (List.not_mem_nil), by decide⟩
end Go.Proofs.YtlnbpobipmejfaaGreatDoor
