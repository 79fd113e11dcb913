/-
  Several texts in one.
-/
import Derived.Test.YtgaihglploedaaaPk11
import Derived.Test.YtgaihglploedaaaPk07
import Derived.Deep.QuietTactic
/-
  Tables: Duplicate of the reference.
-/
namespace Go.Proofs.Ytgaihglploedaaa
set_option maxRecDepth 100000
open Go.RowKit
variable {ls : List Nat}

theorem wpList_look_seen {w : World} {ops : Array Oper} {rest : List Oper} {o : Oper} {a : Act} {Q : Exit → Act → World → Prop} (hg : o.guard = none) (m x : Operand) (t : TypeId) (hop : o.op = Op.lookup t m x false) (ht : Try.prog.underlying t = some (.map 31 4))
    (b : Nat) (S : List Val) (hm : a.eval m = .map (some b)) (hs : SeenAt w b S) (v : Val) (hx : a.eval x = valV v) (h : wpList Try.prog ops Q rest (a.put o.dst (.bool (seenB v S))) w) : wpList Try.prog ops Q (o :: rest) a w := by
  refine wpList_plain hg fun K' hK' => ?_
  have hrun := hs.look v t ht
  unfold Oper.wp
  simp [execOp, hop, hm, hx, hrun, Result.andThen]
  exact hK' _ _ h
theorem wpList_put_seen {w : World} {ops : Array Oper} {rest : List Oper} {o : Oper} {a : Act} {Q : Exit → Act → World → Prop} (hg : o.guard = none) (m x y : Operand) (t : TypeId) (hop : o.op = Op.mapUpdate t m x y) (ht : Try.prog.underlying t = some (.map 31 4))
    (b : Nat) (S : List Val) (hm : a.eval m = .map (some b)) (hs : SeenAt w b S) (v : Val) (hx : a.eval x = valV v) (hy : a.eval y = .bool true) (hn : v ∉ S) (h : ∀ w', SeenAt w' b (S ++ [v]) → w.grownBy w' (some b) → wpList Try.prog ops Q rest (a.put o.dst undef) w') : wpList Try.prog ops Q (o :: rest) a w := by
  refine wpList_plain hg fun K' hK' => ?_
  obtain ⟨w', hrun, h1, h2⟩ := hs.put v hn t ht
  unfold Oper.wp
  simp [execOp, hop, hm, hx, hy, hrun, Result.andThen]
  exact hK' _ _ (h w' h1 h2)
theorem size_map (w : World) : (w.alloc (.map #[] 0)).heap.size = w.heap.size + 1 := by simp
end Go.Proofs.Ytgaihglploedaaa
/-
  Valid of schemas, of the program and of the reference.
-/
namespace Go.Proofs.Ytgaihglploedaaa
set_option maxRecDepth 100000
open Go.RowKit
variable {ls : List Nat}

set_option maxHeartbeats 400000 in
theorem validType_any (t : Int) (w : World) : Calls Try.prog 39 #[.int .i64 t] w fun e w' => e = .returned (.bool (tyOK t)) ∧ w = w' := by
  by_cases h1 : t = 1
  · subst h1
    go_enter Try.func39, Try.ntmps39
    go_wp2
    go_ret
    exact ⟨rfl, rfl⟩
  by_cases h2 : t = 2
  · subst h2
    go_enter Try.func39, Try.ntmps39
    go_wp2
    go_ret
    exact ⟨rfl, rfl⟩
  by_cases h3 : t = 3
  · subst h3
    go_enter Try.func39, Try.ntmps39
    go_wp2
    go_ret
    exact ⟨rfl, rfl⟩
  have e1 : (t == 1) = false := beq_eq_false_iff_ne.2 h1
  have e2 : (t == 2) = false := beq_eq_false_iff_ne.2 h2
  have e3 : (t == 3) = false := beq_eq_false_iff_ne.2 h3
  have HT : Hid (tyOK t = false) := Lib.hid (decide_eq_false (by omega))
  clear h1 h2 h3
  go_enter Try.func39, Try.ntmps39
  go_wp2
  go_ret
  exact ⟨ret_b HT.out.symm, rfl⟩

theorem validType_eq {t : Int} {b : Bool} (h : tyOK t = b) (w : World) : Calls Try.prog 39 #[.int .i64 t] w fun e w' => e = .returned (.bool b) ∧ w = w' := by
  subst h; exact validType_any t w
theorem validName_eq {s : ByteArray} {b : Bool} (hs : s.size ≤ 9223372036854775807) (h : nameOK s = b) (w : World) : Calls Try.prog 26 #[.string s] w fun e w' => e = .returned (.bool b) ∧ Below w.heap.size w w' := by
  subst h; exact validName_any s w hs
set_option maxHeartbeats 1000000 in
theorem validColumn_any (c : Col) (w : World) (hs : c.nm.size ≤ 9223372036854775807) :
    Calls Try.prog 28 #[colV c] w fun e w' => e = .returned (.bool (colOK c)) ∧ Below w.heap.size w w' := by
  unfold colV
  obtain ⟨nm, ty, nn, key⟩ := c
  cases hn : nameOK nm
  · have HN := Lib.hid hn
    clear hn
    go_enter Try.func28, Try.ntmps28
    go_wp2_with fail
    refine (validName_eq hs HN.out _).mono ?_
    rintro e w1 ⟨rfl, hb⟩
    obtain ⟨⟨hz, c0, c1, c2, c3, fz⟩, hb'⟩ := four_one hb
    have HB := Lib.hid hb'
    clear hb hb'
    go_wp2
    go_ret
    exact ⟨ret_b (colOK_name HN.out).symm, HB.out⟩
  cases ht : tyOK ty
  · have HN := Lib.hid hn
    have HT := Lib.hid ht
    clear hn ht
    go_enter Try.func28, Try.ntmps28
    go_wp2_with fail
    refine (validName_eq hs HN.out _).mono ?_
    rintro e w1 ⟨rfl, hb⟩
    obtain ⟨⟨hz, c0, c1, c2, c3, fz⟩, hb'⟩ := four_one hb
    have HB := Lib.hid hb'
    clear hb hb'
    go_wp2_with fail
    refine (validType_eq HT.out _).mono ?_
    rintro e w2 ⟨rfl, rfl⟩
    go_wp2
    go_ret
    exact ⟨ret_b (by unfold colOK; simp only [HN.out, HT.out]; rfl), HB.out⟩
  have HN := Lib.hid hn
  have HT := Lib.hid ht
  clear hn ht
  cases nn
  · go_enter Try.func28, Try.ntmps28
    go_wp2_with fail
    refine (validName_eq hs HN.out _).mono ?_
    rintro e w1 ⟨rfl, hb⟩
    obtain ⟨⟨hz, c0, c1, c2, c3, fz⟩, hb'⟩ := four_one hb
    have HB := Lib.hid hb'
    clear hb hb'
    go_wp2_with fail
    refine (validType_eq HT.out _).mono ?_
    rintro e w2 ⟨rfl, rfl⟩
    go_wp2
    go_ret
    exact ⟨ret_b (by unfold colOK; simp only [HN.out, HT.out]; cases key <;> rfl), HB.out⟩
  · go_enter Try.func28, Try.ntmps28
    go_wp2_with fail
    refine (validName_eq hs HN.out _).mono ?_
    rintro e w1 ⟨rfl, hb⟩
    obtain ⟨⟨hz, c0, c1, c2, c3, fz⟩, hb'⟩ := four_one hb
    have HB := Lib.hid hb'
    clear hb hb'
    go_wp2_with fail
    refine (validType_eq HT.out _).mono ?_
    rintro e w2 ⟨rfl, rfl⟩
    go_wp2
    go_ret
    exact ⟨ret_b (by unfold colOK; simp only [HN.out, HT.out]; cases key <;> rfl), HB.out⟩
theorem validColumn_eq (c : Col) {b : Bool} (hs : c.nm.size ≤ 9223372036854775807) (h : colOK c = b) (w : World) : Calls Try.prog 28 #[colV c] w fun e w' => e = .returned (.bool b) ∧ Below w.heap.size w w' := by
  subst h; exact validColumn_any c w hs
set_option maxHeartbeats 2000000 in
theorem svalid_any (nm : ByteArray) (p : Option Addr) (n cap : Nat) (f : Nat → Col) (w : World) (hs : nm.size ≤ 9223372036854775807) (hn : n ≤ 9223372036854775807) (hC : ColsAt w p n f) :
    Calls Try.prog 14 #[.agg #[.string nm, .slice p n cap]] w fun e w' => e = .returned (.bool (schemaOK nm n f)) ∧ Below w.heap.size w w' := by
  have HC := Lib.hid hC
  clear hC
  cases hnm : nameOK nm
  · have HN := Lib.hid hnm
    clear hnm
    go_enter Try.func14, Try.ntmps14
    go_wp2_with fail
    refine (validName_eq hs HN.out _).mono ?_
    rintro e w1 ⟨rfl, hb⟩
    obtain ⟨⟨hz, c0, c1, fz⟩, hb'⟩ := two_one hb
    have HB := Lib.hid hb'
    clear hb hb'
    go_wp2
    go_ret
    exact ⟨ret_b (schemaOK_name HN.out).symm, HB.out⟩
  have HN := Lib.hid hnm
  clear hnm
  by_cases h1 : n < 1
  · have e0 : ((n : Int) == 0) = true := beq_iff_eq.2 (by omega)
    have H1 := Lib.hid h1
    clear h1
    go_enter Try.func14, Try.ntmps14
    go_wp2_with fail
    refine (validName_eq hs HN.out _).mono ?_
    rintro e w1 ⟨rfl, hb⟩
    obtain ⟨⟨hz, c0, c1, fz⟩, hb'⟩ := two_one hb
    have HB := Lib.hid hb'
    clear hb hb'
    go_wp2
    go_ret
    exact ⟨ret_b (schemaOK_len (.inl H1.out)).symm, HB.out⟩
  have e0 : ((n : Int) == 0) = false := beq_eq_false_iff_ne.2 (by omega)
  by_cases h6 : 6 < n
  · have e6 : decide ((6 : Int) < n) = true := decide_eq_true (by omega)
    have H1 := Lib.hid h6
    clear h6 h1
    go_enter Try.func14, Try.ntmps14
    go_wp2_with fail
    refine (validName_eq hs HN.out _).mono ?_
    rintro e w1 ⟨rfl, hb⟩
    obtain ⟨⟨hz, c0, c1, fz⟩, hb'⟩ := two_one hb
    have HB := Lib.hid hb'
    clear hb hb'
    go_wp2
    go_ret
    exact ⟨ret_b (schemaOK_len (.inr H1.out)).symm, HB.out⟩
  have e6 : decide ((6 : Int) < n) = false := decide_eq_false (by omega)
  have H1 : Hid (1 ≤ n) := Lib.hid (by omega)
  have H6 : Hid (n ≤ 6) := Lib.hid (by omega)
  clear h1 h6
  · skip
    go_enter Try.func14, Try.ntmps14
    go_wp2_with fail
    refine (validName_eq hs HN.out _).mono ?_
    rintro e w1 ⟨rfl, hb⟩
    obtain ⟨⟨hz, c0, c1, fz⟩, hb'⟩ := two_one hb
    have HB := Lib.hid hb'
    clear hb hb'
    go_wp2_with fail
    refine (keycol_any nm p n cap f _ hn (HC.out.low HB.out)).mono ?_
    rintro e w2 ⟨rfl, hb2⟩
    have HB2 := Lib.hid (below_next HB.out hb2)
    obtain ⟨dz, d0, d1, dfz⟩ := Cell2.low ⟨hz, c0, c1, fz⟩ hb2
    clear hb2 HB hz c0 c1 fz
    go_wp2_with fail
    go_loopw [27] (fun i v => ∃ k : Nat, k ≤ n ∧ i = .int .i64 k ∧ (∀ i, i < k → Good f i) ∧ Below w.heap.size w v ∧ Cell2 v w.heap.size (.string nm) (.slice p n cap)) (fun i _ => n - (intOf i).toNat)
    case atStart => exact ⟨0, Nat.zero_le _, rfl, fun j hj => by omega, HB2.out, ⟨dz, d0, d1, dfz⟩⟩
    clear HB2 dz d0 d1 dfz
    case round =>
      obtain ⟨k, hk, rfl, ha, hb, hq⟩ := hrel
      have HA := Lib.hid ha
      have HB := Lib.hid hb
      clear ha hb
      by_cases hlt : k < n
      · have hlt' : decide ((k : Int) < n) = true := decide_eq_true (by omega)
        obtain ⟨c, o, rfl, hc, hnm, h0, h1, h2, h3⟩ := HC.out.low HB.out k hlt
        cases hcol : colOK (f k)
        · have HK := Lib.hid hcol
          clear hcol
          go_wp2_with fail
          refine (validColumn_eq (f k) hnm HK.out _).mono ?_
          rintro e v1 ⟨rfl, hb1⟩
          have HB1 := Lib.hid (below_next HB.out (Below.of_alloc hb1))
          clear hb1
          go_wp2
          go_ret
          exact ⟨ret_b (schemaOK_bad hlt (bad_col HK.out)).symm, HB1.out⟩
        have HK := Lib.hid hcol
        clear hcol
        go_wp2_with fail
        refine (validColumn_eq (f k) hnm HK.out _).mono ?_
        rintro e v1 ⟨rfl, hb1⟩
        obtain ⟨⟨qz, q0, q1, q2, q3, qf⟩, hb2⟩ := four_one hb1
        have HB1 := Lib.hid (below_next HB.out hb2)
        have HQ1 := Lib.hid (hq.low hb2)
        obtain ⟨rz, r0, r1, rf⟩ := hq.low hb2
        clear hq hb1 hb2 h0 h1 h2 h3
        go_wp2_with fail
        refine (find_any nm (f k).nm _ n cap f _ hn (HC.out.low HB1.out)).mono ?_
        rintro e v2 ⟨rfl, hb3⟩
        obtain ⟨sz, s0, s1, s2, s3, sf⟩ := Cell4.low ⟨qz, q0, q1, q2, q3, qf⟩ hb3
        have HB2 := Lib.hid (below_next HB1.out hb3)
        have HQ2 := Lib.hid (HQ1.out.low hb3)
        clear hb3 qz q0 q1 q2 q3 qf rz r0 r1 rf HB1 HQ1
        cases hfd : (findName f n (f k).nm == (k : Int))
        · have HF := Lib.hid hfd
          have hne := beq_eq_false_iff_ne.1 hfd
          have hne' := fun h => hne (Eq.symm h)
          clear s1 s2 s3
          go_wp2
          go_ret
          exact ⟨ret_b (schemaOK_bad hlt (bad_find hlt HF.out)).symm, HB2.out⟩
        have HF := Lib.hid hfd
        rw [beq_iff_eq.1 hfd]
        clear hfd
        cases hkey : (f k).key
        · have HY := Lib.hid hkey
          rw [hkey] at s3
          clear hkey
          go_wp2
          go_roundw
          case rel => exact ⟨k + 1, by omega, by go_num, all_succ HA.out (is_good hlt HK.out HF.out (fun h => by rw [HY.out] at h; cases h)), HB2.out, HQ2.out⟩
          case measure => simp [intOf]; omega
        · have HY := Lib.hid hkey
          rw [hkey] at s3
          clear hkey
          cases hkk : (findKey f n == (k : Int))
          · have HW := Lib.hid hkk
            go_wp2
            go_ret
            exact ⟨ret_b (schemaOK_bad hlt (bad_key hlt HY.out HW.out)).symm, HB2.out⟩
          · have HW := Lib.hid hkk
            go_wp2
            go_roundw
            case rel => exact ⟨k + 1, by omega, by go_num, all_succ HA.out (is_good hlt HK.out HF.out (fun _ => HW.out)), HB2.out, HQ2.out⟩
            case measure => simp [intOf]; omega
      · have hlt' : decide ((k : Int) < n) = false := decide_eq_false (by omega)
        obtain rfl : k = n := by omega
        go_wp2
        go_ret
        exact ⟨ret_b (schemaOK_yes HN.out H1.out H6.out HA.out).symm, HB.out⟩
end Go.Proofs.Ytgaihglploedaaa
/-
  Valid of schemas, of the reference.
-/
namespace Go.Proofs.Ytgaihglploedaaa
set_option maxRecDepth 100000
open Go.RowKit
variable {ls : List Nat}

theorem keysN_succ (f : Nat → Col) (k : Nat) : keysN f (k + 1) = keysN f k + if (f k).key then 1 else 0 := rfl
theorem keys_yes {f : Nat → Col} {k : Nat} (h : (f k).key = true) : ((keysN f k : Nat) : Int) + 1 = ((keysN f (k + 1) : Nat) : Int) := by rw [keysN_succ, h]; simp
theorem keys_no {f : Nat → Col} {k : Nat} (h : (f k).key = false) : ((keysN f k : Nat) : Int) = ((keysN f (k + 1) : Nat) : Int) := by rw [keysN_succ, h]; simp

end Go.Proofs.Ytgaihglploedaaa
/-
  A drawn region with guards, whose calls make memory: it is walked once, in the text's order, over the worlds in which nothing old is turned.
-/
namespace Go.Proofs.Ytgaihglploedaaa
set_option maxRecDepth 100000
open Go.RowKit

/-- How far such a world is from W: its draws, the blocks behind. -/
structure LowBy where
  d : Nat
  os : Array Obj
  deriving Inhabited
def lowW (W : World) (d : Nat) (os : Array Obj) : World := { W with drawn := d, heap := W.heap ++ os }
theorem lowW_low (W : World) (d : Nat) (os : Array Obj) : Below W.heap.size W (lowW W d os) :=
  ⟨rfl, rfl, rfl, by show W.heap.size ≤ (W.heap ++ os).size; simp, fun k hk => by show (W.heap ++ os)[k]? = _; rw [Array.getElem?_append_left hk]⟩
theorem low_eq {W w' : World} (h : Below W.heap.size W w') : ∃ p : LowBy, w' = lowW W p.d p.os := by
  refine ⟨⟨w'.drawn, w'.heap.extract W.heap.size w'.heap.size⟩, ?_⟩
  have hh : W.heap ++ w'.heap.extract W.heap.size w'.heap.size = w'.heap := by
    apply Array.ext_getElem?
    intro i
    have hs := h.size
    by_cases hi : i < W.heap.size
    · rw [Array.getElem?_append_left hi, h.block i hi]
    · rw [Array.getElem?_append_right (by omega), Array.getElem?_extract]
      by_cases hj : i < w'.heap.size
      · rw [if_pos (by omega), show W.heap.size + (i - W.heap.size) = i by omega]
      · rw [if_neg (by omega), Array.getElem?_eq_none (by omega)]
  have h1 := h.os
  have h2 := h.tape
  have h3 := h.output
  cases W
  cases w'
  simp only [lowW] at *
  subst h1 h2 h3
  rw [hh]
theorem lowW_cell {W : World} {a : Addr} {v : Value} (hb : a.block < W.heap.size) (h : W.cell? a = some v) (d : Nat) (os : Array Obj) : (lowW W d os).cell? a = some v := by rw [(lowW_low W d os).cell hb]; exact h
/-- The walk over the class; it does not unfold by itself (a chain of operations that are not wanted is unfolded at every look). -/
@[irreducible] def wq (P : Program) (ops : Array Oper) (C : World → Prop) (Q : Act → Prop) (l : List Oper) (a : Act) : Prop := wpQuiet P ops C Q l a
theorem wq_nil {P : Program} {ops : Array Oper} {C : World → Prop} {Q : Act → Prop} {a : Act} (h : Q a) : wq P ops C Q [] a := by unfold wq; exact h
theorem wq_step {P : Program} {ops : Array Oper} {C : World → Prop} {Q : Act → Prop} {a : Act} {o : Oper} {rest : List Oper}
    (h : ∀ K : Act → Prop, (∀ a, wq P ops C Q rest a → K a) → if Region.wanted o (yielded ops a.tmps) then o.quiet P a C K else K (a.put o.dst undef)) : wq P ops C Q (o :: rest) a := by
  unfold wq at h ⊢
  exact wpQuiet_step h
theorem wp_region_low {P : Program} {id : Nat} {Q : Exit → Act → World → Prop} {a : Act} {w : World} {l : List Oper} (hm : P.follows .mixedOrders = true) (hB : Region.lexB .any l.toArray = true)
    (h : wq P l.toArray (fun w' => ∃ p : LowBy, w' = lowW w p.d p.os) (fun a' => ∀ w', (∃ p : LowBy, w' = lowW w p.d p.os) → Q .normal a' w') l a) : (Code.region id l.toArray true).wp P Q a w := by
  unfold wq at h
  exact wp_region_quiet (C := fun w' => ∃ p : LowBy, w' = lowW w p.d p.os) hm hB ⟨⟨w.drawn + 1, #[]⟩, by simp [lowW]⟩ (by simpa using h)
/-- A callee's contract, met in a world of the class. -/
theorem Calls.low_of {P : Program} {f : FuncId} {args : Array Value} {W : World} {d : Nat} {os : Array Obj} {v : Value}
    (h : Calls P f args (lowW W d os) fun e w' => e = .returned v ∧ Below (lowW W d os).heap.size (lowW W d os) w') : Calls P f args (lowW W d os) fun e w'' => e = .returned v ∧ ∃ p : LowBy, w'' = lowW W p.d p.os :=
  h.mono fun _ _ ⟨he, hb⟩ => ⟨he, low_eq ((lowW_low W d os).trans (hb.mono (lowW_low W d os).size))⟩
end Go.Proofs.Ytgaihglploedaaa
