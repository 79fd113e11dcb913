/-
  Several texts in one.
-/
import Derived.Test.YtidgfmjbfcgfiaaDoorPk09
import Derived.Test.YtidgfmjbfcgfiaaDoorPk08
import Derived.Test.YtidgfmjbfcgfiaaDoorPk13
import Derived.Test.YtidgfmjbfcgfiaaDoorPk12
/-
  SameTable of the world.
-/
namespace Go.Proofs.YtidgfmjbfcgfiaaDoor
set_option maxRecDepth 100000
open Go.RowKit
variable {ls : List Nat}

def sameC (a b : Col) : Bool := eqT a.nm b.nm && (a.ty == b.ty && (a.nn == b.nn && a.key == b.key))
theorem sameC_iff {a b : Col} : sameC a b = true ↔ a = b := by
  unfold sameC
  obtain ⟨a1, a2, a3, a4⟩ := a
  obtain ⟨b1, b2, b3, b4⟩ := b
  simp only [Bool.and_eq_true, eqT_iff, beq_iff_eq, Col.mk.injEq]
theorem neq_col (a b : Col) (w : World) : (binOp .neq 61 (.agg #[.string a.nm, .int .i64 a.ty, .bool a.nn, .bool a.key]) (.agg #[.string b.nm, .int .i64 b.ty, .bool b.nn, .bool b.key])).run Tryd.prog w = .ok (.bool (!sameC a b)) w := by
  go_simp
  unfold sameC eqT
  cases h1 : (a.nm.toList == b.nm.toList) <;> cases h2 : (a.ty == b.ty) <;> cases h3 : (a.nn == b.nn) <;> cases h4 : (a.key == b.key) <;> simp_all
instance : DecidableEq Col := fun a b => decidable_of_iff (sameC a b = true) sameC_iff
/-- Are the columns the same? -/
def sameCols (n : Nat) (f : Nat → Col) (m : Nat) (g : Nat → Col) : Bool := decide (n = m ∧ ∀ i, i < n → f i = g i)
theorem sameCols_no {n m : Nat} {f g : Nat → Col} {k : Nat} (hk : k < n) (h : ¬ f k = g k) : sameCols n f m g = false := decide_eq_false fun hc => h (hc.2 k hk)
theorem sameCols_len {n m : Nat} {f g : Nat → Col} (h : ¬ n = m) : sameCols n f m g = false := decide_eq_false fun hc => h hc.1
theorem sameCols_yes {n : Nat} {f g : Nat → Col} (h : ∀ i, i < n → f i = g i) : sameCols n f n g = true := decide_eq_true ⟨rfl, h⟩
set_option maxHeartbeats 1000000 in
theorem equalcols_any (p q : Option Addr) (n m : Nat) (f g : Nat → Col) (ca cb : Nat) (w : World) (hn : n ≤ 9223372036854775807) (ha : ColsAt w p n f) (hb : ColsAt w q m g) :
    Calls Tryd.prog 63 #[.slice p n ca, .slice q m cb] w fun e w' => e = .returned (.bool (sameCols n f m g)) ∧ Below w.heap.size w w' := by
  have HP := Lib.hid ha
  have HQ := Lib.hid hb
  clear ha hb
  by_cases hl : n = m
  · subst hl
    have hlI : ((n : Int) != (n : Int)) = false := by simp
    go_enter Tryd.func63, Tryd.ntmps63
    go_wp2_with fail
    go_loopw [13] (fun i v => ∃ k : Nat, k ≤ n ∧ i = .int .i64 k ∧ (∀ j, j < k → f j = g j) ∧ Below w.heap.size w v) (fun i _ => n - (intOf i).toNat)
    case atStart => exact ⟨0, Nat.zero_le _, rfl, fun j hj => by omega, Below.refl _ _⟩
    case round =>
      obtain ⟨k, hk, rfl, heq, hb⟩ := hrel
      have HEQ := Lib.hid heq
      have HB := Lib.hid hb
      clear heq hb
      by_cases hlt : k < n
      · have hlt' : decide ((k : Int) < n) = true := decide_eq_true (by omega)
        have hkI : (k : Int) < (n : Int) := by omega
        obtain ⟨c, o, rfl, hc, -, x0, x1, x2, x3⟩ := HP.out.low HB.out k hlt
        obtain ⟨c', o', rfl, hc', -, y0, y1, y2, y3⟩ := HQ.out.low HB.out k hlt
        have hq := neq_col (f k) (g k)
        cases hsame : sameC (f k) (g k)
        · have HD : Hid (¬ f k = g k) := Lib.hid (fun h => by
            rw [sameC_iff.2 h] at hsame
            cases hsame)
          rw [hsame] at hq
          go_wp2_with fail
          go_quiet (fail)
          go_wp2
          go_ret
          exact ⟨ret_b (sameCols_no hlt HD.out).symm, below_drewN HB.out _⟩
        · have HS := Lib.hid (sameC_iff.1 hsame)
          rw [hsame] at hq
          go_wp2_with fail
          go_quiet (fail)
          go_wp2
          go_roundw
          case rel => exact ⟨k + 1, by omega, by go_num, all_succ HEQ.out HS.out, below_drewN HB.out _⟩
          case measure => simp [intOf]; omega
      · have hlt' : decide ((k : Int) < n) = false := decide_eq_false (by omega)
        obtain rfl : k = n := by omega
        go_wp2
        go_ret
        exact ⟨ret_b (sameCols_yes HEQ.out).symm, HB.out⟩
  · have hlI : ((n : Int) != (m : Int)) = true := bne_iff_ne.2 (by omega)
    have HD := Lib.hid hl
    clear hl
    go_enter Tryd.func63, Tryd.ntmps63
    go_wp2
    go_ret
    exact ⟨ret_b (sameCols_len HD.out).symm, Below.refl _ _⟩
def sameR (a b : TRow) : Bool := decide (a.1 = b.1) && decide (a.2 = b.2)
theorem sameR_iff {a b : TRow} : sameR a b = true ↔ a = b := by
  unfold sameR
  obtain ⟨a1, a2⟩ := a
  obtain ⟨b1, b2⟩ := b
  simp
set_option maxHeartbeats 1000000 in
theorem samerowW_any (a b : TRow) (p q : Option Addr) (ca cb : Nat) (w : World) (hla : a.2.length ≤ 9223372036854775807) (ha : RowAt w p a.2) (hb : RowAt w q b.2) :
    Calls Tryd.prog 44 #[.agg #[.int .i64 a.1, .slice p a.2.length ca], .agg #[.int .i64 b.1, .slice q b.2.length cb]] w fun e w' => e = .returned (.bool (sameR a b)) ∧ Below w.heap.size w w' := by
  have HA := Lib.hid ha
  have HB := Lib.hid hb
  unfold sameR
  clear ha hb
  have hb0 : Below w.heap.size w ((w.alloc (.cells #[.int .i64 a.1, .slice p a.2.length ca] 54)).alloc (.cells #[.int .i64 b.1, .slice q b.2.length cb] 54)) := below_new (below_new (Below.refl _ _) _) _
  have HB0 := Lib.hid hb0
  have HA1 := Lib.hid (HA.out.low hb0)
  have HB1 := Lib.hid (HB.out.low hb0)
  clear hb0
  go_enter Tryd.func44, Tryd.ntmps44
  cases hid : (a.1 == b.1)
  · have hne := beq_eq_false_iff_ne.1 hid
    have HE : Hid ((decide (a.1 = b.1) && decide (a.2 = b.2)) = false) := Lib.hid (by rw [decide_eq_false hne]; rfl)
    clear hne
    go_wp2
    go_ret
    exact ⟨ret_b HE.out.symm, HB0.out⟩
  · have HE : Hid ((decide (a.1 = b.1) && decide (a.2 = b.2)) = decide (a.2 = b.2)) := Lib.hid (by rw [decide_eq_true (beq_iff_eq.1 hid)]; rfl)
    go_wp2_with fail
    refine (equal_any p q a.2 b.2 ca cb _ hla HA1.out HB1.out).mono ?_
    rintro e w2 ⟨rfl, hb2⟩
    have HB2 := Lib.hid (below_next HB0.out hb2)
    clear hb2
    go_wp2
    go_ret
    exact ⟨ret_b HE.out.symm, HB2.out⟩
theorem ext_trows {A B : List TRow} (hl : A.length = B.length) (h : ∀ i, i < A.length → tAt A i = tAt B i) : A = B := by
  apply List.ext_getElem hl
  intro i h1 h2
  have := h i h1
  rw [tAt_get h1, tAt_get h2] at this
  exact this
set_option maxHeartbeats 1000000 in
theorem equalrows_any (A B : List TRow) (p q : Option Addr) (ca cb : Nat) (w : World) (hA : A.length ≤ 1000) (hp : TRowsAt w p A) (hq : TRowsAt w q B) :
    Calls Tryd.prog 43 #[.slice p A.length ca, .slice q B.length cb, .func (.func 44) #[] #[]] w fun e w' => e = .returned (.bool (decide (A = B))) ∧ Below w.heap.size w w' := by
  have HP := Lib.hid hp
  have HQ := Lib.hid hq
  clear hp hq
  by_cases hl : A.length = B.length
  · have hlI : ((A.length : Int) != (B.length : Int)) = false := by simp [hl]
    have HL := Lib.hid hl
    clear hl
    go_enter Tryd.func43, Tryd.ntmps43
    go_wp2_with fail
    go_loopw [17] (fun i v => ∃ k : Nat, k ≤ A.length ∧ i = .int .i64 k ∧ (∀ j, j < k → tAt A j = tAt B j) ∧ Below w.heap.size w v) (fun i _ => A.length - (intOf i).toNat)
    case atStart => exact ⟨0, Nat.zero_le _, rfl, fun j hj => by omega, Below.refl _ _⟩
    case round =>
      obtain ⟨k, hk, rfl, heq, hb⟩ := hrel
      have HEQ := Lib.hid heq
      have HB := Lib.hid hb
      clear heq hb
      by_cases hlt : k < A.length
      · have hlt' : decide ((k : Int) < A.length) = true := decide_eq_true (by omega)
        have hky : k < B.length := by have := HL.out; omega
        have hkI : (k : Int) < (B.length : Int) := by omega
        obtain ⟨c, o, q1, c1, rfl, hc, h0, h1, hr1, hs1, -⟩ := HP.out.low HB.out k hlt
        have hbn := below_alloc wr (.cells #[.int .i64 (tAt A k).1, .slice q1 (tAt A k).2.length c1] 54)
        obtain ⟨c', o', q2, c2, rfl, hc', h0', h1', hr2, hs2, -⟩ := (HQ.out.low HB.out).low hbn k hky
        have HR1 := Lib.hid (hr1.low hbn)
        have HR2 := Lib.hid hr2
        have HB1 := Lib.hid (below_next HB.out hbn)
        clear hr1 hr2 hbn
        go_wp2_with fail
        have hbm := below_alloc (wr.alloc (.cells #[.int .i64 (tAt A k).1, .slice q1 (tAt A k).2.length c1] 54)) (.cells #[.int .i64 (tAt B k).1, .slice q2 (tAt B k).2.length c2] 54)
        have HB2 := Lib.hid (below_next HB1.out hbm)
        have HR1b := Lib.hid (HR1.out.low hbm)
        have HR2b := Lib.hid (HR2.out.low hbm)
        clear hbm HB1 HR1 HR2
        refine (samerowW_any (tAt A k) (tAt B k) q1 q2 c1 c2 _ (by omega) HR1b.out HR2b.out).mono ?_
        rintro e v1 ⟨rfl, hb1⟩
        have HB3 := Lib.hid (below_next HB2.out hb1)
        clear HB HB2 hb1 h0 h0' h1 h1' hc hc' HR1b HR2b
        cases hz : sameR (tAt A k) (tAt B k)
        · have HD : Hid (¬ A = B) := Lib.hid (fun h => by
            rw [h, sameR_iff.2 rfl] at hz
            cases hz)
          go_wp2
          go_ret
          exact ⟨ret_b (decide_eq_false HD.out).symm, HB3.out⟩
        · have HZ := Lib.hid (sameR_iff.1 hz)
          go_wp2
          go_roundw
          case rel => exact ⟨k + 1, by omega, by go_num, all_succ HEQ.out HZ.out, HB3.out⟩
          case measure => simp [intOf]; omega
      · have hlt' : decide ((k : Int) < A.length) = false := decide_eq_false (by omega)
        obtain rfl : k = A.length := by omega
        have HD : Hid (A = B) := Lib.hid (ext_trows HL.out HEQ.out)
        go_wp2
        go_ret
        exact ⟨ret_b (decide_eq_true HD.out).symm, HB.out⟩
  · have hlI : ((A.length : Int) != (B.length : Int)) = true := bne_iff_ne.2 (by omega)
    have HD : Hid (¬ A = B) := Lib.hid (fun h => hl (by rw [h]))
    clear hl
    go_enter Tryd.func43, Tryd.ntmps43
    go_wp2
    go_ret
    exact ⟨ret_b (decide_eq_false HD.out).symm, Below.refl _ _⟩
set_option maxHeartbeats 1000000 in
theorem sameschema_any (nm nm' : ByteArray) (p q : Option Addr) (n m : Nat) (f g : Nat → Col) (ca cb : Nat) (w : World) (hn : n ≤ 9223372036854775807) (ha : ColsAt w p n f) (hb : ColsAt w q m g) :
    Calls Tryd.prog 42 #[.agg #[.string nm, .slice p n ca], .agg #[.string nm', .slice q m cb]] w fun e w' => e = .returned (.bool (eqT nm nm' && sameCols n f m g)) ∧ Below w.heap.size w w' := by
  have hb0 : Below w.heap.size w ((w.alloc (.cells #[.string nm, .slice p n ca] 24)).alloc (.cells #[.string nm', .slice q m cb] 24)) := below_new (below_new (Below.refl _ _) _) _
  have HB0 := Lib.hid hb0
  have HA1 := Lib.hid (ha.low hb0)
  have HB1 := Lib.hid (hb.low hb0)
  clear hb0 ha hb
  go_enter Tryd.func42, Tryd.ntmps42
  cases hid : eqT nm nm'
  · have hid' : (nm.toList == nm'.toList) = false := hid
    go_wp2
    go_ret
    exact ⟨rfl, HB0.out⟩
  · have hid' : (nm.toList == nm'.toList) = true := hid
    go_wp2_with fail
    refine (equalcols_any p q n m f g ca cb _ hn HA1.out HB1.out).mono ?_
    rintro e w2 ⟨rfl, hb2⟩
    have HB2 := Lib.hid (below_next HB0.out hb2)
    clear hb2
    go_wp2
    go_ret
    exact ⟨rfl, HB2.out⟩
def sameT (T S : Tab) : Bool := (eqT T.nm S.nm && sameCols T.n T.f S.n S.f) && (T.nx == S.nx && decide (T.R = S.R))
set_option maxHeartbeats 1000000 in
theorem sametable_any (T S : Tab) (w : World) (hT : TabAt w T) (hS : TabAt w S) :
    Calls Tryd.prog 20 #[T.v, S.v] w fun e w' => e = .returned (.bool (sameT T S)) ∧ Below w.heap.size w w' := by
  obtain ⟨nm, pc, n, cc, f, nx, pr, cr, R⟩ := T
  obtain ⟨nm', pc', n', cc', f', nx', pr', cr', R'⟩ := S
  unfold Tab.v sameT
  have hb0 : Below w.heap.size w ((w.alloc (.cells #[.string nm, .slice pc n cc, .int .i64 nx, .slice pr R.length cr] 27)).alloc (.cells #[.string nm', .slice pc' n' cc', .int .i64 nx', .slice pr' R'.length cr'] 27)) := below_new (below_new (Below.refl _ _) _) _
  have HX := Lib.hid ((cell4_new w (.string nm) (.slice pc n cc) (.int .i64 nx) (.slice pr R.length cr) 27).low (below_alloc _ (.cells #[.string nm', .slice pc' n' cc', .int .i64 nx', .slice pr' R'.length cr'] 27)))
  have HY := Lib.hid ((cell4_new (w.alloc (.cells #[.string nm, .slice pc n cc, .int .i64 nx, .slice pr R.length cr] 27)) (.string nm') (.slice pc' n' cc') (.int .i64 nx') (.slice pr' R'.length cr') 27).at (size_alloc _ _))
  have HB0 := Lib.hid hb0
  have HT0 := Lib.hid (hT.low hb0)
  have HS0 := Lib.hid (hS.low hb0)
  have hn := hT.n
  have hl := hT.len
  dsimp only at hn hl ⊢
  clear hb0 hT hS
  go_enter Tryd.func20, Tryd.ntmps20
  go_wp2_with fail
  refine (sameschema_any nm nm' pc pc' n n' f f' cc cc' _ hn HT0.out.cols HS0.out.cols).mono ?_
  rintro e w1 ⟨rfl, hb1⟩
  have HT1 := Lib.hid (HT0.out.low hb1)
  have HS1 := Lib.hid (HS0.out.low hb1)
  have HB1 := Lib.hid (below_next HB0.out hb1)
  obtain ⟨xl, x0, x1, x2, x3, -⟩ := HX.out.low hb1
  obtain ⟨yl, y0, y1, y2, y3, -⟩ := HY.out.low hb1
  clear HX HY HB0 HT0 HS0 hb1
  cases h1 : (eqT nm nm' && sameCols n f n' f')
  · have HE : Hid (((eqT nm nm' && sameCols n f n' f') && (nx == nx' && decide (R = R'))) = false) := Lib.hid (by rw [h1]; rfl)
    go_wp2
    go_ret
    exact ⟨ret_b HE.out.symm, HB1.out⟩
  · cases h2 : (nx == nx')
    · have HE : Hid (((eqT nm nm' && sameCols n f n' f') && (nx == nx' && decide (R = R'))) = false) := Lib.hid (by rw [h1, h2]; rfl)
      go_wp2
      go_ret
      exact ⟨ret_b HE.out.symm, HB1.out⟩
    · have HE : Hid (((eqT nm nm' && sameCols n f n' f') && (nx == nx' && decide (R = R'))) = decide (R = R')) := Lib.hid (by rw [h1, h2]; rfl)
      go_wp2_with fail
      refine (equalrows_any R R' pr pr' cr cr' _ hl HT1.out.rows HS1.out.rows).mono ?_
      rintro e w2 ⟨rfl, hb2⟩
      have HB2 := Lib.hid (below_next HB1.out hb2)
      clear hb2
      go_wp2
      go_ret
      exact ⟨ret_b HE.out.symm, HB2.out⟩
end Go.Proofs.YtidgfmjbfcgfiaaDoor
/-
  What package table does (as hypotheses of the walks), and the sanity check of its statements.
-/
namespace Go.Proofs.YtidgfmjbfcgfiaaDoor
set_option maxRecDepth 100000
open Go.RowKit
variable {ls : List Nat}

/-- What the program's functions of package table do: the contracts that the walks ask for. -/
structure TableDoes : Prop where
  valid : ∀ (T : Tab) (w : World), TabAt w T → Calls Tryd.prog 17 #[T.v] w fun e w' => e = .returned (.bool T.valid) ∧ Below w.heap.size w w'
  new : ∀ (nm : ByteArray) (p : Option Addr) (n cap : Nat) (f : Nat → Col) (w : World), nm.size ≤ 9223372036854775807 → n ≤ 9223372036854775807 → ColsAt w p n f → Calls Tryd.prog 18 #[schV nm p n cap] w (TNewPost nm n f w)
  get : ∀ (T : Tab) (id : Int) (w : World), TabAt w T → Calls Tryd.prog 21 #[T.v, .int .i64 id] w (GetPost id T.R w)
  bag : ∀ (T : Tab) (w : World), TabAt w T → Calls Tryd.prog 24 #[T.v] w (SortedPost (T.R.map (·.2)) w)
  look : ∀ (T : Tab) (key : Val) (w : World), TabAt w T → Calls Tryd.prog 23 #[T.v, .agg #[.int .i64 key.1, .int .i64 key.2.1, .string key.2.2]] w fun e w' => e = .returned (.tuple #[.int .i64 (lookO T.key key T.R).1, .bool (lookO T.key key T.R).2]) ∧ Below w.heap.size w w'
  dup : ∀ (T : Tab) (w : World), TabAt w T → Calls Tryd.prog 25 #[T.v] w fun e w' => e = .returned (.bool (dupR T.key T.R)) ∧ Below w.heap.size w w'

def knownR : List TRow := [(3, [(1, 5, ⟨#[]⟩), (1, 1, ⟨#[]⟩), (0, 0, ⟨#[]⟩)])]
abbrev knownVals : Obj := .cells #[.int .i64 1, .int .i64 5, .string ⟨#[]⟩, .int .i64 1, .int .i64 1, .string ⟨#[]⟩, .int .i64 0, .int .i64 0, .string ⟨#[]⟩] 30
theorem known_rows (u : World) (N : Nat) (hN : u.heap.size = N) : TRowsAt ((u.alloc knownVals).alloc (.cells #[.int .i64 3, .slice (some ⟨N, 0, none⟩) 3 3] 54)) (some ⟨N + 1, 0, none⟩) knownR := by
  subst hN
  intro i hi
  obtain rfl : i = 0 := by simpa [knownR] using hi
  refine ⟨u.heap.size + 1, 0, some ⟨u.heap.size, 0, none⟩, 3, rfl, by simp, ?_, ?_, ?_, by decide, fun h => by cases h⟩
  · rw [← size_alloc u knownVals]; go_simp; rfl
  · rw [← size_alloc u knownVals]; go_simp; rfl
  · intro j hj
    have hj3 : j < 3 := hj
    obtain rfl | rfl | rfl : j = 0 ∨ j = 1 ∨ j = 2 := by omega
    all_goals
      refine ⟨u.heap.size, 0, rfl, by simp; omega, ?_, ?_, ?_⟩
      all_goals go_simp; rfl
def knownTab (p : Option Addr) (cc : Nat) (g : Nat) : Tab := ⟨⟨#[117]⟩, p, 3, cc, colU, 4, some ⟨g, 0, none⟩, 1, knownR⟩
theorem known_valid (p : Option Addr) (cc g : Nat) : (knownTab p cc g).valid = true := by
  show validT ⟨#[117]⟩ 3 colU 4 knownR = true
  decide +kernel
theorem known_look (p : Option Addr) (cc g : Nat) : lookO (knownTab p cc g).key (1, 5, ⟨#[]⟩) (knownTab p cc g).R = (3, true) := by
  show lookO (findKey colU 3) (1, 5, ⟨#[]⟩) knownR = (3, true)
  decide +kernel
theorem known_dup (p : Option Addr) (cc g : Nat) : dupR (knownTab p cc g).key (knownTab p cc g).R = false := by
  show dupR (findKey colU 3) knownR = false
  decide +kernel
set_option maxHeartbeats 1000000 in
theorem rnumber6_any (n : Int) (w : World) :
    Calls Tryd.prog 15 #[.int .i64 n] w fun e w' => e = .returned (.agg #[.int .i64 1, .int .i64 n, .string ⟨#[]⟩]) ∧ Below w.heap.size w w' := by
  go_enter Tryd.func15, Tryd.ntmps15
  go_wp2
  exact bodyPost_ret (v := .agg #[.int .i64 1, .int .i64 n, .string ⟨#[]⟩]) (by simp [results, Tryd.results15, go_sem]) rfl ⟨rfl, (Below.refl _ _).alloc (Nat.le_refl _) _⟩
set_option maxHeartbeats 2000000 in
theorem known6_any (hT : TableDoes) (w : World) :
    Calls Tryd.prog 6 #[] w fun e w' => e = .returned (.bool true) ∧ Below w.heap.size w w' := by
  go_enter Tryd.func6, Tryd.ntmps6
  go_wp2_with fail
  refine (schemaU_any _).mono ?_
  rintro e w1 ⟨Z, rfl, hZ, -, hb1⟩
  have HB1 := Lib.hid hb1
  have HZ := Lib.hid hZ
  clear hb1 hZ
  unfold schV
  go_wp2_with fail
  refine (hT.new ⟨#[117]⟩ (some ⟨Z, 0, none⟩) 3 3 colU _ (by decide) (by decide) HZ.out).mono ?_
  rintro e w2 ⟨T, er, rfl, hT2, hR, hb2, hcase⟩
  obtain ⟨hso, rfl, hnm, hn, hf, hnx⟩ | ⟨hso, -⟩ := hcase
  · obtain ⟨nm, pc, n, cc, f, nx, pr, cr, R⟩ := T
    dsimp only at hR hnm hn hf hnx
    subst hR hnm hn hnx
    have hcol : ColsAt w2 pc 3 colU := hT2.cols.congr fun i hi => (hf i hi).symm
    have HC := Lib.hid hcol
    have HB2 := Lib.hid (below_next HB1.out hb2)
    unfold Tab.v
    have HB3 := Lib.hid (below_new HB2.out (.cells #[.string ⟨#[117]⟩, .slice pc 3 cc, .int .i64 1, .slice pr 0 cr] 27))
    have HC3 := Lib.hid (HC.out.low (below_alloc w2 (.cells #[.string ⟨#[117]⟩, .slice pc 3 cc, .int .i64 1, .slice pr 0 cr] 27)))
    have HX3 := Lib.hid (cell4_new w2 (.string ⟨#[117]⟩) (.slice pc 3 cc) (.int .i64 1) (.slice pr 0 cr) 27)
    have HBB : Hid (w.heap.size ≤ w2.heap.size) := Lib.hid HB2.out.size
    have HPC : Hid (∀ q, pc = some q → q.block ≠ w2.heap.size) := Lib.hid (fun q hq => by
      obtain ⟨c, o, he, hc⟩ := HC.out.ptr (by decide)
      rw [hq] at he
      cases he
      exact Nat.ne_of_lt hc)
    clear hb2 hcol hf hT2 HB1 HZ hso HB2 HC
    dsimp only
    go_wp2_with fail
    refine (rnumber6_any 5 _).mono ?_
    rintro e w3 ⟨rfl, hb3⟩
    have HB4 := Lib.hid (below_next HB3.out hb3)
    have HC4 := Lib.hid (HC3.out.low hb3)
    have HX4 := Lib.hid (HX3.out.low hb3)
    clear HB3 HC3 HX3 hb3
    generalize w2.heap.size = B at HX4 HBB HPC ⊢
    go_wp2_with fail
    refine (rnumber6_any 1 _).mono ?_
    rintro e w4 ⟨rfl, hb4⟩
    have HB5 := Lib.hid (below_next HB4.out hb4)
    have HC5 := Lib.hid (HC4.out.low hb4)
    have HX5 := Lib.hid (HX4.out.low hb4)
    clear HB4 HC4 HX4 hb4
    obtain ⟨xl, x0, x1, x2, x3, xf⟩ := HX5.out
    go_upto_region 4 with (fail)
    have hN : ((w4.setCell ⟨B, 3, none⟩ (.slice (some ⟨w4.heap.size + 1, 0, none⟩) 1 1)).setCell ⟨B, 2, none⟩ (.int .i64 4)).heap.size = w4.heap.size := by rw [set_size, set_size]
    have hrows := known_rows _ _ hN
    have hcols : ColsAt (((w4.setCell ⟨B, 3, none⟩ (.slice (some ⟨w4.heap.size + 1, 0, none⟩) 1 1)).setCell ⟨B, 2, none⟩ (.int .i64 4)).alloc knownVals) pc 3 colU := ((HC5.out.set HPC.out _).set HPC.out _).low (below_alloc _ _)
    have hcols2 := hcols.low (below_alloc _ (.cells #[.int .i64 3, .slice (some ⟨w4.heap.size, 0, none⟩) 3 3] 54))
    have HT6 := Lib.hid (TabAt.mk (T := knownTab pc cc (w4.heap.size + 1)) (by show (⟨#[117]⟩ : ByteArray).size ≤ 9223372036854775807; decide) (by show 3 ≤ 9223372036854775807; decide) hcols2 hrows (by show 1 ≤ 1000; decide) (fun r hr => by
      obtain rfl := List.mem_singleton.1 hr
      intro i hi
      have hi3 : i < 3 := hi
      obtain rfl | rfl | rfl : i = 0 ∨ i = 1 ∨ i = 2 := by omega
      all_goals decide) (by show (4 : Int) ≤ 9223372036854775807; decide))
    have HX6 := Lib.hid ((((HX5.out.set3 (.slice (some ⟨w4.heap.size + 1, 0, none⟩) 1 1)).set2 (.int .i64 4)).low (below_alloc _ knownVals)).low (below_alloc _ (.cells #[.int .i64 3, .slice (some ⟨w4.heap.size, 0, none⟩) 3 3] 54)))
    have HB6 := Lib.hid (below_new (below_new ((HB5.out.setCell (p := ⟨B, 3, none⟩) (by exact HBB.out) (.slice (some ⟨w4.heap.size + 1, 0, none⟩) 1 1)).setCell (p := ⟨B, 2, none⟩) (by exact HBB.out) (.int .i64 4)) knownVals) (.cells #[.int .i64 3, .slice (some ⟨w4.heap.size, 0, none⟩) 3 3] 54))
    clear x0 x1 x2 x3 xf xl HX5 HB5 HC5 hcols hcols2 hrows hN HPC HBB
    generalize World.alloc _ _ = W6 at HT6 HX6 HB6 ⊢
    obtain ⟨xl, x0, x1, x2, x3, xf⟩ := HX6.out
    have l0 := lowW_cell (a := ⟨B, 0, none⟩) xl x0
    have l1 := lowW_cell (a := ⟨B, 1, none⟩) xl x1
    have l2 := lowW_cell (a := ⟨B, 2, none⟩) xl x2
    have l3 := lowW_cell (a := ⟨B, 3, none⟩) xl x3
    refine wp_region_low (by kernel_rfl) (by kernel_rfl) ?_
    repeat (refine wq_step (fun K hK => ?_); go_simp; first | (refine hK _ ?_; clear hK K) | (apply Exists.intro; refine ⟨fun _ => ?_, hK _ ?_⟩; (first | (go_at_call 15; exact Calls.low_of (rnumber6_any 5 _)) | (go_at_call 23; exact Calls.low_of (hT.look (knownTab pc cc (w4.heap.size + 1)) (1, 5, ⟨#[]⟩) _ (HT6.out.low (lowW_low _ _ _))))); clear hK K))
    refine wq_nil ?_
    rintro _ ⟨⟨d7, os7⟩, rfl⟩
    dsimp only
    have hlow := lowW_low W6 d7 os7
    clear l0 l1 l2 l3 x0 x1 x2 x3 xf xl
    generalize lowW W6 d7 os7 = W7 at hlow ⊢
    have HT7 := Lib.hid (HT6.out.low hlow)
    have HX7 := Lib.hid (HX6.out.low hlow)
    have HB7 := Lib.hid (below_next HB6.out hlow)
    clear HT6 HX6 HB6 hlow
    obtain ⟨xl, x0, x1, x2, x3, xf⟩ := HX7.out
    rw [known_look]
    go_wp2_with fail
    refine (hT.valid (knownTab pc cc (w4.heap.size + 1)) _ HT7.out).mono ?_
    rintro e w8 ⟨rfl, hb8⟩
    have HT8 := Lib.hid (HT7.out.low hb8)
    have HX8 := Lib.hid (HX7.out.low hb8)
    have HB8 := Lib.hid (below_next HB7.out hb8)
    clear HT7 HX7 HB7 hb8 x0 x1 x2 x3 xf xl
    obtain ⟨xl, x0, x1, x2, x3, xf⟩ := HX8.out
    rw [known_valid]
    go_wp2_with fail
    refine (hT.dup (knownTab pc cc (w4.heap.size + 1)) _ HT8.out).mono ?_
    rintro e w9 ⟨rfl, hb9⟩
    have HB9 := Lib.hid (below_next HB8.out hb9)
    clear HT8 HX8 HB8 hb9 x0 x1 x2 x3 xf xl
    rw [known_dup]
    go_wp2
    go_ret
    exact ⟨rfl, HB9.out⟩
  · exact absurd (ws_valid 1) (by show ¬ schemaOK ⟨#[117]⟩ 3 colU = true; rw [hso]; decide)
end Go.Proofs.YtidgfmjbfcgfiaaDoor
