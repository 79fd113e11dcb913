/-
  Several texts in one.
-/
import Derived.Test.YtlnbpobipmejfaaGreatDoorPk24
import Derived.Test.YtlnbpobipmejfaaGreatDoorPk26
import Derived.Test.YtlnbpobipmejfaaGreatDoorPk16
import Derived.Test.YtlnbpobipmejfaaGreatDoorPk19
import Derived.Test.YtlnbpobipmejfaaGreatDoorPk09
import Derived.Test.YtlnbpobipmejfaaGreatDoorPk08
import Derived.Test.YtlnbpobipmejfaaGreatDoorPk13
import Derived.Test.YtlnbpobipmejfaaGreatDoorPk20
/-
  What a table holds behind Apply: plain facts. The state of the law KeysApplies.
-/
namespace Go.Proofs.YtlnbpobipmejfaaGreatDoor
set_option maxRecDepth 100000
open Go.RowKit
variable {ls : List Nat}

theorem changeofT_any (b : Nat) (w : World) (h8b : 2 ≤ b) (ht : TapeAt w b) (hE : Env ls w) (hlw : 0 ∈ ls) (T : Tab) (a : Addr) (hpc : T.pc = some a)
    (HT : ∀ v, StepT b w v → TabAt v T) (hval : T.valid = true) (hR : T.R.length ≤ 40) (hab : a.block ≠ b) (haw : a.block < w.heap.size) :
    Calls Tryz.prog 34 #[.pointer (some ⟨b, 0, none⟩), .agg #[.string T.nm, .slice T.pc T.n T.cc, .int .i64 T.nx, .slice T.pr T.R.length T.cr]] w (ChangeOfPost b w) := by
  obtain ⟨nm, pc, n, cc, f, nx, pr, cr, R⟩ := T
  dsimp only at hpc hR
  subst hpc
  exact changeof_any b w h8b ht hE hlw nm a n cc f nx pr cr R HT hval hR hab haw
end Go.Proofs.YtlnbpobipmejfaaGreatDoor
/-
  The state of a law that draws tables: its tape, the package's words, the memory before the law; the world's calls over it.
-/
namespace Go.Proofs.YtlnbpobipmejfaaGreatDoor
set_option maxRecDepth 100000
open Go.RowKit
variable {ls : List Nat}

structure Wd (ls : List Nat) (b : Nat) (w u : World) : Prop where
  tape : TapeAt u b
  env : Env ls u
  bel : Below w.heap.size w u
  lo : w.heap.size ≤ b
  g : 2 ≤ b
section
variable {b Z : Nat} {w u v : World} {T : Tab}
theorem Wd.step (h : Wd ls b w u) (hs : StepT b u v) (ht : TapeAt v b) : Wd ls b w v := ⟨ht, h.env.step hs h.g, h.bel.trans (hs.below h.lo h.bel.size), h.lo, h.g⟩
theorem Wd.low (h : Wd ls b w u) (hb : Below u.heap.size u v) : Wd ls b w v := h.step (step_low hb) (h.tape.below hb)
theorem Wd.alloc (h : Wd ls b w u) (o : Obj) : Wd ls b w (u.alloc o) := h.low (below_alloc u o)
theorem wd_new (hE : Env ls u) (hB : Below w.heap.size w u) (p : Option Addr) (len cap : Nat) (hl : len ≤ cap) (hm : len ≤ 9223372036854775807) (h : IntsAt u p len) :
    Calls Tryz.prog 5 #[.slice p len cap] u fun e v => ∃ b : Nat, e = .returned (.pointer (some ⟨b, 0, none⟩)) ∧ u.heap.size ≤ b ∧ Wd ls b w v ∧ Below u.heap.size u v :=
  (new_any u p len cap hl hm h).mono fun _ _ ⟨b, he, hb0, ht, hb1⟩ => ⟨b, he, hb0, ⟨ht, hE.low hb1, below_next hB hb1, Nat.le_trans hB.size hb0, Nat.le_trans hE.size hb0⟩, hb1⟩
theorem Wd.table (h : Wd ls b w u) :
    Calls Tryz.prog 8 #[.pointer (some ⟨b, 0, none⟩)] u fun e v => ∃ k : Nat, e = .returned (.string (wsNm k)) ∧ k < 3 ∧ Wd ls b w v ∧ StepT b u v :=
  (table_any b u h.tape).mono fun _ _ ⟨k, he, hk, ht, hs⟩ => ⟨k, he, hk, h.step hs ht, hs⟩
theorem wsNm_size8 (k : Nat) : (wsNm k).size ≤ 9223372036854775807 := by
  match k with
  | 0 => decide
  | 1 => decide
  | k + 2 => show (ByteArray.mk #[108, 111, 103]).size ≤ _; decide
/-- The columns of a schema of the world lie in a block. -/
structure Sch (b k Z : Nat) (u : World) : Prop where
  cols : ColsAt u (some ⟨Z, 0, none⟩) (wsN k) (wsF k)
  zb : Z ≠ b
  z : Z < u.heap.size
theorem Wd.schema (h : Wd ls b w u) (k : Nat) :
    Calls Tryz.prog 7 #[.string (wsNm k)] u fun e v => ∃ Z : Nat, e = .returned (schV (wsNm k) (some ⟨Z, 0, none⟩) (wsN k) (wsN k)) ∧ Sch b k Z v ∧ Wd ls b w v ∧ Below u.heap.size u v :=
  (schemaK_any k u).mono fun _ v ⟨Z, he, hZ, hZl, hb⟩ => ⟨Z, he, ⟨hZ, (by have := h.tape.lt; omega), (by
    obtain ⟨c, o, he, hc⟩ := hZ.ptr (by have := schemaOK_range (ws_valid k); omega)
    cases he
    exact hc)⟩, h.low hb, hb⟩
/-- A table that was drawn: it lies in every world that the tape may lead to. -/
structure Tb (b Z : Nat) (u : World) (T : Tab) : Prop where
  all : ∀ v, StepT b u v → TabAt v T
  pc : T.pc = some ⟨Z, 0, none⟩
  val : T.valid = true
  len : T.R.length ≤ 40
  nms : T.nm.size ≤ 9223372036854775807
  zb : Z ≠ b
  z : Z < u.heap.size
theorem Tb.step (h : Tb b Z u T) (hs : StepT b u v) : Tb b Z v T := ⟨fun x hx => h.all x (hs.trans hx), h.pc, h.val, h.len, h.nms, h.zb, Nat.lt_of_lt_of_le h.z hs.size⟩
theorem Tb.low (h : Tb b Z u T) (hb : Below u.heap.size u v) : Tb b Z v T := h.step (step_low hb)
theorem Tb.at (h : Tb b Z u T) : TabAt u T := h.all u (StepT.refl b u)
theorem Tb.sok (h : Tb b Z u T) : schemaOK T.nm T.n T.f = true := (validT_parts h.val).1
theorem Wd.tableOf (h : Wd ls b w u) (hlw : 0 ∈ ls) {k : Nat} (hS : Sch b k Z u) (m : Nat) (hm : m ≤ 20) :
    Calls Tryz.prog 6 #[.pointer (some ⟨b, 0, none⟩), schV (wsNm k) (some ⟨Z, 0, none⟩) (wsN k) (wsN k), .int .i64 m] u fun e v => ∃ T : Tab, e = .returned (.agg #[.string T.nm, .slice T.pc T.n T.cc, .int .i64 T.nx, .slice T.pr T.R.length T.cr]) ∧ Tb b Z v T ∧ T.nm = wsNm k ∧ T.n = wsN k ∧ T.f = wsF k ∧ T.R.length ≤ m ∧ Wd ls b w v ∧ StepT b u v :=
  (tableof_any b u h.g h.tape h.env hlw (wsNm k) ⟨Z, 0, none⟩ (wsN k) (wsN k) m (wsF k) hm (wsNm_size8 k) hS.cols hS.zb hS.z (ws_valid k)).mono fun _ _ ⟨T, he, h1, h2, h3, h4, h5, h6, h7, h8, ht, hs⟩ =>
    ⟨T, he, ⟨h8, h2, h7, Nat.le_trans h6 (Nat.le_trans hm (by decide)), by rw [h1]; exact wsNm_size8 k, hS.zb, Nat.lt_of_lt_of_le hS.z hs.size⟩, h1, h3, h5, h6, h.step hs ht, hs⟩
theorem Wd.tableOfT (h : Wd ls b w u) (hlw : 0 ∈ ls) (t : Tb b Z u T) (m : Nat) (hm : m ≤ 20) :
    Calls Tryz.prog 6 #[.pointer (some ⟨b, 0, none⟩), .agg #[.string T.nm, .slice T.pc T.n T.cc], .int .i64 m] u fun e v => ∃ S : Tab, e = .returned (.agg #[.string S.nm, .slice S.pc S.n S.cc, .int .i64 S.nx, .slice S.pr S.R.length S.cr]) ∧ Tb b Z v S ∧ S.nm = T.nm ∧ S.n = T.n ∧ S.f = T.f ∧ S.R.length ≤ m ∧ Wd ls b w v ∧ StepT b u v := by
  have hC : ColsAt u T.pc T.n T.f := t.at.cols
  have hx := tableof_any b u h.g h.tape h.env hlw T.nm ⟨Z, 0, none⟩ T.n T.cc m T.f hm t.nms (by rw [← t.pc]; exact hC) t.zb t.z t.sok
  rw [← t.pc] at hx
  exact hx.mono fun _ _ ⟨S, he, h1, h2, h3, h4, h5, h6, h7, h8, ht, hs⟩ =>
    ⟨S, he, ⟨h8, h2, h7, Nat.le_trans h6 (Nat.le_trans hm (by decide)), by rw [h1]; exact t.nms, t.zb, Nat.lt_of_lt_of_le t.z hs.size⟩, h1, h3, h5, h6, h.step hs ht, hs⟩
/-- A change that was drawn. -/
structure Cb (b : Nat) (u : World) (C : Chg) : Prop where
  all : ∀ v, StepT b u v → ChgAt v C
  i : C.I.length ≤ 3
  d : C.D.length ≤ 40
  u : C.U.length ≤ 40
theorem Cb.step {C : Chg} (h : Cb b u C) (hs : StepT b u v) : Cb b v C := ⟨fun x hx => h.all x (hs.trans hx), h.i, h.d, h.u⟩
theorem Cb.low {C : Chg} (h : Cb b u C) (hb : Below u.heap.size u v) : Cb b v C := h.step (step_low hb)
theorem Cb.at {C : Chg} (h : Cb b u C) : ChgAt u C := h.all u (StepT.refl b u)
theorem Wd.changeOf (h : Wd ls b w u) (hlw : 0 ∈ ls) (t : Tb b Z u T) :
    Calls Tryz.prog 34 #[.pointer (some ⟨b, 0, none⟩), .agg #[.string T.nm, .slice T.pc T.n T.cc, .int .i64 T.nx, .slice T.pr T.R.length T.cr]] u fun e v => ∃ C : Chg, e = .returned (.agg #[.slice C.pi C.I.length C.ci, .slice C.pd C.D.length C.cd, .slice C.pu C.U.length C.cu]) ∧ Cb b v C ∧ Wd ls b w v ∧ StepT b u v :=
  (changeofT_any b u h.g h.tape h.env hlw T ⟨Z, 0, none⟩ t.pc t.all t.val t.len t.zb t.z).mono fun _ _ ⟨C, he, h1, ht, hs, h2, h3, h4⟩ => ⟨C, he, ⟨h1, h2, h3, h4⟩, h.step hs ht, hs⟩
end
end Go.Proofs.YtlnbpobipmejfaaGreatDoor
/-
  SameTable of the world.
-/
namespace Go.Proofs.YtlnbpobipmejfaaGreatDoor
set_option maxRecDepth 100000
open Go.RowKit
variable {ls : List Nat}

def sameC (a b : Col) : Bool := eqT a.nm b.nm && (a.ty == b.ty && (a.nn == b.nn && a.key == b.key))
theorem sameC_iff {a b : Col} : sameC a b = true ↔ a = b := by
  unfold sameC
  obtain ⟨a1, a2, a3, a4⟩ := a
  obtain ⟨b1, b2, b3, b4⟩ := b
  simp only [Bool.and_eq_true, eqT_iff, beq_iff_eq, Col.mk.injEq]
theorem neq_col (a b : Col) (w : World) : (binOp .neq 63 (.agg #[.string a.nm, .int .i64 a.ty, .bool a.nn, .bool a.key]) (.agg #[.string b.nm, .int .i64 b.ty, .bool b.nn, .bool b.key])).run Tryz.prog w = .ok (.bool (!sameC a b)) w := by
  go_simp
  unfold sameC eqT
  cases h1 : (a.nm.toList == b.nm.toList) <;> cases h2 : (a.ty == b.ty) <;> cases h3 : (a.nn == b.nn) <;> cases h4 : (a.key == b.key) <;> simp_all
instance : DecidableEq Col := fun a b => decidable_of_iff (sameC a b = true) sameC_iff
/-- Are the columns the same? -/
def sameCols (n : Nat) (f : Nat → Col) (m : Nat) (g : Nat → Col) : Bool := decide (n = m ∧ ∀ i, i < n → f i = g i)
theorem sameCols_no {n m : Nat} {f g : Nat → Col} {k : Nat} (hk : k < n) (h : ¬ f k = g k) : sameCols n f m g = false := decide_eq_false fun hc => h (hc.2 k hk)
theorem sameCols_len {n m : Nat} {f g : Nat → Col} (h : ¬ n = m) : sameCols n f m g = false := decide_eq_false fun hc => h hc.1
theorem sameCols_yes {n : Nat} {f g : Nat → Col} (h : ∀ i, i < n → f i = g i) : sameCols n f n g = true := decide_eq_true ⟨rfl, h⟩
set_option maxHeartbeats 1000000 in
theorem equalcols_any (p q : Option Addr) (n m : Nat) (f g : Nat → Col) (ca cb : Nat) (w : World) (hn : n ≤ 9223372036854775807) (ha : ColsAt w p n f) (hb : ColsAt w q m g) :
    Calls Tryz.prog 66 #[.slice p n ca, .slice q m cb] w fun e w' => e = .returned (.bool (sameCols n f m g)) ∧ Below w.heap.size w w' := by
  have HP := Lib.hid ha
  have HQ := Lib.hid hb
  clear ha hb
  by_cases hl : n = m
  · subst hl
    have hlI : ((n : Int) != (n : Int)) = false := by simp
    go_enter Tryz.func66, Tryz.ntmps66
    go_wp2_with fail
    go_loopw [13] (fun i v => ∃ k : Nat, k ≤ n ∧ i = .int .i64 k ∧ (∀ j, j < k → f j = g j) ∧ Below w.heap.size w v) (fun i _ => n - (intOf i).toNat)
    case atStart => exact ⟨0, Nat.zero_le _, rfl, fun j hj => by omega, Below.refl _ _⟩
    case round =>
      obtain ⟨k, hk, rfl, heq, hb⟩ := hrel
      have HEQ := Lib.hid heq
      have HB := Lib.hid hb
      clear heq hb
      by_cases hlt : k < n
      · have hlt' : decide ((k : Int) < n) = true := decide_eq_true (by omega)
        have hkI : (k : Int) < (n : Int) := by omega
        obtain ⟨c, o, rfl, hc, -, x0, x1, x2, x3⟩ := HP.out.low HB.out k hlt
        obtain ⟨c', o', rfl, hc', -, y0, y1, y2, y3⟩ := HQ.out.low HB.out k hlt
        have hq := neq_col (f k) (g k)
        cases hsame : sameC (f k) (g k)
        · have HD : Hid (¬ f k = g k) := Lib.hid (fun h => by
            rw [sameC_iff.2 h] at hsame
            cases hsame)
          rw [hsame] at hq
          go_wp2_with fail
          go_quiet (fail)
          go_wp2
          go_ret
          exact ⟨ret_b (sameCols_no hlt HD.out).symm, below_drewN HB.out _⟩
        · have HS := Lib.hid (sameC_iff.1 hsame)
          rw [hsame] at hq
          go_wp2_with fail
          go_quiet (fail)
          go_wp2
          go_roundw
          case rel => exact ⟨k + 1, by omega, by go_num, all_succ HEQ.out HS.out, below_drewN HB.out _⟩
          case measure => simp [intOf]; omega
      · have hlt' : decide ((k : Int) < n) = false := decide_eq_false (by omega)
        obtain rfl : k = n := by omega
        go_wp2
        go_ret
        exact ⟨ret_b (sameCols_yes HEQ.out).symm, HB.out⟩
  · have hlI : ((n : Int) != (m : Int)) = true := bne_iff_ne.2 (by omega)
    have HD := Lib.hid hl
    clear hl
    go_enter Tryz.func66, Tryz.ntmps66
    go_wp2
    go_ret
    exact ⟨ret_b (sameCols_len HD.out).symm, Below.refl _ _⟩
def sameR (a b : TRow) : Bool := decide (a.1 = b.1) && decide (a.2 = b.2)
theorem sameR_iff {a b : TRow} : sameR a b = true ↔ a = b := by
  unfold sameR
  obtain ⟨a1, a2⟩ := a
  obtain ⟨b1, b2⟩ := b
  simp
theorem ext_trows {A B : List TRow} (hl : A.length = B.length) (h : ∀ i, i < A.length → tAt A i = tAt B i) : A = B := by
  apply List.ext_getElem hl
  intro i h1 h2
  have := h i h1
  rw [tAt_get h1, tAt_get h2] at this
  exact this
def sameT (T S : Tab) : Bool := (eqT T.nm S.nm && sameCols T.n T.f S.n S.f) && (T.nx == S.nx && decide (T.R = S.R))
end Go.Proofs.YtlnbpobipmejfaaGreatDoor
/-
  Differences, as plain lists: the rows that came, those that left, the updates; how they grow when both tables are gone through at once.
-/
namespace Go.Proofs.YtlnbpobipmejfaaGreatDoor
set_option maxRecDepth 100000
open Go.RowKit
variable {ls : List Nat}

/-- The rows of B whose numbers are not in A. -/
def insR (A B : List TRow) : List TRow := B.filter fun r => (getR r.1 A).isNone
/-- The rows of A whose numbers are not in B. -/
def delR (A B : List TRow) : List TRow := A.filter fun r => (getR r.1 B).isNone
def updP (A : List TRow) (r : TRow) : Option PRow := match getR r.1 A with | some l => if l = r.2 then none else some (r.1, l, r.2) | none => none
/-- The rows with the same number and other values. -/
def updR (A B : List TRow) : List PRow := B.filterMap (updP A)
/-- Is each new row's number new? -/
def newB (nx : Int) (A B : List TRow) : Bool := B.all fun r => (getR r.1 A).isSome || decide (nx ≤ r.1)
/-- Is the second table a later state of the first one? -/
def btwB (T S : Tab) : Bool := T.valid && (S.valid && ((eqT T.nm S.nm && sameCols T.n T.f S.n S.f) && decide (T.nx ≤ S.nx)))
def btwO (T S : Tab) : Bool := btwB T S && newB T.nx T.R S.R
def UpR (R : List TRow) : Prop := ∀ i, i < R.length → ∀ j, j < i → (tAt R j).1 < (tAt R i).1
/-- The rows of A before i and those of B before j have been looked at. -/
structure Mg (A B : List TRow) (i j : Nat) : Prop where
  hi : i ≤ A.length
  hj : j ≤ B.length
  low : ∀ k, k < j → ∀ l, i ≤ l → l < A.length → (tAt B k).1 < (tAt A l).1
  high : ∀ k, k < i → ∀ l, j ≤ l → l < B.length → (tAt A k).1 < (tAt B l).1
section
variable {A B : List TRow} {i j : Nat}
theorem Mg.zero : Mg A B 0 0 := ⟨Nat.zero_le _, Nat.zero_le _, fun k hk => by omega, fun k hk => by omega⟩
theorem delR_step (h : i < A.length) : (A.take (i + 1)).filter (fun r => (getR r.1 B).isNone) = (A.take i).filter (fun r => (getR r.1 B).isNone) ++ (if (getR (tAt A i).1 B).isNone = true then [tAt A i] else []) := by
  rw [take_trow h, List.filter_append]
  congr 1
  by_cases hc : (getR (tAt A i).1 B).isNone = true
  · rw [if_pos hc]; simp [hc]
  · rw [if_neg hc]; simp [hc]
theorem updR_step (h : j < B.length) : (B.take (j + 1)).filterMap (updP A) = (B.take j).filterMap (updP A) ++ (updP A (tAt B j)).toList := by
  rw [take_trow h, List.filterMap_append]
  cases hc : updP A (tAt B j) with
  | none => simp [hc]
  | some x => simp [hc]
theorem delR_out (h : i < A.length) (hg : getR (tAt A i).1 B = none) : (A.take (i + 1)).filter (fun r => (getR r.1 B).isNone) = (A.take i).filter (fun r => (getR r.1 B).isNone) ++ [tAt A i] := by
  rw [delR_step h, hg]; rfl
theorem delR_in {l : List Val} (h : i < A.length) (hg : getR (tAt A i).1 B = some l) : (A.take (i + 1)).filter (fun r => (getR r.1 B).isNone) = (A.take i).filter (fun r => (getR r.1 B).isNone) := by
  rw [delR_step h, hg]; simp
theorem updR_out (h : j < B.length) (hg : getR (tAt B j).1 A = none) : (B.take (j + 1)).filterMap (updP A) = (B.take j).filterMap (updP A) := by
  rw [updR_step h]; unfold updP; rw [hg]; simp
theorem updR_same (h : j < B.length) (hg : getR (tAt B j).1 A = some (tAt B j).2) : (B.take (j + 1)).filterMap (updP A) = (B.take j).filterMap (updP A) := by
  rw [updR_step h]; unfold updP; rw [hg]; simp
theorem updR_in {l : List Val} (h : j < B.length) (hg : getR (tAt B j).1 A = some l) (hne : l ≠ (tAt B j).2) : (B.take (j + 1)).filterMap (updP A) = (B.take j).filterMap (updP A) ++ [((tAt B j).1, l, (tAt B j).2)] := by
  rw [updR_step h]; unfold updP; rw [hg]; simp [hne]
theorem newB_yes {nx : Int} (h : ∀ k, k < B.length → (getR (tAt B k).1 A).isSome = true ∨ nx ≤ (tAt B k).1) : newB nx A B = true := by
  unfold newB
  rw [List.all_eq_true]
  intro r hr
  obtain ⟨k, hk, rfl⟩ := List.getElem_of_mem hr
  rw [Bool.or_eq_true, decide_eq_true_eq, ← tAt_get hk]
  exact h k hk
theorem newB_no {nx : Int} (h : j < B.length) (hg : getR (tAt B j).1 A = none) (hn : (tAt B j).1 < nx) : newB nx A B = false := by
  unfold newB
  rw [List.all_eq_false]
  refine ⟨_, tAt_mem h, ?_⟩
  rw [hg, decide_eq_false (by omega)]
  decide
theorem Mg.skip (m : Mg A B i j) (hB : UpR B) (hi : i < A.length) (hj : j < B.length) (hlt : (tAt A i).1 < (tAt B j).1) : Mg A B (i + 1) j ∧ getR (tAt A i).1 B = none := by
  have hup : ∀ l, j ≤ l → l < B.length → (tAt A i).1 < (tAt B l).1 := fun l h1 h2 => by
    rcases Nat.lt_or_ge j l with h | h
    · exact Int.lt_trans hlt (hB l h2 j h)
    · obtain rfl : l = j := by omega
      exact hlt
  refine ⟨⟨hi, m.hj, fun k hk l h1 h2 => m.low k hk l (by omega) h2, fun k hk l h1 h2 => ?_⟩, getR_none fun l hl he => ?_⟩
  · rcases Nat.lt_or_ge k i with h | h
    · exact m.high k h l h1 h2
    · obtain rfl : k = i := by omega
      exact hup l h1 h2
  · rcases Nat.lt_or_ge l j with h | h
    · have := m.low l h i (Nat.le_refl _) hi; omega
    · have := hup l h hl; omega
theorem Mg.same (m : Mg A B i j) (hA : UpR A) (hB : UpR B) (hi : i < A.length) (hj : j < B.length) (he : (tAt A i).1 = (tAt B j).1) : Mg A B (i + 1) (j + 1) ∧ getR (tAt A i).1 B = some (tAt B j).2 ∧ getR (tAt B j).1 A = some (tAt A i).2 := by
  refine ⟨⟨hi, hj, fun k hk l h1 h2 => ?_, fun k hk l h1 h2 => ?_⟩, getR_hit hj he.symm fun l hl h => ?_, getR_hit hi he fun l hl h => ?_⟩
  · rcases Nat.lt_or_ge k j with h | h
    · exact m.low k h l (by omega) h2
    · obtain rfl : k = j := by omega
      rw [← he]
      exact hA l h2 i (by omega)
  · rcases Nat.lt_or_ge k i with h | h
    · exact m.high k h l (by omega) h2
    · obtain rfl : k = i := by omega
      rw [he]
      exact hB l h2 j (by omega)
  · have := hB j hj l hl; omega
  · have := hA i hi l hl; omega
theorem Mg.fresh (m : Mg A B i j) (hA : UpR A) (hj : j < B.length) (hn : i < A.length → (tAt B j).1 < (tAt A i).1) : Mg A B i (j + 1) ∧ getR (tAt B j).1 A = none := by
  have hup : ∀ l, i ≤ l → l < A.length → (tAt B j).1 < (tAt A l).1 := fun l h1 h2 => by
    have h0 := hn (by omega)
    rcases Nat.lt_or_ge i l with h | h
    · exact Int.lt_trans h0 (hA l h2 i h)
    · obtain rfl : l = i := by omega
      exact h0
  refine ⟨⟨m.hi, hj, fun k hk l h1 h2 => ?_, fun k hk l h1 h2 => m.high k hk l (by omega) h2⟩, getR_none fun l hl he => ?_⟩
  · rcases Nat.lt_or_ge k j with h | h
    · exact m.low k h l h1 h2
    · obtain rfl : k = j := by omega
      exact hup l h1 h2
  · rcases Nat.lt_or_ge l i with h | h
    · have := m.high l h j (Nat.le_refl _) hj; omega
    · have := hup l h hl; omega
theorem Mg.last (m : Mg A B i B.length) (hi : i < A.length) : Mg A B (i + 1) B.length ∧ getR (tAt A i).1 B = none := by
  refine ⟨⟨hi, m.hj, fun k hk l h1 h2 => m.low k hk l (by omega) h2, fun k hk l h1 h2 => by omega⟩, getR_none fun l hl he => ?_⟩
  have := m.low l hl i (Nat.le_refl _) hi; omega
theorem insR_mem {r : TRow} (h : r ∈ insR A B) : r ∈ B ∧ getR r.1 A = none := by
  unfold insR at h
  obtain ⟨h1, h2⟩ := List.mem_filter.1 h
  exact ⟨h1, by simpa using h2⟩
theorem delR_mem {r : TRow} (h : r ∈ delR A B) : r ∈ A ∧ getR r.1 B = none := by
  unfold delR at h
  obtain ⟨h1, h2⟩ := List.mem_filter.1 h
  exact ⟨h1, by simpa using h2⟩
theorem getR_mem {id : Int} {R : List TRow} {l : List Val} (h : getR id R = some l) : (id, l) ∈ R := by
  unfold getR at h
  cases hf : R.find? fun r => decide (r.1 = id) with
  | none => rw [hf] at h; cases h
  | some r =>
    rw [hf] at h
    have h1 := List.mem_of_find?_eq_some hf
    have h0 := List.find?_some hf
    have h2 : r.1 = id := of_decide_eq_true h0
    injection h with h3
    subst h2 h3
    exact h1
theorem updR_mem {u : PRow} (h : u ∈ updR A B) : (u.1, u.2.1) ∈ A ∧ (u.1, u.2.2) ∈ B ∧ u.2.1 ≠ u.2.2 ∧ getR u.1 A = some u.2.1 := by
  unfold updR at h
  obtain ⟨r, hr, he⟩ := List.mem_filterMap.1 h
  unfold updP at he
  cases hg : getR r.1 A with
  | none => rw [hg] at he; cases he
  | some l =>
    rw [hg] at he
    dsimp only at he
    split at he
    · cases he
    · rename_i hne
      cases he
      exact ⟨getR_mem hg, hr, hne, hg⟩
end
theorem btw_no1 {T S : Tab} (h : T.valid = false) : btwO T S = false := by unfold btwO btwB; rw [h]; rfl
theorem btw_no2 {T S : Tab} (h : S.valid = false) : btwO T S = false := by unfold btwO btwB; rw [h]; simp
theorem btw_no3 {T S : Tab} (h : (eqT T.nm S.nm && sameCols T.n T.f S.n S.f) = false) : btwO T S = false := by unfold btwO btwB; rw [h]; simp
theorem btw_no4 {T S : Tab} (h : S.nx < T.nx) : btwO T S = false := by unfold btwO btwB; rw [decide_eq_false (show ¬ T.nx ≤ S.nx by omega)]; simp
theorem btw_yes {T S : Tab} (h1 : T.valid = true) (h2 : S.valid = true) (h3 : (eqT T.nm S.nm && sameCols T.n T.f S.n S.f) = true) (h4 : ¬ S.nx < T.nx) : btwO T S = newB T.nx T.R S.R := by
  unfold btwO btwB; rw [h1, h2, h3, decide_eq_true (show T.nx ≤ S.nx by omega)]; simp
end Go.Proofs.YtlnbpobipmejfaaGreatDoor
