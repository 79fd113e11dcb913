/-
  Several texts in one.
-/
import Derived.Test.YtgaihglploedaaaPk21
import Derived.Test.YtgaihglploedaaaPk12
/-
  What the operations of a call of Apply leave, slot by slot.
-/
namespace Go.Proofs.Ytgaihglploedaaa
set_option maxRecDepth 100000
open Go.RowKit
variable {ls : List Nat}

/-- A table whose memory lies from block lo to block hi. -/
def Seg (lo hi : Nat) (w : World) (S : Tab) : Prop := hi ≤ w.heap.size ∧ ∀ v : World, hi ≤ v.heap.size → (∀ k, lo ≤ k → k < hi → v.heap[k]? = w.heap[k]?) → TabAt v S
theorem Seg.low {lo hi : Nat} {w v : World} {S : Tab} (h : Seg lo hi w S) (hb : Below w.heap.size w v) : Seg lo hi v S :=
  ⟨Nat.le_trans h.1 hb.size, fun x hx hk => h.2 x hx fun k h1 h2 => (hk k h1 h2).trans (hb.block k (Nat.lt_of_lt_of_le h2 h.1))⟩
theorem Seg.of {lo : Nat} {w : World} {S : Tab} (h : TabFree lo w S) : Seg lo w.heap.size w S := ⟨Nat.le_refl _, h⟩
theorem Seg.at {lo hi : Nat} {w : World} {S : Tab} (h : Seg lo hi w S) : TabAt w S := h.2 w h.1 fun _ _ _ => rfl
theorem Seg.set {lo hi X o : Nat} {w : World} {S : Tab} (h : Seg lo hi w S) (hX : X < lo ∨ hi ≤ X) (y : Value) : Seg lo hi (w.setCell ⟨X, o, none⟩ y) S := by
  have e : (w.setCell ⟨X, o, none⟩ y).heap.size = w.heap.size := by simp [World.setCell]
  exact ⟨by rw [e]; exact h.1, fun x hx hk => h.2 x hx fun k h1 h2 => (hk k h1 h2).trans (Below.heap_setCell _ _ _ _ (by show k ≠ X; omega))⟩
def isKey (n : Int) (v : Value) (w : World) : Prop := ∃ Z : Nat, v = .slice (some ⟨Z, 0, none⟩) 3 3 ∧ RowAt w (some ⟨Z, 0, none⟩) (kyL n)
theorem isKey.low {n : Int} {v : Value} {w w' : World} (h : isKey n v w) (hb : Below w.heap.size w w') : isKey n v w' := by
  obtain ⟨Z, h1, h2⟩ := h
  exact ⟨Z, h1, h2.low hb⟩
def isPairs (U : List PRow) (m : Nat) (v : Value) (w : World) : Prop := ∃ p : Option Addr, v = .slice p m m ∧ PairsAt w p U
def isRows (I : List (List Val)) (m : Nat) (v : Value) (w : World) : Prop := ∃ p : Option Addr, v = .slice p m m ∧ RowsAt w p I
def isNums (D : List Int) (m : Nat) (v : Value) (w : World) : Prop := ∃ p : Option Addr, v = .slice p m m ∧ NumAt w p D
theorem isPairs.low {U : List PRow} {m : Nat} {v : Value} {w w' : World} (h : isPairs U m v w) (hb : Below w.heap.size w w') : isPairs U m v w' := by
  obtain ⟨p, h1, h2⟩ := h
  exact ⟨p, h1, h2.low hb⟩
theorem isRows.low {I : List (List Val)} {m : Nat} {v : Value} {w w' : World} (h : isRows I m v w) (hb : Below w.heap.size w w') : isRows I m v w' := by
  obtain ⟨p, h1, h2⟩ := h
  exact ⟨p, h1, h2.low hb⟩
theorem isNums.low {D : List Int} {m : Nat} {v : Value} {w w' : World} (h : isNums D m v w) (hb : Below w.heap.size w w') : isNums D m v w' := by
  obtain ⟨p, h1, h2⟩ := h
  exact ⟨p, h1, h2.low hb⟩
theorem pairs2_lit (u : World) (i1 i2 a1 b1 a2 b2 : Int) (A1 B1 A2 B2 : Nat) (h1 : RowAt u (some ⟨A1, 0, none⟩) (kyL a1)) (h2 : RowAt u (some ⟨B1, 0, none⟩) (kyL b1)) (h3 : RowAt u (some ⟨A2, 0, none⟩) (kyL a2)) (h4 : RowAt u (some ⟨B2, 0, none⟩) (kyL b2)) :
    PairsAt (u.alloc (.cells #[.int .i64 i1, .slice (some ⟨A1, 0, none⟩) 3 3, .slice (some ⟨B1, 0, none⟩) 3 3, .int .i64 i2, .slice (some ⟨A2, 0, none⟩) 3 3, .slice (some ⟨B2, 0, none⟩) 3 3] 48)) (some ⟨u.heap.size, 0, none⟩) [(i1, kyL a1, kyL b1), (i2, kyL a2, kyL b2)] := by
  have hb := below_alloc u (.cells #[.int .i64 i1, .slice (some ⟨A1, 0, none⟩) 3 3, .slice (some ⟨B1, 0, none⟩) 3 3, .int .i64 i2, .slice (some ⟨A2, 0, none⟩) 3 3, .slice (some ⟨B2, 0, none⟩) 3 3] 48)
  intro i hi
  have hi2 : i < 2 := hi
  obtain rfl | rfl : i = 0 ∨ i = 1 := by omega
  · refine ⟨u.heap.size, 0, some ⟨A1, 0, none⟩, 3, some ⟨B1, 0, none⟩, 3, rfl, by rw [size_alloc]; omega, ?_, ?_, ?_, h1.low hb, h2.low hb, by show 3 * 32 ≤ 140737488355328; omega, by show 3 * 32 ≤ 140737488355328; omega, fun h => (by cases h), fun h => (by cases h)⟩
    · show World.cell? _ _ = some (.int .i64 i1)
      go_simp
    · show World.cell? _ _ = some (.slice (some ⟨A1, 0, none⟩) 3 3)
      go_simp
    · show World.cell? _ _ = some (.slice (some ⟨B1, 0, none⟩) 3 3)
      go_simp
  · refine ⟨u.heap.size, 0, some ⟨A2, 0, none⟩, 3, some ⟨B2, 0, none⟩, 3, rfl, by rw [size_alloc]; omega, ?_, ?_, ?_, h3.low hb, h4.low hb, by show 3 * 32 ≤ 140737488355328; omega, by show 3 * 32 ≤ 140737488355328; omega, fun h => (by cases h), fun h => (by cases h)⟩
    · show World.cell? _ _ = some (.int .i64 i2)
      go_simp
    · show World.cell? _ _ = some (.slice (some ⟨A2, 0, none⟩) 3 3)
      go_simp
    · show World.cell? _ _ = some (.slice (some ⟨B2, 0, none⟩) 3 3)
      go_simp
theorem pairs1_lit (u : World) (i1 a1 b1 : Int) (A1 B1 : Nat) (h1 : RowAt u (some ⟨A1, 0, none⟩) (kyL a1)) (h2 : RowAt u (some ⟨B1, 0, none⟩) (kyL b1)) :
    PairsAt (u.alloc (.cells #[.int .i64 i1, .slice (some ⟨A1, 0, none⟩) 3 3, .slice (some ⟨B1, 0, none⟩) 3 3] 48)) (some ⟨u.heap.size, 0, none⟩) [(i1, kyL a1, kyL b1)] := by
  have hb := below_alloc u (.cells #[.int .i64 i1, .slice (some ⟨A1, 0, none⟩) 3 3, .slice (some ⟨B1, 0, none⟩) 3 3] 48)
  intro i hi
  have hi2 : i < 1 := hi
  obtain rfl : i = 0 := by omega
  refine ⟨u.heap.size, 0, some ⟨A1, 0, none⟩, 3, some ⟨B1, 0, none⟩, 3, rfl, by rw [size_alloc]; omega, ?_, ?_, ?_, h1.low hb, h2.low hb, by show 3 * 32 ≤ 140737488355328; omega, by show 3 * 32 ≤ 140737488355328; omega, fun h => (by cases h), fun h => (by cases h)⟩
  · show World.cell? _ _ = some (.int .i64 i1)
    go_simp
  · show World.cell? _ _ = some (.slice (some ⟨A1, 0, none⟩) 3 3)
    go_simp
  · show World.cell? _ _ = some (.slice (some ⟨B1, 0, none⟩) 3 3)
    go_simp
theorem rows1_lit (u : World) (a1 : Int) (A1 : Nat) (h1 : RowAt u (some ⟨A1, 0, none⟩) (kyL a1)) :
    RowsAt (u.alloc (.cells #[.slice (some ⟨A1, 0, none⟩) 3 3] 32)) (some ⟨u.heap.size, 0, none⟩) [kyL a1] := by
  have hb := below_alloc u (.cells #[.slice (some ⟨A1, 0, none⟩) 3 3] 32)
  intro i hi
  have hi2 : i < 1 := hi
  obtain rfl : i = 0 := by omega
  exact ⟨u.heap.size, 0, some ⟨A1, 0, none⟩, 3, rfl, by rw [size_alloc]; omega, (by show World.cell? _ _ = some (.slice (some ⟨A1, 0, none⟩) 3 3); go_simp), h1.low hb, by show 3 * 32 ≤ 140737488355328; omega, fun h => (by cases h)⟩
theorem nums1_lit (u : World) (z : Int) : NumAt (u.alloc (.cells #[.int .i64 z] 3)) (some ⟨u.heap.size, 0, none⟩) [z] := by
  intro i hi
  have hi2 : i < 1 := hi
  obtain rfl : i = 0 := by omega
  exact ⟨u.heap.size, 0, rfl, by rw [size_alloc]; omega, (by show World.cell? _ _ = some (.int .i64 z); go_simp)⟩
theorem chg_lit {w : World} {pi pd pu : Option Addr} {mi md mu : Nat} {I : List (List Val)} {D : List Int} {U : List PRow} (hi : RowsAt w pi I) (hd : NumAt w pd D) (hu : PairsAt w pu U) (li : I.length = mi) (ld : D.length = md) (lu : U.length = mu) (hmi : mi ≤ 10) (hmd : md ≤ 10) (hmu : mu ≤ 10)
    (hI : ∀ l ∈ I, ∃ n, l = kyL n) (hU : ∀ u ∈ U, ∃ n, u.2.2 = kyL n) : ChgAt w ⟨pi, mi, I, pd, md, D, pu, mu, U⟩ :=
  ⟨hi, hd, hu, by dsimp only; omega, by dsimp only; omega, by dsimp only; omega, fun l hl => by obtain ⟨n, rfl⟩ := hI l hl; exact kyL_sized n, fun u hu' => by obtain ⟨n, h⟩ := hU u hu'; rw [h]; exact kyL_sized n, by dsimp only; omega, by dsimp only; omega⟩
/-- What Apply leaves. -/
def isRes (E : Int) (SF : Tab → Prop) (v : Value) (lo hi : Nat) (w : World) : Prop := ∃ S : Tab, v = .tuple #[S.v, .int .i64 E] ∧ SF S ∧ Seg lo hi w S
theorem isRes.low {E : Int} {SF : Tab → Prop} {v : Value} {lo hi : Nat} {w w' : World} (h : isRes E SF v lo hi w) (hb : Below w.heap.size w w') : isRes E SF v lo hi w' := by
  obtain ⟨S, h1, h2, h3⟩ := h
  exact ⟨S, h1, h2, h3.low hb⟩
/-- A table in a box. -/
structure InBox (w : World) (X : Nat) (S : Tab) : Prop where
  box : Cell4 w X (.string S.nm) (.slice S.pc S.n S.cc) (.int .i64 S.nx) (.slice S.pr S.R.length S.cr)
  tab : TabAt w S
theorem InBox.low {w w' : World} {X : Nat} {S : Tab} (h : InBox w X S) (hb : Below w.heap.size w w') : InBox w' X S := ⟨h.box.low hb, h.tab.low hb⟩
def isBox (SF : Tab → Prop) (v : Value) (w : World) : Prop := ∃ (S : Tab) (X : Nat), v = .pointer (some ⟨X, 0, none⟩) ∧ SF S ∧ InBox w X S
theorem isBox.low {SF : Tab → Prop} {v : Value} {w w' : World} (h : isBox SF v w) (hb : Below w.heap.size w w') : isBox SF v w' := by
  obtain ⟨S, X, h1, h2, h3⟩ := h
  exact ⟨S, X, h1, h2, h3.low hb⟩
/-- The table of the laws. -/
structure Tab2 (w : World) (X Z : Nat) (pr : Option Addr) (cr : Nat) (a b : Int) : Prop where
  box : Cell4 w X (.string ⟨#[117]⟩) (.slice (some ⟨Z, 0, none⟩) 3 3) (.int .i64 3) (.slice pr 2 cr)
  tab : TabAt w ⟨⟨#[117]⟩, some ⟨Z, 0, none⟩, 3, 3, colU, 3, pr, cr, R2 a b⟩
theorem Tab2.low {w w' : World} {X Z : Nat} {pr : Option Addr} {cr : Nat} {a b : Int} (h : Tab2 w X Z pr cr a b) (hb : Below w.heap.size w w') : Tab2 w' X Z pr cr a b := ⟨h.box.low hb, h.tab.low hb⟩
theorem apply2_lit {w : World} {X Z : Nat} {pr : Option Addr} {cr : Nat} {a b : Int} (hT : Tab2 w X Z pr cr a b) {pi pd pu : Option Addr} {mi md mu : Nat} {I : List (List Val)} {D : List Int} {U : List PRow} (hC : ChgAt w ⟨pi, mi, I, pd, md, D, pu, mu, U⟩) (li : I.length = mi) (ld : D.length = md) (lu : U.length = mu) {E : Int} (hE : applyE ⟨#[117]⟩ 3 colU 3 (R2 a b) I D U = E) {SF : Tab → Prop} (hS : E = 0 → ∀ S : Tab, S.nx = 3 + I.length → S.R = afterR 3 (R2 a b) I D U → SF S) (hS2 : E ≠ 0 → ∀ S, SF S) :
    Calls Try.prog 12 #[.agg #[.string ⟨#[117]⟩, .slice (some ⟨Z, 0, none⟩) 3 3, .int .i64 3, .slice pr 2 cr], .agg #[.slice pi mi mi, .slice pd md md, .slice pu mu mu]] w fun e w' => ∃ v, e = .returned v ∧ Below w.heap.size w w' ∧ isRes E SF v w.heap.size w'.heap.size w' := by
  subst li ld lu
  refine (kapply_free ⟨#[117]⟩ (some ⟨Z, 0, none⟩) 3 3 colU 3 pr cr (R2 a b) pi I.length I pd D.length D pu U.length U w hT.tab hC).mono ?_
  rintro e w' ⟨S, rfl, hf, hb, hs⟩
  dsimp only at hs
  rw [hE] at hs
  refine ⟨_, rfl, hb, S, by dsimp only; rw [hE], ?_, Seg.of hf.free⟩
  rcases hs with ⟨h0, -, -, -, h1, h2⟩ | ⟨h0, -⟩
  · exact hS h0 S h1 h2
  · exact hS2 h0 S
end Go.Proofs.Ytgaihglploedaaa
/-
  The law texts of package keys: known.
-/
namespace Go.Proofs.Ytgaihglploedaaa
set_option maxRecDepth 100000
open Go.RowKit
variable {ls : List Nat}

set_option maxHeartbeats 4000000 in
theorem known7_any (w : World) : Calls Try.prog 10 #[] w fun e w' => e = .returned (.bool true) ∧ Below w.heap.size w w' := by
  go_enter Try.func10, Try.ntmps10
  go_wp2_with fail
  refine (pairs_any _).mono ?_
  rintro e w1 ⟨Z, pr, cr, rfl, hT, hb1⟩
  have HT1 : Hid (Tab2 (w1.alloc (.cells #[.string ⟨#[117]⟩, .slice (some ⟨Z, 0, none⟩) 3 3, .int .i64 3, .slice pr 2 cr] 29)) w1.heap.size Z pr cr 1 2) := Lib.hid ⟨cell4_new _ _ _ _ _ _, hT.low (below_alloc _ _)⟩
  have HB1 := Lib.hid (below_new hb1 (.cells #[.string ⟨#[117]⟩, .slice (some ⟨Z, 0, none⟩) 3 3, .int .i64 3, .slice pr 2 cr] 29))
  clear hT hb1
  go_upto_region 2 with (fail)
  generalize World.alloc _ _ = W1 at HT1 HB1 ⊢
  generalize w1.heap.size = X at HT1 ⊢
  refine wp_region_slots (use := [[], [], [], [1, 2], [], [], [4, 5], [3, 1, 2, 6, 4, 5], [7], [0, 8, 7], [], [10, 9], [10, 9], [], [13, 11, 10, 9], [12]]) (sl := [[8], [9], [10], [11, 9, 10], [12], [13], [14, 12, 13], [15], [16, 15], [17], [7, 17], [18, 7], [19], [2], [2], [3]]) (live := [false, false, false, false, false, false, false, false, false, true, true, false, true, false, true, true]) (st := 14) (B := W1.drew.heap.size) (J := fun w => Tab2 w X Z pr cr 1 2) (Φ := fun i f lo hi w => match i with | 0 => f 8 = .agg #[.string ⟨#[117]⟩, .slice (some ⟨Z, 0, none⟩) 3 3, .int .i64 3, .slice pr 2 cr] | 1 => isKey 1 (f 9) w | 2 => isKey 2 (f 10) w | 3 => f 11 = .agg #[.int .i64 1, f 9, f 10] | 4 => isKey 2 (f 12) w | 5 => isKey 1 (f 13) w | 6 => f 14 = .agg #[.int .i64 2, f 12, f 13] | 7 => isPairs [(1, kyL 1, kyL 2), (2, kyL 2, kyL 1)] 2 (f 15) w | 8 => f 16 = .agg #[.slice none 0 0, .slice none 0 0, f 15] | 9 => isRes 0 (fun S => S.R = [(1, kyL 2), (2, kyL 1)]) (f 17) lo hi w | 10 => f 7 = f 17 | 11 => ∃ y, f 7 = .tuple #[f 18, y] | 12 => f 19 = .int .i64 0 | 13 => f 2 = .pointer (some ⟨lo, 0, none⟩) ∧ lo < hi ∧ Cell4 w lo (.string ⟨#[]⟩) (.slice none 0 0) (.int .i64 0) (.slice none 0 0) | 14 => isBox (fun S => S.R = [(1, kyL 2), (2, kyL 1)]) (f 2) w | 15 => f 3 = .int .i64 0 | _ => True) (by kernel_rfl) _ rfl (by kernel_rfl) (by kernel_rfl) (by exact Nat.le_refl _) (HT1.out.low (Below.refl _ _).drew) (fun _ _ h hb => h.low hb) ?_ ?_ ?_ ?_
  · intro j f g lo hi w w2 hs hb h
    match j, hs, h with
    | 0, hs, h =>
      have e8 := hs 8 (by decide)
      simp only [e8]
      exact h
    | 1, hs, h =>
      have e9 := hs 9 (by decide)
      simp only [e9]
      exact h.low hb
    | 2, hs, h =>
      have e10 := hs 10 (by decide)
      simp only [e10]
      exact h.low hb
    | 3, hs, h =>
      have e11 := hs 11 (by decide)
      have e9 := hs 9 (by decide)
      have e10 := hs 10 (by decide)
      simp only [e11, e9, e10]
      exact h
    | 4, hs, h =>
      have e12 := hs 12 (by decide)
      simp only [e12]
      exact h.low hb
    | 5, hs, h =>
      have e13 := hs 13 (by decide)
      simp only [e13]
      exact h.low hb
    | 6, hs, h =>
      have e14 := hs 14 (by decide)
      have e12 := hs 12 (by decide)
      have e13 := hs 13 (by decide)
      simp only [e14, e12, e13]
      exact h
    | 7, hs, h =>
      have e15 := hs 15 (by decide)
      simp only [e15]
      exact h.low hb
    | 8, hs, h =>
      have e16 := hs 16 (by decide)
      have e15 := hs 15 (by decide)
      simp only [e16, e15]
      exact h
    | 9, hs, h =>
      have e17 := hs 17 (by decide)
      simp only [e17]
      exact h.low hb
    | 10, hs, h =>
      have e7 := hs 7 (by decide)
      have e17 := hs 17 (by decide)
      simp only [e7, e17]
      exact h
    | 11, hs, h =>
      have e18 := hs 18 (by decide)
      have e7 := hs 7 (by decide)
      simp only [e18, e7]
      exact h
    | 12, hs, h =>
      have e19 := hs 19 (by decide)
      simp only [e19]
      exact h
    | 13, hs, h =>
      have e2 := hs 2 (by decide)
      simp only [e2]
      exact ⟨h.1, h.2.1, h.2.2.low hb⟩
    | 14, hs, h =>
      have e2 := hs 2 (by decide)
      simp only [e2]
      exact h.low hb
    | 15, hs, h =>
      have e3 := hs 3 (by decide)
      simp only [e3]
      exact h
    | _ + 16, _, h => exact h
  · intro i o hi hne f w lo hi2 hold hbe hgr hJ huse
    obtain ⟨kt, kc, kf⟩ := evF_all f
    match i, hi, hne with
    | 0, hi, _ =>
      simp only [List.getElem?_cons_zero, Option.some.injEq] at hi
      subst hi
      have hj := hJ (.inl (by kernel_rfl))
      obtain ⟨xl, x0, x1, x2, x3, -⟩ := hj.box
      have h0 : f 1 = .pointer (some ⟨X, 0, none⟩) := (hold 1 (by kernel_rfl)).trans rfl
      clear hold huse hJ hbe hgr
      refine gives_K fun K hK => ?_
      go_simp
      exact gives_value (hK _ _ ⟨Below.refl _ _, by simp [upF]⟩)
    | 1, hi, _ =>
      simp only [List.getElem?_cons_zero, List.getElem?_cons_succ, Option.some.injEq] at hi
      subst hi
      clear hold huse hJ hbe hgr
      refine gives_K fun K hK => ?_
      go_simp
      refine gives_enter ((keyed7_any 1 _).mono ?_)
      rintro e w2 ⟨Z1, rfl, hr, hb⟩
      exact ⟨_, rfl, hK _ _ ⟨hb, Z1, by simp [upF], hr⟩⟩
    | 2, hi, _ =>
      simp only [List.getElem?_cons_zero, List.getElem?_cons_succ, Option.some.injEq] at hi
      subst hi
      clear hold huse hJ hbe hgr
      refine gives_K fun K hK => ?_
      go_simp
      refine gives_enter ((keyed7_any 2 _).mono ?_)
      rintro e w2 ⟨Z1, rfl, hr, hb⟩
      exact ⟨_, rfl, hK _ _ ⟨hb, Z1, by simp [upF], hr⟩⟩
    | 3, hi, _ =>
      simp only [List.getElem?_cons_zero, List.getElem?_cons_succ, Option.some.injEq] at hi
      subst hi
      have u1 := huse 1 (by decide)
      have u2 := huse 2 (by decide)
      simp only at u1
      simp only at u2
      obtain ⟨Z1, h1, -⟩ := u1
      obtain ⟨Z2, h2, -⟩ := u2
      clear hold huse hJ hbe hgr
      refine gives_K fun K hK => ?_
      go_simp
      exact gives_value (hK _ _ ⟨Below.refl _ _, by simp [upF, h1, h2]⟩)
    | 4, hi, _ =>
      simp only [List.getElem?_cons_zero, List.getElem?_cons_succ, Option.some.injEq] at hi
      subst hi
      clear hold huse hJ hbe hgr
      refine gives_K fun K hK => ?_
      go_simp
      refine gives_enter ((keyed7_any 2 _).mono ?_)
      rintro e w2 ⟨Z1, rfl, hr, hb⟩
      exact ⟨_, rfl, hK _ _ ⟨hb, Z1, by simp [upF], hr⟩⟩
    | 5, hi, _ =>
      simp only [List.getElem?_cons_zero, List.getElem?_cons_succ, Option.some.injEq] at hi
      subst hi
      clear hold huse hJ hbe hgr
      refine gives_K fun K hK => ?_
      go_simp
      refine gives_enter ((keyed7_any 1 _).mono ?_)
      rintro e w2 ⟨Z1, rfl, hr, hb⟩
      exact ⟨_, rfl, hK _ _ ⟨hb, Z1, by simp [upF], hr⟩⟩
    | 6, hi, _ =>
      simp only [List.getElem?_cons_zero, List.getElem?_cons_succ, Option.some.injEq] at hi
      subst hi
      have u4 := huse 4 (by decide)
      have u5 := huse 5 (by decide)
      simp only at u4
      simp only at u5
      obtain ⟨Z1, h1, -⟩ := u4
      obtain ⟨Z2, h2, -⟩ := u5
      clear hold huse hJ hbe hgr
      refine gives_K fun K hK => ?_
      go_simp
      exact gives_value (hK _ _ ⟨Below.refl _ _, by simp [upF, h1, h2]⟩)
    | 7, hi, _ =>
      simp only [List.getElem?_cons_zero, List.getElem?_cons_succ, Option.some.injEq] at hi
      subst hi
      have u3 := huse 3 (by decide)
      have u1 := huse 1 (by decide)
      have u2 := huse 2 (by decide)
      have u6 := huse 6 (by decide)
      have u4 := huse 4 (by decide)
      have u5 := huse 5 (by decide)
      simp only at u3
      simp only at u1
      simp only at u2
      simp only at u6
      simp only at u4
      simp only at u5
      obtain ⟨A9, h9, hr9⟩ := u1
      obtain ⟨A10, h10, hr10⟩ := u2
      rw [h9, h10] at u3
      obtain ⟨A12, h12, hr12⟩ := u4
      obtain ⟨A13, h13, hr13⟩ := u5
      rw [h12, h13] at u6
      clear hold huse hJ hbe hgr
      refine gives_K fun K hK => ?_
      go_simp
      exact gives_value (hK _ _ ⟨below_alloc _ _, _, by simp [upF], pairs2_lit w 1 2 1 2 2 1 _ _ _ _ hr9 hr10 hr12 hr13⟩)
    | 8, hi, _ =>
      simp only [List.getElem?_cons_zero, List.getElem?_cons_succ, Option.some.injEq] at hi
      subst hi
      have u7 := huse 7 (by decide)
      simp only at u7
      obtain ⟨p15, h15, -⟩ := u7
      clear hold huse hJ hbe hgr
      refine gives_K fun K hK => ?_
      go_simp
      exact gives_value (hK _ _ ⟨Below.refl _ _, by simp [upF, h15]⟩)
    | 9, hi, _ =>
      simp only [List.getElem?_cons_zero, List.getElem?_cons_succ, Option.some.injEq] at hi
      subst hi
      have u0 := huse 0 (by decide)
      have u8 := huse 8 (by decide)
      have u7 := huse 7 (by decide)
      simp only at u0
      simp only at u8
      simp only at u7
      have hj := hJ (.inl (by kernel_rfl))
      obtain ⟨p15, h15, hr15⟩ := u7
      rw [h15] at u8
      have hI1 : RowsAt w none [] := fun i hi => by simp at hi
      have hD1 : NumAt w none [] := fun i hi => by simp at hi
      have hI2 : ∀ l ∈ ([] : List (List Val)), ∃ n, l = kyL n := by simp only [List.not_mem_nil]; intro l hl; exact hl.elim
      have hU2 : ∀ u ∈ ([(1, kyL 1, kyL 2), (2, kyL 2, kyL 1)] : List PRow), ∃ n, u.2.2 = kyL n := by simp only [List.mem_cons, List.not_mem_nil, or_false]; rintro u (rfl | rfl) <;> exact ⟨_, rfl⟩
      have HC := Lib.hid (chg_lit (w := w) (I := []) (D := []) (U := [(1, kyL 1, kyL 2), (2, kyL 2, kyL 1)]) hI1 hD1 hr15 rfl rfl rfl (by simp) (by simp) (by simp) hI2 hU2)
      have HJ := Lib.hid hj
      clear hj hr15 hI1 hD1 hI2 hU2
      clear hold huse hJ hbe hgr
      refine gives_K fun K hK => ?_
      go_simp
      refine gives_enter ((apply2_lit (E := 0) (SF := (fun S => S.R = [(1, kyL 2), (2, kyL 1)])) HJ.out HC.out rfl rfl rfl (exch (by decide)).1 (fun _ S _ h => by rw [h]; exact (exch (by decide)).2) (fun h => absurd rfl h)).mono ?_)
      rintro e w2 ⟨v, rfl, hb, hr⟩
      exact ⟨_, rfl, hK _ _ ⟨hb, by simpa [upF] using hr⟩⟩
    | 10, hi, _ =>
      simp only [List.getElem?_cons_zero, List.getElem?_cons_succ, Option.some.injEq] at hi
      subst hi
      clear hold huse hJ hbe hgr
      refine gives_K fun K hK => ?_
      go_simp
      exact gives_value (hK _ _ ⟨Below.refl _ _, by simp [upF]⟩)
    | 11, hi, _ =>
      simp only [List.getElem?_cons_zero, List.getElem?_cons_succ, Option.some.injEq] at hi
      subst hi
      have u10 := huse 10 (by decide)
      have u9 := huse 9 (by decide)
      simp only at u10
      simp only at u9
      obtain ⟨S, h1, -⟩ := u9
      have h2 : f 7 = .tuple #[S.v, .int .i64 0] := u10.trans h1
      clear h1 u10
      clear hold huse hJ hbe hgr
      refine gives_K fun K hK => ?_
      go_simp
      exact gives_value (hK _ _ ⟨Below.refl _ _, .int .i64 0, by simp [upF, h2]⟩)
    | 12, hi, _ =>
      simp only [List.getElem?_cons_zero, List.getElem?_cons_succ, Option.some.injEq] at hi
      subst hi
      have u10 := huse 10 (by decide)
      have u9 := huse 9 (by decide)
      simp only at u10
      simp only at u9
      obtain ⟨S, h1, -⟩ := u9
      have h2 : f 7 = .tuple #[S.v, .int .i64 0] := u10.trans h1
      clear h1 u10
      clear hold huse hJ hbe hgr
      refine gives_K fun K hK => ?_
      go_simp
      exact gives_value (hK _ _ ⟨Below.refl _ _, by simp [upF]⟩)
    | 13, hi, _ =>
      simp only [List.getElem?_cons_zero, List.getElem?_cons_succ, Option.some.injEq] at hi
      subst hi
      clear hold huse hJ hbe hgr
      refine gives_K fun K hK => ?_
      go_simp
      exact gives_value (hK _ _ ⟨below_alloc _ _, by simp [upF], by rw [size_alloc]; omega, cell4_new _ _ _ _ _ _⟩)
    | 14, _, hne => exact absurd rfl hne
    | 15, hi, _ =>
      simp only [List.getElem?_cons_zero, List.getElem?_cons_succ, Option.some.injEq] at hi
      subst hi
      have u12 := huse 12 (by decide)
      simp only at u12
      clear hold huse hJ hbe hgr
      refine gives_K fun K hK => ?_
      go_simp
      exact gives_value (hK _ _ ⟨Below.refl _ _, by simp [upF]⟩)
    | i + 16, hi, _ => simp at hi
  · intro o hi f w lo hi2 L hold hbe hgr hJ huse hL hseg hap
    obtain ⟨kt, kc, kf⟩ := evF_all f
    simp only [List.getElem?_cons_zero, List.getElem?_cons_succ, Option.some.injEq] at hi
    subst hi
    have u13 := huse 13 (by decide)
    have u11 := huse 11 (by decide)
    have u10 := huse 10 (by decide)
    have u9 := huse 9 (by decide)
    simp only at u13
    simp only at u11
    simp only at u10
    simp only at u9
    obtain ⟨hal, hlo, hcell⟩ := u13
    obtain ⟨S, h1, hsf, hsg⟩ := u9
    obtain ⟨y, h2⟩ := u11
    have h3 : f 18 = S.v := by
      have h4 := h2.symm.trans (u10.trans h1)
      injection h4 with h4
      exact (Array.mk.inj h4 |> List.cons.inj).1
    have hd := hap 9 13 (hL 9 (by decide)) (hL 13 (by decide)) (by decide)
    have hsz := (hseg 13 (hL 13 (by decide))).2.2
    have HSG := Lib.hid hsg
    have HSF := Lib.hid hsf
    have HCE := Lib.hid hcell
    have HBE := Lib.hid hbe
    generalize lo 13 = X at hal hlo hd hsz HCE
    have hX : X < lo 9 ∨ hi2 9 ≤ X := by omega
    obtain ⟨zl, z0, z1, z2, z3, zf⟩ := HCE.out
    unfold Tab.v at h3
    clear hold huse hJ hbe hgr hseg hap hL h1 h2 u10 hsg hcell hd hlo hsf
    refine gives_K fun K hK => ?_
    go_simp
    refine gives_skip (hK _ _ ⟨?_, ?_, ?_, ?_⟩)
    · simp [World.setCell]
    · exact (((HBE.out.setCell (by exact hsz) _).setCell (by exact hsz) _).setCell (by exact hsz) _).setCell (by exact hsz) _
    · exact ⟨S, X, hal, HSF.out, cell4_put w HCE.out _ _ _ _, ((((HSG.out.set hX _).set hX _).set hX _).set hX _).at⟩
    · intro j hj hne hl hs h
      match j, hne, hl, h with
      | 0, _, hl, _ => exact absurd hl (by decide)
      | 1, _, hl, _ => exact absurd hl (by decide)
      | 2, _, hl, _ => exact absurd hl (by decide)
      | 3, _, hl, _ => exact absurd hl (by decide)
      | 4, _, hl, _ => exact absurd hl (by decide)
      | 5, _, hl, _ => exact absurd hl (by decide)
      | 6, _, hl, _ => exact absurd hl (by decide)
      | 7, _, hl, _ => exact absurd hl (by decide)
      | 8, _, hl, _ => exact absurd hl (by decide)
      | 9, _, _, h =>
        obtain ⟨S2, q1, q2, q3⟩ := h
        exact ⟨S2, q1, q2, (((q3.set hX _).set hX _).set hX _).set hX _⟩
      | 10, _, _, h => exact h
      | 11, _, hl, _ => exact absurd hl (by decide)
      | 12, _, _, h => exact h
      | 13, _, hl, _ => exact absurd hl (by decide)
      | 14, hne, _, _ => exact absurd rfl hne
      | 15, _, _, h => exact h
      | j + 16, _, hl, _ => exact absurd hl (by simp)
  · intro f2 lo hi w2 hbe _ hall _ hseg
    have u9 := hall 9 (by decide) (.inl rfl)
    simp only at u9
    have u10 := hall 10 (by decide) (.inl rfl)
    simp only at u10
    have u12 := hall 12 (by decide) (.inl rfl)
    simp only at u12
    have u14 := hall 14 (by decide) (.inl rfl)
    simp only at u14
    have u15 := hall 15 (by decide) (.inl rfl)
    simp only at u15
    clear hall hseg
    obtain ⟨S2, X2, e2, hSF2, hbox⟩ := u14
    simp only [putAll, List.foldl_cons, List.foldl_nil, Act.put, List.setIfInBounds_toArray, List.set_cons_succ, List.set_cons_zero, e2, u15]
    have hb := undrewB (B := W1.heap.size) hbe
    have HT2 := Lib.hid (HT1.out.low hb)
    have HB2 := Lib.hid (below_next HB1.out hb)
    have HX2 := Lib.hid hbox
    clear u9 u10 u12 u15 e2 hbe hb hbox HT1 HB1
    have HSF2 := Lib.hid hSF2
    clear hSF2
    go_upto_region 3 with (fail)
    refine wp_region_slots (use := [[], [], [1], [2], [0, 3, 2], [], [5, 4], [5, 4], [], [8, 6, 5, 4], [7]]) (sl := [[21], [22], [23], [24, 23], [25], [20, 25], [26, 20], [27], [4], [4], [5]]) (live := [false, false, false, false, true, true, false, true, false, true, true]) (st := 9) (B := w2.drew.heap.size) (J := fun w => Tab2 w X Z pr cr 1 2) (Φ := fun i f lo hi w => match i with | 0 => f 21 = .agg #[.string ⟨#[117]⟩, .slice (some ⟨Z, 0, none⟩) 3 3, .int .i64 3, .slice pr 2 cr] | 1 => isKey 2 (f 22) w | 2 => isRows [kyL 2] 1 (f 23) w | 3 => f 24 = .agg #[f 23, .slice none 0 0, .slice none 0 0] | 4 => isRes 9 (fun _ => True) (f 25) lo hi w | 5 => f 20 = f 25 | 6 => ∃ y, f 20 = .tuple #[f 26, y] | 7 => f 27 = .int .i64 9 | 8 => f 4 = .pointer (some ⟨lo, 0, none⟩) ∧ lo < hi ∧ Cell4 w lo (.string ⟨#[]⟩) (.slice none 0 0) (.int .i64 0) (.slice none 0 0) | 9 => isBox (fun _ => True) (f 4) w | 10 => f 5 = .int .i64 9 | _ => True) (by kernel_rfl) _ rfl (by kernel_rfl) (by kernel_rfl) (by exact Nat.le_refl _) (HT2.out.low (Below.refl _ _).drew) (fun _ _ h hb => h.low hb) ?_ ?_ ?_ ?_
    · intro j f g lo hi w w2 hs hb h
      match j, hs, h with
      | 0, hs, h =>
        have e21 := hs 21 (by decide)
        simp only [e21]
        exact h
      | 1, hs, h =>
        have e22 := hs 22 (by decide)
        simp only [e22]
        exact h.low hb
      | 2, hs, h =>
        have e23 := hs 23 (by decide)
        simp only [e23]
        exact h.low hb
      | 3, hs, h =>
        have e24 := hs 24 (by decide)
        have e23 := hs 23 (by decide)
        simp only [e24, e23]
        exact h
      | 4, hs, h =>
        have e25 := hs 25 (by decide)
        simp only [e25]
        exact h.low hb
      | 5, hs, h =>
        have e20 := hs 20 (by decide)
        have e25 := hs 25 (by decide)
        simp only [e20, e25]
        exact h
      | 6, hs, h =>
        have e26 := hs 26 (by decide)
        have e20 := hs 20 (by decide)
        simp only [e26, e20]
        exact h
      | 7, hs, h =>
        have e27 := hs 27 (by decide)
        simp only [e27]
        exact h
      | 8, hs, h =>
        have e4 := hs 4 (by decide)
        simp only [e4]
        exact ⟨h.1, h.2.1, h.2.2.low hb⟩
      | 9, hs, h =>
        have e4 := hs 4 (by decide)
        simp only [e4]
        exact h.low hb
      | 10, hs, h =>
        have e5 := hs 5 (by decide)
        simp only [e5]
        exact h
      | _ + 11, _, h => exact h
    · intro i o hi hne f w lo hi2 hold hbe hgr hJ huse
      obtain ⟨kt, kc, kf⟩ := evF_all f
      match i, hi, hne with
      | 0, hi, _ =>
        simp only [List.getElem?_cons_zero, Option.some.injEq] at hi
        subst hi
        have hj := hJ (.inl (by kernel_rfl))
        obtain ⟨xl, x0, x1, x2, x3, -⟩ := hj.box
        have h0 : f 1 = .pointer (some ⟨X, 0, none⟩) := (hold 1 (by kernel_rfl)).trans rfl
        clear hold huse hJ hbe hgr
        refine gives_K fun K hK => ?_
        go_simp
        exact gives_value (hK _ _ ⟨Below.refl _ _, by simp [upF]⟩)
      | 1, hi, _ =>
        simp only [List.getElem?_cons_zero, List.getElem?_cons_succ, Option.some.injEq] at hi
        subst hi
        clear hold huse hJ hbe hgr
        refine gives_K fun K hK => ?_
        go_simp
        refine gives_enter ((keyed7_any 2 _).mono ?_)
        rintro e w2 ⟨Z1, rfl, hr, hb⟩
        exact ⟨_, rfl, hK _ _ ⟨hb, Z1, by simp [upF], hr⟩⟩
      | 2, hi, _ =>
        simp only [List.getElem?_cons_zero, List.getElem?_cons_succ, Option.some.injEq] at hi
        subst hi
        have u1 := huse 1 (by decide)
        simp only at u1
        obtain ⟨Z1, h1, hr1⟩ := u1
        clear hold huse hJ hbe hgr
        refine gives_K fun K hK => ?_
        go_simp
        exact gives_value (hK _ _ ⟨below_alloc _ _, _, by simp [upF], rows1_lit w 2 _ hr1⟩)
      | 3, hi, _ =>
        simp only [List.getElem?_cons_zero, List.getElem?_cons_succ, Option.some.injEq] at hi
        subst hi
        have u2 := huse 2 (by decide)
        simp only at u2
        obtain ⟨p23, h23, -⟩ := u2
        clear hold huse hJ hbe hgr
        refine gives_K fun K hK => ?_
        go_simp
        exact gives_value (hK _ _ ⟨Below.refl _ _, by simp [upF, h23]⟩)
      | 4, hi, _ =>
        simp only [List.getElem?_cons_zero, List.getElem?_cons_succ, Option.some.injEq] at hi
        subst hi
        have u0 := huse 0 (by decide)
        have u3 := huse 3 (by decide)
        have u2 := huse 2 (by decide)
        simp only at u0
        simp only at u3
        simp only at u2
        have hj := hJ (.inl (by kernel_rfl))
        obtain ⟨p23, h23, hr23⟩ := u2
        rw [h23] at u3
        have hD1 : NumAt w none [] := fun i hi => by simp at hi
        have hU1 : PairsAt w none [] := fun i hi => by simp at hi
        have hI2 : ∀ l ∈ ([kyL 2] : List (List Val)), ∃ n, l = kyL n := by simp only [List.mem_cons, List.not_mem_nil, or_false]; rintro l rfl; exact ⟨_, rfl⟩
        have hU2 : ∀ u ∈ ([] : List PRow), ∃ n, u.2.2 = kyL n := fun u hu => by cases hu
        have HC := Lib.hid (chg_lit (w := w) (I := [kyL 2]) (D := []) (U := []) hr23 hD1 hU1 rfl rfl rfl (by simp) (by simp) (by simp) hI2 hU2)
        have HJ := Lib.hid hj
        clear hj hr23 hD1 hU1 hI2 hU2
        clear hold huse hJ hbe hgr
        refine gives_K fun K hK => ?_
        go_simp
        refine gives_enter ((apply2_lit (E := 9) (SF := (fun _ => True)) HJ.out HC.out rfl rfl rfl (clash3 (a := 1) (b := 2) (by decide)) (fun _ _ _ _ => trivial) (fun _ _ => trivial)).mono ?_)
        rintro e w2 ⟨v, rfl, hb, hr⟩
        exact ⟨_, rfl, hK _ _ ⟨hb, by simpa [upF] using hr⟩⟩
      | 5, hi, _ =>
        simp only [List.getElem?_cons_zero, List.getElem?_cons_succ, Option.some.injEq] at hi
        subst hi
        clear hold huse hJ hbe hgr
        refine gives_K fun K hK => ?_
        go_simp
        exact gives_value (hK _ _ ⟨Below.refl _ _, by simp [upF]⟩)
      | 6, hi, _ =>
        simp only [List.getElem?_cons_zero, List.getElem?_cons_succ, Option.some.injEq] at hi
        subst hi
        have u5 := huse 5 (by decide)
        have u4 := huse 4 (by decide)
        simp only at u5
        simp only at u4
        obtain ⟨S, h1, -⟩ := u4
        have h2 : f 20 = .tuple #[S.v, .int .i64 9] := u5.trans h1
        clear h1 u5
        clear hold huse hJ hbe hgr
        refine gives_K fun K hK => ?_
        go_simp
        exact gives_value (hK _ _ ⟨Below.refl _ _, .int .i64 9, by simp [upF, h2]⟩)
      | 7, hi, _ =>
        simp only [List.getElem?_cons_zero, List.getElem?_cons_succ, Option.some.injEq] at hi
        subst hi
        have u5 := huse 5 (by decide)
        have u4 := huse 4 (by decide)
        simp only at u5
        simp only at u4
        obtain ⟨S, h1, -⟩ := u4
        have h2 : f 20 = .tuple #[S.v, .int .i64 9] := u5.trans h1
        clear h1 u5
        clear hold huse hJ hbe hgr
        refine gives_K fun K hK => ?_
        go_simp
        exact gives_value (hK _ _ ⟨Below.refl _ _, by simp [upF]⟩)
      | 8, hi, _ =>
        simp only [List.getElem?_cons_zero, List.getElem?_cons_succ, Option.some.injEq] at hi
        subst hi
        clear hold huse hJ hbe hgr
        refine gives_K fun K hK => ?_
        go_simp
        exact gives_value (hK _ _ ⟨below_alloc _ _, by simp [upF], by rw [size_alloc]; omega, cell4_new _ _ _ _ _ _⟩)
      | 9, _, hne => exact absurd rfl hne
      | 10, hi, _ =>
        simp only [List.getElem?_cons_zero, List.getElem?_cons_succ, Option.some.injEq] at hi
        subst hi
        have u7 := huse 7 (by decide)
        simp only at u7
        clear hold huse hJ hbe hgr
        refine gives_K fun K hK => ?_
        go_simp
        exact gives_value (hK _ _ ⟨Below.refl _ _, by simp [upF]⟩)
      | i + 11, hi, _ => simp at hi
    · intro o hi f w lo hi2 L hold hbe hgr hJ huse hL hseg hap
      obtain ⟨kt, kc, kf⟩ := evF_all f
      simp only [List.getElem?_cons_zero, List.getElem?_cons_succ, Option.some.injEq] at hi
      subst hi
      have u8 := huse 8 (by decide)
      have u6 := huse 6 (by decide)
      have u5 := huse 5 (by decide)
      have u4 := huse 4 (by decide)
      simp only at u8
      simp only at u6
      simp only at u5
      simp only at u4
      obtain ⟨hal, hlo, hcell⟩ := u8
      obtain ⟨S, h1, hsf, hsg⟩ := u4
      obtain ⟨y, h2⟩ := u6
      have h3 : f 26 = S.v := by
        have h4 := h2.symm.trans (u5.trans h1)
        injection h4 with h4
        exact (Array.mk.inj h4 |> List.cons.inj).1
      have hd := hap 4 8 (hL 4 (by decide)) (hL 8 (by decide)) (by decide)
      have hsz := (hseg 8 (hL 8 (by decide))).2.2
      have HSG := Lib.hid hsg
      have HSF := Lib.hid hsf
      have HCE := Lib.hid hcell
      have HBE := Lib.hid hbe
      generalize lo 8 = X at hal hlo hd hsz HCE
      have hX : X < lo 4 ∨ hi2 4 ≤ X := by omega
      obtain ⟨zl, z0, z1, z2, z3, zf⟩ := HCE.out
      unfold Tab.v at h3
      clear hold huse hJ hbe hgr hseg hap hL h1 h2 u5 hsg hcell hd hlo hsf
      refine gives_K fun K hK => ?_
      go_simp
      refine gives_skip (hK _ _ ⟨?_, ?_, ?_, ?_⟩)
      · simp [World.setCell]
      · exact (((HBE.out.setCell (by exact hsz) _).setCell (by exact hsz) _).setCell (by exact hsz) _).setCell (by exact hsz) _
      · exact ⟨S, X, hal, HSF.out, cell4_put w HCE.out _ _ _ _, ((((HSG.out.set hX _).set hX _).set hX _).set hX _).at⟩
      · intro j hj hne hl hs h
        match j, hne, hl, h with
        | 0, _, hl, _ => exact absurd hl (by decide)
        | 1, _, hl, _ => exact absurd hl (by decide)
        | 2, _, hl, _ => exact absurd hl (by decide)
        | 3, _, hl, _ => exact absurd hl (by decide)
        | 4, _, _, h =>
          obtain ⟨S2, q1, q2, q3⟩ := h
          exact ⟨S2, q1, q2, (((q3.set hX _).set hX _).set hX _).set hX _⟩
        | 5, _, _, h => exact h
        | 6, _, hl, _ => exact absurd hl (by decide)
        | 7, _, _, h => exact h
        | 8, _, hl, _ => exact absurd hl (by decide)
        | 9, hne, _, _ => exact absurd rfl hne
        | 10, _, _, h => exact h
        | j + 11, _, hl, _ => exact absurd hl (by simp)
    · intro f3 lo hi w3 hbe _ hall _ hseg
      have u4 := hall 4 (by decide) (.inl rfl)
      simp only at u4
      have u5 := hall 5 (by decide) (.inl rfl)
      simp only at u5
      have u7 := hall 7 (by decide) (.inl rfl)
      simp only at u7
      have u9 := hall 9 (by decide) (.inl rfl)
      simp only at u9
      have u10 := hall 10 (by decide) (.inl rfl)
      simp only at u10
      clear hall hseg
      obtain ⟨S3, X3, e2, hSF3, hbox⟩ := u9
      simp only [putAll, List.foldl_cons, List.foldl_nil, Act.put, List.setIfInBounds_toArray, List.set_cons_succ, List.set_cons_zero, e2, u10]
      have hb := undrewB (B := w2.heap.size) hbe
      have HT3 := Lib.hid (HT2.out.low hb)
      have HB3 := Lib.hid (below_next HB2.out hb)
      have HX2 := Lib.hid (HX2.out.low hb)
      have HX3 := Lib.hid hbox
      clear u4 u5 u7 u10 e2 hbe hb hbox HT2 HB2
      obtain ⟨nm, pc, n, cc, fc, nx, pr2, cr2, R'⟩ := S2
      obtain rfl : R' = [(1, kyL 2), (2, kyL 1)] := HSF2.out
      clear HSF2 hSF3
      have hbx : Cell4 w3 X2 (.string nm) (.slice pc n cc) (.int .i64 nx) (.slice pr2 2 cr2) := HX2.out.box
      have htr := HX2.out.tab.rows
      dsimp only at htr
      obtain ⟨c, o, q, cp, hp, hc, -, h1, hr, -⟩ := htr 0 (by decide)
      obtain ⟨c', o', hq, hc', v0, v1, v2⟩ := hr 0 (by decide)
      subst hp hq
      simp only [Nat.zero_mul, Nat.add_zero] at h1 v0 v1 v2
      have h1 : w3.cell? ⟨c, o + 1, none⟩ = some (.slice (some ⟨c', o', none⟩) 3 cp) := h1
      have v0 : w3.cell? ⟨c', o', none⟩ = some (.int .i64 1) := v0
      have v1 : w3.cell? ⟨c', o' + 1, none⟩ = some (.int .i64 2) := v1
      have v2 : w3.cell? ⟨c', o' + 2, none⟩ = some (.string ⟨#[]⟩) := v2
      clear htr hr HX2 HX3 HT3
      go_upto_region 4 with (fail)
      obtain ⟨xl, x0, x1, x2, x3, -⟩ := hbx
      have l3 := lowW_cell (a := ⟨X2, 3, none⟩) xl x3
      have k1 := lowW_cell (a := ⟨c, o + 1, none⟩) hc h1
      have k2 := lowW_cell (a := ⟨c', o', none⟩) hc' v0
      have k3 := lowW_cell (a := ⟨c', o' + 1, none⟩) hc' v1
      have k4 := lowW_cell (a := ⟨c', o' + 2, none⟩) hc' v2
      clear x0 x1 x2 x3 h1 v0 v1 v2
      refine wp_region_low (by kernel_rfl) (by kernel_rfl) ?_
      repeat (refine wq_step (fun K hK => ?_); go_simp; first | (refine hK _ ?_; clear hK K) | (apply Exists.intro; refine ⟨fun _ => ?_, hK _ ?_⟩; (go_at_call 19; exact Calls.low_of (rnum7_any 2 _)); clear hK K))
      refine wq_nil ?_
      rintro _ ⟨⟨d7, os7⟩, rfl⟩
      dsimp only
      have HB4 := Lib.hid (below_next HB3.out (lowW_low w3 d7 os7))
      clear l3 k1 k2 k3 k4
      generalize lowW w3 d7 os7 = W7 at HB4 ⊢
      go_wp2
      go_ret
      exact ⟨rfl, HB4.out⟩
end Go.Proofs.Ytgaihglploedaaa
