/-
  Several texts in one.
-/
import Derived.Test.YtgaihglploedaabDoorPk07
import Derived.Test.YtgaihglploedaabDoorPk03
import Derived.Deep.RegionHeld3
/-
  Format of the reference: the same text.
-/
namespace Go.Proofs.YtgaihglploedaabDoor
set_option maxRecDepth 100000
open Go.RowKit
variable {ls : List Nat}

set_option maxHeartbeats 400000 in
theorem rformat_bad (k n : Int) (s : ByteArray) (w : World) (hs : s.size ≤ 9223372036854775807) (hv : validB k n s = false) :
    Calls Tryd.prog 13 #[.agg #[.int .i64 k, .int .i64 n, .string s]] w fun e w' => e = .returned (.string (fmtB k n s)) ∧ Below w.heap.size w w' := by
  have hf : fmtB k n s = ⟨#[63]⟩ := by unfold fmtB; rw [hv]; rfl
  have HF := Lib.hid hf
  have HV := Lib.hid hv
  clear hf hv
  go_enter Tryd.func13, Tryd.ntmps13
  go_wp2_with fail
  refine (rvalid_any k n s _ hs).mono ?_
  rintro e w' ⟨rfl, hb⟩
  rw [HV.out]
  go_wp2
  go_ret
  exact ⟨ret_str HF.out.symm, Below.of_alloc hb⟩

set_option maxHeartbeats 400000 in
theorem rformat_null (w : World) :
    Calls Tryd.prog 13 #[.agg #[.int .i64 0, .int .i64 0, .string ⟨#[]⟩]] w fun e w' => e = .returned (.string ⟨#[78, 85, 76, 76]⟩) ∧ Below w.heap.size w w' := by
  have HV := Lib.hid (show validB 0 0 ⟨#[]⟩ = true by simp [validB])
  go_enter Tryd.func13, Tryd.ntmps13
  go_wp2_with fail
  refine (rvalid_any 0 0 ⟨#[]⟩ _ (by decide)).mono ?_
  rintro e w' ⟨rfl, hb⟩
  rw [HV.out]
  obtain ⟨c0, c1, c2, -⟩ := box3 hb
  go_wp2
  go_ret
  exact ⟨rfl, Below.of_alloc hb⟩

set_option maxHeartbeats 400000 in
theorem rformat_num (n : Int) (w : World) (hE : Env ls w) (h1 : -9223372036854775808 ≤ n) (h2 : n ≤ 9223372036854775807) :
    Calls Tryd.prog 13 #[.agg #[.int .i64 1, .int .i64 n, .string ⟨#[]⟩]] w fun e w' => e = .returned (.string ⟨(Lib.itoa n).toArray⟩) ∧ Below w.heap.size w w' := by
  have HV := Lib.hid (show validB 1 n ⟨#[]⟩ = true by simp [validB])
  go_enter Tryd.func13, Tryd.ntmps13
  go_wp2_with fail
  refine (rvalid_any 1 n ⟨#[]⟩ _ (by decide)).mono ?_
  rintro e w' ⟨rfl, hb⟩
  rw [HV.out]
  obtain ⟨c0, c1, c2, -⟩ := box3 hb
  have hb' := Below.of_alloc hb
  have hp := (hE.low hb').pow
  clear HV hb hE
  go_wp2_with (go_at_call 20; refine (Tryd.strconv_FormatInt_10 n h1 h2 _ hp).mono ?_; rintro e w2 ⟨rfl, kk, os, rfl⟩)
  go_ret
  exact ⟨rfl, Below.next hb' (below_grow _ _ _)⟩

set_option maxHeartbeats 400000 in
theorem rformat_truth (n : Int) (w : World) (hE : Env ls w) (hN : 1 ∈ ls) (hn : n = 0 ∨ n = 1) :
    Calls Tryd.prog 13 #[.agg #[.int .i64 2, .int .i64 n, .string ⟨#[]⟩]] w fun e w' => e = .returned (.string (if n = 1 then ⟨#[84, 82, 85, 69]⟩ else ⟨#[70, 65, 76, 83, 69]⟩)) ∧ Below w.heap.size w w' := by
  rcases hn with rfl | rfl
  · have HV := Lib.hid (show validB 2 0 ⟨#[]⟩ = true by simp [validB])
    go_enter Tryd.func13, Tryd.ntmps13
    go_wp2_with fail
    refine (rvalid_any 2 0 ⟨#[]⟩ _ (by decide)).mono ?_
    rintro e w' ⟨rfl, hb⟩
    rw [HV.out]
    obtain ⟨c0, c1, c2, -⟩ := box3 hb
    have hb' := Below.of_alloc hb
    have hp := (hE.low hb').no hN
    go_wp2
    go_ret
    exact ⟨rfl, hb'⟩
  · have HV := Lib.hid (show validB 2 1 ⟨#[]⟩ = true by simp [validB])
    go_enter Tryd.func13, Tryd.ntmps13
    go_wp2_with fail
    refine (rvalid_any 2 1 ⟨#[]⟩ _ (by decide)).mono ?_
    rintro e w' ⟨rfl, hb⟩
    rw [HV.out]
    obtain ⟨c0, c1, c2, -⟩ := box3 hb
    have hb' := Below.of_alloc hb
    have hp := (hE.low hb').yes hN
    go_wp2
    go_ret
    exact ⟨rfl, hb'⟩

set_option maxHeartbeats 400000 in
theorem rformat_text (s : ByteArray) (w : World) (hE : Env ls w) (hv : textOK s.data.toList = true) :
    Calls Tryd.prog 13 #[.agg #[.int .i64 3, .int .i64 0, .string s]] w fun e w' => e = .returned (.string (quoteB s)) ∧ Below w.heap.size w w' := by
  have hl := textOK_len hv
  have hl' : s.size ≤ 64 := by simpa using hl
  have HV := Lib.hid (show validB 3 0 s = true by rw [validB_text, hv])
  clear hv hl
  go_enter Tryd.func13, Tryd.ntmps13
  go_wp2_with fail
  refine (rvalid_any 3 0 s _ (by omega)).mono ?_
  rintro e w' ⟨rfl, hb⟩
  rw [HV.out]
  obtain ⟨c0, c1, c2, -⟩ := box3 hb
  have hb' := Below.of_alloc hb
  obtain ⟨m, hm⟩ := (hE.low hb').maxlen
  clear HV hb hE
  have hq := quote_len s.data.toList (by simpa using hl')
  have hlen : s.size + Lib.countB s ⟨#[39]⟩ * (⟨#[39, 39]⟩ : ByteArray).size ≤ 140737488355328 := by
    have h1 := Lib.countB_le ⟨#[39]⟩ (by decide) s.size s (Nat.le_refl _)
    have h2 : (⟨#[39, 39]⟩ : ByteArray).size = 2 := rfl
    rw [h2]; omega
  go_wp2_with fail
  refine (Tryd.strings_ReplaceAll s ⟨#[39]⟩ ⟨#[39, 39]⟩ m _ (by omega) hm (by decide) hlen).mono ?_
  rintro e w2 ⟨rfl, hb2⟩
  go_wp2
  go_ret
  exact ⟨ret_str (by simp [quoteB]), Below.next hb' hb2⟩
theorem rformat_txt (s : ByteArray) (w : World) (hE : Env ls w) (hs : s.size ≤ 9223372036854775807) :
    Calls Tryd.prog 13 #[.agg #[.int .i64 3, .int .i64 0, .string s]] w fun e w' => e = .returned (.string (fmtB 3 0 s)) ∧ Below w.heap.size w w' := by
  cases hv : validB 3 0 s
  · exact rformat_bad 3 0 s w hs hv
  · rcases validB_cases hv with ⟨h, -, -⟩ | ⟨h, -⟩ | ⟨h, -, -⟩ | ⟨-, -, ht⟩
    · exact absurd h (by decide)
    · exact absurd h (by decide)
    · exact absurd h (by decide)
    · rw [fmtB_text s ht]; exact rformat_text s w hE ht
theorem rformat_any (k n : Int) (s : ByteArray) (w : World) (hE : Env ls w) (hN : 1 ∈ ls) (hs : s.size ≤ 9223372036854775807) (h1 : -9223372036854775808 ≤ n) (h2 : n ≤ 9223372036854775807) :
    Calls Tryd.prog 13 #[.agg #[.int .i64 k, .int .i64 n, .string s]] w fun e w' => e = .returned (.string (fmtB k n s)) ∧ Below w.heap.size w w' := by
  cases hv : validB k n s
  · exact rformat_bad k n s w hs hv
  · rcases validB_cases hv with ⟨rfl, rfl, rfl⟩ | ⟨rfl, rfl⟩ | ⟨rfl, hn, rfl⟩ | ⟨rfl, rfl, ht⟩
    · rw [fmtB_null]; exact rformat_null w
    · rw [fmtB_num]; exact rformat_num n w hE h1 h2
    · rw [fmtB_truth n hn]; exact rformat_truth n w hE hN hn
    · rw [fmtB_text s ht]; exact rformat_text s w hE ht
end Go.Proofs.YtgaihglploedaabDoor
/-
  Text, of package token and of the reference; the sanity check of layer 10.
-/
namespace Go.Proofs.YtgaihglploedaabDoor
set_option maxRecDepth 100000
open Go.RowKit
variable {ls : List Nat}

/-- How a token is written. -/
def tokText (k : Int) (t : ByteArray) : ByteArray := if k = 1 ∨ k = 2 ∨ k = 3 ∨ k = 5 then t else if k = 4 then fmtB 3 0 t else ⟨#[]⟩
set_option maxHeartbeats 1000000 in
theorem ttext_any (k a : Int) (t : ByteArray) (w : World) (hE : Env ls w) (hs : t.size ≤ 9223372036854775807) :
    Calls Tryd.prog 6 #[.agg #[.int .i64 k, .string t, .int .i64 a]] w fun e w' => e = .returned (.string (tokText k t)) ∧ Below w.heap.size w w' := by
  have hb0 := below_new (Below.refl w.heap.size w) (.cells #[.int .i64 k, .string t, .int .i64 a] 23)
  have HB := Lib.hid hb0
  have HE := Lib.hid (hE.low hb0)
  have hz := cell3_new w (.int .i64 k) (.string t) (.int .i64 a) 23
  clear hE hb0
  by_cases h : k = 1 ∨ k = 2 ∨ k = 3 ∨ k = 5
  · have HV : Hid (tokText k t = t) := Lib.hid (by unfold tokText; rw [if_pos h])
    rcases h with rfl | rfl | rfl | rfl
    all_goals
      obtain ⟨-, c0, c1, c2, -⟩ := hz
      go_enter Tryd.func6, Tryd.ntmps6
      go_wp2
      go_ret
      exact ⟨ret_str HV.out.symm, HB.out⟩
  · by_cases h4 : k = 4
    · have HV : Hid (tokText k t = fmtB 3 0 t) := Lib.hid (by unfold tokText; rw [if_neg h, if_pos h4])
      subst h4
      obtain ⟨-, c0, c1, c2, -⟩ := hz
      go_enter Tryd.func6, Tryd.ntmps6
      go_wp2_with fail
      refine (format_txt t _ HE.out hs).mono ?_
      rintro e w2 ⟨rfl, hb2⟩
      have HB2 := Lib.hid (below_next HB.out hb2)
      clear hb2
      go_wp2
      go_ret
      exact ⟨ret_str HV.out.symm, HB2.out⟩
    · have HV : Hid (tokText k t = ⟨#[]⟩) := Lib.hid (by unfold tokText; rw [if_neg h, if_neg h4])
      have e1 : (k == 1) = false := beq_eq_false_iff_ne.2 (fun e => h (.inl e))
      have e2 : (k == 2) = false := beq_eq_false_iff_ne.2 (fun e => h (.inr (.inl e)))
      have e3 : (k == 3) = false := beq_eq_false_iff_ne.2 (fun e => h (.inr (.inr (.inl e))))
      have e5 : (k == 5) = false := beq_eq_false_iff_ne.2 (fun e => h (.inr (.inr (.inr e))))
      have e4 : (k == 4) = false := beq_eq_false_iff_ne.2 h4
      clear h h4
      obtain ⟨-, c0, c1, c2, -⟩ := hz
      go_enter Tryd.func6, Tryd.ntmps6
      go_wp2
      go_ret
      exact ⟨ret_str HV.out.symm, HB.out⟩
set_option maxHeartbeats 1000000 in
theorem rttext_any (k a : Int) (t : ByteArray) (w : World) (hE : Env ls w) (hs : t.size ≤ 9223372036854775807) :
    Calls Tryd.prog 7 #[.agg #[.int .i64 k, .string t, .int .i64 a]] w fun e w' => e = .returned (.string (tokText k t)) ∧ Below w.heap.size w w' := by
  have hb0 := below_new (Below.refl w.heap.size w) (.cells #[.int .i64 k, .string t, .int .i64 a] 23)
  have HB := Lib.hid hb0
  have HE := Lib.hid (hE.low hb0)
  have hz := cell3_new w (.int .i64 k) (.string t) (.int .i64 a) 23
  clear hE hb0
  by_cases h : k = 1 ∨ k = 2 ∨ k = 3 ∨ k = 5
  · have HV : Hid (tokText k t = t) := Lib.hid (by unfold tokText; rw [if_pos h])
    rcases h with rfl | rfl | rfl | rfl
    all_goals
      obtain ⟨-, c0, c1, c2, -⟩ := hz
      go_enter Tryd.func7, Tryd.ntmps7
      go_wp2
      go_ret
      exact ⟨ret_str HV.out.symm, HB.out⟩
  · by_cases h4 : k = 4
    · have HV : Hid (tokText k t = fmtB 3 0 t) := Lib.hid (by unfold tokText; rw [if_neg h, if_pos h4])
      subst h4
      obtain ⟨-, c0, c1, c2, -⟩ := hz
      go_enter Tryd.func7, Tryd.ntmps7
      go_wp2_with fail
      refine (rformat_txt t _ HE.out hs).mono ?_
      rintro e w2 ⟨rfl, hb2⟩
      have HB2 := Lib.hid (below_next HB.out hb2)
      clear hb2
      go_wp2
      go_ret
      exact ⟨ret_str HV.out.symm, HB2.out⟩
    · have HV : Hid (tokText k t = ⟨#[]⟩) := Lib.hid (by unfold tokText; rw [if_neg h, if_neg h4])
      have e1 : (k == 1) = false := beq_eq_false_iff_ne.2 (fun e => h (.inl e))
      have e2 : (k == 2) = false := beq_eq_false_iff_ne.2 (fun e => h (.inr (.inl e)))
      have e3 : (k == 3) = false := beq_eq_false_iff_ne.2 (fun e => h (.inr (.inr (.inl e))))
      have e5 : (k == 5) = false := beq_eq_false_iff_ne.2 (fun e => h (.inr (.inr (.inr e))))
      have e4 : (k == 4) = false := beq_eq_false_iff_ne.2 h4
      clear h h4
      obtain ⟨-, c0, c1, c2, -⟩ := hz
      go_enter Tryd.func7, Tryd.ntmps7
      go_wp2
      go_ret
      exact ⟨ret_str HV.out.symm, HB.out⟩
theorem known_toks : toksR ⟨#[97, 60, 61, 49]⟩ = ([⟨2, ⟨#[97]⟩, 0⟩, ⟨5, ⟨#[60, 61]⟩, 1⟩, ⟨3, ⟨#[49]⟩, 3⟩], 0, 0) := by decide +kernel
theorem known_bad : toksR ⟨#[105, 116, 39, 115]⟩ = ([], 2, 1) := by decide +kernel
set_option maxHeartbeats 1000000 in
theorem known10_any (w : World) (hE : Env ls w) (hm : 3 ∈ ls) (hy : 2 ∈ ls) (hS : 10 ∈ ls) (hR : 11 ∈ ls) :
    Calls Tryd.prog 8 #[] w fun e w' => e = .returned (.bool true) ∧ Below w.heap.size w w' := by
  have HE := Lib.hid hE
  have h1 := tokens_any (ls := ls) ⟨#[97, 60, 61, 49]⟩ w hE hm hy hS hR
  unfold TokensPost at h1
  rw [known_toks] at h1
  have HC1 := Lib.hid h1
  have h2 := fun w (hE : Env ls w) => tokens_any (ls := ls) ⟨#[105, 116, 39, 115]⟩ w hE hm hy hS hR
  unfold TokensPost at h2
  rw [known_bad] at h2
  have HC2 := Lib.hid h2
  clear h1 h2 hE
  go_enter Tryd.func8, Tryd.ntmps8
  go_wp2_with fail
  refine HC1.out.mono ?_
  rintro e w1 ⟨p1, c1, rfl, hk1, hc1, hb1⟩
  have HE1 := Lib.hid (HE.out.low hb1)
  have HB1 := Lib.hid hb1
  have HK1 := Lib.hid hk1
  clear HC1 HE hk1 hb1
  go_wp2_with fail
  refine (HC2.out _ HE1.out).mono ?_
  rintro e w2 ⟨p2, c2, rfl, -, -, hb2⟩
  have HB2 := Lib.hid (below_next HB1.out hb2)
  obtain ⟨c, o, rfl, hcl, x0, x1, x2⟩ := HK1.out.low hb2 1 (by decide)
  dsimp only [List.getElem_cons_succ, List.getElem_cons_zero, List.length_cons, List.length_nil] at x0 x1 x2 hc1
  clear HC2 HK1 HE1 HB1 hb2
  go_wp2
  go_ret
  exact ⟨rfl, HB2.out⟩
end Go.Proofs.YtgaihglploedaabDoor
/-
  THE STATEMENT TokenTexts, as a walk; a token as an argument.
-/
namespace Go.Proofs.YtgaihglploedaabDoor
set_option maxRecDepth 100000
open Go.RowKit
variable {ls : List Nat}

section
open Go.ChangeShapes Go.WideShapes Go.ChangeAt
variable {H : Type} {enc : TypeId × Value → H} {W : World} {v : Value} {d : DataW H} {p : List MemPlace}
/-- An argument that is a token. -/
theorem open_token (hv : ∃ b, Value.okWide Tryd.prog W .any b 23 v) (h : DataW.Trod enc Tryd.prog W 0 (fun _ => true) true 23 v d p) :
    ∃ (k a : Int) (t : ByteArray), v = .agg #[.int .i64 k, .string t, .int .i64 a] ∧ t.size ≤ 9223372036854775807 := by
  obtain ⟨b, hv⟩ := hv
  obtain ⟨c0, c1, c2, y0, y1, y2, m, rfl, rfl, rfl, hy0, hy1, hy2⟩ := Joins.open_agg3 Tryd.underlying23 (by kernel_rfl) (by kernel_rfl) hv h
  obtain ⟨k, e0, rfl, wk⟩ := DataW.trod_int Tryd.underlying3 hy0
  obtain ⟨s, e1, rfl, ws⟩ := DataW.trod_string Tryd.underlying9 hy1
  obtain ⟨n, e2, rfl, wn⟩ := DataW.trod_int Tryd.underlying3 hy2
  simp only [List.cons.injEq, and_true] at e0 e1 e2
  subst e0 e1 e2
  exact ⟨k, n, s, rfl, ws⟩
end
/-- The two boxes of the statement. -/
theorem keepT {X Y B : Nat} {W u v : World} {x y z x' y' z' : Value} (hb : Below u.heap.size u v)
    (h : u.cell? ⟨X, 0, none⟩ = some x ∧ u.cell? ⟨X, 1, none⟩ = some y ∧ u.cell? ⟨X, 2, none⟩ = some z ∧ u.cell? ⟨Y, 0, none⟩ = some x' ∧ u.cell? ⟨Y, 1, none⟩ = some y' ∧ u.cell? ⟨Y, 2, none⟩ = some z' ∧ X < u.heap.size ∧ Y < u.heap.size ∧ Env ls u ∧ Below B W u ∧ B ≤ u.heap.size) :
    v.cell? ⟨X, 0, none⟩ = some x ∧ v.cell? ⟨X, 1, none⟩ = some y ∧ v.cell? ⟨X, 2, none⟩ = some z ∧ v.cell? ⟨Y, 0, none⟩ = some x' ∧ v.cell? ⟨Y, 1, none⟩ = some y' ∧ v.cell? ⟨Y, 2, none⟩ = some z' ∧ X < v.heap.size ∧ Y < v.heap.size ∧ Env ls v ∧ Below B W v ∧ B ≤ v.heap.size := by
  obtain ⟨h0, h1, h2, h3, h4, h5, hX, hY, hE, hB, hz⟩ := h
  have := hb.size
  exact ⟨by rw [hb.cell (by exact hX)]; exact h0, by rw [hb.cell (by exact hX)]; exact h1, by rw [hb.cell (by exact hX)]; exact h2, by rw [hb.cell (by exact hY)]; exact h3, by rw [hb.cell (by exact hY)]; exact h4, by rw [hb.cell (by exact hY)]; exact h5, by omega, by omega, hE.low hb, hB.trans (hb.mono hz), by omega⟩
theorem cell3_one {u : World} {X Y : Nat} {x y z : Value} (h : Cell3 u X x y z) (hn : X ≠ Y) (v : Value) : Cell3 (u.setCell ⟨Y, 0, none⟩ v) X x y z := by
  have hk : (u.setCell ⟨Y, 0, none⟩ v).heap[X]? = u.heap[X]? := Below.heap_setCell _ _ _ _ (by exact hn)
  exact ⟨by simpa [World.setCell] using h.lt, by rw [World.cell?_of_block (w := u) hk]; exact h.c0, by rw [World.cell?_of_block (w := u) hk]; exact h.c1, by rw [World.cell?_of_block (w := u) hk]; exact h.c2, fun o => by rw [World.frozen?_setCell]; exact h.fz o⟩
theorem cell3_set0 {u : World} {X : Nat} {x y z : Value} (h : Cell3 u X x y z) (v : Value) : Cell3 (u.setCell ⟨X, 0, none⟩ v) X v y z := by
  obtain ⟨hl, c0, c1, c2, fz⟩ := h
  exact ⟨by simpa [World.setCell] using hl, by go_simp, by go_simp, by go_simp, fun o => by rw [World.frozen?_setCell]; exact fz o⟩
theorem text_self (s : ByteArray) : (s.toList == s.toList) = true := beq_self_eq_true _
set_option maxRecDepth 100000 in
set_option maxHeartbeats 4000000 in
theorem texts_walk (w : World) (k a : Int) (t : ByteArray) (hs : t.size ≤ 9223372036854775807) (kind : Int) (hE : Env ls w) (hm : 3 ∈ ls) (hy : 2 ∈ ls) (hS : 10 ∈ ls) (hR : 11 ∈ ls) :
    Calls Tryd.prog 3 #[.agg #[.int .i64 k, .string t, .int .i64 a], .int .i64 kind] w fun e w' => e = .returned (.bool true) ∧ Below w.heap.size w w' := by
  have hz8 := hE.size
  have hb0 := below_new (below_new (Below.refl w.heap.size w) (.cells #[.int .i64 k, .string t, .int .i64 a] 23)) (.cells #[.int .i64 k, .string t, .int .i64 a] 23)
  have hX := (cell3_new w (.int .i64 k) (.string t) (.int .i64 a) 23).low (below_alloc _ (.cells #[.int .i64 k, .string t, .int .i64 a] 23))
  have hY := cell3_new (w.alloc (.cells #[.int .i64 k, .string t, .int .i64 a] 23)) (.int .i64 k) (.string t) (.int .i64 a) 23
  rw [size_alloc] at hY
  have HE0 := Lib.hid hE
  have HE := Lib.hid (hE.low hb0)
  have HB := Lib.hid hb0
  have HX := Lib.hid hX
  have HY := Lib.hid hY
  have HX0 := Lib.hid (cell3_new w (.int .i64 k) (.string t) (.int .i64 a) 23)
  clear hE hb0 hX hY
  obtain ⟨al, a0, a1, a2, af⟩ := HX0.out
  obtain ⟨xl, x0, x1, x2, xf⟩ := HX.out
  obtain ⟨yl, y0, y1, y2, yf⟩ := HY.out
  go_enter Tryd.func3, Tryd.ntmps3
  go_wp2_with fail
  clear al a0 a1 a2 af HX0
  refine (mod_any _ _ _ (by omega) (by omega)).mono ?_
  rintro e w1 ⟨rfl, rfl⟩
  generalize modI kind 7 = q
  have hb2 := below_new (below_new (Below.refl w.heap.size w) (.cells #[.int .i64 k, .string t, .int .i64 a] 23)) (.cells #[.int .i64 q, .string t, .int .i64 a] 23)
  have HX2 := Lib.hid ((cell3_new w (.int .i64 k) (.string t) (.int .i64 a) 23).low (below_alloc _ (.cells #[.int .i64 q, .string t, .int .i64 a] 23)))
  have hY2 := cell3_new (w.alloc (.cells #[.int .i64 k, .string t, .int .i64 a] 23)) (.int .i64 q) (.string t) (.int .i64 a) 23
  rw [size_alloc] at hY2
  have HY2 := Lib.hid hY2
  have HE2 := Lib.hid (HE0.out.low hb2)
  have HB2 := Lib.hid hb2
  clear hY2 hb2
  go_upto_region 3 with (fail)
  clear xl x0 x1 x2 xf yl y0 y1 y2 yf HX HY HB HE
  generalize World.alloc _ _ = W2 at HX2 HY2 HB2 HE2 ⊢
  obtain ⟨xl, x0, x1, x2, xf⟩ := HX2.out
  obtain ⟨yl, y0, y1, y2, yf⟩ := HY2.out
  have hE2 := HE2.out
  have hB2 := HB2.out
  have hz2 := hB2.size
  have hself := text_self
  clear HX2 HY2 HB2 HE2
  go_region_held3 (fun u => u.cell? ⟨w.heap.size, 0, none⟩ = some (.int .i64 k) ∧ u.cell? ⟨w.heap.size, 1, none⟩ = some (.string t) ∧ u.cell? ⟨w.heap.size, 2, none⟩ = some (.int .i64 a) ∧ u.cell? ⟨w.heap.size + 1, 0, none⟩ = some (.int .i64 q) ∧ u.cell? ⟨w.heap.size + 1, 1, none⟩ = some (.string t) ∧ u.cell? ⟨w.heap.size + 1, 2, none⟩ = some (.int .i64 a) ∧ w.heap.size < u.heap.size ∧ w.heap.size + 1 < u.heap.size ∧ Env ls u ∧ Below w.heap.size w u ∧ w.heap.size ≤ u.heap.size)
    (first
      | exact ⟨x0, x1, x2, y0, y1, y2, xl, yl, hE2.drew, hB2.drew, hz2⟩
      | exact keepT hbq (by assumption))
    (first
      | (go_at_call 6; refine (ttext_any (ls := ls) _ _ _ _ ?_ hs).mono ?_; (go_split_ands; assumption); rintro e wq ⟨rfl, hbq⟩)
      | (go_at_call 7; refine (rttext_any (ls := ls) _ _ _ _ ?_ hs).mono ?_; (go_split_ands; assumption); rintro e wq ⟨rfl, hbq⟩)
      | (go_at_call 8; refine (known10_any (ls := ls) _ ?_ hm hy hS hR).mono ?_; (go_split_ands; assumption); rintro e wq ⟨rfl, hbq⟩))
  rename_i hHeld
  obtain ⟨-, -, -, -, -, -, -, -, -, hBw, -⟩ := hHeld
  clear x0 x1 x2 y0 y1 y2
  go_wp2
  go_ret
  exact ⟨rfl, hBw⟩
end Go.Proofs.YtgaihglploedaabDoor
