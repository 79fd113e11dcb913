/-
  Several texts in one.
-/
import Derived.Test.YtlpaphgmdcpmaaaGreatDoorPk24
import Derived.Test.YtlpaphgmdcpmaaaGreatDoorPk14
import Derived.Test.YtlpaphgmdcpmaaaGreatDoorPk16
/-
  The words of the reference of layer 12: name, where, from, argument.
-/
namespace Go.Proofs.YtlpaphgmdcpmaaaGreatDoor
set_option maxRecDepth 100000
open Go.RowKit
variable {ls : List Nat}

/-- A list of texts is returned. -/
def RWPost (L : List ByteArray) (w : World) (e : Ending) (w' : World) : Prop := ∃ p c, e = .returned (.slice p L.length c) ∧ SLAt w' p L ∧ Below w.heap.size w w'
theorem sl_of {u : World} {g : Nat} {L : List ByteArray} (hg : g < u.heap.size) (h : ∀ j, (h : j < L.length) → u.cell? ⟨g, j, none⟩ = some (.string L[j])) : SLAt u (some ⟨g, 0, none⟩) L := fun i hi =>
  ⟨g, 0, rfl, hg, by rw [Nat.zero_add, h i hi, sAt_get hi]⟩
theorem sl_nil (u : World) (p : Option Addr) : SLAt u p [] := fun i hi => by simp at hi
/-- words of the reference, for trees of at most d storeys. -/
def RWDoes (ls : List Nat) (d : Nat) : Prop := ∀ (N : Nat → Prop) (e : Ex) (w : World), Env ls w → ExAt N w d e → vE d e = true → (wT d e).length ≤ 100000000000 →
  Calls Tryz.prog 31 #[exV e] w (RWPost (wT d e) w)
theorem cells_three (u : World) (s r x : ByteArray) (t : TypeId) : ∀ j, (h : j < [s, r, x].length) → (u.alloc (.cells #[.string s, .string r, .string x] t)).cell? ⟨u.heap.size, j, none⟩ = some (.string [s, r, x][j]) := by
  intro j h
  have h : j < 3 := h
  obtain rfl | rfl | rfl : j = 0 ∨ j = 1 ∨ j = 2 := by omega
  all_goals go_simp
set_option maxHeartbeats 1000000 in
theorem rname_any (e : Ex) (w : World) :
    Calls Tryz.prog 62 #[exV e] w (RWPost (colT e.tb e.nm) w) := by
  have HX := Lib.hid (ExB.new w e 27)
  have HB := Lib.hid (below_alloc w (.cells #[.int .i64 e.k, .int .i64 e.op, .bool e.no, .int .i64 e.vk, .int .i64 e.vi, .string e.vt, .string e.tb, .string e.nm, .slice e.pa e.args.length e.ca, .slice e.ps e.sub.length e.cs] 27))
  unfold exV
  by_cases h0 : e.tb.toList = []
  · have e0 : (e.tb.toList == []) = true := by simpa using h0
    have hq : eqT e.tb ⟨#[]⟩ = true := by unfold eqT; rw [h0, ByteArray.toList_eq]; rfl
    have HL := Lib.hid (show colT e.tb e.nm = [e.nm] by unfold colT; rw [hq, if_pos rfl]; rfl)
    clear hq
    go_enter Tryz.func62, Tryz.ntmps62
    go_upto_region 1 with (fail)
    generalize World.alloc _ _ = u at *
    obtain ⟨xl, x0, x1, x2, x3, x4, x5, x6, x7, x8, x9, xf⟩ := HX.out
    go_wp2_with fail
    go_ret
    rw [HL.out]
    exact ⟨_, _, rfl, sl_of (by simp) (cells_one u e.nm _), below_new HB.out _⟩
  · have e0 : (e.tb.toList == []) = false := by simpa using h0
    have hq : eqT e.tb ⟨#[]⟩ = false := by
      cases hx : eqT e.tb ⟨#[]⟩
      · rfl
      · exact absurd (by rw [eqT_iff.1 hx, ByteArray.toList_eq]) h0
    have HL := Lib.hid (show colT e.tb e.nm = [e.tb, ⟨#[46]⟩, e.nm] by unfold colT; rw [hq]; rfl)
    clear hq
    go_enter Tryz.func62, Tryz.ntmps62
    go_upto_region 1 with (fail)
    generalize World.alloc _ _ = u at *
    obtain ⟨xl, x0, x1, x2, x3, x4, x5, x6, x7, x8, x9, xf⟩ := HX.out
    go_wp2_with fail
    go_ret
    rw [HL.out]
    exact ⟨_, _, rfl, sl_of (by simp) (cells_three u e.tb ⟨#[46]⟩ e.nm _), below_new HB.out _⟩
theorem own_one (w : World) (s : ByteArray) : (w.alloc (.cells #[.string s] 9)).ownsRow w.heap.size 9 1 (.slice (some ⟨w.heap.size, 0, none⟩) 1 1) 1 (wcells [s]) := by
  refine ⟨rfl, Or.inr ⟨w.heap.size, 1, #[.string s], rfl, Nat.le_refl _, ?_, Nat.le_refl _, by decide, rfl, rfl⟩⟩
  show (w.heap.push _)[w.heap.size]? = _
  simp
theorem own_two (w : World) (s r : ByteArray) : (w.alloc (.cells #[.string s, .string r] 9)).ownsRow w.heap.size 9 1 (.slice (some ⟨w.heap.size, 0, none⟩) 2 2) 2 (wcells [s, r]) := by
  refine ⟨rfl, Or.inr ⟨w.heap.size, 2, #[.string s, .string r], rfl, Nat.le_refl _, ?_, Nat.le_refl _, by decide, rfl, rfl⟩⟩
  show (w.heap.push _)[w.heap.size]? = _
  simp
set_option maxHeartbeats 1000000 in
theorem rwhere_any {d : Nat} (H : RWDoes ls d) {N : Nat → Prop} (p : Option Addr) (c : Nat) (l : List Ex) (w : World) (hE : Env ls w) (hA : LAt N w (ExAt N w d) p l) (h1 : l.length ≤ 1) (hV : ∀ a ∈ l, vE d a = true) (hz : (whT (wT d) l).length ≤ 100000000000) :
    Calls Tryz.prog 82 #[.slice p l.length c] w (RWPost (whT (wT d) l) w) := by
  match l, h1, hA, hV, hz with
  | [], _, _, _, _ =>
    show Calls Tryz.prog 82 #[.slice p 0 c] w _
    go_enter Tryz.func82, Tryz.ntmps82
    go_wp2_with fail
    go_ret
    exact ⟨none, 0, rfl, sl_nil _ _, Below.refl _ _⟩
  | [a], _, hA, hV, hz =>
    obtain ⟨g, o, rfl, hg, -, hC, hX⟩ := hA 0 (by simp)
    have hC : ExC w g (o + 0 * 10) a := hC
    have hX : ExAt N w d a := hX
    have hL : whT (wT d) [a] = [⟨#[87, 72, 69, 82, 69]⟩] ++ wT d a := by simp [whT]
    rw [hL] at hz
    obtain ⟨i0, hi0, hz0, hz1, hz2⟩ := info_parts info_text
    have hal := below_alloc w (.cells #[.string ⟨#[87, 72, 69, 82, 69]⟩] 9)
    have HB := Lib.hid hal
    have HO := Lib.hid (own_one w ⟨#[87, 72, 69, 82, 69]⟩)
    have HC := Lib.hid (hC.keep (hal.block g hg))
    have HW := Lib.hid (H N a _ (hE.low hal) (hX.low hal) (hV a (List.mem_singleton.2 rfl)) (by simp at hz; omega))
    have HL := Lib.hid hL
    have HZ := Lib.hid hz
    have hg2 := Nat.lt_of_lt_of_le hg hal.size
    clear hal hC hX hL hz hA hV hE
    show Calls Tryz.prog 82 #[.slice (some ⟨g, o, none⟩) 1 c] w _
    unfold exV at HW
    go_enter Tryz.func82, Tryz.ntmps82
    obtain ⟨c0, c1, d2, c3, c4, c5, c6, c7, c8, c9⟩ := HC.out
    rw [Nat.zero_mul, Nat.add_zero] at c0 c1 d2 c3 c4 c5 c6 c7 c8 c9
    go_wp2_with fail
    refine (HW.out).mono ?_
    rintro e w2 ⟨p2, c2, rfl, hs2, hb2⟩
    have HO2 := Lib.hid (owns_below HO.out hb2)
    have HB2 := Lib.hid (below_next HB.out hb2)
    have HSL := Lib.hid (sl_cells hs2)
    clear c0 c1 d2 c3 c4 c5 c6 c7 c8 c9 hs2 hb2 HC
    have hcl : (wcells (wT d a)).length = (wT d a).length * 1 := by rw [wcells_length, Nat.mul_one]
    have hzz : 1 + (wT d a).length ≤ 100000000000 := by have := HZ.out; simp only [List.length_append, List.length_cons, List.length_nil] at this; omega
    have HCL := Lib.hid hcl
    have hsz := HB2.out.size
    have HOF := Lib.hid (fun v (u : World) (h : u.ownsRow w.heap.size 9 1 v (1 + (wT d a).length) (wcells [⟨#[87, 72, 69, 82, 69]⟩] ++ wcells (wT d a))) => (sl_own (L := [⟨#[87, 72, 69, 82, 69]⟩] ++ wT d a) (base := w.heap.size) (u := u) (v := v) (by rw [List.length_append, wcells_append]; exact h)))
    clear hcl HW
    generalize (wT d a).length = m at *
    go_wp2_with (at_builtin; refine wpList_append_any rfl (.tmp 6) (.tmp 10) 47 9 rfl w.heap.size i0 _ 1 16 Tryz.underlying47 hi0 hz0 hz1 hz2 rfl (by decide) (.slice (some ⟨w.heap.size, 0, none⟩) 1 1) 1 (wcells [⟨#[87, 72, 69, 82, 69]⟩]) (by rfl) HO2.out p2 m c2 (wcells (wT d a)) (by rfl) HCL.out HSL.out.1 HSL.out.2 (wcells_one _) (by unfold maxLen; omega) (by omega) hsz ?_; intro v3 w3 hown3 hg3; (have HO3 := Lib.hid (HOF.out v3 w3 hown3)); (have HB3 := Lib.hid (HB2.out.grown hg3 hsz (fun j hj => owns_block HO2.out j hj))); clear hown3 hg3)
    go_ret
    rw [HL.out]
    obtain ⟨p3, c3, rfl, hs3⟩ := HO3.out
    exact ⟨p3, c3, rfl, hs3, HB3.out⟩
set_option maxHeartbeats 1000000 in
theorem rfrom_any {d : Nat} (H : RWDoes ls d) {N : Nat → Prop} (q : Qu) (w : World) (hE : Env ls w) (hA : QuIn N w (ExAt N w d) q) (h1 : q.wh.length ≤ 1) (hV : ∀ a ∈ q.wh, vE d a = true) (hz : (fromT (wT d) q).length ≤ 100000000000) :
    Calls Tryz.prog 65 #[quV q] w (RWPost (fromT (wT d) q) w) := by
  obtain ⟨i0, hi0, hz0, hz1, hz2⟩ := info_parts info_text
  have hL : fromT (wT d) q = [⟨#[70, 82, 79, 77]⟩, q.fr] ++ whT (wT d) q.wh := rfl
  rw [hL] at hz
  have hal := below_alloc w (.cells #[.bool q.st, .slice q.pi q.items.length q.ci, .string q.fr, .slice q.pw q.wh.length q.cw] 53)
  have hwz : 2 + (whT (wT d) q.wh).length ≤ 100000000000 := by simp only [List.length_append, List.length_cons, List.length_nil] at hz; omega
  have HX := Lib.hid (QuBx.new w q 53)
  have HB := Lib.hid hal
  have HW := Lib.hid (fun v hE h => rwhere_any H (N := N) q.pw q.cw q.wh v hE h h1 hV (by omega))
  have HA := Lib.hid (hA.low hal)
  have HE := Lib.hid (hE.low hal)
  have HL := Lib.hid hL
  clear hal hL hz hV hE hA
  unfold quV
  go_enter Tryz.func65, Tryz.ntmps65
  go_upto_region 1 with (fail)
  generalize World.alloc _ _ = u at *
  obtain ⟨xl, x0, x1, x2, x3, xf⟩ := HX.out
  have HO := Lib.hid (own_two u ⟨#[70, 82, 79, 77]⟩ q.fr)
  have hbl := below_alloc u (.cells #[.string ⟨#[70, 82, 79, 77]⟩, .string q.fr] 9)
  have HBL := Lib.hid (below_next HB.out hbl)
  have HXL := Lib.hid (HX.out.low hbl)
  have HW2 := Lib.hid (HW.out _ (HE.out.low hbl) (HA.out.low hbl).wh)
  have hus := HB.out.size
  clear hbl HW
  go_upto_region 2 with (fail)
  clear xl x0 x1 x2 x3 xf HX
  obtain ⟨xl, x0, x1, x2, x3, xf⟩ := HXL.out
  go_wp2_with fail
  refine (HW2.out).mono ?_
  rintro e w2 ⟨p2, c2, rfl, hs2, hb2⟩
  have HO2 := Lib.hid (owns_below HO.out hb2)
  have HB2 := Lib.hid (below_next HBL.out hb2)
  have HSL := Lib.hid (sl_cells hs2)
  have hsz2 : u.heap.size ≤ w2.heap.size := by have := hb2.size; simp at this; omega
  clear xl x0 x1 x2 x3 xf hs2 hb2 HXL HW2
  have hcl : (wcells (whT (wT d) q.wh)).length = (whT (wT d) q.wh).length * 1 := by rw [wcells_length, Nat.mul_one]
  have HCL := Lib.hid hcl
  have HOF := Lib.hid (fun v (u2 : World) (h : u2.ownsRow u.heap.size 9 1 v (2 + (whT (wT d) q.wh).length) (wcells [⟨#[70, 82, 79, 77]⟩, q.fr] ++ wcells (whT (wT d) q.wh))) => (sl_own (L := [⟨#[70, 82, 79, 77]⟩, q.fr] ++ whT (wT d) q.wh) (base := u.heap.size) (u := u2) (v := v) (by rw [List.length_append, wcells_append]; exact h)))
  clear hcl
  generalize (whT (wT d) q.wh).length = m at *
  go_wp2_with (at_builtin; refine wpList_append_any rfl (.tmp 7) (.tmp 10) 47 9 rfl u.heap.size i0 _ 1 16 Tryz.underlying47 hi0 hz0 hz1 hz2 rfl (by decide) (.slice (some ⟨u.heap.size, 0, none⟩) 2 2) 2 (wcells [⟨#[70, 82, 79, 77]⟩, q.fr]) (by rfl) HO2.out p2 m c2 (wcells (whT (wT d) q.wh)) (by rfl) HCL.out HSL.out.1 HSL.out.2 (wcells_one _) (by unfold maxLen; omega) (by omega) hsz2 ?_; intro v3 w3 hown3 hg3; (have HO3 := Lib.hid (HOF.out v3 w3 hown3)); (have HB3 := Lib.hid (HB2.out.grown hg3 HB2.out.size (fun j hj => Nat.le_trans hus (owns_block HO2.out j hj)))); clear hown3 hg3)
  go_ret
  rw [HL.out]
  obtain ⟨p3, c3, rfl, hs3⟩ := HO3.out
  exact ⟨p3, c3, rfl, hs3, HB3.out⟩
set_option maxHeartbeats 2000000 in
theorem rarg_any {d : Nat} (H : RWDoes ls d) {N : Nat → Prop} (e : Ex) (i : Nat) (w : World) (hE : Env ls w) (hA : LAt N w (ExAt N w d) e.pa e.args) (hi : i < e.args.length) (h3 : i < 3) (hV : vE d (eAt e.args i) = true) (hz : (argT (wT d) e i).length ≤ 100000000000) :
    Calls Tryz.prog 64 #[exV e, .int .i64 i] w (RWPost (argT (wT d) e i) w) := by
  obtain ⟨i0, hi0, hz0, hz1, hz2⟩ := info_parts info_text
  have hal := below_alloc w (.cells #[.int .i64 e.k, .int .i64 e.op, .bool e.no, .int .i64 e.vk, .int .i64 e.vi, .string e.vt, .string e.tb, .string e.nm, .slice e.pa e.args.length e.ca, .slice e.ps e.sub.length e.cs] 27)
  have HX := Lib.hid (ExB.new w e 27)
  have HB := Lib.hid hal
  obtain ⟨g, o, hpa, hg, -, hC, hY⟩ := hA i hi
  have HC := Lib.hid (hC.keep (hal.block g hg))
  have HWR := Lib.hid (fun u (h : LAt N u (ExAt N u d) e.pa e.args) => rwrapped_c (N := N) (P := ExAt N u d) e.k e.op e.vk e.vi e.no e.vt e.tb e.nm e.pa e.ps e.args e.ca e.sub.length e.cs i u hi h3 h)
  have HAL := Lib.hid (hA.low hal)
  have hwl : (wT d (eAt e.args i)).length ≤ 100000000000 := by
    unfold argT at hz
    split at hz
    · simp only [List.length_append] at hz; omega
    · exact hz
  have HW := Lib.hid (H N (eAt e.args i) _ (hE.low hal) (hY.low hal) hV hwl)
  clear hal hC hY hA hV hE
  generalize ha : eAt e.args i = a at *
  have hin : decide (prec a.k a.op < least e.k e.op i) = inPar e i := by unfold inPar; rw [ha]
  rw [hin] at HWR
  have HT := Lib.hid (show argT (wT d) e i = if inPar e i then [⟨#[40]⟩] ++ wT d a ++ [⟨#[41]⟩] else wT d a by unfold argT; rw [ha])
  have HZ := Lib.hid hz
  clear ha hin hz
  have hiI : (i : Int) < e.args.length := by omega
  unfold exV at HW ⊢
  generalize hn : e.args.length = n at *
  generalize hpe : e.pa = pa at *
  have HN := Lib.hid hn
  have HPE := Lib.hid hpe
  subst hpa
  clear hn hpe
  generalize inPar e i = ip at *
  generalize argT (wT d) e i = at0 at *
  go_enter Tryz.func64, Tryz.ntmps64
  go_upto_region 1 with (fail)
  generalize World.alloc _ _ = u at *
  obtain ⟨xl, x0, x1, x2, x3, x4, x5, x6, x7, x8, x9, xf⟩ := HX.out
  rw [HPE.out, HN.out] at x8
  obtain ⟨c0, c1, d2, c3, c4, c5, c6, c7, c8, c9⟩ := HC.out
  go_wp2_with fail
  clear xl x0 x1 x2 x3 x4 x5 x6 x7 x8 x9 xf c0 c1 d2 c3 c4 c5 c6 c7 c8 c9
  refine (HW.out).mono ?_
  rintro e' w2 ⟨p2, c2, rfl, hs2, hb2⟩
  have HB2 := Lib.hid (below_next HB.out hb2)
  have HX2 := Lib.hid (HX.out.low hb2)
  have HAL2 := Lib.hid (HAL.out.low hb2)
  have HS2 := Lib.hid hs2
  clear hs2 hb2 HC HW HX HAL HB
  obtain ⟨xl, x0, x1, x2, x3, x4, x5, x6, x7, x8, x9, xf⟩ := HX2.out
  rw [HPE.out, HN.out] at x8
  go_wp2_with fail
  clear xl x0 x1 x2 x3 x4 x5 x6 x7 x8 x9 xf HX2
  refine (HWR.out _ HAL2.out).mono ?_
  rintro e' w3 ⟨rfl, hb3⟩
  have HB3 := Lib.hid (below_next HB2.out hb3)
  have HS3 := Lib.hid (SLAt.low HS2.out hb3)
  clear hb3 HAL2 HB2 HS2 HWR
  cases ip
  · go_wp2_with fail
    go_ret
    rw [HT.out]
    exact ⟨p2, c2, rfl, HS3.out, HB3.out⟩
  · have hal3 := below_alloc w3 (.cells #[.string ⟨#[40]⟩] 9)
    have HO := Lib.hid (own_one w3 ⟨#[40]⟩)
    have HSL := Lib.hid (sl_cells (SLAt.low HS3.out hal3))
    have HB4 := Lib.hid (below_next HB3.out hal3)
    have hs3 := HB3.out.size
    have hs4 := hal3.size
    clear hal3 HS3
    have hcl : (wcells (wT d a)).length = (wT d a).length * 1 := by rw [wcells_length, Nat.mul_one]
    have HCL := Lib.hid hcl
    have hzz : (wT d a).length + 2 ≤ 100000000000 := by have := HZ.out; rw [HT.out] at this; simp only [if_true, List.length_append, List.length_cons, List.length_nil] at this; omega
    have HOF := Lib.hid (fun v (u2 : World) (h : u2.ownsRow w3.heap.size 9 1 v (1 + (wT d a).length + 1) ((wcells [⟨#[40]⟩] ++ wcells (wT d a)) ++ wcells [⟨#[41]⟩])) => (sl_own (L := [⟨#[40]⟩] ++ wT d a ++ [⟨#[41]⟩]) (base := w3.heap.size) (u := u2) (v := v) (by rw [List.length_append, List.length_append, wcells_append, wcells_append]; exact h)))
    clear hcl
    generalize hm : (wT d a).length = m at *
    go_wp2_with (first
      | (at_builtin; refine wpList_append_any rfl (.tmp 15) (.tmp 16) 47 9 rfl w3.heap.size i0 _ 1 16 Tryz.underlying47 hi0 hz0 hz1 hz2 rfl (by decide) (.slice (some ⟨w3.heap.size, 0, none⟩) 1 1) 1 (wcells [⟨#[40]⟩]) (by rfl) HO.out p2 m c2 (wcells (wT d a)) (by rfl) HCL.out HSL.out.1 HSL.out.2 (wcells_one _) (by unfold maxLen; omega) (by omega) hs4 ?_; intro v4 w4 hown4 hg4; (have HB5 := Lib.hid (HB4.out.grown hg4 HB4.out.size (fun j hj => Nat.le_trans hs3 (owns_block HO.out j hj)))); (have hs5 : w3.heap.size ≤ w4.heap.size := Nat.le_trans hs4 hg4.size); (have HO5 := Lib.hid (owns_below hown4 (below_alloc w4 (.cells #[.string ⟨#[41]⟩] 9)))); (have HSR := Lib.hid (sl_cells (sl_of (L := [⟨#[41]⟩]) (by simp) (cells_one w4 ⟨#[41]⟩ 9)))); (have HB6 := Lib.hid (below_next HB5.out (below_alloc w4 (.cells #[.string ⟨#[41]⟩] 9)))); (have hs6 : w3.heap.size ≤ (w4.alloc (.cells #[.string ⟨#[41]⟩] 9)).heap.size := by simp; omega); clear hown4 hg4)
      | (at_builtin; refine wpList_append_any rfl (.tmp 17) (.tmp 18) 47 9 rfl w3.heap.size i0 _ 1 16 Tryz.underlying47 hi0 hz0 hz1 hz2 rfl (by decide) v4 (1 + m) (wcells [⟨#[40]⟩] ++ wcells (wT d a)) (by rfl) HO5.out (some ⟨w4.heap.size, 0, none⟩) 1 1 (wcells [⟨#[41]⟩]) (by rfl) rfl HSR.out.1 HSR.out.2 (wcells_one _) (by unfold maxLen; omega) (by omega) hs6 ?_; intro v7 w7 hown7 hg7; (have HO7 := Lib.hid (HOF.out v7 w7 hown7)); (have HB7 := Lib.hid (HB6.out.grown hg7 HB6.out.size (fun j hj => Nat.le_trans hs3 (owns_block HO5.out j hj)))); clear hown7 hg7))
    go_ret
    rw [HT.out]
    obtain ⟨p3, c3, rfl, hs3⟩ := HO7.out
    exact ⟨p3, c3, rfl, hs3, HB7.out⟩
end Go.Proofs.YtlpaphgmdcpmaaaGreatDoor
/-
  Format of the reference: the same text.
-/
namespace Go.Proofs.YtlpaphgmdcpmaaaGreatDoor
set_option maxRecDepth 100000
open Go.RowKit
variable {ls : List Nat}

set_option maxHeartbeats 400000 in
theorem rformat_bad (k n : Int) (s : ByteArray) (w : World) (hs : s.size ≤ 9223372036854775807) (hv : validB k n s = false) :
    Calls Tryz.prog 61 #[.agg #[.int .i64 k, .int .i64 n, .string s]] w fun e w' => e = .returned (.string (fmtB k n s)) ∧ Below w.heap.size w w' := by
  have hf : fmtB k n s = ⟨#[63]⟩ := by unfold fmtB; rw [hv]; rfl
  have HF := Lib.hid hf
  have HV := Lib.hid hv
  clear hf hv
  go_enter Tryz.func61, Tryz.ntmps61
  go_wp2_with fail
  refine (rvalid_any k n s _ hs).mono ?_
  rintro e w' ⟨rfl, hb⟩
  rw [HV.out]
  go_wp2
  go_ret
  exact ⟨ret_str HF.out.symm, Below.of_alloc hb⟩

set_option maxHeartbeats 400000 in
theorem rformat_null (w : World) :
    Calls Tryz.prog 61 #[.agg #[.int .i64 0, .int .i64 0, .string ⟨#[]⟩]] w fun e w' => e = .returned (.string ⟨#[78, 85, 76, 76]⟩) ∧ Below w.heap.size w w' := by
  have HV := Lib.hid (show validB 0 0 ⟨#[]⟩ = true by simp [validB])
  go_enter Tryz.func61, Tryz.ntmps61
  go_wp2_with fail
  refine (rvalid_any 0 0 ⟨#[]⟩ _ (by decide)).mono ?_
  rintro e w' ⟨rfl, hb⟩
  rw [HV.out]
  obtain ⟨c0, c1, c2, -⟩ := box3 hb
  go_wp2
  go_ret
  exact ⟨rfl, Below.of_alloc hb⟩

set_option maxHeartbeats 400000 in
theorem rformat_num (n : Int) (w : World) (hE : Env ls w) (hP : 7 ∈ ls) (h1 : -9223372036854775808 ≤ n) (h2 : n ≤ 9223372036854775807) :
    Calls Tryz.prog 61 #[.agg #[.int .i64 1, .int .i64 n, .string ⟨#[]⟩]] w fun e w' => e = .returned (.string ⟨(Lib.itoa n).toArray⟩) ∧ Below w.heap.size w w' := by
  have HV := Lib.hid (show validB 1 n ⟨#[]⟩ = true by simp [validB])
  go_enter Tryz.func61, Tryz.ntmps61
  go_wp2_with fail
  refine (rvalid_any 1 n ⟨#[]⟩ _ (by decide)).mono ?_
  rintro e w' ⟨rfl, hb⟩
  rw [HV.out]
  obtain ⟨c0, c1, c2, -⟩ := box3 hb
  have hb' := Below.of_alloc hb
  have hp := (hE.low hb').pow hP
  clear HV hb hE
  go_wp2_with (go_at_call 72; refine (Tryz.strconv_FormatInt_10 n h1 h2 _ hp).mono ?_; rintro e w2 ⟨rfl, kk, os, rfl⟩)
  go_ret
  exact ⟨rfl, Below.next hb' (below_grow _ _ _)⟩

set_option maxHeartbeats 400000 in
theorem rformat_truth (n : Int) (w : World) (hE : Env ls w) (hN : 5 ∈ ls) (hn : n = 0 ∨ n = 1) :
    Calls Tryz.prog 61 #[.agg #[.int .i64 2, .int .i64 n, .string ⟨#[]⟩]] w fun e w' => e = .returned (.string (if n = 1 then ⟨#[84, 82, 85, 69]⟩ else ⟨#[70, 65, 76, 83, 69]⟩)) ∧ Below w.heap.size w w' := by
  rcases hn with rfl | rfl
  · have HV := Lib.hid (show validB 2 0 ⟨#[]⟩ = true by simp [validB])
    go_enter Tryz.func61, Tryz.ntmps61
    go_wp2_with fail
    refine (rvalid_any 2 0 ⟨#[]⟩ _ (by decide)).mono ?_
    rintro e w' ⟨rfl, hb⟩
    rw [HV.out]
    obtain ⟨c0, c1, c2, -⟩ := box3 hb
    have hb' := Below.of_alloc hb
    have hp := (hE.low hb').no hN
    go_wp2
    go_ret
    exact ⟨rfl, hb'⟩
  · have HV := Lib.hid (show validB 2 1 ⟨#[]⟩ = true by simp [validB])
    go_enter Tryz.func61, Tryz.ntmps61
    go_wp2_with fail
    refine (rvalid_any 2 1 ⟨#[]⟩ _ (by decide)).mono ?_
    rintro e w' ⟨rfl, hb⟩
    rw [HV.out]
    obtain ⟨c0, c1, c2, -⟩ := box3 hb
    have hb' := Below.of_alloc hb
    have hp := (hE.low hb').yes hN
    go_wp2
    go_ret
    exact ⟨rfl, hb'⟩

set_option maxHeartbeats 400000 in
theorem rformat_text (s : ByteArray) (w : World) (hE : Env ls w) (hv : textOK s.data.toList = true) :
    Calls Tryz.prog 61 #[.agg #[.int .i64 3, .int .i64 0, .string s]] w fun e w' => e = .returned (.string (quoteB s)) ∧ Below w.heap.size w w' := by
  have hl := textOK_len hv
  have hl' : s.size ≤ 64 := by simpa using hl
  have HV := Lib.hid (show validB 3 0 s = true by rw [validB_text, hv])
  clear hv hl
  go_enter Tryz.func61, Tryz.ntmps61
  go_wp2_with fail
  refine (rvalid_any 3 0 s _ (by omega)).mono ?_
  rintro e w' ⟨rfl, hb⟩
  rw [HV.out]
  obtain ⟨c0, c1, c2, -⟩ := box3 hb
  have hb' := Below.of_alloc hb
  obtain ⟨m, hm⟩ := (hE.low hb').maxlen
  clear HV hb hE
  have hq := quote_len s.data.toList (by simpa using hl')
  have hlen : s.size + Lib.countB s ⟨#[39]⟩ * (⟨#[39, 39]⟩ : ByteArray).size ≤ 140737488355328 := by
    have h1 := Lib.countB_le ⟨#[39]⟩ (by decide) s.size s (Nat.le_refl _)
    have h2 : (⟨#[39, 39]⟩ : ByteArray).size = 2 := rfl
    rw [h2]; omega
  go_wp2_with fail
  refine (Tryz.strings_ReplaceAll s ⟨#[39]⟩ ⟨#[39, 39]⟩ m _ (by omega) hm (by decide) hlen).mono ?_
  rintro e w2 ⟨rfl, hb2⟩
  go_wp2
  go_ret
  exact ⟨ret_str (by simp [quoteB]), Below.next hb' hb2⟩
theorem rformat_txt (s : ByteArray) (w : World) (hE : Env ls w) (hs : s.size ≤ 9223372036854775807) :
    Calls Tryz.prog 61 #[.agg #[.int .i64 3, .int .i64 0, .string s]] w fun e w' => e = .returned (.string (fmtB 3 0 s)) ∧ Below w.heap.size w w' := by
  cases hv : validB 3 0 s
  · exact rformat_bad 3 0 s w hs hv
  · rcases validB_cases hv with ⟨h, -, -⟩ | ⟨h, -⟩ | ⟨h, -, -⟩ | ⟨-, -, ht⟩
    · exact absurd h (by decide)
    · exact absurd h (by decide)
    · exact absurd h (by decide)
    · rw [fmtB_text s ht]; exact rformat_text s w hE ht
theorem rformat_any (k n : Int) (s : ByteArray) (w : World) (hE : Env ls w) (hN : 5 ∈ ls) (hP : 7 ∈ ls) (hs : s.size ≤ 9223372036854775807) (h1 : -9223372036854775808 ≤ n) (h2 : n ≤ 9223372036854775807) :
    Calls Tryz.prog 61 #[.agg #[.int .i64 k, .int .i64 n, .string s]] w fun e w' => e = .returned (.string (fmtB k n s)) ∧ Below w.heap.size w w' := by
  cases hv : validB k n s
  · exact rformat_bad k n s w hs hv
  · rcases validB_cases hv with ⟨rfl, rfl, rfl⟩ | ⟨rfl, rfl⟩ | ⟨rfl, hn, rfl⟩ | ⟨rfl, rfl, ht⟩
    · rw [fmtB_null]; exact rformat_null w
    · rw [fmtB_num]; exact rformat_num n w hE hP h1 h2
    · rw [fmtB_truth n hn]; exact rformat_truth n w hE hN hn
    · rw [fmtB_text s ht]; exact rformat_text s w hE ht
end Go.Proofs.YtlpaphgmdcpmaaaGreatDoor
/-
  words of the reference of layer 12, kind by kind.
-/
namespace Go.Proofs.YtlpaphgmdcpmaaaGreatDoor
set_option maxRecDepth 100000
open Go.RowKit
variable {ls : List Nat}

theorem cat_two (p1 p2 : Option Addr) (c1 c2 : Nat) (L1 L2 : List ByteArray) (u : World) (t : TypeId) (h1 : SLAt u p1 L1) (h2 : SLAt u p2 L2) (hz : (L1 ++ L2).length ≤ 1000000000000) :
    Calls Tryz.prog 63 #[.slice (some ⟨u.heap.size, 0, none⟩) 2 2] (u.alloc (.cells #[.slice p1 L1.length c1, .slice p2 L2.length c2] t)) (RWPost (L1 ++ L2) (u.alloc (.cells #[.slice p1 L1.length c1, .slice p2 L2.length c2] t))) := by
  have hb := below_alloc u (.cells #[.slice p1 L1.length c1, .slice p2 L2.length c2] t)
  have hsz : u.heap.size < (u.alloc (.cells #[.slice p1 L1.length c1, .slice p2 L2.length c2] t)).heap.size := by simp
  have he : catN (fun i => if i = 0 then L1 else L2) 2 = L1 ++ L2 := rfl
  have h := rcat_any u.heap.size 2 2 (fun i => if i = 0 then p1 else p2) (fun i => if i = 0 then c1 else c2) (fun i => if i = 0 then L1 else L2) _ hsz (fun i hi => by
    have hi2 : i = 0 ∨ i = 1 := by omega
    rcases hi2 with rfl | rfl
    · exact ⟨by go_simp, SLAt.low h1 hb⟩
    · exact ⟨by go_simp, SLAt.low h2 hb⟩) (by decide) (by rw [he]; exact hz)
  rw [he] at h
  exact h
theorem cat_three (p1 p2 p3 : Option Addr) (c1 c2 c3 : Nat) (L1 L2 L3 : List ByteArray) (u : World) (t : TypeId) (h1 : SLAt u p1 L1) (h2 : SLAt u p2 L2) (h3 : SLAt u p3 L3) (hz : (L1 ++ L2 ++ L3).length ≤ 1000000000000) :
    Calls Tryz.prog 63 #[.slice (some ⟨u.heap.size, 0, none⟩) 3 3] (u.alloc (.cells #[.slice p1 L1.length c1, .slice p2 L2.length c2, .slice p3 L3.length c3] t)) (RWPost (L1 ++ L2 ++ L3) (u.alloc (.cells #[.slice p1 L1.length c1, .slice p2 L2.length c2, .slice p3 L3.length c3] t))) := by
  have hb := below_alloc u (.cells #[.slice p1 L1.length c1, .slice p2 L2.length c2, .slice p3 L3.length c3] t)
  have hsz : u.heap.size < (u.alloc (.cells #[.slice p1 L1.length c1, .slice p2 L2.length c2, .slice p3 L3.length c3] t)).heap.size := by simp
  have he : catN (fun i => if i = 0 then L1 else if i = 1 then L2 else L3) 3 = L1 ++ L2 ++ L3 := rfl
  have h := rcat_any u.heap.size 3 3 (fun i => if i = 0 then p1 else if i = 1 then p2 else p3) (fun i => if i = 0 then c1 else if i = 1 then c2 else c3) (fun i => if i = 0 then L1 else if i = 1 then L2 else L3) _ hsz (fun i hi => by
    have hi2 : i = 0 ∨ i = 1 ∨ i = 2 := by omega
    rcases hi2 with rfl | rfl | rfl
    · exact ⟨by go_simp, SLAt.low h1 hb⟩
    · exact ⟨by go_simp, SLAt.low h2 hb⟩
    · exact ⟨by go_simp, SLAt.low h3 hb⟩) (by decide) (by rw [he]; exact hz)
  rw [he] at h
  exact h
set_option maxHeartbeats 2000000 in
theorem rw_not {d : Nat} (H : RWDoes ls d) {N : Nat → Prop} (e : Ex) (w : World) (hE : Env ls w) (hA : ExIn N w (ExAt N w d) e) (hV : FineV (vE d) e) (hz : (wOf (wT d) e).length ≤ 100000000000) (hk : e.k = 3) :
    Calls Tryz.prog 31 #[exV e] w (RWPost (wOf (wT d) e) w) := by
  have HL := Lib.hid (wOf_not (T := wT d) hk)
  have hzz : (argT (wT d) e 0).length + 1 ≤ 100000000000 := by rw [wOf_not hk] at hz; simp only [List.length_append, List.length_cons, List.length_nil] at hz; omega
  have h1 : e.args.length = 1 := by rw [hV.argn, hk]; rfl
  have hva : vE d (eAt e.args 0) = true := hV.fine.args _ (eAt_mem (by omega))
  have HX1 := Lib.hid (ExB.new w e 27)
  have HB1 := Lib.hid (below_alloc w (.cells #[.int .i64 e.k, .int .i64 e.op, .bool e.no, .int .i64 e.vk, .int .i64 e.vi, .string e.vt, .string e.tb, .string e.nm, .slice e.pa e.args.length e.ca, .slice e.ps e.sub.length e.cs] 27))
  have HG := Lib.hid (fun v hE (h : LAt N v (ExAt N v d) e.pa e.args) => rarg_any H (N := N) e 0 v hE h (by omega) (by decide) hva (by omega))
  have HA1 := Lib.hid (hA.args.low HB1.out)
  have HE1 := Lib.hid (hE.low HB1.out)
  have f1 : (e.k == 1) = false := by rw [hk]; rfl
  have f2 : (e.k == 2) = false := by rw [hk]; rfl
  have f3 : (e.k == 3) = true := by rw [hk]; rfl
  clear hk hz hA hE hV hva h1
  generalize argT (wT d) e 0 = A at *
  unfold exV at HG ⊢
  go_enter Tryz.func31, Tryz.ntmps31
  go_upto_region 1 with (fail)
  generalize World.alloc _ _ = u1 at *
  obtain ⟨xl, x0, x1, x2, x3, x4, x5, x6, x7, x8, x9, xf⟩ := HX1.out
  have hb2 := below_alloc u1 (.cells #[.string ⟨#[78, 79, 84]⟩] 9)
  have HB2 := Lib.hid (below_next HB1.out hb2)
  have HX2 := Lib.hid (HX1.out.low hb2)
  have HG2 := Lib.hid (HG.out _ (HE1.out.low hb2) (HA1.out.low hb2))
  have HS2 := Lib.hid (sl_of (L := [⟨#[78, 79, 84]⟩]) (by simp) (cells_one u1 ⟨#[78, 79, 84]⟩ 9))
  clear hb2 HA1 HE1 HG
  go_upto_region 7 with (fail)
  clear xl x0 x1 x2 x3 x4 x5 x6 x7 x8 x9 xf
  obtain ⟨xl, x0, x1, x2, x3, x4, x5, x6, x7, x8, x9, xf⟩ := HX2.out
  go_wp2_with fail
  clear xl x0 x1 x2 x3 x4 x5 x6 x7 x8 x9 xf
  refine (HG2.out).mono ?_
  rintro e' w3 ⟨p3, c3, rfl, hs3, hb3⟩
  have HB3 := Lib.hid (below_next HB2.out hb3)
  have HS3 := Lib.hid (SLAt.low HS2.out hb3)
  have HC := Lib.hid (cat_two (some ⟨u1.heap.size, 0, none⟩) p3 1 c3 [⟨#[78, 79, 84]⟩] A w3 47 (SLAt.low HS2.out hb3) hs3 (by simp only [List.length_append, List.length_cons, List.length_nil]; omega))
  clear hs3 hb3 HG2 HS2 HX1 HX2
  go_wp2_with fail
  refine (HC.out).mono ?_
  rintro e' w4 ⟨p4, c4, rfl, hs4, hb4⟩
  have HB4 := Lib.hid (below_next (below_next HB3.out (below_alloc _ _)) hb4)
  have HS4 := Lib.hid hs4
  clear hs4 hb4
  go_wp2_with fail
  go_ret
  rw [HL.out]
  exact ⟨p4, c4, rfl, HS4.out, HB4.out⟩
set_option maxHeartbeats 2000000 in
theorem rw_neg {d : Nat} (H : RWDoes ls d) {N : Nat → Prop} (e : Ex) (w : World) (hE : Env ls w) (hA : ExIn N w (ExAt N w d) e) (hV : FineV (vE d) e) (hz : (wOf (wT d) e).length ≤ 100000000000) (hk : e.k = 4) :
    Calls Tryz.prog 31 #[exV e] w (RWPost (wOf (wT d) e) w) := by
  have HL := Lib.hid (wOf_neg (T := wT d) hk)
  have hzz : (argT (wT d) e 0).length + 1 ≤ 100000000000 := by rw [wOf_neg hk] at hz; simp only [List.length_append, List.length_cons, List.length_nil] at hz; omega
  have h1 : e.args.length = 1 := by rw [hV.argn, hk]; rfl
  have hva : vE d (eAt e.args 0) = true := hV.fine.args _ (eAt_mem (by omega))
  have HX1 := Lib.hid (ExB.new w e 27)
  have HB1 := Lib.hid (below_alloc w (.cells #[.int .i64 e.k, .int .i64 e.op, .bool e.no, .int .i64 e.vk, .int .i64 e.vi, .string e.vt, .string e.tb, .string e.nm, .slice e.pa e.args.length e.ca, .slice e.ps e.sub.length e.cs] 27))
  have HG := Lib.hid (fun v hE (h : LAt N v (ExAt N v d) e.pa e.args) => rarg_any H (N := N) e 0 v hE h (by omega) (by decide) hva (by omega))
  have HA1 := Lib.hid (hA.args.low HB1.out)
  have HE1 := Lib.hid (hE.low HB1.out)
  have f1 : (e.k == 1) = false := by rw [hk]; rfl
  have f2 : (e.k == 2) = false := by rw [hk]; rfl
  have f3 : (e.k == 3) = false := by rw [hk]; rfl
  have f4 : (e.k == 4) = true := by rw [hk]; rfl
  clear hk hz hA hE hV hva h1
  generalize argT (wT d) e 0 = A at *
  unfold exV at HG ⊢
  go_enter Tryz.func31, Tryz.ntmps31
  go_upto_region 1 with (fail)
  generalize World.alloc _ _ = u1 at *
  obtain ⟨xl, x0, x1, x2, x3, x4, x5, x6, x7, x8, x9, xf⟩ := HX1.out
  have hb2 := below_alloc u1 (.cells #[.string ⟨#[45]⟩] 9)
  have HB2 := Lib.hid (below_next HB1.out hb2)
  have HX2 := Lib.hid (HX1.out.low hb2)
  have HG2 := Lib.hid (HG.out _ (HE1.out.low hb2) (HA1.out.low hb2))
  have HS2 := Lib.hid (sl_of (L := [⟨#[45]⟩]) (by simp) (cells_one u1 ⟨#[45]⟩ 9))
  clear hb2 HA1 HE1 HG
  go_upto_region 9 with (fail)
  clear xl x0 x1 x2 x3 x4 x5 x6 x7 x8 x9 xf
  obtain ⟨xl, x0, x1, x2, x3, x4, x5, x6, x7, x8, x9, xf⟩ := HX2.out
  go_wp2_with fail
  clear xl x0 x1 x2 x3 x4 x5 x6 x7 x8 x9 xf
  refine (HG2.out).mono ?_
  rintro e' w3 ⟨p3, c3, rfl, hs3, hb3⟩
  have HB3 := Lib.hid (below_next HB2.out hb3)
  have HS3 := Lib.hid (SLAt.low HS2.out hb3)
  have HC := Lib.hid (cat_two (some ⟨u1.heap.size, 0, none⟩) p3 1 c3 [⟨#[45]⟩] A w3 47 (SLAt.low HS2.out hb3) hs3 (by simp only [List.length_append, List.length_cons, List.length_nil]; omega))
  clear hs3 hb3 HG2 HS2 HX1 HX2
  go_wp2_with fail
  refine (HC.out).mono ?_
  rintro e' w4 ⟨p4, c4, rfl, hs4, hb4⟩
  have HB4 := Lib.hid (below_next (below_next HB3.out (below_alloc _ _)) hb4)
  have HS4 := Lib.hid hs4
  clear hs4 hb4
  go_wp2_with fail
  go_ret
  rw [HL.out]
  exact ⟨p4, c4, rfl, HS4.out, HB4.out⟩
set_option maxHeartbeats 2000000 in
theorem rw_col {d : Nat} (_H : RWDoes ls d) {N : Nat → Prop} (e : Ex) (w : World) (_hE : Env ls w) (_hA : ExIn N w (ExAt N w d) e) (_hV : FineV (vE d) e) (_hz : (wOf (wT d) e).length ≤ 100000000000) (hk : e.k = 2) :
    Calls Tryz.prog 31 #[exV e] w (RWPost (wOf (wT d) e) w) := by
  have HL := Lib.hid (wOf_col (T := wT d) hk)
  have HX1 := Lib.hid (ExB.new w e 27)
  have HB1 := Lib.hid (below_alloc w (.cells #[.int .i64 e.k, .int .i64 e.op, .bool e.no, .int .i64 e.vk, .int .i64 e.vi, .string e.vt, .string e.tb, .string e.nm, .slice e.pa e.args.length e.ca, .slice e.ps e.sub.length e.cs] 27))
  have HN := Lib.hid (rname_any e)
  have f1 : (e.k == 1) = false := by rw [hk]; rfl
  have f2 : (e.k == 2) = true := by rw [hk]; rfl
  clear hk _hz _hA _hE _hV _H
  unfold exV at HN ⊢
  go_enter Tryz.func31, Tryz.ntmps31
  go_upto_region 1 with (fail)
  generalize World.alloc _ _ = u1 at *
  obtain ⟨xl, x0, x1, x2, x3, x4, x5, x6, x7, x8, x9, xf⟩ := HX1.out
  go_wp2_with fail
  refine (HN.out _).mono ?_
  rintro e' w4 ⟨p4, c4, rfl, hs4, hb4⟩
  have HB4 := Lib.hid (below_next HB1.out hb4)
  have HS4 := Lib.hid hs4
  clear hs4 hb4
  go_wp2_with fail
  go_ret
  rw [HL.out]
  exact ⟨p4, c4, rfl, HS4.out, HB4.out⟩
set_option maxHeartbeats 2000000 in
theorem rw_lit {d : Nat} (_H : RWDoes ls d) {N : Nat → Prop} (e : Ex) (w : World) (hE : Env ls w) (hA : ExIn N w (ExAt N w d) e) (_hV : FineV (vE d) e) (_hz : (wOf (wT d) e).length ≤ 100000000000) (hk : e.k = 1) (hN : 5 ∈ ls) (hP : 7 ∈ ls) :
    Calls Tryz.prog 31 #[exV e] w (RWPost (wOf (wT d) e) w) := by
  have HL := Lib.hid (wOf_lit (T := wT d) hk)
  have HX1 := Lib.hid (ExB.new w e 27)
  have HB1 := Lib.hid (below_alloc w (.cells #[.int .i64 e.k, .int .i64 e.op, .bool e.no, .int .i64 e.vk, .int .i64 e.vi, .string e.vt, .string e.tb, .string e.nm, .slice e.pa e.args.length e.ca, .slice e.ps e.sub.length e.cs] 27))
  have HF := Lib.hid (fun v hE => rformat_any (ls := ls) e.vk e.vi e.vt v hE hN hP hA.vt hA.vi.1 hA.vi.2)
  have HE1 := Lib.hid (hE.low HB1.out)
  have f1 : (e.k == 1) = true := by rw [hk]; rfl
  clear hk _hz hA hE _hV _H hN hP
  unfold exV
  go_enter Tryz.func31, Tryz.ntmps31
  go_upto_region 1 with (fail)
  generalize World.alloc _ _ = u1 at *
  obtain ⟨xl, x0, x1, x2, x3, x4, x5, x6, x7, x8, x9, xf⟩ := HX1.out
  go_wp2_with fail
  refine (HF.out _ HE1.out).mono ?_
  rintro e' w4 ⟨rfl, hb4⟩
  have HB4 := Lib.hid (below_next HB1.out hb4)
  clear hb4
  go_wp2_with fail
  go_ret
  rw [HL.out]
  exact ⟨_, _, rfl, sl_of (by simp) (cells_one w4 _ _), below_new HB4.out _⟩
set_option maxHeartbeats 2000000 in
theorem rw_null0 {d : Nat} (H : RWDoes ls d) {N : Nat → Prop} (e : Ex) (w : World) (hE : Env ls w) (hA : ExIn N w (ExAt N w d) e) (hV : FineV (vE d) e) (hz : (wOf (wT d) e).length ≤ 100000000000) (hk : e.k = 6) (hno : e.no = false) :
    Calls Tryz.prog 31 #[exV e] w (RWPost (wOf (wT d) e) w) := by
  have HL := Lib.hid (show wOf (wT d) e = argT (wT d) e 0 ++ [⟨#[73, 83]⟩, ⟨#[78, 85, 76, 76]⟩] by rw [wOf_null hk]; unfold nullT; rw [hno]; rfl)
  have hzz : (argT (wT d) e 0).length + 2 ≤ 100000000000 := by rw [HL.out] at hz; simp only [List.length_append, List.length_cons, List.length_nil] at hz; omega
  have h1 : e.args.length = 1 := by rw [hV.argn, hk]; rfl
  have hva : vE d (eAt e.args 0) = true := hV.fine.args _ (eAt_mem (by omega))
  have HX1 := Lib.hid (ExB.new w e 27)
  have HB1 := Lib.hid (below_alloc w (.cells #[.int .i64 e.k, .int .i64 e.op, .bool e.no, .int .i64 e.vk, .int .i64 e.vi, .string e.vt, .string e.tb, .string e.nm, .slice e.pa e.args.length e.ca, .slice e.ps e.sub.length e.cs] 27))
  have HG := Lib.hid (fun v hE (h : LAt N v (ExAt N v d) e.pa e.args) => rarg_any H (N := N) e 0 v hE h (by omega) (by decide) hva (by omega))
  have HA1 := Lib.hid (hA.args.low HB1.out)
  have HE1 := Lib.hid (hE.low HB1.out)
  have HNO := Lib.hid hno
  have f1 : (e.k == 1) = false := by rw [hk]; rfl
  have f2 : (e.k == 2) = false := by rw [hk]; rfl
  have f3 : (e.k == 3) = false := by rw [hk]; rfl
  have f4 : (e.k == 4) = false := by rw [hk]; rfl
  have f5 : (e.k == 5) = false := by rw [hk]; rfl
  have f6 : (e.k == 6) = true := by rw [hk]; rfl
  clear hk hz hA hE hV hva h1 hno
  generalize argT (wT d) e 0 = A at *
  unfold exV at HG ⊢
  rw [HNO.out] at HG
  go_enter Tryz.func31, Tryz.ntmps31
  go_upto_region 1 with (fail)
  generalize World.alloc _ _ = u1 at *
  have HG1 := Lib.hid (HG.out _ HE1.out HA1.out)
  clear HG HA1 HE1
  obtain ⟨xl, x0, x1, x2, x3, x4, x5, x6, x7, x8, x9, xf⟩ := HX1.out
  rw [HNO.out] at x2
  go_wp2_with fail
  clear xl x0 x1 x2 x3 x4 x5 x6 x7 x8 x9 xf
  refine (HG1.out).mono ?_
  rintro e' w3 ⟨p3, c3, rfl, hs3, hb3⟩
  have HB3 := Lib.hid (below_next HB1.out hb3)
  have hb4 := below_alloc w3 (.cells #[.string ⟨#[73, 83]⟩, .string ⟨#[78, 85, 76, 76]⟩] 9)
  have HB4 := Lib.hid (below_next HB3.out hb4)
  have hc := (cat_two p3 (some ⟨w3.heap.size, 0, none⟩) c3 2 A [⟨#[73, 83]⟩, ⟨#[78, 85, 76, 76]⟩] (w3.alloc (.cells #[.string ⟨#[73, 83]⟩, .string ⟨#[78, 85, 76, 76]⟩] 9)) 47 (SLAt.low hs3 hb4) (sl_of (by simp) (cells_two w3 ⟨#[73, 83]⟩ ⟨#[78, 85, 76, 76]⟩ 9)) (by simp only [List.length_append, List.length_cons, List.length_nil]; omega))
  rw [size_alloc] at hc
  have HC := Lib.hid hc
  clear hs3 hb3 HG1 HX1 hb4 hc
  go_wp2_with fail
  refine (HC.out).mono ?_
  rintro e' w4 ⟨p4, c4, rfl, hs4, hb5⟩
  have HB5 := Lib.hid (below_next (below_next HB4.out (below_alloc _ _)) hb5)
  have HS4 := Lib.hid hs4
  clear hs4 hb5
  go_wp2_with fail
  go_ret
  rw [HL.out]
  exact ⟨p4, c4, by rw [List.length_append]; rfl, HS4.out, HB5.out⟩
set_option maxHeartbeats 2000000 in
theorem rw_null1 {d : Nat} (H : RWDoes ls d) {N : Nat → Prop} (e : Ex) (w : World) (hE : Env ls w) (hA : ExIn N w (ExAt N w d) e) (hV : FineV (vE d) e) (hz : (wOf (wT d) e).length ≤ 100000000000) (hk : e.k = 6) (hno : e.no = true) :
    Calls Tryz.prog 31 #[exV e] w (RWPost (wOf (wT d) e) w) := by
  have HL := Lib.hid (show wOf (wT d) e = argT (wT d) e 0 ++ [⟨#[73, 83]⟩, ⟨#[78, 79, 84]⟩, ⟨#[78, 85, 76, 76]⟩] by rw [wOf_null hk]; unfold nullT; rw [hno]; rfl)
  have hzz : (argT (wT d) e 0).length + 3 ≤ 100000000000 := by rw [HL.out] at hz; simp only [List.length_append, List.length_cons, List.length_nil] at hz; omega
  have h1 : e.args.length = 1 := by rw [hV.argn, hk]; rfl
  have hva : vE d (eAt e.args 0) = true := hV.fine.args _ (eAt_mem (by omega))
  have HX1 := Lib.hid (ExB.new w e 27)
  have HB1 := Lib.hid (below_alloc w (.cells #[.int .i64 e.k, .int .i64 e.op, .bool e.no, .int .i64 e.vk, .int .i64 e.vi, .string e.vt, .string e.tb, .string e.nm, .slice e.pa e.args.length e.ca, .slice e.ps e.sub.length e.cs] 27))
  have HG := Lib.hid (fun v hE (h : LAt N v (ExAt N v d) e.pa e.args) => rarg_any H (N := N) e 0 v hE h (by omega) (by decide) hva (by omega))
  have HA1 := Lib.hid (hA.args.low HB1.out)
  have HE1 := Lib.hid (hE.low HB1.out)
  have HNO := Lib.hid hno
  have f1 : (e.k == 1) = false := by rw [hk]; rfl
  have f2 : (e.k == 2) = false := by rw [hk]; rfl
  have f3 : (e.k == 3) = false := by rw [hk]; rfl
  have f4 : (e.k == 4) = false := by rw [hk]; rfl
  have f5 : (e.k == 5) = false := by rw [hk]; rfl
  have f6 : (e.k == 6) = true := by rw [hk]; rfl
  clear hk hz hA hE hV hva h1 hno
  generalize argT (wT d) e 0 = A at *
  unfold exV at HG ⊢
  rw [HNO.out] at HG
  go_enter Tryz.func31, Tryz.ntmps31
  go_upto_region 1 with (fail)
  generalize World.alloc _ _ = u1 at *
  have HG1 := Lib.hid (HG.out _ HE1.out HA1.out)
  clear HG HA1 HE1
  obtain ⟨xl, x0, x1, x2, x3, x4, x5, x6, x7, x8, x9, xf⟩ := HX1.out
  rw [HNO.out] at x2
  go_wp2_with fail
  clear xl x0 x1 x2 x3 x4 x5 x6 x7 x8 x9 xf
  refine (HG1.out).mono ?_
  rintro e' w3 ⟨p3, c3, rfl, hs3, hb3⟩
  have HB3 := Lib.hid (below_next HB1.out hb3)
  have hb4 := below_alloc w3 (.cells #[.string ⟨#[73, 83]⟩, .string ⟨#[78, 79, 84]⟩, .string ⟨#[78, 85, 76, 76]⟩] 9)
  have HB4 := Lib.hid (below_next HB3.out hb4)
  have hc := (cat_two p3 (some ⟨w3.heap.size, 0, none⟩) c3 3 A [⟨#[73, 83]⟩, ⟨#[78, 79, 84]⟩, ⟨#[78, 85, 76, 76]⟩] (w3.alloc (.cells #[.string ⟨#[73, 83]⟩, .string ⟨#[78, 79, 84]⟩, .string ⟨#[78, 85, 76, 76]⟩] 9)) 47 (SLAt.low hs3 hb4) (sl_of (by simp) (cells_three w3 ⟨#[73, 83]⟩ ⟨#[78, 79, 84]⟩ ⟨#[78, 85, 76, 76]⟩ 9)) (by simp only [List.length_append, List.length_cons, List.length_nil]; omega))
  rw [size_alloc] at hc
  have HC := Lib.hid hc
  clear hs3 hb3 HG1 HX1 hb4 hc
  go_wp2_with fail
  refine (HC.out).mono ?_
  rintro e' w4 ⟨p4, c4, rfl, hs4, hb5⟩
  have HB5 := Lib.hid (below_next (below_next HB4.out (below_alloc _ _)) hb5)
  have HS4 := Lib.hid hs4
  clear hs4 hb5
  go_wp2_with fail
  go_ret
  rw [HL.out]
  exact ⟨p4, c4, by rw [List.length_append]; rfl, HS4.out, HB5.out⟩
theorem cells_exists (u : World) (t : TypeId) : ∀ j, (h : j < ([⟨#[69, 88, 73, 83, 84, 83]⟩, ⟨#[40]⟩, ⟨#[83, 69, 76, 69, 67, 84]⟩, ⟨#[42]⟩] : List ByteArray).length) → (u.alloc (.cells #[.string ⟨#[69, 88, 73, 83, 84, 83]⟩, .string ⟨#[40]⟩, .string ⟨#[83, 69, 76, 69, 67, 84]⟩, .string ⟨#[42]⟩] t)).cell? ⟨u.heap.size, j, none⟩ = some (.string ([⟨#[69, 88, 73, 83, 84, 83]⟩, ⟨#[40]⟩, ⟨#[83, 69, 76, 69, 67, 84]⟩, ⟨#[42]⟩] : List ByteArray)[j]) := by
  intro j h
  have h : j < 4 := h
  obtain rfl | rfl | rfl | rfl : j = 0 ∨ j = 1 ∨ j = 2 ∨ j = 3 := by omega
  all_goals go_simp
set_option maxHeartbeats 2000000 in
theorem rw_exists {d : Nat} (H : RWDoes ls d) {N : Nat → Prop} (e : Ex) (w : World) (hE : Env ls w) (hA : ExIn N w (ExAt N w d) e) (hV : FineV (vE d) e) (hz : (wOf (wT d) e).length ≤ 100000000000) (hk : e.k = 8) :
    Calls Tryz.prog 31 #[exV e] w (RWPost (wOf (wT d) e) w) := by
  have HL := Lib.hid (show wOf (wT d) e = [⟨#[69, 88, 73, 83, 84, 83]⟩, ⟨#[40]⟩, ⟨#[83, 69, 76, 69, 67, 84]⟩, ⟨#[42]⟩] ++ fromT (wT d) (qAt e.sub 0) ++ [⟨#[41]⟩] by rw [wOf_sub (by omega)]; unfold subT headT; rw [hk]; rfl)
  have hzz : (fromT (wT d) (qAt e.sub 0)).length + 5 ≤ 100000000000 := by rw [HL.out] at hz; simp only [List.length_append, List.length_cons, List.length_nil] at hz; omega
  have h1 : e.sub.length = 1 := by rw [hV.subn, hk]; rfl
  have hQ := quB_fine (hV.fine.sub (qAt e.sub 0) (qAt_mem (by omega)))
  obtain ⟨g, o, hps, hg, -, hC, hY⟩ := hA.sub 0 (by omega)
  have HX1 := Lib.hid (ExB.new w e 27)
  have HB1 := Lib.hid (below_alloc w (.cells #[.int .i64 e.k, .int .i64 e.op, .bool e.no, .int .i64 e.vk, .int .i64 e.vi, .string e.vt, .string e.tb, .string e.nm, .slice e.pa e.args.length e.ca, .slice e.ps e.sub.length e.cs] 27))
  have hb2 := below_next HB1.out (below_alloc (w.alloc (.cells #[.int .i64 e.k, .int .i64 e.op, .bool e.no, .int .i64 e.vk, .int .i64 e.vi, .string e.vt, .string e.tb, .string e.nm, .slice e.pa e.args.length e.ca, .slice e.ps e.sub.length e.cs] 27)) (.cells #[.string ⟨#[69, 88, 73, 83, 84, 83]⟩, .string ⟨#[40]⟩, .string ⟨#[83, 69, 76, 69, 67, 84]⟩, .string ⟨#[42]⟩] 9))
  have HG := Lib.hid (fun v hE h => rfrom_any H (N := N) (qAt e.sub 0) v hE h hQ.wh hQ.allW (by omega))
  have HQ2 := Lib.hid (hY.low hb2)
  have HE2 := Lib.hid (hE.low hb2)
  have hc2 := hC.keep (hb2.block g hg)
  rw [Nat.zero_mul, Nat.add_zero] at hc2
  have HC2 := Lib.hid hc2
  have HPS := Lib.hid hps
  have HB2 := Lib.hid hb2
  have hgs := Nat.lt_of_lt_of_le hg hb2.size
  have f1 : (e.k == 1) = false := by rw [hk]; rfl
  have f2 : (e.k == 2) = false := by rw [hk]; rfl
  have f3 : (e.k == 3) = false := by rw [hk]; rfl
  have f4 : (e.k == 4) = false := by rw [hk]; rfl
  have f5 : (e.k == 5) = false := by rw [hk]; rfl
  have f6 : (e.k == 6) = false := by rw [hk]; rfl
  have f7 : (e.k == 7) = false := by rw [hk]; rfl
  have f8 : (e.k == 8) = true := by rw [hk]; rfl
  have hsI : (0 : Int) < e.sub.length := by omega
  have hsN : 0 < e.sub.length := by omega
  clear hk hz hA hE hV h1 hQ hps hC hY hb2 hc2
  generalize fromT (wT d) (qAt e.sub 0) = A at *
  generalize qAt e.sub 0 = q at *
  unfold quV at HG
  unfold exV
  go_enter Tryz.func31, Tryz.ntmps31
  go_upto_region 1 with (fail)
  generalize World.alloc w _ = u1 at *
  have HX2 := Lib.hid (HX1.out.low (below_alloc u1 (.cells #[.string ⟨#[69, 88, 73, 83, 84, 83]⟩, .string ⟨#[40]⟩, .string ⟨#[83, 69, 76, 69, 67, 84]⟩, .string ⟨#[42]⟩] 9)))
  obtain ⟨xl, x0, x1, x2, x3, x4, x5, x6, x7, x8, x9, xf⟩ := HX1.out
  rw [HPS.out] at x9
  go_upto_region 19 with (fail)
  clear xl x0 x1 x2 x3 x4 x5 x6 x7 x8 x9 xf
  obtain ⟨xl, x0, x1, x2, x3, x4, x5, x6, x7, x8, x9, xf⟩ := HX2.out
  rw [HPS.out] at x9
  obtain ⟨c0, c1, d2, c3⟩ := HC2.out
  go_wp2_with fail
  clear xl x0 x1 x2 x3 x4 x5 x6 x7 x8 x9 xf
  clear c0 c1 d2 c3
  refine (HG.out _ HE2.out HQ2.out).mono ?_
  rintro e' w3 ⟨p3, c3, rfl, hs3, hb3⟩
  have HB3 := Lib.hid (below_next HB2.out hb3)
  have hb4 := below_alloc w3 (.cells #[.string ⟨#[41]⟩] 9)
  have HB4 := Lib.hid (below_next HB3.out hb4)
  have hc := cat_three (some ⟨u1.heap.size, 0, none⟩) p3 (some ⟨w3.heap.size, 0, none⟩) 4 c3 1 [⟨#[69, 88, 73, 83, 84, 83]⟩, ⟨#[40]⟩, ⟨#[83, 69, 76, 69, 67, 84]⟩, ⟨#[42]⟩] A [⟨#[41]⟩] (w3.alloc (.cells #[.string ⟨#[41]⟩] 9)) 47 (SLAt.low (SLAt.low (sl_of (L := [⟨#[69, 88, 73, 83, 84, 83]⟩, ⟨#[40]⟩, ⟨#[83, 69, 76, 69, 67, 84]⟩, ⟨#[42]⟩]) (by simp) (cells_exists u1 9)) hb3) hb4) (SLAt.low hs3 hb4) (sl_of (by simp) (cells_one w3 ⟨#[41]⟩ 9)) (by simp only [List.length_append, List.length_cons, List.length_nil]; omega)
  rw [size_alloc] at hc
  have HC := Lib.hid hc
  clear hs3 hb3 HG HX1 HX2 hb4 hc HC2 HQ2 HE2
  go_wp2_with fail
  refine (HC.out).mono ?_
  rintro e' w4 ⟨p4, c4, rfl, hs4, hb5⟩
  have HB5 := Lib.hid (below_next (below_next HB4.out (below_alloc _ _)) hb5)
  have HS4 := Lib.hid hs4
  clear hs4 hb5
  go_wp2_with fail
  go_ret
  rw [HL.out]
  have hlen : (([⟨#[69, 88, 73, 83, 84, 83]⟩, ⟨#[40]⟩, ⟨#[83, 69, 76, 69, 67, 84]⟩, ⟨#[42]⟩] : List ByteArray) ++ A ++ [(⟨#[41]⟩ : ByteArray)]).length = A.length + 1 + 1 + 1 + 1 + 1 := by simp only [List.length_append, List.length_cons, List.length_nil]; omega
  exact ⟨p4, c4, by rw [hlen]; rfl, HS4.out, HB5.out⟩
theorem cells_count (u : World) (t : TypeId) : ∀ j, (h : j < ([⟨#[40]⟩, ⟨#[83, 69, 76, 69, 67, 84]⟩, ⟨#[67, 79, 85, 78, 84]⟩, ⟨#[40]⟩, ⟨#[42]⟩, ⟨#[41]⟩] : List ByteArray).length) → (u.alloc (.cells #[.string ⟨#[40]⟩, .string ⟨#[83, 69, 76, 69, 67, 84]⟩, .string ⟨#[67, 79, 85, 78, 84]⟩, .string ⟨#[40]⟩, .string ⟨#[42]⟩, .string ⟨#[41]⟩] t)).cell? ⟨u.heap.size, j, none⟩ = some (.string ([⟨#[40]⟩, ⟨#[83, 69, 76, 69, 67, 84]⟩, ⟨#[67, 79, 85, 78, 84]⟩, ⟨#[40]⟩, ⟨#[42]⟩, ⟨#[41]⟩] : List ByteArray)[j]) := by
  intro j h
  have h : j < 6 := h
  obtain rfl | rfl | rfl | rfl | rfl | rfl : j = 0 ∨ j = 1 ∨ j = 2 ∨ j = 3 ∨ j = 4 ∨ j = 5 := by omega
  all_goals go_simp
set_option maxHeartbeats 2000000 in
theorem rw_count {d : Nat} (H : RWDoes ls d) {N : Nat → Prop} (e : Ex) (w : World) (hE : Env ls w) (hA : ExIn N w (ExAt N w d) e) (hV : FineV (vE d) e) (hz : (wOf (wT d) e).length ≤ 100000000000) (hk : e.k = 9) :
    Calls Tryz.prog 31 #[exV e] w (RWPost (wOf (wT d) e) w) := by
  have HL := Lib.hid (show wOf (wT d) e = [⟨#[40]⟩, ⟨#[83, 69, 76, 69, 67, 84]⟩, ⟨#[67, 79, 85, 78, 84]⟩, ⟨#[40]⟩, ⟨#[42]⟩, ⟨#[41]⟩] ++ fromT (wT d) (qAt e.sub 0) ++ [⟨#[41]⟩] by rw [wOf_sub (by omega)]; unfold subT headT; rw [hk]; rfl)
  have hzz : (fromT (wT d) (qAt e.sub 0)).length + 7 ≤ 100000000000 := by rw [HL.out] at hz; simp only [List.length_append, List.length_cons, List.length_nil] at hz; omega
  have h1 : e.sub.length = 1 := by rw [hV.subn, hk]; rfl
  have hQ := quB_fine (hV.fine.sub (qAt e.sub 0) (qAt_mem (by omega)))
  obtain ⟨g, o, hps, hg, -, hC, hY⟩ := hA.sub 0 (by omega)
  have HX1 := Lib.hid (ExB.new w e 27)
  have HB1 := Lib.hid (below_alloc w (.cells #[.int .i64 e.k, .int .i64 e.op, .bool e.no, .int .i64 e.vk, .int .i64 e.vi, .string e.vt, .string e.tb, .string e.nm, .slice e.pa e.args.length e.ca, .slice e.ps e.sub.length e.cs] 27))
  have hb2 := below_next HB1.out (below_alloc (w.alloc (.cells #[.int .i64 e.k, .int .i64 e.op, .bool e.no, .int .i64 e.vk, .int .i64 e.vi, .string e.vt, .string e.tb, .string e.nm, .slice e.pa e.args.length e.ca, .slice e.ps e.sub.length e.cs] 27)) (.cells #[.string ⟨#[40]⟩, .string ⟨#[83, 69, 76, 69, 67, 84]⟩, .string ⟨#[67, 79, 85, 78, 84]⟩, .string ⟨#[40]⟩, .string ⟨#[42]⟩, .string ⟨#[41]⟩] 9))
  have HG := Lib.hid (fun v hE h => rfrom_any H (N := N) (qAt e.sub 0) v hE h hQ.wh hQ.allW (by omega))
  have HQ2 := Lib.hid (hY.low hb2)
  have HE2 := Lib.hid (hE.low hb2)
  have hc2 := hC.keep (hb2.block g hg)
  rw [Nat.zero_mul, Nat.add_zero] at hc2
  have HC2 := Lib.hid hc2
  have HPS := Lib.hid hps
  have HB2 := Lib.hid hb2
  have hgs := Nat.lt_of_lt_of_le hg hb2.size
  have f1 : (e.k == 1) = false := by rw [hk]; rfl
  have f2 : (e.k == 2) = false := by rw [hk]; rfl
  have f3 : (e.k == 3) = false := by rw [hk]; rfl
  have f4 : (e.k == 4) = false := by rw [hk]; rfl
  have f5 : (e.k == 5) = false := by rw [hk]; rfl
  have f6 : (e.k == 6) = false := by rw [hk]; rfl
  have f7 : (e.k == 7) = false := by rw [hk]; rfl
  have f8 : (e.k == 8) = false := by rw [hk]; rfl
  have f9 : (e.k == 9) = true := by rw [hk]; rfl
  have hsI : (0 : Int) < e.sub.length := by omega
  have hsN : 0 < e.sub.length := by omega
  clear hk hz hA hE hV h1 hQ hps hC hY hb2 hc2
  generalize fromT (wT d) (qAt e.sub 0) = A at *
  generalize qAt e.sub 0 = q at *
  unfold quV at HG
  unfold exV
  go_enter Tryz.func31, Tryz.ntmps31
  go_upto_region 1 with (fail)
  generalize World.alloc w _ = u1 at *
  have HX2 := Lib.hid (HX1.out.low (below_alloc u1 (.cells #[.string ⟨#[40]⟩, .string ⟨#[83, 69, 76, 69, 67, 84]⟩, .string ⟨#[67, 79, 85, 78, 84]⟩, .string ⟨#[40]⟩, .string ⟨#[42]⟩, .string ⟨#[41]⟩] 9)))
  obtain ⟨xl, x0, x1, x2, x3, x4, x5, x6, x7, x8, x9, xf⟩ := HX1.out
  rw [HPS.out] at x9
  go_upto_region 21 with (fail)
  clear xl x0 x1 x2 x3 x4 x5 x6 x7 x8 x9 xf
  obtain ⟨xl, x0, x1, x2, x3, x4, x5, x6, x7, x8, x9, xf⟩ := HX2.out
  rw [HPS.out] at x9
  obtain ⟨c0, c1, d2, c3⟩ := HC2.out
  go_wp2_with fail
  clear xl x0 x1 x2 x3 x4 x5 x6 x7 x8 x9 xf
  clear c0 c1 d2 c3
  refine (HG.out _ HE2.out HQ2.out).mono ?_
  rintro e' w3 ⟨p3, c3, rfl, hs3, hb3⟩
  have HB3 := Lib.hid (below_next HB2.out hb3)
  have hb4 := below_alloc w3 (.cells #[.string ⟨#[41]⟩] 9)
  have HB4 := Lib.hid (below_next HB3.out hb4)
  have hc := cat_three (some ⟨u1.heap.size, 0, none⟩) p3 (some ⟨w3.heap.size, 0, none⟩) 6 c3 1 [⟨#[40]⟩, ⟨#[83, 69, 76, 69, 67, 84]⟩, ⟨#[67, 79, 85, 78, 84]⟩, ⟨#[40]⟩, ⟨#[42]⟩, ⟨#[41]⟩] A [⟨#[41]⟩] (w3.alloc (.cells #[.string ⟨#[41]⟩] 9)) 47 (SLAt.low (SLAt.low (sl_of (L := [⟨#[40]⟩, ⟨#[83, 69, 76, 69, 67, 84]⟩, ⟨#[67, 79, 85, 78, 84]⟩, ⟨#[40]⟩, ⟨#[42]⟩, ⟨#[41]⟩]) (by simp) (cells_count u1 9)) hb3) hb4) (SLAt.low hs3 hb4) (sl_of (by simp) (cells_one w3 ⟨#[41]⟩ 9)) (by simp only [List.length_append, List.length_cons, List.length_nil]; omega)
  rw [size_alloc] at hc
  have HC := Lib.hid hc
  clear hs3 hb3 HG HX1 HX2 hb4 hc HC2 HQ2 HE2
  go_wp2_with fail
  refine (HC.out).mono ?_
  rintro e' w4 ⟨p4, c4, rfl, hs4, hb5⟩
  have HB5 := Lib.hid (below_next (below_next HB4.out (below_alloc _ _)) hb5)
  have HS4 := Lib.hid hs4
  clear hs4 hb5
  go_wp2_with fail
  go_ret
  rw [HL.out]
  have hlen : (([⟨#[40]⟩, ⟨#[83, 69, 76, 69, 67, 84]⟩, ⟨#[67, 79, 85, 78, 84]⟩, ⟨#[40]⟩, ⟨#[42]⟩, ⟨#[41]⟩] : List ByteArray) ++ A ++ [(⟨#[41]⟩ : ByteArray)]).length = A.length + 1 + 1 + 1 + 1 + 1 + 1 + 1 := by simp only [List.length_append, List.length_cons, List.length_nil]; omega
  exact ⟨p4, c4, by rw [hlen]; rfl, HS4.out, HB5.out⟩
end Go.Proofs.YtlpaphgmdcpmaaaGreatDoor
/-
  words of the reference of layer 12: operators, BETWEEN, aggregates; the step.
-/
namespace Go.Proofs.YtlpaphgmdcpmaaaGreatDoor
set_option maxRecDepth 100000
open Go.RowKit
variable {ls : List Nat}

/-- A value that is a list of texts in memory. -/
def SLF (v : Value) (u : World) (L : List ByteArray) : Prop := ∃ p c, v = .slice p L.length c ∧ SLAt u p L
theorem SLF.low {v : Value} {u u2 : World} {L : List ByteArray} (h : SLF v u L) (hb : Below u.heap.size u u2) : SLF v u2 L := by
  obtain ⟨p, c, he, hs⟩ := h
  exact ⟨p, c, he, SLAt.low hs hb⟩
theorem upF_self (f : Nat → Value) (d : Nat) (v : Value) : upF f (some d) v d = v := by simp [upF]
/-- A value that is a list of lists of texts in memory. -/
def CatF (v : Value) (u : World) (n : Nat) (L : Nat → List ByteArray) : Prop := ∃ (k : Nat) (pa : Nat → Option Addr) (ca : Nat → Nat), v = .slice (some ⟨k, 0, none⟩) n n ∧ k < u.heap.size ∧ ∀ i, i < n → u.cell? ⟨k, i, none⟩ = some (.slice (pa i) (L i).length (ca i)) ∧ SLAt u (pa i) (L i)
theorem CatF.low {v : Value} {u u2 : World} {n : Nat} {L : Nat → List ByteArray} (h : CatF v u n L) (hb : Below u.heap.size u u2) : CatF v u2 n L := by
  obtain ⟨k, pa, ca, he, hk, hs⟩ := h
  refine ⟨k, pa, ca, he, Nat.lt_of_lt_of_le hk hb.size, fun i hi => ?_⟩
  obtain ⟨h1, h2⟩ := hs i hi
  exact ⟨by rw [hb.cell (by exact hk)]; exact h1, SLAt.low h2 hb⟩
theorem CatF.calls {v : Value} {u : World} {n : Nat} {L : Nat → List ByteArray} (h : CatF v u n L) (hn : n ≤ 100) (hz : (catN L n).length ≤ 1000000000000) :
    ∃ k, v = .slice (some ⟨k, 0, none⟩) n n ∧ Calls Tryz.prog 63 #[.slice (some ⟨k, 0, none⟩) n n] u (RWPost (catN L n) u) := by
  obtain ⟨k, pa, ca, he, hk, hs⟩ := h
  exact ⟨k, he, rcat_any k n n pa ca L u hk hs hn hz⟩
def L3 (A B C : List ByteArray) (i : Nat) : List ByteArray := if i = 0 then A else if i = 1 then B else C
def L5 (A B C D E : List ByteArray) (i : Nat) : List ByteArray := if i = 0 then A else if i = 1 then B else if i = 2 then C else if i = 3 then D else E
theorem catF_three (p0 p1 p2 : Option Addr) (c0 c1 c2 : Nat) (A B C : List ByteArray) (u : World) (t : TypeId) (h0 : SLAt u p0 A) (h1 : SLAt u p1 B) (h2 : SLAt u p2 C) :
    CatF (.slice (some ⟨u.heap.size, 0, none⟩) 3 3) (u.alloc (.cells #[.slice p0 A.length c0, .slice p1 B.length c1, .slice p2 C.length c2] t)) 3 (L3 A B C) := by
  have hb := below_alloc u (.cells #[.slice p0 A.length c0, .slice p1 B.length c1, .slice p2 C.length c2] t)
  refine ⟨u.heap.size, fun i => if i = 0 then p0 else if i = 1 then p1 else p2, fun i => if i = 0 then c0 else if i = 1 then c1 else c2, rfl, by simp, fun i hi => ?_⟩
  have hi2 : i = 0 ∨ i = 1 ∨ i = 2 := by omega
  rcases hi2 with rfl | rfl | rfl
  · exact ⟨by go_simp; rfl, SLAt.low h0 hb⟩
  · exact ⟨by go_simp; rfl, SLAt.low h1 hb⟩
  · exact ⟨by go_simp; rfl, SLAt.low h2 hb⟩
theorem catF_five (p0 p1 p2 p3 p4 : Option Addr) (c0 c1 c2 c3 c4 : Nat) (A B C D E : List ByteArray) (u : World) (t : TypeId) (h0 : SLAt u p0 A) (h1 : SLAt u p1 B) (h2 : SLAt u p2 C) (h3 : SLAt u p3 D) (h4 : SLAt u p4 E) :
    CatF (.slice (some ⟨u.heap.size, 0, none⟩) 5 5) (u.alloc (.cells #[.slice p0 A.length c0, .slice p1 B.length c1, .slice p2 C.length c2, .slice p3 D.length c3, .slice p4 E.length c4] t)) 5 (L5 A B C D E) := by
  have hb := below_alloc u (.cells #[.slice p0 A.length c0, .slice p1 B.length c1, .slice p2 C.length c2, .slice p3 D.length c3, .slice p4 E.length c4] t)
  refine ⟨u.heap.size, fun i => if i = 0 then p0 else if i = 1 then p1 else if i = 2 then p2 else if i = 3 then p3 else p4, fun i => if i = 0 then c0 else if i = 1 then c1 else if i = 2 then c2 else if i = 3 then c3 else c4, rfl, by simp, fun i hi => ?_⟩
  have hi2 : i = 0 ∨ i = 1 ∨ i = 2 ∨ i = 3 ∨ i = 4 := by omega
  rcases hi2 with rfl | rfl | rfl | rfl | rfl
  · exact ⟨by go_simp; rfl, SLAt.low h0 hb⟩
  · exact ⟨by go_simp; rfl, SLAt.low h1 hb⟩
  · exact ⟨by go_simp; rfl, SLAt.low h2 hb⟩
  · exact ⟨by go_simp; rfl, SLAt.low h3 hb⟩
  · exact ⟨by go_simp; rfl, SLAt.low h4 hb⟩
theorem catN3 (A B C : List ByteArray) : catN (L3 A B C) 3 = A ++ B ++ C := rfl
theorem catN5 (A B C D E : List ByteArray) : catN (L5 A B C D E) 5 = A ++ B ++ C ++ D ++ E := rfl
theorem slf_one (u : World) (s : ByteArray) (t : TypeId) : SLF (.slice (some ⟨u.heap.size, 0, none⟩) 1 1) (u.alloc (.cells #[.string s] t)) [s] := ⟨_, _, rfl, sl_of (by simp) (cells_one u s t)⟩
theorem slf_four (u : World) (s r x y : ByteArray) (t : TypeId) : SLF (.slice (some ⟨u.heap.size, 0, none⟩) 4 4) (u.alloc (.cells #[.string s, .string r, .string x, .string y] t)) [s, r, x, y] := by
  refine ⟨_, _, rfl, sl_of (by simp) fun j h => ?_⟩
  have h : j < 4 := h
  obtain rfl | rfl | rfl | rfl : j = 0 ∨ j = 1 ∨ j = 2 ∨ j = 3 := by omega
  all_goals go_simp
set_option maxHeartbeats 4000000 in
theorem rw_bin {d : Nat} (H : RWDoes ls d) {N : Nat → Prop} (e : Ex) (w : World) (hE : Env ls w) (hA : ExIn N w (ExAt N w d) e) (hV : FineV (vE d) e) (hz : (wOf (wT d) e).length ≤ 100000000000) (hk : e.k = 5) (hr : 2 ∈ ls) :
    Calls Tryz.prog 31 #[exV e] w (RWPost (wOf (wT d) e) w) := by
  have HL := Lib.hid (wOf_bin (T := wT d) hk)
  have hop := hV.fine.op5 hk
  obtain ⟨j, hj⟩ : ∃ j : Nat, e.op = j := ⟨e.op.toNat, by omega⟩
  have hj14 : j < 14 := by omega
  have hjI : (j : Int) < 14 := by omega
  have hzz : (argT (wT d) e 0).length + 1 + (argT (wT d) e 1).length ≤ 100000000000 := by rw [wOf_bin hk] at hz; simp only [List.length_append, List.length_cons, List.length_nil] at hz; omega
  have h2 : e.args.length = 2 := by rw [hV.argn, hk]; rfl
  have hv0 : vE d (eAt e.args 0) = true := hV.fine.args _ (eAt_mem (by omega))
  have hv1 : vE d (eAt e.args 1) = true := hV.fine.args _ (eAt_mem (by omega))
  have HX1 := Lib.hid (ExB.new w e 27)
  have HB1 := Lib.hid (below_alloc w (.cells #[.int .i64 e.k, .int .i64 e.op, .bool e.no, .int .i64 e.vk, .int .i64 e.vi, .string e.vt, .string e.tb, .string e.nm, .slice e.pa e.args.length e.ca, .slice e.ps e.sub.length e.cs] 27))
  have HG0 := Lib.hid (fun v hE (h : LAt N v (ExAt N v d) e.pa e.args) => rarg_any H (N := N) e 0 v hE h (by omega) (by decide) hv0 (by omega))
  have HG1 := Lib.hid (fun v hE (h : LAt N v (ExAt N v d) e.pa e.args) => rarg_any H (N := N) e 1 v hE h (by omega) (by decide) hv1 (by omega))
  have HA1 := Lib.hid (hA.args.low HB1.out)
  have HE1 := Lib.hid (hE.low HB1.out)
  have f1 : (e.k == 1) = false := by rw [hk]; rfl
  have f2 : (e.k == 2) = false := by rw [hk]; rfl
  have f3 : (e.k == 3) = false := by rw [hk]; rfl
  have f4 : (e.k == 4) = false := by rw [hk]; rfl
  have f5 : (e.k == 5) = true := by rw [hk]; rfl
  have HJ := Lib.hid hj
  rw [hj, Int.toNat_natCast] at HL
  clear hk hz hA hE hV h2 hv0 hv1 hop hj
  generalize argT (wT d) e 0 = A0 at *
  generalize argT (wT d) e 1 = A1 at *
  unfold exV at HG0 HG1 ⊢
  go_enter Tryz.func31, Tryz.ntmps31
  go_upto_region 1 with (fail)
  generalize World.alloc _ _ = u1 at *
  obtain ⟨xl, x0, x1, x2, x3, x4, x5, x6, x7, x8, x9, xf⟩ := HX1.out
  go_upto_region 11 with (fail)
  clear xl x0 x1 x2 x3 x4 x5 x6 x7 x8 x9 xf
  refine wp_region_late (use := [[], [0], [], [2], [3], [4], [5], [], [7], [1, 6, 8], [9], [10]]) (sl := [[32], [33], [34], [35], [36], [37], [38], [39], [40], [41], [42], [2]]) (live := [[], [], [], [], [], [], [], [], [], [], [], []]) (late := []) (brk := []) (B := u1.heap.size) (J := fun u => Below u1.heap.size u1 u) (Φ := fun ix f u => match ix with | 0 => f 32 = .agg #[.int .i64 e.k, .int .i64 e.op, .bool e.no, .int .i64 e.vk, .int .i64 e.vi, .string e.vt, .string e.tb, .string e.nm, .slice e.pa e.args.length e.ca, .slice e.ps e.sub.length e.cs] | 1 => SLF (f 33) u A0 | 2 => f 34 = .pointer (some ⟨w.heap.size, 1, none⟩) | 3 => f 35 = .int .i64 j | 4 => f 36 = .pointer (some ⟨2, j, none⟩) | 5 => f 37 = .string (opS j) | 6 => SLF (f 38) u [(opS j)] | 7 => f 39 = .agg #[.int .i64 e.k, .int .i64 e.op, .bool e.no, .int .i64 e.vk, .int .i64 e.vi, .string e.vt, .string e.tb, .string e.nm, .slice e.pa e.args.length e.ca, .slice e.ps e.sub.length e.cs] | 8 => SLF (f 40) u A1 | 9 => CatF (f 41) u 3 (L3 A0 [opS j] A1) | 10 => SLF (f 42) u (A0 ++ [opS j] ++ A1) | 11 => SLF (f 2) u (A0 ++ [opS j] ++ A1) | _ => True) (by kernel_rfl) _ rfl (by kernel_rfl) (by kernel_rfl) (Nat.le_refl _) ((Below.refl u1.heap.size u1).drew) (fun u v h hb => below_next h hb) ?_ ?_ ?_ ?_
  · intro jx f g u u2 hs hb h
    match jx, hs, h with
    | 0, hs, h =>
      have e32 := hs 32 (by decide)
      simp only [e32]
      exact h
    | 1, hs, h =>
      have e33 := hs 33 (by decide)
      simp only [e33]
      exact h.low hb
    | 2, hs, h =>
      have e34 := hs 34 (by decide)
      simp only [e34]
      exact h
    | 3, hs, h =>
      have e35 := hs 35 (by decide)
      simp only [e35]
      exact h
    | 4, hs, h =>
      have e36 := hs 36 (by decide)
      simp only [e36]
      exact h
    | 5, hs, h =>
      have e37 := hs 37 (by decide)
      simp only [e37]
      exact h
    | 6, hs, h =>
      have e38 := hs 38 (by decide)
      simp only [e38]
      exact h.low hb
    | 7, hs, h =>
      have e39 := hs 39 (by decide)
      simp only [e39]
      exact h
    | 8, hs, h =>
      have e40 := hs 40 (by decide)
      simp only [e40]
      exact h.low hb
    | 9, hs, h =>
      have e41 := hs 41 (by decide)
      simp only [e41]
      exact h.low hb
    | 10, hs, h =>
      have e42 := hs 42 (by decide)
      simp only [e42]
      exact h.low hb
    | 11, hs, h =>
      have e2 := hs 2 (by decide)
      simp only [e2]
      exact h.low hb
    | _ + 12, _, h => exact h
  · intro ix o hix hne f u hold hbe hgr hJ huse
    obtain ⟨kt, kc, kf⟩ := evF_all f
    match ix, hix, hne with
    | 0, hix, _ =>
      simp only [List.getElem?_cons_zero, Option.some.injEq] at hix
      subst hix
      obtain ⟨xl, x0, x1, x2, x3, x4, x5, x6, x7, x8, x9, xf⟩ := HX1.out.low (hJ (by kernel_rfl))
      have h1 : f 1 = .pointer (some ⟨w.heap.size, 0, none⟩) := (hold 1 (by kernel_rfl)).trans rfl
      clear hold
      refine gives_K fun K hK => ?_
      go_simp
      refine gives_value (hK _ _ ⟨Below.refl _ _, ?_⟩)
      exact upF_self _ _ _
    | 1, hix, _ =>
      simp only [List.getElem?_cons_zero, List.getElem?_cons_succ, Option.some.injEq] at hix
      subst hix
      have u0 := huse 0 (by decide)
      simp only at u0
      have hJw := hJ (by kernel_rfl)
      have HC := HG0.out _ (HE1.out.low hJw) (HA1.out.low hJw)
      refine gives_K fun K hK => ?_
      go_simp
      refine gives_enter (HC.mono ?_)
      rintro e' w3 ⟨p3, c3, rfl, hs3, hb3⟩
      exact ⟨_, rfl, hK _ _ ⟨hb3, by rw [upF_self]; exact ⟨p3, c3, rfl, hs3⟩⟩⟩
    | 2, hix, _ =>
      simp only [List.getElem?_cons_zero, List.getElem?_cons_succ, Option.some.injEq] at hix
      subst hix
      have h1 : f 1 = .pointer (some ⟨w.heap.size, 0, none⟩) := (hold 1 (by kernel_rfl)).trans rfl
      refine gives_K fun K hK => ?_
      go_simp
      refine gives_value (hK _ _ ⟨Below.refl _ _, ?_⟩)
      exact upF_self _ _ _
    | 3, hix, _ =>
      simp only [List.getElem?_cons_zero, List.getElem?_cons_succ, Option.some.injEq] at hix
      subst hix
      have u2 := huse 2 (by decide)
      simp only at u2
      obtain ⟨xl, x0, x1, x2, x3, x4, x5, x6, x7, x8, x9, xf⟩ := HX1.out.low (hJ (by kernel_rfl))
      rw [HJ.out] at x1
      refine gives_K fun K hK => ?_
      go_simp
      refine gives_value (hK _ _ ⟨Below.refl _ _, ?_⟩)
      exact upF_self _ _ _
    | 4, hix, _ =>
      simp only [List.getElem?_cons_zero, List.getElem?_cons_succ, Option.some.injEq] at hix
      subst hix
      have u3 := huse 3 (by decide)
      simp only at u3
      have hgl : evF f (.global 2) = .pointer (some ⟨2, 0, none⟩) := rfl
      refine gives_K fun K hK => ?_
      go_simp
      refine gives_value (hK _ _ ⟨Below.refl _ _, ?_⟩)
      exact upF_self _ _ _
    | 5, hix, _ =>
      simp only [List.getElem?_cons_zero, List.getElem?_cons_succ, Option.some.injEq] at hix
      subst hix
      have u4 := huse 4 (by decide)
      simp only at u4
      have hJw := hJ (by kernel_rfl)
      have gop := (HE1.out.low hJw).rops hr j hj14
      refine gives_K fun K hK => ?_
      go_simp
      refine gives_value (hK _ _ ⟨Below.refl _ _, ?_⟩)
      exact upF_self _ _ _
    | 6, hix, _ =>
      simp only [List.getElem?_cons_zero, List.getElem?_cons_succ, Option.some.injEq] at hix
      subst hix
      have u5 := huse 5 (by decide)
      simp only at u5
      refine gives_K fun K hK => ?_
      go_simp
      exact gives_value (hK _ _ ⟨below_alloc _ _, by rw [upF_self]; exact slf_one u (opS j) _⟩)
    | 7, hix, _ =>
      simp only [List.getElem?_cons_zero, List.getElem?_cons_succ, Option.some.injEq] at hix
      subst hix
      obtain ⟨xl, x0, x1, x2, x3, x4, x5, x6, x7, x8, x9, xf⟩ := HX1.out.low (hJ (by kernel_rfl))
      have h1 : f 1 = .pointer (some ⟨w.heap.size, 0, none⟩) := (hold 1 (by kernel_rfl)).trans rfl
      clear hold
      refine gives_K fun K hK => ?_
      go_simp
      refine gives_value (hK _ _ ⟨Below.refl _ _, ?_⟩)
      exact upF_self _ _ _
    | 8, hix, _ =>
      simp only [List.getElem?_cons_zero, List.getElem?_cons_succ, Option.some.injEq] at hix
      subst hix
      have u7 := huse 7 (by decide)
      simp only at u7
      have hJw := hJ (by kernel_rfl)
      have HC := HG1.out _ (HE1.out.low hJw) (HA1.out.low hJw)
      refine gives_K fun K hK => ?_
      go_simp
      refine gives_enter (HC.mono ?_)
      rintro e' w3 ⟨p3, c3, rfl, hs3, hb3⟩
      exact ⟨_, rfl, hK _ _ ⟨hb3, by rw [upF_self]; exact ⟨p3, c3, rfl, hs3⟩⟩⟩
    | 9, hix, _ =>
      simp only [List.getElem?_cons_zero, List.getElem?_cons_succ, Option.some.injEq] at hix
      subst hix
      have u1 := huse 1 (by decide)
      have u6 := huse 6 (by decide)
      have u8 := huse 8 (by decide)
      simp only at u1 u6 u8
      obtain ⟨p0, c0, g0, s0⟩ := u1
      obtain ⟨p1, c1, g1, s1⟩ := u6
      obtain ⟨p2, c2, g2, s2⟩ := u8
      refine gives_K fun K hK => ?_
      go_simp
      exact gives_value (hK _ _ ⟨below_alloc _ _, by rw [upF_self]; exact catF_three p0 p1 p2 c0 c1 c2 A0 [opS j] A1 u _ s0 s1 s2⟩)
    | 10, hix, _ =>
      simp only [List.getElem?_cons_zero, List.getElem?_cons_succ, Option.some.injEq] at hix
      subst hix
      have u9 := huse 9 (by decide)
      simp only at u9
      obtain ⟨k, g, HC⟩ := u9.calls (by decide) (by rw [catN3]; simp only [List.length_append, List.length_cons, List.length_nil]; omega)
      refine gives_K fun K hK => ?_
      go_simp
      refine gives_enter (HC.mono ?_)
      rintro e' w3 ⟨p3, c3, rfl, hs3, hb3⟩
      exact ⟨_, rfl, hK _ _ ⟨hb3, by rw [upF_self]; exact ⟨p3, c3, rfl, hs3⟩⟩⟩
    | 11, hix, _ =>
      simp only [List.getElem?_cons_zero, List.getElem?_cons_succ, Option.some.injEq] at hix
      subst hix
      have u10 := huse 10 (by decide)
      simp only at u10
      refine gives_K fun K hK => ?_
      go_simp
      exact gives_value (hK _ _ ⟨Below.refl _ _, by rw [upF_self]; exact u10⟩)
    | ix + 12, hix, _ => simp at hix
  · intro ix o hix hin f u hold hbe hgr hJ huse
    obtain ⟨kt, kc, kf⟩ := evF_all f
    match ix, hix, hin with
    | 0, _, hin => exact absurd hin (by decide)
    | 1, _, hin => exact absurd hin (by decide)
    | 2, _, hin => exact absurd hin (by decide)
    | 3, _, hin => exact absurd hin (by decide)
    | 4, _, hin => exact absurd hin (by decide)
    | 5, _, hin => exact absurd hin (by decide)
    | 6, _, hin => exact absurd hin (by decide)
    | 7, _, hin => exact absurd hin (by decide)
    | 8, _, hin => exact absurd hin (by decide)
    | 9, _, hin => exact absurd hin (by decide)
    | 10, _, hin => exact absurd hin (by decide)
    | 11, _, hin => exact absurd hin (by decide)
    | ix + 12, hix, _ => simp at hix
  · intro f2 u2 hbe hall
    have u11 := hall 11 (by decide) (by kernel_rfl)
    simp only at u11
    clear hall
    simp only [putAll, List.foldl_cons, List.foldl_nil, Act.put, List.setIfInBounds_toArray, List.set_cons_succ, List.set_cons_zero]
    obtain ⟨p4, c4, g4, s4⟩ := u11
    rw [g4]
    have HS4 := Lib.hid s4
    have HB4 := Lib.hid (below_next HB1.out (Below.trans ((Below.refl u1.heap.size u1).drew) hbe))
    clear hbe g4 s4 HG0 HG1 HA1
    go_wp2_with fail
    go_ret
    rw [HL.out]
    exact ⟨p4, c4, by simp only [List.length_append, List.length_cons, List.length_nil]; rfl, HS4.out, HB4.out⟩
set_option maxHeartbeats 4000000 in
theorem rw_btw {d : Nat} (H : RWDoes ls d) {N : Nat → Prop} (e : Ex) (w : World) (hE : Env ls w) (hA : ExIn N w (ExAt N w d) e) (hV : FineV (vE d) e) (hz : (wOf (wT d) e).length ≤ 100000000000) (hk : e.k = 7) :
    Calls Tryz.prog 31 #[exV e] w (RWPost (wOf (wT d) e) w) := by
  have HL := Lib.hid (wOf_btw (T := wT d) hk)
  have hzz : (argT (wT d) e 0).length + (argT (wT d) e 1).length + (argT (wT d) e 2).length + 2 ≤ 100000000000 := by rw [wOf_btw hk] at hz; simp only [List.length_append, List.length_cons, List.length_nil] at hz; omega
  have h2 : e.args.length = 3 := by rw [hV.argn, hk]; rfl
  have hv0 : vE d (eAt e.args 0) = true := hV.fine.args _ (eAt_mem (by omega))
  have hv1 : vE d (eAt e.args 1) = true := hV.fine.args _ (eAt_mem (by omega))
  have hv2 : vE d (eAt e.args 2) = true := hV.fine.args _ (eAt_mem (by omega))
  have HX1 := Lib.hid (ExB.new w e 27)
  have HB1 := Lib.hid (below_alloc w (.cells #[.int .i64 e.k, .int .i64 e.op, .bool e.no, .int .i64 e.vk, .int .i64 e.vi, .string e.vt, .string e.tb, .string e.nm, .slice e.pa e.args.length e.ca, .slice e.ps e.sub.length e.cs] 27))
  have HG0 := Lib.hid (fun v hE (h : LAt N v (ExAt N v d) e.pa e.args) => rarg_any H (N := N) e 0 v hE h (by omega) (by decide) hv0 (by omega))
  have HG1 := Lib.hid (fun v hE (h : LAt N v (ExAt N v d) e.pa e.args) => rarg_any H (N := N) e 1 v hE h (by omega) (by decide) hv1 (by omega))
  have HG2 := Lib.hid (fun v hE (h : LAt N v (ExAt N v d) e.pa e.args) => rarg_any H (N := N) e 2 v hE h (by omega) (by decide) hv2 (by omega))
  have HA1 := Lib.hid (hA.args.low HB1.out)
  have HE1 := Lib.hid (hE.low HB1.out)
  have f1 : (e.k == 1) = false := by rw [hk]; rfl
  have f2 : (e.k == 2) = false := by rw [hk]; rfl
  have f3 : (e.k == 3) = false := by rw [hk]; rfl
  have f4 : (e.k == 4) = false := by rw [hk]; rfl
  have f5 : (e.k == 5) = false := by rw [hk]; rfl
  have f6 : (e.k == 6) = false := by rw [hk]; rfl
  have f7 : (e.k == 7) = true := by rw [hk]; rfl
  clear hk hz hA hE hV h2 hv0 hv1 hv2
  generalize argT (wT d) e 0 = A0 at *
  generalize argT (wT d) e 1 = A1 at *
  generalize argT (wT d) e 2 = A2 at *
  unfold exV at HG0 HG1 HG2 ⊢
  go_enter Tryz.func31, Tryz.ntmps31
  go_upto_region 1 with (fail)
  generalize World.alloc _ _ = u1 at *
  obtain ⟨xl, x0, x1, x2, x3, x4, x5, x6, x7, x8, x9, xf⟩ := HX1.out
  go_upto_region 17 with (fail)
  clear xl x0 x1 x2 x3 x4 x5 x6 x7 x8 x9 xf
  refine wp_region_late (use := [[], [0], [], [], [3], [], [], [6], [1, 2, 4, 5, 7], [8], [9]]) (sl := [[59], [60], [61], [62], [63], [64], [65], [66], [67], [68], [2]]) (live := [[], [], [], [], [], [], [], [], [], [], []]) (late := []) (brk := []) (B := u1.heap.size) (J := fun u => Below u1.heap.size u1 u) (Φ := fun ix f u => match ix with | 0 => f 59 = .agg #[.int .i64 e.k, .int .i64 e.op, .bool e.no, .int .i64 e.vk, .int .i64 e.vi, .string e.vt, .string e.tb, .string e.nm, .slice e.pa e.args.length e.ca, .slice e.ps e.sub.length e.cs] | 1 => SLF (f 60) u A0 | 2 => SLF (f 61) u [⟨#[66, 69, 84, 87, 69, 69, 78]⟩] | 3 => f 62 = .agg #[.int .i64 e.k, .int .i64 e.op, .bool e.no, .int .i64 e.vk, .int .i64 e.vi, .string e.vt, .string e.tb, .string e.nm, .slice e.pa e.args.length e.ca, .slice e.ps e.sub.length e.cs] | 4 => SLF (f 63) u A1 | 5 => SLF (f 64) u [⟨#[65, 78, 68]⟩] | 6 => f 65 = .agg #[.int .i64 e.k, .int .i64 e.op, .bool e.no, .int .i64 e.vk, .int .i64 e.vi, .string e.vt, .string e.tb, .string e.nm, .slice e.pa e.args.length e.ca, .slice e.ps e.sub.length e.cs] | 7 => SLF (f 66) u A2 | 8 => CatF (f 67) u 5 (L5 A0 [⟨#[66, 69, 84, 87, 69, 69, 78]⟩] A1 [⟨#[65, 78, 68]⟩] A2) | 9 => SLF (f 68) u (A0 ++ [⟨#[66, 69, 84, 87, 69, 69, 78]⟩] ++ A1 ++ [⟨#[65, 78, 68]⟩] ++ A2) | 10 => SLF (f 2) u (A0 ++ [⟨#[66, 69, 84, 87, 69, 69, 78]⟩] ++ A1 ++ [⟨#[65, 78, 68]⟩] ++ A2) | _ => True) (by kernel_rfl) _ rfl (by kernel_rfl) (by kernel_rfl) (Nat.le_refl _) ((Below.refl u1.heap.size u1).drew) (fun u v h hb => below_next h hb) ?_ ?_ ?_ ?_
  · intro jx f g u u2 hs hb h
    match jx, hs, h with
    | 0, hs, h =>
      have e59 := hs 59 (by decide)
      simp only [e59]
      exact h
    | 1, hs, h =>
      have e60 := hs 60 (by decide)
      simp only [e60]
      exact h.low hb
    | 2, hs, h =>
      have e61 := hs 61 (by decide)
      simp only [e61]
      exact h.low hb
    | 3, hs, h =>
      have e62 := hs 62 (by decide)
      simp only [e62]
      exact h
    | 4, hs, h =>
      have e63 := hs 63 (by decide)
      simp only [e63]
      exact h.low hb
    | 5, hs, h =>
      have e64 := hs 64 (by decide)
      simp only [e64]
      exact h.low hb
    | 6, hs, h =>
      have e65 := hs 65 (by decide)
      simp only [e65]
      exact h
    | 7, hs, h =>
      have e66 := hs 66 (by decide)
      simp only [e66]
      exact h.low hb
    | 8, hs, h =>
      have e67 := hs 67 (by decide)
      simp only [e67]
      exact h.low hb
    | 9, hs, h =>
      have e68 := hs 68 (by decide)
      simp only [e68]
      exact h.low hb
    | 10, hs, h =>
      have e2 := hs 2 (by decide)
      simp only [e2]
      exact h.low hb
    | _ + 11, _, h => exact h
  · intro ix o hix hne f u hold hbe hgr hJ huse
    obtain ⟨kt, kc, kf⟩ := evF_all f
    match ix, hix, hne with
    | 0, hix, _ =>
      simp only [List.getElem?_cons_zero, Option.some.injEq] at hix
      subst hix
      obtain ⟨xl, x0, x1, x2, x3, x4, x5, x6, x7, x8, x9, xf⟩ := HX1.out.low (hJ (by kernel_rfl))
      have h1 : f 1 = .pointer (some ⟨w.heap.size, 0, none⟩) := (hold 1 (by kernel_rfl)).trans rfl
      clear hold
      refine gives_K fun K hK => ?_
      go_simp
      refine gives_value (hK _ _ ⟨Below.refl _ _, ?_⟩)
      exact upF_self _ _ _
    | 1, hix, _ =>
      simp only [List.getElem?_cons_zero, List.getElem?_cons_succ, Option.some.injEq] at hix
      subst hix
      have u0 := huse 0 (by decide)
      simp only at u0
      have hJw := hJ (by kernel_rfl)
      have HC := HG0.out _ (HE1.out.low hJw) (HA1.out.low hJw)
      refine gives_K fun K hK => ?_
      go_simp
      refine gives_enter (HC.mono ?_)
      rintro e' w3 ⟨p3, c3, rfl, hs3, hb3⟩
      exact ⟨_, rfl, hK _ _ ⟨hb3, by rw [upF_self]; exact ⟨p3, c3, rfl, hs3⟩⟩⟩
    | 2, hix, _ =>
      simp only [List.getElem?_cons_zero, List.getElem?_cons_succ, Option.some.injEq] at hix
      subst hix
      refine gives_K fun K hK => ?_
      go_simp
      exact gives_value (hK _ _ ⟨below_alloc _ _, by rw [upF_self]; exact slf_one u ⟨#[66, 69, 84, 87, 69, 69, 78]⟩ _⟩)
    | 3, hix, _ =>
      simp only [List.getElem?_cons_zero, List.getElem?_cons_succ, Option.some.injEq] at hix
      subst hix
      obtain ⟨xl, x0, x1, x2, x3, x4, x5, x6, x7, x8, x9, xf⟩ := HX1.out.low (hJ (by kernel_rfl))
      have h1 : f 1 = .pointer (some ⟨w.heap.size, 0, none⟩) := (hold 1 (by kernel_rfl)).trans rfl
      clear hold
      refine gives_K fun K hK => ?_
      go_simp
      refine gives_value (hK _ _ ⟨Below.refl _ _, ?_⟩)
      exact upF_self _ _ _
    | 4, hix, _ =>
      simp only [List.getElem?_cons_zero, List.getElem?_cons_succ, Option.some.injEq] at hix
      subst hix
      have u3 := huse 3 (by decide)
      simp only at u3
      have hJw := hJ (by kernel_rfl)
      have HC := HG1.out _ (HE1.out.low hJw) (HA1.out.low hJw)
      refine gives_K fun K hK => ?_
      go_simp
      refine gives_enter (HC.mono ?_)
      rintro e' w3 ⟨p3, c3, rfl, hs3, hb3⟩
      exact ⟨_, rfl, hK _ _ ⟨hb3, by rw [upF_self]; exact ⟨p3, c3, rfl, hs3⟩⟩⟩
    | 5, hix, _ =>
      simp only [List.getElem?_cons_zero, List.getElem?_cons_succ, Option.some.injEq] at hix
      subst hix
      refine gives_K fun K hK => ?_
      go_simp
      exact gives_value (hK _ _ ⟨below_alloc _ _, by rw [upF_self]; exact slf_one u ⟨#[65, 78, 68]⟩ _⟩)
    | 6, hix, _ =>
      simp only [List.getElem?_cons_zero, List.getElem?_cons_succ, Option.some.injEq] at hix
      subst hix
      obtain ⟨xl, x0, x1, x2, x3, x4, x5, x6, x7, x8, x9, xf⟩ := HX1.out.low (hJ (by kernel_rfl))
      have h1 : f 1 = .pointer (some ⟨w.heap.size, 0, none⟩) := (hold 1 (by kernel_rfl)).trans rfl
      clear hold
      refine gives_K fun K hK => ?_
      go_simp
      refine gives_value (hK _ _ ⟨Below.refl _ _, ?_⟩)
      exact upF_self _ _ _
    | 7, hix, _ =>
      simp only [List.getElem?_cons_zero, List.getElem?_cons_succ, Option.some.injEq] at hix
      subst hix
      have u6 := huse 6 (by decide)
      simp only at u6
      have hJw := hJ (by kernel_rfl)
      have HC := HG2.out _ (HE1.out.low hJw) (HA1.out.low hJw)
      refine gives_K fun K hK => ?_
      go_simp
      refine gives_enter (HC.mono ?_)
      rintro e' w3 ⟨p3, c3, rfl, hs3, hb3⟩
      exact ⟨_, rfl, hK _ _ ⟨hb3, by rw [upF_self]; exact ⟨p3, c3, rfl, hs3⟩⟩⟩
    | 8, hix, _ =>
      simp only [List.getElem?_cons_zero, List.getElem?_cons_succ, Option.some.injEq] at hix
      subst hix
      have u1 := huse 1 (by decide)
      have u2 := huse 2 (by decide)
      have u4 := huse 4 (by decide)
      have u5 := huse 5 (by decide)
      have u7 := huse 7 (by decide)
      simp only at u1 u2 u4 u5 u7
      obtain ⟨p0, c0, g0, s0⟩ := u1
      obtain ⟨p1, c1, g1, s1⟩ := u2
      obtain ⟨p2, c2, g2, s2⟩ := u4
      obtain ⟨p3, c3, g3, s3⟩ := u5
      obtain ⟨p4, c4, g4, s4⟩ := u7
      refine gives_K fun K hK => ?_
      go_simp
      exact gives_value (hK _ _ ⟨below_alloc _ _, by rw [upF_self]; exact catF_five p0 p1 p2 p3 p4 c0 c1 c2 c3 c4 A0 [⟨#[66, 69, 84, 87, 69, 69, 78]⟩] A1 [⟨#[65, 78, 68]⟩] A2 u _ s0 s1 s2 s3 s4⟩)
    | 9, hix, _ =>
      simp only [List.getElem?_cons_zero, List.getElem?_cons_succ, Option.some.injEq] at hix
      subst hix
      have u8 := huse 8 (by decide)
      simp only at u8
      obtain ⟨k, g, HC⟩ := u8.calls (by decide) (by rw [catN5]; simp only [List.length_append, List.length_cons, List.length_nil]; omega)
      refine gives_K fun K hK => ?_
      go_simp
      refine gives_enter (HC.mono ?_)
      rintro e' w3 ⟨p3, c3, rfl, hs3, hb3⟩
      exact ⟨_, rfl, hK _ _ ⟨hb3, by rw [upF_self]; exact ⟨p3, c3, rfl, hs3⟩⟩⟩
    | 10, hix, _ =>
      simp only [List.getElem?_cons_zero, List.getElem?_cons_succ, Option.some.injEq] at hix
      subst hix
      have u9 := huse 9 (by decide)
      simp only at u9
      refine gives_K fun K hK => ?_
      go_simp
      exact gives_value (hK _ _ ⟨Below.refl _ _, by rw [upF_self]; exact u9⟩)
    | ix + 11, hix, _ => simp at hix
  · intro ix o hix hin f u hold hbe hgr hJ huse
    obtain ⟨kt, kc, kf⟩ := evF_all f
    match ix, hix, hin with
    | 0, _, hin => exact absurd hin (by decide)
    | 1, _, hin => exact absurd hin (by decide)
    | 2, _, hin => exact absurd hin (by decide)
    | 3, _, hin => exact absurd hin (by decide)
    | 4, _, hin => exact absurd hin (by decide)
    | 5, _, hin => exact absurd hin (by decide)
    | 6, _, hin => exact absurd hin (by decide)
    | 7, _, hin => exact absurd hin (by decide)
    | 8, _, hin => exact absurd hin (by decide)
    | 9, _, hin => exact absurd hin (by decide)
    | 10, _, hin => exact absurd hin (by decide)
    | ix + 11, hix, _ => simp at hix
  · intro f2 u2 hbe hall
    have u10 := hall 10 (by decide) (by kernel_rfl)
    simp only at u10
    clear hall
    simp only [putAll, List.foldl_cons, List.foldl_nil, Act.put, List.setIfInBounds_toArray, List.set_cons_succ, List.set_cons_zero]
    obtain ⟨p4, c4, g4, s4⟩ := u10
    rw [g4]
    have HS4 := Lib.hid s4
    have HB4 := Lib.hid (below_next HB1.out (Below.trans ((Below.refl u1.heap.size u1).drew) hbe))
    clear hbe g4 s4 HG0 HG1 HG2 HA1
    go_wp2_with fail
    go_ret
    rw [HL.out]
    exact ⟨p4, c4, by simp only [List.length_append, List.length_cons, List.length_nil]; rfl, HS4.out, HB4.out⟩
set_option maxHeartbeats 4000000 in
theorem rw_sum {d : Nat} (H : RWDoes ls d) {N : Nat → Prop} (e : Ex) (w : World) (hE : Env ls w) (hA : ExIn N w (ExAt N w d) e) (hV : FineV (vE d) e) (hz : (wOf (wT d) e).length ≤ 100000000000) (hk : e.k = 10) :
    Calls Tryz.prog 31 #[exV e] w (RWPost (wOf (wT d) e) w) := by
  have HL := Lib.hid (show wOf (wT d) e = [⟨#[40]⟩, ⟨#[83, 69, 76, 69, 67, 84]⟩, ⟨#[83, 85, 77]⟩, ⟨#[40]⟩] ++ wT d (eAt (qAt e.sub 0).items 0) ++ [⟨#[41]⟩] ++ fromT (wT d) (qAt e.sub 0) ++ [⟨#[41]⟩] by rw [wOf_sub (by omega)]; unfold subT headT; rw [hk]; simp [aggS])
  have hzz : (wT d (eAt (qAt e.sub 0).items 0)).length + (fromT (wT d) (qAt e.sub 0)).length + 6 ≤ 100000000000 := by rw [HL.out] at hz; simp only [List.length_append, List.length_cons, List.length_nil] at hz; omega
  have h1 : e.sub.length = 1 := by rw [hV.subn, hk]; rfl
  have hQ := quB_fine (hV.fine.sub (qAt e.sub 0) (qAt_mem (by omega)))
  have hi1 : (qAt e.sub 0).items.length = 1 := by rw [hQ.items, hk]; rfl
  have hvi : vE d (eAt (qAt e.sub 0).items 0) = true := hQ.allI _ (eAt_mem (by omega))
  obtain ⟨g, o, hps, hg, -, hC, hY⟩ := hA.sub 0 (by omega)
  obtain ⟨gi, oi, hpi, hgi, -, hCi, hYi⟩ := hY.items 0 (by omega)
  have HX1 := Lib.hid (ExB.new w e 27)
  have HB1 := Lib.hid (below_alloc w (.cells #[.int .i64 e.k, .int .i64 e.op, .bool e.no, .int .i64 e.vk, .int .i64 e.vi, .string e.vt, .string e.tb, .string e.nm, .slice e.pa e.args.length e.ca, .slice e.ps e.sub.length e.cs] 27))
  rw [Nat.zero_mul, Nat.add_zero] at hC hCi
  have HC1 := Lib.hid (hC.keep (HB1.out.block g hg))
  have HCI := Lib.hid (hCi.keep (HB1.out.block gi hgi))
  have hgs := Nat.lt_of_lt_of_le hg HB1.out.size
  have hgis := Nat.lt_of_lt_of_le hgi HB1.out.size
  have HY1 := Lib.hid (hY.low HB1.out)
  have HYI := Lib.hid (hYi.low HB1.out)
  have HE1 := Lib.hid (hE.low HB1.out)
  have HG := Lib.hid (fun v hE h => rfrom_any H (N := N) (qAt e.sub 0) v hE h hQ.wh hQ.allW (by omega))
  have HW := Lib.hid (fun v hE h => H N (eAt (qAt e.sub 0).items 0) v hE h hvi (by omega))
  have HPS := Lib.hid hps
  have HPI := Lib.hid hpi
  have f1 : (e.k == 1) = false := by rw [hk]; rfl
  have f2 : (e.k == 2) = false := by rw [hk]; rfl
  have f3 : (e.k == 3) = false := by rw [hk]; rfl
  have f4 : (e.k == 4) = false := by rw [hk]; rfl
  have f5 : (e.k == 5) = false := by rw [hk]; rfl
  have f6 : (e.k == 6) = false := by rw [hk]; rfl
  have f7 : (e.k == 7) = false := by rw [hk]; rfl
  have f8 : (e.k == 8) = false := by rw [hk]; rfl
  have f9 : (e.k == 9) = false := by rw [hk]; rfl
  have f10 : (e.k == 10) = true := by rw [hk]; rfl
  have f11 : (e.k == 11) = false := by rw [hk]; rfl
  have f12 : (e.k == 12) = false := by rw [hk]; rfl
  have hsI : (0 : Int) < e.sub.length := by omega
  have hsN : 0 < e.sub.length := by omega
  have hiI : (0 : Int) < (qAt e.sub 0).items.length := by omega
  have hiN : 0 < (qAt e.sub 0).items.length := by omega
  clear hk hz hA hE hV h1 hQ hps hC hY hCi hYi hpi hi1 hvi
  generalize fromT (wT d) (qAt e.sub 0) = A at *
  generalize qAt e.sub 0 = q at *
  generalize wT d (eAt q.items 0) = I at *
  generalize eAt q.items 0 = ie at *
  unfold quV at HG
  unfold exV at HW
  unfold exV
  go_enter Tryz.func31, Tryz.ntmps31
  go_upto_region 1 with (fail)
  generalize World.alloc _ _ = u1 at *
  obtain ⟨xl, x0, x1, x2, x3, x4, x5, x6, x7, x8, x9, xf⟩ := HX1.out
  go_upto_region 27 with (fail)
  clear xl x0 x1 x2 x3 x4 x5 x6 x7 x8 x9 xf
  refine wp_region_late (use := [[], [0], [], [2], [3], [4], [5], [6], [7], [8], [], [], [11], [12], [13], [14], [], [1, 9, 10, 15, 16], [17], [18]]) (sl := [[97], [98], [99], [100], [101], [102], [103], [104], [105], [106], [107], [108], [109], [110], [111], [112], [113], [114], [115], [2]]) (live := [[], [], [], [], [], [], [], [], [], [], [], [], [], [], [], [], [], [], [], []]) (late := []) (brk := []) (B := u1.heap.size) (J := fun u => Below u1.heap.size u1 u) (Φ := fun ix f u => match ix with | 0 => f 97 = .string ⟨#[83, 85, 77]⟩ | 1 => SLF (f 98) u [⟨#[40]⟩, ⟨#[83, 69, 76, 69, 67, 84]⟩, ⟨#[83, 85, 77]⟩, ⟨#[40]⟩] | 2 => f 99 = .pointer (some ⟨w.heap.size, 9, none⟩) | 3 => f 100 = .slice (some ⟨g, o, none⟩) e.sub.length e.cs | 4 => f 101 = .pointer (some ⟨g, o, none⟩) | 5 => f 102 = .pointer (some ⟨g, o + 1, none⟩) | 6 => f 103 = .slice (some ⟨gi, oi, none⟩) q.items.length q.ci | 7 => f 104 = .pointer (some ⟨gi, oi, none⟩) | 8 => f 105 = .agg #[.int .i64 ie.k, .int .i64 ie.op, .bool ie.no, .int .i64 ie.vk, .int .i64 ie.vi, .string ie.vt, .string ie.tb, .string ie.nm, .slice ie.pa ie.args.length ie.ca, .slice ie.ps ie.sub.length ie.cs] | 9 => SLF (f 106) u I | 10 => SLF (f 107) u [⟨#[41]⟩] | 11 => f 108 = .pointer (some ⟨w.heap.size, 9, none⟩) | 12 => f 109 = .slice (some ⟨g, o, none⟩) e.sub.length e.cs | 13 => f 110 = .pointer (some ⟨g, o, none⟩) | 14 => f 111 = .agg #[.bool q.st, .slice q.pi q.items.length q.ci, .string q.fr, .slice q.pw q.wh.length q.cw] | 15 => SLF (f 112) u A | 16 => SLF (f 113) u [⟨#[41]⟩] | 17 => CatF (f 114) u 5 (L5 [⟨#[40]⟩, ⟨#[83, 69, 76, 69, 67, 84]⟩, ⟨#[83, 85, 77]⟩, ⟨#[40]⟩] I [⟨#[41]⟩] A [⟨#[41]⟩]) | 18 => SLF (f 115) u ([⟨#[40]⟩, ⟨#[83, 69, 76, 69, 67, 84]⟩, ⟨#[83, 85, 77]⟩, ⟨#[40]⟩] ++ I ++ [⟨#[41]⟩] ++ A ++ [⟨#[41]⟩]) | 19 => SLF (f 2) u ([⟨#[40]⟩, ⟨#[83, 69, 76, 69, 67, 84]⟩, ⟨#[83, 85, 77]⟩, ⟨#[40]⟩] ++ I ++ [⟨#[41]⟩] ++ A ++ [⟨#[41]⟩]) | _ => True) (by kernel_rfl) _ rfl (by kernel_rfl) (by kernel_rfl) (Nat.le_refl _) ((Below.refl u1.heap.size u1).drew) (fun u v h hb => below_next h hb) ?_ ?_ ?_ ?_
  · intro jx f g u u2 hs hb h
    match jx, hs, h with
    | 0, hs, h =>
      have e97 := hs 97 (by decide)
      simp only [e97]
      exact h
    | 1, hs, h =>
      have e98 := hs 98 (by decide)
      simp only [e98]
      exact h.low hb
    | 2, hs, h =>
      have e99 := hs 99 (by decide)
      simp only [e99]
      exact h
    | 3, hs, h =>
      have e100 := hs 100 (by decide)
      simp only [e100]
      exact h
    | 4, hs, h =>
      have e101 := hs 101 (by decide)
      simp only [e101]
      exact h
    | 5, hs, h =>
      have e102 := hs 102 (by decide)
      simp only [e102]
      exact h
    | 6, hs, h =>
      have e103 := hs 103 (by decide)
      simp only [e103]
      exact h
    | 7, hs, h =>
      have e104 := hs 104 (by decide)
      simp only [e104]
      exact h
    | 8, hs, h =>
      have e105 := hs 105 (by decide)
      simp only [e105]
      exact h
    | 9, hs, h =>
      have e106 := hs 106 (by decide)
      simp only [e106]
      exact h.low hb
    | 10, hs, h =>
      have e107 := hs 107 (by decide)
      simp only [e107]
      exact h.low hb
    | 11, hs, h =>
      have e108 := hs 108 (by decide)
      simp only [e108]
      exact h
    | 12, hs, h =>
      have e109 := hs 109 (by decide)
      simp only [e109]
      exact h
    | 13, hs, h =>
      have e110 := hs 110 (by decide)
      simp only [e110]
      exact h
    | 14, hs, h =>
      have e111 := hs 111 (by decide)
      simp only [e111]
      exact h
    | 15, hs, h =>
      have e112 := hs 112 (by decide)
      simp only [e112]
      exact h.low hb
    | 16, hs, h =>
      have e113 := hs 113 (by decide)
      simp only [e113]
      exact h.low hb
    | 17, hs, h =>
      have e114 := hs 114 (by decide)
      simp only [e114]
      exact h.low hb
    | 18, hs, h =>
      have e115 := hs 115 (by decide)
      simp only [e115]
      exact h.low hb
    | 19, hs, h =>
      have e2 := hs 2 (by decide)
      simp only [e2]
      exact h.low hb
    | _ + 20, _, h => exact h
  · intro ix o hix hne f u hold hbe hgr hJ huse
    obtain ⟨kt, kc, kf⟩ := evF_all f
    match ix, hix, hne with
    | 0, hix, _ =>
      simp only [List.getElem?_cons_zero, Option.some.injEq] at hix
      subst hix
      have h3 : f 3 = .string ⟨#[83, 85, 77]⟩ := (hold 3 (by kernel_rfl)).trans rfl
      refine gives_K fun K hK => ?_
      go_simp
      refine gives_value (hK _ _ ⟨Below.refl _ _, ?_⟩)
      exact upF_self _ _ _
    | 1, hix, _ =>
      simp only [List.getElem?_cons_zero, List.getElem?_cons_succ, Option.some.injEq] at hix
      subst hix
      have u0 := huse 0 (by decide)
      simp only at u0
      refine gives_K fun K hK => ?_
      go_simp
      exact gives_value (hK _ _ ⟨below_alloc _ _, by rw [upF_self]; exact slf_four u ⟨#[40]⟩ ⟨#[83, 69, 76, 69, 67, 84]⟩ ⟨#[83, 85, 77]⟩ ⟨#[40]⟩ _⟩)
    | 2, hix, _ =>
      simp only [List.getElem?_cons_zero, List.getElem?_cons_succ, Option.some.injEq] at hix
      subst hix
      have h1 : f 1 = .pointer (some ⟨w.heap.size, 0, none⟩) := (hold 1 (by kernel_rfl)).trans rfl
      refine gives_K fun K hK => ?_
      go_simp
      refine gives_value (hK _ _ ⟨Below.refl _ _, ?_⟩)
      exact upF_self _ _ _
    | 3, hix, _ =>
      simp only [List.getElem?_cons_zero, List.getElem?_cons_succ, Option.some.injEq] at hix
      subst hix
      have u2 := huse 2 (by decide)
      simp only at u2
      obtain ⟨xl, x0, x1, x2, x3, x4, x5, x6, x7, x8, x9, xf⟩ := HX1.out.low (hJ (by kernel_rfl))
      rw [HPS.out] at x9
      refine gives_K fun K hK => ?_
      go_simp
      refine gives_value (hK _ _ ⟨Below.refl _ _, ?_⟩)
      exact upF_self _ _ _
    | 4, hix, _ =>
      simp only [List.getElem?_cons_zero, List.getElem?_cons_succ, Option.some.injEq] at hix
      subst hix
      have u3 := huse 3 (by decide)
      simp only at u3
      refine gives_K fun K hK => ?_
      go_simp
      refine gives_value (hK _ _ ⟨Below.refl _ _, ?_⟩)
      exact upF_self _ _ _
    | 5, hix, _ =>
      simp only [List.getElem?_cons_zero, List.getElem?_cons_succ, Option.some.injEq] at hix
      subst hix
      have u4 := huse 4 (by decide)
      simp only at u4
      refine gives_K fun K hK => ?_
      go_simp
      refine gives_value (hK _ _ ⟨Below.refl _ _, ?_⟩)
      exact upF_self _ _ _
    | 6, hix, _ =>
      simp only [List.getElem?_cons_zero, List.getElem?_cons_succ, Option.some.injEq] at hix
      subst hix
      have u5 := huse 5 (by decide)
      simp only at u5
      obtain ⟨c0, c1, d2, c3⟩ := HC1.out.keep ((hJ (by kernel_rfl)).block g hgs)
      rw [HPI.out] at c1
      refine gives_K fun K hK => ?_
      go_simp
      refine gives_value (hK _ _ ⟨Below.refl _ _, ?_⟩)
      exact upF_self _ _ _
    | 7, hix, _ =>
      simp only [List.getElem?_cons_zero, List.getElem?_cons_succ, Option.some.injEq] at hix
      subst hix
      have u6 := huse 6 (by decide)
      simp only at u6
      refine gives_K fun K hK => ?_
      go_simp
      refine gives_value (hK _ _ ⟨Below.refl _ _, ?_⟩)
      exact upF_self _ _ _
    | 8, hix, _ =>
      simp only [List.getElem?_cons_zero, List.getElem?_cons_succ, Option.some.injEq] at hix
      subst hix
      have u7 := huse 7 (by decide)
      simp only at u7
      obtain ⟨y0, y1, y2, y3, y4, y5, y6, y7, y8, y9⟩ := HCI.out.keep ((hJ (by kernel_rfl)).block gi hgis)
      refine gives_K fun K hK => ?_
      go_simp
      refine gives_value (hK _ _ ⟨Below.refl _ _, ?_⟩)
      exact upF_self _ _ _
    | 9, hix, _ =>
      simp only [List.getElem?_cons_zero, List.getElem?_cons_succ, Option.some.injEq] at hix
      subst hix
      have u8 := huse 8 (by decide)
      simp only at u8
      have hJw := hJ (by kernel_rfl)
      have HC := HW.out _ (HE1.out.low hJw) (HYI.out.low hJw)
      refine gives_K fun K hK => ?_
      go_simp
      refine gives_enter (HC.mono ?_)
      rintro e' w3 ⟨p3, c3, rfl, hs3, hb3⟩
      exact ⟨_, rfl, hK _ _ ⟨hb3, by rw [upF_self]; exact ⟨p3, c3, rfl, hs3⟩⟩⟩
    | 10, hix, _ =>
      simp only [List.getElem?_cons_zero, List.getElem?_cons_succ, Option.some.injEq] at hix
      subst hix
      refine gives_K fun K hK => ?_
      go_simp
      exact gives_value (hK _ _ ⟨below_alloc _ _, by rw [upF_self]; exact slf_one u ⟨#[41]⟩ _⟩)
    | 11, hix, _ =>
      simp only [List.getElem?_cons_zero, List.getElem?_cons_succ, Option.some.injEq] at hix
      subst hix
      have h1 : f 1 = .pointer (some ⟨w.heap.size, 0, none⟩) := (hold 1 (by kernel_rfl)).trans rfl
      refine gives_K fun K hK => ?_
      go_simp
      refine gives_value (hK _ _ ⟨Below.refl _ _, ?_⟩)
      exact upF_self _ _ _
    | 12, hix, _ =>
      simp only [List.getElem?_cons_zero, List.getElem?_cons_succ, Option.some.injEq] at hix
      subst hix
      have u11 := huse 11 (by decide)
      simp only at u11
      obtain ⟨xl, x0, x1, x2, x3, x4, x5, x6, x7, x8, x9, xf⟩ := HX1.out.low (hJ (by kernel_rfl))
      rw [HPS.out] at x9
      refine gives_K fun K hK => ?_
      go_simp
      refine gives_value (hK _ _ ⟨Below.refl _ _, ?_⟩)
      exact upF_self _ _ _
    | 13, hix, _ =>
      simp only [List.getElem?_cons_zero, List.getElem?_cons_succ, Option.some.injEq] at hix
      subst hix
      have u12 := huse 12 (by decide)
      simp only at u12
      refine gives_K fun K hK => ?_
      go_simp
      refine gives_value (hK _ _ ⟨Below.refl _ _, ?_⟩)
      exact upF_self _ _ _
    | 14, hix, _ =>
      simp only [List.getElem?_cons_zero, List.getElem?_cons_succ, Option.some.injEq] at hix
      subst hix
      have u13 := huse 13 (by decide)
      simp only at u13
      obtain ⟨c0, c1, d2, c3⟩ := HC1.out.keep ((hJ (by kernel_rfl)).block g hgs)
      refine gives_K fun K hK => ?_
      go_simp
      refine gives_value (hK _ _ ⟨Below.refl _ _, ?_⟩)
      exact upF_self _ _ _
    | 15, hix, _ =>
      simp only [List.getElem?_cons_zero, List.getElem?_cons_succ, Option.some.injEq] at hix
      subst hix
      have u14 := huse 14 (by decide)
      simp only at u14
      have hJw := hJ (by kernel_rfl)
      have HC := HG.out _ (HE1.out.low hJw) (HY1.out.low hJw)
      refine gives_K fun K hK => ?_
      go_simp
      refine gives_enter (HC.mono ?_)
      rintro e' w3 ⟨p3, c3, rfl, hs3, hb3⟩
      exact ⟨_, rfl, hK _ _ ⟨hb3, by rw [upF_self]; exact ⟨p3, c3, rfl, hs3⟩⟩⟩
    | 16, hix, _ =>
      simp only [List.getElem?_cons_zero, List.getElem?_cons_succ, Option.some.injEq] at hix
      subst hix
      refine gives_K fun K hK => ?_
      go_simp
      exact gives_value (hK _ _ ⟨below_alloc _ _, by rw [upF_self]; exact slf_one u ⟨#[41]⟩ _⟩)
    | 17, hix, _ =>
      simp only [List.getElem?_cons_zero, List.getElem?_cons_succ, Option.some.injEq] at hix
      subst hix
      have u1 := huse 1 (by decide)
      have u9 := huse 9 (by decide)
      have u10 := huse 10 (by decide)
      have u15 := huse 15 (by decide)
      have u16 := huse 16 (by decide)
      simp only at u1 u9 u10 u15 u16
      obtain ⟨p0, c0, g0, s0⟩ := u1
      obtain ⟨p1, c1, g1, s1⟩ := u9
      obtain ⟨p2, c2, g2, s2⟩ := u10
      obtain ⟨p3, c3, g3, s3⟩ := u15
      obtain ⟨p4, c4, g4, s4⟩ := u16
      refine gives_K fun K hK => ?_
      go_simp
      exact gives_value (hK _ _ ⟨below_alloc _ _, by rw [upF_self]; exact catF_five p0 p1 p2 p3 p4 c0 c1 c2 c3 c4 [⟨#[40]⟩, ⟨#[83, 69, 76, 69, 67, 84]⟩, ⟨#[83, 85, 77]⟩, ⟨#[40]⟩] I [⟨#[41]⟩] A [⟨#[41]⟩] u _ s0 s1 s2 s3 s4⟩)
    | 18, hix, _ =>
      simp only [List.getElem?_cons_zero, List.getElem?_cons_succ, Option.some.injEq] at hix
      subst hix
      have u17 := huse 17 (by decide)
      simp only at u17
      obtain ⟨k, g, HC⟩ := u17.calls (by decide) (by rw [catN5]; simp only [List.length_append, List.length_cons, List.length_nil]; omega)
      refine gives_K fun K hK => ?_
      go_simp
      refine gives_enter (HC.mono ?_)
      rintro e' w3 ⟨p3, c3, rfl, hs3, hb3⟩
      exact ⟨_, rfl, hK _ _ ⟨hb3, by rw [upF_self]; exact ⟨p3, c3, rfl, hs3⟩⟩⟩
    | 19, hix, _ =>
      simp only [List.getElem?_cons_zero, List.getElem?_cons_succ, Option.some.injEq] at hix
      subst hix
      have u18 := huse 18 (by decide)
      simp only at u18
      refine gives_K fun K hK => ?_
      go_simp
      exact gives_value (hK _ _ ⟨Below.refl _ _, by rw [upF_self]; exact u18⟩)
    | ix + 20, hix, _ => simp at hix
  · intro ix o hix hin f u hold hbe hgr hJ huse
    obtain ⟨kt, kc, kf⟩ := evF_all f
    match ix, hix, hin with
    | 0, _, hin => exact absurd hin (by decide)
    | 1, _, hin => exact absurd hin (by decide)
    | 2, _, hin => exact absurd hin (by decide)
    | 3, _, hin => exact absurd hin (by decide)
    | 4, _, hin => exact absurd hin (by decide)
    | 5, _, hin => exact absurd hin (by decide)
    | 6, _, hin => exact absurd hin (by decide)
    | 7, _, hin => exact absurd hin (by decide)
    | 8, _, hin => exact absurd hin (by decide)
    | 9, _, hin => exact absurd hin (by decide)
    | 10, _, hin => exact absurd hin (by decide)
    | 11, _, hin => exact absurd hin (by decide)
    | 12, _, hin => exact absurd hin (by decide)
    | 13, _, hin => exact absurd hin (by decide)
    | 14, _, hin => exact absurd hin (by decide)
    | 15, _, hin => exact absurd hin (by decide)
    | 16, _, hin => exact absurd hin (by decide)
    | 17, _, hin => exact absurd hin (by decide)
    | 18, _, hin => exact absurd hin (by decide)
    | 19, _, hin => exact absurd hin (by decide)
    | ix + 20, hix, _ => simp at hix
  · intro f2 u2 hbe hall
    have u19 := hall 19 (by decide) (by kernel_rfl)
    simp only at u19
    clear hall
    simp only [putAll, List.foldl_cons, List.foldl_nil, Act.put, List.setIfInBounds_toArray, List.set_cons_succ, List.set_cons_zero]
    obtain ⟨p4, c4, g4, s4⟩ := u19
    rw [g4]
    have HS4 := Lib.hid s4
    have HB4 := Lib.hid (below_next HB1.out (Below.trans ((Below.refl u1.heap.size u1).drew) hbe))
    clear hbe g4 s4 HG HW HY1 HYI HC1 HCI
    go_wp2_with fail
    go_ret
    rw [HL.out]
    exact ⟨p4, c4, by simp only [List.length_append, List.length_cons, List.length_nil]; rfl, HS4.out, HB4.out⟩
set_option maxHeartbeats 4000000 in
theorem rw_min {d : Nat} (H : RWDoes ls d) {N : Nat → Prop} (e : Ex) (w : World) (hE : Env ls w) (hA : ExIn N w (ExAt N w d) e) (hV : FineV (vE d) e) (hz : (wOf (wT d) e).length ≤ 100000000000) (hk : e.k = 11) :
    Calls Tryz.prog 31 #[exV e] w (RWPost (wOf (wT d) e) w) := by
  have HL := Lib.hid (show wOf (wT d) e = [⟨#[40]⟩, ⟨#[83, 69, 76, 69, 67, 84]⟩, ⟨#[77, 73, 78]⟩, ⟨#[40]⟩] ++ wT d (eAt (qAt e.sub 0).items 0) ++ [⟨#[41]⟩] ++ fromT (wT d) (qAt e.sub 0) ++ [⟨#[41]⟩] by rw [wOf_sub (by omega)]; unfold subT headT; rw [hk]; simp [aggS])
  have hzz : (wT d (eAt (qAt e.sub 0).items 0)).length + (fromT (wT d) (qAt e.sub 0)).length + 6 ≤ 100000000000 := by rw [HL.out] at hz; simp only [List.length_append, List.length_cons, List.length_nil] at hz; omega
  have h1 : e.sub.length = 1 := by rw [hV.subn, hk]; rfl
  have hQ := quB_fine (hV.fine.sub (qAt e.sub 0) (qAt_mem (by omega)))
  have hi1 : (qAt e.sub 0).items.length = 1 := by rw [hQ.items, hk]; rfl
  have hvi : vE d (eAt (qAt e.sub 0).items 0) = true := hQ.allI _ (eAt_mem (by omega))
  obtain ⟨g, o, hps, hg, -, hC, hY⟩ := hA.sub 0 (by omega)
  obtain ⟨gi, oi, hpi, hgi, -, hCi, hYi⟩ := hY.items 0 (by omega)
  have HX1 := Lib.hid (ExB.new w e 27)
  have HB1 := Lib.hid (below_alloc w (.cells #[.int .i64 e.k, .int .i64 e.op, .bool e.no, .int .i64 e.vk, .int .i64 e.vi, .string e.vt, .string e.tb, .string e.nm, .slice e.pa e.args.length e.ca, .slice e.ps e.sub.length e.cs] 27))
  rw [Nat.zero_mul, Nat.add_zero] at hC hCi
  have HC1 := Lib.hid (hC.keep (HB1.out.block g hg))
  have HCI := Lib.hid (hCi.keep (HB1.out.block gi hgi))
  have hgs := Nat.lt_of_lt_of_le hg HB1.out.size
  have hgis := Nat.lt_of_lt_of_le hgi HB1.out.size
  have HY1 := Lib.hid (hY.low HB1.out)
  have HYI := Lib.hid (hYi.low HB1.out)
  have HE1 := Lib.hid (hE.low HB1.out)
  have HG := Lib.hid (fun v hE h => rfrom_any H (N := N) (qAt e.sub 0) v hE h hQ.wh hQ.allW (by omega))
  have HW := Lib.hid (fun v hE h => H N (eAt (qAt e.sub 0).items 0) v hE h hvi (by omega))
  have HPS := Lib.hid hps
  have HPI := Lib.hid hpi
  have f1 : (e.k == 1) = false := by rw [hk]; rfl
  have f2 : (e.k == 2) = false := by rw [hk]; rfl
  have f3 : (e.k == 3) = false := by rw [hk]; rfl
  have f4 : (e.k == 4) = false := by rw [hk]; rfl
  have f5 : (e.k == 5) = false := by rw [hk]; rfl
  have f6 : (e.k == 6) = false := by rw [hk]; rfl
  have f7 : (e.k == 7) = false := by rw [hk]; rfl
  have f8 : (e.k == 8) = false := by rw [hk]; rfl
  have f9 : (e.k == 9) = false := by rw [hk]; rfl
  have f10 : (e.k == 10) = false := by rw [hk]; rfl
  have f11 : (e.k == 11) = true := by rw [hk]; rfl
  have f12 : (e.k == 12) = false := by rw [hk]; rfl
  have hsI : (0 : Int) < e.sub.length := by omega
  have hsN : 0 < e.sub.length := by omega
  have hiI : (0 : Int) < (qAt e.sub 0).items.length := by omega
  have hiN : 0 < (qAt e.sub 0).items.length := by omega
  clear hk hz hA hE hV h1 hQ hps hC hY hCi hYi hpi hi1 hvi
  generalize fromT (wT d) (qAt e.sub 0) = A at *
  generalize qAt e.sub 0 = q at *
  generalize wT d (eAt q.items 0) = I at *
  generalize eAt q.items 0 = ie at *
  unfold quV at HG
  unfold exV at HW
  unfold exV
  go_enter Tryz.func31, Tryz.ntmps31
  go_upto_region 1 with (fail)
  generalize World.alloc _ _ = u1 at *
  obtain ⟨xl, x0, x1, x2, x3, x4, x5, x6, x7, x8, x9, xf⟩ := HX1.out
  go_upto_region 27 with (fail)
  clear xl x0 x1 x2 x3 x4 x5 x6 x7 x8 x9 xf
  refine wp_region_late (use := [[], [0], [], [2], [3], [4], [5], [6], [7], [8], [], [], [11], [12], [13], [14], [], [1, 9, 10, 15, 16], [17], [18]]) (sl := [[97], [98], [99], [100], [101], [102], [103], [104], [105], [106], [107], [108], [109], [110], [111], [112], [113], [114], [115], [2]]) (live := [[], [], [], [], [], [], [], [], [], [], [], [], [], [], [], [], [], [], [], []]) (late := []) (brk := []) (B := u1.heap.size) (J := fun u => Below u1.heap.size u1 u) (Φ := fun ix f u => match ix with | 0 => f 97 = .string ⟨#[77, 73, 78]⟩ | 1 => SLF (f 98) u [⟨#[40]⟩, ⟨#[83, 69, 76, 69, 67, 84]⟩, ⟨#[77, 73, 78]⟩, ⟨#[40]⟩] | 2 => f 99 = .pointer (some ⟨w.heap.size, 9, none⟩) | 3 => f 100 = .slice (some ⟨g, o, none⟩) e.sub.length e.cs | 4 => f 101 = .pointer (some ⟨g, o, none⟩) | 5 => f 102 = .pointer (some ⟨g, o + 1, none⟩) | 6 => f 103 = .slice (some ⟨gi, oi, none⟩) q.items.length q.ci | 7 => f 104 = .pointer (some ⟨gi, oi, none⟩) | 8 => f 105 = .agg #[.int .i64 ie.k, .int .i64 ie.op, .bool ie.no, .int .i64 ie.vk, .int .i64 ie.vi, .string ie.vt, .string ie.tb, .string ie.nm, .slice ie.pa ie.args.length ie.ca, .slice ie.ps ie.sub.length ie.cs] | 9 => SLF (f 106) u I | 10 => SLF (f 107) u [⟨#[41]⟩] | 11 => f 108 = .pointer (some ⟨w.heap.size, 9, none⟩) | 12 => f 109 = .slice (some ⟨g, o, none⟩) e.sub.length e.cs | 13 => f 110 = .pointer (some ⟨g, o, none⟩) | 14 => f 111 = .agg #[.bool q.st, .slice q.pi q.items.length q.ci, .string q.fr, .slice q.pw q.wh.length q.cw] | 15 => SLF (f 112) u A | 16 => SLF (f 113) u [⟨#[41]⟩] | 17 => CatF (f 114) u 5 (L5 [⟨#[40]⟩, ⟨#[83, 69, 76, 69, 67, 84]⟩, ⟨#[77, 73, 78]⟩, ⟨#[40]⟩] I [⟨#[41]⟩] A [⟨#[41]⟩]) | 18 => SLF (f 115) u ([⟨#[40]⟩, ⟨#[83, 69, 76, 69, 67, 84]⟩, ⟨#[77, 73, 78]⟩, ⟨#[40]⟩] ++ I ++ [⟨#[41]⟩] ++ A ++ [⟨#[41]⟩]) | 19 => SLF (f 2) u ([⟨#[40]⟩, ⟨#[83, 69, 76, 69, 67, 84]⟩, ⟨#[77, 73, 78]⟩, ⟨#[40]⟩] ++ I ++ [⟨#[41]⟩] ++ A ++ [⟨#[41]⟩]) | _ => True) (by kernel_rfl) _ rfl (by kernel_rfl) (by kernel_rfl) (Nat.le_refl _) ((Below.refl u1.heap.size u1).drew) (fun u v h hb => below_next h hb) ?_ ?_ ?_ ?_
  · intro jx f g u u2 hs hb h
    match jx, hs, h with
    | 0, hs, h =>
      have e97 := hs 97 (by decide)
      simp only [e97]
      exact h
    | 1, hs, h =>
      have e98 := hs 98 (by decide)
      simp only [e98]
      exact h.low hb
    | 2, hs, h =>
      have e99 := hs 99 (by decide)
      simp only [e99]
      exact h
    | 3, hs, h =>
      have e100 := hs 100 (by decide)
      simp only [e100]
      exact h
    | 4, hs, h =>
      have e101 := hs 101 (by decide)
      simp only [e101]
      exact h
    | 5, hs, h =>
      have e102 := hs 102 (by decide)
      simp only [e102]
      exact h
    | 6, hs, h =>
      have e103 := hs 103 (by decide)
      simp only [e103]
      exact h
    | 7, hs, h =>
      have e104 := hs 104 (by decide)
      simp only [e104]
      exact h
    | 8, hs, h =>
      have e105 := hs 105 (by decide)
      simp only [e105]
      exact h
    | 9, hs, h =>
      have e106 := hs 106 (by decide)
      simp only [e106]
      exact h.low hb
    | 10, hs, h =>
      have e107 := hs 107 (by decide)
      simp only [e107]
      exact h.low hb
    | 11, hs, h =>
      have e108 := hs 108 (by decide)
      simp only [e108]
      exact h
    | 12, hs, h =>
      have e109 := hs 109 (by decide)
      simp only [e109]
      exact h
    | 13, hs, h =>
      have e110 := hs 110 (by decide)
      simp only [e110]
      exact h
    | 14, hs, h =>
      have e111 := hs 111 (by decide)
      simp only [e111]
      exact h
    | 15, hs, h =>
      have e112 := hs 112 (by decide)
      simp only [e112]
      exact h.low hb
    | 16, hs, h =>
      have e113 := hs 113 (by decide)
      simp only [e113]
      exact h.low hb
    | 17, hs, h =>
      have e114 := hs 114 (by decide)
      simp only [e114]
      exact h.low hb
    | 18, hs, h =>
      have e115 := hs 115 (by decide)
      simp only [e115]
      exact h.low hb
    | 19, hs, h =>
      have e2 := hs 2 (by decide)
      simp only [e2]
      exact h.low hb
    | _ + 20, _, h => exact h
  · intro ix o hix hne f u hold hbe hgr hJ huse
    obtain ⟨kt, kc, kf⟩ := evF_all f
    match ix, hix, hne with
    | 0, hix, _ =>
      simp only [List.getElem?_cons_zero, Option.some.injEq] at hix
      subst hix
      have h3 : f 3 = .string ⟨#[77, 73, 78]⟩ := (hold 3 (by kernel_rfl)).trans rfl
      refine gives_K fun K hK => ?_
      go_simp
      refine gives_value (hK _ _ ⟨Below.refl _ _, ?_⟩)
      exact upF_self _ _ _
    | 1, hix, _ =>
      simp only [List.getElem?_cons_zero, List.getElem?_cons_succ, Option.some.injEq] at hix
      subst hix
      have u0 := huse 0 (by decide)
      simp only at u0
      refine gives_K fun K hK => ?_
      go_simp
      exact gives_value (hK _ _ ⟨below_alloc _ _, by rw [upF_self]; exact slf_four u ⟨#[40]⟩ ⟨#[83, 69, 76, 69, 67, 84]⟩ ⟨#[77, 73, 78]⟩ ⟨#[40]⟩ _⟩)
    | 2, hix, _ =>
      simp only [List.getElem?_cons_zero, List.getElem?_cons_succ, Option.some.injEq] at hix
      subst hix
      have h1 : f 1 = .pointer (some ⟨w.heap.size, 0, none⟩) := (hold 1 (by kernel_rfl)).trans rfl
      refine gives_K fun K hK => ?_
      go_simp
      refine gives_value (hK _ _ ⟨Below.refl _ _, ?_⟩)
      exact upF_self _ _ _
    | 3, hix, _ =>
      simp only [List.getElem?_cons_zero, List.getElem?_cons_succ, Option.some.injEq] at hix
      subst hix
      have u2 := huse 2 (by decide)
      simp only at u2
      obtain ⟨xl, x0, x1, x2, x3, x4, x5, x6, x7, x8, x9, xf⟩ := HX1.out.low (hJ (by kernel_rfl))
      rw [HPS.out] at x9
      refine gives_K fun K hK => ?_
      go_simp
      refine gives_value (hK _ _ ⟨Below.refl _ _, ?_⟩)
      exact upF_self _ _ _
    | 4, hix, _ =>
      simp only [List.getElem?_cons_zero, List.getElem?_cons_succ, Option.some.injEq] at hix
      subst hix
      have u3 := huse 3 (by decide)
      simp only at u3
      refine gives_K fun K hK => ?_
      go_simp
      refine gives_value (hK _ _ ⟨Below.refl _ _, ?_⟩)
      exact upF_self _ _ _
    | 5, hix, _ =>
      simp only [List.getElem?_cons_zero, List.getElem?_cons_succ, Option.some.injEq] at hix
      subst hix
      have u4 := huse 4 (by decide)
      simp only at u4
      refine gives_K fun K hK => ?_
      go_simp
      refine gives_value (hK _ _ ⟨Below.refl _ _, ?_⟩)
      exact upF_self _ _ _
    | 6, hix, _ =>
      simp only [List.getElem?_cons_zero, List.getElem?_cons_succ, Option.some.injEq] at hix
      subst hix
      have u5 := huse 5 (by decide)
      simp only at u5
      obtain ⟨c0, c1, d2, c3⟩ := HC1.out.keep ((hJ (by kernel_rfl)).block g hgs)
      rw [HPI.out] at c1
      refine gives_K fun K hK => ?_
      go_simp
      refine gives_value (hK _ _ ⟨Below.refl _ _, ?_⟩)
      exact upF_self _ _ _
    | 7, hix, _ =>
      simp only [List.getElem?_cons_zero, List.getElem?_cons_succ, Option.some.injEq] at hix
      subst hix
      have u6 := huse 6 (by decide)
      simp only at u6
      refine gives_K fun K hK => ?_
      go_simp
      refine gives_value (hK _ _ ⟨Below.refl _ _, ?_⟩)
      exact upF_self _ _ _
    | 8, hix, _ =>
      simp only [List.getElem?_cons_zero, List.getElem?_cons_succ, Option.some.injEq] at hix
      subst hix
      have u7 := huse 7 (by decide)
      simp only at u7
      obtain ⟨y0, y1, y2, y3, y4, y5, y6, y7, y8, y9⟩ := HCI.out.keep ((hJ (by kernel_rfl)).block gi hgis)
      refine gives_K fun K hK => ?_
      go_simp
      refine gives_value (hK _ _ ⟨Below.refl _ _, ?_⟩)
      exact upF_self _ _ _
    | 9, hix, _ =>
      simp only [List.getElem?_cons_zero, List.getElem?_cons_succ, Option.some.injEq] at hix
      subst hix
      have u8 := huse 8 (by decide)
      simp only at u8
      have hJw := hJ (by kernel_rfl)
      have HC := HW.out _ (HE1.out.low hJw) (HYI.out.low hJw)
      refine gives_K fun K hK => ?_
      go_simp
      refine gives_enter (HC.mono ?_)
      rintro e' w3 ⟨p3, c3, rfl, hs3, hb3⟩
      exact ⟨_, rfl, hK _ _ ⟨hb3, by rw [upF_self]; exact ⟨p3, c3, rfl, hs3⟩⟩⟩
    | 10, hix, _ =>
      simp only [List.getElem?_cons_zero, List.getElem?_cons_succ, Option.some.injEq] at hix
      subst hix
      refine gives_K fun K hK => ?_
      go_simp
      exact gives_value (hK _ _ ⟨below_alloc _ _, by rw [upF_self]; exact slf_one u ⟨#[41]⟩ _⟩)
    | 11, hix, _ =>
      simp only [List.getElem?_cons_zero, List.getElem?_cons_succ, Option.some.injEq] at hix
      subst hix
      have h1 : f 1 = .pointer (some ⟨w.heap.size, 0, none⟩) := (hold 1 (by kernel_rfl)).trans rfl
      refine gives_K fun K hK => ?_
      go_simp
      refine gives_value (hK _ _ ⟨Below.refl _ _, ?_⟩)
      exact upF_self _ _ _
    | 12, hix, _ =>
      simp only [List.getElem?_cons_zero, List.getElem?_cons_succ, Option.some.injEq] at hix
      subst hix
      have u11 := huse 11 (by decide)
      simp only at u11
      obtain ⟨xl, x0, x1, x2, x3, x4, x5, x6, x7, x8, x9, xf⟩ := HX1.out.low (hJ (by kernel_rfl))
      rw [HPS.out] at x9
      refine gives_K fun K hK => ?_
      go_simp
      refine gives_value (hK _ _ ⟨Below.refl _ _, ?_⟩)
      exact upF_self _ _ _
    | 13, hix, _ =>
      simp only [List.getElem?_cons_zero, List.getElem?_cons_succ, Option.some.injEq] at hix
      subst hix
      have u12 := huse 12 (by decide)
      simp only at u12
      refine gives_K fun K hK => ?_
      go_simp
      refine gives_value (hK _ _ ⟨Below.refl _ _, ?_⟩)
      exact upF_self _ _ _
    | 14, hix, _ =>
      simp only [List.getElem?_cons_zero, List.getElem?_cons_succ, Option.some.injEq] at hix
      subst hix
      have u13 := huse 13 (by decide)
      simp only at u13
      obtain ⟨c0, c1, d2, c3⟩ := HC1.out.keep ((hJ (by kernel_rfl)).block g hgs)
      refine gives_K fun K hK => ?_
      go_simp
      refine gives_value (hK _ _ ⟨Below.refl _ _, ?_⟩)
      exact upF_self _ _ _
    | 15, hix, _ =>
      simp only [List.getElem?_cons_zero, List.getElem?_cons_succ, Option.some.injEq] at hix
      subst hix
      have u14 := huse 14 (by decide)
      simp only at u14
      have hJw := hJ (by kernel_rfl)
      have HC := HG.out _ (HE1.out.low hJw) (HY1.out.low hJw)
      refine gives_K fun K hK => ?_
      go_simp
      refine gives_enter (HC.mono ?_)
      rintro e' w3 ⟨p3, c3, rfl, hs3, hb3⟩
      exact ⟨_, rfl, hK _ _ ⟨hb3, by rw [upF_self]; exact ⟨p3, c3, rfl, hs3⟩⟩⟩
    | 16, hix, _ =>
      simp only [List.getElem?_cons_zero, List.getElem?_cons_succ, Option.some.injEq] at hix
      subst hix
      refine gives_K fun K hK => ?_
      go_simp
      exact gives_value (hK _ _ ⟨below_alloc _ _, by rw [upF_self]; exact slf_one u ⟨#[41]⟩ _⟩)
    | 17, hix, _ =>
      simp only [List.getElem?_cons_zero, List.getElem?_cons_succ, Option.some.injEq] at hix
      subst hix
      have u1 := huse 1 (by decide)
      have u9 := huse 9 (by decide)
      have u10 := huse 10 (by decide)
      have u15 := huse 15 (by decide)
      have u16 := huse 16 (by decide)
      simp only at u1 u9 u10 u15 u16
      obtain ⟨p0, c0, g0, s0⟩ := u1
      obtain ⟨p1, c1, g1, s1⟩ := u9
      obtain ⟨p2, c2, g2, s2⟩ := u10
      obtain ⟨p3, c3, g3, s3⟩ := u15
      obtain ⟨p4, c4, g4, s4⟩ := u16
      refine gives_K fun K hK => ?_
      go_simp
      exact gives_value (hK _ _ ⟨below_alloc _ _, by rw [upF_self]; exact catF_five p0 p1 p2 p3 p4 c0 c1 c2 c3 c4 [⟨#[40]⟩, ⟨#[83, 69, 76, 69, 67, 84]⟩, ⟨#[77, 73, 78]⟩, ⟨#[40]⟩] I [⟨#[41]⟩] A [⟨#[41]⟩] u _ s0 s1 s2 s3 s4⟩)
    | 18, hix, _ =>
      simp only [List.getElem?_cons_zero, List.getElem?_cons_succ, Option.some.injEq] at hix
      subst hix
      have u17 := huse 17 (by decide)
      simp only at u17
      obtain ⟨k, g, HC⟩ := u17.calls (by decide) (by rw [catN5]; simp only [List.length_append, List.length_cons, List.length_nil]; omega)
      refine gives_K fun K hK => ?_
      go_simp
      refine gives_enter (HC.mono ?_)
      rintro e' w3 ⟨p3, c3, rfl, hs3, hb3⟩
      exact ⟨_, rfl, hK _ _ ⟨hb3, by rw [upF_self]; exact ⟨p3, c3, rfl, hs3⟩⟩⟩
    | 19, hix, _ =>
      simp only [List.getElem?_cons_zero, List.getElem?_cons_succ, Option.some.injEq] at hix
      subst hix
      have u18 := huse 18 (by decide)
      simp only at u18
      refine gives_K fun K hK => ?_
      go_simp
      exact gives_value (hK _ _ ⟨Below.refl _ _, by rw [upF_self]; exact u18⟩)
    | ix + 20, hix, _ => simp at hix
  · intro ix o hix hin f u hold hbe hgr hJ huse
    obtain ⟨kt, kc, kf⟩ := evF_all f
    match ix, hix, hin with
    | 0, _, hin => exact absurd hin (by decide)
    | 1, _, hin => exact absurd hin (by decide)
    | 2, _, hin => exact absurd hin (by decide)
    | 3, _, hin => exact absurd hin (by decide)
    | 4, _, hin => exact absurd hin (by decide)
    | 5, _, hin => exact absurd hin (by decide)
    | 6, _, hin => exact absurd hin (by decide)
    | 7, _, hin => exact absurd hin (by decide)
    | 8, _, hin => exact absurd hin (by decide)
    | 9, _, hin => exact absurd hin (by decide)
    | 10, _, hin => exact absurd hin (by decide)
    | 11, _, hin => exact absurd hin (by decide)
    | 12, _, hin => exact absurd hin (by decide)
    | 13, _, hin => exact absurd hin (by decide)
    | 14, _, hin => exact absurd hin (by decide)
    | 15, _, hin => exact absurd hin (by decide)
    | 16, _, hin => exact absurd hin (by decide)
    | 17, _, hin => exact absurd hin (by decide)
    | 18, _, hin => exact absurd hin (by decide)
    | 19, _, hin => exact absurd hin (by decide)
    | ix + 20, hix, _ => simp at hix
  · intro f2 u2 hbe hall
    have u19 := hall 19 (by decide) (by kernel_rfl)
    simp only at u19
    clear hall
    simp only [putAll, List.foldl_cons, List.foldl_nil, Act.put, List.setIfInBounds_toArray, List.set_cons_succ, List.set_cons_zero]
    obtain ⟨p4, c4, g4, s4⟩ := u19
    rw [g4]
    have HS4 := Lib.hid s4
    have HB4 := Lib.hid (below_next HB1.out (Below.trans ((Below.refl u1.heap.size u1).drew) hbe))
    clear hbe g4 s4 HG HW HY1 HYI HC1 HCI
    go_wp2_with fail
    go_ret
    rw [HL.out]
    exact ⟨p4, c4, by simp only [List.length_append, List.length_cons, List.length_nil]; rfl, HS4.out, HB4.out⟩
set_option maxHeartbeats 4000000 in
theorem rw_max {d : Nat} (H : RWDoes ls d) {N : Nat → Prop} (e : Ex) (w : World) (hE : Env ls w) (hA : ExIn N w (ExAt N w d) e) (hV : FineV (vE d) e) (hz : (wOf (wT d) e).length ≤ 100000000000) (hk : e.k = 12) :
    Calls Tryz.prog 31 #[exV e] w (RWPost (wOf (wT d) e) w) := by
  have HL := Lib.hid (show wOf (wT d) e = [⟨#[40]⟩, ⟨#[83, 69, 76, 69, 67, 84]⟩, ⟨#[77, 65, 88]⟩, ⟨#[40]⟩] ++ wT d (eAt (qAt e.sub 0).items 0) ++ [⟨#[41]⟩] ++ fromT (wT d) (qAt e.sub 0) ++ [⟨#[41]⟩] by rw [wOf_sub (by omega)]; unfold subT headT; rw [hk]; simp [aggS])
  have hzz : (wT d (eAt (qAt e.sub 0).items 0)).length + (fromT (wT d) (qAt e.sub 0)).length + 6 ≤ 100000000000 := by rw [HL.out] at hz; simp only [List.length_append, List.length_cons, List.length_nil] at hz; omega
  have h1 : e.sub.length = 1 := by rw [hV.subn, hk]; rfl
  have hQ := quB_fine (hV.fine.sub (qAt e.sub 0) (qAt_mem (by omega)))
  have hi1 : (qAt e.sub 0).items.length = 1 := by rw [hQ.items, hk]; rfl
  have hvi : vE d (eAt (qAt e.sub 0).items 0) = true := hQ.allI _ (eAt_mem (by omega))
  obtain ⟨g, o, hps, hg, -, hC, hY⟩ := hA.sub 0 (by omega)
  obtain ⟨gi, oi, hpi, hgi, -, hCi, hYi⟩ := hY.items 0 (by omega)
  have HX1 := Lib.hid (ExB.new w e 27)
  have HB1 := Lib.hid (below_alloc w (.cells #[.int .i64 e.k, .int .i64 e.op, .bool e.no, .int .i64 e.vk, .int .i64 e.vi, .string e.vt, .string e.tb, .string e.nm, .slice e.pa e.args.length e.ca, .slice e.ps e.sub.length e.cs] 27))
  rw [Nat.zero_mul, Nat.add_zero] at hC hCi
  have HC1 := Lib.hid (hC.keep (HB1.out.block g hg))
  have HCI := Lib.hid (hCi.keep (HB1.out.block gi hgi))
  have hgs := Nat.lt_of_lt_of_le hg HB1.out.size
  have hgis := Nat.lt_of_lt_of_le hgi HB1.out.size
  have HY1 := Lib.hid (hY.low HB1.out)
  have HYI := Lib.hid (hYi.low HB1.out)
  have HE1 := Lib.hid (hE.low HB1.out)
  have HG := Lib.hid (fun v hE h => rfrom_any H (N := N) (qAt e.sub 0) v hE h hQ.wh hQ.allW (by omega))
  have HW := Lib.hid (fun v hE h => H N (eAt (qAt e.sub 0).items 0) v hE h hvi (by omega))
  have HPS := Lib.hid hps
  have HPI := Lib.hid hpi
  have f1 : (e.k == 1) = false := by rw [hk]; rfl
  have f2 : (e.k == 2) = false := by rw [hk]; rfl
  have f3 : (e.k == 3) = false := by rw [hk]; rfl
  have f4 : (e.k == 4) = false := by rw [hk]; rfl
  have f5 : (e.k == 5) = false := by rw [hk]; rfl
  have f6 : (e.k == 6) = false := by rw [hk]; rfl
  have f7 : (e.k == 7) = false := by rw [hk]; rfl
  have f8 : (e.k == 8) = false := by rw [hk]; rfl
  have f9 : (e.k == 9) = false := by rw [hk]; rfl
  have f10 : (e.k == 10) = false := by rw [hk]; rfl
  have f11 : (e.k == 11) = false := by rw [hk]; rfl
  have f12 : (e.k == 12) = true := by rw [hk]; rfl
  have hsI : (0 : Int) < e.sub.length := by omega
  have hsN : 0 < e.sub.length := by omega
  have hiI : (0 : Int) < (qAt e.sub 0).items.length := by omega
  have hiN : 0 < (qAt e.sub 0).items.length := by omega
  clear hk hz hA hE hV h1 hQ hps hC hY hCi hYi hpi hi1 hvi
  generalize fromT (wT d) (qAt e.sub 0) = A at *
  generalize qAt e.sub 0 = q at *
  generalize wT d (eAt q.items 0) = I at *
  generalize eAt q.items 0 = ie at *
  unfold quV at HG
  unfold exV at HW
  unfold exV
  go_enter Tryz.func31, Tryz.ntmps31
  go_upto_region 1 with (fail)
  generalize World.alloc _ _ = u1 at *
  obtain ⟨xl, x0, x1, x2, x3, x4, x5, x6, x7, x8, x9, xf⟩ := HX1.out
  go_upto_region 27 with (fail)
  clear xl x0 x1 x2 x3 x4 x5 x6 x7 x8 x9 xf
  refine wp_region_late (use := [[], [0], [], [2], [3], [4], [5], [6], [7], [8], [], [], [11], [12], [13], [14], [], [1, 9, 10, 15, 16], [17], [18]]) (sl := [[97], [98], [99], [100], [101], [102], [103], [104], [105], [106], [107], [108], [109], [110], [111], [112], [113], [114], [115], [2]]) (live := [[], [], [], [], [], [], [], [], [], [], [], [], [], [], [], [], [], [], [], []]) (late := []) (brk := []) (B := u1.heap.size) (J := fun u => Below u1.heap.size u1 u) (Φ := fun ix f u => match ix with | 0 => f 97 = .string ⟨#[77, 65, 88]⟩ | 1 => SLF (f 98) u [⟨#[40]⟩, ⟨#[83, 69, 76, 69, 67, 84]⟩, ⟨#[77, 65, 88]⟩, ⟨#[40]⟩] | 2 => f 99 = .pointer (some ⟨w.heap.size, 9, none⟩) | 3 => f 100 = .slice (some ⟨g, o, none⟩) e.sub.length e.cs | 4 => f 101 = .pointer (some ⟨g, o, none⟩) | 5 => f 102 = .pointer (some ⟨g, o + 1, none⟩) | 6 => f 103 = .slice (some ⟨gi, oi, none⟩) q.items.length q.ci | 7 => f 104 = .pointer (some ⟨gi, oi, none⟩) | 8 => f 105 = .agg #[.int .i64 ie.k, .int .i64 ie.op, .bool ie.no, .int .i64 ie.vk, .int .i64 ie.vi, .string ie.vt, .string ie.tb, .string ie.nm, .slice ie.pa ie.args.length ie.ca, .slice ie.ps ie.sub.length ie.cs] | 9 => SLF (f 106) u I | 10 => SLF (f 107) u [⟨#[41]⟩] | 11 => f 108 = .pointer (some ⟨w.heap.size, 9, none⟩) | 12 => f 109 = .slice (some ⟨g, o, none⟩) e.sub.length e.cs | 13 => f 110 = .pointer (some ⟨g, o, none⟩) | 14 => f 111 = .agg #[.bool q.st, .slice q.pi q.items.length q.ci, .string q.fr, .slice q.pw q.wh.length q.cw] | 15 => SLF (f 112) u A | 16 => SLF (f 113) u [⟨#[41]⟩] | 17 => CatF (f 114) u 5 (L5 [⟨#[40]⟩, ⟨#[83, 69, 76, 69, 67, 84]⟩, ⟨#[77, 65, 88]⟩, ⟨#[40]⟩] I [⟨#[41]⟩] A [⟨#[41]⟩]) | 18 => SLF (f 115) u ([⟨#[40]⟩, ⟨#[83, 69, 76, 69, 67, 84]⟩, ⟨#[77, 65, 88]⟩, ⟨#[40]⟩] ++ I ++ [⟨#[41]⟩] ++ A ++ [⟨#[41]⟩]) | 19 => SLF (f 2) u ([⟨#[40]⟩, ⟨#[83, 69, 76, 69, 67, 84]⟩, ⟨#[77, 65, 88]⟩, ⟨#[40]⟩] ++ I ++ [⟨#[41]⟩] ++ A ++ [⟨#[41]⟩]) | _ => True) (by kernel_rfl) _ rfl (by kernel_rfl) (by kernel_rfl) (Nat.le_refl _) ((Below.refl u1.heap.size u1).drew) (fun u v h hb => below_next h hb) ?_ ?_ ?_ ?_
  · intro jx f g u u2 hs hb h
    match jx, hs, h with
    | 0, hs, h =>
      have e97 := hs 97 (by decide)
      simp only [e97]
      exact h
    | 1, hs, h =>
      have e98 := hs 98 (by decide)
      simp only [e98]
      exact h.low hb
    | 2, hs, h =>
      have e99 := hs 99 (by decide)
      simp only [e99]
      exact h
    | 3, hs, h =>
      have e100 := hs 100 (by decide)
      simp only [e100]
      exact h
    | 4, hs, h =>
      have e101 := hs 101 (by decide)
      simp only [e101]
      exact h
    | 5, hs, h =>
      have e102 := hs 102 (by decide)
      simp only [e102]
      exact h
    | 6, hs, h =>
      have e103 := hs 103 (by decide)
      simp only [e103]
      exact h
    | 7, hs, h =>
      have e104 := hs 104 (by decide)
      simp only [e104]
      exact h
    | 8, hs, h =>
      have e105 := hs 105 (by decide)
      simp only [e105]
      exact h
    | 9, hs, h =>
      have e106 := hs 106 (by decide)
      simp only [e106]
      exact h.low hb
    | 10, hs, h =>
      have e107 := hs 107 (by decide)
      simp only [e107]
      exact h.low hb
    | 11, hs, h =>
      have e108 := hs 108 (by decide)
      simp only [e108]
      exact h
    | 12, hs, h =>
      have e109 := hs 109 (by decide)
      simp only [e109]
      exact h
    | 13, hs, h =>
      have e110 := hs 110 (by decide)
      simp only [e110]
      exact h
    | 14, hs, h =>
      have e111 := hs 111 (by decide)
      simp only [e111]
      exact h
    | 15, hs, h =>
      have e112 := hs 112 (by decide)
      simp only [e112]
      exact h.low hb
    | 16, hs, h =>
      have e113 := hs 113 (by decide)
      simp only [e113]
      exact h.low hb
    | 17, hs, h =>
      have e114 := hs 114 (by decide)
      simp only [e114]
      exact h.low hb
    | 18, hs, h =>
      have e115 := hs 115 (by decide)
      simp only [e115]
      exact h.low hb
    | 19, hs, h =>
      have e2 := hs 2 (by decide)
      simp only [e2]
      exact h.low hb
    | _ + 20, _, h => exact h
  · intro ix o hix hne f u hold hbe hgr hJ huse
    obtain ⟨kt, kc, kf⟩ := evF_all f
    match ix, hix, hne with
    | 0, hix, _ =>
      simp only [List.getElem?_cons_zero, Option.some.injEq] at hix
      subst hix
      have h3 : f 3 = .string ⟨#[77, 65, 88]⟩ := (hold 3 (by kernel_rfl)).trans rfl
      refine gives_K fun K hK => ?_
      go_simp
      refine gives_value (hK _ _ ⟨Below.refl _ _, ?_⟩)
      exact upF_self _ _ _
    | 1, hix, _ =>
      simp only [List.getElem?_cons_zero, List.getElem?_cons_succ, Option.some.injEq] at hix
      subst hix
      have u0 := huse 0 (by decide)
      simp only at u0
      refine gives_K fun K hK => ?_
      go_simp
      exact gives_value (hK _ _ ⟨below_alloc _ _, by rw [upF_self]; exact slf_four u ⟨#[40]⟩ ⟨#[83, 69, 76, 69, 67, 84]⟩ ⟨#[77, 65, 88]⟩ ⟨#[40]⟩ _⟩)
    | 2, hix, _ =>
      simp only [List.getElem?_cons_zero, List.getElem?_cons_succ, Option.some.injEq] at hix
      subst hix
      have h1 : f 1 = .pointer (some ⟨w.heap.size, 0, none⟩) := (hold 1 (by kernel_rfl)).trans rfl
      refine gives_K fun K hK => ?_
      go_simp
      refine gives_value (hK _ _ ⟨Below.refl _ _, ?_⟩)
      exact upF_self _ _ _
    | 3, hix, _ =>
      simp only [List.getElem?_cons_zero, List.getElem?_cons_succ, Option.some.injEq] at hix
      subst hix
      have u2 := huse 2 (by decide)
      simp only at u2
      obtain ⟨xl, x0, x1, x2, x3, x4, x5, x6, x7, x8, x9, xf⟩ := HX1.out.low (hJ (by kernel_rfl))
      rw [HPS.out] at x9
      refine gives_K fun K hK => ?_
      go_simp
      refine gives_value (hK _ _ ⟨Below.refl _ _, ?_⟩)
      exact upF_self _ _ _
    | 4, hix, _ =>
      simp only [List.getElem?_cons_zero, List.getElem?_cons_succ, Option.some.injEq] at hix
      subst hix
      have u3 := huse 3 (by decide)
      simp only at u3
      refine gives_K fun K hK => ?_
      go_simp
      refine gives_value (hK _ _ ⟨Below.refl _ _, ?_⟩)
      exact upF_self _ _ _
    | 5, hix, _ =>
      simp only [List.getElem?_cons_zero, List.getElem?_cons_succ, Option.some.injEq] at hix
      subst hix
      have u4 := huse 4 (by decide)
      simp only at u4
      refine gives_K fun K hK => ?_
      go_simp
      refine gives_value (hK _ _ ⟨Below.refl _ _, ?_⟩)
      exact upF_self _ _ _
    | 6, hix, _ =>
      simp only [List.getElem?_cons_zero, List.getElem?_cons_succ, Option.some.injEq] at hix
      subst hix
      have u5 := huse 5 (by decide)
      simp only at u5
      obtain ⟨c0, c1, d2, c3⟩ := HC1.out.keep ((hJ (by kernel_rfl)).block g hgs)
      rw [HPI.out] at c1
      refine gives_K fun K hK => ?_
      go_simp
      refine gives_value (hK _ _ ⟨Below.refl _ _, ?_⟩)
      exact upF_self _ _ _
    | 7, hix, _ =>
      simp only [List.getElem?_cons_zero, List.getElem?_cons_succ, Option.some.injEq] at hix
      subst hix
      have u6 := huse 6 (by decide)
      simp only at u6
      refine gives_K fun K hK => ?_
      go_simp
      refine gives_value (hK _ _ ⟨Below.refl _ _, ?_⟩)
      exact upF_self _ _ _
    | 8, hix, _ =>
      simp only [List.getElem?_cons_zero, List.getElem?_cons_succ, Option.some.injEq] at hix
      subst hix
      have u7 := huse 7 (by decide)
      simp only at u7
      obtain ⟨y0, y1, y2, y3, y4, y5, y6, y7, y8, y9⟩ := HCI.out.keep ((hJ (by kernel_rfl)).block gi hgis)
      refine gives_K fun K hK => ?_
      go_simp
      refine gives_value (hK _ _ ⟨Below.refl _ _, ?_⟩)
      exact upF_self _ _ _
    | 9, hix, _ =>
      simp only [List.getElem?_cons_zero, List.getElem?_cons_succ, Option.some.injEq] at hix
      subst hix
      have u8 := huse 8 (by decide)
      simp only at u8
      have hJw := hJ (by kernel_rfl)
      have HC := HW.out _ (HE1.out.low hJw) (HYI.out.low hJw)
      refine gives_K fun K hK => ?_
      go_simp
      refine gives_enter (HC.mono ?_)
      rintro e' w3 ⟨p3, c3, rfl, hs3, hb3⟩
      exact ⟨_, rfl, hK _ _ ⟨hb3, by rw [upF_self]; exact ⟨p3, c3, rfl, hs3⟩⟩⟩
    | 10, hix, _ =>
      simp only [List.getElem?_cons_zero, List.getElem?_cons_succ, Option.some.injEq] at hix
      subst hix
      refine gives_K fun K hK => ?_
      go_simp
      exact gives_value (hK _ _ ⟨below_alloc _ _, by rw [upF_self]; exact slf_one u ⟨#[41]⟩ _⟩)
    | 11, hix, _ =>
      simp only [List.getElem?_cons_zero, List.getElem?_cons_succ, Option.some.injEq] at hix
      subst hix
      have h1 : f 1 = .pointer (some ⟨w.heap.size, 0, none⟩) := (hold 1 (by kernel_rfl)).trans rfl
      refine gives_K fun K hK => ?_
      go_simp
      refine gives_value (hK _ _ ⟨Below.refl _ _, ?_⟩)
      exact upF_self _ _ _
    | 12, hix, _ =>
      simp only [List.getElem?_cons_zero, List.getElem?_cons_succ, Option.some.injEq] at hix
      subst hix
      have u11 := huse 11 (by decide)
      simp only at u11
      obtain ⟨xl, x0, x1, x2, x3, x4, x5, x6, x7, x8, x9, xf⟩ := HX1.out.low (hJ (by kernel_rfl))
      rw [HPS.out] at x9
      refine gives_K fun K hK => ?_
      go_simp
      refine gives_value (hK _ _ ⟨Below.refl _ _, ?_⟩)
      exact upF_self _ _ _
    | 13, hix, _ =>
      simp only [List.getElem?_cons_zero, List.getElem?_cons_succ, Option.some.injEq] at hix
      subst hix
      have u12 := huse 12 (by decide)
      simp only at u12
      refine gives_K fun K hK => ?_
      go_simp
      refine gives_value (hK _ _ ⟨Below.refl _ _, ?_⟩)
      exact upF_self _ _ _
    | 14, hix, _ =>
      simp only [List.getElem?_cons_zero, List.getElem?_cons_succ, Option.some.injEq] at hix
      subst hix
      have u13 := huse 13 (by decide)
      simp only at u13
      obtain ⟨c0, c1, d2, c3⟩ := HC1.out.keep ((hJ (by kernel_rfl)).block g hgs)
      refine gives_K fun K hK => ?_
      go_simp
      refine gives_value (hK _ _ ⟨Below.refl _ _, ?_⟩)
      exact upF_self _ _ _
    | 15, hix, _ =>
      simp only [List.getElem?_cons_zero, List.getElem?_cons_succ, Option.some.injEq] at hix
      subst hix
      have u14 := huse 14 (by decide)
      simp only at u14
      have hJw := hJ (by kernel_rfl)
      have HC := HG.out _ (HE1.out.low hJw) (HY1.out.low hJw)
      refine gives_K fun K hK => ?_
      go_simp
      refine gives_enter (HC.mono ?_)
      rintro e' w3 ⟨p3, c3, rfl, hs3, hb3⟩
      exact ⟨_, rfl, hK _ _ ⟨hb3, by rw [upF_self]; exact ⟨p3, c3, rfl, hs3⟩⟩⟩
    | 16, hix, _ =>
      simp only [List.getElem?_cons_zero, List.getElem?_cons_succ, Option.some.injEq] at hix
      subst hix
      refine gives_K fun K hK => ?_
      go_simp
      exact gives_value (hK _ _ ⟨below_alloc _ _, by rw [upF_self]; exact slf_one u ⟨#[41]⟩ _⟩)
    | 17, hix, _ =>
      simp only [List.getElem?_cons_zero, List.getElem?_cons_succ, Option.some.injEq] at hix
      subst hix
      have u1 := huse 1 (by decide)
      have u9 := huse 9 (by decide)
      have u10 := huse 10 (by decide)
      have u15 := huse 15 (by decide)
      have u16 := huse 16 (by decide)
      simp only at u1 u9 u10 u15 u16
      obtain ⟨p0, c0, g0, s0⟩ := u1
      obtain ⟨p1, c1, g1, s1⟩ := u9
      obtain ⟨p2, c2, g2, s2⟩ := u10
      obtain ⟨p3, c3, g3, s3⟩ := u15
      obtain ⟨p4, c4, g4, s4⟩ := u16
      refine gives_K fun K hK => ?_
      go_simp
      exact gives_value (hK _ _ ⟨below_alloc _ _, by rw [upF_self]; exact catF_five p0 p1 p2 p3 p4 c0 c1 c2 c3 c4 [⟨#[40]⟩, ⟨#[83, 69, 76, 69, 67, 84]⟩, ⟨#[77, 65, 88]⟩, ⟨#[40]⟩] I [⟨#[41]⟩] A [⟨#[41]⟩] u _ s0 s1 s2 s3 s4⟩)
    | 18, hix, _ =>
      simp only [List.getElem?_cons_zero, List.getElem?_cons_succ, Option.some.injEq] at hix
      subst hix
      have u17 := huse 17 (by decide)
      simp only at u17
      obtain ⟨k, g, HC⟩ := u17.calls (by decide) (by rw [catN5]; simp only [List.length_append, List.length_cons, List.length_nil]; omega)
      refine gives_K fun K hK => ?_
      go_simp
      refine gives_enter (HC.mono ?_)
      rintro e' w3 ⟨p3, c3, rfl, hs3, hb3⟩
      exact ⟨_, rfl, hK _ _ ⟨hb3, by rw [upF_self]; exact ⟨p3, c3, rfl, hs3⟩⟩⟩
    | 19, hix, _ =>
      simp only [List.getElem?_cons_zero, List.getElem?_cons_succ, Option.some.injEq] at hix
      subst hix
      have u18 := huse 18 (by decide)
      simp only at u18
      refine gives_K fun K hK => ?_
      go_simp
      exact gives_value (hK _ _ ⟨Below.refl _ _, by rw [upF_self]; exact u18⟩)
    | ix + 20, hix, _ => simp at hix
  · intro ix o hix hin f u hold hbe hgr hJ huse
    obtain ⟨kt, kc, kf⟩ := evF_all f
    match ix, hix, hin with
    | 0, _, hin => exact absurd hin (by decide)
    | 1, _, hin => exact absurd hin (by decide)
    | 2, _, hin => exact absurd hin (by decide)
    | 3, _, hin => exact absurd hin (by decide)
    | 4, _, hin => exact absurd hin (by decide)
    | 5, _, hin => exact absurd hin (by decide)
    | 6, _, hin => exact absurd hin (by decide)
    | 7, _, hin => exact absurd hin (by decide)
    | 8, _, hin => exact absurd hin (by decide)
    | 9, _, hin => exact absurd hin (by decide)
    | 10, _, hin => exact absurd hin (by decide)
    | 11, _, hin => exact absurd hin (by decide)
    | 12, _, hin => exact absurd hin (by decide)
    | 13, _, hin => exact absurd hin (by decide)
    | 14, _, hin => exact absurd hin (by decide)
    | 15, _, hin => exact absurd hin (by decide)
    | 16, _, hin => exact absurd hin (by decide)
    | 17, _, hin => exact absurd hin (by decide)
    | 18, _, hin => exact absurd hin (by decide)
    | 19, _, hin => exact absurd hin (by decide)
    | ix + 20, hix, _ => simp at hix
  · intro f2 u2 hbe hall
    have u19 := hall 19 (by decide) (by kernel_rfl)
    simp only at u19
    clear hall
    simp only [putAll, List.foldl_cons, List.foldl_nil, Act.put, List.setIfInBounds_toArray, List.set_cons_succ, List.set_cons_zero]
    obtain ⟨p4, c4, g4, s4⟩ := u19
    rw [g4]
    have HS4 := Lib.hid s4
    have HB4 := Lib.hid (below_next HB1.out (Below.trans ((Below.refl u1.heap.size u1).drew) hbe))
    clear hbe g4 s4 HG HW HY1 HYI HC1 HCI
    go_wp2_with fail
    go_ret
    rw [HL.out]
    exact ⟨p4, c4, by simp only [List.length_append, List.length_cons, List.length_nil]; rfl, HS4.out, HB4.out⟩
theorem rw_step {d : Nat} (H : RWDoes ls d) (hr : 2 ∈ ls) (hN : 5 ∈ ls) (hP : 7 ∈ ls) : RWDoes ls (d + 1) := by
  intro N e w hE hA hV hz
  have hV : vOf (vE d) e = true := hV
  have hV := vOf_iff.1 hV
  have hz : (wOf (wT d) e).length ≤ 100000000000 := hz
  have h1 := hV.lo
  have h2 := hV.hi
  have hk : e.k = 1 ∨ e.k = 2 ∨ e.k = 3 ∨ e.k = 4 ∨ e.k = 5 ∨ e.k = 6 ∨ e.k = 7 ∨ e.k = 8 ∨ e.k = 9 ∨ e.k = 10 ∨ e.k = 11 ∨ e.k = 12 := by omega
  rcases hk with hk | hk | hk | hk | hk | hk | hk | hk | hk | hk | hk | hk
  · exact rw_lit H e w hE hA hV hz hk hN hP
  · exact rw_col H e w hE hA hV hz hk
  · exact rw_not H e w hE hA hV hz hk
  · exact rw_neg H e w hE hA hV hz hk
  · exact rw_bin H e w hE hA hV hz hk hr
  · cases hn : e.no
    · exact rw_null0 H e w hE hA hV hz hk hn
    · exact rw_null1 H e w hE hA hV hz hk hn
  · exact rw_btw H e w hE hA hV hz hk
  · exact rw_exists H e w hE hA hV hz hk
  · exact rw_count H e w hE hA hV hz hk
  · exact rw_sum H e w hE hA hV hz hk
  · exact rw_min H e w hE hA hV hz hk
  · exact rw_max H e w hE hA hV hz hk
/-- words of the reference, for trees of every depth. -/
theorem rw_any (hr : 2 ∈ ls) (hN : 5 ∈ ls) (hP : 7 ∈ ls) : ∀ d, RWDoes ls d
  | 0 => fun _ _ _ _ hA => hA.elim
  | d + 1 => rw_step (rw_any hr hN hP d) hr hN hP
end Go.Proofs.YtlpaphgmdcpmaaaGreatDoor
