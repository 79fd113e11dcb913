/-
  Several texts in one.
-/
import Derived.Test.YtgaihglploedaaaDoorPk29
import Derived.Deep.RegionHeld3
import Derived.Deep.RegionWith
import Derived.Deep.RegionLaw
/-
  Spoiled of the world, for tables.
-/
namespace Go.Proofs.YtgaihglploedaaaDoor
set_option maxRecDepth 100000
open Go.RowKit
variable {ls : List Nat}

theorem spt_made (b : Nat) (w : World) (ht : TapeAt w b) (nm : ByteArray) (pc : Option Addr) (n cc : Nat) (nx : Int) (pr : Option Addr) (m cr : Nat) :
    SpT b w nm pc n cc nx pr m cr (.slice none 0 0) [] (((w.alloc (.cells #[.string nm, .slice pc n cc, .int .i64 nx, .slice pr m cr] 51)).alloc (.cells #[.string ⟨#[]⟩, .slice none 0 0, .int .i64 0, .slice none 0 0] 51)).alloc (.cells #[.string nm, .slice pc n cc, .int .i64 nx, .slice none 0 0] 51)) := by
  refine ⟨((cell4_new w _ _ _ _ _).low (below_alloc _ _)).low (below_alloc _ _), ⟨(cell4_new _ _ _ _ _ _).at (by rw [size_alloc, size_alloc]), ((cell4_new _ _ _ _ _ _).at (size_alloc _ _)).low (below_alloc _ _), ((ht.alloc _).alloc _).alloc _, (((StepT.refl b w).alloc _).alloc _).alloc _, ht.lt⟩, TOwn.nil _ _⟩
theorem keep2 {u v : World} {X : Nat} {x y : Value} (hb : Below u.heap.size u v) (h : u.cell? ⟨X, 0, none⟩ = some x ∧ u.cell? ⟨X, 1, none⟩ = some y ∧ X < u.heap.size) : v.cell? ⟨X, 0, none⟩ = some x ∧ v.cell? ⟨X, 1, none⟩ = some y ∧ X < v.heap.size := by
  obtain ⟨a, b, c⟩ := h
  exact ⟨by rw [hb.cell (by exact c)]; exact a, by rw [hb.cell (by exact c)]; exact b, Nat.lt_of_lt_of_le c hb.size⟩
theorem keep2g {u v : World} {X : Nat} {x y : Value} {row : Option Nat} (hg : u.grownBy v row) (hne : ∀ k, row = some k → k < X) (h : u.cell? ⟨X, 0, none⟩ = some x ∧ u.cell? ⟨X, 1, none⟩ = some y ∧ X < u.heap.size) : v.cell? ⟨X, 0, none⟩ = some x ∧ v.cell? ⟨X, 1, none⟩ = some y ∧ X < v.heap.size := by
  obtain ⟨a, b, c⟩ := h
  have hb := hg.block X c (fun e => by have := hne X e.symm; omega)
  exact ⟨by rw [World.cell?_of_block (w := u) hb]; exact a, by rw [World.cell?_of_block (w := u) hb]; exact b, Nat.lt_of_lt_of_le c hg.size⟩
theorem keep2s {u : World} {X Y o : Nat} {x y z : Value} (hne : X ≠ Y) (h : u.cell? ⟨X, 0, none⟩ = some x ∧ u.cell? ⟨X, 1, none⟩ = some y ∧ X < u.heap.size) : (u.setCell ⟨Y, o, none⟩ z).cell? ⟨X, 0, none⟩ = some x ∧ (u.setCell ⟨Y, o, none⟩ z).cell? ⟨X, 1, none⟩ = some y ∧ X < (u.setCell ⟨Y, o, none⟩ z).heap.size := by
  obtain ⟨a, b, c⟩ := h
  have hb : (u.setCell ⟨Y, o, none⟩ z).heap[X]? = u.heap[X]? := Below.heap_setCell _ _ _ _ hne
  exact ⟨by rw [World.cell?_of_block (w := u) hb]; exact a, by rw [World.cell?_of_block (w := u) hb]; exact b, by rw [set_size]; exact c⟩
theorem take_succ_tAt {R : List TRow} {k : Nat} (h : k < R.length) : R.take k ++ [tAt R k] = R.take (k + 1) := by
  rw [List.take_add_one, List.getElem?_eq_getElem h, tAt_get h]; rfl
theorem keepB5 {u v : World} {X g : Nat} {x y : Value} (hb : Below u.heap.size u v) (h : (u.cell? ⟨X, 3, none⟩ = some x ∧ X < u.heap.size) ∧ u.cell? ⟨g, 1, none⟩ = some y ∧ g < u.heap.size) : (v.cell? ⟨X, 3, none⟩ = some x ∧ X < v.heap.size) ∧ v.cell? ⟨g, 1, none⟩ = some y ∧ g < v.heap.size := by
  obtain ⟨⟨a, c⟩, d, e⟩ := h
  exact ⟨⟨by rw [hb.cell (by exact c)]; exact a, Nat.lt_of_lt_of_le c hb.size⟩, by rw [hb.cell (by exact e)]; exact d, Nat.lt_of_lt_of_le e hb.size⟩
theorem keepS5 {u : World} {X g o : Nat} {x y z : Value} (hne : X ≠ g) (ho : o ≠ 1) (h : (u.cell? ⟨X, 3, none⟩ = some x ∧ X < u.heap.size) ∧ u.cell? ⟨g, 1, none⟩ = some y ∧ g < u.heap.size) : ((u.setCell ⟨g, o, none⟩ z).cell? ⟨X, 3, none⟩ = some x ∧ X < (u.setCell ⟨g, o, none⟩ z).heap.size) ∧ (u.setCell ⟨g, o, none⟩ z).cell? ⟨g, 1, none⟩ = some y ∧ g < (u.setCell ⟨g, o, none⟩ z).heap.size := by
  obtain ⟨h1, d, e⟩ := h
  exact ⟨keepSo hne h1, by rw [cell_off ho]; exact d, by rw [set_size]; exact e⟩
set_option maxRecDepth 100000 in
set_option maxHeartbeats 16000000 in
theorem spoiledtc_any (b : Nat) (w : World) (h8b : 3 ≤ b) (ht : TapeAt w b) (hE : Env ls w) (hlw : 1 ∈ ls) (nm : ByteArray) (pc : Option Addr) (n cc : Nat) (f : Nat → Col) (nx : Int) (pr : Option Addr) (cr : Nat) (R : List TRow) (hnm : nm.size ≤ 9223372036854775807)
    (HT0 : ∀ v, StepT b w v → TabAt v ⟨nm, pc, n, cc, f, nx, pr, cr, R⟩) (hval : validT nm n f nx R = true) (hR : R.length ≤ 20) (hcb : ∀ a, pc = some a → a.block ≠ b) :
    Calls Tryd.prog 35 #[.pointer (some ⟨b, 0, none⟩), .agg #[.string nm, .slice pc n cc, .int .i64 nx, .slice pr R.length cr]] w (SpoiledTCPost b w) := by
  have hlt := ht.lt
  obtain ⟨hso, -, hnx1, hnx2, hrows, -⟩ := validT_parts hval
  obtain ⟨hn1, hn6⟩ := schemaOK_range hso
  have HROWS : Hid (∀ i, i < R.length → (tAt R i).2.length = n) := Lib.hid fun i hi => fitsRow_zero (hrows i hi).2.2.2
  have HC : Hid (ColsAt w pc n f) := Lib.hid (HT0 w (StepT.refl b w)).cols
  have HSZ : Hid (∀ r ∈ R, ValsSized r.2) := Lib.hid (HT0 w (StepT.refl b w)).sized
  have HT := Lib.hid HT0
  have HCB := Lib.hid hcb
  have HE := Lib.hid hE
  have HS := Lib.hid (spt_made b w ht nm pc n cc nx pr R.length cr)
  clear hso hrows HT0 hcb hE hval ht
  go_enter Tryd.func35, Tryd.ntmps35
  go_upto_region 2 with (fail)
  generalize World.alloc _ _ = u0 at HS ⊢
  rw [show w.heap.size + 1 + 1 = w.heap.size + 2 from rfl]
  obtain ⟨xl, x0, x1, x2, x3, -⟩ := HS.out.src
  go_wp2_with fail
  go_loopw [18] (fun i v => ∃ (k : Nat) (vr : Value) (G : List GRow), k ≤ R.length ∧ i = .int .i64 k ∧ G.length = k ∧ tabR G = R.take k ∧ SpT b w nm pc n cc nx pr R.length cr vr G v) (fun i _ => R.length - (intOf i).toNat)
  case atStart => exact ⟨0, .slice none 0 0, [], Nat.zero_le _, rfl, rfl, rfl, HS.out⟩
  clear HS x0 x1 x2 x3 xl
  case round =>
    obtain ⟨k, vr, G, hk, rfl, hGl, hG, hs⟩ := hrel
    have HG := Lib.hid hG
    have HGL := Lib.hid hGl
    have HS := Lib.hid hs
    clear hG hs hGl
    by_cases hlt : k < R.length
    · have hlt' : decide ((k : Int) < R.length) = true := decide_eq_true (by omega)
      obtain ⟨c, o, q, cp, hpr, hc, h0, h1, hr, hsz, hqn⟩ := (HT.out wr HS.out.rst.step).rows k hlt
      dsimp only at hpr
      subst hpr
      have hpos : 0 < (tAt R k).2.length := by rw [HROWS.out k hlt]; omega
      obtain ⟨cq, oq, hq, -⟩ := hr 0 hpos
      subst hq
      have hbn := below_alloc wr (.cells #[.int .i64 (tAt R k).1, .slice (some ⟨cq, oq, none⟩) (tAt R k).2.length cp] 68)
      have HS1 := Lib.hid ((HS.out.low hbn).low (Below.refl _ _).drew)
      have HQ1 := Lib.hid ((hr.low hbn).low (Below.refl _ _).drew)
      have HZ := Lib.hid hsz
      have HX1 := Lib.hid (row2_new wr (.int .i64 (tAt R k).1) (.slice (some ⟨cq, oq, none⟩) (tAt R k).2.length cp) 68)
      have HXL := Lib.hid (show wr.heap.size < (wr.alloc (.cells #[.int .i64 (tAt R k).1, .slice (some ⟨cq, oq, none⟩) (tAt R k).2.length cp] 68)).heap.size by simp)
      have HNE : Hid (∀ k, vr.ownBlock = some k → k < wr.heap.size) := Lib.hid (owns_lt HS.out.own.own)
      clear hr hqn HS hbn hsz
      go_upto_region 5 with (fail)
      clear HT h0 h1
      dsimp only at HQ1 HZ
      generalize World.alloc _ _ = W1 at HS1 HQ1 HX1 HXL ⊢
      obtain ⟨p0, p1⟩ := HX1.out
      have pl := HXL.out
      obtain ⟨xl, x0, x1, x2, x3, xf⟩ := HS1.out.rst.out
      go_region_law (first
        | (refine step_copy_vals (by rfl) (.const (.slice none 0 0)) (.tmp 27) (by rfl) (w.heap.size + 3) (by rfl) ⟨cq, oq, none⟩ (tAt R k).2 cp (by simp [Act.eval]) HQ1.out HZ.out (by exact HS1.out.lo) ?_; intro v2 w2 hin2 hb2; obtain ⟨g2, c2, hv2, -, -, -, -, -, -⟩ := InRow.slot hin2 hpos; subst hv2; (have hs2 := Lib.hid (HS1.out.low hb2)); (have hi2 := Lib.hid hin2); obtain ⟨q0, q1, ql⟩ := keep2 hb2 ⟨p0, p1, pl⟩; (have y3 := hs2.out.rst.out.c3); (have yl := hs2.out.rst.out.lt); clear hin2)
        | (refine step_append_trow (by rfl) (.tmp 23) (.tmp 30) (by rfl) (w.heap.size + 3) vr G (by simp [Act.eval]) (hs2.out.own.low (below_alloc _ _)).own w2.heap.size (tAt R k).1 (.slice (some ⟨g2, 0, none⟩) (tAt R k).2.length c2) (tAt R k).2 (by simp [Act.eval]) (row2_new _ _ _ _).1 (row2_new _ _ _ _).2 rfl (by have := HGL.out; omega) (by rw [size_alloc]; exact Nat.le_succ_of_le hs2.out.lo) ?_; intro v8 w8 hown8 hgr8; obtain ⟨⟨zl, z0, z1, z2, z3, zf⟩, hS8⟩ := hs2.out.push hi2.out hown8 hgr8; obtain ⟨p8, c8, e8⟩ := hS8.own.ex; subst e8; rw [List.length_append, List.length_singleton] at hS8; (have HS8 := Lib.hid hS8); clear hS8 hown8 hgr8))
      all_goals
        clear q0 q1 ql y3 yl zl z0 z1 z2 z3 zf p0 p1 pl xl x0 x1 x2 x3 xf hs2 hi2 HX1 HXL HS1 HQ1
        generalize World.setCell _ _ _ = W9 at HS8 ⊢
        go_wp2
        go_roundw
        case rel => exact ⟨k + 1, _, G ++ [((tAt R k).1, .slice (some ⟨g2, 0, none⟩) (tAt R k).2.length c2, (tAt R k).2)], by omega, by go_num, by rw [List.length_append, HGL.out]; rfl, by rw [tabR_append, HG.out]; exact take_succ_tAt hlt, HS8.out⟩
        case measure => simp [intOf]; omega
    · have hlt' : decide ((k : Int) < R.length) = false := decide_eq_false (by omega)
      obtain rfl : k = R.length := by omega
      have hGR : tabR G = R := by rw [HG.out, List.take_length]
      have HGR := Lib.hid hGR
      obtain ⟨p, c, hvr⟩ := HS.out.own.ex
      rw [HGL.out] at hvr
      subst hvr
      have hcapR : R.length ≤ c := by have h1 := owns_cap HS.out.own.own; have h2 := HGL.out; omega
      obtain ⟨xl, x0, x1, x2, x3, xf⟩ := HS.out.rst.out
      clear hGR
      go_wp2_with fail
      refine (next_any b _ _ (by omega) (by omega) HS.out.rst.tape).mono ?_
      rintro e w7 ⟨q, rfl, hq0, hq1, ht7, hs7⟩
      have HS7 := Lib.hid (HS.out.next hs7 ht7)
      clear x0 x1 x2 x3 xl xf HS ht7 hs7
      obtain ⟨xl, x0, x1, x2, x3, xf⟩ := HS7.out.rst.out
      have hq : q = 0 ∨ q = 1 ∨ q = 2 ∨ q = 3 ∨ q = 4 ∨ q = 5 ∨ q = 6 := by omega
      clear hq0 hq1
      have hn63 : n ≤ 9223372036854775807 := by omega
      have hR63 : R.length ≤ 1000 := by omega
      have hbw := HS7.out.rst.bw
      have hbW : b ≠ 1 := by omega
      rcases hq with rfl | rfl | rfl | rfl | rfl | rfl | rfl
      · go_wp2_with fail
        refine (next_any b _ _ (by omega) (by omega) HS7.out.rst.tape).mono ?_
        rintro e w8 ⟨q, rfl, hq0, hq1, ht8, hs8⟩
        have HS8 := Lib.hid (HS7.out.next hs8 ht8)
        clear x0 x1 x2 x3 xl xf HS7 ht8 hs8
        obtain ⟨xl, x0, x1, x2, x3, xf⟩ := HS8.out.rst.out
        have hw1 : IntKind.i64.wrap (q - 1) = q - 1 := i64w (by omega) (by omega)
        go_upto_region 27 with (fail)
        have HF := Lib.hid (fin_own (f := f) (HS8.out.rst.set2 (.int .i64 (q - 1))) (HS8.out.own.set (by omega) _) HGR.out (fun v ha => cols_fin HC.out hn1 HCB.out (HS8.out.rst.set2 (.int .i64 (q - 1))).step v ha) hnm hn63 hR63 HSZ.out (by omega))
        clear x0 x1 x2 x3 xl xf HS8
        generalize World.setCell _ _ _ = W9 at HF ⊢
        obtain ⟨xl, x0, x1, x2, x3, xf⟩ := HF.out.rst.out
        obtain ⟨rl, r0, r1, r2, r3, rf⟩ := HF.out.rst.res
        dsimp only at x0 x1 x2 x3
        go_wp2
        obtain ⟨-, s0, s1, s2, s3, -⟩ := cell4_put W9 HF.out.rst.res (.string nm) (.slice pc n cc) (.int .i64 (q - 1)) (.slice p R.length c)
        exact bodyPost_ret (v := .agg #[.string nm, .slice pc n cc, .int .i64 (q - 1), .slice p R.length c]) (by simp [results, Tryd.results35, go_sem, s0, s1, s2, s3]) rfl HF.out.post
      · go_upto_region 27 with (fail)
        have HF := Lib.hid (fin_own (f := f) (HS7.out.rst.set0 (.string ⟨#[84]⟩)) (HS7.out.own.set (by omega) _) HGR.out (fun v ha => cols_fin HC.out hn1 HCB.out (HS7.out.rst.set0 (.string ⟨#[84]⟩)).step v ha) (by decide) hn63 hR63 HSZ.out (by omega))
        clear x0 x1 x2 x3 xl xf HS7
        generalize World.setCell _ _ _ = W9 at HF ⊢
        obtain ⟨xl, x0, x1, x2, x3, xf⟩ := HF.out.rst.out
        obtain ⟨rl, r0, r1, r2, r3, rf⟩ := HF.out.rst.res
        dsimp only at x0 x1 x2 x3
        go_wp2
        obtain ⟨-, s0, s1, s2, s3, -⟩ := cell4_put W9 HF.out.rst.res (.string ⟨#[84]⟩) (.slice pc n cc) (.int .i64 nx) (.slice p R.length c)
        exact bodyPost_ret (v := .agg #[.string ⟨#[84]⟩, .slice pc n cc, .int .i64 nx, .slice p R.length c]) (by simp [results, Tryd.results35, go_sem, s0, s1, s2, s3]) rfl HF.out.post
      · obtain ⟨lx, hlx, hlf⟩ := cols_list n f
        have hC7 : ColsAt w7 pc n (cAt lx) := (cols_fin HC.out hn1 HCB.out HS7.out.rst.step w7 ⟨Nat.le_refl _, fun _ _ _ _ => rfl⟩).congr hlf
        subst hlx
        obtain ⟨c9, o9, hp9, hc9, hs9, e0, e1, e2, e3⟩ := hC7 0 hn1
        subst hp9
        rw [Nat.zero_mul, Nat.add_zero] at e0 e1 e2 e3
        have HCS := Lib.hid hC7
        have HSX : Hid (Sized lx) := Lib.hid fun i hi => by
          obtain ⟨c, o, -, -, hs, -⟩ := hC7 i hi
          exact hs
        obtain ⟨yl, -, y1, -, -, -⟩ := HS7.out.src
        have hl0 : (0 : Int) < (lx.length : Int) := by omega
        have hl0N : 0 < lx.length := by omega
        have HW3 : Hid (w.heap.size + 3 ≤ w7.heap.size) := Lib.hid HS7.out.lo
        have hbz : ∀ k, (Value.slice none 0 0).ownBlock = some k → w7.heap.size ≤ k := fun k hk => by cases hk
        have HBZ := Lib.hid hbz
        have HN1 := Lib.hid ((one_col w7 (cAt lx 0) hs9).low (Below.refl _ _).drew)
        clear hC7 hbz x0 x1 x2 x3 hlf
        go_upto_region 17 with (fail)
        go_region_law (first
          | (revert HO70; intro HO70; refine step_append_cols (by rfl) (.tmp 70) (.tmp 76) (by rfl) w7.heap.size v70 lx (by simp [Act.eval]) (owns_below HO70.out (below_alloc _ _)) ⟨w70.heap.size, 0, none⟩ [cAt lx 0] 1 (by simp [Act.eval]) HM.out (by simp; omega) (by rw [size_alloc]; exact Nat.le_succ_of_le HB70.out.size) ?_; intro v77 w77 hown77 hgr77; (have hb77 : Below w7.heap.size w7 w77 := grown_below (below_new HB70.out _) (by rw [size_alloc]; exact Nat.le_succ_of_le HB70.out.size) hgr77 (fun k hk => (HO70.out.lt k hk).1)); obtain ⟨p77, c77, e77, -, hc77, hq77⟩ := cols_of_owns hown77 (Sized.add HSX.out hs9); rw [List.length_append, List.length_singleton] at e77 hc77; subst e77; (have HC77 := Lib.hid hc77); (have HQ77 := Lib.hid hq77); (have hs77 := HS7.out.low hb77); (have HS77 := Lib.hid hs77); obtain ⟨xl, x0, x1, x2, x3, xf⟩ := hs77.rst.out; clear hown77 hgr77 hb77 hc77 hq77 hs77)
          | (revert HO70; intro HO70; refine step_append_cols (by rfl) (.tmp 70) (.tmp 76) (by rfl) w7.heap.size v70 lx (by simp [Act.eval]) HO70.out ⟨w7.heap.size, 0, none⟩ [cAt lx 0] 1 (by simp [Act.eval]) HM.out (by simp; omega) (by exact HB70.out.size) ?_; intro v77 w77 hown77 hgr77; (have hb77 : Below w7.heap.size w7 w77 := grown_below HB70.out HB70.out.size hgr77 (fun k hk => (HO70.out.lt k hk).1)); obtain ⟨p77, c77, e77, -, hc77, hq77⟩ := cols_of_owns hown77 (Sized.add HSX.out hs9); rw [List.length_append, List.length_singleton] at e77 hc77; subst e77; (have HC77 := Lib.hid hc77); (have HQ77 := Lib.hid hq77); (have hs77 := HS7.out.low hb77); (have HS77 := Lib.hid hs77); obtain ⟨xl, x0, x1, x2, x3, xf⟩ := hs77.rst.out; clear hown77 hgr77 hb77 hc77 hq77 hs77)
          | (refine step_append_cols (by rfl) (.const (.slice none 0 0)) (.tmp 69) (by rfl) w7.heap.size (.slice none 0 0) [] (by rfl) ⟨rfl, Or.inl ⟨rfl, rfl⟩⟩ ⟨c9, o9, none⟩ lx cc (by simp [Act.eval, Act.put]) (by exact HCS.out.low (Below.refl _ _).drew) (by simp; omega) (by exact Nat.le_refl _) ?_; intro v70 w70 hown70 hgr70; (have hb70 : Below w7.heap.size w7 w70 := grown_below (Below.refl _ _).drew (Nat.le_refl _) hgr70 HBZ.out); rw [List.nil_append] at hown70; (have HO70 := Lib.hid hown70); (have HB70 := Lib.hid hb70); obtain ⟨c8, o8, hp8, -, -, f0, f1, f2, f3⟩ := HCS.out.low hb70 0 hn1; cases hp8; rw [Nat.zero_mul, Nat.add_zero] at f0 f1 f2 f3; (have f9 := Nat.lt_of_lt_of_le hc9 hb70.size); obtain ⟨zl, -, z1, -, -, -⟩ := (HS7.out.low hb70).src; (have HM := Lib.hid (one_col w70 (cAt lx 0) hs9)); clear hown70 hgr70 hb70)
          | (refine step_append_cols (by rfl) (.const (.slice none 0 0)) (.tmp 69) (by rfl) w7.heap.size (.slice none 0 0) [] (by rfl) ⟨rfl, Or.inl ⟨rfl, rfl⟩⟩ ⟨c9, o9, none⟩ lx cc (by simp [Act.eval]) (by exact HCS.out.low (below_new (Below.refl _ _) _).drew) (by simp; omega) (by show w7.heap.size ≤ (World.alloc _ _).heap.size; rw [size_alloc]; exact Nat.le_succ _) ?_; intro v70 w70 hown70 hgr70; (have hb70 : Below w7.heap.size w7 w70 := grown_below (below_new (Below.refl _ _) _).drew (by show w7.heap.size ≤ (World.alloc _ _).heap.size; rw [size_alloc]; exact Nat.le_succ _) hgr70 HBZ.out); (have HM := Lib.hid (HN1.out.low (grown_below (Below.refl _ _) (Nat.le_refl _) hgr70 (fun k hk => by cases hk)))); rw [List.nil_append] at hown70; (have HO70 := Lib.hid hown70); (have HB70 := Lib.hid hb70); clear hown70 hgr70 hb70))
        all_goals
          try clear f0 f1 f2 f3 f9 zl z1
          have hne : ∀ q, p77 = some q → q.block ≠ w.heap.size + 2 := fun q hq => by have := (HQ77.out q hq).1; have := HW3.out; omega
          have hc8 := HC77.out.set (a := ⟨w.heap.size + 2, 1, none⟩) hne (.slice p77 (lx.length + 1) c77)
          have HF := Lib.hid (fin_own (f := cAt (lx ++ [cAt lx 0])) (HS77.out.rst.set1 (.slice p77 (lx.length + 1) c77)) (HS77.out.own.set (by omega) _) HGR.out (cols_own hc8 hbw (fun q hq => ⟨by have := (HQ77.out q hq).1; have := HW3.out; omega, by obtain ⟨c, o, hp, hc⟩ := hc8.ptr (Nat.succ_pos _); rw [hp] at hq; cases hq; exact hc⟩)) hnm (by omega) hR63 HSZ.out (by omega))
          clear x0 x1 x2 x3 xl xf hc8 hne HC77 HQ77 HS77 HM HO70 HB70 HN1 HBZ HS7 HCS e0 e1 e2 e3 yl y1
          generalize World.setCell _ _ _ = W9 at HF ⊢
          obtain ⟨xl, x0, x1, x2, x3, xf⟩ := HF.out.rst.out
          obtain ⟨rl, r0, r1, r2, r3, rf⟩ := HF.out.rst.res
          dsimp only at x0 x1 x2 x3
          go_wp2
          obtain ⟨-, s0, s1, s2, s3, -⟩ := cell4_put W9 HF.out.rst.res (.string nm) (.slice p77 (lx.length + 1) c77) (.int .i64 nx) (.slice p R.length c)
          exact bodyPost_ret (v := .agg #[.string nm, .slice p77 (lx.length + 1) c77, .int .i64 nx, .slice p R.length c]) (by simp [results, Tryd.results35, go_sem, s0, s1, s2, s3]) rfl HF.out.post
      · by_cases hm : R.length = 0
        · have hd : decide ((0 : Int) < (R.length : Int)) = false := decide_eq_false (by omega)
          have hdn : decide (0 < R.length) = false := decide_eq_false (by omega)
          clear hm
          go_upto_region 27 with (fail)
          have HF := Lib.hid (fin_own (f := f) HS7.out.rst HS7.out.own HGR.out (fun v ha => cols_fin HC.out hn1 HCB.out HS7.out.rst.step v ha) hnm hn63 hR63 HSZ.out (by omega))
          clear x0 x1 x2 x3 xl xf
          obtain ⟨xl, x0, x1, x2, x3, xf⟩ := HF.out.rst.out
          obtain ⟨rl, r0, r1, r2, r3, rf⟩ := HF.out.rst.res
          dsimp only at x0 x1 x2 x3
          go_wp2
          obtain ⟨-, s0, s1, s2, s3, -⟩ := cell4_put w7 HF.out.rst.res (.string nm) (.slice pc n cc) (.int .i64 nx) (.slice p R.length c)
          exact bodyPost_ret (v := .agg #[.string nm, .slice pc n cc, .int .i64 nx, .slice p R.length c]) (by simp [results, Tryd.results35, go_sem, s0, s1, s2, s3]) rfl HF.out.post
        · have hd : decide ((0 : Int) < (R.length : Int)) = true := decide_eq_true (by omega)
          have hdn : decide (0 < R.length) = true := decide_eq_true (by omega)
          obtain ⟨g, c', he, hg, hgs, hgf, -⟩ := HS7.out.own.slot (by have := HGL.out; omega)
          injection he with e1 e2 e3
          subst e1 e3
          clear e2 hgs hgf
          have hwg : w.heap.size + 2 ≠ g := by omega
          have hGp : ∀ j, j < R.length → j < G.length ∧ 0 < (grAt G j).2.2.length ∧ ValsSized (grAt G j).2.2 := fun j hj => by
            have h1 : j < G.length := by have := HGL.out; omega
            have h2 := tabR_at h1
            rw [HGR.out] at h2
            have h3 := HROWS.out j hj
            have h4 := HSZ.out _ (tAt_mem hj)
            rw [h2] at h3 h4
            have h3 : (grAt G j).2.2.length = n := h3
            exact ⟨h1, by omega, h4⟩
          have HGP := Lib.hid hGp
          clear hGp
          go_upto_region 20 with (fail)
          go_region_held3 (fun u => u.cell? ⟨w.heap.size + 2, 3, none⟩ = some (.slice (some ⟨g, 0, none⟩) R.length c) ∧ w.heap.size + 2 < u.heap.size)
            (first
              | exact ⟨x3, xl⟩
              | exact ⟨hNq.rst.out.c3, hNq.rst.out.lt⟩
              | with_reducible exact keepSo hwg (by assumption))
            (first
              | ((have hOld := hNq); go_at_call 17; refine (next_any b _ _ (by omega) (by omega) hOld.rst.tape).mono ?_; rintro e wq ⟨r2, rfl, hr0, hr1, htq, hsq⟩; (have hNq := hOld.next hsq htq); obtain ⟨-, d9, dfz, d0, d1, -⟩ := hNq.own.slotAt (j := j) (HGP.out j (by omega)).1)
              | (go_at_call 17; refine (next_any b _ _ (by omega) (by omega) (by exact HS7.out.rst.tape)).mono ?_; rintro e wq ⟨r, rfl, hj0, hj1, htq, hsq⟩; obtain ⟨j, rfl⟩ := Int.eq_ofNat_of_zero_le hj0; (have hjR : (j : Int) < (R.length : Int) := by omega); (have hNq := HS7.out.next (((StepT.refl b _).drewN 1).trans hsq) htq)))
          rename_i hHeld
          obtain ⟨hjG, hjp, hjs⟩ := HGP.out j (by omega)
          go_upto_region 27 with (fail)
          have HF := Lib.hid (fin_rows (f := f) (hNq.rst.setG hg _) (by rw [List.length_set, tabR_length]; exact HGL.out) (hNq.own.putCell0 HGL.out hjG hjp r2) (fun v ha => cols_fin HC.out hn1 HCB.out (hNq.rst.setG (o := j * 2) hg (.int .i64 r2)).step v ha) hnm hn63 hR63 (sized_set (by rw [HGR.out]; exact HSZ.out) hjs) (by omega) hcapR)
          clear x0 x1 x2 x3 xl xf hHeld d0 d1 dfz d9 hOld
          generalize World.setCell _ _ _ = W9 at HF ⊢
          obtain ⟨xl, x0, x1, x2, x3, xf⟩ := HF.out.rst.out
          obtain ⟨rl, r0, r1, r2, r3, rf⟩ := HF.out.rst.res
          dsimp only at x0 x1 x2 x3
          go_wp2
          obtain ⟨-, s0, s1, s2, s3, -⟩ := cell4_put W9 HF.out.rst.res (.string nm) (.slice pc n cc) (.int .i64 nx) (.slice (some ⟨g, 0, none⟩) R.length c)
          exact bodyPost_ret (v := .agg #[.string nm, .slice pc n cc, .int .i64 nx, .slice (some ⟨g, 0, none⟩) R.length c]) (by simp [results, Tryd.results35, go_sem, s0, s1, s2, s3]) rfl HF.out.post
      · by_cases hm : R.length = 0
        · have hd : decide ((0 : Int) < (R.length : Int)) = false := decide_eq_false (by omega)
          have hdn : decide (0 < R.length) = false := decide_eq_false (by omega)
          clear hm
          go_upto_region 27 with (fail)
          have HF := Lib.hid (fin_own (f := f) HS7.out.rst HS7.out.own HGR.out (fun v ha => cols_fin HC.out hn1 HCB.out HS7.out.rst.step v ha) hnm hn63 hR63 HSZ.out (by omega))
          clear x0 x1 x2 x3 xl xf
          obtain ⟨xl, x0, x1, x2, x3, xf⟩ := HF.out.rst.out
          obtain ⟨rl, r0, r1, r2, r3, rf⟩ := HF.out.rst.res
          dsimp only at x0 x1 x2 x3
          go_wp2
          obtain ⟨-, s0, s1, s2, s3, -⟩ := cell4_put w7 HF.out.rst.res (.string nm) (.slice pc n cc) (.int .i64 nx) (.slice p R.length c)
          exact bodyPost_ret (v := .agg #[.string nm, .slice pc n cc, .int .i64 nx, .slice p R.length c]) (by simp [results, Tryd.results35, go_sem, s0, s1, s2, s3]) rfl HF.out.post
        · have hd : decide ((0 : Int) < (R.length : Int)) = true := decide_eq_true (by omega)
          have hdn : decide (0 < R.length) = true := decide_eq_true (by omega)
          obtain ⟨g, c', he, hg, hgs, hgf, -⟩ := HS7.out.own.slot (by have := HGL.out; omega)
          injection he with e1 e2 e3
          subst e1 e3
          clear e2 hgs hgf
          have hwg : w.heap.size + 2 ≠ g := by omega
          have hGp : ∀ j, j < R.length → j < G.length ∧ 0 < (grAt G j).2.2.length ∧ ValsSized (grAt G j).2.2 := fun j hj => by
            have h1 : j < G.length := by have := HGL.out; omega
            have h2 := tabR_at h1
            rw [HGR.out] at h2
            have h3 := HROWS.out j hj
            have h4 := HSZ.out _ (tAt_mem hj)
            rw [h2] at h3 h4
            have h3 : (grAt G j).2.2.length = n := h3
            exact ⟨h1, by omega, h4⟩
          have HGP := Lib.hid hGp
          clear hGp
          go_upto_region 23 with (fail)
          go_region_with (first
              | (go_at_call 17; refine (next_any b _ _ (by omega) (by omega) (by exact HS7.out.rst.tape)).mono ?_; rintro e wq ⟨r, rfl, hj0, hj1, htq, hsq⟩; obtain ⟨j, rfl⟩ := Int.eq_ofNat_of_zero_le hj0; (have hjR : (j : Int) < (R.length : Int) := by omega); (have hNq := HS7.out.next (((StepT.refl b _).drewN 1).trans hsq) htq); obtain ⟨yl, y0, y1, y2, y3, yf⟩ := hNq.rst.out; obtain ⟨hjG, hjp, hjs⟩ := HGP.out j (by omega); obtain ⟨-, d9, dfz, d0, d1, dn⟩ := hNq.own.slotAt hjG; obtain ⟨h', ch, hv, hh, hhs, hhf, hob, hrow, hlc⟩ := (hNq.own.inn _ (grAt_mem hjG)).slot hjp; rw [hv] at d1; (have hl0 : (0 : Int) < ((grAt G j).2.2.length : Int) := by omega))
              | (go_at_call 16; refine (odd_any b _ hbW hNq.rst.tape ((HE.out.step hNq.rst.step h8b).words hlw)).mono ?_; rintro e wr2 ⟨ok, on, os, rfl, hodd, htr, hsr⟩; (have hNr := hNq.next hsr htr); obtain ⟨zl, z0, z1, z2, z3, zf⟩ := hNr.rst.out; obtain ⟨-, f9, ffz, f0, f1, fn⟩ := hNr.own.slotAt hjG; obtain ⟨h2, ch2, hv2, hh2, hhs2, hhf2, hob2, hrow2, hlc2⟩ := (hNr.own.inn _ (grAt_mem hjG)).slot hjp; (have heq := hv.symm.trans hv2); injection heq with q1 q2 q3; injection q1 with q1; injection q1 with q1; subst q1 q3; clear q2; rw [hv] at f1; obtain ⟨cc9, oo9, he9, -, k0, k1, k2⟩ := hrow2 0 hjp; cases he9; simp only [Nat.zero_mul, Nat.zero_add] at k0 k1 k2))
          all_goals
            have hhg : h' ≠ g := fun e => fn (by rw [hob2, e])
            have ho := hNr.own
            rw [← HGL.out] at ho
            obtain ⟨R', hRl, hRs, hRin⟩ := ho.putVal (fun i hi => (HGP.out i (by have := HGL.out; omega)).2.1) hhg (by rw [HGR.out]; exact HSZ.out) (ok, on, os) (by have := hodd.2.2.2.2; show os.size ≤ _; omega)
            rw [HGL.out] at hRl
            go_upto_region 27 with (fail)
            have HF := Lib.hid (fin_rows (f := f) (((hNr.rst.setG hh _).setG hh _).setG hh _) hRl hRin (fun v ha => cols_fin HC.out hn1 HCB.out (((hNr.rst.setG (o := 0) hh (.int .i64 ok)).setG (o := 1) hh (.int .i64 on)).setG (o := 2) hh (.string os)).step v ha) hnm hn63 hR63 hRs (by omega) hcapR)
            clear x0 x1 x2 x3 xl xf y0 y1 y2 y3 yl yf z0 z1 z2 z3 zl zf d0 d1 dfz d9 f0 f1 ffz f9 k0 k1 k2
            generalize World.setCell _ _ _ = W9 at HF ⊢
            obtain ⟨xl, x0, x1, x2, x3, xf⟩ := HF.out.rst.out
            obtain ⟨rl, r0, r1, r2, r3, rf⟩ := HF.out.rst.res
            dsimp only at x0 x1 x2 x3
            go_wp2
            obtain ⟨-, s0, s1, s2, s3, -⟩ := cell4_put W9 HF.out.rst.res (.string nm) (.slice pc n cc) (.int .i64 nx) (.slice (some ⟨g, 0, none⟩) R.length c)
            exact bodyPost_ret (v := .agg #[.string nm, .slice pc n cc, .int .i64 nx, .slice (some ⟨g, 0, none⟩) R.length c]) (by simp [results, Tryd.results35, go_sem, s0, s1, s2, s3]) rfl HF.out.post
      · by_cases hm : R.length ≤ 1
        · have hd : decide ((1 : Int) < (R.length : Int)) = false := decide_eq_false (by omega)
          have hdn : decide (1 < R.length) = false := decide_eq_false (by omega)
          clear hm
          go_upto_region 27 with (fail)
          have HF := Lib.hid (fin_own (f := f) HS7.out.rst HS7.out.own HGR.out (fun v ha => cols_fin HC.out hn1 HCB.out HS7.out.rst.step v ha) hnm hn63 hR63 HSZ.out (by omega))
          clear x0 x1 x2 x3 xl xf
          obtain ⟨xl, x0, x1, x2, x3, xf⟩ := HF.out.rst.out
          obtain ⟨rl, r0, r1, r2, r3, rf⟩ := HF.out.rst.res
          dsimp only at x0 x1 x2 x3
          go_wp2
          obtain ⟨-, s0, s1, s2, s3, -⟩ := cell4_put w7 HF.out.rst.res (.string nm) (.slice pc n cc) (.int .i64 nx) (.slice p R.length c)
          exact bodyPost_ret (v := .agg #[.string nm, .slice pc n cc, .int .i64 nx, .slice p R.length c]) (by simp [results, Tryd.results35, go_sem, s0, s1, s2, s3]) rfl HF.out.post
        · have hd : decide ((1 : Int) < (R.length : Int)) = true := decide_eq_true (by omega)
          have hdn : decide (1 < R.length) = true := decide_eq_true (by omega)
          obtain ⟨g, c', he, hg, hgs, hgf, -⟩ := HS7.out.own.slot (by have := HGL.out; omega)
          injection he with e1 e2 e3
          subst e1 e3
          clear e2 hgs hgf
          have hwg : w.heap.size + 2 ≠ g := by omega
          have hGp : ∀ j, j < R.length → j < G.length ∧ 0 < (grAt G j).2.2.length ∧ ValsSized (grAt G j).2.2 := fun j hj => by
            have h1 : j < G.length := by have := HGL.out; omega
            have h2 := tabR_at h1
            rw [HGR.out] at h2
            have h3 := HROWS.out j hj
            have h4 := HSZ.out _ (tAt_mem hj)
            rw [h2] at h3 h4
            have h3 : (grAt G j).2.2.length = n := h3
            exact ⟨h1, by omega, h4⟩
          have HGP := Lib.hid hGp
          clear hGp
          obtain ⟨m1, hm1⟩ : ∃ m1 : Nat, m1 + 1 = R.length := ⟨R.length - 1, by omega⟩
          have hw1 : IntKind.i64.wrap ((R.length : Int) - 1) = (m1 : Int) := by rw [i64w (by omega) (by omega)]; omega
          have hmI : (m1 : Int) < (R.length : Int) := by omega
          have h0I : (0 : Int) < (R.length : Int) := by omega
          have h0N : 0 < R.length := by omega
          have hm0 : 0 < m1 := by omega
          obtain ⟨h0G, h0p, h0s⟩ := HGP.out 0 (by omega)
          obtain ⟨hjG, hjp, hjs⟩ := HGP.out m1 (by omega)
          have HM1 := Lib.hid hm1
          clear hm1 hm
          obtain ⟨-, e9, efz, e0, e1, -⟩ := HS7.out.own.slotAt h0G
          have hin := HS7.out.own.inn _ (grAt_mem h0G)
          obtain ⟨h', ch, hv, hh, hhs, -, hob, hrow, hlc⟩ := hin.slot h0p
          have hl32 : (grAt G 0).2.2.length * 32 ≤ 140737488355328 := hin.2
          rw [hv] at e1
          simp only [Nat.zero_mul, Nat.zero_add] at e1
          have HROW := Lib.hid (hrow.low (Below.refl _ _).drew)
          have HSD := Lib.hid (HS7.out.low (Below.refl _ _).drew)
          clear hrow hin e0 efz hv hob
          go_upto_region 26 with (fail)
          go_region_held3 (fun u => (u.cell? ⟨w.heap.size + 2, 3, none⟩ = some (.slice (some ⟨g, 0, none⟩) R.length c) ∧ w.heap.size + 2 < u.heap.size) ∧ u.cell? ⟨g, 1, none⟩ = some (.slice (some ⟨h', 0, none⟩) (grAt G 0).2.2.length ch) ∧ g < u.heap.size)
            (first
              | exact ⟨⟨x3, xl⟩, e1, e9⟩
              | exact keepB5 hb2 (by assumption)
              | exact keepS5 hwg (by omega) (by assumption))
            ((refine step_copy_vals (by rfl) (.const (.slice none 0 0)) (.tmp 120) (by rfl) (w.heap.size + 3) (by rfl) ⟨h', 0, none⟩ (grAt G 0).2.2 ch (by rfl) HROW.out hl32 (by exact HS7.out.lo) ?_; intro v2 w2 hin2 hb2; obtain ⟨g2, c2, hv2, hg2, hgs2, -, hob2, hr2, -⟩ := InRow.slot hin2 h0p; subst hv2; (have hs2 := HSD.out.low hb2); obtain ⟨-, d9, dfz, d0, d1, dn⟩ := hs2.own.slotAt hjG))
          rename_i hHeld
          clear hHeld
          have hne2 : g2 ≠ g := fun e => owns_apart hin2.1 hs2.own.own (by decide) g2 hob2 (by rw [e]; rfl)
          go_upto_region 27 with (fail)
          have hput := hs2.own.putCell1 (cp := c2) HGL.out hjG hr2 hl32 (fun e => by cases e) (fun a ha => by cases ha; exact ⟨hg2, hgs2, hne2⟩)
          have HF := Lib.hid (fin_rows (f := f) (hs2.rst.setG hg _) (by rw [List.length_set, tabR_length]; exact HGL.out) hput (fun v ha => cols_fin HC.out hn1 HCB.out (hs2.rst.setG (o := m1 * 2 + 1) hg (.slice (some ⟨g2, 0, none⟩) (grAt G 0).2.2.length c2)).step v ha) hnm hn63 hR63 (sized_set (by rw [HGR.out]; exact HSZ.out) h0s) (by omega) hcapR)
          clear x0 x1 x2 x3 xl xf d0 d1 dfz d9 hput e1 e9
          generalize World.setCell _ _ _ = W9 at HF ⊢
          obtain ⟨xl, x0, x1, x2, x3, xf⟩ := HF.out.rst.out
          obtain ⟨rl, r0, r1, r2, r3, rf⟩ := HF.out.rst.res
          dsimp only at x0 x1 x2 x3
          go_wp2
          obtain ⟨-, s0, s1, s2, s3, -⟩ := cell4_put W9 HF.out.rst.res (.string nm) (.slice pc n cc) (.int .i64 nx) (.slice (some ⟨g, 0, none⟩) R.length c)
          exact bodyPost_ret (v := .agg #[.string nm, .slice pc n cc, .int .i64 nx, .slice (some ⟨g, 0, none⟩) R.length c]) (by simp [results, Tryd.results35, go_sem, s0, s1, s2, s3]) rfl HF.out.post
      · by_cases hm : R.length = 0
        · have hd : decide ((0 : Int) < (R.length : Int)) = false := decide_eq_false (by omega)
          have hdn : decide (0 < R.length) = false := decide_eq_false (by omega)
          clear hm
          go_upto_region 27 with (fail)
          have HF := Lib.hid (fin_own (f := f) HS7.out.rst HS7.out.own HGR.out (fun v ha => cols_fin HC.out hn1 HCB.out HS7.out.rst.step v ha) hnm hn63 hR63 HSZ.out (by omega))
          clear x0 x1 x2 x3 xl xf
          obtain ⟨xl, x0, x1, x2, x3, xf⟩ := HF.out.rst.out
          obtain ⟨rl, r0, r1, r2, r3, rf⟩ := HF.out.rst.res
          dsimp only at x0 x1 x2 x3
          go_wp2
          obtain ⟨-, s0, s1, s2, s3, -⟩ := cell4_put w7 HF.out.rst.res (.string nm) (.slice pc n cc) (.int .i64 nx) (.slice p R.length c)
          exact bodyPost_ret (v := .agg #[.string nm, .slice pc n cc, .int .i64 nx, .slice p R.length c]) (by simp [results, Tryd.results35, go_sem, s0, s1, s2, s3]) rfl HF.out.post
        · have hd : decide ((0 : Int) < (R.length : Int)) = true := decide_eq_true (by omega)
          have hdn : decide (0 < R.length) = true := decide_eq_true (by omega)
          obtain ⟨g, c', he, hg, hgs, hgf, -⟩ := HS7.out.own.slot (by have := HGL.out; omega)
          injection he with e1 e2 e3
          subst e1 e3
          clear e2 hgs hgf
          have hwg : w.heap.size + 2 ≠ g := by omega
          have hGp : ∀ j, j < R.length → j < G.length ∧ 0 < (grAt G j).2.2.length ∧ ValsSized (grAt G j).2.2 := fun j hj => by
            have h1 : j < G.length := by have := HGL.out; omega
            have h2 := tabR_at h1
            rw [HGR.out] at h2
            have h3 := HROWS.out j hj
            have h4 := HSZ.out _ (tAt_mem hj)
            rw [h2] at h3 h4
            have h3 : (grAt G j).2.2.length = n := h3
            exact ⟨h1, by omega, h4⟩
          have HGP := Lib.hid hGp
          clear hGp
          go_upto_region 10 with (fail)
          go_region_held3 (fun u => u.cell? ⟨w.heap.size + 2, 3, none⟩ = some (.slice (some ⟨g, 0, none⟩) R.length c) ∧ w.heap.size + 2 < u.heap.size)
            (first
              | exact ⟨x3, xl⟩
              | exact ⟨hNq.rst.out.c3, hNq.rst.out.lt⟩
              | with_reducible exact keepSo hwg (by assumption))
            (first
              | (go_at_call 17; refine (next_any b _ _ (by omega) (by omega) (by exact HS7.out.rst.tape)).mono ?_; rintro e wq ⟨r, rfl, hj0, hj1, htq, hsq⟩; obtain ⟨j, rfl⟩ := Int.eq_ofNat_of_zero_le hj0; (have hjR : (j : Int) < (R.length : Int) := by omega); (have hNq := HS7.out.next (((StepT.refl b _).drewN 1).trans hsq) htq)))
          rename_i hHeld
          clear hHeld
          obtain ⟨hjG, hjp, hjs⟩ := HGP.out j (by omega)
          obtain ⟨-, d9, dfz, d0, d1, dn⟩ := hNq.own.slotAt hjG
          have hin := hNq.own.inn _ (grAt_mem hjG)
          obtain ⟨h', ch, hv, hh, hhs, -, hob, hrow, hlc⟩ := hin.slot hjp
          have hl32 : (grAt G j).2.2.length * 32 ≤ 140737488355328 := hin.2
          have hhg : h' ≠ g := fun e => dn (e ▸ hob)
          rw [hv] at d1
          have HROW := Lib.hid hrow
          have h1c : (1 : Int) ≤ (ch : Int) := by omega
          have h1l : (1 : Int) ≤ ((grAt G j).2.2.length : Int) := by omega
          have hlcI : ((grAt G j).2.2.length : Int) ≤ (ch : Int) := by omega
          clear hrow hin x0 x1 x2 x3 xl xf dn hob hv
          have hlI : (((grAt G j).2.2.drop 1).length : Nat) = (grAt G j).2.2.length - 1 := List.length_drop
          have HLD := Lib.hid hlI
          clear hlI
          by_cases hc1 : ch = 1
          · have hl1 : (grAt G j).2.2.length = 1 := by omega
            have HL1 := Lib.hid hl1
            subst hc1
            clear hl1
            go_upto_region 27 with (fail)
            have hput : TRowsIn (w.heap.size + 3) (World.setCell _ ⟨g, j * 2 + 1, none⟩ (.slice (some ⟨h', 0, none⟩) 0 0)) (some ⟨g, 0, none⟩) ((tabR G).set j ((grAt G j).1, [])) := hNq.own.putCell1 (q := some ⟨h', 0, none⟩) (l := []) (cp := 0) HGL.out hjG (fun i hi => by simp at hi) (by simp) (fun e => by cases e) (fun a ha => by cases ha; exact ⟨hh, hhs, hhg⟩)
            have HF := Lib.hid (fin_rows (f := f) (hNq.rst.setG hg _) (by rw [List.length_set, tabR_length]; exact HGL.out) hput (fun v ha => cols_fin HC.out hn1 HCB.out (hNq.rst.setG (o := j * 2 + 1) hg (.slice (some ⟨h', 0, none⟩) 0 0)).step v ha) hnm hn63 hR63 (sized_set (by rw [HGR.out]; exact HSZ.out) (fun i hi => by simp at hi)) (by omega) hcapR)
            clear d0 d1 dfz d9 hput
            generalize World.setCell _ _ _ = W9 at HF ⊢
            obtain ⟨xl, x0, x1, x2, x3, xf⟩ := HF.out.rst.out
            obtain ⟨rl, r0, r1, r2, r3, rf⟩ := HF.out.rst.res
            dsimp only at x0 x1 x2 x3
            go_wp2
            obtain ⟨-, s0, s1, s2, s3, -⟩ := cell4_put W9 HF.out.rst.res (.string nm) (.slice pc n cc) (.int .i64 nx) (.slice (some ⟨g, 0, none⟩) R.length c)
            exact bodyPost_ret (v := .agg #[.string nm, .slice pc n cc, .int .i64 nx, .slice (some ⟨g, 0, none⟩) R.length c]) (by simp [results, Tryd.results35, go_sem, s0, s1, s2, s3]) rfl HF.out.post
          · go_upto_region 27 with (fail)
            have hput := hNq.own.putCell1 (cp := ch - 1) HGL.out hjG HROW.out.tail (by rw [HLD.out]; omega) (fun e => by cases e) (fun a ha => by cases ha; exact ⟨hh, hhs, hhg⟩)
            rw [HLD.out] at hput
            have HF := Lib.hid (fin_rows (f := f) (hNq.rst.setG hg _) (by rw [List.length_set, tabR_length]; exact HGL.out) hput (fun v ha => cols_fin HC.out hn1 HCB.out (hNq.rst.setG (o := j * 2 + 1) hg (.slice (some ⟨h', 3, none⟩) ((grAt G j).2.2.length - 1) (ch - 1))).step v ha) hnm hn63 hR63 (sized_set (by rw [HGR.out]; exact HSZ.out) (sized_drop hjs)) (by omega) hcapR)
            clear d0 d1 dfz d9 hput
            generalize World.setCell _ _ _ = W9 at HF ⊢
            obtain ⟨xl, x0, x1, x2, x3, xf⟩ := HF.out.rst.out
            obtain ⟨rl, r0, r1, r2, r3, rf⟩ := HF.out.rst.res
            dsimp only at x0 x1 x2 x3
            go_wp2
            obtain ⟨-, s0, s1, s2, s3, -⟩ := cell4_put W9 HF.out.rst.res (.string nm) (.slice pc n cc) (.int .i64 nx) (.slice (some ⟨g, 0, none⟩) R.length c)
            exact bodyPost_ret (v := .agg #[.string nm, .slice pc n cc, .int .i64 nx, .slice (some ⟨g, 0, none⟩) R.length c]) (by simp [results, Tryd.results35, go_sem, s0, s1, s2, s3]) rfl HF.out.post
theorem spoiledt_any (b : Nat) (w : World) (h8b : 3 ≤ b) (ht : TapeAt w b) (hE : Env ls w) (hlw : 1 ∈ ls) (nm : ByteArray) (pc : Option Addr) (n cc : Nat) (f : Nat → Col) (nx : Int) (pr : Option Addr) (cr : Nat) (R : List TRow) (hnm : nm.size ≤ 9223372036854775807)
    (HT0 : ∀ v, StepT b w v → TabAt v ⟨nm, pc, n, cc, f, nx, pr, cr, R⟩) (hval : validT nm n f nx R = true) (hR : R.length ≤ 20) (hcb : ∀ a, pc = some a → a.block ≠ b) :
    Calls Tryd.prog 35 #[.pointer (some ⟨b, 0, none⟩), .agg #[.string nm, .slice pc n cc, .int .i64 nx, .slice pr R.length cr]] w (SpoiledTPost b w) :=
  (spoiledtc_any b w h8b ht hE hlw nm pc n cc f nx pr cr R hnm HT0 hval hR hcb).mono fun _ _ ⟨T, h1, h2, h3, h4, _⟩ => ⟨T, h1, h2, h3, h4⟩
end Go.Proofs.YtgaihglploedaaaDoor
