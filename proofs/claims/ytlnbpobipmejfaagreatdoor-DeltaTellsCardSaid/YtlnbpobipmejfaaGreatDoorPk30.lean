/-
  Several texts in one.
-/
import Derived.Test.YtlnbpobipmejfaaGreatDoorPk16
import Derived.Test.YtlnbpobipmejfaaGreatDoorPk12
import Derived.Deep.RegionHeld3
/-
  Tables: Copy of the reference.
-/
namespace Go.Proofs.YtlnbpobipmejfaaGreatDoor
set_option maxRecDepth 100000
open Go.RowKit
variable {ls : List Nat}

/-- What Copy gives. -/
def CopyTPost (T : Tab) (w : World) (e : Ending) (w' : World) : Prop := ∃ S : Tab, e = .returned S.v ∧ TabAt w' S ∧ S.nm = T.nm ∧ S.n = T.n ∧ S.f = T.f ∧ S.nx = T.nx ∧ S.R = T.R ∧ (∀ a, S.pc = some a → w.heap.size ≤ a.block) ∧ Below w.heap.size w w'
set_option maxHeartbeats 4000000 in
theorem rcopytab_any (T : Tab) (w : World) (hT : TabAt w T) (hn1 : 0 < T.n) (hn6 : T.n ≤ 1000) :
    Calls Tryz.prog 54 #[T.v] w (CopyTPost T w) := by
  obtain ⟨nm, pc, n, cc, f, nx, pr, cr, R⟩ := T
  unfold Tab.v CopyTPost
  dsimp only at *
  have HT := Lib.hid hT
  have hR63 := hT.len
  dsimp only at hR63
  obtain ⟨c, o, rfl, hcl0⟩ := hT.cols.ptr hn1
  obtain ⟨l, hl, hlf⟩ := cols_list n f
  have hb0 : Below w.heap.size w ((w.alloc (.cells #[.string nm, .slice (some ⟨c, o, none⟩) n cc, .int .i64 nx, .slice pr R.length cr] 34)).alloc (.cells #[.string ⟨#[]⟩, .slice none 0 0, .int .i64 0, .slice none 0 0] 34)) := below_new (below_new (Below.refl _ _) _) _
  have hcols : ColsAt w (some ⟨c, o, none⟩) l.length (cAt l) := by rw [hl]; exact hT.cols.congr hlf
  have hsz : Sized l := fun i hi => by
    obtain ⟨-, -, -, -, hs, -⟩ := hcols i hi
    exact hs
  have HCL := Lib.hid (hcols.low hb0)
  have HSZ := Lib.hid hsz
  have HLF : Hid (∀ i, i < n → f i = cAt l i) := Lib.hid fun i hi => (hlf i hi).symm
  have HX := Lib.hid ((cell4_new w (.string nm) (.slice (some ⟨c, o, none⟩) n cc) (.int .i64 nx) (.slice pr R.length cr) 34).low (below_alloc _ (.cells #[.string ⟨#[]⟩, .slice none 0 0, .int .i64 0, .slice none 0 0] 34)))
  have HY := Lib.hid ((cell4_new (w.alloc (.cells #[.string nm, .slice (some ⟨c, o, none⟩) n cc, .int .i64 nx, .slice pr R.length cr] 34)) (.string ⟨#[]⟩) (.slice none 0 0) (.int .i64 0) (.slice none 0 0) 34).at (size_alloc _ _))
  have HB0 := Lib.hid hb0
  have hown0 : ∀ W : World, W.ownsRow W.heap.size 63 4 (.slice none 0 0) 0 (ccells []) := fun W => ⟨rfl, Or.inl ⟨rfl, rfl⟩⟩
  have HO := Lib.hid hown0
  clear hT hb0 hown0 hcols hsz hlf
  go_enter Tryz.func54, Tryz.ntmps54
  go_upto_region 1 with (fail)
  generalize World.alloc _ _ = W0 at HCL HX HY HB0 ⊢
  obtain ⟨hxl, x0, x1, x2, x3, xf⟩ := HX.out
  have hyl := HY.out.lt
  go_upto_region 2 with (at_builtin; refine wpList_append_cols rfl _ (.tmp 8) rfl W0.heap.size _ 0 [] rfl (HO.out _) ⟨c, o, none⟩ l cc n rfl hl HCL.out (by omega) (Nat.le_refl _) ?_; intro v2 w2 hown2 hgr2; (have hb2 := grown_below (Below.refl W0.heap.size W0) (Nat.le_refl _) hgr2 (fun k hk => by cases hk)); rw [Nat.zero_add, List.nil_append] at hown2; obtain ⟨p2, c2, hv2, -, hcols2, hq2⟩ := cols_of_owns hown2 HSZ.out; subst hv2; (have HC2 := Lib.hid hcols2); (have HQ2 := Lib.hid hq2); (have HX2 := Lib.hid (HX.out.low hb2)); (have HY2 := Lib.hid (HY.out.low hb2)); (have HB2 := Lib.hid (below_next HB0.out hb2)); clear hown2 hgr2 hb2 hcols2 hq2 hxl x0 x1 x2 x3 xf; obtain ⟨hxl, x0, x1, x2, x3, xf⟩ := HX2.out)
  have hX3 := HX2.out.set1 (.slice p2 n c2)
  have HX3 := Lib.hid hX3
  have HY3 := Lib.hid (HY2.out.far (Y := w.heap.size) (o := 1) (by omega) (.slice p2 n c2))
  have hWs : W0.heap.size ≤ w2.heap.size ∨ True := .inr trivial
  have hq2 : ∀ q, p2 = some q → w.heap.size + 2 ≤ q.block := fun q hq => by have := (HQ2.out q hq).1; omega
  have HQ3 := Lib.hid hq2
  have HC3 := Lib.hid (HC2.out.set (a := ⟨w.heap.size, 1, none⟩) (fun q hq => by have := hq2 q hq; show q.block ≠ w.heap.size; omega) (.slice p2 n c2))
  have HB3 : Hid (Below w.heap.size w (w2.setCell ⟨w.heap.size, 1, none⟩ (.slice p2 n c2))) := Lib.hid (HB2.out.setCell (by exact Nat.le_refl _) _)
  clear HX2 HY2 HC2 HB2 HQ2 hq2 hX3 hWs hxl x0 x1 x2 x3 xf hyl
  generalize World.setCell _ _ _ = W3 at HX3 HY3 HC3 HB3 ⊢
  have HBB : Hid (w.heap.size + 2 ≤ W3.heap.size) := Lib.hid HY3.out.lt
  obtain ⟨hxl, x0, x1, x2, x3, xf⟩ := HX3.out
  go_wp2_with fail
  go_loopw [3, 15] (fun r i v => ∃ (k : Nat) (vr : Value) (G : List GRow), k ≤ R.length ∧ vr = r ∧ i = .int .i64 k ∧ G.length = k ∧ tabR G = R.take k ∧ TOwn v W3.heap.size vr G ∧ Below W3.heap.size W3 v) (fun _ i _ => R.length - (intOf i).toNat)
  case atStart => exact ⟨0, .slice none 0 0, [], Nat.zero_le _, rfl, rfl, rfl, rfl, TOwn.nil _ _, Below.refl _ _⟩
  clear hxl x0 x1 x2 x3 xf
  case round =>
    obtain ⟨k, vr, G, hk, rfl, rfl, hGl, hG, hown, hb⟩ := hrel
    have HG := Lib.hid hG
    have HGL := Lib.hid hGl
    have HOW := Lib.hid hown
    have HB := Lib.hid hb
    have HBW : Hid (Below w.heap.size w wr) := Lib.hid (HB3.out.trans (hb.mono (by have := HBB.out; omega)))
    clear hG hGl hown hb
    by_cases hlt : k < R.length
    · have hlt' : decide ((k : Int) < R.length) = true := decide_eq_true (by omega)
      obtain ⟨c', o', q, cp, hpr, hc, h0, h1, hr, hs, hqn⟩ := (HT.out.low HBW.out).rows k hlt
      dsimp only at hpr h0 h1 hr hs hqn
      subst hpr
      have hbn := below_alloc wr (.cells #[.int .i64 (tAt R k).1, .slice q (tAt R k).2.length cp] 58)
      have HO4 := Lib.hid (HOW.out.low hbn)
      have HB4 := Lib.hid (HB.out.trans (hbn.mono HB.out.size))
      have HR4 := Lib.hid (hr.low hbn)
      have HX4 := Lib.hid (row2_new wr (.int .i64 (tAt R k).1) (.slice q (tAt R k).2.length cp) 58)
      have HXL : Hid (wr.heap.size < (wr.alloc (.cells #[.int .i64 (tAt R k).1, .slice q (tAt R k).2.length cp] 58)).heap.size) := Lib.hid (by rw [size_alloc]; omega)
      have HNE : Hid (∀ k, vr.ownBlock = some k → k < wr.heap.size) := Lib.hid (owns_lt HOW.out.own)
      have HS := Lib.hid hs
      have HN := Lib.hid hqn
      clear hr hs hqn hbn HOW HB
      go_upto_region 6 with (fail)
      clear h0 h1 hc
      generalize World.alloc _ _ = W4 at HO4 HB4 HR4 HX4 HXL ⊢
      generalize wr.heap.size = X at HX4 HXL HNE ⊢
      obtain ⟨r0, r1⟩ := HX4.out
      have rl := HXL.out
      have HS4 : Hid (W3.heap.size ≤ W4.drew.heap.size) := Lib.hid HB4.out.size
      have HR4D := Lib.hid (HR4.out.low (Below.refl W4.heap.size W4).drew)
      have HO4D := Lib.hid (HO4.out.low (Below.refl W4.heap.size W4).drew)
      have HB4D := Lib.hid HB4.out.drew
      go_region_held3 (fun u => u.cell? ⟨X, 0, none⟩ = some (.int .i64 (tAt R k).1) ∧ u.cell? ⟨X, 1, none⟩ = some (.slice q (tAt R k).2.length cp) ∧ X < u.heap.size)
        (first
          | exact ⟨r0, r1, rl⟩
          | with_reducible exact keepCT hb5 (by assumption)
          | exact keepCT (below_alloc _ _) (by assumption)
          | exact keepCG hg8 HNE.out (by assumption))
        (first
          | (go_at_call 32; refine (rcopy_any (tAt R k).2 q cp _ HR4D.out HS.out HN.out).mono ?_; rintro e w5 ⟨v5, rfl, hin5, hb5⟩; (have HIN := Lib.hid (InRow.base hin5 HS4.out)); obtain ⟨p5, c5, hv5⟩ := InRow.ex hin5; subst hv5; (have HO5 := Lib.hid (HO4D.out.low hb5)); (have HB5 := Lib.hid (HB4D.out.trans (hb5.mono HS4.out))); clear hin5)
          | (refine step_append_trow (by rfl) (.tmp 19) (.tmp 26) (by rfl) W3.heap.size vr G (by simp [Act.eval]) (HO5.out.low (below_alloc _ _)).own w5.heap.size (tAt R k).1 (.slice p5 (tAt R k).2.length c5) (tAt R k).2 (by simp [Act.eval]) (row2_new _ _ _ _).1 (row2_new _ _ _ _).2 rfl (by have := HGL.out; omega) (by rw [size_alloc]; exact Nat.le_succ_of_le HB5.out.size) ?_; intro v8 w8 hown8 hg8; (have HO8 := Lib.hid (HO5.out.push HIN.out hown8 hg8)); (have HB8 := Lib.hid (grown_below (below_new HB5.out _) (by rw [size_alloc]; exact Nat.le_succ_of_le HB5.out.size) hg8 (fun j hj => (HO5.out.own.lt j hj).1))); clear hown8))
      rename_i hHeld
      clear hHeld
      go_wp2
      go_roundw
      case rel => exact ⟨k + 1, _, G ++ [((tAt R k).1, .slice p5 (tAt R k).2.length c5, (tAt R k).2)], by omega, rfl, by go_num, by rw [List.length_append, HGL.out]; rfl, by rw [tabR_append, HG.out]; exact take_succ_tr hlt, HO8.out, HB8.out⟩
      case measure => simp [intOf]; omega
    · have hlt' : decide ((k : Int) < R.length) = false := decide_eq_false (by omega)
      obtain rfl : k = R.length := by omega
      have HGR : Hid (tabR G = R) := Lib.hid (by rw [HG.out, List.take_length])
      obtain ⟨p, c3, hvr⟩ := HOW.out.ex
      rw [HGL.out] at hvr
      subst hvr
      have HX4 := Lib.hid (HX3.out.low HB.out)
      have HY4 := Lib.hid (HY3.out.low HB.out)
      have HC4 : Hid (ColsAt wr p2 n f) := Lib.hid (by have := HC3.out.low HB.out; rw [hl] at this; exact this.congr HLF.out)
      have hfar : ∀ q, p2 = some q → q.block ≠ w.heap.size ∧ q.block ≠ w.heap.size + 1 := fun q hq => by have := HQ3.out q hq; omega
      have HFAR := Lib.hid hfar
      clear hfar
      have HRW := Lib.hid ((((((HOW.out.set (V := w.heap.size) (o := 3) (by have := HBB.out; omega) (.slice p R.length c3)).set (V := w.heap.size + 1) (o := 0) (by have := HBB.out; omega) (.string nm)).set (V := w.heap.size + 1) (o := 1) (by have := HBB.out; omega) (.slice p2 n c2)).set (V := w.heap.size + 1) (o := 2) (by have := HBB.out; omega) (.int .i64 nx)).set (V := w.heap.size + 1) (o := 3) (by have := HBB.out; omega) (.slice p R.length c3)).rows)
      have hYS := cell4_put (wr.setCell ⟨w.heap.size, 3, none⟩ (.slice p R.length c3)) (X := w.heap.size + 1) (a := .string ⟨#[]⟩) (b := .slice none 0 0) (c := .int .i64 0) (d := .slice none 0 0) (HY4.out.far (by omega) _) (.string nm) (.slice p2 n c2) (.int .i64 nx) (.slice p R.length c3)
      have HYS := Lib.hid hYS
      obtain ⟨hxl, x0, x1, x2, x3, xf⟩ := HX4.out
      obtain ⟨hyl, y0, y1, y2, y3, yf⟩ := HY4.out
      clear hYS
      go_wp2
      obtain ⟨-, s0, s1, s2, s3, -⟩ := HYS.out
      exact bodyPost_ret (v := Tab.v ⟨nm, p2, n, c2, cAt l, nx, p, c3, R⟩) (by simp [results, Tryz.results54, go_sem, s0, s1, s2, s3, Tab.v]) rfl
        ⟨⟨nm, p2, n, c2, f, nx, p, c3, R⟩, rfl, ⟨HT.out.name, HT.out.n, ((((HC4.out.set (fun q hq => (HFAR.out q hq).1) _).set (fun q hq => (HFAR.out q hq).2) _).set (fun q hq => (HFAR.out q hq).2) _).set (fun q hq => (HFAR.out q hq).2) _).set (fun q hq => (HFAR.out q hq).2) _, by have := HRW.out; rw [HGR.out] at this; exact this, HT.out.len, HT.out.sized, HT.out.nxr⟩, rfl, rfl, rfl, rfl, rfl, fun q hq => (by have := HQ3.out q hq; omega),
          ((((HBW.out.setCell (by exact Nat.le_refl _) _).setCell (by exact Nat.le_succ _) _).setCell (by exact Nat.le_succ _) _).setCell (by exact Nat.le_succ _) _).setCell (by exact Nat.le_succ _) _⟩
end Go.Proofs.YtlnbpobipmejfaaGreatDoor
