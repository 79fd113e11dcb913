/-
  Several texts in one.
-/
import Derived.Test.YtlpaphgmdcpmaaaGreatDoorPk22
import Derived.Test.YtlpaphgmdcpmaaaGreatDoorPk25
import Derived.Test.YtlpaphgmdcpmaaaGreatDoorPk21
import Derived.Deep.RegionLaw
import Derived.Deep.RegionWith
import Derived.Deep.CutRange
import Derived.Deep.CutBlock
import Derived.Test.YtlpaphgmdcpmaaaGreatDoorPk15
import Derived.Test.YtlpaphgmdcpmaaaGreatDoorPk18
/-
  Inside of the world's places: the frames, and one more.
-/
namespace Go.Proofs.YtlpaphgmdcpmaaaGreatDoor
set_option maxRecDepth 100000
open Go.RowKit
variable {ls : List Nat}

theorem Cell4.keep {u v : World} {X : Nat} {a b c d : Value} (h : Cell4 u X a b c d) (hz : u.heap.size ≤ v.heap.size) (hk : v.heap[X]? = u.heap[X]?) : Cell4 v X a b c d :=
  ⟨Nat.lt_of_lt_of_le h.lt hz, (World.cell?_of_block (w := u) hk).trans h.c0, (World.cell?_of_block (w := u) hk).trans h.c1, (World.cell?_of_block (w := u) hk).trans h.c2, (World.cell?_of_block (w := u) hk).trans h.c3, fun o => (World.frozen?_of_block (w := u) hk).trans (h.fz o)⟩
theorem news4 {u : World} {k : Nat} {a b c d : Value} (h : Cell4 u k a b c d) : ∀ j x, ([a, b, c, d] : List Value)[j]? = some x → u.cell? ((⟨k, 0, none⟩ : Addr).add j) = some x := by
  intro j x hj
  have hlt : j < 4 := (List.getElem?_eq_some_iff.1 hj).1
  have hadd : (⟨k, 0, none⟩ : Addr).add j = ⟨k, j, none⟩ := by unfold Addr.add; split <;> simp_all
  rw [hadd, ← hj]
  obtain rfl | rfl | rfl | rfl : j = 0 ∨ j = 1 ∨ j = 2 ∨ j = 3 := by omega
  · exact h.c0
  · exact h.c1
  · exact h.c2
  · exact h.c3
theorem own_nilF (u : World) (base : Nat) : u.ownsRow base 72 4 (.slice none 0 0) 0 (fcells []) := ⟨rfl, Or.inl ⟨rfl, rfl⟩⟩
set_option maxHeartbeats 4000000 in
theorem inside_any {N : Nat → Prop} (P : Pl) (s : Sc) (w : World) (hP : PlAt N w P) (hS : ScIn N w s) (hf : P.fr.length ≤ 90) (hN : ∀ c, N c → c < w.heap.size) :
    Calls Tryz.prog 34 #[plV P, scV s] w fun e w' => ∃ Q : Pl, e = .returned (plV Q) ∧ Q.fr = P.fr ++ [⟨s.nm, false, s.pc, s.nc, s.cc, s.col, none, 0, 0⟩] ∧ Q.tb = P.tb ∧ PlAt (fun c => N c ∨ w.heap.size ≤ c) w' Q ∧ Below w.heap.size w w' := by
  obtain ⟨i0, hi0, hz0, hz1, hz2⟩ := info_parts info_frame
  have hx := cell2_new w (.slice P.pf P.fr.length P.cf) (.slice P.pt P.tb.length P.ct) 37
  have hb1 := below_alloc w (.cells #[.slice P.pf P.fr.length P.cf, .slice P.pt P.tb.length P.ct] 37)
  have hy := cell2_new (w.alloc (.cells #[.slice P.pf P.fr.length P.cf, .slice P.pt P.tb.length P.ct] 37)) (.string s.nm) (.slice s.pc s.nc s.cc) 76
  have hb2 := below_alloc (w.alloc (.cells #[.slice P.pf P.fr.length P.cf, .slice P.pt P.tb.length P.ct] 37)) (.cells #[.string s.nm, .slice s.pc s.nc s.cc] 76)
  have hz := cell2_new ((w.alloc (.cells #[.slice P.pf P.fr.length P.cf, .slice P.pt P.tb.length P.ct] 37)).alloc (.cells #[.string s.nm, .slice s.pc s.nc s.cc] 76)) (.slice none 0 0) (.slice none 0 0) 37
  have hb3 := below_alloc ((w.alloc (.cells #[.slice P.pf P.fr.length P.cf, .slice P.pt P.tb.length P.ct] 37)).alloc (.cells #[.string s.nm, .slice s.pc s.nc s.cc] 76)) (.cells #[.slice none 0 0, .slice none 0 0] 37)
  have hbb := below_next hb1 (below_next hb2 hb3)
  have HX := Lib.hid ((hx.low hb2).low hb3)
  have HY := Lib.hid ((hy.low hb3).at (size_alloc _ _))
  have HZ := Lib.hid (hz.at (show _ = w.heap.size + 2 by rw [size_alloc, size_alloc]))
  have HB1 := Lib.hid hbb
  have HU := Lib.hid (show (((w.alloc (.cells #[.slice P.pf P.fr.length P.cf, .slice P.pt P.tb.length P.ct] 37)).alloc (.cells #[.string s.nm, .slice s.pc s.nc s.cc] 76)).alloc (.cells #[.slice none 0 0, .slice none 0 0] 37)).heap.size = w.heap.size + 3 by rw [size_alloc, size_alloc, size_alloc])
  have HP := Lib.hid (hP.low hbb)
  have HSC := Lib.hid (hS.low hbb)
  have HN := Lib.hid hN
  clear hx hy hz hb1 hb2 hb3 hbb hP hS hN
  unfold plV scV
  go_enter Tryz.func34, Tryz.ntmps34
  go_upto_region 1 with (fail)
  generalize World.alloc (World.alloc (World.alloc w _) _) _ = u1 at *
  have HSRC : Hid (∀ u, Below u1.heap.size u1 u → (∀ ad, P.pf = some ad → ∀ j x, (fcells P.fr)[j]? = some x → u.cell? (ad.add j) = some x) ∧ (P.pf = none → fcells P.fr = [])) := Lib.hid fun u hb => (HP.out.low hb).frs.src
  refine wp_region_late (use := [[], [0], [1], [], [3], [], [5], [4, 6], [7], [2, 8], [9]]) (sl := [[6], [7], [8], [9], [10], [11], [12], [13], [14], [15], [5]]) (live := [[], [], [], [2], [2], [2], [2], [2], [2], [], []]) (late := [2, 9]) (brk := []) (B := u1.heap.size) (J := fun u => Below u1.heap.size u1 u) (Φ := fun ix f u => match ix with | 0 => f 6 = .pointer (some ⟨w.heap.size, 0, none⟩) | 1 => f 7 = .slice P.pf P.fr.length P.cf | 2 => u.ownsRow u1.heap.size 72 4 (f 8) P.fr.length (fcells P.fr) | 3 => f 9 = .pointer (some ⟨w.heap.size + 1, 0, none⟩) | 4 => f 10 = .string s.nm | 5 => f 11 = .pointer (some ⟨w.heap.size + 1, 1, none⟩) | 6 => f 12 = .slice s.pc s.nc s.cc | 7 => f 13 = .agg #[.string s.nm, .bool false, .slice s.pc s.nc s.cc, .slice none 0 0] | 8 => ∃ k, f 14 = .slice (some ⟨k, 0, none⟩) 1 1 ∧ Cell4 u k (.string s.nm) (.bool false) (.slice s.pc s.nc s.cc) (.slice none 0 0) | 9 => u.ownsRow u1.heap.size 72 4 (f 15) (P.fr.length + 1) (fcells (P.fr ++ [⟨s.nm, false, s.pc, s.nc, s.cc, s.col, none, 0, 0⟩])) | 10 => u.ownsRow u1.heap.size 72 4 (f 5) (P.fr.length + 1) (fcells (P.fr ++ [⟨s.nm, false, s.pc, s.nc, s.cc, s.col, none, 0, 0⟩])) | _ => True) (by kernel_rfl) _ rfl (by kernel_rfl) (by kernel_rfl) (Nat.le_refl _) ((Below.refl u1.heap.size u1).drew) (fun u v h hb => below_next h hb) ?_ ?_ ?_ ?_
  · intro jx f g u u2 hs hb h
    match jx, hs, h with
    | 0, hs, h =>
      have e6 := hs 6 (by decide)
      simp only [e6]
      exact h
    | 1, hs, h =>
      have e7 := hs 7 (by decide)
      simp only [e7]
      exact h
    | 2, hs, h =>
      have e8 := hs 8 (by decide)
      simp only [e8]
      exact owns_below h hb
    | 3, hs, h =>
      have e9 := hs 9 (by decide)
      simp only [e9]
      exact h
    | 4, hs, h =>
      have e10 := hs 10 (by decide)
      simp only [e10]
      exact h
    | 5, hs, h =>
      have e11 := hs 11 (by decide)
      simp only [e11]
      exact h
    | 6, hs, h =>
      have e12 := hs 12 (by decide)
      simp only [e12]
      exact h
    | 7, hs, h =>
      have e13 := hs 13 (by decide)
      simp only [e13]
      exact h
    | 8, hs, h =>
      have e14 := hs 14 (by decide)
      simp only [e14]
      exact (by obtain ⟨k, h1, h2⟩ := h; exact ⟨k, h1, h2.low hb⟩)
    | 9, hs, h =>
      have e15 := hs 15 (by decide)
      simp only [e15]
      exact owns_below h hb
    | 10, hs, h =>
      have e5 := hs 5 (by decide)
      simp only [e5]
      exact owns_below h hb
    | _ + 11, _, h => exact h
  · intro ix o hix hne f u hold hbe hgr hJ huse
    obtain ⟨kt, kc, kf⟩ := evF_all f
    match ix, hix, hne with
    | 0, hix, _ =>
      simp only [List.getElem?_cons_zero, Option.some.injEq] at hix
      subst hix
      have h2 : f 2 = .pointer (some ⟨w.heap.size, 0, none⟩) := (hold 2 (by kernel_rfl)).trans rfl
      clear hold
      refine gives_K fun K hK => ?_
      go_simp
      refine gives_value (hK _ _ ⟨Below.refl _ _, ?_⟩)
      exact upF_self _ _ _
    | 1, hix, _ =>
      simp only [List.getElem?_cons_zero, List.getElem?_cons_succ, Option.some.injEq] at hix
      subst hix
      have u0 := huse 0 (by decide)
      simp only at u0
      obtain ⟨xl, x0, x1, xf⟩ := HX.out.low (hJ (by kernel_rfl))
      clear hold
      refine gives_K fun K hK => ?_
      go_simp
      refine gives_value (hK _ _ ⟨Below.refl _ _, ?_⟩)
      exact upF_self _ _ _
    | 2, _, hne => exact absurd (by decide) hne
    | 3, hix, _ =>
      simp only [List.getElem?_cons_zero, List.getElem?_cons_succ, Option.some.injEq] at hix
      subst hix
      have h3 : f 3 = .pointer (some ⟨w.heap.size + 1, 0, none⟩) := (hold 3 (by kernel_rfl)).trans rfl
      clear hold
      refine gives_K fun K hK => ?_
      go_simp
      refine gives_value (hK _ _ ⟨Below.refl _ _, ?_⟩)
      exact upF_self _ _ _
    | 4, hix, _ =>
      simp only [List.getElem?_cons_zero, List.getElem?_cons_succ, Option.some.injEq] at hix
      subst hix
      have u3 := huse 3 (by decide)
      simp only at u3
      obtain ⟨yl, y0, y1, yf⟩ := HY.out.low (hJ (by kernel_rfl))
      clear hold
      refine gives_K fun K hK => ?_
      go_simp
      refine gives_value (hK _ _ ⟨Below.refl _ _, ?_⟩)
      exact upF_self _ _ _
    | 5, hix, _ =>
      simp only [List.getElem?_cons_zero, List.getElem?_cons_succ, Option.some.injEq] at hix
      subst hix
      have h3 : f 3 = .pointer (some ⟨w.heap.size + 1, 0, none⟩) := (hold 3 (by kernel_rfl)).trans rfl
      clear hold
      refine gives_K fun K hK => ?_
      go_simp
      refine gives_value (hK _ _ ⟨Below.refl _ _, ?_⟩)
      exact upF_self _ _ _
    | 6, hix, _ =>
      simp only [List.getElem?_cons_zero, List.getElem?_cons_succ, Option.some.injEq] at hix
      subst hix
      have u5 := huse 5 (by decide)
      simp only at u5
      obtain ⟨yl, y0, y1, yf⟩ := HY.out.low (hJ (by kernel_rfl))
      clear hold
      refine gives_K fun K hK => ?_
      go_simp
      refine gives_value (hK _ _ ⟨Below.refl _ _, ?_⟩)
      exact upF_self _ _ _
    | 7, hix, _ =>
      simp only [List.getElem?_cons_zero, List.getElem?_cons_succ, Option.some.injEq] at hix
      subst hix
      have u4 := huse 4 (by decide)
      have u6 := huse 6 (by decide)
      simp only at u4 u6
      refine gives_K fun K hK => ?_
      go_simp
      refine gives_value (hK _ _ ⟨Below.refl _ _, ?_⟩)
      exact upF_self _ _ _
    | 8, hix, _ =>
      simp only [List.getElem?_cons_zero, List.getElem?_cons_succ, Option.some.injEq] at hix
      subst hix
      have u7 := huse 7 (by decide)
      simp only at u7
      refine gives_K fun K hK => ?_
      go_simp
      exact gives_value (hK _ _ ⟨below_alloc _ _, u.heap.size, by rw [upF_self], cell4_new u _ _ _ _ _⟩)
    | 9, _, hne => exact absurd (by decide) hne
    | 10, hix, _ =>
      simp only [List.getElem?_cons_zero, List.getElem?_cons_succ, Option.some.injEq] at hix
      subst hix
      have u9 := huse 9 (by decide)
      simp only at u9
      refine gives_K fun K hK => ?_
      go_simp
      exact gives_value (hK _ _ ⟨Below.refl _ _, by rw [upF_self]; exact u9⟩)
    | ix + 11, hix, _ => simp at hix
  · intro ix o hix hin f u hold hbe hgr hJ huse
    obtain ⟨kt, kc, kf⟩ := evF_all f
    match ix, hix, hin with
    | 0, _, hin => exact absurd hin (by decide)
    | 1, _, hin => exact absurd hin (by decide)
    | 2, hix, _ =>
      simp only [List.getElem?_cons_zero, List.getElem?_cons_succ, Option.some.injEq] at hix
      subst hix
      have u1_ := huse 1 (by decide)
      simp only at u1_
      have u1' := u1_
      have hJw := hJ (by kernel_rfl)
      refine gives_append_any (.const (.slice none 0 0)) (.tmp 7) 34 72 rfl u1.heap.size i0 _ 4 72 Tryz.underlying34 hi0 hz0 hz1 hz2 rfl (by decide) (.slice none 0 0) 0 (fcells []) (kc _) (own_nilF u u1.heap.size) P.pf P.fr.length P.cf (fcells P.fr) ((kt 7).trans u1') (fcells_length _) (HSRC.out u hJw).1 (HSRC.out u hJw).2 (fcells_one _) (by unfold maxLen; omega) (by omega) hgr ?_
      intro v2 u2 hown hg
      rw [Nat.zero_add] at hown
      refine ⟨hg.size, grown_below hbe hgr hg (fun k hk => by cases hk), by rw [upF_self]; exact hown, fun _ => grown_below hJw hJw.size hg (fun k hk => by cases hk), ?_⟩
      intro jx hji hl hr hs h
      match jx, hji, hl, hr, hs, h with
      | 0, _, hl, _, _, _ => exact absurd hl (by decide)
      | 1, _, hl, _, _, _ => exact absurd hl (by decide)
      | 2, hji, _, _, _, _ => exact absurd rfl hji
      | 3, _, _, hr, hs, h =>
        have e9 := hs 9 (by decide)
        simp only [e9]
        exact h
      | 4, _, _, hr, hs, h =>
        have e10 := hs 10 (by decide)
        simp only [e10]
        exact h
      | 5, _, _, hr, hs, h =>
        have e11 := hs 11 (by decide)
        simp only [e11]
        exact h
      | 6, _, _, hr, hs, h =>
        have e12 := hs 12 (by decide)
        simp only [e12]
        exact h
      | 7, _, _, hr, hs, h =>
        have e13 := hs 13 (by decide)
        simp only [e13]
        exact h
      | 8, _, _, hr, hs, h =>
        have e14 := hs 14 (by decide)
        simp only [e14]
        obtain ⟨k, h1, h2⟩ := h
        exact ⟨k, h1, h2.keep hg.size (hg.block k h2.lt (by intro e; cases e))⟩
      | 9, _, hl, _, _, _ => exact absurd hl (by decide)
      | 10, _, hl, _, _, _ => exact absurd hl (by decide)
      | jx + 11, _, hl, _, _, _ => exact absurd hl (by simp)
    | 3, _, hin => exact absurd hin (by decide)
    | 4, _, hin => exact absurd hin (by decide)
    | 5, _, hin => exact absurd hin (by decide)
    | 6, _, hin => exact absurd hin (by decide)
    | 7, _, hin => exact absurd hin (by decide)
    | 8, _, hin => exact absurd hin (by decide)
    | 9, hix, _ =>
      simp only [List.getElem?_cons_zero, List.getElem?_cons_succ, Option.some.injEq] at hix
      subst hix
      have u2 := huse 2 (by decide)
      have u8 := huse 8 (by decide)
      simp only at u2 u8
      have hJw := hJ (by kernel_rfl)
      obtain ⟨k, h14, hc4⟩ := u8
      refine gives_append_any (.tmp 8) (.tmp 14) 34 72 rfl u1.heap.size i0 _ 4 72 Tryz.underlying34 hi0 hz0 hz1 hz2 rfl (by decide) (f 8) P.fr.length (fcells P.fr) (kt 8) u2 (some ⟨k, 0, none⟩) 1 1 (frcs ⟨s.nm, false, s.pc, s.nc, s.cc, s.col, none, 0, 0⟩) ((kt 14).trans h14) rfl (fun ad he => by cases he; exact news4 hc4) (fun e => by cases e) (frcs_one _) (by unfold maxLen; omega) (by omega) hgr ?_
      intro v2 w2 hown hg
      refine ⟨hg.size, grown_below hbe hgr hg (fun k hk => by have := owns_block u2 k hk; omega), by rw [upF_self, fcells_append]; exact hown, fun _ => grown_below hJw hJw.size hg (fun k hk => owns_block u2 k hk), ?_⟩
      intro jx hji hl hr hs h
      match jx, hji, hl, hr, hs, h with
      | 0, _, hl, _, _, _ => exact absurd hl (by decide)
      | 1, _, hl, _, _, _ => exact absurd hl (by decide)
      | 2, _, hl, _, _, _ => exact absurd hl (by decide)
      | 3, _, hl, _, _, _ => exact absurd hl (by decide)
      | 4, _, hl, _, _, _ => exact absurd hl (by decide)
      | 5, _, hl, _, _, _ => exact absurd hl (by decide)
      | 6, _, hl, _, _, _ => exact absurd hl (by decide)
      | 7, _, hl, _, _, _ => exact absurd hl (by decide)
      | 8, _, hl, _, _, _ => exact absurd hl (by decide)
      | 9, hji, _, _, _, _ => exact absurd rfl hji
      | 10, _, hl, _, _, _ => exact absurd hl (by decide)
      | jx + 11, _, hl, _, _, _ => exact absurd hl (by simp)
    | 10, _, hin => exact absurd hin (by decide)
    | ix + 11, hix, _ => simp at hix
  · intro f2 u2 hbe hall
    have u10 := hall 10 (by decide) (by kernel_rfl)
    simp only at u10
    clear hall
    have HO := Lib.hid u10
    have HB := Lib.hid (below_next HB1.out (Below.trans ((Below.refl u1.heap.size u1).drew) hbe))
    have HBU := Lib.hid ((Below.refl u1.heap.size u1).drew.trans hbe)
    obtain ⟨p5, c5, g5⟩ := own_exW u10
    rw [g5] at HO
    simp only [putAll, List.foldl_cons, List.foldl_nil, Act.put, List.setIfInBounds_toArray, List.set_cons_succ, List.set_cons_zero]
    rw [g5]
    clear u10 g5 hbe
    obtain ⟨xl, x0, x1, xf⟩ := HX.out.low HBU.out
    obtain ⟨zl, z0, z1, zf⟩ := HZ.out.low HBU.out
    go_wp2
    obtain ⟨-, s0, s1, -⟩ := cell2_set (HZ.out.low HBU.out) (.slice p5 (P.fr.length + 1) c5) (.slice P.pt P.tb.length P.ct)
    refine bodyPost_ret (v := .agg #[.slice p5 (P.fr.length + 1) c5, .slice P.pt P.tb.length P.ct]) (by simp [results, Tryz.results34, go_sem, s0, s1]) rfl ?_
    have hsz := HB.out.size
    refine ⟨⟨p5, c5, P.fr ++ [⟨s.nm, false, s.pc, s.nc, s.cc, s.col, none, 0, 0⟩], P.pt, P.ct, P.tb⟩, by simp, rfl, rfl, ?_, ?_⟩
    · have hPu := HP.out.low HBU.out
      have hPw : PlAt (fun c => N c ∨ w.heap.size + 2 < c) u2 P := hPu.weak fun c _ hc => .inl hc
      obtain ⟨p6, c6, h6, -, hF⟩ := FrsAt.own (N := fun c => N c ∨ w.heap.size + 2 < c) HO.out (fun k hk => .inr (by have := owns_block HO.out k hk; have := HU.out; omega)) (fun x hx => by
        rcases List.mem_append.1 hx with hx | hx
        · obtain ⟨i, hi, rfl⟩ := List.getElem_of_mem hx
          obtain ⟨c, o, -, -, -, -, hI⟩ := hPw.frs i hi
          exact hI
        · obtain rfl := List.mem_singleton.1 hx
          have hc := (HSC.out.low HBU.out)
          exact ⟨hc.ns, qual_src hc.q, hc.cols.keep (Nat.le_refl _) fun c _ hn => ⟨rfl, .inl hn⟩⟩)
      injection h6 with h7 h8 h9
      subst h7
      have hset : ∀ c, c < u2.heap.size → (N c ∨ w.heap.size + 2 < c) → ((u2.setCell ⟨w.heap.size + 2, 0, none⟩ (.slice p5 (P.fr.length + 1) c5)).setCell ⟨w.heap.size + 2, 1, none⟩ (.slice P.pt P.tb.length P.ct)).heap[c]? = u2.heap[c]? ∧ (N c ∨ w.heap.size ≤ c) := by
        intro c hc hn
        have hcn : c ≠ w.heap.size + 2 := by rcases hn with hn | hn; · have := HN.out c hn; omega
                                             · omega
        exact ⟨(Below.heap_setCell _ _ _ _ hcn).trans (Below.heap_setCell _ _ _ _ hcn), hn.imp id fun h => by omega⟩
      exact ⟨by show (P.fr ++ [_]).length ≤ 100; rw [List.length_append, List.length_singleton]; omega, hPw.nt, hF.keep (by simp [World.setCell]) hset, hPw.tbs.keep (by simp [World.setCell]) hset⟩
    · exact (HB.out.setCell (by show w.heap.size ≤ w.heap.size + 2; omega) _).setCell (by show w.heap.size ≤ w.heap.size + 2; omega) _
end Go.Proofs.YtlpaphgmdcpmaaaGreatDoor
/-
  AnyExpr of the tape gives well-formed trees.
-/
namespace Go.Proofs.YtlpaphgmdcpmaaaGreatDoor
set_option maxRecDepth 100000
open Go.RowKit
variable {ls : List Nat}

/-- AnyExpr for depths below D. -/
def AnyDoes (ls : List Nat) (D : Nat) : Prop := ∀ (b : Nat) (depth : Int) (w : World), depth < D → -1000 ≤ depth → 13 ≤ b → TapeAt w b → Env ls w →
    Calls Tryz.prog 5 #[.pointer (some ⟨b, 0, none⟩), .int .i64 depth] w (AExPost b D w)
theorem leaf_end {b D : Nat} {w u : World} {E : Ex} (hW : AnW b w u) (hE : ∀ v, ExAt (fun c => w.heap.size < c) v D E) (hV : vE D E = true) {v : World} (hb : ButX w.heap.size u v) {e : Ending} (he : e = .returned (exV E)) : AExPost b D w e v :=
  ⟨E, he, hE v, hV, hW.tape.but hb hW.lt, hW.step.but hb (Nat.le_refl _)⟩
theorem tree_end {b X D : Nat} {w u : World} {E : Ex} (hW : AnW b w u) (hE : ExAt (fun c => X < c) u D E) (hX : w.heap.size < X) (hV : vE D E = true) {v : World} (hb : ButX w.heap.size u v) {e : Ending} (he : e = .returned (exV E)) : AExPost b D w e v :=
  ⟨E, he, hE.but hb fun c _ hc => ⟨by omega, by omega⟩, hV, hW.tape.but hb hW.lt, hW.step.but hb (Nat.le_refl _)⟩
set_option maxHeartbeats 4000000 in
theorem anyExpr_step {D : Nat} (hD : D ≤ 100) (H : 1 ≤ D → AnyDoes ls D) (hn : 0 ∈ ls) (hlw : 3 ∈ ls) : AnyDoes ls (D + 1) := by
  intro b depth w hd hd2 h8 ht hE
  have hlt := ht.lt
  have hW0 : AnW b w (w.alloc (.cells #[.int .i64 0, .int .i64 0, .bool false, .int .i64 0, .int .i64 0, .string ⟨#[]⟩, .string ⟨#[]⟩, .string ⟨#[]⟩, .slice none 0 0, .slice none 0 0] 27)) :=
    ⟨ht.alloc _, (StepT.refl b w).alloc _, ExB.new w ex0 _, hlt⟩
  have HW0 := Lib.hid hW0
  have HE := Lib.hid hE
  have hb4 : b ≠ 3 := Nat.ne_of_gt (Nat.lt_of_lt_of_le (show 3 < 13 by decide) h8)
  have HD := Lib.hid H
  clear hW0 hE ht H
  go_enter Tryz.func5, Tryz.ntmps5
  go_wp2_with fail
  refine (next_any b _ _ (by omega) (by omega) HW0.out.tape).mono ?_
  rintro e w1 ⟨r, rfl, hr0, hr1, ht1, hs1⟩
  have HW1 := Lib.hid (HW0.out.next hs1 ht1)
  clear hs1 ht1 HW0
  rcases (show depth ≤ 0 ∨ (0 < depth ∧ r ≤ 1) ∨ (0 < depth ∧ 2 ≤ r) by omega) with h0 | ⟨h0, h1⟩ | ⟨h0, h1⟩
  · have e1 : decide (depth ≤ 0) = true := decide_eq_true h0
    go_wp2_with fail
    refine (tbool_any b 2 _ (by omega) (by omega) HW1.out.tape).mono ?_
    rintro e w2 ⟨q1, rfl, ht2, hs2⟩
    have HW2 := Lib.hid (HW1.out.next hs2 ht2)
    clear hs2 ht2 HW1
    cases q1
    · have HE2 := Lib.hid (HE.out.step HW2.out.step h8)
      go_wp2_with fail
      refine (value_any b _ hb4 HW2.out.tape (HE2.out.words hlw)).mono ?_
      rintro e w3 ⟨k, n, sv, rfl, hv, -, ht3, hs3⟩
      have HV := Lib.hid hv
      have HW3 := Lib.hid (HW2.out.next hs3 ht3)
      clear hv hs3 ht3 HW2
      have hsz : sv.size ≤ 9223372036854775807 := by have := HV.out.size; omega
      by_cases hneg : k = 1 ∧ n < 0
      · obtain ⟨rfl, hn0⟩ := hneg
        obtain ⟨yl, y0, y1, y2, yf⟩ := cell3_new w3 (.int .i64 1) (.int .i64 n) (.string sv) 23
        have HW4 := Lib.hid (HW3.out.low (below_alloc w3 (.cells #[.int .i64 1, .int .i64 n, .string sv] 23)))
        go_wp2_with fail
        refine (next_any b _ _ (by omega) (by omega) HW4.out.tape).mono ?_
        rintro e w4 ⟨m, rfl, hm0, hm1, ht4, hs4⟩
        have HW5 := Lib.hid (HW4.out.next hs4 ht4)
        have hbv : w3.heap.size ≠ b := by have := HW3.out.tape.lt; omega
        have hy := (cell3_new w3 (.int .i64 1) (.int .i64 n) (.string sv) 23).step3 hs4 hbv
        have hwl : w.heap.size < w3.heap.size := HW3.out.res.lt
        clear hs4 ht4 yl y0 y1 y2 yf
        obtain ⟨yl, y0, y1, y2, yf⟩ := hy
        have hbx := (ButX.refl w3.heap.size w4).set 1 none (.int .i64 m)
        have HW6 := Lib.hid (HW5.out.but hbx hwl)
        go_wp2_with fail
        refine (lit_agg 1 m sv _).mono ?_
        rintro e w6 ⟨rfl, hb6⟩
        have HW7 := Lib.hid (HW6.out.low hb6)
        have HVL := Lib.hid (show vE (D + 1) (litEx 1 m sv) = true from vOf_lit (by rcases HV.out with ⟨h, -⟩ | ⟨-, -, rfl⟩ | ⟨h, -⟩ | ⟨h, -⟩ <;> first | omega | simp [validB]) hm0)
        clear hb6 HW3 HW4 HW5 HW6 yl y0 y1 y2 yf hbx
        obtain ⟨xl, c0, c1, c2, c3, c4, c5, c6, c7, c8, c9, xf⟩ := HW7.out.res
        go_wp2
        obtain ⟨x0, x1, x2, x3, x4, x5, x6, x7, x8, x9⟩ := set_ten HW7.out.res (.int .i64 1) (.int .i64 0) (.bool false) (.int .i64 1) (.int .i64 m) (.string sv) (.string ⟨#[]⟩) (.string ⟨#[]⟩) (.slice none 0 0) (.slice none 0 0)
        refine bodyPost_ret (v := .agg #[.int .i64 1, .int .i64 0, .bool false, .int .i64 1, .int .i64 m, .string sv, .string ⟨#[]⟩, .string ⟨#[]⟩, .slice none 0 0, .slice none 0 0]) (by simp [results, Tryz.results5, go_sem, x0, x1, x2, x3, x4, x5, x6, x7, x8, x9]) rfl ?_
        exact leaf_end (E := litEx 1 m sv) HW7.out (fun v => ExAt.leaf _ v D 1 0 false 1 m hsz (by decide) (by decide) ⟨by omega, by omega⟩) HVL.out (but_ten _ _ _ _ _ _ _ _ _ _ _ _) rfl
      · have HVL := Lib.hid (show vE (D + 1) (litEx k n sv) = true from vOf_lit HV.out.valid (by rcases HV.out with ⟨-, rfl, -⟩ | ⟨rfl, -, -⟩ | ⟨-, h, -, -⟩ | ⟨-, rfl, -⟩ <;> omega))
        have HW4 := Lib.hid (HW3.out.low (below_alloc w3 (.cells #[.int .i64 k, .int .i64 n, .string sv] 23)))
        have e5 : (k == 1 && decide (n < 0)) = false := by
          by_cases h : k = 1
          · simp [h] at hneg ⊢; omega
          · simp [h]
        have hval := lit_agg k n sv
        by_cases hk1 : k = 1
        · have e6 : decide (n < 0) = false := decide_eq_false (by omega)
          subst hk1
          go_wp2_with fail
          refine (hval _).mono ?_
          rintro e w6 ⟨rfl, hb6⟩
          have HW7 := Lib.hid (HW4.out.low hb6)
          clear hb6 HW3 HW4
          obtain ⟨xl, c0, c1, c2, c3, c4, c5, c6, c7, c8, c9, xf⟩ := HW7.out.res
          go_wp2
          obtain ⟨x0, x1, x2, x3, x4, x5, x6, x7, x8, x9⟩ := set_ten HW7.out.res (.int .i64 1) (.int .i64 0) (.bool false) (.int .i64 1) (.int .i64 n) (.string sv) (.string ⟨#[]⟩) (.string ⟨#[]⟩) (.slice none 0 0) (.slice none 0 0)
          refine bodyPost_ret (v := .agg #[.int .i64 1, .int .i64 0, .bool false, .int .i64 1, .int .i64 n, .string sv, .string ⟨#[]⟩, .string ⟨#[]⟩, .slice none 0 0, .slice none 0 0]) (by simp [results, Tryz.results5, go_sem, x0, x1, x2, x3, x4, x5, x6, x7, x8, x9]) rfl ?_
          exact leaf_end (E := litEx 1 n sv) HW7.out (fun v => ExAt.leaf _ v D 1 0 false 1 n hsz (by decide) (by decide) HV.out.i64) HVL.out (but_ten _ _ _ _ _ _ _ _ _ _ _ _) rfl
        · have e6 : (k == 1) = false := beq_eq_false_iff_ne.2 hk1
          go_wp2_with fail
          refine (hval _).mono ?_
          rintro e w6 ⟨rfl, hb6⟩
          have HW7 := Lib.hid (HW4.out.low hb6)
          clear hb6 HW3 HW4
          obtain ⟨xl, c0, c1, c2, c3, c4, c5, c6, c7, c8, c9, xf⟩ := HW7.out.res
          go_wp2
          obtain ⟨x0, x1, x2, x3, x4, x5, x6, x7, x8, x9⟩ := set_ten HW7.out.res (.int .i64 1) (.int .i64 0) (.bool false) (.int .i64 k) (.int .i64 n) (.string sv) (.string ⟨#[]⟩) (.string ⟨#[]⟩) (.slice none 0 0) (.slice none 0 0)
          refine bodyPost_ret (v := .agg #[.int .i64 1, .int .i64 0, .bool false, .int .i64 k, .int .i64 n, .string sv, .string ⟨#[]⟩, .string ⟨#[]⟩, .slice none 0 0, .slice none 0 0]) (by simp [results, Tryz.results5, go_sem, x0, x1, x2, x3, x4, x5, x6, x7, x8, x9]) rfl ?_
          exact leaf_end (E := litEx k n sv) HW7.out (fun v => ExAt.leaf _ v D 1 0 false k n hsz (by decide) (by decide) HV.out.i64) HVL.out (but_ten _ _ _ _ _ _ _ _ _ _ _ _) rfl
    · go_wp2_with fail
      refine (tbool_any b 3 _ (by omega) (by omega) HW2.out.tape).mono ?_
      rintro e w3 ⟨q2, rfl, ht3, hs3⟩
      have HW3 := Lib.hid (HW2.out.next hs3 ht3)
      clear hs3 ht3 HW2
      cases q2
      · go_wp2_with fail
        refine (name_any b _ h8 HW3.out.tape (HE.out.step HW3.out.step h8) hn).mono ?_
        rintro e w4 ⟨i, rfl, hi, ht4, hs4⟩
        have HW4 := Lib.hid (HW3.out.next hs4 ht4)
        have HVL := Lib.hid (show vE (D + 1) (colEx ⟨#[]⟩ (nameS i)) = true from vOf_col qual_none (names_fine ⟨i, hi⟩).1)
        have hsz := (names_fine ⟨i, hi⟩).2
        simp only at hsz
        clear hs4 ht4 HW3
        generalize nameS i = nv at *
        go_wp2_with fail
        refine (col_agg ⟨#[]⟩ nv _).mono ?_
        rintro e w6 ⟨rfl, hb6⟩
        have HW7 := Lib.hid (HW4.out.low hb6)
        clear hb6 HW4
        obtain ⟨xl, c0, c1, c2, c3, c4, c5, c6, c7, c8, c9, xf⟩ := HW7.out.res
        go_wp2
        obtain ⟨x0, x1, x2, x3, x4, x5, x6, x7, x8, x9⟩ := set_ten HW7.out.res (.int .i64 2) (.int .i64 0) (.bool false) (.int .i64 0) (.int .i64 0) (.string ⟨#[]⟩) (.string ⟨#[]⟩) (.string nv) (.slice none 0 0) (.slice none 0 0)
        refine bodyPost_ret (v := .agg #[.int .i64 2, .int .i64 0, .bool false, .int .i64 0, .int .i64 0, .string ⟨#[]⟩, .string ⟨#[]⟩, .string nv, .slice none 0 0, .slice none 0 0]) (by simp [results, Tryz.results5, go_sem, x0, x1, x2, x3, x4, x5, x6, x7, x8, x9]) rfl ?_
        exact leaf_end (E := colEx ⟨#[]⟩ nv) HW7.out (fun v => ExAt.leaf _ v D 2 0 false 0 0 (by decide) (by decide) hsz) HVL.out (but_ten _ _ _ _ _ _ _ _ _ _ _ _) rfl
      · go_wp2_with fail
        refine (next_any b _ _ (by omega) (by omega) (HW3.out.low (below_alloc _ _)).tape).mono ?_
        rintro e w4 ⟨r4, rfl, hr40, hr41, ht4, hs4⟩
        obtain ⟨j, rfl⟩ : ∃ j : Nat, r4 = j := ⟨r4.toNat, by omega⟩
        have hj5 : j < 5 := by omega
        obtain ⟨hq, hql⟩ := qual_at hs4 HW3.out.tape.lt hj5
        have HW4 := Lib.hid ((HW3.out.low (below_alloc _ _)).next hs4 ht4)
        have hqf := quals_fine ⟨j, hj5⟩
        simp only at hqf
        have HQF := Lib.hid hqf
        clear hs4 ht4 HW3 hqf
        generalize qualS j = qv at *
        go_wp2_with fail
        refine (name_any b _ h8 HW4.out.tape (HE.out.step HW4.out.step h8) hn).mono ?_
        rintro e w5 ⟨i, rfl, hi, ht5, hs5⟩
        have HW5 := Lib.hid (HW4.out.next hs5 ht5)
        have HVL := Lib.hid (show vE (D + 1) (colEx qv (nameS i)) = true from vOf_col HQF.out.1 (names_fine ⟨i, hi⟩).1)
        have hsz := (names_fine ⟨i, hi⟩).2
        simp only at hsz
        clear hs5 ht5 HW4 hq hql
        generalize nameS i = nv at *
        go_wp2_with fail
        refine (col_agg qv nv _).mono ?_
        rintro e w6 ⟨rfl, hb6⟩
        have HW7 := Lib.hid (HW5.out.low hb6)
        clear hb6 HW5
        obtain ⟨xl, c0, c1, c2, c3, c4, c5, c6, c7, c8, c9, xf⟩ := HW7.out.res
        go_wp2
        obtain ⟨x0, x1, x2, x3, x4, x5, x6, x7, x8, x9⟩ := set_ten HW7.out.res (.int .i64 2) (.int .i64 0) (.bool false) (.int .i64 0) (.int .i64 0) (.string ⟨#[]⟩) (.string qv) (.string nv) (.slice none 0 0) (.slice none 0 0)
        refine bodyPost_ret (v := .agg #[.int .i64 2, .int .i64 0, .bool false, .int .i64 0, .int .i64 0, .string ⟨#[]⟩, .string qv, .string nv, .slice none 0 0, .slice none 0 0]) (by simp [results, Tryz.results5, go_sem, x0, x1, x2, x3, x4, x5, x6, x7, x8, x9]) rfl ?_
        exact leaf_end (E := colEx qv nv) HW7.out (fun v => ExAt.leaf _ v D 2 0 false 0 0 (by decide) HQF.out.2 hsz) HVL.out (but_ten _ _ _ _ _ _ _ _ _ _ _ _) rfl
  · have e1 : decide (depth ≤ 0) = false := decide_eq_false (by omega)
    have e2 : decide (1 + r ≤ 2) = true := decide_eq_true (by omega)
    go_wp2_with fail
    refine (tbool_any b 2 _ (by omega) (by omega) HW1.out.tape).mono ?_
    rintro e w2 ⟨q1, rfl, ht2, hs2⟩
    have HW2 := Lib.hid (HW1.out.next hs2 ht2)
    clear hs2 ht2 HW1
    cases q1
    · have HE2 := Lib.hid (HE.out.step HW2.out.step h8)
      go_wp2_with fail
      refine (value_any b _ hb4 HW2.out.tape (HE2.out.words hlw)).mono ?_
      rintro e w3 ⟨k, n, sv, rfl, hv, -, ht3, hs3⟩
      have HV := Lib.hid hv
      have HW3 := Lib.hid (HW2.out.next hs3 ht3)
      clear hv hs3 ht3 HW2
      have hsz : sv.size ≤ 9223372036854775807 := by have := HV.out.size; omega
      by_cases hneg : k = 1 ∧ n < 0
      · obtain ⟨rfl, hn0⟩ := hneg
        obtain ⟨yl, y0, y1, y2, yf⟩ := cell3_new w3 (.int .i64 1) (.int .i64 n) (.string sv) 23
        have HW4 := Lib.hid (HW3.out.low (below_alloc w3 (.cells #[.int .i64 1, .int .i64 n, .string sv] 23)))
        go_wp2_with fail
        refine (next_any b _ _ (by omega) (by omega) HW4.out.tape).mono ?_
        rintro e w4 ⟨m, rfl, hm0, hm1, ht4, hs4⟩
        have HW5 := Lib.hid (HW4.out.next hs4 ht4)
        have hbv : w3.heap.size ≠ b := by have := HW3.out.tape.lt; omega
        have hy := (cell3_new w3 (.int .i64 1) (.int .i64 n) (.string sv) 23).step3 hs4 hbv
        have hwl : w.heap.size < w3.heap.size := HW3.out.res.lt
        clear hs4 ht4 yl y0 y1 y2 yf
        obtain ⟨yl, y0, y1, y2, yf⟩ := hy
        have hbx := (ButX.refl w3.heap.size w4).set 1 none (.int .i64 m)
        have HW6 := Lib.hid (HW5.out.but hbx hwl)
        go_wp2_with fail
        refine (lit_agg 1 m sv _).mono ?_
        rintro e w6 ⟨rfl, hb6⟩
        have HW7 := Lib.hid (HW6.out.low hb6)
        have HVL := Lib.hid (show vE (D + 1) (litEx 1 m sv) = true from vOf_lit (by rcases HV.out with ⟨h, -⟩ | ⟨-, -, rfl⟩ | ⟨h, -⟩ | ⟨h, -⟩ <;> first | omega | simp [validB]) hm0)
        clear hb6 HW3 HW4 HW5 HW6 yl y0 y1 y2 yf hbx
        obtain ⟨xl, c0, c1, c2, c3, c4, c5, c6, c7, c8, c9, xf⟩ := HW7.out.res
        go_wp2
        obtain ⟨x0, x1, x2, x3, x4, x5, x6, x7, x8, x9⟩ := set_ten HW7.out.res (.int .i64 1) (.int .i64 0) (.bool false) (.int .i64 1) (.int .i64 m) (.string sv) (.string ⟨#[]⟩) (.string ⟨#[]⟩) (.slice none 0 0) (.slice none 0 0)
        refine bodyPost_ret (v := .agg #[.int .i64 1, .int .i64 0, .bool false, .int .i64 1, .int .i64 m, .string sv, .string ⟨#[]⟩, .string ⟨#[]⟩, .slice none 0 0, .slice none 0 0]) (by simp [results, Tryz.results5, go_sem, x0, x1, x2, x3, x4, x5, x6, x7, x8, x9]) rfl ?_
        exact leaf_end (E := litEx 1 m sv) HW7.out (fun v => ExAt.leaf _ v D 1 0 false 1 m hsz (by decide) (by decide) ⟨by omega, by omega⟩) HVL.out (but_ten _ _ _ _ _ _ _ _ _ _ _ _) rfl
      · have HVL := Lib.hid (show vE (D + 1) (litEx k n sv) = true from vOf_lit HV.out.valid (by rcases HV.out with ⟨-, rfl, -⟩ | ⟨rfl, -, -⟩ | ⟨-, h, -, -⟩ | ⟨-, rfl, -⟩ <;> omega))
        have HW4 := Lib.hid (HW3.out.low (below_alloc w3 (.cells #[.int .i64 k, .int .i64 n, .string sv] 23)))
        have e5 : (k == 1 && decide (n < 0)) = false := by
          by_cases h : k = 1
          · simp [h] at hneg ⊢; omega
          · simp [h]
        have hval := lit_agg k n sv
        by_cases hk1 : k = 1
        · have e6 : decide (n < 0) = false := decide_eq_false (by omega)
          subst hk1
          go_wp2_with fail
          refine (hval _).mono ?_
          rintro e w6 ⟨rfl, hb6⟩
          have HW7 := Lib.hid (HW4.out.low hb6)
          clear hb6 HW3 HW4
          obtain ⟨xl, c0, c1, c2, c3, c4, c5, c6, c7, c8, c9, xf⟩ := HW7.out.res
          go_wp2
          obtain ⟨x0, x1, x2, x3, x4, x5, x6, x7, x8, x9⟩ := set_ten HW7.out.res (.int .i64 1) (.int .i64 0) (.bool false) (.int .i64 1) (.int .i64 n) (.string sv) (.string ⟨#[]⟩) (.string ⟨#[]⟩) (.slice none 0 0) (.slice none 0 0)
          refine bodyPost_ret (v := .agg #[.int .i64 1, .int .i64 0, .bool false, .int .i64 1, .int .i64 n, .string sv, .string ⟨#[]⟩, .string ⟨#[]⟩, .slice none 0 0, .slice none 0 0]) (by simp [results, Tryz.results5, go_sem, x0, x1, x2, x3, x4, x5, x6, x7, x8, x9]) rfl ?_
          exact leaf_end (E := litEx 1 n sv) HW7.out (fun v => ExAt.leaf _ v D 1 0 false 1 n hsz (by decide) (by decide) HV.out.i64) HVL.out (but_ten _ _ _ _ _ _ _ _ _ _ _ _) rfl
        · have e6 : (k == 1) = false := beq_eq_false_iff_ne.2 hk1
          go_wp2_with fail
          refine (hval _).mono ?_
          rintro e w6 ⟨rfl, hb6⟩
          have HW7 := Lib.hid (HW4.out.low hb6)
          clear hb6 HW3 HW4
          obtain ⟨xl, c0, c1, c2, c3, c4, c5, c6, c7, c8, c9, xf⟩ := HW7.out.res
          go_wp2
          obtain ⟨x0, x1, x2, x3, x4, x5, x6, x7, x8, x9⟩ := set_ten HW7.out.res (.int .i64 1) (.int .i64 0) (.bool false) (.int .i64 k) (.int .i64 n) (.string sv) (.string ⟨#[]⟩) (.string ⟨#[]⟩) (.slice none 0 0) (.slice none 0 0)
          refine bodyPost_ret (v := .agg #[.int .i64 1, .int .i64 0, .bool false, .int .i64 k, .int .i64 n, .string sv, .string ⟨#[]⟩, .string ⟨#[]⟩, .slice none 0 0, .slice none 0 0]) (by simp [results, Tryz.results5, go_sem, x0, x1, x2, x3, x4, x5, x6, x7, x8, x9]) rfl ?_
          exact leaf_end (E := litEx k n sv) HW7.out (fun v => ExAt.leaf _ v D 1 0 false k n hsz (by decide) (by decide) HV.out.i64) HVL.out (but_ten _ _ _ _ _ _ _ _ _ _ _ _) rfl
    · go_wp2_with fail
      refine (tbool_any b 3 _ (by omega) (by omega) HW2.out.tape).mono ?_
      rintro e w3 ⟨q2, rfl, ht3, hs3⟩
      have HW3 := Lib.hid (HW2.out.next hs3 ht3)
      clear hs3 ht3 HW2
      cases q2
      · go_wp2_with fail
        refine (name_any b _ h8 HW3.out.tape (HE.out.step HW3.out.step h8) hn).mono ?_
        rintro e w4 ⟨i, rfl, hi, ht4, hs4⟩
        have HW4 := Lib.hid (HW3.out.next hs4 ht4)
        have HVL := Lib.hid (show vE (D + 1) (colEx ⟨#[]⟩ (nameS i)) = true from vOf_col qual_none (names_fine ⟨i, hi⟩).1)
        have hsz := (names_fine ⟨i, hi⟩).2
        simp only at hsz
        clear hs4 ht4 HW3
        generalize nameS i = nv at *
        go_wp2_with fail
        refine (col_agg ⟨#[]⟩ nv _).mono ?_
        rintro e w6 ⟨rfl, hb6⟩
        have HW7 := Lib.hid (HW4.out.low hb6)
        clear hb6 HW4
        obtain ⟨xl, c0, c1, c2, c3, c4, c5, c6, c7, c8, c9, xf⟩ := HW7.out.res
        go_wp2
        obtain ⟨x0, x1, x2, x3, x4, x5, x6, x7, x8, x9⟩ := set_ten HW7.out.res (.int .i64 2) (.int .i64 0) (.bool false) (.int .i64 0) (.int .i64 0) (.string ⟨#[]⟩) (.string ⟨#[]⟩) (.string nv) (.slice none 0 0) (.slice none 0 0)
        refine bodyPost_ret (v := .agg #[.int .i64 2, .int .i64 0, .bool false, .int .i64 0, .int .i64 0, .string ⟨#[]⟩, .string ⟨#[]⟩, .string nv, .slice none 0 0, .slice none 0 0]) (by simp [results, Tryz.results5, go_sem, x0, x1, x2, x3, x4, x5, x6, x7, x8, x9]) rfl ?_
        exact leaf_end (E := colEx ⟨#[]⟩ nv) HW7.out (fun v => ExAt.leaf _ v D 2 0 false 0 0 (by decide) (by decide) hsz) HVL.out (but_ten _ _ _ _ _ _ _ _ _ _ _ _) rfl
      · go_wp2_with fail
        refine (next_any b _ _ (by omega) (by omega) (HW3.out.low (below_alloc _ _)).tape).mono ?_
        rintro e w4 ⟨r4, rfl, hr40, hr41, ht4, hs4⟩
        obtain ⟨j, rfl⟩ : ∃ j : Nat, r4 = j := ⟨r4.toNat, by omega⟩
        have hj5 : j < 5 := by omega
        obtain ⟨hq, hql⟩ := qual_at hs4 HW3.out.tape.lt hj5
        have HW4 := Lib.hid ((HW3.out.low (below_alloc _ _)).next hs4 ht4)
        have hqf := quals_fine ⟨j, hj5⟩
        simp only at hqf
        have HQF := Lib.hid hqf
        clear hs4 ht4 HW3 hqf
        generalize qualS j = qv at *
        go_wp2_with fail
        refine (name_any b _ h8 HW4.out.tape (HE.out.step HW4.out.step h8) hn).mono ?_
        rintro e w5 ⟨i, rfl, hi, ht5, hs5⟩
        have HW5 := Lib.hid (HW4.out.next hs5 ht5)
        have HVL := Lib.hid (show vE (D + 1) (colEx qv (nameS i)) = true from vOf_col HQF.out.1 (names_fine ⟨i, hi⟩).1)
        have hsz := (names_fine ⟨i, hi⟩).2
        simp only at hsz
        clear hs5 ht5 HW4 hq hql
        generalize nameS i = nv at *
        go_wp2_with fail
        refine (col_agg qv nv _).mono ?_
        rintro e w6 ⟨rfl, hb6⟩
        have HW7 := Lib.hid (HW5.out.low hb6)
        clear hb6 HW5
        obtain ⟨xl, c0, c1, c2, c3, c4, c5, c6, c7, c8, c9, xf⟩ := HW7.out.res
        go_wp2
        obtain ⟨x0, x1, x2, x3, x4, x5, x6, x7, x8, x9⟩ := set_ten HW7.out.res (.int .i64 2) (.int .i64 0) (.bool false) (.int .i64 0) (.int .i64 0) (.string ⟨#[]⟩) (.string qv) (.string nv) (.slice none 0 0) (.slice none 0 0)
        refine bodyPost_ret (v := .agg #[.int .i64 2, .int .i64 0, .bool false, .int .i64 0, .int .i64 0, .string ⟨#[]⟩, .string qv, .string nv, .slice none 0 0, .slice none 0 0]) (by simp [results, Tryz.results5, go_sem, x0, x1, x2, x3, x4, x5, x6, x7, x8, x9]) rfl ?_
        exact leaf_end (E := colEx qv nv) HW7.out (fun v => ExAt.leaf _ v D 2 0 false 0 0 (by decide) HQF.out.2 hsz) HVL.out (but_ten _ _ _ _ _ _ _ _ _ _ _ _) rfl
  · skip
    have e1 : decide (depth ≤ 0) = false := decide_eq_false (by omega)
    have e2 : decide (1 + r ≤ 2) = false := decide_eq_false (by omega)
    have hD1 : 1 ≤ D := by omega
    have HDD := Lib.hid (HD.out hD1)
    clear HD
    go_upto_block 0 with (fail)
    obtain ⟨kd, hkd⟩ : ∃ kd, 1 + r = kd := ⟨_, rfl⟩
    rw [hkd]
    have hk3 : 3 ≤ kd := by omega
    have hk12 : kd ≤ 12 := by omega
    clear hkd h1 hr0 hr1 e1 e2
    have hbx := below_alloc w1 (.cells #[.int .i64 kd, .int .i64 0, .bool false, .int .i64 0, .int .i64 0, .string ⟨#[]⟩, .string ⟨#[]⟩, .string ⟨#[]⟩, .slice none 0 0, .slice none 0 0] 27)
    have HX2 := Lib.hid (ExB.new w1 (bareEx kd 0 false none 0 []) 27)
    have HW2 := Lib.hid (HW1.out.low hbx)
    have HXW := Lib.hid HW1.out.res.lt
    simp only [Ex.mk_k, Ex.mk_op, Ex.mk_no, Ex.mk_vk, Ex.mk_vi, Ex.mk_vt, Ex.mk_tb, Ex.mk_nm, Ex.mk_pa, Ex.mk_ca, Ex.mk_args, Ex.mk_ps, Ex.mk_cs, Ex.mk_sub, List.length_nil] at HX2
    clear HW1 hbx
    generalize w1.alloc (.cells #[.int .i64 kd, .int .i64 0, .bool false, .int .i64 0, .int .i64 0, .string ⟨#[]⟩, .string ⟨#[]⟩, .string ⟨#[]⟩, .slice none 0 0, .slice none 0 0] 27) = w2 at *
    generalize w1.heap.size = X at *
    have hXb : X ≠ b := by have := HXW.out; omega
    go_cut [9] from 51 to 94 (fun s9 wx => ∃ (m : Nat) (op : Int) (no : Bool) (ps : Option Addr) (cs : Nat) (sub : List Qu), s9 = .int .i64 m ∧ SwAt b X D w kd m op no ps cs sub wx)
    case first =>
      have hkk : (kd = 3 ∨ kd = 4) ∨ kd = 6 ∨ kd = 5 ∨ kd = 7 ∨ (8 ≤ kd ∧ kd ≤ 9) ∨ 10 ≤ kd := by omega
      rcases hkk with hk | hk | hk | hk | hk | hk
      · rcases hk with rfl | rfl
        all_goals
          go_wp2
          go_meet
          case rel => exact ⟨1, 0, false, none, 0, [], rfl, HW2.out, HX2.out, HXW.out, QAt.nil _ _ _ _, Nat.zero_le _, by decide, good_args (by decide) (by decide) rfl (fun h => absurd h (by decide)) (fun _ => rfl) (fun _ => rfl)⟩
      · subst hk
        go_wp2_with fail
        refine (tbool_any b 2 _ (by omega) (by omega) HW2.out.tape).mono ?_
        rintro e w3 ⟨q1, rfl, ht3, hs3⟩
        have HW3 := Lib.hid (HW2.out.next hs3 ht3)
        have HX3 := Lib.hid (HX2.out.step hs3 hXb)
        clear ht3 hs3
        obtain ⟨xl, x0, x1, x2, x3, x4, x5, x6, x7, x8, x9, xf⟩ := HX3.out
        simp only [Ex.mk_k, Ex.mk_op, Ex.mk_no, Ex.mk_vk, Ex.mk_vi, Ex.mk_vt, Ex.mk_tb, Ex.mk_nm, Ex.mk_pa, Ex.mk_ca, Ex.mk_args, Ex.mk_ps, Ex.mk_cs, Ex.mk_sub, List.length_nil] at x0 x1 x2 x3 x4 x5 x6 x7 x8 x9
        have HW4 := Lib.hid (HW3.out.but ((ButX.refl X w3).set 2 none (.bool q1)) HXW.out)
        have HX4 := Lib.hid (HX3.out.setNo q1)
        go_wp2
        go_meet
        case rel => exact ⟨1, 0, q1, none, 0, [], rfl, HW4.out, HX4.out, HXW.out, QAt.nil _ _ _ _, Nat.zero_le _, by decide, good_args (by decide) (by decide) rfl (fun h => absurd h (by decide)) (fun _ => rfl) (fun h => absurd rfl h)⟩
      · subst hk
        go_wp2_with fail
        refine (next_any b _ _ (by omega) (by omega) HW2.out.tape).mono ?_
        rintro e w3 ⟨n3, rfl, hn0, hn1, ht3, hs3⟩
        have HW3 := Lib.hid (HW2.out.next hs3 ht3)
        have HX3 := Lib.hid (HX2.out.step hs3 hXb)
        clear ht3 hs3
        obtain ⟨xl, x0, x1, x2, x3, x4, x5, x6, x7, x8, x9, xf⟩ := HX3.out
        simp only [Ex.mk_k, Ex.mk_op, Ex.mk_no, Ex.mk_vk, Ex.mk_vi, Ex.mk_vt, Ex.mk_tb, Ex.mk_nm, Ex.mk_pa, Ex.mk_ca, Ex.mk_args, Ex.mk_ps, Ex.mk_cs, Ex.mk_sub, List.length_nil] at x0 x1 x2 x3 x4 x5 x6 x7 x8 x9
        have HW4 := Lib.hid (HW3.out.but ((ButX.refl X w3).set 1 none (.int .i64 (1 + n3))) HXW.out)
        have HX4 := Lib.hid (HX3.out.setOp (1 + n3))
        go_wp2
        go_meet
        case rel => exact ⟨2, 1 + n3, false, none, 0, [], rfl, HW4.out, HX4.out, HXW.out, QAt.nil _ _ _ _, Nat.zero_le _, by decide, good_args (by decide) (by decide) rfl (fun _ => ⟨by omega, by omega⟩) (fun h => absurd rfl h) (fun _ => rfl)⟩
      · subst hk
        go_wp2
        go_meet
        case rel => exact ⟨3, 0, false, none, 0, [], rfl, HW2.out, HX2.out, HXW.out, QAt.nil _ _ _ _, Nat.zero_le _, by decide, good_args (by decide) (by decide) rfl (fun h => absurd h (by decide)) (fun _ => rfl) (fun _ => rfl)⟩
      · skip
        have k3 : (kd == 3) = false := beq_eq_false_iff_ne.2 (by omega)
        have k4 : (kd == 4) = false := beq_eq_false_iff_ne.2 (by omega)
        have k5 : (kd == 5) = false := beq_eq_false_iff_ne.2 (by omega)
        have k6 : (kd == 6) = false := beq_eq_false_iff_ne.2 (by omega)
        have k7 : (kd == 7) = false := beq_eq_false_iff_ne.2 (by omega)
        have k10 : decide (10 ≤ kd) = false := decide_eq_false (by omega)
        go_wp2_with fail
        refine (next_any b _ _ (by omega) (by omega) (HW2.out.low (below_alloc _ _)).tape).mono ?_
        rintro e w3 ⟨r3, rfl, hr30, hr31, ht3, hs3⟩
        obtain ⟨j, rfl⟩ : ∃ j : Nat, r3 = j := ⟨r3.toNat, by omega⟩
        have hj5 : j < 5 := by omega
        obtain ⟨hq, hql⟩ := src_at hs3 HW2.out.tape.lt hj5
        have HW3 := Lib.hid ((HW2.out.low (below_alloc _ _)).next hs3 ht3)
        have HX3 := Lib.hid ((HX2.out.low (below_alloc _ _)).step hs3 hXb)
        have hqf := srcs_fine ⟨j, hj5⟩
        simp only at hqf
        have HQF := Lib.hid hqf
        clear hs3 ht3 HW2 HX2 hqf
        generalize srcS j = fr at *
        have HQ : Hid (QbAt b X w3.heap.size D w kd fr none 0 [] none 0 [] (w3.alloc (.cells #[.bool (kd == 8), .slice none 0 0, .string fr, .slice none 0 0] 53))) := Lib.hid ⟨HW3.out.low (below_alloc _ _), HX3.out.low (below_alloc _ _), HXW.out, QuBx.new w3 ⟨kd == 8, none, 0, [], fr, none, 0, []⟩ _, HX3.out.lt, HQF.out.2, LAt.nil _ _ _ _, LAt.nil _ _ _ _⟩
        clear HW3 HX3
        go_upto_region 18 with (fail)
        clear hq hql
        generalize w3.alloc (.cells #[.bool (kd == 8), .slice none 0 0, .string fr, .slice none 0 0] 53) = w4 at *
        generalize w3.heap.size = Y at *
        go_wp2_with fail
        refine (tbool_any b 2 _ (by omega) (by omega) HQ.out.an.tape).mono ?_
        rintro e w7 ⟨q1, rfl, ht7, hs7⟩
        have HQ3 := Lib.hid (HQ.out.next hs7 ht7)
        clear ht7 hs7 HQ
        cases q1
        · have HS := Lib.hid (HQ3.out.put (by omega) hk12 (by show 0 = itemN kd; unfold itemN; rw [if_neg (by omega)]) (by decide) HQF.out.1 (fun a ha => by cases ha) (fun a ha => by cases ha) 53)
          have HXX := Lib.hid HQ3.out.box
          obtain ⟨yl, y0, y1, y2, y3, yf⟩ := HQ3.out.qb
          simp only [List.length_nil] at y0 y1 y2 y3 HS
          obtain ⟨xl, x0, x1, x2, x3, x4, x5, x6, x7, x8, x9, xf⟩ := HXX.out
          simp only [Ex.mk_k, Ex.mk_op, Ex.mk_no, Ex.mk_vk, Ex.mk_vi, Ex.mk_vt, Ex.mk_tb, Ex.mk_nm, Ex.mk_pa, Ex.mk_ca, Ex.mk_args, Ex.mk_ps, Ex.mk_cs, Ex.mk_sub, List.length_nil] at x0 x1 x2 x3 x4 x5 x6 x7 x8 x9
          go_wp2
          go_meet
          case rel => exact ⟨0, 0, false, _, 1, _, rfl, HS.out⟩
        · skip
          go_wp2_with fail
          refine (HDD.out b (depth - 2) _ (by omega) (by omega) h8 HQ3.out.an.tape (HE.out.step HQ3.out.an.step h8)).mono ?_
          rintro e w5 ⟨E2, rfl, hE5, hV5, ht5, hs5⟩
          have hN5 := hE5.weak (M := fun c => Y < c) (fun c _ hc => Nat.lt_trans HQ3.out.qb.lt hc)
          have HQ3' := Lib.hid (HQ3.out.next hs5 ht5)
          have HQ4 := Lib.hid (HQ3'.out.wheres hN5 27)
          have HVE2 := Lib.hid hV5
          clear hE5 hV5 ht5 hs5 hN5 HQ3
          obtain ⟨yl, y0, y1, y2, y3, yf⟩ := HQ3'.out.qb
          simp only at y0 y1 y2 y3
          dsimp only [exV]
          go_upto_region 20 with (fail)
          clear yl y0 y1 y2 y3 yf HQ3'
          generalize World.alloc _ _ = w8 at *
          have HS := Lib.hid (HQ4.out.put (by omega) hk12 (by show 0 = itemN kd; unfold itemN; rw [if_neg (by omega)]) (Nat.le_refl 1) HQF.out.1 (fun a ha => by cases ha) (by intro a ha; obtain rfl := List.mem_singleton.1 ha; exact HVE2.out) 53)
          have HXX := Lib.hid HQ4.out.box
          obtain ⟨yl, y0, y1, y2, y3, yf⟩ := HQ4.out.qb
          simp only [List.length_singleton] at y0 y1 y2 y3 HS
          obtain ⟨xl, x0, x1, x2, x3, x4, x5, x6, x7, x8, x9, xf⟩ := HXX.out
          simp only [Ex.mk_k, Ex.mk_op, Ex.mk_no, Ex.mk_vk, Ex.mk_vi, Ex.mk_vt, Ex.mk_tb, Ex.mk_nm, Ex.mk_pa, Ex.mk_ca, Ex.mk_args, Ex.mk_ps, Ex.mk_cs, Ex.mk_sub, List.length_nil] at x0 x1 x2 x3 x4 x5 x6 x7 x8 x9
          go_wp2
          go_meet
          case rel => exact ⟨0, 0, false, _, 1, _, rfl, HS.out⟩
      · skip
        have k3 : (kd == 3) = false := beq_eq_false_iff_ne.2 (by omega)
        have k4 : (kd == 4) = false := beq_eq_false_iff_ne.2 (by omega)
        have k5 : (kd == 5) = false := beq_eq_false_iff_ne.2 (by omega)
        have k6 : (kd == 6) = false := beq_eq_false_iff_ne.2 (by omega)
        have k7 : (kd == 7) = false := beq_eq_false_iff_ne.2 (by omega)
        have k10 : decide (10 ≤ kd) = true := decide_eq_true (by omega)
        go_wp2_with fail
        refine (next_any b _ _ (by omega) (by omega) (HW2.out.low (below_alloc _ _)).tape).mono ?_
        rintro e w3 ⟨r3, rfl, hr30, hr31, ht3, hs3⟩
        obtain ⟨j, rfl⟩ : ∃ j : Nat, r3 = j := ⟨r3.toNat, by omega⟩
        have hj5 : j < 5 := by omega
        obtain ⟨hq, hql⟩ := src_at hs3 HW2.out.tape.lt hj5
        have HW3 := Lib.hid ((HW2.out.low (below_alloc _ _)).next hs3 ht3)
        have HX3 := Lib.hid ((HX2.out.low (below_alloc _ _)).step hs3 hXb)
        have hqf := srcs_fine ⟨j, hj5⟩
        simp only at hqf
        have HQF := Lib.hid hqf
        clear hs3 ht3 HW2 HX2 hqf
        generalize srcS j = fr at *
        have HQ : Hid (QbAt b X w3.heap.size D w kd fr none 0 [] none 0 [] (w3.alloc (.cells #[.bool (kd == 8), .slice none 0 0, .string fr, .slice none 0 0] 53))) := Lib.hid ⟨HW3.out.low (below_alloc _ _), HX3.out.low (below_alloc _ _), HXW.out, QuBx.new w3 ⟨kd == 8, none, 0, [], fr, none, 0, []⟩ _, HX3.out.lt, HQF.out.2, LAt.nil _ _ _ _, LAt.nil _ _ _ _⟩
        clear HW3 HX3
        go_upto_region 17 with (fail)
        clear hq hql
        generalize w3.alloc (.cells #[.bool (kd == 8), .slice none 0 0, .string fr, .slice none 0 0] 53) = w4 at *
        generalize w3.heap.size = Y at *
        go_wp2_with fail
        refine (HDD.out b (depth - 2) _ (by omega) (by omega) h8 HQ.out.an.tape (HE.out.step HQ.out.an.step h8)).mono ?_
        rintro e w5 ⟨E1, rfl, hE5, hV5, ht5, hs5⟩
        have hN5 := hE5.weak (M := fun c => Y < c) (fun c _ hc => Nat.lt_trans HQ.out.qb.lt hc)
        have HQ' := Lib.hid (HQ.out.next hs5 ht5)
        have HQ2 := Lib.hid (HQ'.out.items hN5 27)
        have HVE1 := Lib.hid hV5
        clear hE5 hV5 ht5 hs5 hN5 HQ
        obtain ⟨yl, y0, y1, y2, y3, yf⟩ := HQ'.out.qb
        simp only at y0 y1 y2 y3
        dsimp only [exV]
        go_upto_region 18 with (fail)
        clear yl y0 y1 y2 y3 yf HQ'
        generalize World.alloc _ _ = w6 at *
        go_wp2_with fail
        refine (tbool_any b 2 _ (by omega) (by omega) HQ2.out.an.tape).mono ?_
        rintro e w7 ⟨q1, rfl, ht7, hs7⟩
        have HQ3 := Lib.hid (HQ2.out.next hs7 ht7)
        clear ht7 hs7 HQ2
        cases q1
        · have HS := Lib.hid (HQ3.out.put (by omega) hk12 (by show 1 = itemN kd; unfold itemN; rw [if_pos (by omega)]) (by decide) HQF.out.1 (by intro a ha; obtain rfl := List.mem_singleton.1 ha; exact HVE1.out) (fun a ha => by cases ha) 53)
          have HXX := Lib.hid HQ3.out.box
          obtain ⟨yl, y0, y1, y2, y3, yf⟩ := HQ3.out.qb
          simp only [List.length_nil] at y0 y1 y2 y3 HS
          obtain ⟨xl, x0, x1, x2, x3, x4, x5, x6, x7, x8, x9, xf⟩ := HXX.out
          simp only [Ex.mk_k, Ex.mk_op, Ex.mk_no, Ex.mk_vk, Ex.mk_vi, Ex.mk_vt, Ex.mk_tb, Ex.mk_nm, Ex.mk_pa, Ex.mk_ca, Ex.mk_args, Ex.mk_ps, Ex.mk_cs, Ex.mk_sub, List.length_nil] at x0 x1 x2 x3 x4 x5 x6 x7 x8 x9
          go_wp2
          go_meet
          case rel => exact ⟨0, 0, false, _, 1, _, rfl, HS.out⟩
        · skip
          go_wp2_with fail
          refine (HDD.out b (depth - 2) _ (by omega) (by omega) h8 HQ3.out.an.tape (HE.out.step HQ3.out.an.step h8)).mono ?_
          rintro e w5 ⟨E2, rfl, hE5, hV5, ht5, hs5⟩
          have hN5 := hE5.weak (M := fun c => Y < c) (fun c _ hc => Nat.lt_trans HQ3.out.qb.lt hc)
          have HQ3' := Lib.hid (HQ3.out.next hs5 ht5)
          have HQ4 := Lib.hid (HQ3'.out.wheres hN5 27)
          have HVE2 := Lib.hid hV5
          clear hE5 hV5 ht5 hs5 hN5 HQ3
          obtain ⟨yl, y0, y1, y2, y3, yf⟩ := HQ3'.out.qb
          simp only at y0 y1 y2 y3
          dsimp only [exV]
          go_upto_region 20 with (fail)
          clear yl y0 y1 y2 y3 yf HQ3'
          generalize World.alloc _ _ = w8 at *
          have HS := Lib.hid (HQ4.out.put (by omega) hk12 (by show 1 = itemN kd; unfold itemN; rw [if_pos (by omega)]) (Nat.le_refl 1) HQF.out.1 (by intro a ha; obtain rfl := List.mem_singleton.1 ha; exact HVE1.out) (by intro a ha; obtain rfl := List.mem_singleton.1 ha; exact HVE2.out) 53)
          have HXX := Lib.hid HQ4.out.box
          obtain ⟨yl, y0, y1, y2, y3, yf⟩ := HQ4.out.qb
          simp only [List.length_singleton] at y0 y1 y2 y3 HS
          obtain ⟨xl, x0, x1, x2, x3, x4, x5, x6, x7, x8, x9, xf⟩ := HXX.out
          simp only [Ex.mk_k, Ex.mk_op, Ex.mk_no, Ex.mk_vk, Ex.mk_vi, Ex.mk_vt, Ex.mk_tb, Ex.mk_nm, Ex.mk_pa, Ex.mk_ca, Ex.mk_args, Ex.mk_ps, Ex.mk_cs, Ex.mk_sub, List.length_nil] at x0 x1 x2 x3 x4 x5 x6 x7 x8 x9
          go_wp2
          go_meet
          case rel => exact ⟨0, 0, false, _, 1, _, rfl, HS.out⟩
    case rest =>
      obtain ⟨m, op, no, ps, cs, sub, rfl, hS⟩ := hcut
      have HG := Lib.hid hS.good
      have HL1 := Lib.hid hS.lens
      have hm3 := hS.m3
      have hLP : LpAt b X D w kd op no ps cs sub none 0 [] wc := ⟨hS.an, hS.box, hS.xw, own_nil _ _, fun a ha => (by cases ha), hS.subs.weak fun c _ hc => ⟨hc, fun e => by cases e⟩, fun a ha => by cases ha⟩
      have HLP := Lib.hid hLP
      clear hS hLP HW2 HX2
      obtain ⟨i0, hi0, hz0, hs0, hb0⟩ := info_parts info_expr
      go_wp2_with fail
      go_loopw [11] (fun s11 wx => ∃ (vp : Option Addr) (vc : Nat) (args : List Ex), args.length ≤ m ∧ s11 = .int .i64 args.length ∧ LpAt b X D w kd op no ps cs sub vp vc args wx) (fun s11 _ => m - (intOf s11).toNat)
      case atStart => exact ⟨none, 0, [], Nat.zero_le _, rfl, HLP.out⟩
      case round =>
        obtain ⟨vp, vc, args, hla, rfl, hP⟩ := hrel
        have HP := Lib.hid hP
        clear hP HLP
        by_cases hlt2 : args.length < m
        · have hlt' : decide ((args.length : Int) < m) = true := decide_eq_true (by omega)
          go_upto_region 35 with (fail)
          have HPd := Lib.hid (HP.out.low ((Below.refl wr.heap.size wr).drew))
          have HEd := Lib.hid (HE.out.step HPd.out.an.step h8)
          have HCALL := Lib.hid (HDD.out b (depth - 1) wr.drew (by omega) (by omega) h8 HPd.out.an.tape HEd.out)
          obtain ⟨xl, x0, x1, x2, x3, x4, x5, x6, x7, x8, x9, xf⟩ := HPd.out.box
          simp only [Ex.mk_k, Ex.mk_op, Ex.mk_no, Ex.mk_vk, Ex.mk_vi, Ex.mk_vt, Ex.mk_tb, Ex.mk_nm, Ex.mk_pa, Ex.mk_ca, Ex.mk_args, Ex.mk_ps, Ex.mk_cs, Ex.mk_sub] at x0 x1 x2 x3 x4 x5 x6 x7 x8 x9
          have hdw : IntKind.i64.wrap (depth - 1) = depth - 1 := by rw [IntKind.wrap_i64]; omega
          go_region_law (first
            | (go_simp; go_at_call 5; refine HCALL.out.mono ?_; rintro e w5 ⟨E1, rfl, hE5, hV5, ht5, hs5⟩; (have HP5 := Lib.hid (HPd.out.next hs5 ht5)); (have HN5 := Lib.hid (HPd.out.new hE5)); (have HV5 := Lib.hid hV5); clear hE5 hV5 ht5 hs5 xl x0 x1 x2 x3 x4 x5 x6 x7 x8 x9 xf; obtain ⟨xl, x0, x1, x2, x3, x4, x5, x6, x7, x8, x9, xf⟩ := HP5.out.box; simp only [Ex.mk_k, Ex.mk_op, Ex.mk_no, Ex.mk_vk, Ex.mk_vi, Ex.mk_vt, Ex.mk_tb, Ex.mk_nm, Ex.mk_pa, Ex.mk_ca, Ex.mk_args, Ex.mk_ps, Ex.mk_cs, Ex.mk_sub] at x0 x1 x2 x3 x4 x5 x6 x7 x8 x9; dsimp only [exV])
            | (refine step_append_lies _ (by rfl) (.tmp 101) (.tmp 106) 24 (by rfl) (X + 1) 27 i0 _ 10 136 Tryz.underlying24 hi0 hz0 hs0 hb0 rfl (by decide) (.slice vp args.length vc) args.length (ecells args) (by rfl) (HP5.out.low (below_alloc _ _)).own ⟨w5.heap.size, 0, none⟩ 1 1 (excs E1) (by rfl) rfl (news_of (ExB.new w5 E1 _)) (excs_one _) (by omega) (by unfold maxLen; omega) (by omega) (by rw [size_alloc]; have := HP5.out.box.lt; omega) _ rfl ?_; intro g8 c8 w8 hown8 hgr8 hat8 hlt8; obtain ⟨hb8, hp8⟩ := (HP5.out.low (below_alloc _ _)).push (HN5.out.low (below_alloc _ _)) HV5.out hown8 hgr8 hat8; (have HP8 := Lib.hid hp8); clear hown8 hgr8 hat8 hp8 xl x0 x1 x2 x3 x4 x5 x6 x7 x8 x9 xf; obtain ⟨xl, x0, x1, x2, x3, x4, x5, x6, x7, x8, x9, xf⟩ := hb8; simp only [Ex.mk_k, Ex.mk_op, Ex.mk_no, Ex.mk_vk, Ex.mk_vi, Ex.mk_vt, Ex.mk_tb, Ex.mk_nm, Ex.mk_pa, Ex.mk_ca, Ex.mk_args, Ex.mk_ps, Ex.mk_cs, Ex.mk_sub] at x0 x1 x2 x3 x4 x5 x6 x7 x8 x9))
          all_goals
            clear xl x0 x1 x2 x3 x4 x5 x6 x7 x8 x9 xf hlt8 HP5 HN5 HPd HCALL HP
            generalize World.setCell _ _ _ = W9 at HP8 ⊢
            go_wp2
            go_roundw
            case rel => exact ⟨_, _, args ++ [E1], by rw [List.length_append]; show args.length + 1 ≤ m; omega, by rw [List.length_append]; show _ = Value.int .i64 ((args.length + 1 : Nat) : Int); go_num, HP8.out⟩
            case measure => simp [intOf]; omega
        · have hlt' : decide ((args.length : Int) < m) = false := decide_eq_false (by omega)
          have hlm : m = args.length := by omega
          subst hlm
          have HVV := Lib.hid (show vE (D + 1) (argsEx kd op no vp vc args ps cs sub) = true from HG.out vp vc args rfl HP.out.vals)
          have HTR := Lib.hid (HP.out.tree (by omega) HL1.out)
          obtain ⟨xl, x0, x1, x2, x3, x4, x5, x6, x7, x8, x9, xf⟩ := HP.out.box
          simp only [Ex.mk_k, Ex.mk_op, Ex.mk_no, Ex.mk_vk, Ex.mk_vi, Ex.mk_vt, Ex.mk_tb, Ex.mk_nm, Ex.mk_pa, Ex.mk_ca, Ex.mk_args, Ex.mk_ps, Ex.mk_cs, Ex.mk_sub] at x0 x1 x2 x3 x4 x5 x6 x7 x8 x9
          obtain ⟨rl, r0, r1, r2, r3, r4, r5, r6, r7, r8, r9, rf⟩ := HP.out.an.res
          go_wp2
          obtain ⟨y0, y1, y2, y3, y4, y5, y6, y7, y8, y9⟩ := set_ten HP.out.an.res (.int .i64 kd) (.int .i64 op) (.bool no) (.int .i64 0) (.int .i64 0) (.string ⟨#[]⟩) (.string ⟨#[]⟩) (.string ⟨#[]⟩) (.slice vp args.length vc) (.slice ps sub.length cs)
          refine bodyPost_ret (v := .agg #[.int .i64 kd, .int .i64 op, .bool no, .int .i64 0, .int .i64 0, .string ⟨#[]⟩, .string ⟨#[]⟩, .string ⟨#[]⟩, .slice vp args.length vc, .slice ps sub.length cs]) (by simp [results, Tryz.results5, go_sem, y0, y1, y2, y3, y4, y5, y6, y7, y8, y9]) rfl ?_
          exact tree_end (E := argsEx kd op no vp vc args ps cs sub) HP.out.an HTR.out HP.out.xw HVV.out (but_ten _ _ _ _ _ _ _ _ _ _ _ _) rfl
theorem anyExpr_any (hn : 0 ∈ ls) (hlw : 3 ∈ ls) : ∀ D, D ≤ 100 → AnyDoes ls (D + 1)
  | 0, h => anyExpr_step h (fun h => absurd h (by decide)) hn hlw
  | D + 1, h => anyExpr_step h (fun _ => anyExpr_any hn hlw D (by omega)) hn hlw
end Go.Proofs.YtlpaphgmdcpmaaaGreatDoor
/-
  LevelsOf of package syntax, and what it calls: over trees in memory.
-/
namespace Go.Proofs.YtlpaphgmdcpmaaaGreatDoor
set_option maxRecDepth 100000
open Go.RowKit
variable {ls : List Nat}

theorem max_if (a b : Int) : (if a < b then b else a) = max a b := by split <;> omega
end Go.Proofs.YtlpaphgmdcpmaaaGreatDoor
/-
  The sanity check of layer 11.
-/
namespace Go.Proofs.YtlpaphgmdcpmaaaGreatDoor
set_option maxRecDepth 100000
open Go.RowKit
variable {ls : List Nat}

set_option maxHeartbeats 2000000 in
theorem bin_any (op : Int) (a b : Ex) (w : World) :
    Calls Tryz.prog 23 #[.int .i64 op, exV a, exV b] w fun e w' => ∃ g, e = .returned (.agg #[.int .i64 5, .int .i64 op, .bool false, .int .i64 0, .int .i64 0, .string ⟨#[]⟩, .string ⟨#[]⟩, .string ⟨#[]⟩, .slice (some ⟨g, 0, none⟩) 2 2, .slice none 0 0]) ∧ w.heap.size ≤ g ∧ g < w'.heap.size ∧ ExC w' g 0 a ∧ ExC w' g 10 b ∧ Below w.heap.size w w' := by
  unfold exV
  go_enter Tryz.func23, Tryz.ntmps23
  go_wp2
  refine bodyPost_ret (v := .agg #[.int .i64 5, .int .i64 op, .bool false, .int .i64 0, .int .i64 0, .string ⟨#[]⟩, .string ⟨#[]⟩, .string ⟨#[]⟩, .slice (some ⟨w.heap.size + 1 + 1 + 1, 0, none⟩) 2 2, .slice none 0 0]) (by simp [results, Tryz.results23, go_sem]) rfl ⟨w.heap.size + 1 + 1 + 1, rfl, by omega, by simp, ?_, ?_, below_new (below_new (below_new (below_alloc _ _) _) _) _⟩
  · constructor <;> go_simp
  · constructor <;> go_simp
end Go.Proofs.YtlpaphgmdcpmaaaGreatDoor
