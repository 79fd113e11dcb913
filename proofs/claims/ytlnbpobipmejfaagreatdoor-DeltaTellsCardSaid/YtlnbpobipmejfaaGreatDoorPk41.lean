/-
  Several texts in one.
-/
import Derived.Test.YtlnbpobipmejfaaGreatDoorPk40
import Derived.Test.YtlnbpobipmejfaaGreatDoorPk34
import Derived.Test.YtlnbpobipmejfaaGreatDoorPk23
import Derived.Deep.RegionLaw
import Derived.Test.YtlnbpobipmejfaaGreatDoorPk33
import Derived.Test.YtlnbpobipmejfaaGreatDoorPk35
import Derived.Test.YtlnbpobipmejfaaGreatDoorPk37
import Derived.Test.YtlnbpobipmejfaaGreatDoorPk38
import Derived.Test.YtlnbpobipmejfaaGreatDoorPk39
import Derived.Test.YtlnbpobipmejfaaGreatDoorPk08
import Derived.Deep.RegionHeld3
import Derived.Test.YtlnbpobipmejfaaGreatDoorPk02
import Derived.Test.YtlnbpobipmejfaaGreatDoorPk07
import Derived.Deep.Fields
import Derived.Test.YtlnbpobipmejfaaGreatDoorPk09
import Derived.Test.YtlnbpobipmejfaaGreatDoorPk04
import Derived.SizedLaws
/-
  spoiled of the law of package delta: a difference with one of its parts turned.
-/
namespace Go.Proofs.YtlnbpobipmejfaaGreatDoor
set_option maxRecDepth 100000
open Go.RowKit
variable {ls : List Nat}

def SdPost (b : Nat) (E : Dlt) (w : World) (e : Ending) (w' : World) : Prop := ∃ F : Dlt, e = .returned (.agg #[.string F.nm, .slice F.pi F.I.length F.ci, .slice F.pd F.D.length F.cd, .slice F.pu F.U.length F.cu]) ∧ DltAt w' F ∧ TapeAt w' b ∧ StepT b w w' ∧ F.I.length ≤ E.I.length + 1 ∧ F.D.length ≤ E.D.length + 1 ∧ F.U.length ≤ E.U.length + E.D.length + 1
/-- The state of spoiled: the box of the difference, the box of the result. -/
structure SdW (b : Nat) (w : World) (vn vi vd vu : Value) (u : World) : Prop where
  box : Cell4 u w.heap.size vn vi vd vu
  res : Cell4 u (w.heap.size + 1) (.string ⟨#[]⟩) (.slice none 0 0) (.slice none 0 0) (.slice none 0 0)
  tape : TapeAt u b
  step : StepT b w u
section
variable {b B : Nat} {w u v : World} {vn vi vd vu : Value}
theorem cell4_lowB {X : Nat} {x y z t : Value} (h : Cell4 u X x y z t) (hX : X < B) (hb : Below B u v) : Cell4 v X x y z t :=
  ⟨Nat.lt_of_lt_of_le h.lt hb.size, by rw [hb.cell (by exact hX)]; exact h.c0, by rw [hb.cell (by exact hX)]; exact h.c1, by rw [hb.cell (by exact hX)]; exact h.c2, by rw [hb.cell (by exact hX)]; exact h.c3, fun o => by rw [hb.frozen (by exact hX)]; exact h.fz o⟩
theorem sd_stepB (h : StepT b w u) (hb : Below B u v) (hB : w.heap.size ≤ B) : StepT b w v :=
  ⟨hb.os.trans h.os, hb.tape.trans h.tape, hb.output.trans h.output, Nat.le_trans h.size hb.size, fun k hk hne => (hb.block k (by omega)).trans (h.block k hk hne)⟩
theorem SdW.low (h : SdW b w vn vi vd vu u) (hlt : b < w.heap.size) (hB : w.heap.size + 2 ≤ B) (hb : Below B u v) : SdW b w vn vi vd vu v :=
  ⟨cell4_lowB h.box (by omega) hb, cell4_lowB h.res (by omega) hb, h.tape.keep (fun k hk => hb.block k (by omega)) hb.size, sd_stepB h.step hb (by omega)⟩
theorem SdW.lo (h : SdW b w vn vi vd vu u) : w.heap.size + 2 ≤ u.heap.size := h.res.lt
theorem SdW.next (h : SdW b w vn vi vd vu u) (hlt : b < w.heap.size) (hs : StepT b u v) (ht : TapeAt v b) : SdW b w vn vi vd vu v :=
  ⟨h.box.step hs (by omega), h.res.step hs (by omega), ht, h.step.trans hs⟩
theorem SdW.put (h : SdW b w vn vi vd vu u) (hlt : b < w.heap.size) {o : Nat} {y x0 x1 x2 x3 : Value} (hc : Cell4 (u.setCell ⟨w.heap.size, o, none⟩ y) w.heap.size x0 x1 x2 x3) : SdW b w x0 x1 x2 x3 (u.setCell ⟨w.heap.size, o, none⟩ y) :=
  ⟨hc, h.res.far (by omega) y, h.tape.setCell (show b < w.heap.size by omega) y, h.step.set2 (Nat.le_refl _) _ _ _⟩
/-- The end: the result's box is written. -/
theorem SdW.fin (h : SdW b w vn vi vd vu u) (hlt : b < w.heap.size) {W : World} (hW : (((u.setCell ⟨w.heap.size + 1, 0, none⟩ vn).setCell ⟨w.heap.size + 1, 1, none⟩ vi).setCell ⟨w.heap.size + 1, 2, none⟩ vd).setCell ⟨w.heap.size + 1, 3, none⟩ vu = W) :
    Cell4 W (w.heap.size + 1) vn vi vd vu ∧ TapeAt W b ∧ StepT b w W ∧ u.heap.size ≤ W.heap.size ∧ ∀ k, w.heap.size + 2 ≤ k → W.heap[k]? = u.heap[k]? := by
  subst hW
  exact ⟨cell4_put u h.res _ _ _ _, (((h.tape.setCell (show b < w.heap.size + 1 by omega) _).setCell (show b < w.heap.size + 1 by omega) _).setCell (show b < w.heap.size + 1 by omega) _).setCell (show b < w.heap.size + 1 by omega) _,
    (((h.step.set2 (show w.heap.size ≤ w.heap.size + 1 by omega) _ _ _).set2 (show w.heap.size ≤ w.heap.size + 1 by omega) _ _ _).set2 (show w.heap.size ≤ w.heap.size + 1 by omega) _ _ _).set2 (show w.heap.size ≤ w.heap.size + 1 by omega) _ _ _,
    by rw [set_size, set_size, set_size, set_size]; exact Nat.le_refl _, fun k hk => four_sets (show k ≠ w.heap.size + 1 by omega)⟩
theorem sd_own {base n size : Nat} {e : TypeId} {x : Value} {xs : List Value} (h : u.ownsRow base e size x n xs) (hB : w.heap.size + 2 ≤ base) (hk : ∀ k, w.heap.size + 2 ≤ k → v.heap[k]? = u.heap[k]?) : v.ownsRow base e size x n xs :=
  owns_keep h fun k hk' => hk k (by have := owns_block h k hk'; omega)
theorem holds_nil0 (v : World) : Holds v ((.slice none 0 0 : Value), ([] : List Val)) := Holds.nil v
theorem vs_nil : ValsSized [] := fun i hi => by simp at hi
/-- A new pair, without values. -/
def sd_zP (z : Int) : GPair := (z, (.slice none 0 0, []), (.slice none 0 0, []))
theorem sd_pcells_snoc (P : List GPair) (z : Int) : pcells (P ++ [sd_zP z]) = pcells P ++ [.int .i64 z, .slice none 0 0, .slice none 0 0] := by
  unfold pcells
  rw [List.flatMap_append]
  rfl
theorem sd_pnil {v : World} {pu : Option Addr} {P : List GPair} (h : ∀ i (hi : i < P.length), ∃ c o, pu = some ⟨c, o, none⟩ ∧ v.cell? ⟨c, o + i * 3, none⟩ = some (.int .i64 P[i].1) ∧ v.cell? ⟨c, o + i * 3 + 1, none⟩ = some P[i].2.1.1 ∧ v.cell? ⟨c, o + i * 3 + 2, none⟩ = some P[i].2.2.1) (hp : pu = none) : pcells P = [] := by
  cases P with
  | nil => rfl
  | cons x P => obtain ⟨c, o, hp', -⟩ := h 0 (Nat.succ_pos _); rw [hp] at hp'; cases hp'
/-- The pairs while the rows that left are added to them. -/
structure SdU (b : Nat) (w : World) (P : List GPair) (p : Option Addr) (c : Nat) (v : World) : Prop where
  hold : ∀ x, StepT b w x → ∀ q ∈ P, (Holds x q.2.1 ∧ Holds x q.2.2) ∧ ValsSized q.2.1.2 ∧ ValsSized q.2.2.2
  src : ∀ x, StepT b w x → (∀ k, w.heap.size + 2 ≤ k → k < v.heap.size → x.heap[k]? = v.heap[k]?) → (∀ ad, p = some ad → ∀ j y, (pcells P)[j]? = some y → x.cell? (ad.add j) = some y) ∧ PairsAt x p (P.map unP)
  nil : p = none → pcells P = []
  cap : P.length ≤ c
theorem SdU.to {P : List GPair} {p : Option Addr} {c : Nat} (h : SdU b w P p c u) (hb : Below u.heap.size u v) : SdU b w P p c v :=
  ⟨h.hold, fun x hx hk => h.src x hx fun k h1 h2 => (hk k h1 (Nat.lt_of_lt_of_le h2 hb.size)).trans (hb.block k h2), h.nil, h.cap⟩
theorem sdu_own {P : List GPair} {p : Option Addr} {c n base : Nat} (hB : w.heap.size + 2 ≤ base) (ho : u.ownsRow base 75 3 (.slice p n c) P.length (pcells P)) (hG : ∀ x, StepT b w x → ∀ q ∈ P, (Holds x q.2.1 ∧ Holds x q.2.2) ∧ ValsSized q.2.1.2 ∧ ValsSized q.2.2.2) : SdU b w P p c u := by
  refine ⟨hG, fun x hx hk => ?_, fun hp => ?_, (own_len ho).2⟩
  · have ho2 : x.ownsRow base 75 3 (.slice p n c) P.length (pcells P) := owns_keep ho fun k hk' => hk k (by have := owns_block ho k hk'; omega) (owns_lt ho k hk')
    refine ⟨fun ad he j y hj => ?_, pairsAt_own ho2 fun q hq => (hG x hx q hq).1⟩
    obtain ⟨k, hp, -, hc⟩ := own_cell ho2 hj
    rw [he] at hp
    cases hp
    have hadd : (⟨k, 0, none⟩ : Addr).add j = ⟨k, j, none⟩ := by unfold Addr.add; split <;> simp_all
    rw [hadd]; simpa using hc
  · subst hp
    rcases ho.2 with ⟨-, h0⟩ | ⟨g, cap, cur, hv, -⟩
    · have h1 := ho.1
      rw [h0, Nat.zero_mul] at h1
      exact List.eq_nil_of_length_eq_zero h1
    · cases hv
theorem dlt_updA {W : World} {E : Dlt} {P : List GPair} {p4 : Option Addr} {c4 : Nat} (h : DltAt W E) (hp : PairsAt W p4 (P.map unP)) (hG : ∀ x ∈ P, (Holds W x.2.1 ∧ Holds W x.2.2) ∧ ValsSized x.2.1.2 ∧ ValsSized x.2.2.2) (hl : P.length ≤ 1000) (hc : P.length ≤ c4) :
    DltAt W ⟨E.nm, E.pi, E.ci, E.I, E.pd, E.cd, E.D, p4, c4, P.map unP⟩ :=
  ⟨h.name, h.ins, h.del, hp, h.il, h.dl, by dsimp only; rw [List.length_map]; omega, h.isz, h.dsz, fun p hp => by
    obtain ⟨x, hx, rfl⟩ := List.mem_map.1 hp
    exact (hG x hx).2.1, fun p hp => by
    obtain ⟨x, hx, rfl⟩ := List.mem_map.1 hp
    exact (hG x hx).2.2, h.icap, h.dcap, by dsimp only; rw [List.length_map]; exact hc⟩
/-- The literal of one pair is no block of the empty literal (cap 0). -/
theorem sd_capnil {u : World} {base k : Nat} {x y z : Value} (h : u.ownsRow base 75 3 (.slice (some ⟨k, 0, none⟩) 0 0) 0 (pcells [])) (hc : Cell3 u k x y z) : False := by
  rcases h.2 with ⟨hv, -⟩ | ⟨g, cap, cur, hv, -, hh, -, -, hcur, -⟩
  · cases hv
  · injection hv with h1 h2 h3
    injection h1 with h1
    injection h1 with h1
    subst h1 h3
    have h0 := hc.c0
    simp only [World.cell?, hh] at h0
    rw [if_neg (by simp), Array.getElem?_eq_none (by omega)] at h0
    cases h0
theorem sd_ch3N {X : Nat} {x y z : Value} {row : Option Nat} (h : Cell3 u X x y z) (hg : u.grownBy v row) (hr : row ≠ some X) : Cell3 v X x y z := by
  have hb := hg.block X h.lt (fun e => hr e.symm)
  exact ⟨Nat.lt_of_lt_of_le h.lt hg.size, by rw [World.cell?_of_block (w := u) hb]; exact h.c0, by rw [World.cell?_of_block (w := u) hb]; exact h.c1, by rw [World.cell?_of_block (w := u) hb]; exact h.c2, fun o => by rw [World.frozen?_of_block (w := u) hb]; exact h.fz o⟩
theorem sd_stay (h : SdW b w vn vi vd vu u) (hlt : b < w.heap.size) (hb : Below u.heap.size u v) : SdW b w vn vi vd vu v := h.low hlt h.lo hb
theorem sd_snoc (P : List GPair) (q : GPair) : pcells (P ++ [q]) = pcells P ++ [.int .i64 q.1, q.2.1.1, q.2.2.1] := by
  unfold pcells
  rw [List.flatMap_append]
  rfl
end
set_option maxHeartbeats 16000000 in
theorem spoiled8_any (b : Nat) (w : World) (ht : TapeAt w b) (E : Dlt) (HE0 : ∀ v, StepT b w v → DltAt v E) (hI : E.I.length ≤ 100) (hD : E.D.length ≤ 100) (hU : E.U.length ≤ 100) :
    Calls Tryz.prog 11 #[.pointer (some ⟨b, 0, none⟩), .agg #[.string E.nm, .slice E.pi E.I.length E.ci, .slice E.pd E.D.length E.cd, .slice E.pu E.U.length E.cu]] w (SdPost b E w) := by
  have hlt := ht.lt
  have HE := Lib.hid HE0
  have hres := cell4_new (w.alloc (.cells #[.string E.nm, .slice E.pi E.I.length E.ci, .slice E.pd E.D.length E.cd, .slice E.pu E.U.length E.cu] 25)) (.string ⟨#[]⟩) (.slice none 0 0) (.slice none 0 0) (.slice none 0 0) 25
  rw [size_alloc] at hres
  have HW : Hid (SdW b w (.string E.nm) (.slice E.pi E.I.length E.ci) (.slice E.pd E.D.length E.cd) (.slice E.pu E.U.length E.cu) ((w.alloc (.cells #[.string E.nm, .slice E.pi E.I.length E.ci, .slice E.pd E.D.length E.cd, .slice E.pu E.U.length E.cu] 25)).alloc (.cells #[.string ⟨#[]⟩, .slice none 0 0, .slice none 0 0, .slice none 0 0] 25))) :=
    Lib.hid ⟨(cell4_new w _ _ _ _ _).low (below_alloc _ _), hres, (ht.alloc _).alloc _, ((StepT.refl b w).alloc _).alloc _⟩
  clear hres HE0 ht
  go_enter Tryz.func11, Tryz.ntmps11
  go_upto_region 1 with (fail)
  generalize World.alloc _ _ = u0 at HW ⊢
  go_wp2_with fail
  refine (next_any b 6 _ (by omega) (by omega) HW.out.tape).mono ?_
  rintro e u1 ⟨r, rfl, hr0, hr1, ht1, hs1⟩
  have HW1 := Lib.hid (HW.out.next hlt hs1 ht1)
  clear HW ht1 hs1
  have hlo := HW1.out.lo
  obtain rfl | rfl | rfl | rfl | rfl | rfl : r = 0 ∨ r = 1 ∨ r = 2 ∨ r = 3 ∨ r = 4 ∨ r = 5 := by omega
  · have HX : Hid (Cell4 (u1.setCell ⟨w.heap.size, 0, none⟩ (.string ⟨#[120]⟩)) w.heap.size (.string ⟨#[120]⟩) (.slice E.pi E.I.length E.ci) (.slice E.pd E.D.length E.cd) (.slice E.pu E.U.length E.cu)) := Lib.hid (HW1.out.box.set0 _)
    have HW5 := Lib.hid (HW1.out.put hlt HX.out)
    obtain ⟨xl, x0, x1, x2, x3, xf⟩ := HW1.out.box
    go_upto_region 17 with (fail)
    clear xl x0 x1 x2 x3 xf HX HW1
    generalize World.setCell _ _ _ = w5 at HW5 ⊢
    obtain ⟨bl, b0, b1, b2, b3, bf⟩ := HW5.out.box
    obtain ⟨yl, y0, y1, y2, y3, yf⟩ := HW5.out.res
    go_wp2
    obtain ⟨⟨-, s0, s1, s2, s3, -⟩, htp, hst, hzz, hkk⟩ := HW5.out.fin hlt rfl
    have hcf := HE.out _ hst
    exact bodyPost_ret (v := .agg #[.string ⟨#[120]⟩, .slice E.pi E.I.length E.ci, .slice E.pd E.D.length E.cd, .slice E.pu E.U.length E.cu]) (by simp [results, Tryz.results11, go_sem, s0, s1, s2, s3]) rfl
      ⟨⟨⟨#[120]⟩, E.pi, E.ci, E.I, E.pd, E.cd, E.D, E.pu, E.cu, E.U⟩, by simp, dlt_nm hcf (by decide), htp, hst, by dsimp only; omega, by dsimp only; omega, by dsimp only; omega⟩
  · obtain ⟨G, hGl, hGI, hGG, hGC⟩ := trows_list (fun v hv => (HE.out v hv).ins) E.I.length (Nat.le_refl _)
    rw [List.take_length] at hGI
    have HGC := Lib.hid hGC
    have HGG : Hid (∀ v, StepT b w v → ∀ g ∈ G, Holds v (g.2.1, g.2.2) ∧ ValsSized g.2.2) := Lib.hid fun v hv g hg => ⟨hGG v hv g hg, (HE.out v hv).isz (g.1, g.2.2) (by rw [← hGI]; exact List.mem_map.2 ⟨g, hg, rfl⟩)⟩
    have HGL := Lib.hid hGl
    have hgl : G.length ≤ 100 := by omega
    clear hGI hGG hGC hGl
    obtain ⟨i0, hi0, hz0, hz1, hz2⟩ := info_parts info_trow
    have HA := Lib.hid (HW1.out.low hlt hlo (below_alloc u1 (.cells #[] 58)))
    have HO := Lib.hid (towns_empty u1)
    have HN := Lib.hid (HGC.out _ HA.out.step)
    obtain ⟨xl, x0, x1, x2, x3, xf⟩ := HW1.out.box
    go_upto_region 10 with (fail)
    go_wp2_with (at_builtin; refine wpList_append_any rfl (.tmp 36) (.tmp 38) 22 58 rfl u1.heap.size i0 _ 2 32 Tryz.underlying22 hi0 hz0 hz1 hz2 rfl (by decide) _ 0 (tcells []) (by rfl) HO.out E.pi E.I.length E.ci (tcells G) (by rfl) (by rw [tcells_length, HGL.out]) (trows_news HN.out) (trows_nil HN.out) (tcells_one (fun g hg => (HGG.out _ HA.out.step g hg).1)) (by unfold maxLen; omega) (by omega) (by rw [size_alloc]; exact Nat.le_succ _) ?_; intro v2 w2 hown2 hg2; (have hb2 := grown_below (below_alloc u1 (.cells #[] 58)) (by rw [size_alloc]; exact Nat.le_succ _) hg2 (fun k hk => by cases hk; exact Nat.le_refl _)); (have HW2 := Lib.hid (HW1.out.low hlt hlo hb2)); (have HO2 : Hid (w2.ownsRow u1.heap.size 58 2 v2 G.length (tcells G)) := Lib.hid (by rw [Nat.zero_add, ← HGL.out] at hown2; exact hown2)); (have hz2' := hb2.size); clear hown2 hg2 hb2)
    clear xl x0 x1 x2 x3 xf HA HO HN HW1
    refine (next_any b 20 _ (by omega) (by omega) HW2.out.tape).mono ?_
    rintro e w3 ⟨z, rfl, hz30, hz31, ht3, hs3⟩
    have HW3 := Lib.hid (HW2.out.next hlt hs3 ht3)
    have HNB := Lib.hid (below_new (below_alloc w3 (.cells #[.int .i64 0, .int .i64 0, .string ⟨#[]⟩, .int .i64 0, .int .i64 0, .string ⟨#[]⟩] 55)) (.cells #[.int .i64 z, .slice (some ⟨w3.heap.size, 0, none⟩) 2 2] 58))
    have HO3 := Lib.hid (owns_below (owns_step HO2.out (by omega) hs3) HNB.out)
    have hz3' : u1.heap.size ≤ w3.heap.size := Nat.le_trans hz2' hs3.size
    have HNW := Lib.hid (row2_new (w3.alloc (.cells #[.int .i64 0, .int .i64 0, .string ⟨#[]⟩, .int .i64 0, .int .i64 0, .string ⟨#[]⟩] 55)) (.int .i64 z) (.slice (some ⟨w3.heap.size, 0, none⟩) 2 2) 58)
    have HOB : Hid (∀ k, v2.ownBlock = some k → k < w3.heap.size) := Lib.hid (fun k hk => owns_lt (owns_step HO2.out (by omega) hs3) k hk)
    rw [size_alloc] at HNW
    have HV3 := Lib.hid ((holds_zz2 w3).low (below_alloc _ (.cells #[.int .i64 z, .slice (some ⟨w3.heap.size, 0, none⟩) 2 2] 58)))
    clear HO2 HW2 ht3 hs3
    obtain ⟨xl, x0, x1, x2, x3, xf⟩ := HW3.out.box
    go_upto_region 17 with (at_builtin; refine wpList_append_trow rfl (.tmp 39) (.tmp 46) rfl u1.heap.size v2 G (by rfl) HO3.out (w3.heap.size + 1) z (.slice (some ⟨w3.heap.size, 0, none⟩) 2 2) zz2 (by rfl) HNW.out.1 HNW.out.2 rfl (by omega) (Nat.le_trans hz3' HNB.out.size) ?_; intro v4 w4 hown4 hg4; (have hb4 : Below u1.heap.size w3 w4 := grown_below (HNB.out.mono hz3') (Nat.le_trans hz3' HNB.out.size) hg4 (fun k hk => owns_block HO3.out k hk)); (have hw4 := HW3.out.low hlt hlo hb4); obtain ⟨p4, c4, e4⟩ := own_ex hown4; (have e5 : (G ++ [(z, (.slice (some ⟨w3.heap.size, 0, none⟩) 2 2 : Value), (zz2 : List Val))]).length = E.I.length + 1 := by rw [List.length_append, List.length_singleton, HGL.out]); rw [e5] at e4; subst e4; (have HO4 : Hid ((w4.setCell ⟨w.heap.size, 1, none⟩ (.slice p4 (E.I.length + 1) c4)).ownsRow u1.heap.size 58 2 (.slice p4 (E.I.length + 1) c4) (G ++ [(z, (.slice (some ⟨w3.heap.size, 0, none⟩) 2 2 : Value), (zz2 : List Val))]).length (tcells (G ++ [(z, .slice (some ⟨w3.heap.size, 0, none⟩) 2 2, zz2)]))) := Lib.hid (owns_keep hown4 fun k hk => Below.heap_setCell _ _ _ _ (by have := owns_block hown4 k hk; show k ≠ w.heap.size; omega))); (have HW5 := Lib.hid (hw4.put hlt (hw4.box.set1 (.slice p4 (E.I.length + 1) c4)))); (have HV5 : Hid (Holds (w4.setCell ⟨w.heap.size, 1, none⟩ (.slice p4 (E.I.length + 1) c4)) (.slice (some ⟨w3.heap.size, 0, none⟩) 2 2, zz2)) := Lib.hid (((HV3.out.keepB hg4.size (hg4.block _ (Nat.lt_of_lt_of_le (Nat.lt_succ_self _) (by rw [size_alloc, size_alloc]; exact Nat.le_succ _)) (fun e => by have h9 : w3.heap.size < w3.heap.size := HOB.out _ e.symm; omega)))).keepB (by rw [set_size]; exact Nat.le_refl _) (Below.heap_setCell _ _ _ _ (by show w3.heap.size ≠ w.heap.size; omega)))); obtain ⟨zl, z0, z1, z2, z3, zf⟩ := hw4.box; clear hown4 hg4 hb4 hw4)
    clear xl x0 x1 x2 x3 xf zl z0 z1 z2 z3 zf
    generalize World.setCell _ _ _ = w5 at HW5 HO4 HV5 ⊢
    clear HW3 HNB HO3 HNW HV3
    obtain ⟨bl, b0, b1, b2, b3, bf⟩ := HW5.out.box
    obtain ⟨yl, y0, y1, y2, y3, yf⟩ := HW5.out.res
    go_wp2
    obtain ⟨⟨-, s0, s1, s2, s3, -⟩, htp, hst, hzz, hkk⟩ := HW5.out.fin hlt rfl
    have hcf := HE.out _ hst
    exact bodyPost_ret (v := .agg #[.string E.nm, .slice p4 (E.I.length + 1) c4, .slice E.pd E.D.length E.cd, .slice E.pu E.U.length E.cu]) (by simp [results, Tryz.results11, go_sem, s0, s1, s2, s3]) rfl
      ⟨⟨E.nm, p4, c4, tabR (G ++ [(z, .slice (some ⟨w3.heap.size, 0, none⟩) 2 2, zz2)]), E.pd, E.cd, E.D, E.pu, E.cu, E.U⟩, by rw [tabR_length, List.length_append, List.length_singleton, HGL.out], dlt_ins hcf (sd_own HO4.out hlo hkk) (fun g hg => by
        rcases List.mem_append.1 hg with hg | hg
        · exact HGG.out _ hst g hg
        · obtain rfl := List.mem_singleton.1 hg
          exact ⟨HV5.out.keepB hzz (hkk _ (by show w.heap.size + 2 ≤ w3.heap.size; omega)), zz2_sized⟩) (by rw [List.length_append, List.length_singleton]; omega), htp, hst, by dsimp only; rw [tabR_length, List.length_append, List.length_singleton, HGL.out]; omega, by dsimp only; omega, by dsimp only; omega⟩
  · obtain ⟨G, hGl, hGI, hGG, hGC⟩ := trows_list (fun v hv => (HE.out v hv).del) E.D.length (Nat.le_refl _)
    rw [List.take_length] at hGI
    have HGC := Lib.hid hGC
    have HGG : Hid (∀ v, StepT b w v → ∀ g ∈ G, Holds v (g.2.1, g.2.2) ∧ ValsSized g.2.2) := Lib.hid fun v hv g hg => ⟨hGG v hv g hg, (HE.out v hv).dsz (g.1, g.2.2) (by rw [← hGI]; exact List.mem_map.2 ⟨g, hg, rfl⟩)⟩
    have HGL := Lib.hid hGl
    have hgl : G.length ≤ 100 := by omega
    clear hGI hGG hGC hGl
    obtain ⟨i0, hi0, hz0, hz1, hz2⟩ := info_parts info_trow
    have HA := Lib.hid (HW1.out.low hlt hlo (below_alloc u1 (.cells #[] 58)))
    have HO := Lib.hid (towns_empty u1)
    have HN := Lib.hid (HGC.out _ HA.out.step)
    obtain ⟨xl, x0, x1, x2, x3, xf⟩ := HW1.out.box
    go_upto_region 12 with (fail)
    go_wp2_with (at_builtin; refine wpList_append_any rfl (.tmp 51) (.tmp 53) 22 58 rfl u1.heap.size i0 _ 2 32 Tryz.underlying22 hi0 hz0 hz1 hz2 rfl (by decide) _ 0 (tcells []) (by rfl) HO.out E.pd E.D.length E.cd (tcells G) (by rfl) (by rw [tcells_length, HGL.out]) (trows_news HN.out) (trows_nil HN.out) (tcells_one (fun g hg => (HGG.out _ HA.out.step g hg).1)) (by unfold maxLen; omega) (by omega) (by rw [size_alloc]; exact Nat.le_succ _) ?_; intro v2 w2 hown2 hg2; (have hb2 := grown_below (below_alloc u1 (.cells #[] 58)) (by rw [size_alloc]; exact Nat.le_succ _) hg2 (fun k hk => by cases hk; exact Nat.le_refl _)); (have HW2 := Lib.hid (HW1.out.low hlt hlo hb2)); (have HO2 : Hid (w2.ownsRow u1.heap.size 58 2 v2 G.length (tcells G)) := Lib.hid (by rw [Nat.zero_add, ← HGL.out] at hown2; exact hown2)); (have hz2' := hb2.size); clear hown2 hg2 hb2)
    clear xl x0 x1 x2 x3 xf HA HO HN HW1
    refine (next_any b 9 _ (by omega) (by omega) HW2.out.tape).mono ?_
    rintro e w3 ⟨z, rfl, hz30, hz31, ht3, hs3⟩
    have HW3 := Lib.hid (HW2.out.next hlt hs3 ht3)
    have HNB := Lib.hid (below_alloc w3 (.cells #[.int .i64 z, .slice none 0 0] 58))
    have HO3 := Lib.hid (owns_below (owns_step HO2.out (by omega) hs3) HNB.out)
    have hz3' : u1.heap.size ≤ w3.heap.size := Nat.le_trans hz2' hs3.size
    have HNW := Lib.hid (row2_new w3 (.int .i64 z) (.slice none 0 0) 58)
    have HOB : Hid (∀ k, v2.ownBlock = some k → k < w3.heap.size) := Lib.hid (fun k hk => owns_lt (owns_step HO2.out (by omega) hs3) k hk)
    clear HO2 HW2 ht3 hs3
    obtain ⟨xl, x0, x1, x2, x3, xf⟩ := HW3.out.box
    go_upto_region 17 with (at_builtin; refine wpList_append_trow rfl (.tmp 54) (.tmp 58) rfl u1.heap.size v2 G (by rfl) HO3.out (w3.heap.size) z (.slice none 0 0) [] (by rfl) HNW.out.1 HNW.out.2 rfl (by omega) (Nat.le_trans hz3' HNB.out.size) ?_; intro v4 w4 hown4 hg4; (have hb4 : Below u1.heap.size w3 w4 := grown_below (HNB.out.mono hz3') (Nat.le_trans hz3' HNB.out.size) hg4 (fun k hk => owns_block HO3.out k hk)); (have hw4 := HW3.out.low hlt hlo hb4); obtain ⟨p4, c4, e4⟩ := own_ex hown4; (have e5 : (G ++ [(z, (.slice none 0 0 : Value), ([] : List Val))]).length = E.D.length + 1 := by rw [List.length_append, List.length_singleton, HGL.out]); rw [e5] at e4; subst e4; (have HO4 : Hid ((w4.setCell ⟨w.heap.size, 2, none⟩ (.slice p4 (E.D.length + 1) c4)).ownsRow u1.heap.size 58 2 (.slice p4 (E.D.length + 1) c4) (G ++ [(z, (.slice none 0 0 : Value), ([] : List Val))]).length (tcells (G ++ [(z, .slice none 0 0, [])]))) := Lib.hid (owns_keep hown4 fun k hk => Below.heap_setCell _ _ _ _ (by have := owns_block hown4 k hk; show k ≠ w.heap.size; omega))); (have HW5 := Lib.hid (hw4.put hlt (hw4.box.set2 (.slice p4 (E.D.length + 1) c4)))); obtain ⟨zl, z0, z1, z2, z3, zf⟩ := hw4.box; clear hown4 hg4 hb4 hw4)
    clear xl x0 x1 x2 x3 xf zl z0 z1 z2 z3 zf
    generalize World.setCell _ _ _ = w5 at HW5 HO4 ⊢
    clear HW3 HNB HO3 HNW
    obtain ⟨bl, b0, b1, b2, b3, bf⟩ := HW5.out.box
    obtain ⟨yl, y0, y1, y2, y3, yf⟩ := HW5.out.res
    go_wp2
    obtain ⟨⟨-, s0, s1, s2, s3, -⟩, htp, hst, hzz, hkk⟩ := HW5.out.fin hlt rfl
    have hcf := HE.out _ hst
    exact bodyPost_ret (v := .agg #[.string E.nm, .slice E.pi E.I.length E.ci, .slice p4 (E.D.length + 1) c4, .slice E.pu E.U.length E.cu]) (by simp [results, Tryz.results11, go_sem, s0, s1, s2, s3]) rfl
      ⟨⟨E.nm, E.pi, E.ci, E.I, p4, c4, tabR (G ++ [(z, .slice none 0 0, [])]), E.pu, E.cu, E.U⟩, by rw [tabR_length, List.length_append, List.length_singleton, HGL.out], dlt_del hcf (sd_own HO4.out hlo hkk) (fun g hg => by
        rcases List.mem_append.1 hg with hg | hg
        · exact HGG.out _ hst g hg
        · obtain rfl := List.mem_singleton.1 hg
          exact ⟨Holds.nil _, vs_nil⟩) (by rw [List.length_append, List.length_singleton]; omega), htp, hst, by dsimp only; omega, by dsimp only; rw [tabR_length, List.length_append, List.length_singleton, HGL.out]; omega, by dsimp only; omega⟩
  · obtain ⟨P, hPl, hPU, hPG, hPC⟩ := pairs_list (fun v hv => (HE.out v hv).upd) E.U.length (Nat.le_refl _)
    rw [List.take_length] at hPU
    have HPC := Lib.hid hPC
    have HPG : Hid (∀ v, StepT b w v → ∀ x ∈ P, (Holds v x.2.1 ∧ Holds v x.2.2) ∧ ValsSized x.2.1.2 ∧ ValsSized x.2.2.2) := Lib.hid fun v hv x hx => ⟨hPG v hv x hx, (HE.out v hv).osz (unP x) (by rw [← hPU]; exact List.mem_map.2 ⟨x, hx, rfl⟩), (HE.out v hv).usz (unP x) (by rw [← hPU]; exact List.mem_map.2 ⟨x, hx, rfl⟩)⟩
    have HPL := Lib.hid hPl
    have hpl : P.length ≤ 100 := by omega
    clear hPU hPG hPC hPl
    obtain ⟨i0, hi0, hz0, hz1, hz2⟩ := info_parts info_pair
    have HA := Lib.hid (HW1.out.low hlt hlo (below_alloc u1 (.cells #[] 75)))
    have HO := Lib.hid (powns_empty u1)
    have HN := Lib.hid (HPC.out _ HA.out.step)
    obtain ⟨xl, x0, x1, x2, x3, xf⟩ := HW1.out.box
    go_upto_region 14 with (fail)
    go_wp2_with (at_builtin; refine wpList_append_any rfl (.tmp 63) (.tmp 65) 23 75 rfl u1.heap.size i0 _ 3 56 Tryz.underlying23 hi0 hz0 hz1 hz2 rfl (by decide) _ 0 (pcells []) (by rfl) HO.out E.pu E.U.length E.cu (pcells P) (by rfl) (by rw [pcells_length, HPL.out]) (pairs_news HN.out) (sd_pnil HN.out) (pcells_one (fun x hx => (HPG.out _ HA.out.step x hx).1)) (by unfold maxLen; omega) (by omega) (by rw [size_alloc]; exact Nat.le_succ _) ?_; intro v2 w2 hown2 hg2; (have hb2 := grown_below (below_alloc u1 (.cells #[] 75)) (by rw [size_alloc]; exact Nat.le_succ _) hg2 (fun k hk => by cases hk; exact Nat.le_refl _)); (have HW2 := Lib.hid (HW1.out.low hlt hlo hb2)); (have HO2 : Hid (w2.ownsRow u1.heap.size 75 3 v2 P.length (pcells P)) := Lib.hid (by rw [Nat.zero_add, ← HPL.out] at hown2; exact hown2)); (have hz2' := hb2.size); clear hown2 hg2 hb2)
    clear xl x0 x1 x2 x3 xf HA HO HN HW1
    refine (next_any b 9 _ (by omega) (by omega) HW2.out.tape).mono ?_
    rintro e w3 ⟨z, rfl, hz30, hz31, ht3, hs3⟩
    have HW3 := Lib.hid (HW2.out.next hlt hs3 ht3)
    have HNB := Lib.hid (below_alloc w3 (.cells #[.int .i64 z, .slice none 0 0, .slice none 0 0] 75))
    have HO3 := Lib.hid (owns_below (owns_step HO2.out (by omega) hs3) HNB.out)
    have hz3' : u1.heap.size ≤ w3.heap.size := Nat.le_trans hz2' hs3.size
    have HNW := Lib.hid (cell3_new w3 (.int .i64 z) (.slice none 0 0) (.slice none 0 0) 75)
    clear HO2 HW2 ht3 hs3
    obtain ⟨xl, x0, x1, x2, x3, xf⟩ := HW3.out.box
    go_upto_region 17 with (at_builtin; refine wpList_append_any rfl (.tmp 66) (.tmp 70) 23 75 rfl u1.heap.size i0 _ 3 56 Tryz.underlying23 hi0 hz0 hz1 hz2 rfl (by decide) v2 P.length (pcells P) (by rfl) HO3.out (some ⟨w3.heap.size, 0, none⟩) 1 1 [.int .i64 z, .slice none 0 0, .slice none 0 0] (by rfl) rfl (fun ad he => by cases he; exact pair_news HNW.out.c0 HNW.out.c1 HNW.out.c2) (fun e => by cases e) (by intro u hu; simp only [List.mem_cons, List.not_mem_nil, or_false] at hu; rcases hu with rfl | rfl | rfl <;> rfl) (by unfold maxLen; omega) (by omega) (by rw [size_alloc]; omega) ?_; intro v4 w4 hown4 hg4; (have hb4 : Below u1.heap.size w3 w4 := grown_below (HNB.out.mono hz3') (by rw [size_alloc]; omega) hg4 (fun k hk => owns_block HO3.out k hk)); (have hw4 := HW3.out.low hlt hlo hb4); obtain ⟨p4, c4, e4⟩ := own_ex hown4; rw [HPL.out] at e4; subst e4; (have HO4 : Hid ((w4.setCell ⟨w.heap.size, 3, none⟩ (.slice p4 (E.U.length + 1) c4)).ownsRow u1.heap.size 75 3 (.slice p4 (E.U.length + 1) c4) (P ++ [sd_zP z]).length (pcells (P ++ [sd_zP z]))) := Lib.hid (by rw [List.length_append, List.length_singleton, sd_pcells_snoc]; exact owns_keep hown4 fun k hk => Below.heap_setCell _ _ _ _ (by have := owns_block hown4 k hk; show k ≠ w.heap.size; omega))); (have HW5 := Lib.hid (hw4.put hlt (hw4.box.set3 (.slice p4 (E.U.length + 1) c4)))); obtain ⟨zl, z0, z1, z2, z3, zf⟩ := hw4.box; clear hown4 hg4 hb4 hw4)
    clear xl x0 x1 x2 x3 xf zl z0 z1 z2 z3 zf
    generalize World.setCell _ _ _ = w5 at HW5 HO4 ⊢
    clear HW3 HNB HO3 HNW
    obtain ⟨bl, b0, b1, b2, b3, bf⟩ := HW5.out.box
    obtain ⟨yl, y0, y1, y2, y3, yf⟩ := HW5.out.res
    go_wp2
    obtain ⟨⟨-, s0, s1, s2, s3, -⟩, htp, hst, hzz, hkk⟩ := HW5.out.fin hlt rfl
    have hcf := HE.out _ hst
    exact bodyPost_ret (v := .agg #[.string E.nm, .slice E.pi E.I.length E.ci, .slice E.pd E.D.length E.cd, .slice p4 (E.U.length + 1) c4]) (by simp [results, Tryz.results11, go_sem, s0, s1, s2, s3]) rfl
      ⟨⟨E.nm, E.pi, E.ci, E.I, E.pd, E.cd, E.D, p4, c4, (P ++ [sd_zP z]).map unP⟩, by rw [List.length_map, List.length_append, List.length_singleton, HPL.out], dlt_upd hcf (sd_own HO4.out hlo hkk) (fun x hx => by
        rcases List.mem_append.1 hx with hx | hx
        · exact HPG.out _ hst x hx
        · obtain rfl := List.mem_singleton.1 hx
          exact ⟨⟨Holds.nil _, Holds.nil _⟩, vs_nil, vs_nil⟩) (by rw [List.length_append, List.length_singleton]; omega), htp, hst, by dsimp only; omega, by dsimp only; omega, by dsimp only; rw [List.length_map, List.length_append, List.length_singleton, HPL.out]; omega⟩
  · obtain ⟨G, hGl, hGI, hGG, hGC⟩ := trows_list (fun v hv => (HE.out v hv).ins) E.I.length (Nat.le_refl _)
    rw [List.take_length] at hGI
    have HGC := Lib.hid hGC
    have HGG : Hid (∀ v, StepT b w v → ∀ g ∈ G, Holds v (g.2.1, g.2.2) ∧ ValsSized g.2.2) := Lib.hid fun v hv g hg => ⟨hGG v hv g hg, (HE.out v hv).isz (g.1, g.2.2) (by rw [← hGI]; exact List.mem_map.2 ⟨g, hg, rfl⟩)⟩
    have HGL := Lib.hid hGl
    have hgl : G.length ≤ 100 := by omega
    clear hGI hGG hGC hGl
    obtain ⟨i0, hi0, hz0, hz1, hz2⟩ := info_parts info_trow
    have HA := Lib.hid (HW1.out.low hlt hlo (below_alloc u1 (.cells #[.int .i64 9223372036854775807, .slice none 0 0] 58)))
    have HO := Lib.hid (towns_one u1 9223372036854775807)
    have HN := Lib.hid (HGC.out _ HA.out.step)
    obtain ⟨xl, x0, x1, x2, x3, xf⟩ := HW1.out.box
    go_upto_region 16 with (fail)
    go_upto_region 17 with (at_builtin; refine wpList_append_any rfl (.tmp 76) (.tmp 78) 22 58 rfl u1.heap.size i0 _ 2 32 Tryz.underlying22 hi0 hz0 hz1 hz2 rfl (by decide) _ 1 (tcells [(9223372036854775807, .slice none 0 0, [])]) (by rfl) HO.out E.pi E.I.length E.ci (tcells G) (by rfl) (by rw [tcells_length, HGL.out]) (trows_news HN.out) (trows_nil HN.out) (tcells_one (fun g hg => (HGG.out _ HA.out.step g hg).1)) (by unfold maxLen; omega) (by omega) (by rw [size_alloc]; exact Nat.le_succ _) ?_; intro v4 w4 hown4 hg4; (have hb4 := grown_below (below_alloc u1 (.cells #[.int .i64 9223372036854775807, .slice none 0 0] 58)) (by rw [size_alloc]; exact Nat.le_succ _) hg4 (fun k hk => by cases hk; exact Nat.le_refl _)); (have hw4 := HW1.out.low hlt hlo hb4); obtain ⟨p4, c4, e4⟩ := own_ex hown4; subst e4; (have HO4 : Hid ((w4.setCell ⟨w.heap.size, 1, none⟩ (.slice p4 (1 + E.I.length) c4)).ownsRow u1.heap.size 58 2 (.slice p4 (1 + E.I.length) c4) ([((9223372036854775807 : Int), (.slice none 0 0 : Value), ([] : List Val))] ++ G).length (tcells ([(9223372036854775807, .slice none 0 0, [])] ++ G))) := Lib.hid (by rw [List.length_append, List.length_singleton, HGL.out, tcells_append]; exact owns_keep hown4 fun k hk => Below.heap_setCell _ _ _ _ (by have := owns_block hown4 k hk; show k ≠ w.heap.size; omega))); (have HW5 := Lib.hid (hw4.put hlt (hw4.box.set1 (.slice p4 (1 + E.I.length) c4)))); obtain ⟨zl, z0, z1, z2, z3, zf⟩ := hw4.box; clear hown4 hg4 hb4 hw4)
    clear xl x0 x1 x2 x3 xf zl z0 z1 z2 z3 zf
    generalize World.setCell _ _ _ = w5 at HW5 HO4 ⊢
    clear HA HO HN HW1
    obtain ⟨bl, b0, b1, b2, b3, bf⟩ := HW5.out.box
    obtain ⟨yl, y0, y1, y2, y3, yf⟩ := HW5.out.res
    go_wp2
    obtain ⟨⟨-, s0, s1, s2, s3, -⟩, htp, hst, hzz, hkk⟩ := HW5.out.fin hlt rfl
    have hcf := HE.out _ hst
    exact bodyPost_ret (v := .agg #[.string E.nm, .slice p4 (1 + E.I.length) c4, .slice E.pd E.D.length E.cd, .slice E.pu E.U.length E.cu]) (by simp [results, Tryz.results11, go_sem, s0, s1, s2, s3]) rfl
      ⟨⟨E.nm, p4, c4, tabR ([(9223372036854775807, .slice none 0 0, [])] ++ G), E.pd, E.cd, E.D, E.pu, E.cu, E.U⟩, by rw [tabR_length, List.length_append, List.length_singleton, HGL.out], dlt_ins hcf (sd_own HO4.out hlo hkk) (fun g hg => by
        rcases List.mem_append.1 hg with hg | hg
        · obtain rfl := List.mem_singleton.1 hg
          exact ⟨Holds.nil _, vs_nil⟩
        · exact HGG.out _ hst g hg) (by rw [List.length_append, List.length_singleton]; omega), htp, hst, by dsimp only; rw [tabR_length, List.length_append, List.length_singleton, HGL.out]; omega, by dsimp only; omega, by dsimp only; omega⟩
  · obtain ⟨G, hGl, hGI, hGG, hGC⟩ := trows_list (fun v hv => (HE.out v hv).del) E.D.length (Nat.le_refl _)
    rw [List.take_length] at hGI
    have HGC := Lib.hid hGC
    have HGG : Hid (∀ v, StepT b w v → ∀ g ∈ G, Holds v (g.2.1, g.2.2) ∧ ValsSized g.2.2) := Lib.hid fun v hv g hg => ⟨hGG v hv g hg, (HE.out v hv).dsz (g.1, g.2.2) (by rw [← hGI]; exact List.mem_map.2 ⟨g, hg, rfl⟩)⟩
    have HGL := Lib.hid hGl
    clear hGI hGG hGC hGl
    obtain ⟨P, hPl, hPU, hPG, hPC⟩ := pairs_list (fun v hv => (HE.out v hv).upd) E.U.length (Nat.le_refl _)
    rw [List.take_length] at hPU
    have HU0 : Hid (SdU b w P E.pu E.cu u1) := Lib.hid ⟨fun v hv x hx => ⟨hPG v hv x hx, (HE.out v hv).osz (unP x) (by rw [← hPU]; exact List.mem_map.2 ⟨x, hx, rfl⟩), (HE.out v hv).usz (unP x) (by rw [← hPU]; exact List.mem_map.2 ⟨x, hx, rfl⟩)⟩,
      fun v hv _ => ⟨pairs_news (hPC v hv), by rw [hPU]; exact (HE.out v hv).upd⟩, sd_pnil (hPC u1 HW1.out.step), by rw [hPl]; exact (HE.out u1 HW1.out.step).ucap⟩
    rw [← hPl] at HW1
    have HPL := Lib.hid hPl
    clear hPU hPG hPC hPl
    obtain ⟨pd, hpd⟩ : ∃ pd, E.pd = pd := ⟨_, rfl⟩
    rw [hpd] at HW1 ⊢
    have HPD := Lib.hid hpd
    clear hpd
    obtain ⟨i0, hi0, hz0, hz1, hz2⟩ := info_parts info_pair
    obtain ⟨xl, x0, x1, x2, x3, xf⟩ := HW1.out.box
    go_wp2_with fail
    go_loopw [12] (fun i v => ∃ (k : Nat) (P2 : List GPair) (p : Option Addr) (cu : Nat), k ≤ E.D.length ∧ i = .int .i64 k ∧ P2.length = E.U.length + k ∧ SdU b w P2 p cu v ∧ SdW b w (.string E.nm) (.slice E.pi E.I.length E.ci) (.slice pd E.D.length E.cd) (.slice p P2.length cu) v) (fun i _ => E.D.length - (intOf i).toNat)
    case atStart => exact ⟨0, P, E.pu, E.cu, Nat.zero_le _, rfl, HPL.out, HU0.out, HW1.out⟩
    clear HU0 HW1 xl x0 x1 x2 x3 xf
    case round =>
      obtain ⟨k, P2, p, cu, hk, rfl, hPl2, hU, hw⟩ := hrel
      have HU := Lib.hid hU
      have HW := Lib.hid hw
      have HPL2 := Lib.hid hPl2
      have hP2 : P2.length ≤ 250 := by omega
      clear hU hw hPl2
      by_cases hlk : k < E.D.length
      · have hkd : decide ((k : Int) < E.D.length) = true := decide_eq_true (by omega)
        have hkG : k < G.length := by have := HGL.out; omega
        obtain ⟨c, o, hp, h0, h1⟩ := HGC.out _ HW.out.step k hkG
        rw [HPD.out] at hp
        subst hp
        have hgm := List.getElem_mem hkG
        obtain ⟨⟨id, hd, l⟩, hg⟩ : ∃ x, G[k] = x := ⟨_, rfl⟩
        rw [hg] at h0 h1 hgm
        dsimp only at h0 h1
        obtain ⟨⟨q, cq, hx, -⟩, -⟩ := HGG.out _ HW.out.step _ hgm
        dsimp only at hx
        subst hx
        have HNH : Hid (∀ x, StepT b w x → ∀ y ∈ P2 ++ [((id, ((.slice q l.length cq : Value), l), ((.slice q l.length cq : Value), l)) : GPair)], (Holds x y.2.1 ∧ Holds x y.2.2) ∧ ValsSized y.2.1.2 ∧ ValsSized y.2.2.2) := Lib.hid fun x hx y hy => by
          rcases List.mem_append.1 hy with hy | hy
          · exact HU.out.hold x hx y hy
          · obtain rfl := List.mem_singleton.1 hy
            obtain ⟨g1, g2⟩ := HGG.out x hx _ hgm
            exact ⟨⟨g1, g1⟩, g2, g2⟩
        have hbn := below_alloc wr (.cells #[.int .i64 id, .slice q l.length cq] 58)
        have HW2 := Lib.hid (sd_stay HW.out hlt hbn)
        have HU2 := Lib.hid (HU.out.to hbn)
        have HY2 := Lib.hid (cell2_new wr (.int .i64 id) (.slice q l.length cq) 58)
        clear HU HW hbn hg
        go_upto_region 5 with (fail)
        clear h0 h1
        generalize World.alloc _ _ = W2 at HW2 HU2 HY2 ⊢
        generalize wr.heap.size = Z at HY2 ⊢
        have hlo2 := HW2.out.lo
        have HSRC : Hid (∀ V, Below W2.heap.size W2 V → ∀ ad, p = some ad → ∀ j y, (pcells P2)[j]? = some y → V.cell? (ad.add j) = some y) := Lib.hid fun V hV => (HU2.out.src V (sd_stepB HW2.out.step hV (by omega)) fun k _ h2 => hV.block k h2).1
        have HND := Lib.hid HU2.out.nil
        have HONE := Lib.hid (pcells_one (v := W2) fun x hx => (HU2.out.hold W2 HW2.out.step x hx).1)
        refine wp_region_late (use := [[], [], [1], [0, 2], [], [4], [], [6], [], [8], [5, 7, 9], [10], [3, 11], [], [12, 13]]) (sl := [[16], [17], [18], [19], [20], [21], [22], [23], [24], [25], [26], [27], [28], [29], [28]]) (live := [[], [], [], [], [3, 12, 14], [3, 12, 14], [3, 12, 14], [3, 12, 14], [3, 12, 14], [3, 12, 14], [3, 12, 14], [3], [], [3, 12, 14], []]) (late := [3, 12, 14]) (brk := [14]) (B := w.heap.size) (J := fun u => Below W2.heap.size W2 u) (Φ := fun ix f u => match ix with | 0 => ∃ k, f 16 = .slice (some ⟨k, 0, none⟩) 0 0 ∧ u.ownsRow W2.heap.size 75 3 (f 16) 0 (pcells []) | 1 => f 17 = .pointer (some ⟨w.heap.size, 3, none⟩) | 2 => f 18 = .slice p P2.length cu | 3 => u.ownsRow W2.heap.size 75 3 (f 19) P2.length (pcells P2) | 4 => f 20 = .pointer (some ⟨Z, 0, none⟩) | 5 => f 21 = .int .i64 id | 6 => f 22 = .pointer (some ⟨Z, 1, none⟩) | 7 => f 23 = .slice q l.length cq | 8 => f 24 = .pointer (some ⟨Z, 1, none⟩) | 9 => f 25 = .slice q l.length cq | 10 => f 26 = .agg #[.int .i64 id, .slice q l.length cq, .slice q l.length cq] | 11 => ∃ k, f 27 = .slice (some ⟨k, 0, none⟩) 1 1 ∧ Cell3 u k (.int .i64 id) (.slice q l.length cq) (.slice q l.length cq) | 12 => u.ownsRow W2.heap.size 75 3 (f 28) (P2 ++ [((id, ((.slice q l.length cq : Value), l), ((.slice q l.length cq : Value), l)) : GPair)]).length (pcells (P2 ++ [((id, ((.slice q l.length cq : Value), l), ((.slice q l.length cq : Value), l)) : GPair)])) | 13 => f 29 = .pointer (some ⟨w.heap.size, 3, none⟩) | 14 => SdW b w (.string E.nm) (.slice E.pi E.I.length E.ci) (.slice (some ⟨c, o, none⟩) E.D.length E.cd) (f 28) u ∧ u.ownsRow W2.heap.size 75 3 (f 28) (P2 ++ [((id, ((.slice q l.length cq : Value), l), ((.slice q l.length cq : Value), l)) : GPair)]).length (pcells (P2 ++ [((id, ((.slice q l.length cq : Value), l), ((.slice q l.length cq : Value), l)) : GPair)])) | _ => True) (by kernel_rfl) _ rfl (by kernel_rfl) (by kernel_rfl) (by show w.heap.size ≤ W2.heap.size; omega) ((Below.refl W2.heap.size W2).drew) (fun u v h hb => below_next h hb) ?_ ?_ ?_ ?_
        · intro jx f g u u2 hs hb h
          match jx, hs, h with
          | 0, hs, h =>
            have e16 := hs 16 (by decide)
            simp only [e16]
            exact (by obtain ⟨k, h1, h2⟩ := h; exact ⟨k, h1, owns_below h2 hb⟩)
          | 1, hs, h =>
            have e17 := hs 17 (by decide)
            simp only [e17]
            exact h
          | 2, hs, h =>
            have e18 := hs 18 (by decide)
            simp only [e18]
            exact h
          | 3, hs, h =>
            have e19 := hs 19 (by decide)
            simp only [e19]
            exact owns_below h hb
          | 4, hs, h =>
            have e20 := hs 20 (by decide)
            simp only [e20]
            exact h
          | 5, hs, h =>
            have e21 := hs 21 (by decide)
            simp only [e21]
            exact h
          | 6, hs, h =>
            have e22 := hs 22 (by decide)
            simp only [e22]
            exact h
          | 7, hs, h =>
            have e23 := hs 23 (by decide)
            simp only [e23]
            exact h
          | 8, hs, h =>
            have e24 := hs 24 (by decide)
            simp only [e24]
            exact h
          | 9, hs, h =>
            have e25 := hs 25 (by decide)
            simp only [e25]
            exact h
          | 10, hs, h =>
            have e26 := hs 26 (by decide)
            simp only [e26]
            exact h
          | 11, hs, h =>
            have e27 := hs 27 (by decide)
            simp only [e27]
            exact (by obtain ⟨k, h1, h2⟩ := h; exact ⟨k, h1, h2.low hb⟩)
          | 12, hs, h =>
            have e28 := hs 28 (by decide)
            simp only [e28]
            exact owns_below h hb
          | 13, hs, h =>
            have e29 := hs 29 (by decide)
            simp only [e29]
            exact h
          | 14, hs, h =>
            have e28 := hs 28 (by decide)
            simp only [e28]
            exact ⟨sd_stay h.1 hlt hb, owns_below h.2 hb⟩
          | _ + 15, _, h => exact h
        · intro ix o hix hne f u hold hbe hgr hJ huse
          obtain ⟨kt, kc, kf⟩ := evF_all f
          match ix, hix, hne with
          | 0, hix, _ =>
            simp only [List.getElem?_cons_zero, Option.some.injEq] at hix
            subst hix
            have hgr2 : W2.heap.size ≤ u.heap.size := hgr
            refine gives_K fun K hK => ?_
            go_simp
            exact gives_value (hK _ _ ⟨below_alloc _ _, u.heap.size, by simp [upF], by simpa [upF] using owns_base (powns_empty u) hgr2⟩)
          | 1, hix, _ =>
            simp only [List.getElem?_cons_zero, List.getElem?_cons_succ, Option.some.injEq] at hix
            subst hix
            have h3 : f 3 = .pointer (some ⟨w.heap.size, 0, none⟩) := (hold 3 (by kernel_rfl)).trans rfl
            refine gives_K fun K hK => ?_
            go_simp
            exact gives_value (hK _ _ ⟨Below.refl _ _, by simp [upF]⟩)
          | 2, hix, _ =>
            simp only [List.getElem?_cons_zero, List.getElem?_cons_succ, Option.some.injEq] at hix
            subst hix
            have u1 := huse 1 (by decide)
            simp only at u1
            have hJw := hJ (by kernel_rfl)
            obtain ⟨xl, x0, x1, x2, x3, xf⟩ := (HW2.out.low hlt hlo2 hJw).box
            refine gives_K fun K hK => ?_
            go_simp
            exact gives_value (hK _ _ ⟨Below.refl _ _, by simp [upF]⟩)
          | 3, _, hne => exact absurd (by decide) hne
          | 4, hix, _ =>
            simp only [List.getElem?_cons_zero, List.getElem?_cons_succ, Option.some.injEq] at hix
            subst hix
            have h6 : f 6 = .pointer (some ⟨Z, 0, none⟩) := (hold 6 (by kernel_rfl)).trans rfl
            refine gives_K fun K hK => ?_
            go_simp
            exact gives_value (hK _ _ ⟨Below.refl _ _, by simp [upF]⟩)
          | 5, hix, _ =>
            simp only [List.getElem?_cons_zero, List.getElem?_cons_succ, Option.some.injEq] at hix
            subst hix
            have u4 := huse 4 (by decide)
            simp only at u4
            have hJw := hJ (by kernel_rfl)
            obtain ⟨zl, z0, z1, -⟩ := HY2.out.low hJw
            refine gives_K fun K hK => ?_
            go_simp
            exact gives_value (hK _ _ ⟨Below.refl _ _, by simp [upF]⟩)
          | 6, hix, _ =>
            simp only [List.getElem?_cons_zero, List.getElem?_cons_succ, Option.some.injEq] at hix
            subst hix
            have h6 : f 6 = .pointer (some ⟨Z, 0, none⟩) := (hold 6 (by kernel_rfl)).trans rfl
            refine gives_K fun K hK => ?_
            go_simp
            exact gives_value (hK _ _ ⟨Below.refl _ _, by simp [upF]⟩)
          | 7, hix, _ =>
            simp only [List.getElem?_cons_zero, List.getElem?_cons_succ, Option.some.injEq] at hix
            subst hix
            have u6 := huse 6 (by decide)
            simp only at u6
            have hJw := hJ (by kernel_rfl)
            obtain ⟨zl, z0, z1, -⟩ := HY2.out.low hJw
            refine gives_K fun K hK => ?_
            go_simp
            exact gives_value (hK _ _ ⟨Below.refl _ _, by simp [upF]⟩)
          | 8, hix, _ =>
            simp only [List.getElem?_cons_zero, List.getElem?_cons_succ, Option.some.injEq] at hix
            subst hix
            have h6 : f 6 = .pointer (some ⟨Z, 0, none⟩) := (hold 6 (by kernel_rfl)).trans rfl
            refine gives_K fun K hK => ?_
            go_simp
            exact gives_value (hK _ _ ⟨Below.refl _ _, by simp [upF]⟩)
          | 9, hix, _ =>
            simp only [List.getElem?_cons_zero, List.getElem?_cons_succ, Option.some.injEq] at hix
            subst hix
            have u8 := huse 8 (by decide)
            simp only at u8
            have hJw := hJ (by kernel_rfl)
            obtain ⟨zl, z0, z1, -⟩ := HY2.out.low hJw
            refine gives_K fun K hK => ?_
            go_simp
            exact gives_value (hK _ _ ⟨Below.refl _ _, by simp [upF]⟩)
          | 10, hix, _ =>
            simp only [List.getElem?_cons_zero, List.getElem?_cons_succ, Option.some.injEq] at hix
            subst hix
            have u5 := huse 5 (by decide)
            have u7 := huse 7 (by decide)
            have u9 := huse 9 (by decide)
            simp only at u5 u7 u9
            refine gives_K fun K hK => ?_
            go_simp
            exact gives_value (hK _ _ ⟨Below.refl _ _, by simp [upF]⟩)
          | 11, hix, _ =>
            simp only [List.getElem?_cons_zero, List.getElem?_cons_succ, Option.some.injEq] at hix
            subst hix
            have u10 := huse 10 (by decide)
            simp only at u10
            refine gives_K fun K hK => ?_
            go_simp
            exact gives_value (hK _ _ ⟨below_alloc _ _, u.heap.size, by simp [upF], cell3_new u (.int .i64 id) (.slice q l.length cq) (.slice q l.length cq) 75⟩)
          | 12, _, hne => exact absurd (by decide) hne
          | 13, hix, _ =>
            simp only [List.getElem?_cons_zero, List.getElem?_cons_succ, Option.some.injEq] at hix
            subst hix
            have h3 : f 3 = .pointer (some ⟨w.heap.size, 0, none⟩) := (hold 3 (by kernel_rfl)).trans rfl
            refine gives_K fun K hK => ?_
            go_simp
            exact gives_value (hK _ _ ⟨Below.refl _ _, by simp [upF]⟩)
          | 14, _, hne => exact absurd (by decide) hne
          | ix + 15, hix, _ => simp at hix
        · intro ix o hix hin f u hold hbe hgr hJ huse
          obtain ⟨kt, kc, kf⟩ := evF_all f
          match ix, hix, hin with
          | 0, _, hin => exact absurd hin (by decide)
          | 1, _, hin => exact absurd hin (by decide)
          | 2, _, hin => exact absurd hin (by decide)
          | 3, hix, _ =>
            simp only [List.getElem?_cons_zero, List.getElem?_cons_succ, Option.some.injEq] at hix
            subst hix
            have u0 := huse 0 (by decide)
            have u2 := huse 2 (by decide)
            simp only at u0 u2
            have hJw := hJ (by kernel_rfl)
            obtain ⟨k0, h16, ho16⟩ := u0
            refine gives_append_any (.tmp 16) (.tmp 18) 23 75 rfl W2.heap.size i0 _ 3 56 Tryz.underlying23 hi0 hz0 hz1 hz2 rfl (by decide) (f 16) 0 (pcells []) (kt 16) ho16 p P2.length cu (pcells P2) ((kt 18).trans u2) (by rw [pcells_length]) (HSRC.out u hJw) HND.out HONE.out (by unfold maxLen; omega) (by omega) hgr ?_
            intro v2 u2 hown hg
            rw [Nat.zero_add] at hown
            refine ⟨hg.size, grown_below hbe (Nat.le_trans (by show w.heap.size ≤ W2.heap.size; omega) hgr) hg (fun k hk => by have := owns_block ho16 k hk; omega), hown, fun _ => grown_below hJw hJw.size hg (fun k hk => owns_block ho16 k hk), ?_⟩
            intro jx hji hl hr hs h
            match jx, hji, hl, hr, hs, h with
            | 0, _, hl, _, _, _ => exact absurd hl (by decide)
            | 1, _, hl, _, _, _ => exact absurd hl (by decide)
            | 2, _, hl, _, _, _ => exact absurd hl (by decide)
            | 3, hji, _, _, _, _ => exact absurd rfl hji
            | 4, _, _, hr, hs, h =>
              have e20 := hs 20 (by decide)
              simp only [e20]
              exact h
            | 5, _, _, hr, hs, h =>
              have e21 := hs 21 (by decide)
              simp only [e21]
              exact h
            | 6, _, _, hr, hs, h =>
              have e22 := hs 22 (by decide)
              simp only [e22]
              exact h
            | 7, _, _, hr, hs, h =>
              have e23 := hs 23 (by decide)
              simp only [e23]
              exact h
            | 8, _, _, hr, hs, h =>
              have e24 := hs 24 (by decide)
              simp only [e24]
              exact h
            | 9, _, _, hr, hs, h =>
              have e25 := hs 25 (by decide)
              simp only [e25]
              exact h
            | 10, _, _, hr, hs, h =>
              have e26 := hs 26 (by decide)
              simp only [e26]
              exact h
            | 11, _, _, hr, hs, h =>
              have e27 := hs 27 (by decide)
              simp only [e27]
              obtain ⟨k, h27, hc1⟩ := h
              refine ⟨k, h27, sd_ch3N hc1 hg fun e => ?_⟩
              rw [h16] at e ho16
              obtain rfl : k0 = k := Option.some.inj e
              exact sd_capnil ho16 hc1
            | 12, _, hl, _, _, _ => exact absurd hl (by decide)
            | 13, _, _, hr, hs, h =>
              have e29 := hs 29 (by decide)
              simp only [e29]
              exact h
            | 14, _, hl, _, _, _ => exact absurd hl (by decide)
            | jx + 15, _, hl, _, _, _ => exact absurd hl (by simp)
          | 4, _, hin => exact absurd hin (by decide)
          | 5, _, hin => exact absurd hin (by decide)
          | 6, _, hin => exact absurd hin (by decide)
          | 7, _, hin => exact absurd hin (by decide)
          | 8, _, hin => exact absurd hin (by decide)
          | 9, _, hin => exact absurd hin (by decide)
          | 10, _, hin => exact absurd hin (by decide)
          | 11, _, hin => exact absurd hin (by decide)
          | 12, hix, _ =>
            simp only [List.getElem?_cons_zero, List.getElem?_cons_succ, Option.some.injEq] at hix
            subst hix
            have u3 := huse 3 (by decide)
            have u11 := huse 11 (by decide)
            simp only at u3 u11
            have hJw := hJ (by kernel_rfl)
            obtain ⟨k, h27, hc1⟩ := u11
            refine gives_append_any (.tmp 19) (.tmp 27) 23 75 rfl W2.heap.size i0 _ 3 56 Tryz.underlying23 hi0 hz0 hz1 hz2 rfl (by decide) (f 19) P2.length (pcells P2) (kt 19) u3 (some ⟨k, 0, none⟩) 1 1 [.int .i64 id, .slice q l.length cq, .slice q l.length cq] ((kt 27).trans h27) rfl (fun ad he => by cases he; exact pair_news hc1.c0 hc1.c1 hc1.c2) (fun e => by cases e) (by intro x hx; simp only [List.mem_cons, List.not_mem_nil, or_false] at hx; rcases hx with rfl | rfl | rfl <;> rfl) (by unfold maxLen; omega) (by omega) hgr ?_
            intro v2 u2 hown hg
            refine ⟨hg.size, grown_below hbe (Nat.le_trans (by show w.heap.size ≤ W2.heap.size; omega) hgr) hg (fun k hk => by have := owns_block u3 k hk; omega), by rw [List.length_append, List.length_singleton, sd_snoc]; exact hown, fun _ => grown_below hJw hJw.size hg (fun k hk => owns_block u3 k hk), ?_⟩
            intro jx hji hl hr hs h
            match jx, hji, hl, hr, hs, h with
            | 0, _, hl, _, _, _ => exact absurd hl (by decide)
            | 1, _, hl, _, _, _ => exact absurd hl (by decide)
            | 2, _, hl, _, _, _ => exact absurd hl (by decide)
            | 3, _, hl, _, _, _ => exact absurd hl (by decide)
            | 4, _, _, hr, hs, h =>
              have e20 := hs 20 (by decide)
              simp only [e20]
              exact h
            | 5, _, _, hr, hs, h =>
              have e21 := hs 21 (by decide)
              simp only [e21]
              exact h
            | 6, _, _, hr, hs, h =>
              have e22 := hs 22 (by decide)
              simp only [e22]
              exact h
            | 7, _, _, hr, hs, h =>
              have e23 := hs 23 (by decide)
              simp only [e23]
              exact h
            | 8, _, _, hr, hs, h =>
              have e24 := hs 24 (by decide)
              simp only [e24]
              exact h
            | 9, _, _, hr, hs, h =>
              have e25 := hs 25 (by decide)
              simp only [e25]
              exact h
            | 10, _, _, hr, hs, h =>
              have e26 := hs 26 (by decide)
              simp only [e26]
              exact h
            | 11, _, hl, _, _, _ => exact absurd hl (by decide)
            | 12, hji, _, _, _, _ => exact absurd rfl hji
            | 13, _, _, hr, hs, h =>
              have e29 := hs 29 (by decide)
              simp only [e29]
              exact h
            | 14, _, hl, _, _, _ => exact absurd hl (by decide)
            | jx + 15, _, hl, _, _, _ => exact absurd hl (by simp)
          | 13, _, hin => exact absurd hin (by decide)
          | 14, hix, _ =>
            simp only [List.getElem?_cons_zero, List.getElem?_cons_succ, Option.some.injEq] at hix
            subst hix
            have u12 := huse 12 (by decide)
            have u13 := huse 13 (by decide)
            simp only at u12 u13
            have hJw := hJ (by kernel_rfl)
            have hSL := HW2.out.low hlt hlo2 hJw
            have hS := hSL.put hlt (hSL.box.set3 (f 28))
            have hO := ownsRow_setCell_below u12 (a := ⟨w.heap.size, 3, none⟩) (show w.heap.size < W2.heap.size by omega) (f 28)
            obtain ⟨xl, x0, x1, x2, x3, xf⟩ := hSL.box
            obtain ⟨p28, c28, e28⟩ := own_ex u12
            rw [List.length_append, List.length_singleton] at e28
            have HS : Hid (SdW b w (.string E.nm) (.slice E.pi E.I.length E.ci) (.slice (some ⟨c, o, none⟩) E.D.length E.cd) (f 28) (u.setCell ⟨w.heap.size, 3, none⟩ (.slice p28 (P2.length + 1) c28))) := Lib.hid (by rw [← e28]; exact hS)
            have HO : Hid ((u.setCell ⟨w.heap.size, 3, none⟩ (.slice p28 (P2.length + 1) c28)).ownsRow W2.heap.size 75 3 (f 28) (P2 ++ [((id, ((.slice q l.length cq : Value), l), ((.slice q l.length cq : Value), l)) : GPair)]).length (pcells (P2 ++ [((id, ((.slice q l.length cq : Value), l), ((.slice q l.length cq : Value), l)) : GPair)]))) := Lib.hid (by rw [← e28]; exact hO)
            clear hSL hS hO
            have k28 := (kt 28).trans e28
            refine gives_K fun K hK => ?_
            go_simp
            refine gives_skip (hK _ _ ⟨by rw [set_size]; exact Nat.le_refl _, hbe.setCell (by exact Nat.le_refl _) _, ⟨HS.out, HO.out⟩, fun hbk => absurd (by decide) hbk, ?_⟩)
            intro jx hji hl hr hs h
            match jx, hji, hl, hr, hs, h with
            | 0, _, hl, _, _, _ => exact absurd hl (by decide)
            | 1, _, hl, _, _, _ => exact absurd hl (by decide)
            | 2, _, hl, _, _, _ => exact absurd hl (by decide)
            | 3, _, hl, _, _, _ => exact absurd hl (by decide)
            | 4, _, _, hr, hs, h =>
              have e20 := hs 20 (by decide)
              simp only [e20]
              exact h
            | 5, _, _, hr, hs, h =>
              have e21 := hs 21 (by decide)
              simp only [e21]
              exact h
            | 6, _, _, hr, hs, h =>
              have e22 := hs 22 (by decide)
              simp only [e22]
              exact h
            | 7, _, _, hr, hs, h =>
              have e23 := hs 23 (by decide)
              simp only [e23]
              exact h
            | 8, _, _, hr, hs, h =>
              have e24 := hs 24 (by decide)
              simp only [e24]
              exact h
            | 9, _, _, hr, hs, h =>
              have e25 := hs 25 (by decide)
              simp only [e25]
              exact h
            | 10, _, _, hr, hs, h =>
              have e26 := hs 26 (by decide)
              simp only [e26]
              exact h
            | 11, _, hl, _, _, _ => exact absurd hl (by decide)
            | 12, _, hl, _, _, _ => exact absurd hl (by decide)
            | 13, _, _, hr, hs, h =>
              have e29 := hs 29 (by decide)
              simp only [e29]
              exact h
            | 14, hji, _, _, _, _ => exact absurd rfl hji
            | jx + 15, _, hl, _, _, _ => exact absurd hl (by simp)
          | ix + 15, hix, _ => simp at hix
        · intro f2 u2 hbe hall
          have u14 := hall 14 (by decide) (by kernel_rfl)
          simp only at u14
          clear hall
          obtain ⟨hw5, ho4⟩ := u14
          have HW5 := Lib.hid hw5
          have HO4 := Lib.hid ho4
          obtain ⟨p4, c4, e4⟩ := own_ex ho4
          rw [List.length_append, List.length_singleton] at e4
          rw [e4] at HW5 HO4
          clear hw5 ho4 hbe
          simp only [putAll, List.foldl_cons, List.foldl_nil, Act.put, List.setIfInBounds_toArray, List.set_cons_succ, List.set_cons_zero]
          clear e4
          have HU5 := Lib.hid (sdu_own (b := b) (w := w) hlo2 HO4.out HNH.out)
          go_wp2_with fail
          go_roundw
          case rel => exact ⟨k + 1, _, p4, c4, by omega, by go_num, by rw [List.length_append, List.length_singleton, HPL2.out]; omega, HU5.out, by rw [List.length_append, List.length_singleton]; exact HW5.out⟩
          case measure => simp [intOf]; omega
      · have hkd : decide ((k : Int) < E.D.length) = false := decide_eq_false (by omega)
        obtain rfl : k = E.D.length := by omega
        obtain ⟨bl, b0, b1, b2, b3, bf⟩ := HW.out.box
        obtain ⟨yl, y0, y1, y2, y3, yf⟩ := HW.out.res
        go_wp2
        obtain ⟨⟨-, s0, s1, s2, s3, -⟩, htp, hst, hzz, hkk⟩ := HW.out.fin hlt rfl
        have hcf := HE.out _ hst
        exact bodyPost_ret (v := .agg #[.string E.nm, .slice E.pi E.I.length E.ci, .slice pd E.D.length E.cd, .slice p P2.length cu]) (by simp [results, Tryz.results11, go_sem, s0, s1, s2, s3]) rfl
          ⟨⟨E.nm, E.pi, E.ci, E.I, E.pd, E.cd, E.D, p, cu, P2.map unP⟩, by rw [HPD.out, List.length_map], dlt_updA hcf (HU.out.src _ hst fun k h1 _ => hkk k h1).2 (HU.out.hold _ hst) (by omega) HU.out.cap, htp, hst, by dsimp only; omega, by dsimp only; omega, by dsimp only; rw [List.length_map, HPL2.out]; omega⟩
end Go.Proofs.YtlnbpobipmejfaaGreatDoor
/-
  DeltaTells: Empty, Rows, Changed and Bags return what the chapter says, for all differences: the walk.
-/
namespace Go.Proofs.YtlnbpobipmejfaaGreatDoor
set_option maxRecDepth 100000
open Go.RowKit
variable {ls : List Nat}

set_option maxHeartbeats 2000000 in
theorem rdrows_any (nm : ByteArray) (pi pd pu : Option Addr) (n1 n2 n3 c1 c2 c3 : Nat) (ev : Int) (w : World) :
    Calls Tryz.prog 17 #[.agg #[.string nm, .slice pi n1 c1, .slice pd n2 c2, .slice pu n3 c3], .int .i64 ev] w fun e w' => e = .returned (.int .i64 (if ev = 1 then n1 else if ev = 2 then n3 else if ev = 3 then n2 else 0)) ∧ Below w.heap.size w w' := by
  have HX := Lib.hid (cell4_new w (.string nm) (.slice pi n1 c1) (.slice pd n2 c2) (.slice pu n3 c3) 25)
  have HB := Lib.hid (below_alloc w (.cells #[.string nm, .slice pi n1 c1, .slice pd n2 c2, .slice pu n3 c3] 25))
  go_enter Tryz.func17, Tryz.ntmps17
  go_upto_region 1 with (fail)
  generalize World.alloc _ _ = W0 at HX HB ⊢
  obtain ⟨xl, x0, x1, x2, x3, -⟩ := HX.out
  by_cases h1 : ev = 1
  · subst h1
    go_wp2
    exact bodyPost_ret (v := .int .i64 n1) (by simp [results, Tryz.results17, go_sem]) rfl ⟨rfl, HB.out⟩
  by_cases h2 : ev = 2
  · subst h2
    go_wp2
    exact bodyPost_ret (v := .int .i64 n3) (by simp [results, Tryz.results17, go_sem]) rfl ⟨rfl, HB.out⟩
  by_cases h3 : ev = 3
  · subst h3
    go_wp2
    exact bodyPost_ret (v := .int .i64 n2) (by simp [results, Tryz.results17, go_sem]) rfl ⟨rfl, HB.out⟩
  have e1 : (ev == 1) = false := by simpa using h1
  have e2 : (ev == 2) = false := by simpa using h2
  have e3 : (ev == 3) = false := by simpa using h3
  go_wp2
  exact bodyPost_ret (v := .int .i64 0) (by simp [results, Tryz.results17, go_sem]) rfl ⟨by first | rfl | rw [if_neg h1, if_neg h2, if_neg h3]; rfl, HB.out⟩
set_option maxHeartbeats 2000000 in
theorem rdempty_any (nm : ByteArray) (pi pd pu : Option Addr) (n1 n2 n3 c1 c2 c3 : Nat) (w : World) (h1 : n1 ≤ 1000) (h2 : n2 ≤ 1000) (h3 : n3 ≤ 1000) :
    Calls Tryz.prog 15 #[.agg #[.string nm, .slice pi n1 c1, .slice pd n2 c2, .slice pu n3 c3]] w fun e w' => e = .returned (.bool (n1 == 0 && n2 == 0 && n3 == 0)) ∧ Below w.heap.size w w' := by
  have HX := Lib.hid (cell4_new w (.string nm) (.slice pi n1 c1) (.slice pd n2 c2) (.slice pu n3 c3) 25)
  have HB := Lib.hid (below_alloc w (.cells #[.string nm, .slice pi n1 c1, .slice pd n2 c2, .slice pu n3 c3] 25))
  have HV : Hid ((((n1 : Int) + n2 + n3) == 0) = (n1 == 0 && n2 == 0 && n3 == 0)) := Lib.hid (by
    rw [Bool.eq_iff_iff]; simp; omega)
  have hw1 : IntKind.i64.wrap ((n1 : Int) + n2) = (n1 : Int) + n2 := by rw [IntKind.wrap_i64]; omega
  have hw2 : IntKind.i64.wrap ((n1 : Int) + n2 + n3) = (n1 : Int) + n2 + n3 := by rw [IntKind.wrap_i64]; omega
  go_enter Tryz.func15, Tryz.ntmps15
  go_upto_region 1 with (fail)
  generalize World.alloc _ _ = W0 at HX HB ⊢
  obtain ⟨xl, x0, x1, x2, x3, -⟩ := HX.out
  go_wp2
  go_ret
  exact ⟨ret_b HV.out, HB.out⟩
/-- A difference whose lists are short. -/
structure DltS (w : World) (E : Dlt) : Prop where
  at_ : DltAt w E
  ii : E.I.length ≤ 200
  dd : E.D.length ≤ 200
  uu : E.U.length ≤ 200
theorem DltS.low {u v : World} {E : Dlt} (h : DltS u E) (hb : Below u.heap.size u v) : DltS v E := ⟨h.at_.low hb, h.ii, h.dd, h.uu⟩
theorem DltS.sum {u : World} {E : Dlt} (h : DltS u E) : E.D.length + E.I.length + E.U.length ≤ 1000 := by have := h.ii; have := h.dd; have := h.uu; omega
theorem between_short8 {T S : Tab} {E : Dlt} (h : (btwO T S = true ∧ E.nm = T.nm ∧ E.I = insR T.R S.R ∧ E.D = delR T.R S.R ∧ E.U = updR T.R S.R) ∨ (btwO T S = false ∧ E.nm = ⟨#[]⟩ ∧ E.I = [] ∧ E.D = [] ∧ E.U = [])) (hT : T.R.length ≤ 90) (hS : S.R.length ≤ 90) :
    E.I.length ≤ 90 ∧ E.D.length ≤ 90 ∧ E.U.length ≤ 90 := by
  rcases h with ⟨-, -, e1, e2, e3⟩ | ⟨-, -, e1, e2, e3⟩
  · rw [e1, e2, e3]
    exact ⟨Nat.le_trans (List.length_filter_le _ _) hS, Nat.le_trans (List.length_filter_le _ _) hT, Nat.le_trans (List.length_filterMap_le _ _) hS⟩
  · rw [e1, e2, e3]
    exact ⟨Nat.zero_le _, Nat.zero_le _, Nat.zero_le _⟩
/-- The three differences in the list's block. -/
structure Three (u : World) (L : Nat) (E0 E1 E2 : Dlt) : Prop where
  lt : L < u.heap.size
  c0 : u.cell? ⟨L, 0, none⟩ = some (.string E0.nm) ∧ u.cell? ⟨L, 1, none⟩ = some (.slice E0.pi E0.I.length E0.ci) ∧ u.cell? ⟨L, 2, none⟩ = some (.slice E0.pd E0.D.length E0.cd) ∧ u.cell? ⟨L, 3, none⟩ = some (.slice E0.pu E0.U.length E0.cu)
  c1 : u.cell? ⟨L, 4, none⟩ = some (.string E1.nm) ∧ u.cell? ⟨L, 5, none⟩ = some (.slice E1.pi E1.I.length E1.ci) ∧ u.cell? ⟨L, 6, none⟩ = some (.slice E1.pd E1.D.length E1.cd) ∧ u.cell? ⟨L, 7, none⟩ = some (.slice E1.pu E1.U.length E1.cu)
  c2 : u.cell? ⟨L, 8, none⟩ = some (.string E2.nm) ∧ u.cell? ⟨L, 9, none⟩ = some (.slice E2.pi E2.I.length E2.ci) ∧ u.cell? ⟨L, 10, none⟩ = some (.slice E2.pd E2.D.length E2.cd) ∧ u.cell? ⟨L, 11, none⟩ = some (.slice E2.pu E2.U.length E2.cu)
  a0 : DltS u E0
  a1 : DltS u E1
  a2 : DltS u E2
theorem three_new (u : World) (E0 E1 E2 : Dlt) (h0 : DltS u E0) (h1 : DltS u E1) (h2 : DltS u E2) : Three (u.alloc (.cells #[.string E0.nm, .slice E0.pi E0.I.length E0.ci, .slice E0.pd E0.D.length E0.cd, .slice E0.pu E0.U.length E0.cu, .string E1.nm, .slice E1.pi E1.I.length E1.ci, .slice E1.pd E1.D.length E1.cd, .slice E1.pu E1.U.length E1.cu, .string E2.nm, .slice E2.pi E2.I.length E2.ci, .slice E2.pd E2.D.length E2.cd, .slice E2.pu E2.U.length E2.cu] 25)) u.heap.size E0 E1 E2 :=
  ⟨by simp, ⟨by go_simp, by go_simp, by go_simp, by go_simp⟩, ⟨by go_simp, by go_simp, by go_simp, by go_simp⟩, ⟨by go_simp, by go_simp, by go_simp, by go_simp⟩, h0.low (below_alloc _ _), h1.low (below_alloc _ _), h2.low (below_alloc _ _)⟩
theorem Three.low {u v : World} {L : Nat} {E0 E1 E2 : Dlt} (h : Three u L E0 E1 E2) (hb : Below u.heap.size u v) : Three v L E0 E1 E2 := by
  have hc : ∀ o, v.cell? ⟨L, o, none⟩ = u.cell? ⟨L, o, none⟩ := fun o => hb.cell (by exact h.lt)
  exact ⟨Nat.lt_of_lt_of_le h.lt hb.size, by simp only [hc]; exact h.c0, by simp only [hc]; exact h.c1, by simp only [hc]; exact h.c2, h.a0.low hb, h.a1.low hb, h.a2.low hb⟩
theorem Three.at {u : World} {L : Nat} {E0 E1 E2 : Dlt} (h : Three u L E0 E1 E2) {j : Nat} (hj : j < 3) : ∃ F : Dlt, DltS u F ∧ u.cell? ⟨L, j * 4, none⟩ = some (.string F.nm) ∧ u.cell? ⟨L, j * 4 + 1, none⟩ = some (.slice F.pi F.I.length F.ci) ∧ u.cell? ⟨L, j * 4 + 2, none⟩ = some (.slice F.pd F.D.length F.cd) ∧ u.cell? ⟨L, j * 4 + 3, none⟩ = some (.slice F.pu F.U.length F.cu) := by
  have : j = 0 ∨ j = 1 ∨ j = 2 := by omega
  rcases this with rfl | rfl | rfl
  · exact ⟨E0, h.a0, h.c0⟩
  · exact ⟨E1, h.a1, h.c1⟩
  · exact ⟨E2, h.a2, h.c2⟩
theorem cell2_stepD {b X : Nat} {u v : World} {x y : Value} (h : Cell2 u X x y) (hs : StepT b u v) (hn : X ≠ b) : Cell2 v X x y :=
  ⟨Nat.lt_of_lt_of_le h.lt hs.size, by rw [hs.cell (by exact h.lt) (by exact hn)]; exact h.c0, by rw [hs.cell (by exact h.lt) (by exact hn)]; exact h.c1, fun o => by rw [hs.frozen (by exact h.lt) (by exact hn)]; exact h.fz o⟩
theorem cell4_toT {b X : Nat} {u v : World} {a0 a1 a2 a3 : Value} (hn : X ≠ b) (hs : StepT b u v) (h : u.cell? ⟨X, 0, none⟩ = some a0 ∧ u.cell? ⟨X, 1, none⟩ = some a1 ∧ u.cell? ⟨X, 2, none⟩ = some a2 ∧ u.cell? ⟨X, 3, none⟩ = some a3 ∧ X < u.heap.size) :
    v.cell? ⟨X, 0, none⟩ = some a0 ∧ v.cell? ⟨X, 1, none⟩ = some a1 ∧ v.cell? ⟨X, 2, none⟩ = some a2 ∧ v.cell? ⟨X, 3, none⟩ = some a3 ∧ X < v.heap.size := by
  obtain ⟨h0, h1, h2, h3, hl⟩ := h
  exact ⟨by rw [hs.cell (by exact hl) (by exact hn)]; exact h0, by rw [hs.cell (by exact hl) (by exact hn)]; exact h1, by rw [hs.cell (by exact hl) (by exact hn)]; exact h2, by rw [hs.cell (by exact hl) (by exact hn)]; exact h3, Nat.lt_of_lt_of_le hl hs.size⟩
/-- What the law holds before the difference is there. -/
structure DtV (ls : List Nat) (b : Nat) (w : World) (X P Y : Nat) (A : Tab) (sn : ByteArray) (spc : Option Addr) (n scc : Nat) (sf : Nat → Col) (RE : Dlt) (u : World) : Prop where
  wd : Wd ls b w u
  re : DltS w RE
  cs : ColsAt w spc n sf
  ta : Td b u A
  la : A.R.length ≤ 10
  xt : Cell4 u X (.string RE.nm) (.slice RE.pi RE.I.length RE.ci) (.slice RE.pd RE.D.length RE.cd) (.slice RE.pu RE.U.length RE.cu)
  xn : X ≠ b
  pt : Cell4 u P (.string A.nm) (.slice A.pc A.n A.cc) (.int .i64 A.nx) (.slice A.pr A.R.length A.cr)
  pn : P ≠ b
  yt : Cell2 u Y (.string sn) (.slice spc n scc)
  yn : Y ≠ b
/-- .. and when it is. -/
structure DtE (ls : List Nat) (b : Nat) (w : World) (X P Y R : Nat) (A : Tab) (sn : ByteArray) (spc : Option Addr) (n scc : Nat) (sf : Nat → Col) (RE E : Dlt) (u : World) : Prop where
  v : DtV ls b w X P Y A sn spc n scc sf RE u
  rt : Cell4 u R (.string E.nm) (.slice E.pi E.I.length E.ci) (.slice E.pd E.D.length E.cd) (.slice E.pu E.U.length E.cu)
  rn : R ≠ b
  de : ∀ x, StepT b u x → DltAt x E
  sh : E.I.length ≤ 90 ∧ E.D.length ≤ 90 ∧ E.U.length ≤ 90
section
variable {b X P Y n scc : Nat} {w u v : World} {A B : Tab} {sn : ByteArray} {spc : Option Addr} {sf : Nat → Col} {RE E : Dlt}
theorem DtV.step (h : DtV ls b w X P Y A sn spc n scc sf RE u) (hs : StepT b u v) (hw : Wd ls b w v) : DtV ls b w X P Y A sn spc n scc sf RE v :=
  ⟨hw, h.re, h.cs, h.ta.step hs, h.la, h.xt.step hs h.xn, h.xn, h.pt.step hs h.pn, h.pn, cell2_stepD h.yt hs h.yn, h.yn⟩
theorem DtV.low (h : DtV ls b w X P Y A sn spc n scc sf RE u) (hb : Below u.heap.size u v) : DtV ls b w X P Y A sn spc n scc sf RE v := h.step (step_low hb) (h.wd.low hb)
theorem DtV.later (h : DtV ls b w X P Y A sn spc n scc sf RE u) (hlw : 0 ∈ ls) :
    Calls Tryz.prog 10 #[.pointer (some ⟨b, 0, none⟩), .agg #[.string A.nm, .slice A.pc A.n A.cc, .int .i64 A.nx, .slice A.pr A.R.length A.cr]] u fun e v => ∃ B : Tab, e = .returned (.agg #[.string B.nm, .slice B.pc B.n B.cc, .int .i64 B.nx, .slice B.pr B.R.length B.cr]) ∧ Td b v B ∧ B.R.length ≤ 20 ∧ DtV ls b w X P Y A sn spc n scc sf RE v ∧ StepT b u v :=
  (later_any b w u A h.wd hlw h.ta (by have := h.la; omega)).mono fun _ _ ⟨S, he, hnx, hw, hs⟩ => ⟨S, he, hnx.tab, by have := hnx.len; have := h.la; omega, h.step hs hw, hs⟩
theorem DtV.btw (h : DtV ls b w X P Y A sn spc n scc sf RE u) (hB : Td b u B) (hl : B.R.length ≤ 20) :
    Calls Tryz.prog 9 #[.agg #[.string A.nm, .slice A.pc A.n A.cc, .int .i64 A.nx, .slice A.pr A.R.length A.cr], .agg #[.string B.nm, .slice B.pc B.n B.cc, .int .i64 B.nx, .slice B.pr B.R.length B.cr]] u fun e v => ∃ (E : Dlt) (ob : Bool), e = .returned (.tuple #[.agg #[.string E.nm, .slice E.pi E.I.length E.ci, .slice E.pd E.D.length E.cd, .slice E.pu E.U.length E.cu], .bool ob]) ∧ DltFree u.heap.size v E ∧ (E.I.length ≤ 90 ∧ E.D.length ≤ 90 ∧ E.U.length ≤ 90) ∧ DtV ls b w X P Y A sn spc n scc sf RE v ∧ Below u.heap.size u v :=
  (rbetween_any A B u h.ta.at hB.at).mono fun _ _ ⟨E, he, hf, hb, hc⟩ => ⟨E, _, he, hf, between_short8 hc (by have := h.la; omega) (by omega), h.low hb, hb⟩
theorem dtE_new {lo : Nat} (h : DtV ls b w X P Y A sn spc n scc sf RE v) (hb : b < lo) (hlo : lo ≤ v.heap.size) (hf : DltFree lo v E) (hs : E.I.length ≤ 90 ∧ E.D.length ≤ 90 ∧ E.U.length ≤ 90) :
    DtE ls b w X P Y v.heap.size A sn spc n scc sf RE E (v.alloc (.cells #[.string E.nm, .slice E.pi E.I.length E.ci, .slice E.pd E.D.length E.cd, .slice E.pu E.U.length E.cu] 25)) :=
  ⟨h.low (below_alloc _ _), (cell4_new v (.string E.nm) (.slice E.pi E.I.length E.ci) (.slice E.pd E.D.length E.cd) (.slice E.pu E.U.length E.cu) 25), by omega, fun x hx => (hf.low (below_alloc v (.cells #[.string E.nm, .slice E.pi E.I.length E.ci, .slice E.pd E.D.length E.cd, .slice E.pu E.U.length E.cu] 25))) x hx.size (fun k h1 h2 => hx.block k h2 (by omega)), hs⟩
theorem dtE_set {lo R : Nat} {a0 a1 a2 a3 : Value} (h : DtV ls b w X P Y A sn spc n scc sf RE u) (hs : StepT b u v) (ht : TapeAt v b) (hR : u.heap.size ≤ R) (hRl : R < lo) (hb : b < u.heap.size) (hf : DltFree lo v E) (hZ : Cell4 v R a0 a1 a2 a3) (hE : E.I.length ≤ 90 ∧ E.D.length ≤ 90 ∧ E.U.length ≤ 90) :
    DtE ls b w X P Y R A sn spc n scc sf RE E ((((v.setCell ⟨R, 0, none⟩ (.string E.nm)).setCell ⟨R, 1, none⟩ (.slice E.pi E.I.length E.ci)).setCell ⟨R, 2, none⟩ (.slice E.pd E.D.length E.cd)).setCell ⟨R, 3, none⟩ (.slice E.pu E.U.length E.cu)) := by
  have hs' := (((hs.set2 hR 0 none (.string E.nm)).set2 hR 1 none (.slice E.pi E.I.length E.ci)).set2 hR 2 none (.slice E.pd E.D.length E.cd)).set2 hR 3 none (.slice E.pu E.U.length E.cu)
  have hbR : b < R := by omega
  have ht' := (((ht.setCell (p := ⟨R, 0, none⟩) hbR (.string E.nm)).setCell (p := ⟨R, 1, none⟩) hbR (.slice E.pi E.I.length E.ci)).setCell (p := ⟨R, 2, none⟩) hbR (.slice E.pd E.D.length E.cd)).setCell (p := ⟨R, 3, none⟩) hbR (.slice E.pu E.U.length E.cu)
  refine ⟨h.step hs' (h.wd.step hs' ht'), cell4_put v hZ (.string E.nm) (.slice E.pi E.I.length E.ci) (.slice E.pd E.D.length E.cd) (.slice E.pu E.U.length E.cu), by omega, fun x hx => hf x (by have := hx.size; rw [set_size, set_size, set_size, set_size] at this; exact this) (fun k h1 h2 => ?_), hE⟩
  rw [hx.block k (by rw [set_size, set_size, set_size, set_size]; exact h2) (by omega), Below.heap_setCell _ _ _ _ (show k ≠ R by omega), Below.heap_setCell _ _ _ _ (show k ≠ R by omega), Below.heap_setCell _ _ _ _ (show k ≠ R by omega), Below.heap_setCell _ _ _ _ (show k ≠ R by omega)]
end
/-- What the law holds when it calls spoiled. -/
structure DtW (ls : List Nat) (b : Nat) (w : World) (P Y : Nat) (A : Tab) (sn : ByteArray) (spc : Option Addr) (n scc : Nat) (sf : Nat → Col) (RE E : Dlt) (u : World) : Prop where
  wd : Wd ls b w u
  re : DltS w RE
  cs : ColsAt w spc n sf
  ta : Td b u A
  de : ∀ v, StepT b u v → DltAt v E
  li : E.I.length ≤ 90
  ld : E.D.length ≤ 90
  lu : E.U.length ≤ 90
  pt : u.cell? ⟨P, 0, none⟩ = some (.string A.nm) ∧ u.cell? ⟨P, 1, none⟩ = some (.slice A.pc A.n A.cc) ∧ P < u.heap.size
  pn : P ≠ b
  yt : u.cell? ⟨Y, 0, none⟩ = some (.string sn) ∧ u.cell? ⟨Y, 1, none⟩ = some (.slice spc n scc) ∧ Y < u.heap.size
  yn : Y ≠ b
section
variable {b P Y n scc : Nat} {w u v : World} {A : Tab} {sn : ByteArray} {spc : Option Addr} {sf : Nat → Col} {RE E : Dlt}
theorem DtW.step (h : DtW ls b w P Y A sn spc n scc sf RE E u) (hs : StepT b u v) (hw : Wd ls b w v) : DtW ls b w P Y A sn spc n scc sf RE E v :=
  ⟨hw, h.re, h.cs, h.ta.step hs, fun x hx => h.de x (hs.trans hx), h.li, h.ld, h.lu, ⟨by rw [hs.cell (by exact h.pt.2.2) (by exact h.pn)]; exact h.pt.1, by rw [hs.cell (by exact h.pt.2.2) (by exact h.pn)]; exact h.pt.2.1, Nat.lt_of_lt_of_le h.pt.2.2 hs.size⟩, h.pn,
    ⟨by rw [hs.cell (by exact h.yt.2.2) (by exact h.yn)]; exact h.yt.1, by rw [hs.cell (by exact h.yt.2.2) (by exact h.yn)]; exact h.yt.2.1, Nat.lt_of_lt_of_le h.yt.2.2 hs.size⟩, h.yn⟩
theorem DtW.low (h : DtW ls b w P Y A sn spc n scc sf RE E u) (hb : Below u.heap.size u v) : DtW ls b w P Y A sn spc n scc sf RE E v := h.step (step_low hb) (h.wd.low hb)
theorem DtW.spE (h : DtW ls b w P Y A sn spc n scc sf RE E u) :
    Calls Tryz.prog 11 #[.pointer (some ⟨b, 0, none⟩), .agg #[.string E.nm, .slice E.pi E.I.length E.ci, .slice E.pd E.D.length E.cd, .slice E.pu E.U.length E.cu]] u fun e v => ∃ F : Dlt, e = .returned (.agg #[.string F.nm, .slice F.pi F.I.length F.ci, .slice F.pd F.D.length F.cd, .slice F.pu F.U.length F.cu]) ∧ DltS v F ∧ Wd ls b w v ∧ StepT b u v :=
  (spoiled8_any b u h.wd.tape E h.de (Nat.le_trans h.li (by decide)) (Nat.le_trans h.ld (by decide)) (Nat.le_trans h.lu (by decide))).mono fun _ _ ⟨F, he, hF, ht, hs, h1, h2, h3⟩ =>
    ⟨F, he, ⟨hF, by have := h.li; omega, by have := h.ld; omega, by have := h.lu; have := h.ld; omega⟩, h.wd.step hs ht, hs⟩
theorem keepDf {X R : Nat} {a0 a1 a2 a3 c0 c1 c2 c3 : Value} (hX : X ≠ b) (hR : R ≠ b) (hs : StepT b u v) (hw : Wd ls b w v)
    (h : (u.cell? ⟨X, 0, none⟩ = some a0 ∧ u.cell? ⟨X, 1, none⟩ = some a1 ∧ u.cell? ⟨X, 2, none⟩ = some a2 ∧ u.cell? ⟨X, 3, none⟩ = some a3 ∧ X < u.heap.size) ∧ (u.cell? ⟨R, 0, none⟩ = some c0 ∧ u.cell? ⟨R, 1, none⟩ = some c1 ∧ u.cell? ⟨R, 2, none⟩ = some c2 ∧ u.cell? ⟨R, 3, none⟩ = some c3 ∧ R < u.heap.size) ∧ DtW ls b w P Y A sn spc n scc sf RE E u) :
    (v.cell? ⟨X, 0, none⟩ = some a0 ∧ v.cell? ⟨X, 1, none⟩ = some a1 ∧ v.cell? ⟨X, 2, none⟩ = some a2 ∧ v.cell? ⟨X, 3, none⟩ = some a3 ∧ X < v.heap.size) ∧ (v.cell? ⟨R, 0, none⟩ = some c0 ∧ v.cell? ⟨R, 1, none⟩ = some c1 ∧ v.cell? ⟨R, 2, none⟩ = some c2 ∧ v.cell? ⟨R, 3, none⟩ = some c3 ∧ R < v.heap.size) ∧ DtW ls b w P Y A sn spc n scc sf RE E v :=
  ⟨cell4_toT hX hs h.1, cell4_toT hR hs h.2.1, h.2.2.step hs hw⟩
theorem keepDb {X R : Nat} {a0 a1 a2 a3 c0 c1 c2 c3 : Value} (hX : X ≠ b) (hR : R ≠ b) (hb : Below u.heap.size u v)
    (h : (u.cell? ⟨X, 0, none⟩ = some a0 ∧ u.cell? ⟨X, 1, none⟩ = some a1 ∧ u.cell? ⟨X, 2, none⟩ = some a2 ∧ u.cell? ⟨X, 3, none⟩ = some a3 ∧ X < u.heap.size) ∧ (u.cell? ⟨R, 0, none⟩ = some c0 ∧ u.cell? ⟨R, 1, none⟩ = some c1 ∧ u.cell? ⟨R, 2, none⟩ = some c2 ∧ u.cell? ⟨R, 3, none⟩ = some c3 ∧ R < u.heap.size) ∧ DtW ls b w P Y A sn spc n scc sf RE E u) :
    (v.cell? ⟨X, 0, none⟩ = some a0 ∧ v.cell? ⟨X, 1, none⟩ = some a1 ∧ v.cell? ⟨X, 2, none⟩ = some a2 ∧ v.cell? ⟨X, 3, none⟩ = some a3 ∧ X < v.heap.size) ∧ (v.cell? ⟨R, 0, none⟩ = some c0 ∧ v.cell? ⟨R, 1, none⟩ = some c1 ∧ v.cell? ⟨R, 2, none⟩ = some c2 ∧ v.cell? ⟨R, 3, none⟩ = some c3 ∧ R < v.heap.size) ∧ DtW ls b w P Y A sn spc n scc sf RE E v := keepDf hX hR (step_low hb) (h.2.2.wd.low hb) h
theorem DtE.toW {X R : Nat} (h : DtE ls b w X P Y R A sn spc n scc sf RE E u) : DtW ls b w P Y A sn spc n scc sf RE E u :=
  ⟨h.v.wd, h.v.re, h.v.cs, h.v.ta, h.de, h.sh.1, h.sh.2.1, h.sh.2.2, ⟨h.v.pt.c0, h.v.pt.c1, h.v.pt.lt⟩, h.v.pn, ⟨h.v.yt.c0, h.v.yt.c1, h.v.yt.lt⟩, h.v.yn⟩
theorem DtW.aE (h : DtW ls b w P Y A sn spc n scc sf RE E u) : DltS u E := ⟨h.de u (StepT.refl b u), Nat.le_trans h.li (by decide), Nat.le_trans h.ld (by decide), Nat.le_trans h.lu (by decide)⟩
end
/-- What the loop holds. -/
structure DtL (w : World) (P Y : Nat) (A : Tab) (sn : ByteArray) (spc : Option Addr) (n scc : Nat) (sf : Nat → Col) (u : World) : Prop where
  pt : u.cell? ⟨P, 0, none⟩ = some (.string A.nm) ∧ u.cell? ⟨P, 1, none⟩ = some (.slice A.pc A.n A.cc) ∧ P < u.heap.size
  yt : u.cell? ⟨Y, 0, none⟩ = some (.string sn) ∧ u.cell? ⟨Y, 1, none⟩ = some (.slice spc n scc) ∧ Y < u.heap.size
  cs : ColsAt u spc n sf
  ca : ColsAt u A.pc A.n A.f
  an : A.n * 32 ≤ 140737488355328
  bel : Below w.heap.size w u
theorem DtL.low {w u v : World} {P Y n scc : Nat} {A : Tab} {sn : ByteArray} {spc : Option Addr} {sf : Nat → Col} (h : DtL w P Y A sn spc n scc sf u) (hb : Below u.heap.size u v) : DtL w P Y A sn spc n scc sf v :=
  ⟨⟨by rw [hb.cell (by exact h.pt.2.2)]; exact h.pt.1, by rw [hb.cell (by exact h.pt.2.2)]; exact h.pt.2.1, Nat.lt_of_lt_of_le h.pt.2.2 hb.size⟩, ⟨by rw [hb.cell (by exact h.yt.2.2)]; exact h.yt.1, by rw [hb.cell (by exact h.yt.2.2)]; exact h.yt.2.1, Nat.lt_of_lt_of_le h.yt.2.2 hb.size⟩, h.cs.low hb, h.ca.low hb, h.an, below_next h.bel hb⟩
theorem DtW.l {b P Y n scc : Nat} {w u : World} {A : Tab} {sn : ByteArray} {spc : Option Addr} {sf : Nat → Col} {RE E : Dlt} (h : DtW ls b w P Y A sn spc n scc sf RE E u) : DtL w P Y A sn spc n scc sf u :=
  ⟨h.pt, h.yt, h.cs.low h.wd.bel, h.ta.at.cols, by have := (schemaOK_range (validT_parts h.ta.val).1).2; omega, h.wd.bel⟩
theorem chg_s {w u : World} {P Y n scc : Nat} {A : Tab} {sn : ByteArray} {spc : Option Addr} {sf : Nat → Col} {G : Dlt} {K : List ByteArray} (hK : changedL G.U sf n = K) (hn : n * 32 ≤ 140737488355328) (hG : DltS u G) (hL : DtL w P Y A sn spc n scc sf u) :
    Calls Tryz.prog 21 #[.agg #[.string G.nm, .slice G.pi G.I.length G.ci, .slice G.pd G.D.length G.cd, .slice G.pu G.U.length G.cu], .agg #[.string sn, .slice spc n scc]] u (ChangedPost K u) := by
  subst hK
  exact changed8_any G sn spc n scc sf u hG.at_.upd hG.at_.ul hL.cs hn
theorem chg_a {w u : World} {P Y n scc : Nat} {A : Tab} {sn : ByteArray} {spc : Option Addr} {sf : Nat → Col} {G : Dlt} {K : List ByteArray} (hK : changedL G.U A.f A.n = K) (hG : DltS u G) (hL : DtL w P Y A sn spc n scc sf u) :
    Calls Tryz.prog 21 #[.agg #[.string G.nm, .slice G.pi G.I.length G.ci, .slice G.pd G.D.length G.cd, .slice G.pu G.U.length G.cu], .agg #[.string A.nm, .slice A.pc A.n A.cc]] u (ChangedPost K u) := by
  subst hK
  exact changed8_any G A.nm A.pc A.n A.cc A.f u hG.at_.upd hG.at_.ul hL.ca hL.an
theorem rchg_s {w u : World} {P Y n scc : Nat} {A : Tab} {sn : ByteArray} {spc : Option Addr} {sf : Nat → Col} {G : Dlt} {K : List ByteArray} (hK : changedL G.U sf n = K) (hn : n * 32 ≤ 140737488355328) (hG : DltS u G) (hL : DtL w P Y A sn spc n scc sf u) :
    Calls Tryz.prog 22 #[.agg #[.string G.nm, .slice G.pi G.I.length G.ci, .slice G.pd G.D.length G.cd, .slice G.pu G.U.length G.cu], .agg #[.string sn, .slice spc n scc]] u (ChangedPost K u) := by
  subst hK
  exact rchanged8_any G sn spc n scc sf u hG.at_.upd hG.at_.ul hL.cs hn
theorem rchg_a {w u : World} {P Y n scc : Nat} {A : Tab} {sn : ByteArray} {spc : Option Addr} {sf : Nat → Col} {G : Dlt} {K : List ByteArray} (hK : changedL G.U A.f A.n = K) (hG : DltS u G) (hL : DtL w P Y A sn spc n scc sf u) :
    Calls Tryz.prog 22 #[.agg #[.string G.nm, .slice G.pi G.I.length G.ci, .slice G.pd G.D.length G.cd, .slice G.pu G.U.length G.cu], .agg #[.string A.nm, .slice A.pc A.n A.cc]] u (ChangedPost K u) := by
  subst hK
  exact rchanged8_any G A.nm A.pc A.n A.cc A.f u hG.at_.upd hG.at_.ul hL.ca hL.an
/-- How many rows differ by an event. -/
@[irreducible] def rowsN (ev : Int) (n1 n2 n3 : Nat) : Int := if ev = 1 then n1 else if ev = 2 then n3 else if ev = 3 then n2 else 0
theorem drowsN_any (nm : ByteArray) (pi pd pu : Option Addr) (n1 n2 n3 c1 c2 c3 : Nat) (ev : Int) (w : World) :
    Calls Tryz.prog 16 #[.agg #[.string nm, .slice pi n1 c1, .slice pd n2 c2, .slice pu n3 c3], .int .i64 ev] w fun e w' => e = .returned (.int .i64 (rowsN ev n1 n2 n3)) ∧ Below w.heap.size w w' := by unfold rowsN; exact drows_any nm pi pd pu n1 n2 n3 c1 c2 c3 ev w
theorem rdrowsN_any (nm : ByteArray) (pi pd pu : Option Addr) (n1 n2 n3 c1 c2 c3 : Nat) (ev : Int) (w : World) :
    Calls Tryz.prog 17 #[.agg #[.string nm, .slice pi n1 c1, .slice pd n2 c2, .slice pu n3 c3], .int .i64 ev] w fun e w' => e = .returned (.int .i64 (rowsN ev n1 n2 n3)) ∧ Below w.heap.size w w' := by unfold rowsN; exact rdrows_any nm pi pd pu n1 n2 n3 c1 c2 c3 ev w
theorem mod8_any {ev q : Int} (hq : modI ev 3 = q) (w : World) : Calls Tryz.prog 18 #[.int .i64 ev, .int .i64 3] w fun e w' => e = .returned (.int .i64 q) ∧ Below w.heap.size w w' := by
  subst hq
  exact (mod_any ev 3 w (by decide) (by decide)).mono fun _ _ ⟨h1, h2⟩ => ⟨h1, by rw [h2]; exact Below.refl _ _⟩
theorem sameself_any (A : List (List Val)) (p q : Option Addr) (ca cb : Nat) (w : World) (hA : A.length ≤ 9223372036854775807) (hp : RowsAt w p A) (hq : RowsAt w q A) :
    Calls Tryz.prog 19 #[.slice p A.length ca, .slice q A.length cb] w fun e w' => e = .returned (.bool true) ∧ Below w.heap.size w w' := by
  have := sametuples_any A A p q ca cb w hA hp hq
  rw [decide_eq_true rfl] at this
  exact this
theorem keepR {D L : Nat} {w u v : World} {P Y n scc : Nat} {A : Tab} {sn : ByteArray} {spc : Option Addr} {sf : Nat → Col} {F E0 E1 E2 : Dlt} {p1 p2 q1 q2 : Option Addr} {L1 L2 : List (List Val)} (hb : Below u.heap.size u v)
    (h : (u.cell? ⟨D, 0, none⟩ = some (.string F.nm) ∧ u.cell? ⟨D, 1, none⟩ = some (.slice F.pi F.I.length F.ci) ∧ u.cell? ⟨D, 2, none⟩ = some (.slice F.pd F.D.length F.cd) ∧ u.cell? ⟨D, 3, none⟩ = some (.slice F.pu F.U.length F.cu) ∧ D < u.heap.size) ∧ RowsAt u p1 L1 ∧ RowsAt u p2 L2 ∧ RowsAt u q1 L1 ∧ RowsAt u q2 L2 ∧ DltS u F ∧ Three u L E0 E1 E2 ∧ DtL w P Y A sn spc n scc sf u) :
    (v.cell? ⟨D, 0, none⟩ = some (.string F.nm) ∧ v.cell? ⟨D, 1, none⟩ = some (.slice F.pi F.I.length F.ci) ∧ v.cell? ⟨D, 2, none⟩ = some (.slice F.pd F.D.length F.cd) ∧ v.cell? ⟨D, 3, none⟩ = some (.slice F.pu F.U.length F.cu) ∧ D < v.heap.size) ∧ RowsAt v p1 L1 ∧ RowsAt v p2 L2 ∧ RowsAt v q1 L1 ∧ RowsAt v q2 L2 ∧ DltS v F ∧ Three v L E0 E1 E2 ∧ DtL w P Y A sn spc n scc sf v := by
  obtain ⟨⟨h0, h1, h2, h3, hl⟩, g1, g2, g3, g4, g5, g6, g7⟩ := h
  exact ⟨⟨by rw [hb.cell (by exact hl)]; exact h0, by rw [hb.cell (by exact hl)]; exact h1, by rw [hb.cell (by exact hl)]; exact h2, by rw [hb.cell (by exact hl)]; exact h3, Nat.lt_of_lt_of_le hl hb.size⟩, g1.low hb, g2.low hb, g3.low hb, g4.low hb, g5.low hb, g6.low hb, g7.low hb⟩
theorem keepC {D L : Nat} {w u v : World} {P Y n scc : Nat} {A : Tab} {sn : ByteArray} {spc : Option Addr} {sf : Nat → Col} {F E0 E1 E2 : Dlt} (hb : Below u.heap.size u v)
    (h : (u.cell? ⟨D, 0, none⟩ = some (.string F.nm) ∧ u.cell? ⟨D, 1, none⟩ = some (.slice F.pi F.I.length F.ci) ∧ u.cell? ⟨D, 2, none⟩ = some (.slice F.pd F.D.length F.cd) ∧ u.cell? ⟨D, 3, none⟩ = some (.slice F.pu F.U.length F.cu) ∧ D < u.heap.size) ∧ (u.cell? ⟨P, 0, none⟩ = some (.string A.nm) ∧ u.cell? ⟨P, 1, none⟩ = some (.slice A.pc A.n A.cc) ∧ P < u.heap.size) ∧ (u.cell? ⟨Y, 0, none⟩ = some (.string sn) ∧ u.cell? ⟨Y, 1, none⟩ = some (.slice spc n scc) ∧ Y < u.heap.size) ∧ DltS u F ∧ Three u L E0 E1 E2 ∧ DtL w P Y A sn spc n scc sf u) :
    (v.cell? ⟨D, 0, none⟩ = some (.string F.nm) ∧ v.cell? ⟨D, 1, none⟩ = some (.slice F.pi F.I.length F.ci) ∧ v.cell? ⟨D, 2, none⟩ = some (.slice F.pd F.D.length F.cd) ∧ v.cell? ⟨D, 3, none⟩ = some (.slice F.pu F.U.length F.cu) ∧ D < v.heap.size) ∧ (v.cell? ⟨P, 0, none⟩ = some (.string A.nm) ∧ v.cell? ⟨P, 1, none⟩ = some (.slice A.pc A.n A.cc) ∧ P < v.heap.size) ∧ (v.cell? ⟨Y, 0, none⟩ = some (.string sn) ∧ v.cell? ⟨Y, 1, none⟩ = some (.slice spc n scc) ∧ Y < v.heap.size) ∧ DltS v F ∧ Three v L E0 E1 E2 ∧ DtL w P Y A sn spc n scc sf v := by
  obtain ⟨⟨h0, h1, h2, h3, hl⟩, -, -, g5, g6, g7⟩ := h
  have k := g7.low hb
  exact ⟨⟨by rw [hb.cell (by exact hl)]; exact h0, by rw [hb.cell (by exact hl)]; exact h1, by rw [hb.cell (by exact hl)]; exact h2, by rw [hb.cell (by exact hl)]; exact h3, Nat.lt_of_lt_of_le hl hb.size⟩, k.pt, k.yt, g5.low hb, g6.low hb, k⟩
set_option maxHeartbeats 16000000 in
theorem dtells_walk (w : World) (RE : Dlt) (sn : ByteArray) (spc : Option Addr) (n scc : Nat) (sf : Nat → Col) (p : Option Addr) (len cap : Nat) (event : Int) (hl : len ≤ cap) (hm : len ≤ 9223372036854775807) (h : IntsAt w p len) (hEn : Env ls w) (hlw : 0 ∈ ls)
    (hQi : RE.I.length ≤ 17592186044415) (hQd : RE.D.length ≤ 17592186044415) (hQu : RE.U.length ≤ 17592186044415) (hQ : RE.I.length ≤ 1000 → DltAt w RE) (hn : n * 32 ≤ 140737488355328) (hC : ColsAt w spc n sf) :
    Calls Tryz.prog 3 #[.agg #[.string RE.nm, .slice RE.pi RE.I.length RE.ci, .slice RE.pd RE.D.length RE.cd, .slice RE.pu RE.U.length RE.cu], .agg #[.string sn, .slice spc n scc], .slice p len cap, .int .i64 event] w fun e w' => e = .returned (.bool true) ∧ Below w.heap.size w w' := by
  have HX := Lib.hid ((cell4_new w (.string RE.nm) (.slice RE.pi RE.I.length RE.ci) (.slice RE.pd RE.D.length RE.cd) (.slice RE.pu RE.U.length RE.cu) 25).low (below_alloc (w.alloc (.cells #[.string RE.nm, .slice RE.pi RE.I.length RE.ci, .slice RE.pd RE.D.length RE.cd, .slice RE.pu RE.U.length RE.cu] 25)) (.cells #[.string sn, .slice spc n scc] 28)))
  have hy := cell2_new (w.alloc (.cells #[.string RE.nm, .slice RE.pi RE.I.length RE.ci, .slice RE.pd RE.D.length RE.cd, .slice RE.pu RE.U.length RE.cu] 25)) (.string sn) (.slice spc n scc) 28
  rw [size_alloc] at hy
  have HY := Lib.hid hy
  have HB := Lib.hid (below_new (below_new (Below.refl w.heap.size w) (.cells #[.string RE.nm, .slice RE.pi RE.I.length RE.ci, .slice RE.pd RE.D.length RE.cd, .slice RE.pu RE.U.length RE.cu] 25)) (.cells #[.string sn, .slice spc n scc] 28))
  have HI := Lib.hid (h.low HB.out)
  have HE := Lib.hid (hEn.low HB.out)
  have HRQ := Lib.hid hQ
  have HCS := Lib.hid hC
  clear h hEn hQ hy hC
  go_enter Tryz.func3, Tryz.ntmps3
  go_upto_region 1 with (fail)
  generalize World.alloc _ _ = W0 at HX HY HB HI HE ⊢
  obtain ⟨xl, x0, x1, x2, x3, -⟩ := HX.out
  have hw1 : IntKind.i64.wrap ((RE.I.length : Int) + RE.D.length) = (RE.I.length : Int) + RE.D.length := by rw [IntKind.wrap_i64]; omega
  have hw2 : IntKind.i64.wrap ((RE.I.length : Int) + RE.D.length + RE.U.length) = (RE.I.length : Int) + RE.D.length + RE.U.length := by rw [IntKind.wrap_i64]; omega
  by_cases h40 : 40 < RE.I.length + RE.D.length + RE.U.length
  · have hd : decide ((40 : Int) < (RE.I.length : Int) + RE.D.length + RE.U.length) = true := decide_eq_true (by omega)
    have hdn : decide (40 < RE.I.length + RE.D.length + RE.U.length) = true := decide_eq_true h40
    clear h40
    go_wp2_with fail
    refine (known8_any _).mono ?_
    rintro e w1 ⟨rfl, hb1⟩
    have HB1 := Lib.hid (below_next HB.out hb1)
    go_wp2
    exact bodyPost_ret (v := .bool true) (by simp [results, Tryz.results3, go_sem]) rfl ⟨rfl, HB1.out⟩
  have hd : decide ((40 : Int) < (RE.I.length : Int) + RE.D.length + RE.U.length) = false := decide_eq_false (by omega)
  have hdn : decide (40 < RE.I.length + RE.D.length + RE.U.length) = false := decide_eq_false h40
  have HQ0 : Hid (DltS w RE) := Lib.hid ⟨HRQ.out (by omega), by omega, by omega, by omega⟩
  clear h40 HRQ
  go_wp2_with fail
  refine (wd_new (w := w) HE.out HB.out p len cap hl hm HI.out).mono ?_
  rintro e w1 ⟨b, rfl, hb0, hw1', hb1⟩
  have HW1 := Lib.hid hw1'
  have HX1 := Lib.hid (HX.out.low hb1)
  have HY1 := Lib.hid (HY.out.low hb1)
  have hXb : w.heap.size ≠ b := by have h1 := HY.out.lt; omega
  have hYb : w.heap.size + 1 ≠ b := by have h1 := HY.out.lt; omega
  clear HI HE HX HY HB hb1 hw1' xl x0 x1 x2 x3 hd hdn hw1 hw2
  go_wp2_with fail
  refine HW1.out.table.mono ?_
  rintro e w2 ⟨k, rfl, hk, hw2, hs2⟩
  have HW2 := Lib.hid hw2
  have HX2 := Lib.hid (HX1.out.step hs2 hXb)
  have HY2 := Lib.hid (cell2_stepD HY1.out hs2 hYb)
  clear HW1 HX1 HY1 hw2 hs2
  go_wp2_with fail
  refine (HW2.out.schema k).mono ?_
  rintro e w3 ⟨Z, rfl, hZ, hw3, hb3⟩
  have HW3 := Lib.hid hw3
  have HZ3 := Lib.hid hZ
  have HX3 := Lib.hid (HX2.out.low hb3)
  have HY3 := Lib.hid (HY2.out.low hb3)
  clear HW2 HX2 HY2 hw3 hb3 hZ
  go_wp2_with fail
  refine (HW3.out.tableOfD hlw HZ3.out 6 (by decide)).mono ?_
  rintro e w4 ⟨A, rfl, hTb, -, -, -, hlen, hw4, hs4⟩
  have hbn := below_alloc w4 (.cells #[.string A.nm, .slice A.pc A.n A.cc, .int .i64 A.nx, .slice A.pr A.R.length A.cr] 34)
  have HW5 := Lib.hid (hw4.low hbn)
  have HT5 := Lib.hid (hTb.low hbn)
  have HX5 := Lib.hid ((HX3.out.step hs4 hXb).low hbn)
  have HY5 := Lib.hid ((cell2_stepD HY3.out hs4 hYb).low hbn)
  have HP5 := Lib.hid (cell4_new w4 (.string A.nm) (.slice A.pc A.n A.cc) (.int .i64 A.nx) (.slice A.pr A.R.length A.cr) 34)
  have hPb : w4.heap.size ≠ b := by have := hw4.tape.lt; omega
  clear HW3 HZ3 HX3 HY3 hTb hw4 hs4 hbn
  go_upto_region 5 with (fail)
  generalize World.alloc _ _ = w5 at HW5 HT5 HX5 HY5 HP5 ⊢
  generalize w4.heap.size = P at HP5 hPb ⊢
  have HV5 : Hid (DtV ls b w w.heap.size P (w.heap.size + 1) A sn spc n scc sf RE w5) := Lib.hid ⟨HW5.out, HQ0.out, HCS.out, HT5.out, by omega, HX5.out, hXb, HP5.out, hPb, HY5.out, hYb⟩
  have hb5 : b < w5.heap.size := HW5.out.tape.lt
  clear HW5 HT5 HX5 HY5 HP5 HQ0 HCS hlen hPb hXb hYb
  go_cut [11, 12] from 39 to 46 (fun s11 s12 wx => ∃ (R : Nat) (E : Dlt) (ob : Bool), s11 = .pointer (some ⟨R, 0, none⟩) ∧ s12 = .bool ob ∧ DtE ls b w w.heap.size P (w.heap.size + 1) R A sn spc n scc sf RE E wx)
  case first =>
    have HV5D := Lib.hid (HV5.out.low (Below.refl _ _).drew)
    obtain ⟨xl, x0, x1, x2, x3, -⟩ := HV5.out.pt
    go_region_law (first
      | (go_simp; go_at_call 10; refine (HV5D.out.later hlw).mono ?_; rintro e wq ⟨B, rfl, hB, hBl, hvq, hsq⟩; (have HBQ := Lib.hid hB); (have HBL := Lib.hid hBl); (have HVQ := Lib.hid hvq); (have HSQ := Lib.hid ((step_low (Below.refl w5.heap.size w5).drew).trans hsq)); clear hB hBl hvq hsq x0 x1 x2 x3 xl; obtain ⟨xl, x0, x1, x2, x3, -⟩ := HVQ.out.pt)
      | (go_simp; go_at_call 10; refine ((HV5D.out.low (below_alloc _ (.cells #[.string ⟨#[]⟩, .slice none 0 0, .slice none 0 0, .slice none 0 0] 25))).later hlw).mono ?_; rintro e wq ⟨B, rfl, hB, hBl, hvq, hsq⟩; (have HBQ := Lib.hid hB); (have HBL := Lib.hid hBl); (have HVQ := Lib.hid hvq); (have HZQ : Hid (Cell4 wq w5.heap.size (.string ⟨#[]⟩) (.slice none 0 0) (.slice none 0 0) (.slice none 0 0)) := Lib.hid ((cell4_new w5.drew (.string ⟨#[]⟩) (.slice none 0 0) (.slice none 0 0) (.slice none 0 0) 25).step hsq (Nat.ne_of_gt hb5))); (have HSQ := Lib.hid (((step_low (Below.refl w5.heap.size w5).drew).trans (step_low (below_alloc w5.drew (.cells #[.string ⟨#[]⟩, .slice none 0 0, .slice none 0 0, .slice none 0 0] 25)))).trans hsq)); clear hB hBl hvq hsq x0 x1 x2 x3 xl; obtain ⟨xl, x0, x1, x2, x3, -⟩ := HVQ.out.pt)
      | (go_simp; go_at_call 9; refine (HVQ.out.btw HBQ.out HBL.out).mono ?_; rintro e wz ⟨E, ob, rfl, hfr, hbd, hvz, hbz⟩; (first | (revert HZQ; intro HZQ; (have HZZ := Lib.hid (HZQ.out.low hbz)); (have HRZ := Lib.hid (dtE_set HV5.out (HSQ.out.trans (step_low hbz)) hvz.wd.tape (Nat.le_refl _) HZQ.out.lt hb5 hfr HZZ.out hbd)); obtain ⟨zl, z0, z1, z2, z3, zf⟩ := HZZ.out) | (have HRZ := Lib.hid (dtE_new hvz (Nat.lt_of_lt_of_le hb5 HSQ.out.size) hbz.size hfr hbd))); clear hfr hbd hvz hbz x0 x1 x2 x3 xl)
      | (go_simp; go_at_call 9; refine ((HVQ.out.low (below_alloc _ (.cells #[.string ⟨#[]⟩, .slice none 0 0, .slice none 0 0, .slice none 0 0] 25))).btw (HBQ.out.low (below_alloc _ (.cells #[.string ⟨#[]⟩, .slice none 0 0, .slice none 0 0, .slice none 0 0] 25))) HBL.out).mono ?_; rintro e wz ⟨E, ob, rfl, hfr, hbd, hvz, hbz⟩; (have HZZ := Lib.hid ((cell4_new wq (.string ⟨#[]⟩) (.slice none 0 0) (.slice none 0 0) (.slice none 0 0) 25).low hbz)); (have HRZ := Lib.hid (dtE_set HV5.out ((HSQ.out.trans (step_low (below_alloc wq (.cells #[.string ⟨#[]⟩, .slice none 0 0, .slice none 0 0, .slice none 0 0] 25)))).trans (step_low hbz)) hvz.wd.tape HSQ.out.size (by rw [size_alloc]; omega) hb5 hfr HZZ.out hbd)); obtain ⟨zl, z0, z1, z2, z3, zf⟩ := HZZ.out; clear hfr hbd hvz hbz x0 x1 x2 x3 xl))
    all_goals
      first
        | generalize World.setCell _ _ _ = Wf at HRZ ⊢
        | generalize World.alloc _ _ = Wf at HRZ ⊢
      go_wp2
      go_meet
      exact ⟨_, E, ob, rfl, rfl, HRZ.out⟩
  case rest =>
    obtain ⟨R, E, ob, rfl, rfl, hRZ⟩ := hcut
    have HRZ := Lib.hid hRZ
    clear hRZ HV5
    have hXb := HRZ.out.v.xn
    have hRb := HRZ.out.rn
    have HW0 := Lib.hid HRZ.out.toW
    go_upto_region 6 with (fail)
    go_region_held3 (fun u => (u.cell? ⟨w.heap.size, 0, none⟩ = some (.string RE.nm) ∧ u.cell? ⟨w.heap.size, 1, none⟩ = some (.slice RE.pi RE.I.length RE.ci) ∧ u.cell? ⟨w.heap.size, 2, none⟩ = some (.slice RE.pd RE.D.length RE.cd) ∧ u.cell? ⟨w.heap.size, 3, none⟩ = some (.slice RE.pu RE.U.length RE.cu) ∧ w.heap.size < u.heap.size) ∧ (u.cell? ⟨R, 0, none⟩ = some (.string E.nm) ∧ u.cell? ⟨R, 1, none⟩ = some (.slice E.pi E.I.length E.ci) ∧ u.cell? ⟨R, 2, none⟩ = some (.slice E.pd E.D.length E.cd) ∧ u.cell? ⟨R, 3, none⟩ = some (.slice E.pu E.U.length E.cu) ∧ R < u.heap.size) ∧ DtW ls b w P (w.heap.size + 1) A sn spc n scc sf RE E u)
      (first
        | exact ⟨(HRZ.out.v.low (Below.refl _ _).drew).xt.conj, (HRZ.out.rt.low (Below.refl _ _).drew).conj, HW0.out.low (Below.refl _ _).drew⟩
        | with_reducible exact keepDf hXb hRb hsq hwq (by assumption)
        | with_reducible exact keepDb hXb hRb (below_alloc _ _) (by assumption))
      (first
        | (go_at_call 11; (with_reducible refine (DtW.spE (ls := ls) (b := b) (w := w) (P := P) (Y := w.heap.size + 1) (A := A) (sn := sn) (spc := spc) (n := n) (scc := scc) (sf := sf) (RE := RE) (E := E) ?_).mono ?_); (go_split_ands; assumption); rintro e wq ⟨F, rfl, hF, hwq, hsq⟩))
    rename_i hHeld
    obtain ⟨-, -, hDW⟩ := hHeld
    have HL := Lib.hid hDW.l
    have hE9 : DltS wq E := ⟨HW0.out.de wq ((step_low (Below.refl _ _).drew).trans hsq), Nat.le_trans HRZ.out.sh.1 (by decide), Nat.le_trans HRZ.out.sh.2.1 (by decide), Nat.le_trans HRZ.out.sh.2.2 (by decide)⟩
    have HT := Lib.hid (three_new wq RE E F (HW0.out.re.low hwq.bel) hE9 hF)
    clear hDW hF hwq hsq hE9 HW0 HRZ hXb hRb
    generalize World.alloc _ _ = W7 at HL HT ⊢
    generalize wq.heap.size = L at HT ⊢
    obtain ⟨q, hq⟩ : ∃ q, modI event 3 = q := ⟨_, rfl⟩
    have hqr := modI_range event 3 (by decide)
    rw [hq] at hqr
    have hwm : IntKind.i64.wrap (1 + q) = 1 + q := by rw [IntKind.wrap_i64]; omega
    have HM := Lib.hid hq
    clear hq hqr
    go_wp2_with fail
    go_loopw [54] (fun s54 v => ∃ j : Nat, j ≤ 3 ∧ s54 = .int .i64 j ∧ Three v L RE E F ∧ DtL w P (w.heap.size + 1) A sn spc n scc sf v) (fun s54 _ => 3 - (intOf s54).toNat)
    case atStart => exact ⟨0, Nat.zero_le _, rfl, HT.out, HL.out⟩
    clear HT HL
    case round =>
      obtain ⟨j, hj, rfl, hT, hL⟩ := hrel
      have HT := Lib.hid hT
      have HL := Lib.hid hL
      clear hL
      by_cases hj3 : j < 3
      · have hjd : decide ((j : Int) < 3) = true := decide_eq_true (by omega)
        obtain ⟨G, hG, g0, g1, g2, g3⟩ := hT.at hj3
        have hbn := below_alloc wr (.cells #[.string G.nm, .slice G.pi G.I.length G.ci, .slice G.pd G.D.length G.cd, .slice G.pu G.U.length G.cu] 25)
        have HD := Lib.hid (cell4_new wr (.string G.nm) (.slice G.pi G.I.length G.ci) (.slice G.pd G.D.length G.cd) (.slice G.pu G.U.length G.cu) 25)
        have HT9 := Lib.hid (HT.out.low hbn)
        have HL9 := Lib.hid (HL.out.low hbn)
        have HG9 := Lib.hid (hG.low hbn)
        clear hT hbn HT HL hG
        go_upto_region 9 with (fail)
        generalize World.alloc _ _ = W9 at HD HT9 HL9 HG9 ⊢
        generalize wr.heap.size = D at HD ⊢
        clear g0 g1 g2 g3
        obtain ⟨xl, x0, x1, x2, x3, -⟩ := HD.out
        go_wp2_with fail
        refine (dbags_any G _ HG9.out.at_ HG9.out.sum).mono ?_
        rintro e w10 ⟨p1, c1, p2, c2, rfl, hr1, hr2, hb10⟩
        have HD10 := Lib.hid (HD.out.low hb10)
        have HT10 := Lib.hid (HT9.out.low hb10)
        have HL10 := Lib.hid (HL9.out.low hb10)
        have HG10 := Lib.hid (HG9.out.low hb10)
        have HR1 := Lib.hid hr1
        have HR2 := Lib.hid hr2
        clear hr1 hr2 hb10 HD HT9 HL9 HG9 x0 x1 x2 x3 xl
        obtain ⟨xl, x0, x1, x2, x3, -⟩ := HD10.out
        go_wp2_with fail
        refine (rdbags_any G _ HG10.out.at_ HG10.out.sum).mono ?_
        rintro e w11 ⟨q1, d1, q2, d2, rfl, hs1, hs2, hb11⟩
        have HD11 := Lib.hid (HD10.out.low hb11)
        have HT11 := Lib.hid (HT10.out.low hb11)
        have HL11 := Lib.hid (HL10.out.low hb11)
        have HG11 := Lib.hid (HG10.out.low hb11)
        have HR11 := Lib.hid (HR1.out.low hb11)
        have HR21 := Lib.hid (HR2.out.low hb11)
        have HS1 := Lib.hid hs1
        have HS2 := Lib.hid hs2
        have gi : G.I.length ≤ 1000 := Nat.le_trans HG10.out.ii (by decide)
        have gd : G.D.length ≤ 1000 := Nat.le_trans HG10.out.dd (by decide)
        have gu : G.U.length ≤ 1000 := Nat.le_trans HG10.out.uu (by decide)
        have hl1 : (srt (leftR G)).length ≤ 9223372036854775807 := by rw [srt_length]; unfold leftR; simp; omega
        have hl2 : (srt (cameR G)).length ≤ 9223372036854775807 := by rw [srt_length]; unfold cameR; simp; omega
        clear hs1 hs2 hb11 HD10 HT10 HL10 HG10 HR1 HR2 x0 x1 x2 x3 xl
        generalize srt (leftR G) = L1 at HR11 HS1 hl1 ⊢
        generalize srt (cameR G) = L2 at HR21 HS2 hl2 ⊢
        go_upto_region 11 with (fail)
        go_region_held3 (fun u => (u.cell? ⟨D, 0, none⟩ = some (.string G.nm) ∧ u.cell? ⟨D, 1, none⟩ = some (.slice G.pi G.I.length G.ci) ∧ u.cell? ⟨D, 2, none⟩ = some (.slice G.pd G.D.length G.cd) ∧ u.cell? ⟨D, 3, none⟩ = some (.slice G.pu G.U.length G.cu) ∧ D < u.heap.size) ∧ RowsAt u p1 L1 ∧ RowsAt u p2 L2 ∧ RowsAt u q1 L1 ∧ RowsAt u q2 L2 ∧ DltS u G ∧ Three u L RE E F ∧ DtL w P (w.heap.size + 1) A sn spc n scc sf u)
          (first
            | exact ⟨(HD11.out.low (Below.refl _ _).drew).conj, HR11.out.low (Below.refl _ _).drew, HR21.out.low (Below.refl _ _).drew, HS1.out.low (Below.refl _ _).drew, HS2.out.low (Below.refl _ _).drew, HG11.out.low (Below.refl _ _).drew, HT11.out.low (Below.refl _ _).drew, HL11.out.low (Below.refl _ _).drew⟩
            | with_reducible exact keepR hbq (by assumption))
          (first
            | (go_at_call 14; with_reducible refine (dempty_any _ _ _ _ _ _ _ _ _ _ _).mono ?_; rintro e wq ⟨rfl, hbq⟩)
            | (go_at_call 15; with_reducible refine (rdempty_any _ _ _ _ _ _ _ _ _ _ _ gi gd gu).mono ?_; rintro e wq ⟨rfl, hbq⟩)
            | (go_at_call 16; with_reducible refine (drowsN_any _ _ _ _ _ _ _ _ _ _ _ _).mono ?_; rintro e wq ⟨rfl, hbq⟩)
            | (go_at_call 17; with_reducible refine (rdrowsN_any _ _ _ _ _ _ _ _ _ _ _ _).mono ?_; rintro e wq ⟨rfl, hbq⟩)
            | (go_at_call 18; with_reducible refine (mod8_any HM.out _).mono ?_; rintro e wq ⟨rfl, hbq⟩)
            | (go_at_call 19; (first | (with_reducible refine (sameself_any L1 p1 q1 _ _ _ hl1 ?_ ?_).mono ?_) | (with_reducible refine (sameself_any L2 p2 q2 _ _ _ hl2 ?_ ?_).mono ?_)); (go_split_ands; assumption); (go_split_ands; assumption); rintro e wq ⟨rfl, hbq⟩))
        rename_i hHeld
        obtain ⟨hD12, -, -, -, -, hG12, hT12, hL12⟩ := hHeld
        obtain ⟨K1, hK1⟩ : ∃ K, changedL G.U sf n = K := ⟨_, rfl⟩
        obtain ⟨K2, hK2⟩ : ∃ K, changedL G.U A.f A.n = K := ⟨_, rfl⟩
        have hk1 : K1.length ≤ 9223372036854775807 := by rw [← hK1]; have := changedL_length G.U sf n; omega
        have hk2 : K2.length ≤ 9223372036854775807 := by rw [← hK2]; have := changedL_length G.U A.f A.n; have := hL12.an; omega
        have HK1 := Lib.hid hK1
        have HK2 := Lib.hid hK2
        have H12 := Lib.hid (And.intro hD12 (And.intro hL12.pt (And.intro hL12.yt (And.intro hG12 (And.intro hT12 hL12)))))
        clear hK1 hK2 hD12 hG12 hT12 hL12 hbq HD11 HT11 HL11 HG11 HR11 HR21 HS1 HS2 hl1 hl2
        go_upto_region 13 with (fail)
        go_region_held3 (fun u => (u.cell? ⟨D, 0, none⟩ = some (.string G.nm) ∧ u.cell? ⟨D, 1, none⟩ = some (.slice G.pi G.I.length G.ci) ∧ u.cell? ⟨D, 2, none⟩ = some (.slice G.pd G.D.length G.cd) ∧ u.cell? ⟨D, 3, none⟩ = some (.slice G.pu G.U.length G.cu) ∧ D < u.heap.size) ∧ (u.cell? ⟨P, 0, none⟩ = some (.string A.nm) ∧ u.cell? ⟨P, 1, none⟩ = some (.slice A.pc A.n A.cc) ∧ P < u.heap.size) ∧ (u.cell? ⟨w.heap.size + 1, 0, none⟩ = some (.string sn) ∧ u.cell? ⟨w.heap.size + 1, 1, none⟩ = some (.slice spc n scc) ∧ w.heap.size + 1 < u.heap.size) ∧ DltS u G ∧ Three u L RE E F ∧ DtL w P (w.heap.size + 1) A sn spc n scc sf u)
          (first
            | exact keepC (Below.refl _ _).drew H12.out
            | with_reducible exact keepC hbq (by assumption))
          (first
            | (go_at_call 21; (first | (with_reducible refine (chg_s (w := w) (P := P) (Y := w.heap.size + 1) (A := A) (G := G) (sn := sn) (spc := spc) (n := n) (scc := scc) (sf := sf) HK1.out hn ?_ ?_).mono ?_) | (with_reducible refine (chg_a (w := w) (P := P) (Y := w.heap.size + 1) (A := A) (G := G) (sn := sn) (spc := spc) (n := n) (scc := scc) (sf := sf) HK2.out ?_ ?_).mono ?_)); (go_split_ands; assumption); (go_split_ands; assumption); rintro e wq ⟨pa, ca, rfl, hA, hbq⟩)
            | (go_at_call 22; (first | (with_reducible refine (rchg_s (w := w) (P := P) (Y := w.heap.size + 1) (A := A) (G := G) (sn := sn) (spc := spc) (n := n) (scc := scc) (sf := sf) HK1.out hn ?_ ?_).mono ?_) | (with_reducible refine (rchg_a (w := w) (P := P) (Y := w.heap.size + 1) (A := A) (G := G) (sn := sn) (spc := spc) (n := n) (scc := scc) (sf := sf) HK2.out ?_ ?_).mono ?_)); (go_split_ands; assumption); (go_split_ands; assumption); rintro e wr ⟨pb, cb, rfl, hB, hbq⟩; have hA2 := hA.low hbq)
            | (go_at_call 20; (first | (with_reducible refine (streq_any K1 _ _ _ _ _ hk1 hA2 hB).mono ?_) | (with_reducible refine (streq_any K2 _ _ _ _ _ hk2 hA2 hB).mono ?_)); rintro e wq ⟨rfl, hbq⟩))
        rename_i hHeld
        obtain ⟨-, -, -, -, hT13, hL13⟩ := hHeld
        have HT13 := Lib.hid hT13
        have HL13 := Lib.hid hL13
        clear hT13 hL13 hbq H12
        go_wp2
        go_roundw
        case rel => exact ⟨j + 1, by omega, by go_num, HT13.out, HL13.out⟩
        case measure => simp [intOf]; omega
      · have hjd : decide ((j : Int) < 3) = false := decide_eq_false (by omega)
        go_wp2_with fail
        refine (known8_any _).mono ?_
        rintro e w12 ⟨rfl, hb12⟩
        have HB12 := Lib.hid (below_next HL.out.bel hb12)
        go_wp2
        exact bodyPost_ret (v := .bool true) (by simp [results, Tryz.results3, go_sem]) rfl ⟨rfl, HB12.out⟩
end Go.Proofs.YtlnbpobipmejfaaGreatDoor
/-
  Arguments opened: a column, a schema.
-/
namespace Go.Proofs.YtlnbpobipmejfaaGreatDoor
set_option maxRecDepth 100000
open Go.ChangeShapes Go.WideShapes Go.ChangeAt Go.RowKit

theorem list_four {l : List Value} (h : l.length = 4) : ∃ a b c d, l = [a, b, c, d] := by
  match l, h with
  | [a, b, c, d], _ => exact ⟨a, b, c, d, rfl⟩
theorem exists_fun {A : Type} [Inhabited A] {P : Nat → A → Prop} {n : Nat} (h : ∀ i, i < n → ∃ x, P i x) : ∃ f : Nat → A, ∀ i, i < n → P i (f i) :=
  ⟨fun i => if hi : i < n then (h i hi).choose else default, fun i hi => by simp only [dif_pos hi]; exact (h i hi).choose_spec⟩
section
variable {H : Type} {enc : TypeId × Value → H} {W : World} {v : Value} {d : DataW H} {p : List MemPlace}
/-- An argument that is a column. -/
theorem open_col (hv : ∃ b, Value.okWide Tryz.prog W .any b 63 v) (h : DataW.Trod enc Tryz.prog W 0 (fun _ => true) true 63 v d p) :
    ∃ c : Col, v = colV c ∧ c.nm.size ≤ 9223372036854775807 := by
  obtain ⟨b, hv⟩ := hv
  obtain ⟨c0, c1, c2, c3, y0, y1, y2, y3, m, rfl, rfl, rfl, hy0, hy1, hy2, hy3⟩ := Joins.open_agg4 Tryz.underlying63 (by kernel_rfl) (by kernel_rfl) hv h
  obtain ⟨s, e0, rfl, ws⟩ := DataW.trod_string Tryz.underlying9 hy0
  obtain ⟨k, e1, rfl, wk⟩ := DataW.trod_int Tryz.underlying3 hy1
  obtain ⟨n, e2, rfl⟩ := DataW.trod_bool Tryz.underlying4 hy2
  obtain ⟨q, e3, rfl⟩ := DataW.trod_bool Tryz.underlying4 hy3
  simp only [List.cons.injEq, and_true] at e0 e1 e2 e3
  subst e0 e1 e2 e3
  exact ⟨⟨s, k, n, q⟩, rfl, ws⟩
set_option maxRecDepth 100000 in
theorem open_cols {t : Nat} {v : Value} {y : DataW H × List MemPlace} (h : DataW.trod enc Tryz.prog W 0 (fun _ => true) true t 26 [v] = some y) :
    ∃ (a : Option Addr) (n cap : Nat) (f : Nat → Col), v = .slice a n cap ∧ n ≤ cap ∧ n ≤ 9223372036854775807 ∧ ColsAt W a n f := by
  have c4 : Tryz.prog.cellsOf 63 = 4 := by kernel_rfl
  rcases Deep.open_slice Tryz.underlying26 h with ⟨hcs, hx⟩ | ⟨a, len, cap, m, n, D, Pl, hcs, hb, hl, hm, hmm, hx, hi⟩
  · simp only [List.cons.injEq, and_true] at hcs
    subst hcs
    exact ⟨none, 0, 0, fun _ => default, rfl, Nat.le_refl _, by decide, fun i hi => by omega⟩
  · simp only [List.cons.injEq, and_true] at hcs
    subst hcs
    rw [if_pos rfl] at hmm
    have hone : ∀ i, i < len → ∃ x : Col, x.nm.size ≤ 9223372036854775807 ∧ W.cell? ((a.add (i * 4)).add 0) = some (.string x.nm) ∧ W.cell? ((a.add (i * 4)).add 1) = some (.int .i64 x.ty) ∧ W.cell? ((a.add (i * 4)).add 2) = some (.bool x.nn) ∧ W.cell? ((a.add (i * 4)).add 3) = some (.bool x.key) := by
      intro i hi'
      obtain ⟨cs', hc, ht'⟩ := hi i (by omega)
      rw [c4] at hc
      obtain ⟨_, hcl, hat⟩ := World.cells?_some hc
      obtain ⟨xs, m', _, _, _, hxl, hf⟩ := DataW.trod_struct Tryz.underlying63 ht'
      have ci : Tryz.prog.cellsOf 3 = 1 := by kernel_rfl
      have cj : Tryz.prog.cellsOf 4 = 1 := by kernel_rfl
      have ck : Tryz.prog.cellsOf 9 = 1 := by kernel_rfl
      obtain ⟨u0, u1, u2, u3, rfl⟩ := list_four hcl
      have h0 : DataW.trod enc Tryz.prog W 0 (fun _ => true) true m' 9 (([u0, u1, u2, u3].drop 0).take (Tryz.prog.cellsOf 9)) = xs[0]? := hf 0 _ rfl
      have h1 : DataW.trod enc Tryz.prog W 0 (fun _ => true) true m' 3 (([u0, u1, u2, u3].drop 1).take (Tryz.prog.cellsOf 3)) = xs[1]? := hf 1 _ rfl
      have h2 : DataW.trod enc Tryz.prog W 0 (fun _ => true) true m' 4 (([u0, u1, u2, u3].drop 2).take (Tryz.prog.cellsOf 4)) = xs[2]? := hf 2 _ rfl
      have h3 : DataW.trod enc Tryz.prog W 0 (fun _ => true) true m' 4 (([u0, u1, u2, u3].drop 3).take (Tryz.prog.cellsOf 4)) = xs[3]? := hf 3 _ rfl
      rw [ck] at h0
      rw [ci] at h1
      rw [cj] at h2 h3
      simp only [List.drop_zero, List.drop_succ_cons, List.take_succ_cons, List.take_zero] at h0 h1 h2 h3
      have hl4 : xs.length = 4 := hxl
      rw [List.getElem?_eq_getElem (by omega)] at h0 h1 h2 h3
      obtain ⟨s, e0, -, ws⟩ := DataW.trod_string Tryz.underlying9 h0
      obtain ⟨k, e1, -, -⟩ := DataW.trod_int Tryz.underlying3 h1
      obtain ⟨q, e2, -⟩ := DataW.trod_bool Tryz.underlying4 h2
      obtain ⟨r, e3, -⟩ := DataW.trod_bool Tryz.underlying4 h3
      simp only [List.cons.injEq, and_true] at e0 e1 e2 e3
      subst e0 e1 e2 e3
      exact ⟨⟨s, k, q, r⟩, ws, by rw [hat 0 (by omega)]; rfl, by rw [hat 1 (by omega)]; rfl, by rw [hat 2 (by omega)]; rfl, by rw [hat 3 (by omega)]; rfl⟩
    obtain ⟨f, hf⟩ := exists_fun hone
    obtain ⟨c, o, sp⟩ := a
    refine ⟨some ⟨c, o, sp⟩, len, cap, f, rfl, hl, by unfold maxLen at hm; omega, fun i hi' => ?_⟩
    have hsp : sp = none := by
      obtain ⟨-, h0, -⟩ := hf 0 (by omega)
      simpa [Addr.add] using World.cell?_spot h0
    subst hsp
    have ha : ∀ x y, ((⟨c, o, none⟩ : Addr).add x).add y = ⟨c, o + x + y, none⟩ := by
      intro x y
      unfold Addr.add
      split <;> split <;> simp_all
    obtain ⟨hs, h0, h1, h2, h3⟩ := hf i hi'
    rw [ha] at h0 h1 h2 h3
    exact ⟨c, o, rfl, World.block_lt_of_cell? W _ h0, hs, h0, h1, h2, h3⟩
/-- An argument that is a schema. -/
theorem open_schema (hv : ∃ b, Value.okWide Tryz.prog W .any b 28 v) (h : DataW.Trod enc Tryz.prog W 0 (fun _ => true) true 28 v d p) :
    ∃ (nm : ByteArray) (a : Option Addr) (n cap : Nat) (f : Nat → Col), v = schV nm a n cap ∧ nm.size ≤ 9223372036854775807 ∧ n ≤ cap ∧ n ≤ 9223372036854775807 ∧ ColsAt W a n f := by
  obtain ⟨b, hv⟩ := hv
  obtain ⟨c0, c1, y0, y1, m, rfl, rfl, rfl, hy0, hy1⟩ := Joins.open_agg2 Tryz.underlying28 (by kernel_rfl) (by kernel_rfl) hv h
  obtain ⟨s, e0, rfl, ws⟩ := DataW.trod_string Tryz.underlying9 hy0
  simp only [List.cons.injEq, and_true] at e0
  subst e0
  obtain ⟨a, n, cap, f, rfl, h1, h2, h3⟩ := open_cols hy1
  exact ⟨s, a, n, cap, f, rfl, ws, h1, h2, h3⟩
end
end Go.Proofs.YtlnbpobipmejfaaGreatDoor
/-
  Arguments opened: a row (with what its texts can be), a list of rows.
-/
namespace Go.Proofs.YtlnbpobipmejfaaGreatDoor
set_option maxRecDepth 100000
open Go.ChangeShapes Go.WideShapes Go.ChangeAt Go.RowKit

section
variable {H : Type} {enc : TypeId × Value → H} {W : World} {v : Value} {d : DataW H} {p : List MemPlace}
theorem bytes_val : Tryz.prog.bytesOf 55 = 32 := by kernel_rfl
set_option maxRecDepth 100000 in
theorem open_row_at {t : Nat} {v : Value} {y : DataW H × List MemPlace} (h : DataW.trod enc Tryz.prog W 0 (fun _ => true) true t 56 [v] = some y) :
    ∃ (a : Option Addr) (l : List Val) (cap : Nat), v = .slice a l.length cap ∧ l.length ≤ cap ∧ l.length ≤ 9223372036854775807 ∧ RowAt W a l ∧ ValsSized l ∧ (a = none → l = [] ∧ cap = 0) ∧ ((∀ n ∈ y.1.weights Tryz.prog 56, n ≤ reachBytes) → l.length * 32 ≤ 140737488355328) := by
  have c3 : Tryz.prog.cellsOf 55 = 3 := by kernel_rfl
  rcases Deep.open_slice Tryz.underlying56 h with ⟨hcs, hx⟩ | ⟨a, len, cap, m, n, D, Pl, hcs, hb, hl, hm, hmm, hx, hi⟩
  · simp only [List.cons.injEq, and_true] at hcs
    subst hcs
    exact ⟨none, [], 0, rfl, Nat.le_refl _, by decide, fun i hi => by simp at hi, fun i hi => by simp at hi, fun _ => ⟨rfl, rfl⟩, fun _ => by simp⟩
  · simp only [List.cons.injEq, and_true] at hcs
    subst hcs
    rw [if_pos rfl] at hmm
    have hone : ∀ i, i < len → ∃ x : Val, x.2.2.size ≤ 9223372036854775807 ∧ W.cell? ((a.add (i * 3)).add 0) = some (.int .i64 x.1) ∧ W.cell? ((a.add (i * 3)).add 1) = some (.int .i64 x.2.1) ∧ W.cell? ((a.add (i * 3)).add 2) = some (.string x.2.2) := by
      intro i hi'
      obtain ⟨cs', hc, ht'⟩ := hi i (by omega)
      rw [c3] at hc
      obtain ⟨_, hcl, hat⟩ := World.cells?_some hc
      obtain ⟨xs, m', _, _, _, hxl, hf⟩ := DataW.trod_struct Tryz.underlying55 ht'
      have ci : Tryz.prog.cellsOf 3 = 1 := by kernel_rfl
      have cj : Tryz.prog.cellsOf 2 = 1 := by kernel_rfl
      have ck : Tryz.prog.cellsOf 9 = 1 := by kernel_rfl
      obtain ⟨u0, u1, u2, rfl⟩ := list_three hcl
      have h0 : DataW.trod enc Tryz.prog W 0 (fun _ => true) true m' 3 (([u0, u1, u2].drop 0).take (Tryz.prog.cellsOf 3)) = xs[0]? := hf 0 _ rfl
      have h1 : DataW.trod enc Tryz.prog W 0 (fun _ => true) true m' 2 (([u0, u1, u2].drop 1).take (Tryz.prog.cellsOf 2)) = xs[1]? := hf 1 _ rfl
      have h2 : DataW.trod enc Tryz.prog W 0 (fun _ => true) true m' 9 (([u0, u1, u2].drop 2).take (Tryz.prog.cellsOf 9)) = xs[2]? := hf 2 _ rfl
      rw [ci] at h0
      rw [cj] at h1
      rw [ck] at h2
      simp only [List.drop_zero, List.drop_succ_cons, List.take_succ_cons, List.take_zero] at h0 h1 h2
      have hl3 : xs.length = 3 := hxl
      rw [List.getElem?_eq_getElem (by omega)] at h0 h1 h2
      obtain ⟨k, e0, -, -⟩ := DataW.trod_int Tryz.underlying3 h0
      obtain ⟨n, e1, -, -⟩ := DataW.trod_int Tryz.underlying2 h1
      obtain ⟨s, e2, -, ws⟩ := DataW.trod_string Tryz.underlying9 h2
      simp only [List.cons.injEq, and_true] at e0 e1 e2
      subst e0 e1 e2
      exact ⟨(k, n, s), ws, by rw [hat 0 (by omega)]; rfl, by rw [hat 1 (by omega)]; rfl, by rw [hat 2 (by omega)]; rfl⟩
    obtain ⟨l, hll, hl'⟩ := exists_list hone
    subst hll
    obtain ⟨c, o, sp⟩ := a
    refine ⟨some ⟨c, o, sp⟩, l, cap, rfl, hl, by unfold maxLen at hm; omega, fun i hi' => ?_, fun i hi' => (hl' i hi').1, (fun h => by cases h), fun hw => ?_⟩
    · have hsp : sp = none := by
        obtain ⟨-, h0, -, -⟩ := hl' 0 (by omega)
        simpa [Addr.add] using World.cell?_spot h0
      subst hsp
      have ha : ∀ x y, ((⟨c, o, none⟩ : Addr).add x).add y = ⟨c, o + x + y, none⟩ := by
        intro x y
        unfold Addr.add
        split <;> split <;> simp_all
      obtain ⟨-, h0, h1, h2⟩ := hl' i hi'
      rw [ha] at h0 h1 h2
      exact ⟨c, o, rfl, World.block_lt_of_cell? W _ h0, h0, h1, h2⟩
    · have := hw (cap * 32) (by
        rw [hx]
        simp only [DataW.weights, Tryz.underlying56, List.length_map, List.length_range, bytes_val]
        rw [show l.length + (m - l.length) = cap by omega]
        exact List.mem_cons_self)
      unfold reachBytes at this
      omega
/-- An argument that is a row. -/
theorem open_row (hv : ∃ b, Value.okWide Tryz.prog W .any b 56 v) (h : DataW.Trod enc Tryz.prog W 0 (fun _ => true) true 56 v d p) :
    ∃ (a : Option Addr) (l : List Val) (cap : Nat), v = .slice a l.length cap ∧ l.length ≤ cap ∧ l.length ≤ 9223372036854775807 ∧ RowAt W a l ∧ ValsSized l := by
  obtain ⟨b, hv⟩ := hv
  obtain ⟨a0, len, cap, rfl⟩ := okWide_slice Tryz.underlying56 hv
  obtain ⟨fuel, hf⟩ := h
  obtain ⟨a, l, c, h0, h1, h2, h3, h4, -, -⟩ := open_row_at (v := .slice a0 len cap) (show DataW.trod enc Tryz.prog W 0 (fun _ => true) true fuel 56 [.slice a0 len cap] = some (d, p) from hf)
  exact ⟨a, l, c, h0, h1, h2, h3, h4⟩
theorem weights_elem {P : Program} {t e : TypeId} {elems spare : List (DataW H)} {x : DataW H} (hu : P.underlying t = some (.slice e)) (hx : x ∈ elems) (hw : ∀ n ∈ (DataW.slice elems spare).weights P t, n ≤ reachBytes) : ∀ n ∈ x.weights P e, n ≤ reachBytes := by
  intro n hn
  refine hw n ?_
  simp only [DataW.weights, hu]
  refine List.mem_cons_of_mem _ (List.mem_append_left _ ?_)
  clear hw
  induction elems with
  | nil => cases hx
  | cons y r ih =>
    simp only [DataW.weightsAll]
    rcases List.mem_cons.1 hx with rfl | hx
    · exact List.mem_append_left _ hn
    · exact List.mem_append_right _ (ih hx)
set_option maxRecDepth 100000 in
/-- An argument that is a list of rows. -/
theorem open_rows (hv : ∃ b, Value.okWide Tryz.prog W .any b 43 v) (h : DataW.Trod enc Tryz.prog W 0 (fun _ => true) true 43 v d p) (hw : ∀ n ∈ d.weights Tryz.prog 43, n ≤ reachBytes) :
    ∃ (a : Option Addr) (L : List (List Val)) (cap : Nat), v = .slice a L.length cap ∧ L.length ≤ cap ∧ L.length ≤ 9223372036854775807 ∧ RowsAt W a L := by
  obtain ⟨b, hv⟩ := hv
  obtain ⟨a0, len, cap, rfl⟩ := okWide_slice Tryz.underlying43 hv
  obtain ⟨fuel, hf⟩ := h
  rcases Deep.open_slice1 Tryz.underlying43 (by kernel_rfl) hf with ⟨hcs, hx⟩ | ⟨a, len', cap', m, n, V, D, Pl, hcs, hb, hl, hm, hmm, hx, hi⟩
  · simp only [Value.cells, List.cons.injEq, and_true, Value.slice.injEq] at hcs
    obtain ⟨rfl, rfl, rfl⟩ := hcs
    exact ⟨none, [], 0, rfl, Nat.le_refl _, by decide, fun i hi => by simp at hi⟩
  · simp only [Value.cells, List.cons.injEq, and_true, Value.slice.injEq] at hcs
    obtain ⟨rfl, rfl, rfl⟩ := hcs
    rw [if_pos rfl] at hmm
    have hd := (Prod.mk.inj hx).1
    have hone : ∀ i, i < len → ∃ x : Option Addr × Nat × List Val, V i = .slice x.1 x.2.2.length x.2.1 ∧ RowAt W x.1 x.2.2 ∧ x.2.2.length * 32 ≤ 140737488355328 ∧ (x.1 = none → x.2.2 = [] ∧ x.2.1 = 0) := by
      intro i hi'
      obtain ⟨-, ht⟩ := hi i (by omega)
      obtain ⟨q, l, cp, e0, -, -, h3, -, h5, h6⟩ := open_row_at ht
      refine ⟨(q, cp, l), e0, h3, h6 ?_, h5⟩
      refine weights_elem Tryz.underlying43 (x := D i) (elems := (List.range len).map D) (spare := (List.range (m - len)).map fun j => D (len + j)) (List.mem_map.2 ⟨i, List.mem_range.2 hi', rfl⟩) ?_
      rw [← hd]
      exact hw
    haveI : Inhabited (Option Addr × Nat × List Val) := ⟨(none, 0, [])⟩
    obtain ⟨f, hf'⟩ := exists_fun hone
    obtain ⟨c, o, sp⟩ := a
    have hlen : ((List.range len).map fun i => (f i).2.2).length = len := by simp
    refine ⟨some ⟨c, o, sp⟩, (List.range len).map fun i => (f i).2.2, cap, by rw [hlen], by rw [hlen]; exact hl, by rw [hlen]; unfold maxLen at hm; omega, fun i hi' => ?_⟩
    rw [hlen] at hi'
    have hsp : sp = none := by
      obtain ⟨h0, -⟩ := hi 0 (by omega)
      simpa [Addr.add] using World.cell?_spot h0
    subst hsp
    have ha : (⟨c, o, none⟩ : Addr).add i = ⟨c, o + i, none⟩ := by
      unfold Addr.add
      split <;> simp_all
    obtain ⟨h0, -⟩ := hi i (by omega)
    obtain ⟨e0, h1, h2, h3⟩ := hf' i hi'
    have er : rAt ((List.range len).map fun i => (f i).2.2) i = (f i).2.2 := by rw [rAt_get (by rw [hlen]; exact hi')]; simp
    rw [ha, e0] at h0
    rw [er]
    exact ⟨c, o, (f i).1, (f i).2.1, rfl, World.block_lt_of_cell? W _ h0, h0, h1, h2, h3⟩
end
end Go.Proofs.YtlnbpobipmejfaaGreatDoor
