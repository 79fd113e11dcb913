/-
  Several texts in one.
-/
import Derived.Test.YtgaihglploedaaaDoorPk45
/-
  spoiled of the law: a change with one of its lists turned.
-/
namespace Go.Proofs.YtgaihglploedaaaDoor
set_option maxRecDepth 100000
open Go.RowKit
variable {ls : List Nat}

def SpPost (b : Nat) (w : World) (e : Ending) (w' : World) : Prop := ∃ C : Chg, e = .returned C.v ∧ ChgAt w' C ∧ TapeAt w' b ∧ StepT b w w'
/-- The state of spoiled: the box of the change, the box of the result. -/
structure SpW (b : Nat) (w : World) (vi vd vu : Value) (u : World) : Prop where
  box : Cell3 u w.heap.size vi vd vu
  res : Cell3 u (w.heap.size + 1) (.slice none 0 0) (.slice none 0 0) (.slice none 0 0)
  tape : TapeAt u b
  step : StepT b w u
section
variable {b B : Nat} {w u v : World} {vi vd vu : Value}
theorem cell3_lowB {X : Nat} {x y z : Value} (h : Cell3 u X x y z) (hX : X < B) (hb : Below B u v) : Cell3 v X x y z :=
  ⟨Nat.lt_of_lt_of_le h.lt hb.size, by rw [hb.cell (by exact hX)]; exact h.c0, by rw [hb.cell (by exact hX)]; exact h.c1, by rw [hb.cell (by exact hX)]; exact h.c2, fun o => by rw [hb.frozen (by exact hX)]; exact h.fz o⟩
theorem far3 {X Y o : Nat} {x y z : Value} (h : Cell3 u X x y z) (hX : X ≠ Y) (t : Value) : Cell3 (u.setCell ⟨Y, o, none⟩ t) X x y z := by
  have hb : (u.setCell ⟨Y, o, none⟩ t).heap[X]? = u.heap[X]? := Below.heap_setCell _ _ _ _ hX
  exact ⟨by rw [set_size]; exact h.lt, by rw [World.cell?_of_block (w := u) hb]; exact h.c0, by rw [World.cell?_of_block (w := u) hb]; exact h.c1, by rw [World.cell?_of_block (w := u) hb]; exact h.c2, fun o' => by rw [World.frozen?_of_block (w := u) hb]; exact h.fz o'⟩
theorem stepB (h : StepT b w u) (hb : Below B u v) (hB : w.heap.size ≤ B) : StepT b w v :=
  ⟨hb.os.trans h.os, hb.tape.trans h.tape, hb.output.trans h.output, Nat.le_trans h.size hb.size, fun k hk hne => (hb.block k (by omega)).trans (h.block k hk hne)⟩
theorem SpW.low (h : SpW b w vi vd vu u) (hlt : b < w.heap.size) (hB : w.heap.size + 2 ≤ B) (hb : Below B u v) : SpW b w vi vd vu v :=
  ⟨cell3_lowB h.box (by omega) hb, cell3_lowB h.res (by omega) hb, h.tape.keep (fun k hk => hb.block k (by omega)) hb.size, stepB h.step hb (by omega)⟩
theorem SpW.lo (h : SpW b w vi vd vu u) : w.heap.size + 2 ≤ u.heap.size := h.res.lt
/-- The end: the result's box is written. -/
theorem SpW.fin (h : SpW b w vi vd vu u) (hlt : b < w.heap.size) {W : World} (hW : ((u.setCell ⟨w.heap.size + 1, 0, none⟩ vi).setCell ⟨w.heap.size + 1, 1, none⟩ vd).setCell ⟨w.heap.size + 1, 2, none⟩ vu = W) :
    Cell3 W (w.heap.size + 1) vi vd vu ∧ TapeAt W b ∧ StepT b w W ∧ u.heap.size ≤ W.heap.size ∧ ∀ k, w.heap.size + 2 ≤ k → W.heap[k]? = u.heap[k]? := by
  subst hW
  exact ⟨cell3_put u h.res _ _ _, ((h.tape.setCell (show b < w.heap.size + 1 by omega) _).setCell (show b < w.heap.size + 1 by omega) _).setCell (show b < w.heap.size + 1 by omega) _,
    ((h.step.set2 (show w.heap.size ≤ w.heap.size + 1 by omega) _ _ _).set2 (show w.heap.size ≤ w.heap.size + 1 by omega) _ _ _).set2 (show w.heap.size ≤ w.heap.size + 1 by omega) _ _ _,
    by rw [set_size, set_size, set_size]; exact Nat.le_refl _, fun k hk => by rw [Below.heap_setCell _ _ _ _ (show k ≠ w.heap.size + 1 by omega), Below.heap_setCell _ _ _ _ (show k ≠ w.heap.size + 1 by omega), Below.heap_setCell _ _ _ _ (show k ≠ w.heap.size + 1 by omega)]⟩
theorem own_fin {base n size : Nat} {e : TypeId} {x : Value} {xs : List Value} (h : u.ownsRow base e size x n xs) (hB : w.heap.size + 2 ≤ base) (hk : ∀ k, w.heap.size + 2 ≤ k → v.heap[k]? = u.heap[k]?) : v.ownsRow base e size x n xs :=
  owns_keep h fun k hk' => hk k (by have := owns_block h k hk'; omega)
theorem SpW.next (h : SpW b w vi vd vu u) (hlt : b < w.heap.size) (hs : StepT b u v) (ht : TapeAt v b) : SpW b w vi vd vu v :=
  ⟨h.box.step hs (by omega), h.res.step hs (by omega), ht, h.step.trans hs⟩
theorem SpW.set1 (h : SpW b w vi vd vu u) (hlt : b < w.heap.size) (y : Value) : SpW b w vi y vu (u.setCell ⟨w.heap.size, 1, none⟩ y) :=
  ⟨chS1 h.box y, far3 h.res (by omega) y, h.tape.setCell (show b < w.heap.size by omega) y, h.step.set2 (Nat.le_refl _) _ _ _⟩
theorem SpW.set2 (h : SpW b w vi vd vu u) (hlt : b < w.heap.size) (y : Value) : SpW b w vi vd y (u.setCell ⟨w.heap.size, 2, none⟩ y) :=
  ⟨chS2 h.box y, far3 h.res (by omega) y, h.tape.setCell (show b < w.heap.size by omega) y, h.step.set2 (Nat.le_refl _) _ _ _⟩
theorem SpW.set0 (h : SpW b w vi vd vu u) (hlt : b < w.heap.size) (y : Value) : SpW b w y vd vu (u.setCell ⟨w.heap.size, 0, none⟩ y) :=
  ⟨chS0 h.box y, far3 h.res (by omega) y, h.tape.setCell (show b < w.heap.size by omega) y, h.step.set2 (Nat.le_refl _) _ _ _⟩
end
theorem chg_bounds {w : World} {C : Chg} (h : ChgAt w C) : C.I.length ≤ 1000 := h.inl
theorem chgU {base n4 c4 : Nat} {W : World} {C : Chg} {p4 : Option Addr} {P' : List GPair} (hcf : ChgAt W C) (ho : W.ownsRow base 86 3 (.slice p4 n4 c4) P'.length (pcells P')) (hG : ∀ x ∈ P', (Holds W x.2.1 ∧ Holds W x.2.2) ∧ ValsSized x.2.2.2) (hl : P'.length ≤ 1000) :
    ChgAt W ⟨C.pi, C.ci, C.I, C.pd, C.cd, C.D, p4, c4, P'.map unP⟩ :=
  ⟨hcf.ins, hcf.del, pairsAt_own ho fun x hx => (hG x hx).1, hcf.inl, hcf.dl, by dsimp only; rw [List.length_map]; omega, hcf.isz, fun p hp => by
    obtain ⟨x, hx, rfl⟩ := List.mem_map.1 hp
    exact (hG x hx).2, hcf.dcap, by dsimp only; rw [List.length_map]; exact (own_len ho).2⟩
theorem pairs_nil {v : World} {pu : Option Addr} {P : List GPair} (h : ∀ i (hi : i < P.length), ∃ c o, pu = some ⟨c, o, none⟩ ∧ v.cell? ⟨c, o + i * 3, none⟩ = some (.int .i64 P[i].1) ∧ v.cell? ⟨c, o + i * 3 + 1, none⟩ = some P[i].2.1.1 ∧ v.cell? ⟨c, o + i * 3 + 2, none⟩ = some P[i].2.2.1) (hp : pu = none) : pcells P = [] := by
  cases P with
  | nil => rfl
  | cons x P => obtain ⟨c, o, hp', -⟩ := h 0 (Nat.succ_pos _); rw [hp] at hp'; cases hp'
/-- A new pair, without values. -/
def zP (z : Int) : GPair := (z, (.slice none 0 0, []), (.slice none 0 0, []))
theorem vsized_nil : ValsSized [] := fun i hi => by simp at hi
theorem chgI {base n4 c4 : Nat} {W : World} {C : Chg} {p4 : Option Addr} {G' : List (Value × List Val)} (hcf : ChgAt W C) (ho : W.ownsRow base 25 1 (.slice p4 n4 c4) G'.length (G'.map (·.1))) (hG : ∀ x ∈ G', Holds W x ∧ ValsSized x.2) (hl : G'.length ≤ 1000) :
    ChgAt W ⟨p4, c4, G'.map (·.2), C.pd, C.cd, C.D, C.pu, C.cu, C.U⟩ :=
  ⟨rowsAt_own ho fun x hx => (hG x hx).1, hcf.del, hcf.upd, by dsimp only; rw [List.length_map]; exact hl, hcf.dl, hcf.ul, fun l hl => by
    obtain ⟨x, hx, rfl⟩ := List.mem_map.1 hl
    exact (hG x hx).2, hcf.usz, hcf.dcap, hcf.ucap⟩
/-- A row of one zero value, in a block of its own. -/
def zR (k : Nat) : Value × List Val := (.slice (some ⟨k, 0, none⟩) 1 1, [(0, 0, ⟨#[]⟩)])
theorem zR_sized (k : Nat) : ValsSized (zR k).2 := fun i hi => by
  obtain rfl : i = 0 := by simpa [zR] using hi
  show (ByteArray.mk #[]).size ≤ _
  decide
theorem grown_cell {u v : World} {row : Option Nat} {k j : Nat} {x : Value} (hg : u.grownBy v row) (hk : k < u.heap.size) (hne : row ≠ some k) (h : u.cell? ⟨k, j, none⟩ = some x) : v.cell? ⟨k, j, none⟩ = some x := by
  rw [World.cell?_of_block (w := u) (hg.block k hk (fun e => hne e.symm))]; exact h
theorem chN {u v : World} {X : Nat} {x y z : Value} {row : Option Nat} (h : Cell3 u X x y z) (hg : u.grownBy v row) (hr : row ≠ some X) : Cell3 v X x y z := by
  have hb := hg.block X h.lt (fun e => hr e.symm)
  exact ⟨Nat.lt_of_lt_of_le h.lt hg.size, by rw [World.cell?_of_block (w := u) hb]; exact h.c0, by rw [World.cell?_of_block (w := u) hb]; exact h.c1, by rw [World.cell?_of_block (w := u) hb]; exact h.c2, fun o => by rw [World.frozen?_of_block (w := u) hb]; exact h.fz o⟩
/-- A world in which the copy may begin. -/
structure CopyOK (u W : World) (k : Nat) (c o : Nat) (P : List GPair) : Prop where
  own : W.ownsRow u.heap.size 86 3 (.slice (some ⟨k, 0, none⟩) 0 0) 0 (pcells [])
  src : ∀ ad, some (⟨c, o, none⟩ : Addr) = some ad → ∀ j y, (pcells P)[j]? = some y → W.cell? (ad.add j) = some y
  bel : Below u.heap.size u W
  lo : u.heap.size ≤ k
  hk : k < W.heap.size
theorem CopyOK.to {u W V : World} {k c o : Nat} {P : List GPair} (h : CopyOK u W k c o P) (hb : Below W.heap.size W V) (hs : ∀ ad, some (⟨c, o, none⟩ : Addr) = some ad → ∀ j y, (pcells P)[j]? = some y → V.cell? (ad.add j) = some y) : CopyOK u V k c o P :=
  ⟨owns_below h.own hb, hs, below_next h.bel hb, h.lo, Nat.lt_of_lt_of_le h.hk hb.size⟩
/-- A world in which the copy of the numbers may begin. -/
structure CopyN (u W : World) (k : Nat) (p : Option Addr) (D : List Int) : Prop where
  own : W.ownsRow u.heap.size 3 1 (.slice (some ⟨k, 0, none⟩) 0 0) 0 (icells [])
  src : ∀ ad, p = some ad → ∀ j y, (icells D)[j]? = some y → W.cell? (ad.add j) = some y
  bel : Below u.heap.size u W
  lo : u.heap.size ≤ k
  hk : k < W.heap.size
theorem CopyN.to {u W V : World} {k : Nat} {p : Option Addr} {D : List Int} (h : CopyN u W k p D) (hb : Below W.heap.size W V) (hs : ∀ ad, p = some ad → ∀ j y, (icells D)[j]? = some y → V.cell? (ad.add j) = some y) : CopyN u V k p D :=
  ⟨owns_below h.own hb, hs, below_next h.bel hb, h.lo, Nat.lt_of_lt_of_le h.hk hb.size⟩
/-- A block of one value. -/
structure Cell1 (u : World) (X : Nat) (x : Value) : Prop where
  lt : X < u.heap.size
  c0 : u.cell? ⟨X, 0, none⟩ = some x
theorem cell1_new (w : World) (x : Value) (t : TypeId) : Cell1 (w.alloc (.cells #[x] t)) w.heap.size x :=
  ⟨by rw [size_alloc]; exact Nat.lt_succ_self _, by have h := one_new w x t 0 x rfl; first | exact h | simpa [Addr.add] using h⟩
theorem Cell1.low {u v : World} {X : Nat} {x : Value} (h : Cell1 u X x) (hb : Below u.heap.size u v) : Cell1 v X x :=
  ⟨Nat.lt_of_lt_of_le h.lt hb.size, by rw [hb.cell (by exact h.lt)]; exact h.c0⟩
theorem Cell1.news {u : World} {X : Nat} {x : Value} (h : Cell1 u X x) : ∀ j y, [x][j]? = some y → u.cell? ((⟨X, 0, none⟩ : Addr).add j) = some y := by
  intro j y hj
  cases j with
  | zero => cases hj; first | exact h.c0 | simpa [Addr.add] using h.c0
  | succ j => simp at hj
theorem ch1N {u v : World} {X : Nat} {x : Value} {row : Option Nat} (h : Cell1 u X x) (hg : u.grownBy v row) (hr : row ≠ some X) : Cell1 v X x := by
  have hb := hg.block X h.lt (fun e => hr e.symm)
  exact ⟨Nat.lt_of_lt_of_le h.lt hg.size, by rw [World.cell?_of_block (w := u) hb]; exact h.c0⟩
theorem cap_nil {u : World} {base k : Nat} {x : Value} (h : u.ownsRow base 3 1 (.slice (some ⟨k, 0, none⟩) 0 0) 0 (icells [])) (hc : Cell1 u k x) : False := by
  rcases h.2 with ⟨hv, -⟩ | ⟨g, cap, cur, hv, -, hh, -, -, hcur, -⟩
  · cases hv
  · injection hv with h1 h2 h3
    injection h1 with h1
    injection h1 with h1
    subst h1 h3
    have h0 := hc.c0
    simp only [World.cell?, hh] at h0
    rw [if_neg (by simp), Array.getElem?_eq_none (by omega)] at h0
    cases h0
theorem spw_stay {b : Nat} {w u v : World} {vi vd vu : Value} (h : SpW b w vi vd vu u) (hlt : b < w.heap.size) (hb : Below u.heap.size u v) : SpW b w vi vd vu v := h.low hlt h.lo hb
set_option maxHeartbeats 16000000 in
theorem spoiled7_any (b : Nat) (w : World) (ht : TapeAt w b) (C : Chg) (HC0 : ∀ v, StepT b w v → ChgAt v C) (hI : C.I.length ≤ 40) (hD : C.D.length ≤ 40) (hU : C.U.length ≤ 40) :
    Calls Tryd.prog 50 #[.pointer (some ⟨b, 0, none⟩), .agg #[.slice C.pi C.I.length C.ci, .slice C.pd C.D.length C.cd, .slice C.pu C.U.length C.cu]] w (SpPost b w) := by
  have hlt := ht.lt
  have HC := Lib.hid HC0
  have HW : Hid (SpW b w (.slice C.pi C.I.length C.ci) (.slice C.pd C.D.length C.cd) (.slice C.pu C.U.length C.cu) ((w.alloc (.cells #[.slice C.pi C.I.length C.ci, .slice C.pd C.D.length C.cd, .slice C.pu C.U.length C.cu] 79)).alloc (.cells #[.slice none 0 0, .slice none 0 0, .slice none 0 0] 79))) :=
    Lib.hid ⟨(cell3_new w _ _ _ _).low (below_alloc _ _), (cell3_new (w.alloc _) _ _ _ _).at (size_alloc _ _), (ht.alloc _).alloc _, ((StepT.refl b w).alloc _).alloc _⟩
  obtain ⟨P, hPl, hPU, hPG, hPC⟩ := pairs_list (fun v hv => (HC0 v hv).upd) C.U.length (Nat.le_refl _)
  rw [List.take_length] at hPU
  have HPU := Lib.hid hPU
  have HPC := Lib.hid hPC
  have HPG : Hid (∀ v, StepT b w v → ∀ x ∈ P, (Holds v x.2.1 ∧ Holds v x.2.2) ∧ ValsSized x.2.2.2) := Lib.hid fun v hv x hx => ⟨hPG v hv x hx, (HC0 v hv).usz (unP x) (by rw [← hPU]; exact List.mem_map.2 ⟨x, hx, rfl⟩)⟩
  have HPL := Lib.hid hPl
  have hpl : P.length ≤ 40 := by omega
  obtain ⟨G, hGl, hGI, hGG, hGC⟩ := rows_list (fun v hv => (HC0 v hv).ins) C.I.length (Nat.le_refl _)
  rw [List.take_length] at hGI
  have HGC := Lib.hid hGC
  have HGG : Hid (∀ v, StepT b w v → ∀ x ∈ G, Holds v x ∧ ValsSized x.2) := Lib.hid fun v hv x hx => ⟨hGG v hv x hx, (HC0 v hv).isz x.2 (by rw [← hGI]; exact List.mem_map.2 ⟨x, hx, rfl⟩)⟩
  have HGL := Lib.hid hGl
  have hgl : G.length ≤ 40 := by omega
  clear hGI hGG hGC hGl
  clear HC0 ht hPU hPG hPC hPl
  go_enter Tryd.func50, Tryd.ntmps50
  go_upto_region 1 with (fail)
  generalize World.alloc _ _ = u0 at HW ⊢
  go_wp2_with fail
  refine (next_any b 6 _ (by omega) (by omega) HW.out.tape).mono ?_
  rintro e u1 ⟨r, rfl, hr0, hr1, ht1, hs1⟩
  have HW1 := Lib.hid (HW.out.next hlt hs1 ht1)
  clear HW ht1 hs1
  obtain rfl | rfl | rfl | rfl | rfl | rfl : r = 0 ∨ r = 1 ∨ r = 2 ∨ r = 3 ∨ r = 4 ∨ r = 5 := by omega
  · have hlo := HW1.out.lo
    obtain ⟨i0, hi0, hz0, hz1, hz2⟩ := info_parts info_int7
    have HA := Lib.hid (HW1.out.low hlt hlo (below_alloc u1 (.cells #[] 3)))
    have HO := Lib.hid (iowns_empty u1)
    have HN := Lib.hid (HC.out _ HA.out.step).del
    obtain ⟨xl, x0, x1, x2, xf⟩ := HW1.out.box
    go_upto_region 5 with (fail)
    go_wp2_with (at_builtin; refine wpList_append_any rfl (.tmp 24) (.tmp 26) 26 3 rfl u1.heap.size i0 _ 1 8 Tryd.underlying26 hi0 hz0 hz1 hz2 rfl (by decide) _ 0 (icells []) (by rfl) HO.out C.pd C.D.length C.cd (icells C.D) (by rfl) (by unfold icells; rw [List.length_map, Nat.mul_one]) (nums_news HN.out) (nums_nil HN.out) (icells_one _) (by unfold maxLen; omega) (by omega) (by rw [size_alloc]; exact Nat.le_succ _) ?_; intro v2 w2 hown2 hg2; (have hb2 := grown_below (below_alloc u1 (.cells #[] 3)) (by rw [size_alloc]; exact Nat.le_succ _) hg2 (fun k hk => by cases hk; exact Nat.le_refl _)); (have HW2 := Lib.hid (HW1.out.low hlt hlo hb2)); (have HO2 : Hid (w2.ownsRow u1.heap.size 3 1 v2 C.D.length (icells C.D)) := Lib.hid (by rw [Nat.zero_add] at hown2; exact hown2)); (have hz2' := hb2.size); clear hown2 hg2 hb2)
    clear xl x0 x1 x2 xf HA HO HN HW1
    refine (next_any b 9 _ (by omega) (by omega) HW2.out.tape).mono ?_
    rintro e w3 ⟨z, rfl, hz30, hz31, ht3, hs3⟩
    have HW3 := Lib.hid (HW2.out.next hlt hs3 ht3)
    have HL3 := Lib.hid (HW3.out.low hlt HW3.out.lo (below_alloc w3 (.cells #[.int .i64 z] 3)))
    have HO3 := Lib.hid (owns_below (owns_step HO2.out (by omega) hs3) (below_alloc w3 (.cells #[.int .i64 z] 3)))
    have hz3' : u1.heap.size ≤ w3.heap.size := Nat.le_trans hz2' hs3.size
    have HNW := Lib.hid (one_new w3 (.int .i64 z) 3)
    clear HO2 HW2 ht3 hs3
    obtain ⟨xl, x0, x1, x2, xf⟩ := HW3.out.box
    go_upto_region 17 with (at_builtin; refine wpList_append_any rfl (.tmp 27) (.tmp 30) 26 3 rfl u1.heap.size i0 _ 1 8 Tryd.underlying26 hi0 hz0 hz1 hz2 rfl (by decide) v2 C.D.length (icells C.D) (by rfl) HO3.out (some ⟨w3.heap.size, 0, none⟩) 1 1 [.int .i64 z] (by rfl) rfl (fun ad he => by cases he; exact HNW.out) (fun e => by cases e) (by intro u hu; obtain rfl := List.mem_singleton.1 hu; rfl) (by unfold maxLen; omega) (by omega) (by rw [size_alloc]; omega) ?_; intro v4 w4 hown4 hg4; (have hb4 : Below u1.heap.size w3 w4 := grown_below ((below_alloc w3 (.cells #[.int .i64 z] 3)).mono hz3') (by rw [size_alloc]; omega) hg4 (fun k hk => owns_block HO3.out k hk)); (have hw4 := HW3.out.low hlt hlo hb4); obtain ⟨p4, c4, e4⟩ := own_ex hown4; subst e4; (have HO4 : Hid ((w4.setCell ⟨w.heap.size, 1, none⟩ (.slice p4 (C.D.length + 1) c4)).ownsRow u1.heap.size 3 1 (.slice p4 (C.D.length + 1) c4) (C.D ++ [z]).length (icells (C.D ++ [z]))) := Lib.hid (by rw [List.length_append, List.length_singleton]; unfold icells at hown4 ⊢; rw [List.map_append]; exact ownsRow_setCell_below hown4 (a := ⟨w.heap.size, 1, none⟩) (show w.heap.size < u1.heap.size by omega) _)); (have HW5 := Lib.hid (hw4.set1 hlt (.slice p4 (C.D.length + 1) c4))); obtain ⟨zl, z0, z1, z2, zf⟩ := hw4.box; clear hown4 hg4 hb4 hw4)
    clear xl x0 x1 x2 xf zl z0 z1 z2 zf
    generalize World.setCell _ _ _ = w5 at HW5 HO4 ⊢
    clear HW3 HL3 HO3 HNW
    obtain ⟨xl, x0, x1, x2, xf⟩ := HW5.out.box
    obtain ⟨yl, y0, y1, y2, yf⟩ := HW5.out.res
    go_wp2
    obtain ⟨⟨-, s0, s1, s2, -⟩, htp, hst, hzz, hkk⟩ := HW5.out.fin hlt rfl
    have hcf := HC.out _ hst
    exact bodyPost_ret (v := .agg #[.slice C.pi C.I.length C.ci, .slice p4 (C.D.length + 1) c4, .slice C.pu C.U.length C.cu]) (by simp [results, Tryd.results50, go_sem, s0, s1, s2]) rfl
      ⟨⟨C.pi, C.ci, C.I, p4, c4, C.D ++ [z], C.pu, C.cu, C.U⟩, by simp [Chg.v], ⟨hcf.ins, numAt_own (own_fin HO4.out hlo hkk), hcf.upd, hcf.inl, by dsimp only; rw [List.length_append, List.length_singleton]; omega, hcf.ul, hcf.isz, hcf.usz, (own_len HO4.out).2, hcf.ucap⟩, htp, hst⟩
  · have hlo := HW1.out.lo
    obtain ⟨i0, hi0, hz0, hz1, hz2⟩ := info_parts info_pair
    have HA := Lib.hid (HW1.out.low hlt hlo (below_alloc u1 (.cells #[] 86)))
    have HO := Lib.hid (powns_empty u1)
    have HN := Lib.hid (HPC.out _ HA.out.step)
    obtain ⟨xl, x0, x1, x2, xf⟩ := HW1.out.box
    go_upto_region 7 with (fail)
    go_wp2_with (at_builtin; refine wpList_append_any rfl (.tmp 35) (.tmp 37) 77 86 rfl u1.heap.size i0 _ 3 56 Tryd.underlying77 hi0 hz0 hz1 hz2 rfl (by decide) _ 0 (pcells []) (by rfl) HO.out C.pu C.U.length C.cu (pcells P) (by rfl) (by rw [pcells_length, HPL.out]) (pairs_news HN.out) (pairs_nil HN.out) (pcells_one (fun x hx => (HPG.out _ HA.out.step x hx).1)) (by unfold maxLen; omega) (by omega) (by rw [size_alloc]; exact Nat.le_succ _) ?_; intro v2 w2 hown2 hg2; (have hb2 := grown_below (below_alloc u1 (.cells #[] 86)) (by rw [size_alloc]; exact Nat.le_succ _) hg2 (fun k hk => by cases hk; exact Nat.le_refl _)); (have HW2 := Lib.hid (HW1.out.low hlt hlo hb2)); (have HO2 : Hid (w2.ownsRow u1.heap.size 86 3 v2 P.length (pcells P)) := Lib.hid (by rw [Nat.zero_add, ← HPL.out] at hown2; exact hown2)); (have hz2' := hb2.size); clear hown2 hg2 hb2)
    clear xl x0 x1 x2 xf HA HO HN HW1
    refine (next_any b 9 _ (by omega) (by omega) HW2.out.tape).mono ?_
    rintro e w3 ⟨z, rfl, hz30, hz31, ht3, hs3⟩
    have HW3 := Lib.hid (HW2.out.next hlt hs3 ht3)
    have HNB := Lib.hid (below_alloc w3 (.cells #[.int .i64 z, .slice none 0 0, .slice none 0 0] 86))
    have HO3 := Lib.hid (owns_below (owns_step HO2.out (by omega) hs3) HNB.out)
    have hz3' : u1.heap.size ≤ w3.heap.size := Nat.le_trans hz2' hs3.size
    have HNW := Lib.hid (cell3_new w3 (.int .i64 z) (.slice none 0 0) (.slice none 0 0) 86)
    clear HO2 HW2 ht3 hs3
    obtain ⟨xl, x0, x1, x2, xf⟩ := HW3.out.box
    go_upto_region 17 with (at_builtin; refine wpList_append_any rfl (.tmp 38) (.tmp 42) 77 86 rfl u1.heap.size i0 _ 3 56 Tryd.underlying77 hi0 hz0 hz1 hz2 rfl (by decide) v2 P.length (pcells P) (by rfl) HO3.out (some ⟨w3.heap.size, 0, none⟩) 1 1 [.int .i64 z, .slice none 0 0, .slice none 0 0] (by rfl) rfl (fun ad he => by cases he; exact pair_news HNW.out.c0 HNW.out.c1 HNW.out.c2) (fun e => by cases e) (by intro u hu; simp only [List.mem_cons, List.not_mem_nil, or_false] at hu; rcases hu with rfl | rfl | rfl <;> rfl) (by unfold maxLen; omega) (by omega) (by rw [size_alloc]; omega) ?_; intro v4 w4 hown4 hg4; (have hb4 : Below u1.heap.size w3 w4 := grown_below (HNB.out.mono hz3') (by rw [size_alloc]; omega) hg4 (fun k hk => owns_block HO3.out k hk)); (have hw4 := HW3.out.low hlt hlo hb4); obtain ⟨p4, c4, e4⟩ := own_ex hown4; subst e4; (have HO4 : Hid ((w4.setCell ⟨w.heap.size, 2, none⟩ (.slice p4 (P.length + 1) c4)).ownsRow u1.heap.size 86 3 (.slice p4 (P.length + 1) c4) (P ++ [zP z]).length (pcells (P ++ [zP z]))) := Lib.hid (by rw [List.length_append, List.length_singleton, pcells_append]; exact ownsRow_setCell_below hown4 (a := ⟨w.heap.size, 2, none⟩) (show w.heap.size < u1.heap.size by omega) _)); (have HW5 := Lib.hid (hw4.set2 hlt (.slice p4 (P.length + 1) c4))); obtain ⟨zl, z0, z1, z2, zf⟩ := hw4.box; clear hown4 hg4 hb4 hw4)
    clear xl x0 x1 x2 xf zl z0 z1 z2 zf
    generalize World.setCell _ _ _ = w5 at HW5 HO4 ⊢
    clear HW3 HNB HO3 HNW
    obtain ⟨xl, x0, x1, x2, xf⟩ := HW5.out.box
    obtain ⟨yl, y0, y1, y2, yf⟩ := HW5.out.res
    go_wp2
    obtain ⟨⟨-, s0, s1, s2, -⟩, htp, hst, hzz, hkk⟩ := HW5.out.fin hlt rfl
    have hcf := HC.out _ hst
    exact bodyPost_ret (v := .agg #[.slice C.pi C.I.length C.ci, .slice C.pd C.D.length C.cd, .slice p4 (P.length + 1) c4]) (by simp [results, Tryd.results50, go_sem, s0, s1, s2]) rfl
      ⟨_, by simp [Chg.v], chgU hcf (own_fin HO4.out hlo hkk) (fun x hx => by
        rcases List.mem_append.1 hx with hx | hx
        · exact HPG.out _ hst x hx
        · obtain rfl := List.mem_singleton.1 hx
          exact ⟨⟨Holds.nil _, Holds.nil _⟩, vsized_nil⟩) (by rw [List.length_append, List.length_singleton]; omega), htp, hst⟩
  · have hlo := HW1.out.lo
    obtain ⟨i0, hi0, hz0, hz1, hz2⟩ := info_parts info_row7
    have HA := Lib.hid (HW1.out.low hlt hlo (below_alloc u1 (.cells #[] 25)))
    have HO := Lib.hid (rowns_empty u1)
    have HN := Lib.hid (HGC.out _ HA.out.step)
    obtain ⟨xl, x0, x1, x2, xf⟩ := HW1.out.box
    go_upto_region 9 with (fail)
    go_upto_region 17 with (first
      | (at_builtin; refine wpList_append_any rfl (.tmp 47) (.tmp 49) 39 25 rfl u1.heap.size i0 _ 1 24 Tryd.underlying39 hi0 hz0 hz1 hz2 rfl (by decide) _ 0 [] (by rfl) HO.out C.pi C.I.length C.ci (G.map (·.1)) (by rfl) (by rw [List.length_map, HGL.out, Nat.mul_one]) (rows_news HN.out) (rows_nil HN.out) (rows_one (fun x hx => (HGG.out _ HA.out.step x hx).1)) (by unfold maxLen; omega) (by omega) (by rw [size_alloc]; exact Nat.le_succ _) ?_; intro v2 w2 hown2 hg2; (have hb2 := grown_below (below_alloc u1 (.cells #[] 25)) (by rw [size_alloc]; exact Nat.le_succ _) hg2 (fun k hk => by cases hk; exact Nat.le_refl _)); (have HW2 := Lib.hid (HW1.out.low hlt hlo hb2)); (have HO2 : Hid (w2.ownsRow u1.heap.size 25 1 v2 G.length (G.map (·.1))) := Lib.hid (by rw [Nat.zero_add, ← HGL.out] at hown2; exact hown2)); (have hz2' := hb2.size); (have HB3 := Lib.hid (below_new (below_alloc w2 (.cells #[.int .i64 0, .int .i64 0, .string ⟨#[]⟩] 34)) (.cells #[.slice (some ⟨w2.heap.size, 0, none⟩) 1 1] 25))); (have hn := one_new (w2.alloc (.cells #[.int .i64 0, .int .i64 0, .string ⟨#[]⟩] 34)) (.slice (some ⟨w2.heap.size, 0, none⟩) 1 1) 25); rw [size_alloc] at hn; (have HNW := Lib.hid hn); obtain ⟨t0, t1, t2, t3, t4⟩ := HW2.out.box; clear hown2 hg2 hb2 hn)
      | (at_builtin; refine wpList_append_any rfl (.tmp 50) (.tmp 53) 39 25 rfl u1.heap.size i0 _ 1 24 Tryd.underlying39 hi0 hz0 hz1 hz2 rfl (by decide) v2 G.length (G.map (·.1)) (by rfl) (owns_below HO2.out HB3.out) (some ⟨w2.heap.size + 1, 0, none⟩) 1 1 [.slice (some ⟨w2.heap.size, 0, none⟩) 1 1] (by rfl) rfl (fun ad he => by cases he; exact HNW.out) (fun e => by cases e) (by intro u hu; obtain rfl := List.mem_singleton.1 hu; rfl) (by unfold maxLen; omega) (by omega) (by rw [size_alloc, size_alloc]; omega) ?_; intro v4 w4 hown4 hg4; (have hb4 : Below u1.heap.size w2 w4 := grown_below (HB3.out.mono hz2') (by rw [size_alloc, size_alloc]; omega) hg4 (fun k hk => owns_block HO2.out k hk)); (have hw4 := HW2.out.low hlt hlo hb4); (have hho := (holds_zero w2).low (below_alloc _ (.cells #[.slice (some ⟨w2.heap.size, 0, none⟩) 1 1] 25))); (have hho4 : Holds w4 (zR w2.heap.size) := hho.keepB hg4.size (hg4.block w2.heap.size (by rw [size_alloc, size_alloc]; omega) (fun e => by have := owns_lt HO2.out _ e.symm; omega))); (have HH5 : Hid (Holds (w4.setCell ⟨w.heap.size, 0, none⟩ v4) (zR w2.heap.size)) := Lib.hid (hho4.keepB (by rw [set_size]; exact Nat.le_refl _) (Below.heap_setCell _ _ _ _ (show w2.heap.size ≠ w.heap.size by omega)))); obtain ⟨p4, c4, e4⟩ := own_ex hown4; subst e4; (have HO4 : Hid ((w4.setCell ⟨w.heap.size, 0, none⟩ (.slice p4 (G.length + 1) c4)).ownsRow u1.heap.size 25 1 (.slice p4 (G.length + 1) c4) (G ++ [zR w2.heap.size]).length ((G ++ [zR w2.heap.size]).map (·.1))) := Lib.hid (by rw [List.length_append, List.length_singleton, List.map_append]; exact ownsRow_setCell_below hown4 (a := ⟨w.heap.size, 0, none⟩) (show w.heap.size < u1.heap.size by omega) _)); (have HW5 := Lib.hid (hw4.set0 hlt (.slice p4 (G.length + 1) c4))); obtain ⟨zl, z0, z1, z2, zf⟩ := hw4.box; clear hown4 hg4 hb4 hw4 hho hho4))
    clear xl x0 x1 x2 xf zl z0 z1 z2 zf t0 t1 t2 t3 t4
    generalize World.setCell _ _ _ = w5 at HW5 HO4 HH5 ⊢
    clear HW1 HA HO HN HW2 HB3 HNW HO2
    obtain ⟨xl, x0, x1, x2, xf⟩ := HW5.out.box
    obtain ⟨yl, y0, y1, y2, yf⟩ := HW5.out.res
    go_wp2
    obtain ⟨⟨-, s0, s1, s2, -⟩, htp, hst, hzz, hkk⟩ := HW5.out.fin hlt rfl
    have hcf := HC.out _ hst
    exact bodyPost_ret (v := .agg #[.slice p4 (G.length + 1) c4, .slice C.pd C.D.length C.cd, .slice C.pu C.U.length C.cu]) (by simp [results, Tryd.results50, go_sem, s0, s1, s2]) rfl
      ⟨_, by simp [Chg.v], chgI hcf (own_fin HO4.out hlo hkk) (fun x hx => by
        rcases List.mem_append.1 hx with hx | hx
        · exact HGG.out _ hst x hx
        · obtain rfl := List.mem_singleton.1 hx
          exact ⟨HH5.out.keepB hzz (hkk _ (by show w.heap.size + 2 ≤ w2.heap.size; omega)), zR_sized _⟩) (by rw [List.length_append, List.length_singleton]; omega), htp, hst⟩
  · have hlo := HW1.out.lo
    obtain ⟨xl, x0, x1, x2, xf⟩ := HW1.out.box
    by_cases hu0 : 0 < C.U.length
    · have hud : decide ((0 : Int) < C.U.length) = true := decide_eq_true (by omega)
      have hp0 : 0 < P.length := by have := HPL.out; omega
      obtain ⟨i0, hi0, hz0, hz1, hz2⟩ := info_parts info_pair
      have HA := Lib.hid (HW1.out.low hlt hlo (below_alloc u1 (.cells #[] 86)))
      have HO := Lib.hid (powns_empty u1)
      have HN := Lib.hid (HPC.out _ HA.out.step)
      go_upto_region 12 with (fail)
      go_upto_region 13 with (at_builtin; refine wpList_append_any rfl (.tmp 62) (.tmp 64) 77 86 rfl u1.heap.size i0 _ 3 56 Tryd.underlying77 hi0 hz0 hz1 hz2 rfl (by decide) _ 0 (pcells []) (by rfl) HO.out C.pu C.U.length C.cu (pcells P) (by rfl) (by rw [pcells_length, HPL.out]) (pairs_news HN.out) (pairs_nil HN.out) (pcells_one (fun x hx => (HPG.out _ HA.out.step x hx).1)) (by unfold maxLen; omega) (by omega) (by rw [size_alloc]; exact Nat.le_succ _) ?_; intro v2 w2 hown2 hg2; (have hb2 := grown_below (below_alloc u1 (.cells #[] 86)) (by rw [size_alloc]; exact Nat.le_succ _) hg2 (fun k hk => by cases hk; exact Nat.le_refl _)); (have hw2 := HW1.out.low hlt hlo hb2); (have ho2 : w2.ownsRow u1.heap.size 86 3 v2 P.length (pcells P) := by rw [Nat.zero_add, ← HPL.out] at hown2; exact hown2); obtain ⟨g, c2, e2, hg, hgs⟩ := ho2.form hp0; subst e2; (have HO3 : Hid ((w2.setCell ⟨w.heap.size, 2, none⟩ (.slice (some ⟨g, 0, none⟩) P.length c2)).ownsRow u1.heap.size 86 3 (.slice (some ⟨g, 0, none⟩) P.length c2) P.length (pcells P)) := Lib.hid (ownsRow_setCell_below ho2 (a := ⟨w.heap.size, 2, none⟩) (show w.heap.size < u1.heap.size by omega) _)); (have HW3 := Lib.hid (hw2.set2 hlt (.slice (some ⟨g, 0, none⟩) P.length c2))); obtain ⟨t0, t1, t2, t3, t4⟩ := hw2.box; clear hown2 hg2 hb2 hw2 ho2)
      clear xl x0 x1 x2 xf t0 t1 t2 t3 t4 HA HO HN HW1
      generalize World.setCell _ _ _ = w3 at HW3 HO3 ⊢
      obtain ⟨xl, x0, x1, x2, xf⟩ := HW3.out.box
      obtain ⟨e0, e1, e2⟩ := pcells_at P 0 hp0
      obtain ⟨c', hc', -, k1⟩ := own_cell HO3.out e1
      cases hc'
      simp only [Nat.zero_mul, Nat.zero_add] at k1
      have kf := own_frozen HO3.out
      have hpi : (0 : Int) < (P.length : Int) := by omega
      have HO5 := own_setCell HO3.out (j := 0 * 3 + 1) (.slice none 0 0)
      rw [pcells_set P 0 hp0 (.slice none 0 0, [])] at HO5
      simp only [Nat.zero_mul, Nat.zero_add] at HO5
      have HO4 := Lib.hid HO5
      have HW5 : Hid (SpW b w (.slice C.pi C.I.length C.ci) (.slice C.pd C.D.length C.cd) (.slice (some ⟨g, 0, none⟩) P.length c2) (w3.setCell ⟨g, 1, none⟩ (.slice none 0 0))) := Lib.hid (HW3.out.low hlt hlo ((Below.refl u1.heap.size w3).setCell (by exact hg) _))
      clear HO5 e0 e1 e2
      go_upto_region 17 with (fail)
      clear xl x0 x1 x2 xf k1 kf
      generalize World.setCell _ _ _ = w5 at HW5 HO4 ⊢
      clear HW3 HO3
      have HO6 : Hid (w5.ownsRow u1.heap.size 86 3 (.slice (some ⟨g, 0, none⟩) P.length c2) (P.set 0 (P[0].1, (.slice none 0 0, []), P[0].2.2)).length (pcells (P.set 0 (P[0].1, (.slice none 0 0, []), P[0].2.2)))) := Lib.hid (by rw [List.length_set]; exact HO4.out)
      obtain ⟨xl, x0, x1, x2, xf⟩ := HW5.out.box
      obtain ⟨yl, y0, y1, y2, yf⟩ := HW5.out.res
      go_wp2
      obtain ⟨⟨-, s0, s1, s2, -⟩, htp, hst, hzz, hkk⟩ := HW5.out.fin hlt rfl
      have hcf := HC.out _ hst
      exact bodyPost_ret (v := .agg #[.slice C.pi C.I.length C.ci, .slice C.pd C.D.length C.cd, .slice (some ⟨g, 0, none⟩) P.length c2]) (by simp [results, Tryd.results50, go_sem, s0, s1, s2]) rfl
        ⟨_, by unfold Chg.v; dsimp only; rw [List.length_map, List.length_set], chgU hcf (own_fin HO6.out hlo hkk) (fun x hx => by
          rcases List.mem_or_eq_of_mem_set hx with hx | rfl
          · exact HPG.out _ hst x hx
          · have := HPG.out _ hst _ (List.getElem_mem hp0)
            exact ⟨⟨Holds.nil _, this.1.2⟩, this.2⟩) (by rw [List.length_set]; omega), htp, hst⟩
    · have hud : decide ((0 : Int) < C.U.length) = false := decide_eq_false (by omega)
      have HW5 := HW1
      clear HW1
      obtain ⟨xl, x0, x1, x2, xf⟩ := HW5.out.box
      obtain ⟨yl, y0, y1, y2, yf⟩ := HW5.out.res
      go_wp2
      obtain ⟨⟨-, s0, s1, s2, -⟩, htp, hst, hzz, hkk⟩ := HW5.out.fin hlt rfl
      have hcf := HC.out _ hst
      exact bodyPost_ret (v := .agg #[.slice C.pi C.I.length C.ci, .slice C.pd C.D.length C.cd, .slice C.pu C.U.length C.cu]) (by simp [results, Tryd.results50, go_sem, s0, s1, s2]) rfl
        ⟨C, rfl, hcf, htp, hst⟩
  · have hlo := HW1.out.lo
    obtain ⟨xl, x0, x1, x2, xf⟩ := HW1.out.box
    by_cases hu0 : 0 < C.U.length
    · have hud : decide ((0 : Int) < C.U.length) = true := decide_eq_true (by omega)
      obtain ⟨m, hm⟩ : ∃ m, m + 1 = C.U.length := ⟨C.U.length - 1, by omega⟩
      have hw1 : IntKind.i64.wrap ((C.U.length : Int) - 1) = (m : Int) := by rw [i64w (by omega) (by omega)]; omega
      have hmI : (m : Int) < (C.U.length : Int) := by omega
      have hp0 : m < P.length := by have := HPL.out; omega
      have hu1 : m < C.U.length := by omega
      have HM := Lib.hid hm
      clear hm
      obtain ⟨i0, hi0, hz0, hz1, hz2⟩ := info_parts info_int7
      obtain ⟨c, o, hpu, k0, -, -⟩ := HPC.out u1 HW1.out.step m hp0
      obtain ⟨c', o', -, -, -, -, hp', hc, -⟩ := (HC.out u1 HW1.out.step).upd m hu1
      rw [hpu] at hp' x2
      cases hp'
      have HPA := Lib.hid hpu
      obtain ⟨id, hid⟩ : ∃ y, P[m].1 = y := ⟨_, rfl⟩
      rw [hid] at k0
      have HKC : Hid (∀ V, Below u1.heap.size u1 V → V.cell? ⟨c, o + m * 3, none⟩ = some (.int .i64 id)) := Lib.hid fun V hV => by rw [hV.cell (by exact hc)]; exact k0
      have HND := Lib.hid (nums_nil (HC.out u1 HW1.out.step).del)
      have HSRC : Hid (∀ V, Below u1.heap.size u1 V → ∀ ad, C.pd = some ad → ∀ j y, (icells C.D)[j]? = some y → V.cell? (ad.add j) = some y) := Lib.hid fun V hV => nums_news (HC.out V (stepB HW1.out.step hV (by omega))).del
      clear hpu hid
      go_upto_region 16 with (fail)
      clear x0 x1 x2 xl xf k0
      refine wp_region_late (use := [[], [], [1], [0, 2], [], [4], [], [6], [7], [8], [5, 9], [10], [11], [12], [3, 13], [], [14, 15]]) (sl := [[77], [78], [79], [80], [81], [82], [83], [84], [85], [86], [87], [88], [89], [90], [91], [92], [91]]) (live := [[], [], [], [], [3, 14, 16], [3, 14, 16], [3, 14, 16], [3, 14, 16], [3, 14, 16], [3, 14, 16], [3, 14, 16], [3, 14, 16], [3, 14, 16], [3], [], [3, 14, 16], []]) (late := [3, 14, 16]) (brk := [16]) (B := w.heap.size) (J := fun u => Below u1.heap.size u1 u) (Φ := fun ix f u => match ix with | 0 => ∃ k, f 77 = .slice (some ⟨k, 0, none⟩) 0 0 ∧ u.ownsRow u1.heap.size 3 1 (f 77) 0 (icells []) | 1 => f 78 = .pointer (some ⟨w.heap.size, 1, none⟩) | 2 => f 79 = .slice C.pd C.D.length C.cd | 3 => u.ownsRow u1.heap.size 3 1 (f 80) C.D.length (icells C.D) | 4 => f 81 = .pointer (some ⟨w.heap.size, 2, none⟩) | 5 => f 82 = .slice (some ⟨c, o, none⟩) C.U.length C.cu | 6 => f 83 = .pointer (some ⟨w.heap.size, 2, none⟩) | 7 => f 84 = .slice (some ⟨c, o, none⟩) C.U.length C.cu | 8 => f 85 = .int .i64 C.U.length | 9 => f 86 = .int .i64 m | 10 => f 87 = .pointer (some ⟨c, o + m * 3, none⟩) | 11 => f 88 = .pointer (some ⟨c, o + m * 3, none⟩) | 12 => f 89 = .int .i64 id | 13 => ∃ k, f 90 = .slice (some ⟨k, 0, none⟩) 1 1 ∧ Cell1 u k (.int .i64 id) | 14 => u.ownsRow u1.heap.size 3 1 (f 91) (C.D ++ [id]).length (icells (C.D ++ [id])) | 15 => f 92 = .pointer (some ⟨w.heap.size, 1, none⟩) | 16 => SpW b w (.slice C.pi C.I.length C.ci) (f 91) (.slice C.pu C.U.length C.cu) u ∧ u.ownsRow u1.heap.size 3 1 (f 91) (C.D ++ [id]).length (icells (C.D ++ [id])) | _ => True) (by kernel_rfl) _ rfl (by kernel_rfl) (by kernel_rfl) (by show w.heap.size ≤ u1.heap.size; omega) ((Below.refl u1.heap.size u1).drew) (fun u v h hb => below_next h hb) ?_ ?_ ?_ ?_
      · intro jx f g u u2 hs hb h
        match jx, hs, h with
        | 0, hs, h =>
          have e77 := hs 77 (by decide)
          simp only [e77]
          exact (by obtain ⟨k, h1, h2⟩ := h; exact ⟨k, h1, owns_below h2 hb⟩)
        | 1, hs, h =>
          have e78 := hs 78 (by decide)
          simp only [e78]
          exact h
        | 2, hs, h =>
          have e79 := hs 79 (by decide)
          simp only [e79]
          exact h
        | 3, hs, h =>
          have e80 := hs 80 (by decide)
          simp only [e80]
          exact owns_below h hb
        | 4, hs, h =>
          have e81 := hs 81 (by decide)
          simp only [e81]
          exact h
        | 5, hs, h =>
          have e82 := hs 82 (by decide)
          simp only [e82]
          exact h
        | 6, hs, h =>
          have e83 := hs 83 (by decide)
          simp only [e83]
          exact h
        | 7, hs, h =>
          have e84 := hs 84 (by decide)
          simp only [e84]
          exact h
        | 8, hs, h =>
          have e85 := hs 85 (by decide)
          simp only [e85]
          exact h
        | 9, hs, h =>
          have e86 := hs 86 (by decide)
          simp only [e86]
          exact h
        | 10, hs, h =>
          have e87 := hs 87 (by decide)
          simp only [e87]
          exact h
        | 11, hs, h =>
          have e88 := hs 88 (by decide)
          simp only [e88]
          exact h
        | 12, hs, h =>
          have e89 := hs 89 (by decide)
          simp only [e89]
          exact h
        | 13, hs, h =>
          have e90 := hs 90 (by decide)
          simp only [e90]
          exact (by obtain ⟨k, h1, h2⟩ := h; exact ⟨k, h1, h2.low hb⟩)
        | 14, hs, h =>
          have e91 := hs 91 (by decide)
          simp only [e91]
          exact owns_below h hb
        | 15, hs, h =>
          have e92 := hs 92 (by decide)
          simp only [e92]
          exact h
        | 16, hs, h =>
          have e91 := hs 91 (by decide)
          simp only [e91]
          exact ⟨spw_stay h.1 hlt hb, owns_below h.2 hb⟩
        | _ + 17, _, h => exact h
      · intro ix o hix hne f u hold hbe hgr hJ huse
        obtain ⟨kt, kc, kf⟩ := evF_all f
        match ix, hix, hne with
        | 0, hix, _ =>
          simp only [List.getElem?_cons_zero, Option.some.injEq] at hix
          subst hix
          have hgr2 : u1.heap.size ≤ u.heap.size := hgr
          refine gives_K fun K hK => ?_
          go_simp
          exact gives_value (hK _ _ ⟨below_alloc _ _, u.heap.size, by simp [upF], by simpa [upF] using owns_base (iowns_empty u) hgr2⟩)
        | 1, hix, _ =>
          simp only [List.getElem?_cons_zero, List.getElem?_cons_succ, Option.some.injEq] at hix
          subst hix
          have h3 : f 3 = .pointer (some ⟨w.heap.size, 0, none⟩) := (hold 3 (by kernel_rfl)).trans rfl
          refine gives_K fun K hK => ?_
          go_simp
          exact gives_value (hK _ _ ⟨Below.refl _ _, by simp [upF]⟩)
        | 2, hix, _ =>
          simp only [List.getElem?_cons_zero, List.getElem?_cons_succ, Option.some.injEq] at hix
          subst hix
          have u1 := huse 1 (by decide)
          simp only at u1
          have hJw := hJ (by kernel_rfl)
          obtain ⟨xl, x0, x1, x2, xf⟩ := (HW1.out.low hlt hlo hJw).box
          refine gives_K fun K hK => ?_
          go_simp
          exact gives_value (hK _ _ ⟨Below.refl _ _, by simp [upF]⟩)
        | 3, _, hne => exact absurd (by decide) hne
        | 4, hix, _ =>
          simp only [List.getElem?_cons_zero, List.getElem?_cons_succ, Option.some.injEq] at hix
          subst hix
          have h3 : f 3 = .pointer (some ⟨w.heap.size, 0, none⟩) := (hold 3 (by kernel_rfl)).trans rfl
          refine gives_K fun K hK => ?_
          go_simp
          exact gives_value (hK _ _ ⟨Below.refl _ _, by simp [upF]⟩)
        | 5, hix, _ =>
          simp only [List.getElem?_cons_zero, List.getElem?_cons_succ, Option.some.injEq] at hix
          subst hix
          have u4 := huse 4 (by decide)
          simp only at u4
          have hJw := hJ (by kernel_rfl)
          obtain ⟨xl, x0, x1, x2, xf⟩ := (HW1.out.low hlt hlo hJw).box
          rw [HPA.out] at x2
          refine gives_K fun K hK => ?_
          go_simp
          exact gives_value (hK _ _ ⟨Below.refl _ _, by simp [upF]⟩)
        | 6, hix, _ =>
          simp only [List.getElem?_cons_zero, List.getElem?_cons_succ, Option.some.injEq] at hix
          subst hix
          have h3 : f 3 = .pointer (some ⟨w.heap.size, 0, none⟩) := (hold 3 (by kernel_rfl)).trans rfl
          refine gives_K fun K hK => ?_
          go_simp
          exact gives_value (hK _ _ ⟨Below.refl _ _, by simp [upF]⟩)
        | 7, hix, _ =>
          simp only [List.getElem?_cons_zero, List.getElem?_cons_succ, Option.some.injEq] at hix
          subst hix
          have u6 := huse 6 (by decide)
          simp only at u6
          have hJw := hJ (by kernel_rfl)
          obtain ⟨xl, x0, x1, x2, xf⟩ := (HW1.out.low hlt hlo hJw).box
          rw [HPA.out] at x2
          refine gives_K fun K hK => ?_
          go_simp
          exact gives_value (hK _ _ ⟨Below.refl _ _, by simp [upF]⟩)
        | 8, hix, _ =>
          simp only [List.getElem?_cons_zero, List.getElem?_cons_succ, Option.some.injEq] at hix
          subst hix
          have u7 := huse 7 (by decide)
          simp only at u7
          refine gives_K fun K hK => ?_
          go_simp
          exact gives_value (hK _ _ ⟨Below.refl _ _, by simp [upF]⟩)
        | 9, hix, _ =>
          simp only [List.getElem?_cons_zero, List.getElem?_cons_succ, Option.some.injEq] at hix
          subst hix
          have u8 := huse 8 (by decide)
          simp only at u8
          refine gives_K fun K hK => ?_
          go_simp
          exact gives_value (hK _ _ ⟨Below.refl _ _, by simp [upF]⟩)
        | 10, hix, _ =>
          simp only [List.getElem?_cons_zero, List.getElem?_cons_succ, Option.some.injEq] at hix
          subst hix
          have u5 := huse 5 (by decide)
          have u9 := huse 9 (by decide)
          simp only at u5 u9
          refine gives_K fun K hK => ?_
          go_simp
          exact gives_value (hK _ _ ⟨Below.refl _ _, by simp [upF]⟩)
        | 11, hix, _ =>
          simp only [List.getElem?_cons_zero, List.getElem?_cons_succ, Option.some.injEq] at hix
          subst hix
          have u10 := huse 10 (by decide)
          simp only at u10
          refine gives_K fun K hK => ?_
          go_simp
          exact gives_value (hK _ _ ⟨Below.refl _ _, by simp [upF]⟩)
        | 12, hix, _ =>
          simp only [List.getElem?_cons_zero, List.getElem?_cons_succ, Option.some.injEq] at hix
          subst hix
          have u11 := huse 11 (by decide)
          simp only at u11
          have hJw := hJ (by kernel_rfl)
          have k0 := HKC.out u hJw
          refine gives_K fun K hK => ?_
          go_simp
          exact gives_value (hK _ _ ⟨Below.refl _ _, by simp [upF]⟩)
        | 13, hix, _ =>
          simp only [List.getElem?_cons_zero, List.getElem?_cons_succ, Option.some.injEq] at hix
          subst hix
          have u12 := huse 12 (by decide)
          simp only at u12
          refine gives_K fun K hK => ?_
          go_simp
          exact gives_value (hK _ _ ⟨below_alloc _ _, u.heap.size, by simp [upF], cell1_new u (.int .i64 id) 3⟩)
        | 14, _, hne => exact absurd (by decide) hne
        | 15, hix, _ =>
          simp only [List.getElem?_cons_zero, List.getElem?_cons_succ, Option.some.injEq] at hix
          subst hix
          have h3 : f 3 = .pointer (some ⟨w.heap.size, 0, none⟩) := (hold 3 (by kernel_rfl)).trans rfl
          refine gives_K fun K hK => ?_
          go_simp
          exact gives_value (hK _ _ ⟨Below.refl _ _, by simp [upF]⟩)
        | 16, _, hne => exact absurd (by decide) hne
        | ix + 17, hix, _ => simp at hix
      · intro ix o hix hin f u hold hbe hgr hJ huse
        obtain ⟨kt, kc, kf⟩ := evF_all f
        match ix, hix, hin with
        | 0, _, hin => exact absurd hin (by decide)
        | 1, _, hin => exact absurd hin (by decide)
        | 2, _, hin => exact absurd hin (by decide)
        | 3, hix, _ =>
          simp only [List.getElem?_cons_zero, List.getElem?_cons_succ, Option.some.injEq] at hix
          subst hix
          have u0 := huse 0 (by decide)
          have u2 := huse 2 (by decide)
          simp only at u0 u2
          have hJw := hJ (by kernel_rfl)
          obtain ⟨k0, h77, ho77⟩ := u0
          refine gives_append_any (.tmp 77) (.tmp 79) 26 3 rfl u1.heap.size i0 _ 1 8 Tryd.underlying26 hi0 hz0 hz1 hz2 rfl (by decide) (f 77) 0 (icells []) (kt 77) ho77 C.pd C.D.length C.cd (icells C.D) ((kt 79).trans u2) (by unfold icells; rw [List.length_map, Nat.mul_one]) (HSRC.out u hJw) HND.out (icells_one _) (by unfold maxLen; omega) (by omega) hgr ?_
          intro v2 u2 hown hg
          rw [Nat.zero_add] at hown
          refine ⟨hg.size, grown_below hbe (Nat.le_trans (by show w.heap.size ≤ u1.heap.size; omega) hgr) hg (fun k hk => by have := owns_block ho77 k hk; omega), hown, fun _ => grown_below hJw hJw.size hg (fun k hk => owns_block ho77 k hk), ?_⟩
          intro jx hji hl hr hs h
          match jx, hji, hl, hr, hs, h with
          | 0, _, hl, _, _, _ => exact absurd hl (by decide)
          | 1, _, hl, _, _, _ => exact absurd hl (by decide)
          | 2, _, hl, _, _, _ => exact absurd hl (by decide)
          | 3, hji, _, _, _, _ => exact absurd rfl hji
          | 4, _, _, hr, hs, h =>
            have e81 := hs 81 (by decide)
            simp only [e81]
            exact h
          | 5, _, _, hr, hs, h =>
            have e82 := hs 82 (by decide)
            simp only [e82]
            exact h
          | 6, _, _, hr, hs, h =>
            have e83 := hs 83 (by decide)
            simp only [e83]
            exact h
          | 7, _, _, hr, hs, h =>
            have e84 := hs 84 (by decide)
            simp only [e84]
            exact h
          | 8, _, _, hr, hs, h =>
            have e85 := hs 85 (by decide)
            simp only [e85]
            exact h
          | 9, _, _, hr, hs, h =>
            have e86 := hs 86 (by decide)
            simp only [e86]
            exact h
          | 10, _, _, hr, hs, h =>
            have e87 := hs 87 (by decide)
            simp only [e87]
            exact h
          | 11, _, _, hr, hs, h =>
            have e88 := hs 88 (by decide)
            simp only [e88]
            exact h
          | 12, _, _, hr, hs, h =>
            have e89 := hs 89 (by decide)
            simp only [e89]
            exact h
          | 13, _, _, hr, hs, h =>
            have e90 := hs 90 (by decide)
            simp only [e90]
            obtain ⟨k, h90, hc1⟩ := h
            refine ⟨k, h90, ch1N hc1 hg fun e => ?_⟩
            rw [h77] at e ho77
            obtain rfl : k0 = k := Option.some.inj e
            exact cap_nil ho77 hc1
          | 14, _, hl, _, _, _ => exact absurd hl (by decide)
          | 15, _, _, hr, hs, h =>
            have e92 := hs 92 (by decide)
            simp only [e92]
            exact h
          | 16, _, hl, _, _, _ => exact absurd hl (by decide)
          | jx + 17, _, hl, _, _, _ => exact absurd hl (by simp)
        | 4, _, hin => exact absurd hin (by decide)
        | 5, _, hin => exact absurd hin (by decide)
        | 6, _, hin => exact absurd hin (by decide)
        | 7, _, hin => exact absurd hin (by decide)
        | 8, _, hin => exact absurd hin (by decide)
        | 9, _, hin => exact absurd hin (by decide)
        | 10, _, hin => exact absurd hin (by decide)
        | 11, _, hin => exact absurd hin (by decide)
        | 12, _, hin => exact absurd hin (by decide)
        | 13, _, hin => exact absurd hin (by decide)
        | 14, hix, _ =>
          simp only [List.getElem?_cons_zero, List.getElem?_cons_succ, Option.some.injEq] at hix
          subst hix
          have u3 := huse 3 (by decide)
          have u13 := huse 13 (by decide)
          simp only at u3 u13
          have hJw := hJ (by kernel_rfl)
          obtain ⟨k, h90, hc1⟩ := u13
          refine gives_append_any (.tmp 80) (.tmp 90) 26 3 rfl u1.heap.size i0 _ 1 8 Tryd.underlying26 hi0 hz0 hz1 hz2 rfl (by decide) (f 80) C.D.length (icells C.D) (kt 80) u3 (some ⟨k, 0, none⟩) 1 1 [.int .i64 id] ((kt 90).trans h90) rfl (fun ad he => by cases he; exact hc1.news) (fun e => by cases e) (by intro x hx; obtain rfl := List.mem_singleton.1 hx; rfl) (by unfold maxLen; omega) (by omega) hgr ?_
          intro v2 u2 hown hg
          refine ⟨hg.size, grown_below hbe (Nat.le_trans (by show w.heap.size ≤ u1.heap.size; omega) hgr) hg (fun k hk => by have := owns_block u3 k hk; omega), by rw [List.length_append, List.length_singleton]; unfold icells at hown ⊢; rw [List.map_append]; exact hown, fun _ => grown_below hJw hJw.size hg (fun k hk => owns_block u3 k hk), ?_⟩
          intro jx hji hl hr hs h
          match jx, hji, hl, hr, hs, h with
          | 0, _, hl, _, _, _ => exact absurd hl (by decide)
          | 1, _, hl, _, _, _ => exact absurd hl (by decide)
          | 2, _, hl, _, _, _ => exact absurd hl (by decide)
          | 3, _, hl, _, _, _ => exact absurd hl (by decide)
          | 4, _, _, hr, hs, h =>
            have e81 := hs 81 (by decide)
            simp only [e81]
            exact h
          | 5, _, _, hr, hs, h =>
            have e82 := hs 82 (by decide)
            simp only [e82]
            exact h
          | 6, _, _, hr, hs, h =>
            have e83 := hs 83 (by decide)
            simp only [e83]
            exact h
          | 7, _, _, hr, hs, h =>
            have e84 := hs 84 (by decide)
            simp only [e84]
            exact h
          | 8, _, _, hr, hs, h =>
            have e85 := hs 85 (by decide)
            simp only [e85]
            exact h
          | 9, _, _, hr, hs, h =>
            have e86 := hs 86 (by decide)
            simp only [e86]
            exact h
          | 10, _, _, hr, hs, h =>
            have e87 := hs 87 (by decide)
            simp only [e87]
            exact h
          | 11, _, _, hr, hs, h =>
            have e88 := hs 88 (by decide)
            simp only [e88]
            exact h
          | 12, _, _, hr, hs, h =>
            have e89 := hs 89 (by decide)
            simp only [e89]
            exact h
          | 13, _, hl, _, _, _ => exact absurd hl (by decide)
          | 14, hji, _, _, _, _ => exact absurd rfl hji
          | 15, _, _, hr, hs, h =>
            have e92 := hs 92 (by decide)
            simp only [e92]
            exact h
          | 16, _, hl, _, _, _ => exact absurd hl (by decide)
          | jx + 17, _, hl, _, _, _ => exact absurd hl (by simp)
        | 15, _, hin => exact absurd hin (by decide)
        | 16, hix, _ =>
          simp only [List.getElem?_cons_zero, List.getElem?_cons_succ, Option.some.injEq] at hix
          subst hix
          have u14 := huse 14 (by decide)
          have u15 := huse 15 (by decide)
          simp only at u14 u15
          have hJw := hJ (by kernel_rfl)
          have hS := (HW1.out.low hlt hlo hJw).set1 hlt (f 91)
          have hO := ownsRow_setCell_below u14 (a := ⟨w.heap.size, 1, none⟩) (show w.heap.size < u1.heap.size by omega) (f 91)
          obtain ⟨xl, x0, x1, x2, xf⟩ := (HW1.out.low hlt hlo hJw).box
          obtain ⟨p91, c91, e91⟩ := own_ex u14
          rw [List.length_append, List.length_singleton] at e91
          have HS : Hid (SpW b w (.slice C.pi C.I.length C.ci) (f 91) (.slice C.pu C.U.length C.cu) (u.setCell ⟨w.heap.size, 1, none⟩ (.slice p91 (C.D.length + 1) c91))) := Lib.hid (by rw [← e91]; exact hS)
          have HO : Hid ((u.setCell ⟨w.heap.size, 1, none⟩ (.slice p91 (C.D.length + 1) c91)).ownsRow u1.heap.size 3 1 (f 91) (C.D ++ [id]).length (icells (C.D ++ [id]))) := Lib.hid (by rw [← e91]; exact hO)
          clear hS hO u14 x0 x2
          refine gives_K fun K hK => ?_
          go_simp
          refine gives_skip (hK _ _ ⟨by rw [set_size]; exact Nat.le_refl _, hbe.setCell (by exact Nat.le_refl _) _, ⟨HS.out, HO.out⟩, fun hbk => absurd (by decide) hbk, ?_⟩)
          intro jx hji hl hr hs h
          match jx, hji, hl, hr, hs, h with
          | 0, _, hl, _, _, _ => exact absurd hl (by decide)
          | 1, _, hl, _, _, _ => exact absurd hl (by decide)
          | 2, _, hl, _, _, _ => exact absurd hl (by decide)
          | 3, _, hl, _, _, _ => exact absurd hl (by decide)
          | 4, _, _, hr, hs, h =>
            have e81 := hs 81 (by decide)
            simp only [e81]
            exact h
          | 5, _, _, hr, hs, h =>
            have e82 := hs 82 (by decide)
            simp only [e82]
            exact h
          | 6, _, _, hr, hs, h =>
            have e83 := hs 83 (by decide)
            simp only [e83]
            exact h
          | 7, _, _, hr, hs, h =>
            have e84 := hs 84 (by decide)
            simp only [e84]
            exact h
          | 8, _, _, hr, hs, h =>
            have e85 := hs 85 (by decide)
            simp only [e85]
            exact h
          | 9, _, _, hr, hs, h =>
            have e86 := hs 86 (by decide)
            simp only [e86]
            exact h
          | 10, _, _, hr, hs, h =>
            have e87 := hs 87 (by decide)
            simp only [e87]
            exact h
          | 11, _, _, hr, hs, h =>
            have e88 := hs 88 (by decide)
            simp only [e88]
            exact h
          | 12, _, _, hr, hs, h =>
            have e89 := hs 89 (by decide)
            simp only [e89]
            exact h
          | 13, _, hl, _, _, _ => exact absurd hl (by decide)
          | 14, _, hl, _, _, _ => exact absurd hl (by decide)
          | 15, _, _, hr, hs, h =>
            have e92 := hs 92 (by decide)
            simp only [e92]
            exact h
          | 16, hji, _, _, _, _ => exact absurd rfl hji
          | jx + 17, _, hl, _, _, _ => exact absurd hl (by simp)
        | ix + 17, hix, _ => simp at hix
      · intro f2 u2 hbe hall
        have u16 := hall 16 (by decide) (by kernel_rfl)
        simp only at u16
        clear hall
        obtain ⟨hw5, ho4⟩ := u16
        have HW5 := Lib.hid hw5
        have HO4 := Lib.hid ho4
        obtain ⟨p4, c4, e4⟩ := own_ex ho4
        rw [List.length_append, List.length_singleton] at e4
        rw [e4] at HW5 HO4
        clear hw5 ho4 hbe HW1
        simp only [putAll, List.foldl_cons, List.foldl_nil, Act.put, List.setIfInBounds_toArray, List.set_cons_succ, List.set_cons_zero]
        clear e4
        obtain ⟨xl, x0, x1, x2, xf⟩ := HW5.out.box
        obtain ⟨yl, y0', y1', y2', yf⟩ := HW5.out.res
        go_wp2
        obtain ⟨⟨-, s0, s1, s2, -⟩, htp, hst, hzz, hkk⟩ := HW5.out.fin hlt rfl
        have hcf := HC.out _ hst
        exact bodyPost_ret (v := .agg #[.slice C.pi C.I.length C.ci, .slice p4 (C.D.length + 1) c4, .slice C.pu C.U.length C.cu]) (by simp [results, Tryd.results50, go_sem, s0, s1, s2]) rfl
          ⟨⟨C.pi, C.ci, C.I, p4, c4, C.D ++ [id], C.pu, C.cu, C.U⟩, by simp [Chg.v], ⟨hcf.ins, numAt_own (own_fin HO4.out hlo hkk), hcf.upd, hcf.inl, by dsimp only; rw [List.length_append, List.length_singleton]; omega, hcf.ul, hcf.isz, hcf.usz, (own_len HO4.out).2, hcf.ucap⟩, htp, hst⟩
    · have hud : decide ((0 : Int) < C.U.length) = false := decide_eq_false (by omega)
      have HW5 := HW1
      clear HW1
      obtain ⟨xl, x0, x1, x2, xf⟩ := HW5.out.box
      obtain ⟨yl, y0, y1, y2, yf⟩ := HW5.out.res
      go_wp2
      obtain ⟨⟨-, s0, s1, s2, -⟩, htp, hst, hzz, hkk⟩ := HW5.out.fin hlt rfl
      have hcf := HC.out _ hst
      exact bodyPost_ret (v := .agg #[.slice C.pi C.I.length C.ci, .slice C.pd C.D.length C.cd, .slice C.pu C.U.length C.cu]) (by simp [results, Tryd.results50, go_sem, s0, s1, s2]) rfl
        ⟨C, rfl, hcf, htp, hst⟩
  · have hlo := HW1.out.lo
    obtain ⟨xl, x0, x1, x2, xf⟩ := HW1.out.box
    by_cases hu0 : 0 < C.U.length
    · have hud : decide ((0 : Int) < C.U.length) = true := decide_eq_true (by omega)
      have hp0 : 0 < P.length := by have := HPL.out; omega
      obtain ⟨i0, hi0, hz0, hz1, hz2⟩ := info_parts info_pair
      obtain ⟨c, o, hpu, k0, k1, k2⟩ := HPC.out u1 HW1.out.step 0 hp0
      obtain ⟨c', o', -, -, -, -, hp', hc, -⟩ := (HC.out u1 HW1.out.step).upd 0 hu0
      rw [hpu] at hp' x2
      cases hp'
      have HPA := Lib.hid hpu
      simp only [Nat.zero_mul, Nat.add_zero] at k0 k1 k2
      have hui : (0 : Int) < (C.U.length : Int) := by omega
      obtain ⟨y0, hy0⟩ : ∃ y, P[0].2.1.1 = y := ⟨_, rfl⟩
      obtain ⟨y1, hy1⟩ : ∃ y, P[0].2.2.1 = y := ⟨_, rfl⟩
      obtain ⟨id, hid⟩ : ∃ y, P[0].1 = y := ⟨_, rfl⟩
      rw [hid] at k0
      rw [hy0] at k1
      rw [hy1] at k2
      have HE0 : Hid (pcells [P[0]] = [.int .i64 id, y0, y1]) := Lib.hid (by rw [← hid, ← hy0, ← hy1]; rfl)
      have HY : Hid (y0.oneCell' = true ∧ y1.oneCell' = true) := Lib.hid (by
        have := (HPG.out u1 HW1.out.step _ (List.getElem_mem hp0)).1
        rw [← hy0, ← hy1]
        exact ⟨this.1.one, this.2.one⟩)
      have HKC : Hid (∀ V, Below u1.heap.size u1 V → V.cell? ⟨c, o, none⟩ = some (.int .i64 id) ∧ V.cell? ⟨c, o + 1, none⟩ = some y0 ∧ V.cell? ⟨c, o + 2, none⟩ = some y1) := Lib.hid fun V hV => ⟨by rw [hV.cell (by exact hc)]; exact k0, by rw [hV.cell (by exact hc)]; exact k1, by rw [hV.cell (by exact hc)]; exact k2⟩
      clear hpu hid hy0 hy1
      go_upto_region 3 with (fail)
      have hsrc : ∀ V, Below u1.heap.size u1 V → ∀ ad, some (⟨c, o, none⟩ : Addr) = some ad → ∀ j y, (pcells P)[j]? = some y → V.cell? (ad.add j) = some y := fun V hV ad he => pairs_news (HPC.out V (stepB HW1.out.step hV (by omega))) ad (by rw [HPA.out]; exact he)
      have hd1 : Below u1.heap.size u1 u1.drew := (Below.refl _ _).drew
      have h1 : CopyOK u1 (u1.drew.alloc (.cells #[] 86)) u1.heap.size c o P := ⟨powns_empty u1.drew, hsrc _ (below_new hd1 _), below_new hd1 _, Nat.le_refl _, by rw [size_alloc]; exact Nat.lt_succ_self _⟩
      have h2 : CopyOK u1 ((u1.drew.alloc (.cells #[] 86)).alloc (.cells #[.int .i64 id, y0, y1] 86)) u1.heap.size c o P := h1.to (below_alloc _ _) (hsrc _ (below_new (below_new hd1 _) _))
      have hp3 := powns_empty (u1.drew.alloc (.cells #[.int .i64 id, y0, y1] 86))
      rw [size_alloc] at hp3
      have h3 : CopyOK u1 ((u1.drew.alloc (.cells #[.int .i64 id, y0, y1] 86)).alloc (.cells #[] 86)) (u1.heap.size + 1) c o P := ⟨owns_base hp3 (Nat.le_succ _), hsrc _ (below_new (below_new hd1 _) _), below_new (below_new hd1 _) _, Nat.le_succ _, by rw [size_alloc, size_alloc]; exact Nat.lt_succ_self _⟩
      have hc2 : Cell3 ((u1.drew.alloc (.cells #[] 86)).alloc (.cells #[.int .i64 id, y0, y1] 86)) (u1.heap.size + 1) (.int .i64 id) y0 y1 := (cell3_new (u1.drew.alloc (.cells #[] 86)) _ _ _ _).at (size_alloc _ _)
      have hc3 : Cell3 ((u1.drew.alloc (.cells #[.int .i64 id, y0, y1] 86)).alloc (.cells #[] 86)) u1.heap.size (.int .i64 id) y0 y1 := (cell3_new u1.drew _ _ _ _).low (below_alloc _ _)
      have HK1 := Lib.hid h1
      have HK2 := Lib.hid h2
      have HK3 := Lib.hid h3
      have HC2 := Lib.hid hc2
      have HC3 := Lib.hid hc3
      clear hsrc hd1 h1 h2 hp3 h3 hc2 hc3
      go_region_law (first
        | (refine step_append_any (by rfl) (.tmp 11) (.tmp 13) 77 86 (by rfl) u1.heap.size i0 _ 3 56 Tryd.underlying77 hi0 hz0 hz1 hz2 rfl (by decide) _ 0 (pcells []) (by rfl) ?_ (some ⟨c, o, none⟩) C.U.length C.cu (pcells P) (by rfl) (by rw [pcells_length, HPL.out]) ?_ (fun e => by cases e) (pcells_one (fun x hx => (HPG.out _ HW1.out.step x hx).1)) (by unfold maxLen; omega) (by omega) ?_ ?_; (first | exact HK1.out.own | exact HK2.out.own | exact HK3.out.own); (first | exact HK1.out.src | exact HK2.out.src | exact HK3.out.src); (first | exact HK1.out.bel.size | exact HK2.out.bel.size | exact HK3.out.bel.size); intro v2 w2 hown2 hg2; (first | have hb2 := grown_below HK1.out.bel HK1.out.bel.size hg2 (fun k hk => by cases hk; exact HK1.out.lo) | have hb2 := grown_below HK2.out.bel HK2.out.bel.size hg2 (fun k hk => by cases hk; exact HK2.out.lo) | have hb2 := grown_below HK3.out.bel HK3.out.bel.size hg2 (fun k hk => by cases hk; exact HK3.out.lo)); (have HW2 := Lib.hid (HW1.out.low hlt hlo hb2)); (have HO2 : Hid (w2.ownsRow u1.heap.size 86 3 v2 P.length (pcells P)) := Lib.hid (by rw [Nat.zero_add, ← HPL.out] at hown2; exact hown2)); (first | have HC4 := Lib.hid (chN HC2.out hg2 (fun e => by have h : u1.heap.size = u1.heap.size + 1 := Option.some.inj e; omega)) | have HC4 := Lib.hid (chN HC3.out hg2 (fun e => by have h : u1.heap.size + 1 = u1.heap.size := Option.some.inj e; omega)) | skip); obtain ⟨t0, t1, t2, t3, t4⟩ := HW2.out.box; rw [HPA.out] at t3; obtain ⟨q0, q1, q2⟩ := HKC.out w2 hb2; (have hz2' := hb2.size); clear hown2)
        | (refine step_append_any (by rfl) (.tmp 14) (.tmp 19) 77 86 (by rfl) u1.heap.size i0 _ 3 56 Tryd.underlying77 hi0 hz0 hz1 hz2 rfl (by decide) v2 P.length (pcells P) (by rfl) ?_ _ 1 1 [.int .i64 id, y0, y1] (by rfl) rfl ?_ (fun e => by cases e) ?_ (by unfold maxLen; omega) (by omega) ?_ ?_; (first | exact HO2.out | exact owns_below HO2.out (below_alloc _ _)); (intro ad he; cases he; first | exact pair_news (cell3_new w2 (.int .i64 id) y0 y1 _).c0 (cell3_new w2 (.int .i64 id) y0 y1 _).c1 (cell3_new w2 (.int .i64 id) y0 y1 _).c2 | exact pair_news HC4.out.c0 HC4.out.c1 HC4.out.c2); (intro u hu; simp only [List.mem_cons, List.not_mem_nil, or_false] at hu; rcases hu with rfl | rfl | rfl; rfl; exact HY.out.1; exact HY.out.2); (first | exact hz2' | exact Nat.le_trans hz2' (below_alloc w2 _).size); intro v4 w4 hown4 hg4; (first | have hb4 := grown_below ((below_alloc w2 (.cells #[.int .i64 id, y0, y1] 86)).mono hz2') (Nat.le_trans hz2' (below_alloc w2 (.cells #[.int .i64 id, y0, y1] 86)).size) hg4 (fun k hk => owns_block HO2.out k hk) | have hb4 := grown_below (Below.refl u1.heap.size w2) hz2' hg4 (fun k hk => owns_block HO2.out k hk)); (have hw4 := HW2.out.low hlt hlo hb4); obtain ⟨p4, c4, e4⟩ := own_ex hown4; subst e4; (have HO4 : Hid ((w4.setCell ⟨w.heap.size, 2, none⟩ (.slice p4 (P.length + 1) c4)).ownsRow u1.heap.size 86 3 (.slice p4 (P.length + 1) c4) (P ++ [P[0]]).length (pcells (P ++ [P[0]]))) := Lib.hid (by rw [List.length_append, List.length_singleton, pcells_append, HE0.out]; exact ownsRow_setCell_below hown4 (a := ⟨w.heap.size, 2, none⟩) (show w.heap.size < u1.heap.size by omega) _)); (have HW5 := Lib.hid (hw4.set2 hlt (.slice p4 (P.length + 1) c4))); obtain ⟨zl, z0, z1, z2, zf⟩ := hw4.box; clear hown4 hg4 hb4 hw4))
      all_goals
        clear xl x0 x1 x2 xf zl z0 z1 z2 zf t0 t1 t2 t3 t4 q0 q1 q2 HW2 HO2 HK1 HK2 HK3
        generalize World.setCell _ _ _ = w5 at HW5 HO4 ⊢
        obtain ⟨xl, x0, x1, x2, xf⟩ := HW5.out.box
        obtain ⟨yl, y0', y1', y2', yf⟩ := HW5.out.res
        go_wp2
        obtain ⟨⟨-, s0, s1, s2, -⟩, htp, hst, hzz, hkk⟩ := HW5.out.fin hlt rfl
        have hcf := HC.out _ hst
        exact bodyPost_ret (v := .agg #[.slice C.pi C.I.length C.ci, .slice C.pd C.D.length C.cd, .slice p4 (P.length + 1) c4]) (by simp [results, Tryd.results50, go_sem, s0, s1, s2]) rfl
          ⟨_, by unfold Chg.v; dsimp only; rw [List.length_map, List.length_append, List.length_singleton], chgU hcf (own_fin HO4.out hlo hkk) (fun x hx => by
          rcases List.mem_append.1 hx with hx | hx
          · exact HPG.out _ hst x hx
          · obtain rfl := List.mem_singleton.1 hx
            exact HPG.out _ hst _ (List.getElem_mem hp0)) (by rw [List.length_append, List.length_singleton]; omega), htp, hst⟩
    · have hud : decide ((0 : Int) < C.U.length) = false := decide_eq_false (by omega)
      have HW5 := HW1
      clear HW1
      obtain ⟨xl, x0, x1, x2, xf⟩ := HW5.out.box
      obtain ⟨yl, y0, y1, y2, yf⟩ := HW5.out.res
      go_wp2
      obtain ⟨⟨-, s0, s1, s2, -⟩, htp, hst, hzz, hkk⟩ := HW5.out.fin hlt rfl
      have hcf := HC.out _ hst
      exact bodyPost_ret (v := .agg #[.slice C.pi C.I.length C.ci, .slice C.pd C.D.length C.cd, .slice C.pu C.U.length C.cu]) (by simp [results, Tryd.results50, go_sem, s0, s1, s2]) rfl
        ⟨C, rfl, hcf, htp, hst⟩
end Go.Proofs.YtgaihglploedaaaDoor
