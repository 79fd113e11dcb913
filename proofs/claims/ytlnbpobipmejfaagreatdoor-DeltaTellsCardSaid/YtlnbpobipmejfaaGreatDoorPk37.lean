/-
  Several texts in one.
-/
import Derived.Test.YtlnbpobipmejfaaGreatDoorPk36
import Derived.Test.YtlnbpobipmejfaaGreatDoorPk34
import Derived.Test.YtlnbpobipmejfaaGreatDoorPk22
import Derived.Test.YtlnbpobipmejfaaGreatDoorPk13
import Derived.Test.YtlnbpobipmejfaaGreatDoorPk04
import Derived.Sort.Grow
import Derived.Shelf.SlGeneric
import Derived.Shelf.SlLaysF
import Derived.Ground.SlsfProg
import Derived.Test.YtlnbpobipmejfaaGreatDoorProg
/-
  Between of package delta.
-/
namespace Go.Proofs.YtlnbpobipmejfaaGreatDoor
set_option maxRecDepth 100000
open Go.RowKit
variable {ls : List Nat}

end Go.Proofs.YtlnbpobipmejfaaGreatDoor
/-
  Rows and Empty of package delta; known of the law.
-/
namespace Go.Proofs.YtlnbpobipmejfaaGreatDoor
set_option maxRecDepth 100000
open Go.RowKit
variable {ls : List Nat}

set_option maxHeartbeats 2000000 in
theorem drows_any (nm : ByteArray) (pi pd pu : Option Addr) (n1 n2 n3 c1 c2 c3 : Nat) (ev : Int) (w : World) :
    Calls Tryz.prog 16 #[.agg #[.string nm, .slice pi n1 c1, .slice pd n2 c2, .slice pu n3 c3], .int .i64 ev] w fun e w' => e = .returned (.int .i64 (if ev = 1 then n1 else if ev = 2 then n3 else if ev = 3 then n2 else 0)) ∧ Below w.heap.size w w' := by
  have HX := Lib.hid (cell4_new w (.string nm) (.slice pi n1 c1) (.slice pd n2 c2) (.slice pu n3 c3) 25)
  have HB := Lib.hid (below_alloc w (.cells #[.string nm, .slice pi n1 c1, .slice pd n2 c2, .slice pu n3 c3] 25))
  go_enter Tryz.func16, Tryz.ntmps16
  go_upto_region 1 with (fail)
  generalize World.alloc _ _ = W0 at HX HB ⊢
  obtain ⟨xl, x0, x1, x2, x3, -⟩ := HX.out
  by_cases h1 : ev = 1
  · subst h1
    go_wp2
    exact bodyPost_ret (v := .int .i64 n1) (by simp [results, Tryz.results16, go_sem]) rfl ⟨rfl, HB.out⟩
  by_cases h2 : ev = 2
  · subst h2
    go_wp2
    exact bodyPost_ret (v := .int .i64 n3) (by simp [results, Tryz.results16, go_sem]) rfl ⟨rfl, HB.out⟩
  by_cases h3 : ev = 3
  · subst h3
    go_wp2
    exact bodyPost_ret (v := .int .i64 n2) (by simp [results, Tryz.results16, go_sem]) rfl ⟨rfl, HB.out⟩
  have e1 : (ev == 1) = false := by simpa using h1
  have e2 : (ev == 2) = false := by simpa using h2
  have e3 : (ev == 3) = false := by simpa using h3
  go_wp2
  exact bodyPost_ret (v := .int .i64 0) (by simp [results, Tryz.results16, go_sem]) rfl ⟨by first | rfl | rw [if_neg h1, if_neg h2, if_neg h3]; rfl, HB.out⟩
theorem nat_zero_eq (n : Nat) : ((n : Int) == 0) = (n == 0) := by
  cases n with
  | zero => rfl
  | succ n => exact (beq_eq_false_iff_ne.2 (by omega)).trans (beq_eq_false_iff_ne.2 (by omega)).symm
set_option maxHeartbeats 2000000 in
theorem dempty_any (nm : ByteArray) (pi pd pu : Option Addr) (n1 n2 n3 c1 c2 c3 : Nat) (w : World) :
    Calls Tryz.prog 14 #[.agg #[.string nm, .slice pi n1 c1, .slice pd n2 c2, .slice pu n3 c3]] w fun e w' => e = .returned (.bool (n1 == 0 && n2 == 0 && n3 == 0)) ∧ Below w.heap.size w w' := by
  have HX := Lib.hid (cell4_new w (.string nm) (.slice pi n1 c1) (.slice pd n2 c2) (.slice pu n3 c3) 25)
  have HB := Lib.hid (below_alloc w (.cells #[.string nm, .slice pi n1 c1, .slice pd n2 c2, .slice pu n3 c3] 25))
  go_enter Tryz.func14, Tryz.ntmps14
  go_upto_region 1 with (fail)
  generalize World.alloc _ _ = W0 at HX HB ⊢
  obtain ⟨xl, x0, x1, x2, x3, -⟩ := HX.out
  obtain ⟨b1, h1⟩ : ∃ b, (n1 == 0) = b := ⟨_, rfl⟩
  obtain ⟨b2, h2⟩ : ∃ b, (n2 == 0) = b := ⟨_, rfl⟩
  obtain ⟨b3, h3⟩ : ∃ b, (n3 == 0) = b := ⟨_, rfl⟩
  have e1 : ((n1 : Int) == 0) = b1 := (nat_zero_eq n1).trans h1
  have e2 : ((n2 : Int) == 0) = b2 := (nat_zero_eq n2).trans h2
  have e3 : ((n3 : Int) == 0) = b3 := (nat_zero_eq n3).trans h3
  cases b1 <;> cases b2 <;> cases b3
  all_goals
    go_wp2
    exact bodyPost_ret (by simp [results, Tryz.results14, go_sem]; rfl) rfl ⟨by first | rfl | (rw [h1, h2, h3]; rfl), HB.out⟩
abbrev nulls8 : Obj := .cells #[.int .i64 0, .int .i64 0, .string ⟨#[]⟩, .int .i64 0, .int .i64 0, .string ⟨#[]⟩] 55
def nullL : List Val := [(0, 0, ⟨#[]⟩), (0, 0, ⟨#[]⟩)]
theorem null_row (u : World) : RowAt (u.alloc nulls8) (some ⟨u.heap.size, 0, none⟩) nullL := by
  intro j hj
  have hj2 : j < 2 := hj
  obtain rfl | rfl : j = 0 ∨ j = 1 := by omega
  all_goals
    refine ⟨u.heap.size, 0, rfl, by simp, ?_, ?_, ?_⟩
    all_goals go_simp; rfl
theorem one_row {u : World} {p : Addr} {c : Nat} (id : Int) {l : List Val} (hr : RowAt u (some p) l) (hs : l.length * 32 ≤ 140737488355328) : TRowsAt (u.alloc (.cells #[.int .i64 id, .slice (some p) l.length c] 58)) (some ⟨u.heap.size, 0, none⟩) [(id, l)] := by
  intro i hi
  obtain rfl : i = 0 := by simpa using hi
  refine ⟨u.heap.size, 0, some p, c, rfl, by simp, ?_, ?_, hr.low (below_alloc _ _), hs, fun h => by cases h⟩
  · go_simp; rfl
  · go_simp; rfl
def logT (Z c : Nat) (nx : Int) (g : Nat) (id : Int) : Tab := ⟨⟨#[108, 111, 103]⟩, some ⟨Z, 0, none⟩, 2, c, colLog, nx, some ⟨g, 0, none⟩, 1, [(id, nullL)]⟩
theorem log_btw (Z c g h : Nat) : btwO (logT Z c 2 g 1) (logT Z c 3 h 2) = true := by
  show btwO ⟨⟨#[108, 111, 103]⟩, none, 2, 0, colLog, 2, none, 1, [(1, nullL)]⟩ ⟨⟨#[108, 111, 103]⟩, none, 2, 0, colLog, 3, none, 1, [(2, nullL)]⟩ = true
  decide +kernel
theorem null_sized : ValsSized nullL := fun i hi => by
  have hi2 : i < 2 := hi
  obtain rfl | rfl : i = 0 ∨ i = 1 := by omega
  all_goals decide
theorem log_tab {u : World} {Z c g : Nat} {nx id : Int} (hC : ColsAt u (some ⟨Z, 0, none⟩) 2 colLog) (hR : TRowsAt u (some ⟨g, 0, none⟩) [(id, nullL)]) (hn : nx ≤ 9223372036854775807) : TabAt u (logT Z c nx g id) :=
  ⟨by show (⟨#[108, 111, 103]⟩ : ByteArray).size ≤ 9223372036854775807; decide, by show 2 ≤ 9223372036854775807; decide, hC, hR, by show 1 ≤ 1000; decide, fun r hr => by
    obtain rfl := List.mem_singleton.1 hr
    exact null_sized, hn⟩
end Go.Proofs.YtlnbpobipmejfaaGreatDoor
/-
  CompareRows of the program, with the draws: what a sort asks of its comparison.
-/
namespace Go.Proofs.YtlnbpobipmejfaaGreatDoor
set_option maxRecDepth 100000
open Go.RowKit

/-- What was there is as it was, and no draw is taken back. -/
structure Gro (w w' : World) : Prop where
  low : Below w.heap.size w w'
  draws : w.drawn ≤ w'.drawn
theorem Gro.refl (w : World) : Gro w w := ⟨Below.refl _ _, Nat.le_refl _⟩
theorem Gro.trans {a b c : World} (h : Gro a b) (k : Gro b c) : Gro a c := ⟨h.low.trans (k.low.mono h.low.size), Nat.le_trans h.draws k.draws⟩
theorem Gro.alloc {a b : World} (h : Gro a b) (o : Obj) : Gro a (b.alloc o) := ⟨h.low.alloc h.low.size o, h.draws⟩
theorem Gro.drew {a b : World} (h : Gro a b) : Gro a b.drew := ⟨h.low.drew, Nat.le_trans h.draws (Nat.le_succ _)⟩
theorem Gro.of_alloc {a b : World} {o : Obj} (h : Gro (a.alloc o) b) : Gro a b := ((Gro.refl a).alloc o).trans h
/-- Such a world is the old one after some draws, with blocks behind it. -/
theorem Gro.eq {w w' : World} (h : Gro w w') : ∃ q os, w' = Go.Sort.grow (w.drewN q) os := by
  refine ⟨w'.drawn - w.drawn, w'.heap.extract w.heap.size w'.heap.size, ?_⟩
  have hd : w.drawn + (w'.drawn - w.drawn) = w'.drawn := Nat.add_sub_of_le h.draws
  have hh : w.heap ++ w'.heap.extract w.heap.size w'.heap.size = w'.heap := by
    apply Array.ext_getElem?
    intro i
    have hs := h.low.size
    by_cases hi : i < w.heap.size
    · rw [Array.getElem?_append_left hi, h.low.block i hi]
    · rw [Array.getElem?_append_right (by omega), Array.getElem?_extract]
      by_cases hj : i < w'.heap.size
      · rw [if_pos (by omega), show w.heap.size + (i - w.heap.size) = i by omega]
      · rw [if_neg (by omega), Array.getElem?_eq_none (by omega)]
  have h1 := h.low.os
  have h2 := h.low.tape
  have h3 := h.low.output
  cases w
  cases w'
  simp only [Go.Sort.grow, World.drewN] at *
  subst h1 h2 h3
  rw [hd, hh]

set_option maxRecDepth 100000 in
set_option maxHeartbeats 400000 in
theorem compareG_any (k n : Int) (s : ByteArray) (k' n' : Int) (s' : ByteArray) (w : World) :
    Calls Tryz.prog 92 #[.agg #[.int .i64 k, .int .i64 n, .string s], .agg #[.int .i64 k', .int .i64 n', .string s']] w fun e w' => e = .returned (.int .i64 (cmpV k n s k' n' s')) ∧ Gro w w' := by
  obtain ⟨W, hW, hb, hz, c0, c1, c2, d0, d1, d2⟩ := two_boxes w (.int .i64 k) (.int .i64 n) (.string s) (.int .i64 k') (.int .i64 n') (.string s') 55
  have hg : Gro w W := by rw [hW]; exact ((Gro.refl w).alloc _).alloc _
  have HZ := Lib.hid hz
  clear hz hb
  go_enter Tryz.func92, Tryz.ntmps92
  have HW := Lib.hid hW
  clear hW
  go_wp2_with fail
  rw [← HW.out]
  clear HW
  go_still_tail 15, (by kernel_rfl)
  still_call (Tryz.cmp_Compare_int _ _ _)
  repeat still_step
  still_call (cmp64_any _ _ _)
  repeat still_step
  still_call (Tryz.strings_Compare _ _ _)
  try refine wpStill_nil ?_
  have hz := HZ.out
  clear c0 c1 c2 d0 d1 d2 HZ
  have hb' : Gro w W.drew := hg.drew
  have hz' : W.drew.heap.size = w.heap.size + 2 := hz
  change wpList _ _ _ _ _ W.drew
  generalize W.drew = W2 at hb' hz'
  clear hg hz W
  go_wp2_with fail
  refine (or3_any (w.heap.size + 2) 3 (Lib.compareInt k k') (Lib.compareInt n n') (Lib.compareBytes s.data.toList s'.data.toList) _ ?_ ?_ ?_).mono ?_
  · rw [← hz']; go_simp
  · rw [← hz']; go_simp
  · rw [← hz']; go_simp
  rintro e w3 ⟨rfl, rfl⟩
  go_wp2
  go_ret
  exact ⟨rfl, hb'.alloc _⟩

set_option maxHeartbeats 1000000 in
theorem comparefuncG_any (p q : Option Addr) (a b : List Val) (ca cb : Nat) (w : World) (hla : a.length ≤ 9223372036854775807) (hlb : b.length ≤ 9223372036854775807) (ha : RowAt w p a) (hb : RowAt w q b) :
    Calls Tryz.prog 91 #[.slice p a.length ca, .slice q b.length cb, .func (.func 92) #[] #[]] w fun e w' => e = .returned (.int .i64 (cmpRow a b)) ∧ Gro w w' := by
  go_enter Tryz.func91, Tryz.ntmps91
  go_wp2
  go_loopw [7, 8, 9, 10, 13] (fun _ _ _ _ i wr => ∃ k : Nat, k ≤ a.length ∧ k ≤ b.length ∧ i = .int .i64 k ∧ cmpRow (a.drop k) (b.drop k) = cmpRow a b ∧ Gro w wr) (fun _ _ _ _ i _ => a.length - (intOf i).toNat)
  case atStart => exact ⟨0, by omega, by omega, rfl, rfl, Gro.refl _⟩
  case round =>
    obtain ⟨k, hk, hk', rfl, hcmp, hB⟩ := hrel
    have hA1 := ha.low hB.low
    have hB1 := hb.low hB.low
    have HC := Lib.hid hcmp
    clear hcmp
    by_cases hlt : k < a.length
    · by_cases hlt' : k < b.length
      · obtain ⟨c, o, rfl, hc, x0, x1, x2⟩ := hA1 k hlt
        obtain ⟨c', o', rfl, hc', y0, y1, y2⟩ := hB1 k hlt'
        go_wp2_with fail
        refine (compareG_any _ _ _ _ _ _ _).mono ?_
        rintro e w2 ⟨rfl, hb2⟩
        have hB2 := hB.trans hb2.of_alloc.of_alloc
        clear hb2 x0 x1 x2 y0 y1 y2 hA1 hB1 hc hc' hB ha hb
        by_cases hz : cmpVal (vAt a k) (vAt b k) = 0
        · have hz' : (cmpV (vAt a k).1 (vAt a k).2.1 (vAt a k).2.2 (vAt b k).1 (vAt b k).2.1 (vAt b k).2.2 != 0) = false := by
            rw [bne_eq_false_iff_eq]; exact hz
          have HS := Lib.hid ((cmpRow_step hlt hlt' hz).trans HC.out)
          clear hz
          go_wp2
          go_roundw
          case rel => exact ⟨k + 1, by omega, by omega, by go_num, HS.out, hB2⟩
          case measure => simp [intOf]; omega
        · have hz' : (cmpV (vAt a k).1 (vAt a k).2.1 (vAt a k).2.2 (vAt b k).1 (vAt b k).2.1 (vAt b k).2.2 != 0) = true := by
            rw [bne_iff_ne]; exact hz
          have HS := Lib.hid ((cmpRow_stop hlt hlt' hz).trans HC.out)
          clear hz
          go_wp2
          go_ret
          exact ⟨ret_i HS.out, hB2⟩
      · obtain ⟨c, o, rfl, hc, x0, x1, x2⟩ := hA1 k hlt
        have HS := Lib.hid ((cmpRow_long hlt (by omega)).symm.trans HC.out)
        have hB2 := hB.alloc (.cells #[.int .i64 (vAt a k).1, .int .i64 (vAt a k).2.1, .string (vAt a k).2.2] 55)
        go_wp2
        go_ret
        exact ⟨ret_i HS.out, hB2⟩
    · by_cases hlt' : k < b.length
      · have HS := Lib.hid ((cmpRow_short (by omega) hlt').symm.trans HC.out)
        go_wp2
        go_ret
        exact ⟨ret_i HS.out, hB⟩
      · have HS := Lib.hid ((cmpRow_end (by omega) (by omega)).symm.trans HC.out)
        go_wp2
        go_ret
        exact ⟨ret_i HS.out, hB⟩

set_option maxHeartbeats 1000000 in
theorem comparerowsG_any (p q : Option Addr) (a b : List Val) (ca cb : Nat) (w : World) (hla : a.length ≤ 9223372036854775807) (hlb : b.length ≤ 9223372036854775807) (ha : RowAt w p a) (hb : RowAt w q b) :
    Calls Tryz.prog 77 #[.slice p a.length ca, .slice q b.length cb] w fun e w' => e = .returned (.int .i64 (cmpRow a b)) ∧ Gro w w' := by
  go_enter Tryz.func77, Tryz.ntmps77
  go_wp2_with fail
  refine (comparefuncG_any p q a b ca cb _ hla hlb ha hb).mono ?_
  rintro e w2 ⟨rfl, hb2⟩
  go_wp2
  go_ret
  exact ⟨rfl, hb2⟩
end Go.Proofs.YtlnbpobipmejfaaGreatDoor
/-
  DERIVED: THE SHELF's CONTRACTS AT THIS DUMP, IN PLAIN WORDS (tools/lay-plain.mjs out of 'TryzSortLay.lean', which tools/lay-shelf.mjs wrote): THE SAME DECLARATIONS UNDER THE SAME NAMES: 'import', 'namespace', 'open', 'def', 'theorem' AND NOTHING ELSE: no command of the shelf's: FOR A HAND-IN. Each laying: the table of numbers ('.._ren') and one theorem, a field a fact of the dump's own or the kernel's comparison; each contract: ONE APPLICATION.
-/
namespace Go.Proofs
open Go.Shelf
def Tryz.sortL_ren : Go.Shelf.Ren := ⟨fun | 6 => 76 | 15 => 90 | 14 => 89 | 28 => 106 | 29 => 107 | 20 => 98 | 21 => 99 | 22 => 100 | 23 => 101 | 24 => 102 | 25 => 103 | 26 => 104 | 27 => 105 | 46 => 112 | 47 => 113 | 48 => 114 | 49 => 115 | 50 => 116 | 57 => 120 | n => n, fun | 22 => 43 | 24 => 56 | 25 => 72 | 3 => 3 | 39 => 119 | 0 => 0 | 53 => 131 | 55 => 133 | 4 => 4 | 46 => 124 | 45 => 123 | 50 => 128 | 5 => 5 | 9 => 9 | 66 => 136 | 70 => 140 | 76 => 143 | 77 => 144 | n => n, fun | n => n⟩
theorem Tryz.sortL : Go.Proofs.SlLaysF.n6 Tryz.prog Tryz.sortL_ren := {
  mixed := by kernel_rfl
  f6 := ⟨Tryz.f76.name, by decide, Tryz.func76.trans (congrArg some (by kernel_rfl))⟩
  f14 := ⟨Tryz.f89.name, by decide, Tryz.func89.trans (congrArg some (by kernel_rfl))⟩
  f15 := Tryz.func90.trans (congrArg some (by kernel_rfl))
  f20 := ⟨Tryz.f98.name, by decide, Tryz.func98.trans (congrArg some (by kernel_rfl))⟩
  f21 := ⟨Tryz.f99.name, by decide, Tryz.func99.trans (congrArg some (by kernel_rfl))⟩
  f22 := ⟨Tryz.f100.name, by decide, Tryz.func100.trans (congrArg some (by kernel_rfl))⟩
  f23 := ⟨Tryz.f101.name, by decide, Tryz.func101.trans (congrArg some (by kernel_rfl))⟩
  f24 := ⟨Tryz.f102.name, by decide, Tryz.func102.trans (congrArg some (by kernel_rfl))⟩
  f25 := ⟨Tryz.f103.name, by decide, Tryz.func103.trans (congrArg some (by kernel_rfl))⟩
  f26 := ⟨Tryz.f104.name, by decide, Tryz.func104.trans (congrArg some (by kernel_rfl))⟩
  f27 := ⟨Tryz.f105.name, by decide, Tryz.func105.trans (congrArg some (by kernel_rfl))⟩
  f28 := Tryz.func106.trans (congrArg some (by kernel_rfl))
  f29 := Tryz.func107.trans (congrArg some (by kernel_rfl))
  f46 := ⟨Tryz.f112.name, by decide, Tryz.func112.trans (congrArg some (by kernel_rfl))⟩
  f47 := Tryz.func113.trans (congrArg some (by kernel_rfl))
  f48 := Tryz.func114.trans (congrArg some (by kernel_rfl))
  f49 := ⟨Tryz.f115.name, by decide, Tryz.func115.trans (congrArg some (by kernel_rfl))⟩
  f50 := ⟨Tryz.f116.name, by decide, Tryz.func116.trans (congrArg some (by kernel_rfl))⟩
  f57 := ⟨Tryz.f120.name, by decide, Tryz.func120.trans (congrArg some (by kernel_rfl))⟩
  t0 := Tryz.underlying0
  a0 := Tryz.isAgg0
  z0 := Tryz.sizeOf0
  v0 := Tryz.zeroValue0
  t3 := Tryz.underlying3
  a3 := Tryz.isAgg3
  z3 := Tryz.sizeOf3
  v3 := Tryz.zeroValue3
  t4 := Tryz.underlying4
  a4 := Tryz.isAgg4
  z4 := Tryz.sizeOf4
  v4 := Tryz.zeroValue4
  t5 := Tryz.underlying5
  a5 := Tryz.isAgg5
  z5 := Tryz.sizeOf5
  v5 := Tryz.zeroValue5
  t9 := Tryz.underlying9
  a9 := Tryz.isAgg9
  z9 := Tryz.sizeOf9
  v9 := Tryz.zeroValue9
  t22 := Tryz.underlying43
  a22 := Tryz.isAgg43
  z22 := Tryz.sizeOf43
  v22 := Tryz.zeroValue43
  a24 := Tryz.isAgg56
  z24 := Tryz.sizeOf56
  t25 := Tryz.underlying72
  a25 := Tryz.isAgg72
  z25 := Tryz.sizeOf72
  v25 := Tryz.zeroValue72
  t39 := Tryz.underlying119
  a39 := Tryz.isAgg119
  z39 := Tryz.sizeOf119
  v39 := Tryz.zeroValue119
  t45 := Tryz.underlying123
  a45 := Tryz.isAgg123
  z45 := Tryz.sizeOf123
  v45 := Tryz.zeroValue123
  t46 := Tryz.underlying124
  a46 := Tryz.isAgg124
  z46 := Tryz.sizeOf124
  v46 := Tryz.zeroValue124
  t50 := Tryz.underlying128
  a50 := Tryz.isAgg128
  z50 := Tryz.sizeOf128
  v50 := Tryz.zeroValue128
  t53 := Tryz.underlying131
  a53 := Tryz.isAgg131
  z53 := Tryz.sizeOf131
  v53 := Tryz.zeroValue131
  t55 := Tryz.underlying133
  a55 := Tryz.isAgg133
  z55 := Tryz.sizeOf133
  v55 := Tryz.zeroValue133
  t66 := Tryz.underlying136
  a66 := Tryz.isAgg136
  z66 := Tryz.sizeOf136
  v66 := Tryz.zeroValue136
  t70 := Tryz.underlying140
  a70 := Tryz.isAgg140
  z70 := Tryz.sizeOf140
  v70 := Tryz.zeroValue140
  t76 := Tryz.underlying143
  a76 := Tryz.isAgg143
  z76 := Tryz.sizeOf143
  v76 := Tryz.zeroValue143
  t77 := Tryz.underlying144
  a77 := Tryz.isAgg144
  z77 := Tryz.sizeOf144
  v77 := Tryz.zeroValue144 }
end Go.Proofs
