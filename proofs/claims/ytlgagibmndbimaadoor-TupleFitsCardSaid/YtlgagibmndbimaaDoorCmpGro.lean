/-
  CompareRows of the program, with the draws: what a sort asks of its comparison.
-/
import Derived.Test.YtlgagibmndbimaaDoorRowCmp
import Derived.Sort.Grow
namespace Go.Proofs.YtlgagibmndbimaaDoor
open Go.RowKit

/-- What was there is as it was, and no draw is taken back. -/
structure Gro (w w' : World) : Prop where
  low : Below w.heap.size w w'
  draws : w.drawn ≤ w'.drawn
theorem Gro.refl (w : World) : Gro w w := ⟨Below.refl _ _, Nat.le_refl _⟩
theorem Gro.trans {a b c : World} (h : Gro a b) (k : Gro b c) : Gro a c := ⟨h.low.trans (k.low.mono h.low.size), Nat.le_trans h.draws k.draws⟩
theorem Gro.alloc {a b : World} (h : Gro a b) (o : Obj) : Gro a (b.alloc o) := ⟨h.low.alloc h.low.size o, h.draws⟩
theorem Gro.drew {a b : World} (h : Gro a b) : Gro a b.drew := ⟨h.low.drew, Nat.le_trans h.draws (Nat.le_succ _)⟩
theorem Gro.of_alloc {a b : World} {o : Obj} (h : Gro (a.alloc o) b) : Gro a b := ((Gro.refl a).alloc o).trans h
/-- Such a world is the old one after some draws, with blocks behind it. -/
theorem Gro.eq {w w' : World} (h : Gro w w') : ∃ q os, w' = Go.Sort.grow (w.drewN q) os := by
  refine ⟨w'.drawn - w.drawn, w'.heap.extract w.heap.size w'.heap.size, ?_⟩
  have hd : w.drawn + (w'.drawn - w.drawn) = w'.drawn := Nat.add_sub_of_le h.draws
  have hh : w.heap ++ w'.heap.extract w.heap.size w'.heap.size = w'.heap := by
    apply Array.ext_getElem?
    intro i
    have hs := h.low.size
    by_cases hi : i < w.heap.size
    · rw [Array.getElem?_append_left hi, h.low.block i hi]
    · rw [Array.getElem?_append_right (by omega), Array.getElem?_extract]
      by_cases hj : i < w'.heap.size
      · rw [if_pos (by omega), show w.heap.size + (i - w.heap.size) = i by omega]
      · rw [if_neg (by omega), Array.getElem?_eq_none (by omega)]
  have h1 := h.low.os
  have h2 := h.low.tape
  have h3 := h.low.output
  cases w
  cases w'
  simp only [Go.Sort.grow, World.drewN] at *
  subst h1 h2 h3
  rw [hd, hh]

set_option maxRecDepth 100000 in
set_option maxHeartbeats 400000 in
theorem compareG_any (k n : Int) (s : ByteArray) (k' n' : Int) (s' : ByteArray) (w : World) :
    Calls Tryd.prog 51 #[.agg #[.int .i64 k, .int .i64 n, .string s], .agg #[.int .i64 k', .int .i64 n', .string s']] w fun e w' => e = .returned (.int .i64 (cmpV k n s k' n' s')) ∧ Gro w w' := by
  obtain ⟨W, hW, hb, hz, c0, c1, c2, d0, d1, d2⟩ := two_boxes w (.int .i64 k) (.int .i64 n) (.string s) (.int .i64 k') (.int .i64 n') (.string s') 34
  have hg : Gro w W := by rw [hW]; exact ((Gro.refl w).alloc _).alloc _
  have HZ := Lib.hid hz
  clear hz hb
  go_enter Tryd.func51, Tryd.ntmps51
  have HW := Lib.hid hW
  clear hW
  go_wp2_with fail
  rw [← HW.out]
  clear HW
  go_still_tail 15, (by kernel_rfl)
  still_call (Tryd.cmp_Compare_int _ _ _)
  repeat still_step
  still_call (cmp64_any _ _ _)
  repeat still_step
  still_call (Tryd.strings_Compare _ _ _)
  try refine wpStill_nil ?_
  have hz := HZ.out
  clear c0 c1 c2 d0 d1 d2 HZ
  have hb' : Gro w W.drew := hg.drew
  have hz' : W.drew.heap.size = w.heap.size + 2 := hz
  change wpList _ _ _ _ _ W.drew
  generalize W.drew = W2 at hb' hz'
  clear hg hz W
  go_wp2_with fail
  refine (or3_any (w.heap.size + 2) 3 (Lib.compareInt k k') (Lib.compareInt n n') (Lib.compareBytes s.data.toList s'.data.toList) _ ?_ ?_ ?_).mono ?_
  · rw [← hz']; go_simp
  · rw [← hz']; go_simp
  · rw [← hz']; go_simp
  rintro e w3 ⟨rfl, rfl⟩
  go_wp2
  go_ret
  exact ⟨rfl, hb'.alloc _⟩

set_option maxHeartbeats 1000000 in
theorem comparefuncG_any (p q : Option Addr) (a b : List Val) (ca cb : Nat) (w : World) (hla : a.length ≤ 9223372036854775807) (hlb : b.length ≤ 9223372036854775807) (ha : RowAt w p a) (hb : RowAt w q b) :
    Calls Tryd.prog 50 #[.slice p a.length ca, .slice q b.length cb, .func (.func 51) #[] #[]] w fun e w' => e = .returned (.int .i64 (cmpRow a b)) ∧ Gro w w' := by
  go_enter Tryd.func50, Tryd.ntmps50
  go_wp2
  go_loopw [7, 8, 9, 10, 13] (fun _ _ _ _ i wr => ∃ k : Nat, k ≤ a.length ∧ k ≤ b.length ∧ i = .int .i64 k ∧ cmpRow (a.drop k) (b.drop k) = cmpRow a b ∧ Gro w wr) (fun _ _ _ _ i _ => a.length - (intOf i).toNat)
  case atStart => exact ⟨0, by omega, by omega, rfl, rfl, Gro.refl _⟩
  case round =>
    obtain ⟨k, hk, hk', rfl, hcmp, hB⟩ := hrel
    have hA1 := ha.low hB.low
    have hB1 := hb.low hB.low
    have HC := Lib.hid hcmp
    clear hcmp
    by_cases hlt : k < a.length
    · by_cases hlt' : k < b.length
      · obtain ⟨c, o, rfl, hc, x0, x1, x2⟩ := hA1 k hlt
        obtain ⟨c', o', rfl, hc', y0, y1, y2⟩ := hB1 k hlt'
        go_wp2_with fail
        refine (compareG_any _ _ _ _ _ _ _).mono ?_
        rintro e w2 ⟨rfl, hb2⟩
        have hB2 := hB.trans hb2.of_alloc.of_alloc
        clear hb2 x0 x1 x2 y0 y1 y2 hA1 hB1 hc hc' hB ha hb
        by_cases hz : cmpVal (vAt a k) (vAt b k) = 0
        · have hz' : (cmpV (vAt a k).1 (vAt a k).2.1 (vAt a k).2.2 (vAt b k).1 (vAt b k).2.1 (vAt b k).2.2 != 0) = false := by
            rw [bne_eq_false_iff_eq]; exact hz
          have HS := Lib.hid ((cmpRow_step hlt hlt' hz).trans HC.out)
          clear hz
          go_wp2
          go_roundw
          case rel => exact ⟨k + 1, by omega, by omega, by go_num, HS.out, hB2⟩
          case measure => simp [intOf]; omega
        · have hz' : (cmpV (vAt a k).1 (vAt a k).2.1 (vAt a k).2.2 (vAt b k).1 (vAt b k).2.1 (vAt b k).2.2 != 0) = true := by
            rw [bne_iff_ne]; exact hz
          have HS := Lib.hid ((cmpRow_stop hlt hlt' hz).trans HC.out)
          clear hz
          go_wp2
          go_ret
          exact ⟨ret_i HS.out, hB2⟩
      · obtain ⟨c, o, rfl, hc, x0, x1, x2⟩ := hA1 k hlt
        have HS := Lib.hid ((cmpRow_long hlt (by omega)).symm.trans HC.out)
        have hB2 := hB.alloc (.cells #[.int .i64 (vAt a k).1, .int .i64 (vAt a k).2.1, .string (vAt a k).2.2] 34)
        go_wp2
        go_ret
        exact ⟨ret_i HS.out, hB2⟩
    · by_cases hlt' : k < b.length
      · have HS := Lib.hid ((cmpRow_short (by omega) hlt').symm.trans HC.out)
        go_wp2
        go_ret
        exact ⟨ret_i HS.out, hB⟩
      · have HS := Lib.hid ((cmpRow_end (by omega) (by omega)).symm.trans HC.out)
        go_wp2
        go_ret
        exact ⟨ret_i HS.out, hB⟩

set_option maxHeartbeats 1000000 in
theorem comparerowsG_any (p q : Option Addr) (a b : List Val) (ca cb : Nat) (w : World) (hla : a.length ≤ 9223372036854775807) (hlb : b.length ≤ 9223372036854775807) (ha : RowAt w p a) (hb : RowAt w q b) :
    Calls Tryd.prog 39 #[.slice p a.length ca, .slice q b.length cb] w fun e w' => e = .returned (.int .i64 (cmpRow a b)) ∧ Gro w w' := by
  go_enter Tryd.func39, Tryd.ntmps39
  go_wp2_with fail
  refine (comparefuncG_any p q a b ca cb _ hla hlb ha hb).mono ?_
  rintro e w2 ⟨rfl, hb2⟩
  go_wp2
  go_ret
  exact ⟨rfl, hb2⟩
end Go.Proofs.YtlgagibmndbimaaDoor
