/-
  Several texts in one.
-/
import Derived.Test.YtgaihglploedaaaDoorPk08
import Derived.Test.YtgaihglploedaaaDoorPk04
import Derived.Sort.Grow
import Derived.Shelf.SlGeneric
import Derived.Shelf.SlLaysF
import Derived.Ground.SlsfProg
import Derived.Test.YtgaihglploedaaaDoorProg
import Derived.Shelf.SlSortCmp.NoneTotal
/-
  THE STATEMENT TupleDiffers, as a walk.
-/
namespace Go.Proofs.YtgaihglploedaaaDoor
set_option maxRecDepth 100000
open Go.RowKit
variable {ls : List Nat}

theorem join_bag {u v : World} {base : Nat} {x : Value} {xa xb : List Value} {LA LB : List (List Val)} (h : v.ownsRow base 25 1 x (0 + LA.length + LB.length) ([] ++ xa ++ xb)) (ha : HeadsAt u xa LA) (hb : HeadsAt u xb LB) (hl : Below u.heap.size u v) : BagAt v base x (xa ++ xb) (LA ++ LB) := by
  rw [Nat.zero_add, List.nil_append] at h
  exact ⟨by rw [List.length_append]; exact h, (ha.low hl).append (hb.low hl)⟩
/-- What the rounds lean on. -/
structure DiffAt (w u : World) (pa pb pd pe pl : Option Addr) (LA LB L : List (List Val)) : Prop where
  a : RowsAt u pa LA
  b : RowsAt u pb LB
  d : RowsAt u pd (minR LA LB)
  e : RowsAt u pe (minR LB LA)
  l : RowsAt u pl L
  low' : Below w.heap.size w u
theorem DiffAt.low {w u v : World} {pa pb pd pe pl : Option Addr} {LA LB L : List (List Val)} (h : DiffAt w u pa pb pd pe pl LA LB L) (hb : Below u.heap.size u v) : DiffAt w v pa pb pd pe pl LA LB L :=
  ⟨h.a.low hb, h.b.low hb, h.d.low hb, h.e.low hb, h.l.low hb, below_next h.low' hb⟩
theorem rcount_min (A B : List (List Val)) (p : Option Addr) (cap : Nat) (t : List Val) (q : Option Addr) (cp : Nat) (w : World) (hA : A.length ≤ 8) (ht : t.length ≤ 9223372036854775807) (hp : RowsAt w p (minR A B)) (hq : RowAt w q t) :
    Calls Tryd.prog 27 #[.slice p (minR A B).length cap, .slice q t.length cp] w fun e w' => e = .returned (.int .i64 (A.count t - B.count t : Nat)) ∧ Below w.heap.size w w' :=
  (rcount_any (minR A B) p cap t q cp w (by have := minR_le A B; omega) ht hp hq).mono fun e w' ⟨he, hb⟩ => ⟨by rw [he, minR_count], hb⟩

set_option maxRecDepth 100000 in
set_option maxHeartbeats 8000000 in
theorem tdiffers_walk (hT : TupleDoes) (w : World) (p : Option Addr) (len cap : Nat) (hl : len ≤ cap) (hm : len ≤ 9223372036854775807) (h : IntsAt w p len) (hE : Env ls w) (hlw : 1 ∈ ls) :
    Calls Tryd.prog 6 #[.slice p len cap] w fun e w' => e = .returned (.bool true) ∧ Below w.heap.size w w' := by
  have HI := Lib.hid h
  clear h
  have hz8 := hE.size
  go_enter Tryd.func6, Tryd.ntmps6
  go_wp2_with fail
  refine (new_any w p len cap hl hm HI.out).mono ?_
  rintro e w1 ⟨b, rfl, hb0, ht, hb1⟩
  have hE1 := hE.low hb1
  have h8b : 3 ≤ b := by omega
  have hbw : b ≠ 1 := by omega
  have hbB : b < w1.heap.size := ht.lt
  go_wp2_with fail
  refine (rows_any b 8 w1 (by omega) hbw ht (hE1.words hlw)).mono ?_
  rintro e w2 ⟨va, GA, rfl, hGA, hna, ht2, hs2⟩
  have hE2 := hE1.step hs2 h8b
  have hB2 := hb1.trans (hs2.below hb0 hb1.size)
  have hbB2 : b < w2.heap.size := ht2.lt
  have HGA := Lib.hid hGA
  have HI2 : Hid (IntsAt w p len) := HI
  clear HI HI2 hE ht hE1 hb1 hGA
  go_wp2_with fail
  refine (rows_any b 8 w2 (by omega) hbw ht2 (hE2.words hlw)).mono ?_
  rintro e w3 ⟨vb, GB, rfl, hGB, hnb, ht3, hs3⟩
  have hB3 := hB2.trans (hs3.below hb0 hB2.size)
  have HA3 := Lib.hid (HGA.out.step hbB hs3).bag
  have HBB3 := Lib.hid hGB.bag
  have hla : (GA.map (·.2)).length ≤ 8 := by rw [List.length_map]; omega
  have hlb : (GB.map (·.2)).length ≤ 8 := by rw [List.length_map]; omega
  have HB3 := Lib.hid hB3
  clear ht2 hE2 hB2 hGB ht3 hs3 hs2 HGA hB3 hna hnb
  generalize GA.map (·.2) = LA at *
  generalize GB.map (·.2) = LB at *
  generalize GA.map (·.1) = xa at *
  generalize GB.map (·.1) = xb at *
  obtain ⟨pa, ca, rfl⟩ := HA3.out.shape
  obtain ⟨pb, cb, rfl⟩ := HBB3.out.shape
  go_wp2_with fail
  refine (hT.minus LA LB pa pb ca cb _ (by omega) (by omega) HA3.out.rows HBB3.out.rows).mono ?_
  rintro e w4 ⟨pd, cd, rfl, hd, hb⟩
  have HA4 := Lib.hid (HA3.out.low hb)
  have HBB4 := Lib.hid (HBB3.out.low hb)
  have HB4 := Lib.hid (below_next HB3.out hb)
  have HD4 := Lib.hid hd
  clear HA3 HBB3 HB3 hb hd
  go_wp2_with fail
  refine (hT.minus LB LA pb pa cb ca _ (by omega) (by omega) HBB4.out.rows HA4.out.rows).mono ?_
  rintro e w5 ⟨pe, ce, rfl, hd, hb⟩
  have HA5 := Lib.hid (HA4.out.low hb)
  have HBB5 := Lib.hid (HBB4.out.low hb)
  have HB5 := Lib.hid (below_next HB4.out hb)
  have HD5 := Lib.hid (HD4.out.low hb)
  have HE5 := Lib.hid hd
  clear HA4 HBB4 HB4 HD4 hb hd
  have HN := Lib.hid (owns_none w5)
  have HZ : Hid (w5.heap.size ≤ (w5.alloc (.cells #[] 25)).heap.size) := Lib.hid (below_alloc w5 _).size
  have HA6 := Lib.hid (HA5.out.low (below_alloc w5 (.cells #[] 25)))
  have HBB6 := Lib.hid (HBB5.out.low (below_alloc w5 (.cells #[] 25)))
  have HLo : Hid (Below w5.heap.size w5 (w5.alloc (.cells #[] 25))) := Lib.hid (below_alloc w5 _)
  go_wp2_with (at_builtin; first
    | (refine wpList_append_heads rfl (.tmp 23) (.tmp 24) rfl w5.heap.size _ 0 [] rfl HN.out _ _ LA.length xa rfl HA6.out.own HA6.out.heads.one (by omega) HZ.out ?_; intro v7 w7 hown7 hgr7; (have HO7 := Lib.hid hown7); (have HL7 := Lib.hid (grown_below HLo.out HZ.out hgr7 (owns_block HN.out))); clear hown7 hgr7)
    | (refine wpList_append_heads rfl (.tmp 25) (.tmp 26) rfl w5.heap.size _ (0 + LA.length) ([] ++ xa) rfl HO7.out _ _ LB.length xb rfl (HBB5.out.low HL7.out).own HBB5.out.heads.one (by omega) HL7.out.size ?_; intro v8 w8 hown8 hgr8; (have HL8 := Lib.hid (grown_below HL7.out HL7.out.size hgr8 (owns_block HO7.out))); (have HJ8 := Lib.hid (join_bag hown8 HA5.out.heads HBB5.out.heads HL8.out)); clear hown8 hgr8; (have hll : (LA ++ LB).length ≤ 16 := by rw [List.length_append]; omega); (generalize LA ++ LB = L at HJ8 hll); (obtain ⟨pl, cl, rfl⟩ := HJ8.out.shape)))
  have HF8 := Lib.hid (DiffAt.mk (HA5.out.low HL8.out).rows (HBB5.out.low HL8.out).rows (HD5.out.low HL8.out) (HE5.out.low HL8.out) HJ8.out.rows (below_next HB5.out HL8.out) : DiffAt w w8 pa pb pd pe pl LA LB L)
  clear HA5 HBB5 HB5 HD5 HE5 HN HZ HA6 HBB6 HLo HO7 HL7 HL8 HJ8
  go_loopw [9, 10, 29] (fun _ _ i v => ∃ k : Nat, k ≤ L.length ∧ i = .int .i64 k ∧ DiffAt w v pa pb pd pe pl LA LB L) (fun _ _ i _ => L.length - (intOf i).toNat)
  case atStart => exact ⟨0, Nat.zero_le _, rfl, HF8.out⟩
  clear HF8
  case round =>
    obtain ⟨k, hk, rfl, hf⟩ := hrel
    have HF := Lib.hid hf
    clear hf
    by_cases hlt : k < L.length
    · have hlt' : decide ((k : Int) < L.length) = true := decide_eq_true (by omega)
      obtain ⟨c, o, q, cp, rfl, hc, h0, hr, hs, -⟩ := HF.out.l k hlt
      have HR := Lib.hid hr
      have ht63 : (rAt L k).length ≤ 9223372036854775807 := by omega
      clear hr
      go_wp2_with fail
      refine (rcount_any LA pa ca (rAt L k) q cp _ (by omega) ht63 HF.out.a HR.out).mono ?_
      rintro e v1 ⟨rfl, hb⟩
      have HF1 := Lib.hid (HF.out.low hb)
      have HR1 := Lib.hid (HR.out.low hb)
      clear hb HF HR h0 hc
      go_wp2_with fail
      refine (rcount_any LB pb cb (rAt L k) q cp _ (by omega) ht63 HF1.out.b HR1.out).mono ?_
      rintro e v2 ⟨rfl, hb⟩
      have HF2 := Lib.hid (HF1.out.low hb)
      have HR2 := Lib.hid (HR1.out.low hb)
      clear hb HF1 HR1
      have hxa : LA.count (rAt L k) ≤ 8 := Nat.le_trans List.count_le_length hla
      have hxb : LB.count (rAt L k) ≤ 8 := Nat.le_trans List.count_le_length hlb
      have hcd : Hid (∀ w, RowsAt w pd (minR LA LB) → RowAt w q (rAt L k) → Calls Tryd.prog 27 #[.slice pd (minR LA LB).length cd, .slice q (rAt L k).length cp] w fun e w' => e = .returned (.int .i64 (LA.count (rAt L k) - LB.count (rAt L k) : Nat)) ∧ Below w.heap.size w w') := Lib.hid (fun w => rcount_min LA LB pd cd (rAt L k) q cp w hla ht63)
      have hce : Hid (∀ w, RowsAt w pe (minR LB LA) → RowAt w q (rAt L k) → Calls Tryd.prog 27 #[.slice pe (minR LB LA).length ce, .slice q (rAt L k).length cp] w fun e w' => e = .returned (.int .i64 (LB.count (rAt L k) - LA.count (rAt L k) : Nat)) ∧ Below w.heap.size w w') := Lib.hid (fun w => rcount_min LB LA pe ce (rAt L k) q cp w hlb ht63)
      generalize LA.count (rAt L k) = x at *
      generalize LB.count (rAt L k) = y at *
      have hsub : IntKind.i64.wrap ((x : Int) - y) = x - y := i64w (by omega) (by omega)
      go_wp2_with fail
      refine (hcd.out _ HF2.out.d HR2.out).mono ?_
      rintro e v3 ⟨rfl, hb⟩
      have HF3 := Lib.hid (HF2.out.low hb)
      have HR3 := Lib.hid (HR2.out.low hb)
      clear hb HF2 HR2
      have hneg : IntKind.i64.wrap (-((x : Int) - y)) = -((x : Int) - y) := i64w (by omega) (by omega)
      go_wp2_with fail
      refine (hce.out _ HF3.out.e HR3.out).mono ?_
      rintro e v4 ⟨rfl, hb⟩
      have HF4 := Lib.hid (HF3.out.low hb)
      clear hb HF3 HR3
      have hmax : (((y - x : Nat) : Int) == max (-((x : Int) - y)) 0) = true := beq_iff_eq.2 (by omega)
      go_wp2_with fail
      go_roundw
      case rel => exact ⟨k + 1, by omega, by go_num, HF4.out⟩
      case measure => simp [intOf]; omega
    · obtain rfl : k = L.length := by omega
      have hlt' : decide ((L.length : Int) < L.length) = false := decide_eq_false (by omega)
      go_wp2_with fail
      refine (hT.same LA LB pa pb ca cb _ (by omega) (by omega) HF.out.a HF.out.b).mono ?_
      rintro e v1 ⟨rfl, hb⟩
      have HF1 := Lib.hid (HF.out.low hb)
      clear hb HF
      have hiff := same_iff_minR LA LB
      have hlen := minR_len LA LB
      have hle := minR_le LA LB
      have hle' := minR_le LB LA
      generalize (minR LA LB).length = d at *
      generalize (minR LB LA).length = f at *
      have hq : (((LA.length : Int) - d) == ((LB.length : Int) - f)) = true := beq_iff_eq.2 (by omega)
      have hwa : IntKind.i64.wrap ((LA.length : Int) - d) = LA.length - d := i64w (by omega) (by omega)
      have hwb : IntKind.i64.wrap ((LB.length : Int) - f) = LB.length - f := i64w (by omega) (by omega)
      clear hlen hle hle'
      by_cases hd0 : d = 0
      · by_cases hf0 : f = 0
        · have hsb : decide (srt LA = srt LB) = true := decide_eq_true (hiff.2 ⟨hd0, hf0⟩)
          rw [hsb]
          have h1 : ((d : Int) == 0) = true := beq_iff_eq.2 (by omega)
          have h2 : ((f : Int) == 0) = true := beq_iff_eq.2 (by omega)
          clear hd0 hf0 hiff hsb
          go_wp2_with fail
          refine (known5_any hT _).mono ?_
          rintro e v2 ⟨rfl, hb⟩
          have HF2 := Lib.hid (HF1.out.low hb)
          clear hb
          go_wp2_with fail
          go_ret
          exact ⟨rfl, HF2.out.low'⟩
        · have hsb : decide (srt LA = srt LB) = false := decide_eq_false (fun h => hf0 (hiff.1 h).2)
          rw [hsb]
          have h1 : ((d : Int) == 0) = true := beq_iff_eq.2 (by omega)
          have h2 : ((f : Int) == 0) = false := beq_eq_false_iff_ne.2 (by omega)
          clear hd0 hf0 hiff hsb
          go_wp2_with fail
          refine (known5_any hT _).mono ?_
          rintro e v2 ⟨rfl, hb⟩
          have HF2 := Lib.hid (HF1.out.low hb)
          clear hb
          go_wp2_with fail
          go_ret
          exact ⟨rfl, HF2.out.low'⟩
      · have hsb : decide (srt LA = srt LB) = false := decide_eq_false (fun h => hd0 (hiff.1 h).1)
        rw [hsb]
        have h1 : ((d : Int) == 0) = false := beq_eq_false_iff_ne.2 (by omega)
        clear hd0 hiff hsb
        go_wp2_with fail
        refine (known5_any hT _).mono ?_
        rintro e v2 ⟨rfl, hb⟩
        have HF2 := Lib.hid (HF1.out.low hb)
        clear hb
        go_wp2_with fail
        go_ret
        exact ⟨rfl, HF2.out.low'⟩
end Go.Proofs.YtgaihglploedaaaDoor
/-
  CompareRows of the program, with the draws: what a sort asks of its comparison.
-/
namespace Go.Proofs.YtgaihglploedaaaDoor
set_option maxRecDepth 100000
open Go.RowKit

/-- What was there is as it was, and no draw is taken back. -/
structure Gro (w w' : World) : Prop where
  low : Below w.heap.size w w'
  draws : w.drawn ≤ w'.drawn
theorem Gro.refl (w : World) : Gro w w := ⟨Below.refl _ _, Nat.le_refl _⟩
theorem Gro.trans {a b c : World} (h : Gro a b) (k : Gro b c) : Gro a c := ⟨h.low.trans (k.low.mono h.low.size), Nat.le_trans h.draws k.draws⟩
theorem Gro.alloc {a b : World} (h : Gro a b) (o : Obj) : Gro a (b.alloc o) := ⟨h.low.alloc h.low.size o, h.draws⟩
theorem Gro.drew {a b : World} (h : Gro a b) : Gro a b.drew := ⟨h.low.drew, Nat.le_trans h.draws (Nat.le_succ _)⟩
theorem Gro.of_alloc {a b : World} {o : Obj} (h : Gro (a.alloc o) b) : Gro a b := ((Gro.refl a).alloc o).trans h
/-- Such a world is the old one after some draws, with blocks behind it. -/
theorem Gro.eq {w w' : World} (h : Gro w w') : ∃ q os, w' = Go.Sort.grow (w.drewN q) os := by
  refine ⟨w'.drawn - w.drawn, w'.heap.extract w.heap.size w'.heap.size, ?_⟩
  have hd : w.drawn + (w'.drawn - w.drawn) = w'.drawn := Nat.add_sub_of_le h.draws
  have hh : w.heap ++ w'.heap.extract w.heap.size w'.heap.size = w'.heap := by
    apply Array.ext_getElem?
    intro i
    have hs := h.low.size
    by_cases hi : i < w.heap.size
    · rw [Array.getElem?_append_left hi, h.low.block i hi]
    · rw [Array.getElem?_append_right (by omega), Array.getElem?_extract]
      by_cases hj : i < w'.heap.size
      · rw [if_pos (by omega), show w.heap.size + (i - w.heap.size) = i by omega]
      · rw [if_neg (by omega), Array.getElem?_eq_none (by omega)]
  have h1 := h.low.os
  have h2 := h.low.tape
  have h3 := h.low.output
  cases w
  cases w'
  simp only [Go.Sort.grow, World.drewN] at *
  subst h1 h2 h3
  rw [hd, hh]

set_option maxRecDepth 100000 in
set_option maxHeartbeats 400000 in
theorem compareG_any (k n : Int) (s : ByteArray) (k' n' : Int) (s' : ByteArray) (w : World) :
    Calls Tryd.prog 100 #[.agg #[.int .i64 k, .int .i64 n, .string s], .agg #[.int .i64 k', .int .i64 n', .string s']] w fun e w' => e = .returned (.int .i64 (cmpV k n s k' n' s')) ∧ Gro w w' := by
  obtain ⟨W, hW, hb, hz, c0, c1, c2, d0, d1, d2⟩ := two_boxes w (.int .i64 k) (.int .i64 n) (.string s) (.int .i64 k') (.int .i64 n') (.string s') 34
  have hg : Gro w W := by rw [hW]; exact ((Gro.refl w).alloc _).alloc _
  have HZ := Lib.hid hz
  clear hz hb
  go_enter Tryd.func100, Tryd.ntmps100
  have HW := Lib.hid hW
  clear hW
  go_wp2_with fail
  rw [← HW.out]
  clear HW
  go_still_tail 15, (by kernel_rfl)
  still_call (Tryd.cmp_Compare_int _ _ _)
  repeat still_step
  still_call (cmp64_any _ _ _)
  repeat still_step
  still_call (Tryd.strings_Compare _ _ _)
  try refine wpStill_nil ?_
  have hz := HZ.out
  clear c0 c1 c2 d0 d1 d2 HZ
  have hb' : Gro w W.drew := hg.drew
  have hz' : W.drew.heap.size = w.heap.size + 2 := hz
  change wpList _ _ _ _ _ W.drew
  generalize W.drew = W2 at hb' hz'
  clear hg hz W
  go_wp2_with fail
  refine (or3_any (w.heap.size + 2) 3 (Lib.compareInt k k') (Lib.compareInt n n') (Lib.compareBytes s.data.toList s'.data.toList) _ ?_ ?_ ?_).mono ?_
  · rw [← hz']; go_simp
  · rw [← hz']; go_simp
  · rw [← hz']; go_simp
  rintro e w3 ⟨rfl, rfl⟩
  go_wp2
  go_ret
  exact ⟨rfl, hb'.alloc _⟩

set_option maxHeartbeats 1000000 in
theorem comparefuncG_any (p q : Option Addr) (a b : List Val) (ca cb : Nat) (w : World) (hla : a.length ≤ 9223372036854775807) (hlb : b.length ≤ 9223372036854775807) (ha : RowAt w p a) (hb : RowAt w q b) :
    Calls Tryd.prog 99 #[.slice p a.length ca, .slice q b.length cb, .func (.func 100) #[] #[]] w fun e w' => e = .returned (.int .i64 (cmpRow a b)) ∧ Gro w w' := by
  go_enter Tryd.func99, Tryd.ntmps99
  go_wp2
  go_loopw [7, 8, 9, 10, 13] (fun _ _ _ _ i wr => ∃ k : Nat, k ≤ a.length ∧ k ≤ b.length ∧ i = .int .i64 k ∧ cmpRow (a.drop k) (b.drop k) = cmpRow a b ∧ Gro w wr) (fun _ _ _ _ i _ => a.length - (intOf i).toNat)
  case atStart => exact ⟨0, by omega, by omega, rfl, rfl, Gro.refl _⟩
  case round =>
    obtain ⟨k, hk, hk', rfl, hcmp, hB⟩ := hrel
    have hA1 := ha.low hB.low
    have hB1 := hb.low hB.low
    have HC := Lib.hid hcmp
    clear hcmp
    by_cases hlt : k < a.length
    · by_cases hlt' : k < b.length
      · obtain ⟨c, o, rfl, hc, x0, x1, x2⟩ := hA1 k hlt
        obtain ⟨c', o', rfl, hc', y0, y1, y2⟩ := hB1 k hlt'
        go_wp2_with fail
        refine (compareG_any _ _ _ _ _ _ _).mono ?_
        rintro e w2 ⟨rfl, hb2⟩
        have hB2 := hB.trans hb2.of_alloc.of_alloc
        clear hb2 x0 x1 x2 y0 y1 y2 hA1 hB1 hc hc' hB ha hb
        by_cases hz : cmpVal (vAt a k) (vAt b k) = 0
        · have hz' : (cmpV (vAt a k).1 (vAt a k).2.1 (vAt a k).2.2 (vAt b k).1 (vAt b k).2.1 (vAt b k).2.2 != 0) = false := by
            rw [bne_eq_false_iff_eq]; exact hz
          have HS := Lib.hid ((cmpRow_step hlt hlt' hz).trans HC.out)
          clear hz
          go_wp2
          go_roundw
          case rel => exact ⟨k + 1, by omega, by omega, by go_num, HS.out, hB2⟩
          case measure => simp [intOf]; omega
        · have hz' : (cmpV (vAt a k).1 (vAt a k).2.1 (vAt a k).2.2 (vAt b k).1 (vAt b k).2.1 (vAt b k).2.2 != 0) = true := by
            rw [bne_iff_ne]; exact hz
          have HS := Lib.hid ((cmpRow_stop hlt hlt' hz).trans HC.out)
          clear hz
          go_wp2
          go_ret
          exact ⟨ret_i HS.out, hB2⟩
      · obtain ⟨c, o, rfl, hc, x0, x1, x2⟩ := hA1 k hlt
        have HS := Lib.hid ((cmpRow_long hlt (by omega)).symm.trans HC.out)
        have hB2 := hB.alloc (.cells #[.int .i64 (vAt a k).1, .int .i64 (vAt a k).2.1, .string (vAt a k).2.2] 34)
        go_wp2
        go_ret
        exact ⟨ret_i HS.out, hB2⟩
    · by_cases hlt' : k < b.length
      · have HS := Lib.hid ((cmpRow_short (by omega) hlt').symm.trans HC.out)
        go_wp2
        go_ret
        exact ⟨ret_i HS.out, hB⟩
      · have HS := Lib.hid ((cmpRow_end (by omega) (by omega)).symm.trans HC.out)
        go_wp2
        go_ret
        exact ⟨ret_i HS.out, hB⟩

set_option maxHeartbeats 1000000 in
theorem comparerowsG_any (p q : Option Addr) (a b : List Val) (ca cb : Nat) (w : World) (hla : a.length ≤ 9223372036854775807) (hlb : b.length ≤ 9223372036854775807) (ha : RowAt w p a) (hb : RowAt w q b) :
    Calls Tryd.prog 65 #[.slice p a.length ca, .slice q b.length cb] w fun e w' => e = .returned (.int .i64 (cmpRow a b)) ∧ Gro w w' := by
  go_enter Tryd.func65, Tryd.ntmps65
  go_wp2_with fail
  refine (comparefuncG_any p q a b ca cb _ hla hlb ha hb).mono ?_
  rintro e w2 ⟨rfl, hb2⟩
  go_wp2
  go_ret
  exact ⟨rfl, hb2⟩
end Go.Proofs.YtgaihglploedaaaDoor
/-
  DERIVED: THE SHELF's CONTRACTS AT THIS DUMP, IN PLAIN WORDS (tools/lay-plain.mjs out of 'TrydSortLay.lean', which tools/lay-shelf.mjs wrote): THE SAME DECLARATIONS UNDER THE SAME NAMES: 'import', 'namespace', 'open', 'def', 'theorem' AND NOTHING ELSE: no command of the shelf's: FOR A HAND-IN. Each laying: the table of numbers ('.._ren') and one theorem, a field a fact of the dump's own or the kernel's comparison; each contract: ONE APPLICATION.
-/
namespace Go.Proofs
open Go.Shelf
def Tryd.sortL_ren : Go.Shelf.Ren := ⟨fun | 6 => 98 | 15 => 117 | 14 => 116 | 28 => 137 | 29 => 138 | 20 => 129 | 21 => 130 | 22 => 131 | 23 => 132 | 24 => 133 | 25 => 134 | 26 => 135 | 27 => 136 | 46 => 143 | 47 => 144 | 48 => 145 | 49 => 146 | 50 => 147 | 57 => 148 | n => n, fun | 22 => 39 | 24 => 25 | 25 => 47 | 3 => 3 | 39 => 134 | 0 => 0 | 53 => 148 | 55 => 150 | 4 => 4 | 46 => 142 | 45 => 141 | 50 => 72 | 5 => 5 | 9 => 9 | 66 => 153 | 70 => 157 | 76 => 159 | 77 => 160 | n => n, fun | n => n⟩
theorem Tryd.sortL : Go.Proofs.SlLaysF.n6 Tryd.prog Tryd.sortL_ren := {
  mixed := by kernel_rfl
  f6 := ⟨Tryd.f98.name, by decide, Tryd.func98.trans (congrArg some (by kernel_rfl))⟩
  f14 := ⟨Tryd.f116.name, by decide, Tryd.func116.trans (congrArg some (by kernel_rfl))⟩
  f15 := Tryd.func117.trans (congrArg some (by kernel_rfl))
  f20 := ⟨Tryd.f129.name, by decide, Tryd.func129.trans (congrArg some (by kernel_rfl))⟩
  f21 := ⟨Tryd.f130.name, by decide, Tryd.func130.trans (congrArg some (by kernel_rfl))⟩
  f22 := ⟨Tryd.f131.name, by decide, Tryd.func131.trans (congrArg some (by kernel_rfl))⟩
  f23 := ⟨Tryd.f132.name, by decide, Tryd.func132.trans (congrArg some (by kernel_rfl))⟩
  f24 := ⟨Tryd.f133.name, by decide, Tryd.func133.trans (congrArg some (by kernel_rfl))⟩
  f25 := ⟨Tryd.f134.name, by decide, Tryd.func134.trans (congrArg some (by kernel_rfl))⟩
  f26 := ⟨Tryd.f135.name, by decide, Tryd.func135.trans (congrArg some (by kernel_rfl))⟩
  f27 := ⟨Tryd.f136.name, by decide, Tryd.func136.trans (congrArg some (by kernel_rfl))⟩
  f28 := Tryd.func137.trans (congrArg some (by kernel_rfl))
  f29 := Tryd.func138.trans (congrArg some (by kernel_rfl))
  f46 := ⟨Tryd.f143.name, by decide, Tryd.func143.trans (congrArg some (by kernel_rfl))⟩
  f47 := Tryd.func144.trans (congrArg some (by kernel_rfl))
  f48 := Tryd.func145.trans (congrArg some (by kernel_rfl))
  f49 := ⟨Tryd.f146.name, by decide, Tryd.func146.trans (congrArg some (by kernel_rfl))⟩
  f50 := ⟨Tryd.f147.name, by decide, Tryd.func147.trans (congrArg some (by kernel_rfl))⟩
  f57 := ⟨Tryd.f148.name, by decide, Tryd.func148.trans (congrArg some (by kernel_rfl))⟩
  t0 := Tryd.underlying0
  a0 := Tryd.isAgg0
  z0 := Tryd.sizeOf0
  v0 := Tryd.zeroValue0
  t3 := Tryd.underlying3
  a3 := Tryd.isAgg3
  z3 := Tryd.sizeOf3
  v3 := Tryd.zeroValue3
  t4 := Tryd.underlying4
  a4 := Tryd.isAgg4
  z4 := Tryd.sizeOf4
  v4 := Tryd.zeroValue4
  t5 := Tryd.underlying5
  a5 := Tryd.isAgg5
  z5 := Tryd.sizeOf5
  v5 := Tryd.zeroValue5
  t9 := Tryd.underlying9
  a9 := Tryd.isAgg9
  z9 := Tryd.sizeOf9
  v9 := Tryd.zeroValue9
  t22 := Tryd.underlying39
  a22 := Tryd.isAgg39
  z22 := Tryd.sizeOf39
  v22 := Tryd.zeroValue39
  a24 := Tryd.isAgg25
  z24 := Tryd.sizeOf25
  t25 := Tryd.underlying47
  a25 := Tryd.isAgg47
  z25 := Tryd.sizeOf47
  v25 := Tryd.zeroValue47
  t39 := Tryd.underlying134
  a39 := Tryd.isAgg134
  z39 := Tryd.sizeOf134
  v39 := Tryd.zeroValue134
  t45 := Tryd.underlying141
  a45 := Tryd.isAgg141
  z45 := Tryd.sizeOf141
  v45 := Tryd.zeroValue141
  t46 := Tryd.underlying142
  a46 := Tryd.isAgg142
  z46 := Tryd.sizeOf142
  v46 := Tryd.zeroValue142
  t50 := Tryd.underlying72
  a50 := Tryd.isAgg72
  z50 := Tryd.sizeOf72
  v50 := Tryd.zeroValue72
  t53 := Tryd.underlying148
  a53 := Tryd.isAgg148
  z53 := Tryd.sizeOf148
  v53 := Tryd.zeroValue148
  t55 := Tryd.underlying150
  a55 := Tryd.isAgg150
  z55 := Tryd.sizeOf150
  v55 := Tryd.zeroValue150
  t66 := Tryd.underlying153
  a66 := Tryd.isAgg153
  z66 := Tryd.sizeOf153
  v66 := Tryd.zeroValue153
  t70 := Tryd.underlying157
  a70 := Tryd.isAgg157
  z70 := Tryd.sizeOf157
  v70 := Tryd.zeroValue157
  t76 := Tryd.underlying159
  a76 := Tryd.isAgg159
  z76 := Tryd.sizeOf159
  v76 := Tryd.zeroValue159
  t77 := Tryd.underlying160
  a77 := Tryd.isAgg160
  z77 := Tryd.sizeOf160
  v77 := Tryd.zeroValue160 }
end Go.Proofs
/-
  A list of the call's own with the rows in order: slices.SortFunc by its contract.
-/
namespace Go.Proofs.YtgaihglploedaaaDoor
set_option maxRecDepth 100000
open Go.RowKit
variable {ls : List Nat}

/-- A row's head: where it lies, and what it holds. -/
structure Hd where
  p : Option Addr
  c : Nat
  l : List Val
def Hd.v (x : Hd) : Value := .slice x.p x.l.length x.c
def HdIn (w : World) (x : Hd) : Prop := RowAt w x.p x.l ∧ x.l.length * 32 ≤ 140737488355328 ∧ (x.p = none → x.l = [] ∧ x.c = 0)
abbrev HdT (w : World) := { x : Hd // HdIn w x }
instance (w : World) : Inhabited (HdT w) := ⟨⟨⟨none, 0, []⟩, ⟨fun i hi => by simp at hi, by simp, fun _ => ⟨rfl, rfl⟩⟩⟩⟩
def HdT.v {w : World} (x : HdT w) : Value := x.1.v
def HdT.l {w : World} (x : HdT w) : List Val := x.1.l
/-- The order of heads. -/
def cfH (w : World) (x y : HdT w) : Int := cmpRow x.l y.l

theorem cmpRow_lt {a b c : List Val} (h : cmpRow a b < 0) (k : cmpRow b c < 0) : cmpRow a c < 0 := by
  have h1 := cmpRow_trans (a := a) (b := b) (c := c) (by omega) (by omega)
  by_cases h0 : cmpRow a c = 0
  · have e := (cmpRow_zero a c).1 h0
    subst e
    have := cmpRow_neg a b
    omega
  · omega
theorem swoH (w : World) : Go.Sort.SWO (ltOf (cfH w)) where
  irrefl x := by
    have := (cmpRow_zero x.l x.l).2 rfl
    simp [ltOf, cfH, this]
  trans x y z h k := decide_eq_true (cmpRow_lt (a := x.l) (b := y.l) (c := z.l) (of_decide_eq_true h) (of_decide_eq_true k))
  ntrans x y z h k := by
    have h1 : ¬ cmpRow x.l y.l < 0 := of_decide_eq_false h
    have h2 : ¬ cmpRow y.l z.l < 0 := of_decide_eq_false k
    refine decide_eq_false (p := cmpRow x.l z.l < 0) ?_
    have h3 := cmpRow_neg x.l y.l
    have h4 := cmpRow_neg y.l z.l
    have h5 := cmpRow_neg x.l z.l
    have := cmpRow_trans (a := z.l) (b := y.l) (c := x.l) (by omega) (by omega)
    omega

/-- The heads of a slice of rows. -/
theorem RowsAt.hds {w : World} {p : Option Addr} {L : List (List Val)} (h : RowsAt w p L) :
    ∃ ys : List (HdT w), ys.map HdT.l = L ∧ ∀ i x, ys[i]? = some x → ∃ c o, p = some ⟨c, o, none⟩ ∧ c < w.heap.size ∧ w.cell? ⟨c, o + i, none⟩ = some x.v := by
  have h' : ∀ i : Fin L.length, ∃ x : HdT w, x.l = L[i] ∧ ∃ c o, p = some ⟨c, o, none⟩ ∧ c < w.heap.size ∧ w.cell? ⟨c, o + i, none⟩ = some x.v := by
    intro i
    obtain ⟨c, o, q, cp, hp, hc, h0, hr, hs, hn⟩ := h i i.2
    rw [rAt_get i.2] at h0 hr hs hn
    exact ⟨⟨⟨q, cp, L[i]⟩, hr, hs, hn⟩, rfl, c, o, hp, hc, h0⟩
  obtain ⟨f, hf⟩ := Classical.axiomOfChoice h'
  refine ⟨List.ofFn f, ?_, fun i x hx => ?_⟩
  · apply List.ext_getElem
    · simp
    · intro i h1 h2
      simp only [List.getElem_map, List.getElem_ofFn]
      exact (hf ⟨i, h2⟩).1
  · rw [List.getElem?_ofFn] at hx
    by_cases hi : i < L.length
    · rw [dif_pos hi] at hx
      obtain rfl := Option.some.inj hx
      exact (hf ⟨i, hi⟩).2
    · rw [dif_neg hi] at hx; cases hx
theorem heads_of_hds {w : World} (ys : List (HdT w)) : HeadsAt w (ys.map HdT.v) (ys.map HdT.l) := by
  refine ⟨by rw [List.length_map, List.length_map], fun i hi => ?_⟩
  rw [List.length_map] at hi
  have e : rAt (ys.map HdT.l) i = ys[i].l := by rw [rAt_get (by rw [List.length_map]; exact hi), List.getElem_map]
  rw [e]
  exact ⟨ys[i].1.p, ys[i].1.c, by rw [List.getElem?_map, List.getElem?_eq_getElem hi]; rfl, ys[i].2.1, ys[i].2.2.1, ys[i].2.2.2⟩

theorem run_append_none_cap {P : Program} {w : World} (base : Nat) (t ty e : TypeId) (i : TypeInfo) (size : Nat) (ht : P.underlying t = some (.slice e)) (hi : P.info? e = some i)
    (v : Value) (n c : Nat) (xs : List Value) (hown : w.ownsRow base e size v n xs) :
    (Builtin.append_ #[t, t] ty #[v, .slice none 0 c]).run P w = .ok v w := by
  rcases hown.2 with ⟨rfl, rfl⟩ | ⟨g, cap, cur, rfl, _, _, hnc, _⟩
  · simp [Builtin.append_, run_underlying ht, sizeOf, typeInfo, hi, Builtin.lenOf, Builtin.firstCells]
  · simp [Builtin.append_, run_underlying ht, sizeOf, typeInfo, hi, Builtin.lenOf, Builtin.firstCells, hnc, storeCells]
/-- Rows that lie in memory are appended. -/
theorem wpList_append_rows {w : World} {ops : Array Oper} {rest : List Oper} {o : Oper} {a : Act} {Q : Exit → Act → World → Prop} (hgd : o.guard = none) (s x : Operand)
    (ho : o.op = .call { callee := .builtin .append, args := #[s, x], argTypes := #[39, 39] })
    (base : Nat) (v : Value) (n : Nat) (xs : List Value) (hs : a.eval s = v) (hown : w.ownsRow base 25 1 v n xs)
    (px : Option Addr) (m cx : Nat) (ys : List Value) (hx : a.eval x = .slice px m cx) (hl : ys.length = m) (hsrc : ∀ i u, ys[i]? = some u → ∃ c o', px = some ⟨c, o', none⟩ ∧ w.cell? ⟨c, o' + i, none⟩ = some u) (h1 : ∀ u ∈ ys, u.oneCell' = true) (hsum : (n + m) * 24 ≤ 140737488355328) (hbase : base ≤ w.heap.size)
    (h : ∀ v' w', w'.ownsRow base 25 1 v' (n + m) (xs ++ ys) → w.grownBy w' v.ownBlock → wpList Tryd.prog ops Q rest (a.put o.dst v') w') : wpList Tryd.prog ops Q (o :: rest) a w := by
  obtain ⟨i0, hi, hz0, hz1, hz2⟩ := info_parts info_row
  cases px with
  | none =>
    have hys : ys = [] := by
      cases ys with
      | nil => rfl
      | cons y ys => obtain ⟨c, o', hp, -⟩ := hsrc 0 y rfl; cases hp
    subst hys
    obtain rfl : 0 = m := hl
    refine wpList_plain hgd fun K hK => ?_
    have hrun := run_append_none_cap (P := Tryd.prog) (w := w) base 39 o.type 25 i0 1 Tryd.underlying39 hi v n cx xs hown
    unfold Oper.wp
    simp [execOp, ho, resolve, invoke, builtin, hs, hx, hrun, Result.andThen]
    exact hK _ _ (h v w (by simpa using hown) (World.grownBy.refl w _))
  | some ad =>
    refine wpList_append_own w hgd s x 39 ho base 25 i0 _ 1 24 Tryd.underlying39 hi hz0 hz1 hz2 rfl (by decide) v n xs hs hown ad m cx ys hx (by rw [hl, Nat.mul_one]) (fun j u hj => ?_) h1 (by unfold maxLen; omega) hsum hbase ?_
    · obtain ⟨c, o', hp, hc⟩ := hsrc j u hj
      obtain rfl := Option.some.inj hp
      rw [show (⟨c, o', none⟩ : Addr).add j = ⟨c, o' + j, none⟩ from by unfold Addr.add; split <;> simp_all]
      exact hc
    · intro v' w' h1 h2 _
      exact h v' w' h1 h2

open Go.Sort in
theorem sortWorld_low {α : Type} [Inhabited α] {enc : α → Value} {w0 w : World} {g m : Nat} {dk : Array α} {os : Array Obj} (hb : Go.RowKit.Below w0.heap.size w0 w) (hg : w0.heap.size ≤ g) : Go.RowKit.Below w0.heap.size w0 (sortWorld enc w g 0 m dk os) := by
  refine hb.trans ⟨rfl, rfl, rfl, ?_, fun k hk => ?_⟩
  · show w.heap.size ≤ (sortWorld enc w g 0 m dk os).heap.size
    unfold sortWorld
    rw [size_grow, size_putRow]
    show w.heap.size ≤ w.heap.size + _
    omega
  · unfold sortWorld
    have hz := hb.size
    rw [heap_grow_old _ _ (by rw [size_putRow]; show k < w.heap.size; omega)]
    show (w.heap.modify g _)[k]? = _
    rw [Array.getElem?_modify, if_neg (by omega)]
open Go.Sort in
/-- The block behind the sort. -/
theorem sortWorld_block {α : Type} [Inhabited α] {enc : α → Value} {w : World} {g m : Nat} {d : Array α} {os : Array Obj} {cur : List Value} {t : TypeId} (hg : w.heap[g]? = some (.cells cur.toArray t (0, 0))) (hd : d.size ≤ cur.length) :
    ∃ cur' : List Value, (sortWorld enc w g 0 m d os).heap[g]? = some (.cells cur'.toArray t (0, 0)) ∧ cur'.length = cur.length ∧ cur'.take d.size = d.toList.map enc := by
  have hlt : g < w.heap.size := (Array.getElem?_eq_some_iff.1 hg).1
  refine ⟨(putCells enc 0 d cur.toArray).toList, ?_, ?_, ?_⟩
  · unfold sortWorld
    rw [heap_grow_old _ _ (by rw [size_putRow]; exact hlt)]
    show (w.heap.modify g _)[g]? = _
    rw [Array.getElem?_modify, if_pos rfl, hg]
    rfl
  · simp [putCells]
  · apply List.ext_getElem?
    intro i
    rw [List.getElem?_take]
    by_cases hi : i < d.size
    · rw [if_pos hi]
      have hc : i < cur.length := by omega
      simp [putCells, hi, hc]
    · rw [if_neg hi, List.getElem?_eq_none (by simp; omega)]

/-- A row of the call's own with the heads of rows that were there before. -/
structure OrdAt (w w' : World) (v : Value) (S : List (List Val)) : Prop where
  low : Below w.heap.size w w'
  row : ∃ xs, w'.ownsRow w.heap.size 25 1 v S.length xs ∧ HeadsAt w xs S
theorem srt_of_hds {w : World} {ys zs : List (HdT w)} {L : List (List Val)} (hy : ys.map HdT.l = L) (hp : zs.Perm ys) (hs : zs.Pairwise (fun x y => ¬ cfH w y x < 0)) : zs.map HdT.l = srt L := by
  refine srt_unique (by rw [← hy]; exact hp.map _) ?_
  unfold Sorted
  rw [List.pairwise_map]
  refine hs.imp fun {x y} h => leR_iff.2 ?_
  unfold cfH at h
  have := cmpRow_neg x.l y.l
  omega

theorem enters_cmp : ∀ args w, (callFunc 65 args).run Tryd.prog w = .ok (.enter 65 args) w := enters_of Tryd.func65 (by kernel_rfl) rfl
set_option maxHeartbeats 1000000 in
theorem sortfunc_any {w w2 : World} {v : Value} {L : List (List Val)} (ys : List (HdT w)) (hy : ys.map HdT.l = L) (hL : L.length ≤ 1000) (hb : Below w.heap.size w w2) (ho : w2.ownsRow w.heap.size 25 1 v L.length (ys.map HdT.v)) :
    Calls Tryd.prog 98 #[v, .func (.func 65) #[] #[]] w2 fun e w' => e = .returned (.tuple #[]) ∧ OrdAt w w' v (srt L) := by
  have hlen : ys.length = L.length := by rw [← hy, List.length_map]
  by_cases h0 : L.length = 0
  · obtain ⟨p, c, rfl⟩ : ∃ p c, v = .slice p 0 c := by
      rcases ho.2 with ⟨rfl, -⟩ | ⟨g, cap, cur, rfl, -⟩
      · exact ⟨none, 0, rfl⟩
      · exact ⟨_, cap, by rw [h0]⟩
    have hS := AnyF.slices_SortFunc_none (P := Tryd.prog) (ρ := Tryd.sortL_ren) { Tryd.sortL with } p c (.func (.func 65) #[] #[]) w2
    refine Calls.mono (show Calls Tryd.prog 98 _ _ _ from hS) ?_
    rintro e w' ⟨rfl, rfl⟩
    obtain rfl : L = [] := List.eq_nil_of_length_eq_zero h0
    have hys : ys = [] := List.eq_nil_of_length_eq_zero (by omega)
    subst hys
    have e0 : srt [] = [] := by simp [srt]
    rw [e0]
    exact ⟨rfl, hb, [], ho, HeadsAt.nil w⟩
  · obtain ⟨g, c, rfl⟩ : ∃ g c, v = .slice (some ⟨g, 0, none⟩) L.length c := by
      rcases ho.2 with ⟨-, h1⟩ | ⟨g, cap, cur, rfl, -⟩
      · exact absurd h1 h0
      · exact ⟨g, cap, rfl⟩
    obtain ⟨cur, hcur, hg, hnc, hm, hl, ht⟩ := own_block ho
    have hglt : g < w2.heap.size := (Array.getElem?_eq_some_iff.1 hcur).1
    have hds : ys.toArray.size = L.length := by simpa using hlen
    have hH : Go.Sort.Holds HdT.v w2 g 0 ys.toArray := by
      intro j hj
      have hj' : j < ys.length := by simpa using hj
      rw [Nat.zero_add]
      refine ⟨?_, Joins.unfrozen_of_block hcur j⟩
      rw [Joins.cell_of_block hcur]
      have : (cur.take L.length)[j]? = (ys.map HdT.v)[j]? := by rw [ht]
      rw [List.getElem?_take, if_pos (by omega), List.getElem?_map, List.getElem?_eq_getElem hj'] at this
      rw [getElem!_pos ys.toArray j hj]
      simpa using this
    have hcmp : CmpLays1 Tryd.prog 65 #[] HdT.v (cfH w) g 0 ys.toArray.size w2 := by
      intro m os dk _ x y
      have hlow := sortWorld_low (enc := HdT.v) (m := m) (dk := dk) (os := os) hb hg
      have hx := x.2.2.1
      have hy := y.2.2.1
      refine Calls.mono (show Calls Tryd.prog 65 _ _ _ from comparerowsG_any x.1.p y.1.p x.1.l y.1.l x.1.c y.1.c _ (by omega) (by omega) (x.2.1.low hlow) (y.2.1.low hlow)) ?_
      rintro e w' ⟨rfl, hgro⟩
      exact ⟨rfl, hgro.eq⟩
    have hS := Any.slices_SortFunc Tryd.sortL HdT.v (fun _ => rfl) (cfH w) (swoH w) 65 #[] g 0 c ys.toArray w2 enters_cmp hcmp hH hglt (by rw [hds]; omega)
    rw [hds] at hS
    refine Calls.mono (show Calls Tryd.prog 98 _ _ _ from hS) ?_
    rintro e w' ⟨rfl, d', n, os, hP, hSo, rfl⟩
    obtain ⟨hsz, -, hperm⟩ := hP
    rw [hds] at hsz
    have e1 : d'.extract 0 L.length = d' := by rw [← hsz]; exact Array.extract_size
    have e2 : ys.toArray.extract 0 L.length = ys.toArray := by rw [← hds]; exact Array.extract_size
    rw [e1, e2] at hperm
    have hsrt : d'.toList.map HdT.l = srt L := by
      refine srt_of_hds hy (by simpa using hperm) ?_
      rw [List.pairwise_iff_getElem]
      intro i j hi hj hij
      have hi' : i < d'.size := by simpa using hi
      have hj' : j < d'.size := by simpa using hj
      have := hSo i j (Nat.zero_le _) hij (by omega)
      rw [getElem!_pos d' j hj', getElem!_pos d' i hi'] at this
      simpa [ltOf] using this
    obtain ⟨cur', hc', hl', ht'⟩ := sortWorld_block (enc := HdT.v) (m := n) (os := os) hcur (d := d') (by omega)
    refine ⟨rfl, sortWorld_low hb hg, d'.toList.map HdT.v, ?_, ?_⟩
    · rw [srt_length]
      exact block_own hc' hg hnc hm (by rw [hl', hl]) (by rw [← hsz]; exact ht') (by simp [hsz])
    · rw [← hsrt]
      exact heads_of_hds _

def OrdPost (L : List (List Val)) (w : World) (e : Ending) (w' : World) : Prop := ∃ v, e = .returned v ∧ OrdAt w w' v (srt L)
theorem hds_one {w : World} (ys : List (HdT w)) : ∀ u ∈ ys.map HdT.v, u.oneCell' = true := by
  intro u hu
  obtain ⟨x, -, rfl⟩ := List.mem_map.1 hu
  rfl
set_option maxHeartbeats 1000000 in
theorem ordered_any (L : List (List Val)) (p : Option Addr) (cap : Nat) (w : World) (hL : L.length ≤ 1000) (hp : RowsAt w p L) :
    Calls Tryd.prog 62 #[.slice p L.length cap] w (OrdPost L w) := by
  obtain ⟨ys, hy, hsrc⟩ := hp.hds
  have hlen : ys.length = L.length := by rw [← hy, List.length_map]
  have HY := Lib.hid hy
  have HSRC : Hid (∀ i u, (ys.map HdT.v)[i]? = some u → ∃ c o', p = some ⟨c, o', none⟩ ∧ w.cell? ⟨c, o' + i, none⟩ = some u) := Lib.hid (by
    intro i u hu
    rw [List.getElem?_map] at hu
    obtain ⟨x, hx, rfl⟩ := Option.map_eq_some_iff.1 hu
    obtain ⟨c, o, h1, -, h2⟩ := hsrc i x hx
    exact ⟨c, o, h1, h2⟩)
  have hown0 : w.ownsRow w.heap.size 25 1 (.slice none 0 0) 0 [] := ⟨rfl, Or.inl ⟨rfl, rfl⟩⟩
  have HO := Lib.hid hown0
  have HLEN : Hid ((ys.map HdT.v).length = L.length) := Lib.hid (by rw [List.length_map]; exact hlen)
  clear hp hy hsrc hown0 hlen
  go_enter Tryd.func62, Tryd.ntmps62
  go_wp2_with (at_builtin; refine wpList_append_rows rfl _ (.tmp 4) rfl w.heap.size _ 0 [] rfl HO.out p L.length cap (ys.map HdT.v) rfl HLEN.out HSRC.out (hds_one ys) (by omega) (Nat.le_refl _) ?_; intro v2 w2 hown2 hgr2; (have HO2 := Lib.hid hown2); (have HB2 := Lib.hid (grown_below (Below.refl w.heap.size w) (Nat.le_refl _) hgr2 (fun k hk => by cases hk))); clear hown2 hgr2)
  have ho2 := HO2.out
  rw [Nat.zero_add, List.nil_append] at ho2
  refine (sortfunc_any ys HY.out hL HB2.out ho2).mono ?_
  rintro e w3 ⟨rfl, hord⟩
  have HORD := Lib.hid hord
  clear hord ho2
  go_wp2
  go_ret
  exact ⟨_, rfl, HORD.out⟩
end Go.Proofs.YtgaihglploedaaaDoor
