/-
  THE STATEMENT TupleDiffers, as a walk.
-/
import Derived.Test.YtlgagibmndbimaaDoorBagFacts
namespace Go.Proofs.YtlgagibmndbimaaDoor
open Go.RowKit
variable {ls : List Nat}

theorem join_bag {u v : World} {base : Nat} {x : Value} {xa xb : List Value} {LA LB : List (List Val)} (h : v.ownsRow base 25 1 x (0 + LA.length + LB.length) ([] ++ xa ++ xb)) (ha : HeadsAt u xa LA) (hb : HeadsAt u xb LB) (hl : Below u.heap.size u v) : BagAt v base x (xa ++ xb) (LA ++ LB) := by
  rw [Nat.zero_add, List.nil_append] at h
  exact ⟨by rw [List.length_append]; exact h, (ha.low hl).append (hb.low hl)⟩
/-- What the rounds lean on. -/
structure DiffAt (w u : World) (pa pb pd pe pl : Option Addr) (LA LB L : List (List Val)) : Prop where
  a : RowsAt u pa LA
  b : RowsAt u pb LB
  d : RowsAt u pd (minR LA LB)
  e : RowsAt u pe (minR LB LA)
  l : RowsAt u pl L
  low' : Below w.heap.size w u
theorem DiffAt.low {w u v : World} {pa pb pd pe pl : Option Addr} {LA LB L : List (List Val)} (h : DiffAt w u pa pb pd pe pl LA LB L) (hb : Below u.heap.size u v) : DiffAt w v pa pb pd pe pl LA LB L :=
  ⟨h.a.low hb, h.b.low hb, h.d.low hb, h.e.low hb, h.l.low hb, below_next h.low' hb⟩
theorem rcount_min (A B : List (List Val)) (p : Option Addr) (cap : Nat) (t : List Val) (q : Option Addr) (cp : Nat) (w : World) (hA : A.length ≤ 8) (ht : t.length ≤ 9223372036854775807) (hp : RowsAt w p (minR A B)) (hq : RowAt w q t) :
    Calls Tryd.prog 22 #[.slice p (minR A B).length cap, .slice q t.length cp] w fun e w' => e = .returned (.int .i64 (A.count t - B.count t : Nat)) ∧ Below w.heap.size w w' :=
  (rcount_any (minR A B) p cap t q cp w (by have := minR_le A B; omega) ht hp hq).mono fun e w' ⟨he, hb⟩ => ⟨by rw [he, minR_count], hb⟩

set_option maxRecDepth 100000 in
set_option maxHeartbeats 8000000 in
theorem tdiffers_walk (hT : TupleDoes) (w : World) (p : Option Addr) (len cap : Nat) (hl : len ≤ cap) (hm : len ≤ 9223372036854775807) (h : IntsAt w p len) (hE : Env ls w) (hlw : 1 ∈ ls) :
    Calls Tryd.prog 6 #[.slice p len cap] w fun e w' => e = .returned (.bool true) ∧ Below w.heap.size w w' := by
  have HI := Lib.hid h
  clear h
  have hz8 := hE.size
  go_enter Tryd.func6, Tryd.ntmps6
  go_wp2_with fail
  refine (new_any w p len cap hl hm HI.out).mono ?_
  rintro e w1 ⟨b, rfl, hb0, ht, hb1⟩
  have hE1 := hE.low hb1
  have h8b : 3 ≤ b := by omega
  have hbw : b ≠ 1 := by omega
  have hbB : b < w1.heap.size := ht.lt
  go_wp2_with fail
  refine (rows_any b 8 w1 (by omega) hbw ht (hE1.words hlw)).mono ?_
  rintro e w2 ⟨va, GA, rfl, hGA, hna, ht2, hs2⟩
  have hE2 := hE1.step hs2 h8b
  have hB2 := hb1.trans (hs2.below hb0 hb1.size)
  have hbB2 : b < w2.heap.size := ht2.lt
  have HGA := Lib.hid hGA
  have HI2 : Hid (IntsAt w p len) := HI
  clear HI HI2 hE ht hE1 hb1 hGA
  go_wp2_with fail
  refine (rows_any b 8 w2 (by omega) hbw ht2 (hE2.words hlw)).mono ?_
  rintro e w3 ⟨vb, GB, rfl, hGB, hnb, ht3, hs3⟩
  have hB3 := hB2.trans (hs3.below hb0 hB2.size)
  have HA3 := Lib.hid (HGA.out.step hbB hs3).bag
  have HBB3 := Lib.hid hGB.bag
  have hla : (GA.map (·.2)).length ≤ 8 := by rw [List.length_map]; omega
  have hlb : (GB.map (·.2)).length ≤ 8 := by rw [List.length_map]; omega
  have HB3 := Lib.hid hB3
  clear ht2 hE2 hB2 hGB ht3 hs3 hs2 HGA hB3 hna hnb
  generalize GA.map (·.2) = LA at *
  generalize GB.map (·.2) = LB at *
  generalize GA.map (·.1) = xa at *
  generalize GB.map (·.1) = xb at *
  obtain ⟨pa, ca, rfl⟩ := HA3.out.shape
  obtain ⟨pb, cb, rfl⟩ := HBB3.out.shape
  go_wp2_with fail
  refine (hT.minus LA LB pa pb ca cb _ (by omega) (by omega) HA3.out.rows HBB3.out.rows).mono ?_
  rintro e w4 ⟨pd, cd, rfl, hd, hb⟩
  have HA4 := Lib.hid (HA3.out.low hb)
  have HBB4 := Lib.hid (HBB3.out.low hb)
  have HB4 := Lib.hid (below_next HB3.out hb)
  have HD4 := Lib.hid hd
  clear HA3 HBB3 HB3 hb hd
  go_wp2_with fail
  refine (hT.minus LB LA pb pa cb ca _ (by omega) (by omega) HBB4.out.rows HA4.out.rows).mono ?_
  rintro e w5 ⟨pe, ce, rfl, hd, hb⟩
  have HA5 := Lib.hid (HA4.out.low hb)
  have HBB5 := Lib.hid (HBB4.out.low hb)
  have HB5 := Lib.hid (below_next HB4.out hb)
  have HD5 := Lib.hid (HD4.out.low hb)
  have HE5 := Lib.hid hd
  clear HA4 HBB4 HB4 HD4 hb hd
  have HN := Lib.hid (owns_none w5)
  have HZ : Hid (w5.heap.size ≤ (w5.alloc (.cells #[] 25)).heap.size) := Lib.hid (below_alloc w5 _).size
  have HA6 := Lib.hid (HA5.out.low (below_alloc w5 (.cells #[] 25)))
  have HBB6 := Lib.hid (HBB5.out.low (below_alloc w5 (.cells #[] 25)))
  have HLo : Hid (Below w5.heap.size w5 (w5.alloc (.cells #[] 25))) := Lib.hid (below_alloc w5 _)
  go_wp2_with (at_builtin; first
    | (refine wpList_append_heads rfl (.tmp 23) (.tmp 24) rfl w5.heap.size _ 0 [] rfl HN.out _ _ LA.length xa rfl HA6.out.own HA6.out.heads.one (by omega) HZ.out ?_; intro v7 w7 hown7 hgr7; (have HO7 := Lib.hid hown7); (have HL7 := Lib.hid (grown_below HLo.out HZ.out hgr7 (owns_block HN.out))); clear hown7 hgr7)
    | (refine wpList_append_heads rfl (.tmp 25) (.tmp 26) rfl w5.heap.size _ (0 + LA.length) ([] ++ xa) rfl HO7.out _ _ LB.length xb rfl (HBB5.out.low HL7.out).own HBB5.out.heads.one (by omega) HL7.out.size ?_; intro v8 w8 hown8 hgr8; (have HL8 := Lib.hid (grown_below HL7.out HL7.out.size hgr8 (owns_block HO7.out))); (have HJ8 := Lib.hid (join_bag hown8 HA5.out.heads HBB5.out.heads HL8.out)); clear hown8 hgr8; (have hll : (LA ++ LB).length ≤ 16 := by rw [List.length_append]; omega); (generalize LA ++ LB = L at HJ8 hll); (obtain ⟨pl, cl, rfl⟩ := HJ8.out.shape)))
  have HF8 := Lib.hid (DiffAt.mk (HA5.out.low HL8.out).rows (HBB5.out.low HL8.out).rows (HD5.out.low HL8.out) (HE5.out.low HL8.out) HJ8.out.rows (below_next HB5.out HL8.out) : DiffAt w w8 pa pb pd pe pl LA LB L)
  clear HA5 HBB5 HB5 HD5 HE5 HN HZ HA6 HBB6 HLo HO7 HL7 HL8 HJ8
  go_loopw [9, 10, 29] (fun _ _ i v => ∃ k : Nat, k ≤ L.length ∧ i = .int .i64 k ∧ DiffAt w v pa pb pd pe pl LA LB L) (fun _ _ i _ => L.length - (intOf i).toNat)
  case atStart => exact ⟨0, Nat.zero_le _, rfl, HF8.out⟩
  clear HF8
  case round =>
    obtain ⟨k, hk, rfl, hf⟩ := hrel
    have HF := Lib.hid hf
    clear hf
    by_cases hlt : k < L.length
    · have hlt' : decide ((k : Int) < L.length) = true := decide_eq_true (by omega)
      obtain ⟨c, o, q, cp, rfl, hc, h0, hr, hs, -⟩ := HF.out.l k hlt
      have HR := Lib.hid hr
      have ht63 : (rAt L k).length ≤ 9223372036854775807 := by omega
      clear hr
      go_wp2_with fail
      refine (rcount_any LA pa ca (rAt L k) q cp _ (by omega) ht63 HF.out.a HR.out).mono ?_
      rintro e v1 ⟨rfl, hb⟩
      have HF1 := Lib.hid (HF.out.low hb)
      have HR1 := Lib.hid (HR.out.low hb)
      clear hb HF HR h0 hc
      go_wp2_with fail
      refine (rcount_any LB pb cb (rAt L k) q cp _ (by omega) ht63 HF1.out.b HR1.out).mono ?_
      rintro e v2 ⟨rfl, hb⟩
      have HF2 := Lib.hid (HF1.out.low hb)
      have HR2 := Lib.hid (HR1.out.low hb)
      clear hb HF1 HR1
      have hxa : LA.count (rAt L k) ≤ 8 := Nat.le_trans List.count_le_length hla
      have hxb : LB.count (rAt L k) ≤ 8 := Nat.le_trans List.count_le_length hlb
      have hcd : Hid (∀ w, RowsAt w pd (minR LA LB) → RowAt w q (rAt L k) → Calls Tryd.prog 22 #[.slice pd (minR LA LB).length cd, .slice q (rAt L k).length cp] w fun e w' => e = .returned (.int .i64 (LA.count (rAt L k) - LB.count (rAt L k) : Nat)) ∧ Below w.heap.size w w') := Lib.hid (fun w => rcount_min LA LB pd cd (rAt L k) q cp w hla ht63)
      have hce : Hid (∀ w, RowsAt w pe (minR LB LA) → RowAt w q (rAt L k) → Calls Tryd.prog 22 #[.slice pe (minR LB LA).length ce, .slice q (rAt L k).length cp] w fun e w' => e = .returned (.int .i64 (LB.count (rAt L k) - LA.count (rAt L k) : Nat)) ∧ Below w.heap.size w w') := Lib.hid (fun w => rcount_min LB LA pe ce (rAt L k) q cp w hlb ht63)
      generalize LA.count (rAt L k) = x at *
      generalize LB.count (rAt L k) = y at *
      have hsub : IntKind.i64.wrap ((x : Int) - y) = x - y := i64w (by omega) (by omega)
      go_wp2_with fail
      refine (hcd.out _ HF2.out.d HR2.out).mono ?_
      rintro e v3 ⟨rfl, hb⟩
      have HF3 := Lib.hid (HF2.out.low hb)
      have HR3 := Lib.hid (HR2.out.low hb)
      clear hb HF2 HR2
      have hneg : IntKind.i64.wrap (-((x : Int) - y)) = -((x : Int) - y) := i64w (by omega) (by omega)
      go_wp2_with fail
      refine (hce.out _ HF3.out.e HR3.out).mono ?_
      rintro e v4 ⟨rfl, hb⟩
      have HF4 := Lib.hid (HF3.out.low hb)
      clear hb HF3 HR3
      have hmax : (((y - x : Nat) : Int) == max (-((x : Int) - y)) 0) = true := beq_iff_eq.2 (by omega)
      go_wp2_with fail
      go_roundw
      case rel => exact ⟨k + 1, by omega, by go_num, HF4.out⟩
      case measure => simp [intOf]; omega
    · obtain rfl : k = L.length := by omega
      have hlt' : decide ((L.length : Int) < L.length) = false := decide_eq_false (by omega)
      go_wp2_with fail
      refine (hT.same LA LB pa pb ca cb _ (by omega) (by omega) HF.out.a HF.out.b).mono ?_
      rintro e v1 ⟨rfl, hb⟩
      have HF1 := Lib.hid (HF.out.low hb)
      clear hb HF
      have hiff := same_iff_minR LA LB
      have hlen := minR_len LA LB
      have hle := minR_le LA LB
      have hle' := minR_le LB LA
      generalize (minR LA LB).length = d at *
      generalize (minR LB LA).length = f at *
      have hq : (((LA.length : Int) - d) == ((LB.length : Int) - f)) = true := beq_iff_eq.2 (by omega)
      have hwa : IntKind.i64.wrap ((LA.length : Int) - d) = LA.length - d := i64w (by omega) (by omega)
      have hwb : IntKind.i64.wrap ((LB.length : Int) - f) = LB.length - f := i64w (by omega) (by omega)
      clear hlen hle hle'
      by_cases hd0 : d = 0
      · by_cases hf0 : f = 0
        · have hsb : decide (srt LA = srt LB) = true := decide_eq_true (hiff.2 ⟨hd0, hf0⟩)
          rw [hsb]
          have h1 : ((d : Int) == 0) = true := beq_iff_eq.2 (by omega)
          have h2 : ((f : Int) == 0) = true := beq_iff_eq.2 (by omega)
          clear hd0 hf0 hiff hsb
          go_wp2_with fail
          refine (known5_any hT _).mono ?_
          rintro e v2 ⟨rfl, hb⟩
          have HF2 := Lib.hid (HF1.out.low hb)
          clear hb
          go_wp2_with fail
          go_ret
          exact ⟨rfl, HF2.out.low'⟩
        · have hsb : decide (srt LA = srt LB) = false := decide_eq_false (fun h => hf0 (hiff.1 h).2)
          rw [hsb]
          have h1 : ((d : Int) == 0) = true := beq_iff_eq.2 (by omega)
          have h2 : ((f : Int) == 0) = false := beq_eq_false_iff_ne.2 (by omega)
          clear hd0 hf0 hiff hsb
          go_wp2_with fail
          refine (known5_any hT _).mono ?_
          rintro e v2 ⟨rfl, hb⟩
          have HF2 := Lib.hid (HF1.out.low hb)
          clear hb
          go_wp2_with fail
          go_ret
          exact ⟨rfl, HF2.out.low'⟩
      · have hsb : decide (srt LA = srt LB) = false := decide_eq_false (fun h => hd0 (hiff.1 h).1)
        rw [hsb]
        have h1 : ((d : Int) == 0) = false := beq_eq_false_iff_ne.2 (by omega)
        clear hd0 hiff hsb
        go_wp2_with fail
        refine (known5_any hT _).mono ?_
        rintro e v2 ⟨rfl, hb⟩
        have HF2 := Lib.hid (HF1.out.low hb)
        clear hb
        go_wp2_with fail
        go_ret
        exact ⟨rfl, HF2.out.low'⟩
end Go.Proofs.YtlgagibmndbimaaDoor
