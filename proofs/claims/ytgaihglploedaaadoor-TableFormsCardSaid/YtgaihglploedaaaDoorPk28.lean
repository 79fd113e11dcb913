/-
  Several texts in one.
-/
import Derived.Test.YtgaihglploedaaaDoorPk20
import Derived.Test.YtgaihglploedaaaDoorPk26
import Derived.Test.YtgaihglploedaaaDoorPk27
import Derived.Deep.RegionHeld3
/-
  The law TableFinds, walked: from what package table does.
-/
namespace Go.Proofs.YtgaihglploedaaaDoor
set_option maxRecDepth 100000
open Go.RowKit
variable {ls : List Nat}

abbrev tabV (nm : ByteArray) (pc : Option Addr) (n cc : Nat) (nx : Int) (pr : Option Addr) (m cr : Nat) : Value := .agg #[.string nm, .slice pc n cc, .int .i64 nx, .slice pr m cr]
theorem bagn_any (hT : TableDoes) (nm : ByteArray) (pc : Option Addr) (n cc : Nat) (f : Nat → Col) (nx : Int) (pr : Option Addr) (cr : Nat) (R : List TRow) (w : World) (h : TabAt w ⟨nm, pc, n, cc, f, nx, pr, cr, R⟩) :
    Calls Tryd.prog 46 #[.agg #[.string nm, .slice pc n cc, .int .i64 nx, .slice pr R.length cr]] w fun e w' => ∃ (p : Option Addr) (cap : Nat), e = .returned (.slice p R.length cap) ∧ Below w.heap.size w w' :=
  (hT.bag ⟨nm, pc, n, cc, f, nx, pr, cr, R⟩ w h).mono fun _ _ ⟨p, c, he, _, hl, hb⟩ => ⟨p, c, by rw [he, hl, List.length_map], hb⟩
theorem getn_any (hT : TableDoes) (nm : ByteArray) (pc : Option Addr) (n cc : Nat) (f : Nat → Col) (nx : Int) (pr : Option Addr) (cr : Nat) (R : List TRow) (id : Int) (w : World) (h : TabAt w ⟨nm, pc, n, cc, f, nx, pr, cr, R⟩) {l : List Val} {b : Bool} (hg : getO id R = (l, b)) :
    Calls Tryd.prog 43 #[.agg #[.string nm, .slice pc n cc, .int .i64 nx, .slice pr R.length cr], .int .i64 id] w fun e w' => ∃ (p : Option Addr) (cap : Nat), e = .returned (.tuple #[.slice p l.length cap, .bool b]) ∧ RowAt w' p l ∧ Below w.heap.size w w' :=
  (hT.get ⟨nm, pc, n, cc, f, nx, pr, cr, R⟩ id w h).mono fun _ _ ⟨p, c, he, hr, _, hb⟩ => ⟨p, c, by rw [he]; dsimp only; rw [hg], by have := hr; dsimp only at this; rw [hg] at this; exact this, hb⟩
theorem lookn_any (hT : TableDoes) (nm : ByteArray) (pc : Option Addr) (n cc : Nat) (f : Nat → Col) (nx : Int) (pr : Option Addr) (cr : Nat) (R : List TRow) (v : Val) (w : World) (h : TabAt w ⟨nm, pc, n, cc, f, nx, pr, cr, R⟩) {a : Int} {b : Bool} (hl : lookO (findKey f n) v R = (a, b)) :
    Calls Tryd.prog 45 #[.agg #[.string nm, .slice pc n cc, .int .i64 nx, .slice pr R.length cr], .agg #[.int .i64 v.1, .int .i64 v.2.1, .string v.2.2]] w fun e w' => e = .returned (.tuple #[.int .i64 a, .bool b]) ∧ Below w.heap.size w w' :=
  (hT.look ⟨nm, pc, n, cc, f, nx, pr, cr, R⟩ v w h).mono fun _ _ ⟨he, hb⟩ => ⟨by rw [he]; unfold Tab.key; dsimp only; rw [hl], hb⟩
theorem keepF {w u v : World} {B : Nat} {x y z t : Value} {T : Tab} (hb : Below u.heap.size u v) (h : u.cell? ⟨B, 0, none⟩ = some x ∧ u.cell? ⟨B, 1, none⟩ = some y ∧ u.cell? ⟨B, 2, none⟩ = some z ∧ u.cell? ⟨B, 3, none⟩ = some t ∧ B < u.heap.size ∧ TabAt u T ∧ Below w.heap.size w u) :
    v.cell? ⟨B, 0, none⟩ = some x ∧ v.cell? ⟨B, 1, none⟩ = some y ∧ v.cell? ⟨B, 2, none⟩ = some z ∧ v.cell? ⟨B, 3, none⟩ = some t ∧ B < v.heap.size ∧ TabAt v T ∧ Below w.heap.size w v := by
  obtain ⟨a, b, c, d, e, f, g⟩ := h
  exact ⟨by rw [hb.cell (by exact e)]; exact a, by rw [hb.cell (by exact e)]; exact b, by rw [hb.cell (by exact e)]; exact c, by rw [hb.cell (by exact e)]; exact d, Nat.lt_of_lt_of_le e hb.size, f.low hb, below_next g hb⟩
theorem wsNm_size {k : Nat} (hk : k < 3) : (wsNm k).size ≤ 9223372036854775807 := by
  obtain rfl | rfl | rfl : k = 0 ∨ k = 1 ∨ k = 2 := by omega
  all_goals decide
set_option maxHeartbeats 4000000 in
theorem tfinds_walk (hT : TableDoes) (w : World) (p : Option Addr) (len cap : Nat) (hl : len ≤ cap) (hm : len ≤ 9223372036854775807) (h : IntsAt w p len) (hE : Env ls w) (hlw : 1 ∈ ls) :
    Calls Tryd.prog 9 #[.slice p len cap] w fun e w' => e = .returned (.bool true) ∧ Below w.heap.size w w' := by
  have HI := Lib.hid h
  have HE := Lib.hid hE
  have hz8 := hE.size
  clear h hE
  go_enter Tryd.func9, Tryd.ntmps9
  go_wp2_with fail
  refine (new_any _ p len cap hl hm HI.out).mono ?_
  rintro e w1 ⟨b, rfl, hb0, ht, hb1⟩
  have HB1 := Lib.hid hb1
  have HE1 := Lib.hid (HE.out.low hb1)
  have h8b : 3 ≤ b := by omega
  clear HI HE hb1
  go_wp2_with fail
  refine (table_any b _ ht).mono ?_
  rintro e w2 ⟨k, rfl, hk, ht2, hs2⟩
  have HB2 := Lib.hid (HB1.out.trans (hs2.below (B := w.heap.size) (by omega) HB1.out.size))
  have HE2 := Lib.hid (HE1.out.step hs2 h8b)
  have HT2 := Lib.hid ht2
  clear HB1 HE1 ht ht2 hs2
  go_wp2_with fail
  refine (schemaK_any k _).mono ?_
  rintro e w3 ⟨Z, rfl, hZ, hZl, hb3⟩
  have HB3 := Lib.hid (below_next HB2.out hb3)
  have HE3 := Lib.hid (HE2.out.low hb3)
  have hbl := HT2.out.lt
  have HT3 := Lib.hid (HT2.out.keep (fun k hk => hb3.block k (by omega)) hb3.size)
  have HZ := Lib.hid hZ
  have hZb : Z ≠ b := by omega
  have hZ3 : Z < w3.heap.size := by obtain ⟨c, o, he, hc⟩ := hZ.ptr (by have := schemaOK_range (ws_valid k); omega); cases he; exact hc
  clear HB2 HE2 HT2 hZ hb3
  go_wp2_with fail
  refine (tableof_any b _ h8b HT3.out HE3.out hlw (wsNm k) ⟨Z, 0, none⟩ (wsN k) (wsN k) 8 (wsF k) (by decide) (wsNm_size hk) HZ.out hZb hZ3 (ws_valid k)).mono ?_
  rintro e w4 ⟨T, rfl, hnm, hpc, hn, hcc, hf, hlen, hval, hat, ht4, hs4⟩
  have HB4 := Lib.hid (HB3.out.trans (hs4.below (B := w.heap.size) (by omega) HB3.out.size))
  have HAT := Lib.hid hat
  have HVAL := Lib.hid hval
  clear HB3 HE3 HT3 HZ hat hval hs4 ht4
  obtain ⟨nm, pc, n, cc, f, nx, pr, cr, R⟩ := T
  dsimp only at hnm hpc hn hcc hf hlen
  clear hnm hpc hcc
  obtain ⟨hso, hl100, hnx1, hnx2, hrows, hnod⟩ := validT_parts HVAL.out
  have hn1 := (schemaOK_range hso).1
  have HROWS := Lib.hid hrows
  have HNOD := Lib.hid hnod
  have HLEN := Lib.hid hl100
  have HT4 := Lib.hid (HAT.out w4 (StepT.refl _ _))
  clear HAT HVAL hrows hnod hso hlen hl100 hnx1 hnx2 hn hf
  unfold Tab.v
  dsimp only
  have HB5 := Lib.hid (below_new HB4.out (.cells #[.string nm, .slice pc n cc, .int .i64 nx, .slice pr R.length cr] 51))
  have HT5 := Lib.hid (HT4.out.low (below_alloc w4 (.cells #[.string nm, .slice pc n cc, .int .i64 nx, .slice pr R.length cr] 51)))
  have HX5 := Lib.hid (cell4_new w4 (.string nm) (.slice pc n cc) (.int .i64 nx) (.slice pr R.length cr) 51)
  clear HB4 HT4
  have hlI := HT5.out.len
  dsimp only at hlI
  go_wp2_with fail
  generalize w4.heap.size = B at HX5 ⊢
  go_loopw [23] (fun i v => ∃ k : Nat, k ≤ R.length ∧ i = .int .i64 k ∧ TabAt v ⟨nm, pc, n, cc, f, nx, pr, cr, R⟩ ∧ Cell4 v B (.string nm) (.slice pc n cc) (.int .i64 nx) (.slice pr R.length cr) ∧ Below w.heap.size w v) (fun i _ => R.length - (intOf i).toNat)
  case atStart => exact ⟨0, Nat.zero_le _, rfl, HT5.out, HX5.out, HB5.out⟩
  clear HT5 HX5 HB5
  case round =>
    obtain ⟨k, hk, rfl, ht, hx, hb⟩ := hrel
    have HT := Lib.hid ht
    have HX := Lib.hid hx
    have HB := Lib.hid hb
    clear ht hx hb
    by_cases hlt : k < R.length
    · have hlt' : decide ((k : Int) < R.length) = true := decide_eq_true (by omega)
      have HRL := Lib.hid (fitsRow_zero (HROWS.out k hlt).2.2.2 : (tAt R k).2.length = n)
      have hlen0 : 0 < (tAt R k).2.length := by have := HRL.out; omega
      obtain ⟨c, o, q, cp, hpr, hc, h0, h1, hr, hs, hqn⟩ := HT.out.rows k hlt
      dsimp only at hpr
      subst hpr
      have hbn := below_alloc wr (.cells #[.int .i64 (tAt R k).1, .slice q (tAt R k).2.length cp] 68)
      have HT1 := Lib.hid (HT.out.low hbn)
      have HX1 := Lib.hid (HX.out.low hbn)
      have HB1 := Lib.hid (below_next HB.out hbn)
      have HQ1 := Lib.hid (hr.low hbn)
      have HR1 := Lib.hid (row2_new wr (.int .i64 (tAt R k).1) (.slice q (tAt R k).2.length cp) 68)
      have HXL := Lib.hid (show wr.heap.size < (wr.alloc (.cells #[.int .i64 (tAt R k).1, .slice q (tAt R k).2.length cp] 68)).heap.size by simp)
      have HSL := Lib.hid hs
      clear hr hqn HT HX HB hbn hs
      go_upto_region 6 with (fail)
      generalize wr.alloc _ = W1 at HT1 HX1 HB1 HQ1 HR1 HXL ⊢
      generalize wr.heap.size = X at HR1 HXL ⊢
      clear h0 h1 hc
      obtain ⟨hxl, x0, x1, x2, x3, -⟩ := HX1.out
      obtain ⟨r0, r1⟩ := HR1.out
      go_wp2_with fail
      refine (getn_any hT nm pc n cc f nx (some ⟨c, o, none⟩) cr R (tAt R k).1 _ HT1.out (l := (tAt R k).2) (b := true) (by unfold getO; rw [get_row HROWS.out hlt])).mono ?_
      rintro e w5 ⟨p5, c5, rfl, hr5, hb5⟩
      have HT2 := Lib.hid (HT1.out.low hb5)
      have HX2 := Lib.hid (HX1.out.low hb5)
      have HB2 := Lib.hid (below_next HB1.out hb5)
      have HQ2 := Lib.hid (HQ1.out.low hb5)
      have HP2 := Lib.hid hr5
      have s0 : w5.cell? ⟨X, 0, none⟩ = some (.int .i64 (tAt R k).1) := by rw [hb5.cell (by exact HXL.out)]; exact r0
      have s1 : w5.cell? ⟨X, 1, none⟩ = some (.slice q (tAt R k).2.length cp) := by rw [hb5.cell (by exact HXL.out)]; exact r1
      have HXL2 := Lib.hid (Nat.lt_of_lt_of_le HXL.out hb5.size)
      clear x0 x1 x2 x3 hxl r0 r1 HT1 HX1 HB1 HQ1 HR1 HXL hr5 hb5
      go_wp2_with fail
      refine (equal_any p5 q (tAt R k).2 (tAt R k).2 c5 cp _ (by have := HSL.out; omega) HP2.out HQ2.out).mono ?_
      rintro e w6 ⟨rfl, hb6⟩
      rw [decide_eq_true (rfl : (tAt R k).2 = (tAt R k).2)]
      have HT3 := Lib.hid (HT2.out.low hb6)
      have HX3 := Lib.hid (HX2.out.low hb6)
      have HB3 := Lib.hid (below_next HB2.out hb6)
      have HQ3 := Lib.hid (HQ2.out.low hb6)
      have t0 : w6.cell? ⟨X, 0, none⟩ = some (.int .i64 (tAt R k).1) := by rw [hb6.cell (by exact HXL2.out)]; exact s0
      have t1 : w6.cell? ⟨X, 1, none⟩ = some (.slice q (tAt R k).2.length cp) := by rw [hb6.cell (by exact HXL2.out)]; exact s1
      have hXl := Nat.lt_of_lt_of_le HXL2.out hb6.size
      clear s0 s1 HT2 HX2 HB2 HQ2 HXL2 HP2 hb6
      obtain ⟨hxl, x0, x1, x2, x3, -⟩ := HX3.out
      have hkI : (0 : Int) < ((tAt R k).2.length : Int) := by omega
      obtain ⟨c2, o2, hq, hc2, v0, v1, v2⟩ := HQ3.out 0 hlen0
      subst hq
      rw [Nat.zero_mul, Nat.add_zero] at v0 v1 v2
      obtain ⟨a, b, hlk⟩ : ∃ a b, lookO (findKey f n) (vAt (tAt R k).2 0) R = (a, b) := ⟨_, _, rfl⟩
      have HKEY : Hid ((f 0).key = true → b = true ∧ a = (tAt R k).1) := Lib.hid fun hf0 => by
        have h1 := findKey_first hn1 hf0
        have h2 := look_row HNOD.out hlt (v := vAt (tAt R k).2 0) (by rw [h1]; exact keyV_some hlen0)
        unfold lookO at hlk
        rw [h2] at hlk
        cases hlk
        exact ⟨rfl, rfl⟩
      have HLK := Lib.hid hlk
      obtain ⟨cq, oq, hpc, hcq, hnq, k0, k1, k2, k3⟩ := HT3.out.cols 0 hn1
      dsimp only at hpc
      subst hpc
      clear hlk HQ3 hnq k0 k1 k2
      have l0 := lowW_cell (a := ⟨B, 0, none⟩) hxl x0
      have l1 := lowW_cell (a := ⟨B, 1, none⟩) hxl x1
      have l2 := lowW_cell (a := ⟨B, 2, none⟩) hxl x2
      have l3 := lowW_cell (a := ⟨B, 3, none⟩) hxl x3
      have m1 := lowW_cell (a := ⟨X, 1, none⟩) hXl t1
      have u0 := lowW_cell (a := ⟨c2, o2, none⟩) hc2 v0
      have u1 := lowW_cell (a := ⟨c2, o2 + 1, none⟩) hc2 v1
      have u2 := lowW_cell (a := ⟨c2, o2 + 2, none⟩) hc2 v2
      go_upto_region 9 with (fail)
      refine wp_region_low (by kernel_rfl) (by kernel_rfl) ?_
      repeat (refine wq_step (fun K hK => ?_); go_simp; first | (refine hK _ ?_; clear hK K) | (apply Exists.intro; refine ⟨fun _ => ?_, hK _ ?_⟩; (go_at_call 45; exact Calls.low_of (lookn_any hT nm _ n cc f nx _ cr R (vAt (tAt R k).2 0) _ (HT3.out.low (lowW_low _ _ _)) HLK.out)); clear hK K))
      refine wq_nil ?_
      rintro _ ⟨⟨d7, os7⟩, rfl⟩
      dsimp only
      have hlow := lowW_low w6 d7 os7
      have z1 := l0 d7 os7
      have z2 := l1 d7 os7
      have z0 := lowW_cell (a := ⟨X, 0, none⟩) hXl t0 d7 os7
      have z3 := lowW_cell (a := ⟨cq, oq + 0 * 4 + 3, none⟩) hcq k3 d7 os7
      rw [Nat.zero_mul, Nat.add_zero] at z3
      clear l0 l1 l2 l3 m1 u0 u1 u2 x0 x1 x2 x3 hxl v0 v1 v2 t0 t1 hXl hc2 hcq k3
      generalize lowW w6 d7 os7 = W7 at hlow z0 z1 z2 z3 ⊢
      have HT7 := Lib.hid (HT3.out.low hlow)
      have HX7 := Lib.hid (HX3.out.low hlow)
      have HB7 := Lib.hid (below_next HB3.out hlow)
      clear HT3 HX3 HB3 hlow
      have hnI : (0 : Int) < (n : Int) := by omega
      cases hf0 : (f 0).key
      · go_wp2
        go_roundw
        case rel => exact ⟨k + 1, by omega, by go_num, HT7.out, HX7.out, HB7.out⟩
        case measure => simp [intOf]; omega
      · obtain ⟨rfl, rfl⟩ := HKEY.out hf0
        have hne : ((tAt R k).1 != (tAt R k).1) = false := by simp
        go_wp2
        go_roundw
        case rel => exact ⟨k + 1, by omega, by go_num, HT7.out, HX7.out, HB7.out⟩
        case measure => simp [intOf]; omega
    · have hlt' : decide ((k : Int) < R.length) = false := decide_eq_false (by omega)
      obtain rfl : k = R.length := by omega
      obtain ⟨hxl, x0, x1, x2, x3, -⟩ := HX.out
      go_wp2_with fail
      refine (getn_any hT nm pc n cc f nx pr cr R nx _ HT.out (l := []) (b := false) (by unfold getO; rw [get_next HROWS.out])).mono ?_
      rintro e w5 ⟨p5, c5, rfl, -, hb5⟩
      have HT2 := Lib.hid (HT.out.low hb5)
      have HX2 := Lib.hid (HX.out.low hb5)
      have HB2 := Lib.hid (below_next HB.out hb5)
      clear x0 x1 x2 x3 hxl HT HX HB hb5
      go_upto_region 14 with (fail)
      obtain ⟨hxl, x0, x1, x2, x3, -⟩ := HX2.out
      go_region_held3 (fun u => u.cell? ⟨B, 0, none⟩ = some (.string nm) ∧ u.cell? ⟨B, 1, none⟩ = some (.slice pc n cc) ∧ u.cell? ⟨B, 2, none⟩ = some (.int .i64 nx) ∧ u.cell? ⟨B, 3, none⟩ = some (.slice pr R.length cr) ∧ B < u.heap.size ∧ TabAt u ⟨nm, pc, n, cc, f, nx, pr, cr, R⟩ ∧ Below w.heap.size w u)
        (first
          | exact ⟨x0, x1, x2, x3, hxl, HT2.out.low (Below.refl _ _).drew, HB2.out.drew⟩
          | with_reducible exact keepF hbq (by assumption))
        (first
          | (go_at_call 46; with_reducible refine (bagn_any hT nm pc n cc f nx pr cr R _ ?_).mono ?_; (go_split_ands; assumption); rintro e wq ⟨pb, cb, rfl, hbq⟩)
          | (go_at_call 31; refine (known6_any hT _).mono ?_; rintro e wq ⟨rfl, hbq⟩))
      rename_i hHeld
      obtain ⟨-, -, -, -, -, -, hR9⟩ := hHeld
      go_wp2
      go_ret
      exact ⟨rfl, hR9⟩
end Go.Proofs.YtgaihglploedaaaDoor
