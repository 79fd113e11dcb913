/-
  Several texts in one.
-/
import Derived.Test.YtgaihglploedaaaDoorPk28
import Derived.Deep.RegionHeld3
/-
  alike of the law: all functions of a table against the reference.
-/
namespace Go.Proofs.YtgaihglploedaaaDoor
set_option maxRecDepth 100000
open Go.RowKit
variable {ls : List Nat}

section
variable (nm : ByteArray) (pc : Option Addr) (n cc : Nat) (f : Nat → Col) (nx : Int) (pr : Option Addr) (cr : Nat) (R : List TRow) (w : World)
theorem rgetn_any (id : Int) (h : TabAt w ⟨nm, pc, n, cc, f, nx, pr, cr, R⟩) {l : List Val} {b : Bool} (hg : getO id R = (l, b)) :
    Calls Tryd.prog 52 #[.agg #[.string nm, .slice pc n cc, .int .i64 nx, .slice pr R.length cr], .int .i64 id] w fun e w' => ∃ (p : Option Addr) (cap : Nat), e = .returned (.tuple #[.slice p l.length cap, .bool b]) ∧ RowAt w' p l ∧ Below w.heap.size w w' :=
  (rget_any ⟨nm, pc, n, cc, f, nx, pr, cr, R⟩ id w h).mono fun _ _ ⟨p, c, he, hr, _, hb⟩ => ⟨p, c, by rw [he]; dsimp only; rw [hg], by have := hr; dsimp only at this; rw [hg] at this; exact this, hb⟩
theorem rlookn_any (v : Val) (h : TabAt w ⟨nm, pc, n, cc, f, nx, pr, cr, R⟩) {a : Int} {b : Bool} (hl : lookO (findKey f n) v R = (a, b)) :
    Calls Tryd.prog 71 #[.agg #[.string nm, .slice pc n cc, .int .i64 nx, .slice pr R.length cr], .agg #[.int .i64 v.1, .int .i64 v.2.1, .string v.2.2]] w fun e w' => e = .returned (.tuple #[.int .i64 a, .bool b]) ∧ Below w.heap.size w w' :=
  (rlook_any ⟨nm, pc, n, cc, f, nx, pr, cr, R⟩ v w h).mono fun _ _ ⟨he, hb⟩ => ⟨by rw [he]; unfold Tab.key; dsimp only; rw [hl], hb⟩
theorem validn_any (hT : TableDoes) (h : TabAt w ⟨nm, pc, n, cc, f, nx, pr, cr, R⟩) {b : Bool} (hv : validT nm n f nx R = b) :
    Calls Tryd.prog 39 #[.agg #[.string nm, .slice pc n cc, .int .i64 nx, .slice pr R.length cr]] w fun e w' => e = .returned (.bool b) ∧ Below w.heap.size w w' :=
  (hT.valid ⟨nm, pc, n, cc, f, nx, pr, cr, R⟩ w h).mono fun _ _ ⟨he, hb⟩ => ⟨by rw [he]; unfold Tab.valid; dsimp only; rw [hv], hb⟩
theorem rvalidn_any (h : TabAt w ⟨nm, pc, n, cc, f, nx, pr, cr, R⟩) {b : Bool} (hv : validT nm n f nx R = b) :
    Calls Tryd.prog 72 #[.agg #[.string nm, .slice pc n cc, .int .i64 nx, .slice pr R.length cr]] w fun e w' => e = .returned (.bool b) ∧ Below w.heap.size w w' :=
  (rtvalid_any ⟨nm, pc, n, cc, f, nx, pr, cr, R⟩ w h).mono fun _ _ ⟨he, hb⟩ => ⟨by rw [he]; unfold Tab.valid; dsimp only; rw [hv], hb⟩
theorem dupn_any (hT : TableDoes) (h : TabAt w ⟨nm, pc, n, cc, f, nx, pr, cr, R⟩) {b : Bool} (hv : dupR (findKey f n) R = b) :
    Calls Tryd.prog 69 #[.agg #[.string nm, .slice pc n cc, .int .i64 nx, .slice pr R.length cr]] w fun e w' => e = .returned (.bool b) ∧ Below w.heap.size w w' :=
  (hT.dup ⟨nm, pc, n, cc, f, nx, pr, cr, R⟩ w h).mono fun _ _ ⟨he, hb⟩ => ⟨by rw [he]; unfold Tab.key; dsimp only; rw [hv], hb⟩
theorem rdupn_any (h : TabAt w ⟨nm, pc, n, cc, f, nx, pr, cr, R⟩) {b : Bool} (hv : dupR (findKey f n) R = b) :
    Calls Tryd.prog 74 #[.agg #[.string nm, .slice pc n cc, .int .i64 nx, .slice pr R.length cr]] w fun e w' => e = .returned (.bool b) ∧ Below w.heap.size w w' :=
  (rdup_any ⟨nm, pc, n, cc, f, nx, pr, cr, R⟩ w h).mono fun _ _ ⟨he, hb⟩ => ⟨by rw [he]; unfold Tab.key; dsimp only; rw [hv], hb⟩
theorem bags_any (hT : TableDoes) (h : TabAt w ⟨nm, pc, n, cc, f, nx, pr, cr, R⟩) {L : List (List Val)} (hL : srt (R.map (·.2)) = L) :
    Calls Tryd.prog 46 #[.agg #[.string nm, .slice pc n cc, .int .i64 nx, .slice pr R.length cr]] w fun e w' => ∃ (p : Option Addr) (cap : Nat), e = .returned (.slice p L.length cap) ∧ RowsAt w' p L ∧ Below w.heap.size w w' := by
  subst hL
  exact (hT.bag ⟨nm, pc, n, cc, f, nx, pr, cr, R⟩ w h).mono fun _ _ ⟨p, c, he, hr, _, hb⟩ => ⟨p, c, he, hr, hb⟩
theorem rbags_any (h : TabAt w ⟨nm, pc, n, cc, f, nx, pr, cr, R⟩) {L : List (List Val)} (hL : srt (R.map (·.2)) = L) :
    Calls Tryd.prog 73 #[.agg #[.string nm, .slice pc n cc, .int .i64 nx, .slice pr R.length cr]] w fun e w' => ∃ (p : Option Addr) (cap : Nat), e = .returned (.slice p L.length cap) ∧ RowsAt w' p L ∧ Below w.heap.size w w' := by
  subst hL
  exact (rbag_any ⟨nm, pc, n, cc, f, nx, pr, cr, R⟩ w h).mono fun _ _ ⟨p, c, he, hr, _, hb⟩ => ⟨p, c, he, hr, hb⟩
end
theorem sameself_any (L : List (List Val)) (p q : Option Addr) (ca cb : Nat) (w : World) (hL : L.length ≤ 9223372036854775807) (hp : RowsAt w p L) (hq : RowsAt w q L) :
    Calls Tryd.prog 23 #[.slice p L.length ca, .slice q L.length cb] w fun e w' => e = .returned (.bool true) ∧ Below w.heap.size w w' :=
  (sametuples_any L L p q ca cb w hL hp hq).mono fun _ _ ⟨he, hb⟩ => ⟨by rw [he, decide_eq_true rfl], hb⟩
theorem equalself_any (p q : Option Addr) (l : List Val) (ca cb : Nat) (w : World) (hl : l.length ≤ 9223372036854775807) (ha : RowAt w p l) (hb : RowAt w q l) :
    Calls Tryd.prog 44 #[.slice p l.length ca, .slice q l.length cb] w fun e w' => e = .returned (.bool true) ∧ Below w.heap.size w w' :=
  (equal_any p q l l ca cb w hl ha hb).mono fun _ _ ⟨he, hb⟩ => ⟨by rw [he, decide_eq_true rfl], hb⟩
theorem keepAl {w u v : World} {B : Nat} {x y z t : Value} {T : Tab} {p q : Option Addr} {l : List Val} (hb : Below u.heap.size u v) (h : u.cell? ⟨B, 0, none⟩ = some x ∧ u.cell? ⟨B, 1, none⟩ = some y ∧ u.cell? ⟨B, 2, none⟩ = some z ∧ u.cell? ⟨B, 3, none⟩ = some t ∧ B < u.heap.size ∧ TabAt u T ∧ RowAt u p l ∧ RowAt u q l ∧ Below w.heap.size w u) :
    v.cell? ⟨B, 0, none⟩ = some x ∧ v.cell? ⟨B, 1, none⟩ = some y ∧ v.cell? ⟨B, 2, none⟩ = some z ∧ v.cell? ⟨B, 3, none⟩ = some t ∧ B < v.heap.size ∧ TabAt v T ∧ RowAt v p l ∧ RowAt v q l ∧ Below w.heap.size w v := by
  obtain ⟨a, b, c, d, e, f, r, s, g⟩ := h
  exact ⟨by rw [hb.cell (by exact e)]; exact a, by rw [hb.cell (by exact e)]; exact b, by rw [hb.cell (by exact e)]; exact c, by rw [hb.cell (by exact e)]; exact d, Nat.lt_of_lt_of_le e hb.size, f.low hb, r.low hb, s.low hb, below_next g hb⟩
set_option maxHeartbeats 4000000 in
theorem alike_any (hT : TableDoes) (nm : ByteArray) (pc : Option Addr) (n cc : Nat) (f : Nat → Col) (nx : Int) (pr : Option Addr) (cr : Nat) (R : List TRow) (id : Int) (key : Val) (w : World) (h : TabAt w ⟨nm, pc, n, cc, f, nx, pr, cr, R⟩) :
    Calls Tryd.prog 36 #[.agg #[.string nm, .slice pc n cc, .int .i64 nx, .slice pr R.length cr], .int .i64 id, .agg #[.int .i64 key.1, .int .i64 key.2.1, .string key.2.2]] w fun e w' => e = .returned (.bool true) ∧ Below w.heap.size w w' := by
  have hR1 : R.length ≤ 1000 := h.len
  have hb0 : Below w.heap.size w ((w.alloc (.cells #[.string nm, .slice pc n cc, .int .i64 nx, .slice pr R.length cr] 51)).alloc (.cells #[.int .i64 key.1, .int .i64 key.2.1, .string key.2.2] 34)) := below_new (below_new (Below.refl _ _) _) _
  have HT := Lib.hid (h.low hb0)
  have HY := Lib.hid ((cell3_new (w.alloc (.cells #[.string nm, .slice pc n cc, .int .i64 nx, .slice pr R.length cr] 51)) (.int .i64 key.1) (.int .i64 key.2.1) (.string key.2.2) 34).at (size_alloc _ _))
  have HX := Lib.hid ((cell4_new w (.string nm) (.slice pc n cc) (.int .i64 nx) (.slice pr R.length cr) 51).low (below_alloc _ (.cells #[.int .i64 key.1, .int .i64 key.2.1, .string key.2.2] 34)))
  have HB := Lib.hid hb0
  obtain ⟨l, b, hget⟩ : ∃ l b, getO id R = (l, b) := ⟨_, _, rfl⟩
  obtain ⟨a, c, hlook⟩ : ∃ a c, lookO (findKey f n) key R = (a, c) := ⟨_, _, rfl⟩
  obtain ⟨vb, hvalid⟩ : ∃ v, validT nm n f nx R = v := ⟨_, rfl⟩
  obtain ⟨db, hdup⟩ : ∃ v, dupR (findKey f n) R = v := ⟨_, rfl⟩
  obtain ⟨L, hL⟩ : ∃ L, srt (R.map (·.2)) = L := ⟨_, rfl⟩
  have hL63 : Hid (L.length ≤ 9223372036854775807) := Lib.hid (by rw [← hL, srt_length, List.length_map]; omega)
  have hll : l.length ≤ 9223372036854775807 := by
    have h1 := hget
    unfold getO at h1
    cases hg : getR id R with
    | none => rw [hg] at h1; cases h1; exact Nat.zero_le _
    | some m =>
      rw [hg] at h1
      cases h1
      unfold getR at hg
      cases hf : R.find? fun r => decide (r.1 = id) with
      | none => rw [hf] at hg; cases hg
      | some r =>
        rw [hf] at hg
        cases hg
        obtain ⟨i, hi, he⟩ := List.getElem_of_mem (List.mem_of_find?_eq_some hf)
        obtain ⟨-, -, -, -, -, -, -, -, -, hs, -⟩ := h.rows i hi
        dsimp only at hs
        rw [tAt_get hi, he] at hs
        have hs2 : r.2.length * 32 ≤ 140737488355328 := hs
        show r.2.length ≤ _
        omega
  have HLL := Lib.hid hll
  have HG := Lib.hid hget
  have HK := Lib.hid hlook
  have HV := Lib.hid hvalid
  have HD := Lib.hid hdup
  have HL := Lib.hid hL
  clear hget hlook hvalid hdup hL h hb0 hR1 hll
  go_enter Tryd.func36, Tryd.ntmps36
  go_upto_region 1 with (fail)
  generalize World.alloc _ _ = W0 at HT HY HX HB ⊢
  obtain ⟨hxl, x0, x1, x2, x3, -⟩ := HX.out
  go_wp2_with fail
  refine (getn_any hT nm pc n cc f nx pr cr R id _ HT.out HG.out).mono ?_
  rintro e w1 ⟨p1, c1, rfl, hr, hb⟩
  have HT1 := Lib.hid (HT.out.low hb)
  have HX1 := Lib.hid (HX.out.low hb)
  have HY1 := Lib.hid (HY.out.low hb)
  have HP1 := Lib.hid hr
  have HB1 := Lib.hid (below_next HB.out hb)
  clear hb hr HT HX HY HB x0 x1 x2 x3 hxl
  obtain ⟨hxl, x0, x1, x2, x3, -⟩ := HX1.out
  go_wp2_with fail
  refine (rgetn_any nm pc n cc f nx pr cr R _ id HT1.out HG.out).mono ?_
  rintro e w2 ⟨p2, c2, rfl, hr, hb⟩
  have HT2 := Lib.hid (HT1.out.low hb)
  have HX2 := Lib.hid (HX1.out.low hb)
  have HY2 := Lib.hid (HY1.out.low hb)
  have HP2 := Lib.hid (HP1.out.low hb)
  have HQ2 := Lib.hid hr
  have HB2 := Lib.hid (below_next HB1.out hb)
  clear hb hr HT1 HX1 HY1 HP1 HB1 x0 x1 x2 x3 hxl
  obtain ⟨hxl, x0, x1, x2, x3, -⟩ := HX2.out
  obtain ⟨hyl, y0, y1, y2, -⟩ := HY2.out
  go_wp2_with fail
  refine (lookn_any hT nm pc n cc f nx pr cr R key _ HT2.out HK.out).mono ?_
  rintro e w3 ⟨rfl, hb⟩
  have HT3 := Lib.hid (HT2.out.low hb)
  have HX3 := Lib.hid (HX2.out.low hb)
  have HY3 := Lib.hid (HY2.out.low hb)
  have HP3 := Lib.hid (HP2.out.low hb)
  have HQ3 := Lib.hid (HQ2.out.low hb)
  have HB3 := Lib.hid (below_next HB2.out hb)
  clear hb HT2 HX2 HY2 HP2 HQ2 HB2 x0 x1 x2 x3 hxl y0 y1 y2 hyl
  obtain ⟨hxl, x0, x1, x2, x3, -⟩ := HX3.out
  obtain ⟨hyl, y0, y1, y2, -⟩ := HY3.out
  go_wp2_with fail
  refine (rlookn_any nm pc n cc f nx pr cr R _ key HT3.out HK.out).mono ?_
  rintro e w4 ⟨rfl, hb⟩
  have HT4 := Lib.hid (HT3.out.low hb)
  have HX4 := Lib.hid (HX3.out.low hb)
  have HP4 := Lib.hid (HP3.out.low hb)
  have HQ4 := Lib.hid (HQ3.out.low hb)
  have HB4 := Lib.hid (below_next HB3.out hb)
  clear hb HT3 HX3 HY3 HP3 HQ3 HB3 x0 x1 x2 x3 hxl y0 y1 y2 hyl
  obtain ⟨hxl, x0, x1, x2, x3, -⟩ := HX4.out
  go_upto_region 5 with (fail)
  go_region_held3 (fun u => u.cell? ⟨w.heap.size, 0, none⟩ = some (.string nm) ∧ u.cell? ⟨w.heap.size, 1, none⟩ = some (.slice pc n cc) ∧ u.cell? ⟨w.heap.size, 2, none⟩ = some (.int .i64 nx) ∧ u.cell? ⟨w.heap.size, 3, none⟩ = some (.slice pr R.length cr) ∧ w.heap.size < u.heap.size ∧ TabAt u ⟨nm, pc, n, cc, f, nx, pr, cr, R⟩ ∧ RowAt u p1 l ∧ RowAt u p2 l ∧ Below w.heap.size w u)
    (first
      | exact ⟨x0, x1, x2, x3, hxl, HT4.out.low (Below.refl _ _).drew, HP4.out.low (Below.refl _ _).drew, HQ4.out.low (Below.refl _ _).drew, HB4.out.drew⟩
      | with_reducible exact keepAl hbq (by assumption))
    (first
      | (go_at_call 39; with_reducible refine (validn_any nm pc n cc f nx pr cr R _ hT ?_ HV.out).mono ?_; (go_split_ands; assumption); rintro e wq ⟨rfl, hbq⟩)
      | (go_at_call 72; with_reducible refine (rvalidn_any nm pc n cc f nx pr cr R _ ?_ HV.out).mono ?_; (go_split_ands; assumption); rintro e wq ⟨rfl, hbq⟩)
      | (go_at_call 44; with_reducible refine (equalself_any p1 p2 l c1 c2 _ HLL.out ?_ ?_).mono ?_; (go_split_ands; assumption); (go_split_ands; assumption); rintro e wq ⟨rfl, hbq⟩)
      | (go_at_call 46; with_reducible refine (bags_any nm pc n cc f nx pr cr R _ hT ?_ HL.out).mono ?_; (go_split_ands; assumption); rintro e wq ⟨pb, cb, rfl, hsb, hbq⟩)
      | (go_at_call 73; with_reducible refine (rbags_any nm pc n cc f nx pr cr R _ ?_ HL.out).mono ?_; (go_split_ands; assumption); rintro e wq ⟨pe, ce, rfl, hsc, hbq⟩; (have hsb2 := hsb.low hbq))
      | (go_at_call 23; with_reducible refine (sameself_any L pb pe cb ce _ hL63.out hsb2 hsc).mono ?_; rintro e wq ⟨rfl, hbq⟩)
      | (go_at_call 69; with_reducible refine (dupn_any nm pc n cc f nx pr cr R _ hT ?_ HD.out).mono ?_; (go_split_ands; assumption); rintro e wq ⟨rfl, hbq⟩)
      | (go_at_call 74; with_reducible refine (rdupn_any nm pc n cc f nx pr cr R _ ?_ HD.out).mono ?_; (go_split_ands; assumption); rintro e wq ⟨rfl, hbq⟩))
  rename_i hHeld
  obtain ⟨-, -, -, -, -, -, -, -, hR9⟩ := hHeld
  clear x0 x1 x2 x3 hxl
  go_wp2
  go_ret
  exact ⟨rfl, hR9⟩
end Go.Proofs.YtgaihglploedaaaDoor
