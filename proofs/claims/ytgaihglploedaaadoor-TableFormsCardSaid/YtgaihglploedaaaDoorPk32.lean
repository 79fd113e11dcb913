/-
  Several texts in one.
-/
import Derived.Test.YtgaihglploedaaaDoorPk30
import Derived.Test.YtgaihglploedaaaDoorPk31
import Derived.Deep.RegionHeld3
/-
  The law TableForms, walked: from what package table does.
-/
namespace Go.Proofs.YtgaihglploedaaaDoor
set_option maxRecDepth 100000
open Go.RowKit
variable {ls : List Nat}

/-- A table that stays whatever is drawn from the tape. -/
def Stays (b : Nat) (W : World) (T : Tab) : Prop := ∀ v, StepT b W v → TabAt v T
theorem Stays.next {b : Nat} {u v : World} {T : Tab} (h : Stays b u T) (hs : StepT b u v) : Stays b v T := fun x hx => h x (hs.trans hx)
theorem Stays.tab {b : Nat} {u : World} {T : Tab} (h : Stays b u T) : TabAt u T := h u (StepT.refl b u)
theorem Stays.low {b : Nat} {u v : World} {T : Tab} (h : Stays b u T) (hb : Below u.heap.size u v) : Stays b v T := h.next (step_low hb)
def pick5 (T0 T1 T2 T3 T4 : Tab) (k : Nat) : Tab := match k with
  | 0 => T0
  | 1 => T1
  | 2 => T2
  | 3 => T3
  | _ => T4
theorem cell_alloc (u : World) (A : Array Value) (t : TypeId) (o : Nat) : (u.alloc (.cells A t)).cell? ⟨u.heap.size, o, none⟩ = A[o]? := World.cell?_alloc_new ..
theorem tabs_new (u : World) (t : TypeId) (T0 T1 T2 T3 T4 : Tab) (k : Nat) (hk : k < 5) :
    (u.alloc (.cells #[.string T0.nm, .slice T0.pc T0.n T0.cc, .int .i64 T0.nx, .slice T0.pr T0.R.length T0.cr, .string T1.nm, .slice T1.pc T1.n T1.cc, .int .i64 T1.nx, .slice T1.pr T1.R.length T1.cr, .string T2.nm, .slice T2.pc T2.n T2.cc, .int .i64 T2.nx, .slice T2.pr T2.R.length T2.cr, .string T3.nm, .slice T3.pc T3.n T3.cc, .int .i64 T3.nx, .slice T3.pr T3.R.length T3.cr, .string T4.nm, .slice T4.pc T4.n T4.cc, .int .i64 T4.nx, .slice T4.pr T4.R.length T4.cr] t)).cell? ⟨u.heap.size, k * 4, none⟩ = some (.string (pick5 T0 T1 T2 T3 T4 k).nm) ∧ (u.alloc (.cells #[.string T0.nm, .slice T0.pc T0.n T0.cc, .int .i64 T0.nx, .slice T0.pr T0.R.length T0.cr, .string T1.nm, .slice T1.pc T1.n T1.cc, .int .i64 T1.nx, .slice T1.pr T1.R.length T1.cr, .string T2.nm, .slice T2.pc T2.n T2.cc, .int .i64 T2.nx, .slice T2.pr T2.R.length T2.cr, .string T3.nm, .slice T3.pc T3.n T3.cc, .int .i64 T3.nx, .slice T3.pr T3.R.length T3.cr, .string T4.nm, .slice T4.pc T4.n T4.cc, .int .i64 T4.nx, .slice T4.pr T4.R.length T4.cr] t)).cell? ⟨u.heap.size, k * 4 + 1, none⟩ = some (.slice (pick5 T0 T1 T2 T3 T4 k).pc (pick5 T0 T1 T2 T3 T4 k).n (pick5 T0 T1 T2 T3 T4 k).cc)
    ∧ (u.alloc (.cells #[.string T0.nm, .slice T0.pc T0.n T0.cc, .int .i64 T0.nx, .slice T0.pr T0.R.length T0.cr, .string T1.nm, .slice T1.pc T1.n T1.cc, .int .i64 T1.nx, .slice T1.pr T1.R.length T1.cr, .string T2.nm, .slice T2.pc T2.n T2.cc, .int .i64 T2.nx, .slice T2.pr T2.R.length T2.cr, .string T3.nm, .slice T3.pc T3.n T3.cc, .int .i64 T3.nx, .slice T3.pr T3.R.length T3.cr, .string T4.nm, .slice T4.pc T4.n T4.cc, .int .i64 T4.nx, .slice T4.pr T4.R.length T4.cr] t)).cell? ⟨u.heap.size, k * 4 + 2, none⟩ = some (.int .i64 (pick5 T0 T1 T2 T3 T4 k).nx) ∧ (u.alloc (.cells #[.string T0.nm, .slice T0.pc T0.n T0.cc, .int .i64 T0.nx, .slice T0.pr T0.R.length T0.cr, .string T1.nm, .slice T1.pc T1.n T1.cc, .int .i64 T1.nx, .slice T1.pr T1.R.length T1.cr, .string T2.nm, .slice T2.pc T2.n T2.cc, .int .i64 T2.nx, .slice T2.pr T2.R.length T2.cr, .string T3.nm, .slice T3.pc T3.n T3.cc, .int .i64 T3.nx, .slice T3.pr T3.R.length T3.cr, .string T4.nm, .slice T4.pc T4.n T4.cc, .int .i64 T4.nx, .slice T4.pr T4.R.length T4.cr] t)).cell? ⟨u.heap.size, k * 4 + 3, none⟩ = some (.slice (pick5 T0 T1 T2 T3 T4 k).pr (pick5 T0 T1 T2 T3 T4 k).R.length (pick5 T0 T1 T2 T3 T4 k).cr) := by
  rw [cell_alloc, cell_alloc, cell_alloc, cell_alloc]
  obtain rfl | rfl | rfl | rfl | rfl : k = 0 ∨ k = 1 ∨ k = 2 ∨ k = 3 ∨ k = 4 := by omega
  all_goals exact ⟨rfl, rfl, rfl, rfl⟩
theorem keepTf {b z K : Nat} {W u v : World} {T : Tab} {key : Val} (hz : z ≠ b) (hk : K ≠ b) (hs : StepT b u v) (ht : TapeAt v b) (h : (u.cell? ⟨z, 0, none⟩ = some (.string T.nm) ∧ u.cell? ⟨z, 1, none⟩ = some (.slice T.pc T.n T.cc) ∧ u.cell? ⟨z, 2, none⟩ = some (.int .i64 T.nx) ∧ u.cell? ⟨z, 3, none⟩ = some (.slice T.pr T.R.length T.cr) ∧ z < u.heap.size) ∧ (u.cell? ⟨K, 0, none⟩ = some (.int .i64 key.1) ∧ u.cell? ⟨K, 1, none⟩ = some (.int .i64 key.2.1) ∧ u.cell? ⟨K, 2, none⟩ = some (.string key.2.2) ∧ K < u.heap.size) ∧ TapeAt u b ∧ Stays b u T ∧ StepT b W u) : (v.cell? ⟨z, 0, none⟩ = some (.string T.nm) ∧ v.cell? ⟨z, 1, none⟩ = some (.slice T.pc T.n T.cc) ∧ v.cell? ⟨z, 2, none⟩ = some (.int .i64 T.nx) ∧ v.cell? ⟨z, 3, none⟩ = some (.slice T.pr T.R.length T.cr) ∧ z < v.heap.size) ∧ (v.cell? ⟨K, 0, none⟩ = some (.int .i64 key.1) ∧ v.cell? ⟨K, 1, none⟩ = some (.int .i64 key.2.1) ∧ v.cell? ⟨K, 2, none⟩ = some (.string key.2.2) ∧ K < v.heap.size) ∧ TapeAt v b ∧ Stays b v T ∧ StepT b W v := by
  obtain ⟨⟨a0, a1, a2, a3, a4⟩, ⟨c0, c1, c2, c3⟩, -, hst, hW⟩ := h
  exact ⟨⟨by rw [hs.cell (by exact a4) (by exact hz)]; exact a0, by rw [hs.cell (by exact a4) (by exact hz)]; exact a1, by rw [hs.cell (by exact a4) (by exact hz)]; exact a2, by rw [hs.cell (by exact a4) (by exact hz)]; exact a3, Nat.lt_of_lt_of_le a4 hs.size⟩, ⟨by rw [hs.cell (by exact c3) (by exact hk)]; exact c0, by rw [hs.cell (by exact c3) (by exact hk)]; exact c1, by rw [hs.cell (by exact c3) (by exact hk)]; exact c2, Nat.lt_of_lt_of_le c3 hs.size⟩, ht, hst.next hs, hW.trans hs⟩
theorem keepBf {b z K : Nat} {W u v : World} {T : Tab} {key : Val} (hz : z ≠ b) (hk : K ≠ b) (hb : Below u.heap.size u v) (h : (u.cell? ⟨z, 0, none⟩ = some (.string T.nm) ∧ u.cell? ⟨z, 1, none⟩ = some (.slice T.pc T.n T.cc) ∧ u.cell? ⟨z, 2, none⟩ = some (.int .i64 T.nx) ∧ u.cell? ⟨z, 3, none⟩ = some (.slice T.pr T.R.length T.cr) ∧ z < u.heap.size) ∧ (u.cell? ⟨K, 0, none⟩ = some (.int .i64 key.1) ∧ u.cell? ⟨K, 1, none⟩ = some (.int .i64 key.2.1) ∧ u.cell? ⟨K, 2, none⟩ = some (.string key.2.2) ∧ K < u.heap.size) ∧ TapeAt u b ∧ Stays b u T ∧ StepT b W u) : (v.cell? ⟨z, 0, none⟩ = some (.string T.nm) ∧ v.cell? ⟨z, 1, none⟩ = some (.slice T.pc T.n T.cc) ∧ v.cell? ⟨z, 2, none⟩ = some (.int .i64 T.nx) ∧ v.cell? ⟨z, 3, none⟩ = some (.slice T.pr T.R.length T.cr) ∧ z < v.heap.size) ∧ (v.cell? ⟨K, 0, none⟩ = some (.int .i64 key.1) ∧ v.cell? ⟨K, 1, none⟩ = some (.int .i64 key.2.1) ∧ v.cell? ⟨K, 2, none⟩ = some (.string key.2.2) ∧ K < v.heap.size) ∧ TapeAt v b ∧ Stays b v T ∧ StepT b W v :=
  keepTf hz hk (step_low hb) (h.2.2.1.below hb) h
theorem alikes_any (hT : TableDoes) (T : Tab) (id : Int) (key : Val) {b : Nat} (w : World) (h : Stays b w T) :
    Calls Tryd.prog 36 #[.agg #[.string T.nm, .slice T.pc T.n T.cc, .int .i64 T.nx, .slice T.pr T.R.length T.cr], .int .i64 id, .agg #[.int .i64 key.1, .int .i64 key.2.1, .string key.2.2]] w fun e w' => e = .returned (.bool true) ∧ Below w.heap.size w w' :=
  alike_any hT T.nm T.pc T.n T.cc T.f T.nx T.pr T.cr T.R id key w h.tab
theorem alikes2_any (hT : TableDoes) (T : Tab) (id z : Int) {b : Nat} (w : World) (h : Stays b w T) :
    Calls Tryd.prog 36 #[.agg #[.string T.nm, .slice T.pc T.n T.cc, .int .i64 T.nx, .slice T.pr T.R.length T.cr], .int .i64 id, .agg #[.int .i64 1, .int .i64 z, .string ⟨#[]⟩]] w fun e w' => e = .returned (.bool true) ∧ Below w.heap.size w w' :=
  alike_any hT T.nm T.pc T.n T.cc T.f T.nx T.pr T.cr T.R id (1, z, ⟨#[]⟩) w h.tab
theorem valids_any (hT : TableDoes) (T : Tab) {b : Nat} (w : World) (h : Stays b w T) (hv : T.valid = true) :
    Calls Tryd.prog 39 #[.agg #[.string T.nm, .slice T.pc T.n T.cc, .int .i64 T.nx, .slice T.pr T.R.length T.cr]] w fun e w' => e = .returned (.bool true) ∧ Below w.heap.size w w' :=
  validn_any T.nm T.pc T.n T.cc T.f T.nx T.pr T.cr T.R w hT h.tab hv
set_option maxHeartbeats 8000000 in
theorem tforms_walk (hT : TableDoes) (w : World) (nm : ByteArray) (pc : Option Addr) (n cc : Nat) (f : Nat → Col) (nx : Int) (pr : Option Addr) (m cr : Nat) (p : Option Addr) (len cap : Nat) (id : Int) (key : Val) (hl : len ≤ cap) (hm : len ≤ 9223372036854775807) (h : IntsAt w p len)
    (hraw : m ≤ 40 → ∃ R : List TRow, R.length = m ∧ TabAt w ⟨nm, pc, n, cc, f, nx, pr, cr, R⟩) (hE : Env ls w) (hlw : 1 ∈ ls) (hln : 0 ∈ ls) :
    Calls Tryd.prog 7 #[.agg #[.string nm, .slice pc n cc, .int .i64 nx, .slice pr m cr], .slice p len cap, .int .i64 id, .agg #[.int .i64 key.1, .int .i64 key.2.1, .string key.2.2]] w fun e w' => e = .returned (.bool true) ∧ Below w.heap.size w w' := by
  have hb0 : Below w.heap.size w ((w.alloc (.cells #[.string nm, .slice pc n cc, .int .i64 nx, .slice pr m cr] 51)).alloc (.cells #[.int .i64 key.1, .int .i64 key.2.1, .string key.2.2] 34)) := below_new (below_new (Below.refl _ _) _) _
  have HI := Lib.hid (h.low hb0)
  have HE := Lib.hid (hE.low hb0)
  have hz8 := hE.size
  have HK := Lib.hid ((cell3_new (w.alloc (.cells #[.string nm, .slice pc n cc, .int .i64 nx, .slice pr m cr] 51)) (.int .i64 key.1) (.int .i64 key.2.1) (.string key.2.2) 34).at (size_alloc _ _))
  have HX := Lib.hid ((cell4_new w (.string nm) (.slice pc n cc) (.int .i64 nx) (.slice pr m cr) 51).low (below_alloc _ (.cells #[.int .i64 key.1, .int .i64 key.2.1, .string key.2.2] 34)))
  have HB := Lib.hid hb0
  have HRAW := Lib.hid hraw
  clear h hE hraw hb0
  go_enter Tryd.func7, Tryd.ntmps7
  go_upto_region 1 with (fail)
  generalize World.alloc _ _ = W0 at HI HE HK HX HB ⊢
  obtain ⟨hxl, x0, x1, x2, x3, -⟩ := HX.out
  by_cases h40 : m ≤ 40
  · have hd : decide ((40 : Int) < (m : Int)) = false := decide_eq_false (by omega)
    have hdn : decide (40 < m) = false := decide_eq_false (by omega)
    obtain ⟨R, hRm, hraw⟩ := HRAW.out h40
    have HTR := Lib.hid hraw
    subst hRm
    clear hraw HRAW
    go_wp2_with fail
    refine (new_any _ p len cap hl hm HI.out).mono ?_
    rintro e w1 ⟨b, rfl, hb0, ht, hb1⟩
    have HB1 := Lib.hid (below_next HB.out hb1)
    have HE1 := Lib.hid (HE.out.low hb1)
    have HK1 := Lib.hid (HK.out.low hb1)
    have HX1 := Lib.hid (HX.out.low hb1)
    have hbw : w.heap.size ≤ b := Nat.le_trans HB.out.size hb0
    have h8b : 3 ≤ b := by omega
    have HXb : Hid (w.heap.size < b ∧ w.heap.size + 1 < b) := Lib.hid (by have := HX.out.lt; have := HK.out.lt; omega)
    clear HI HE HK HX HB hb1 hxl x0 x1 x2 x3
    go_wp2_with fail
    refine (table_any b _ ht).mono ?_
    rintro e w2 ⟨k, rfl, hk, ht2, hs2⟩
    have HB2 := Lib.hid (HB1.out.trans (hs2.below (B := w.heap.size) (by omega) HB1.out.size))
    have HE2 := Lib.hid (HE1.out.step hs2 h8b)
    have HT2 := Lib.hid ht2
    have HK2 := Lib.hid (HK1.out.step hs2 (by have := HXb.out; omega))
    have HX2 := Lib.hid (HX1.out.step hs2 (by have := HXb.out; omega))
    clear HB1 HE1 ht ht2 hs2 HK1 HX1
    go_wp2_with fail
    refine (schemaK_any k _).mono ?_
    rintro e w3 ⟨Z, rfl, hZ, hZl, hb3⟩
    have HB3 := Lib.hid (below_next HB2.out hb3)
    have HE3 := Lib.hid (HE2.out.low hb3)
    have hbl := HT2.out.lt
    have HT3 := Lib.hid (HT2.out.keep (fun k hk => hb3.block k (by omega)) hb3.size)
    have HK3 := Lib.hid (HK2.out.low hb3)
    have HX3 := Lib.hid (HX2.out.low hb3)
    have HZ := Lib.hid hZ
    have hZb : Z ≠ b := by omega
    have hZ3 : Z < w3.heap.size := by obtain ⟨c, o, he, hc⟩ := hZ.ptr (by have := schemaOK_range (ws_valid k); omega); cases he; exact hc
    clear HB2 HE2 HT2 hZ hb3 HK2 HX2
    go_wp2_with fail
    refine (tableof_any b _ h8b HT3.out HE3.out hlw (wsNm k) ⟨Z, 0, none⟩ (wsN k) (wsN k) 6 (wsF k) (by decide) (wsNm_size hk) HZ.out hZb hZ3 (ws_valid k)).mono ?_
    rintro e w4 ⟨T1, rfl, hnm1, hpc1, -, -, -, hlen1, hval1, hat1, ht4, hs4⟩
    have HB4 := Lib.hid (HB3.out.trans (hs4.below (B := w.heap.size) (by omega) HB3.out.size))
    have HE4 := Lib.hid (HE3.out.step hs4 h8b)
    have HT4 := Lib.hid ht4
    have HK4 := Lib.hid (HK3.out.step hs4 (by have := HXb.out; omega))
    have HX4 := Lib.hid (HX3.out.step hs4 (by have := HXb.out; omega))
    have HA4 : Hid (Stays b w4 T1) := Lib.hid hat1
    have HV1 := Lib.hid hval1
    have HP1 : Hid (∀ a, T1.pc = some a → a.block ≠ b) := Lib.hid fun a ha => by rw [hpc1] at ha; cases ha; exact hZb
    have HN1 : Hid (T1.nm.size ≤ 9223372036854775807) := Lib.hid (by rw [hnm1]; exact wsNm_size hk)
    clear HB3 HE3 HT3 HZ hat1 hval1 hs4 ht4 HK3 HX3 hnm1 hpc1 hZb hZ3 hbl
    unfold Tab.v
    have hbn := below_alloc w4 (.cells #[.string T1.nm, .slice T1.pc T1.n T1.cc, .int .i64 T1.nx, .slice T1.pr T1.R.length T1.cr] 51)
    have HB5 := Lib.hid (below_next HB4.out hbn)
    have HE5 := Lib.hid (HE4.out.low hbn)
    have HT5 := Lib.hid (HT4.out.below hbn)
    have HK5 := Lib.hid (HK4.out.low hbn)
    have HX5 := Lib.hid (HX4.out.low hbn)
    have HA5 := Lib.hid (HA4.out.low hbn)
    have HY5 := Lib.hid (cell4_new w4 (.string T1.nm) (.slice T1.pc T1.n T1.cc) (.int .i64 T1.nx) (.slice T1.pr T1.R.length T1.cr) 51)
    have HXy : Hid (b < w4.heap.size) := Lib.hid HT4.out.lt
    clear HB4 HE4 HT4 HK4 HX4 HA4 hbn
    go_wp2_with fail
    generalize World.alloc _ _ = w5 at HB5 HE5 HT5 HK5 HX5 HA5 HY5 ⊢
    generalize w4.heap.size = X1 at HY5 HXy ⊢
    refine (anyschema_any b _ h8b HT5.out HE5.out hln).mono ?_
    rintro e w6 ⟨i, p2, l2, cap2, rfl, hi8, hl1, hl5, hc2, hok2, hq2, ht6, hs6⟩
    obtain ⟨Z2, o2, rfl, hZ2⟩ := hc2.ptr hl1
    have hZ2b : Z2 ≠ b := by have h1 : w5.heap.size ≤ Z2 := hq2 _ rfl; have := HT5.out.lt; omega
    have HC6 := Lib.hid hc2
    have HB6 := Lib.hid (HB5.out.trans (hs6.below (B := w.heap.size) (by omega) HB5.out.size))
    have HE6 := Lib.hid (HE5.out.step hs6 h8b)
    have HT6 := Lib.hid ht6
    have HK6 := Lib.hid (HK5.out.step hs6 (by have := HXb.out; omega))
    have HX6 := Lib.hid (HX5.out.step hs6 (by have := HXb.out; omega))
    have HA6 := Lib.hid (HA5.out.next hs6)
    have HY6 := Lib.hid (HY5.out.step hs6 (by have := HXy.out; omega))
    clear HB5 HE5 HT5 HK5 HX5 HA5 HY5 hc2 hq2 ht6 hs6
    go_wp2_with fail
    refine (tableof_any b _ h8b HT6.out HE6.out hlw (nameS i) ⟨Z2, o2, none⟩ l2.length cap2 4 (cAt l2) (by decide) (name_small i) HC6.out hZ2b hZ2 hok2).mono ?_
    rintro e w7 ⟨T2, rfl, hnm2, hpc2, -, -, -, hlen2, hval2, hat2, ht7, hs7⟩
    have HB7 := Lib.hid (HB6.out.trans (hs7.below (B := w.heap.size) (by omega) HB6.out.size))
    have HE7 := Lib.hid (HE6.out.step hs7 h8b)
    have HT7 := Lib.hid ht7
    have HK7 := Lib.hid (HK6.out.step hs7 (by have := HXb.out; omega))
    have HX7 := Lib.hid (HX6.out.step hs7 (by have := HXb.out; omega))
    have HA7 := Lib.hid (HA6.out.next hs7)
    have HY7 := Lib.hid (HY6.out.step hs7 (by have := HXy.out; omega))
    have HD7 : Hid (Stays b w7 T2) := Lib.hid hat2
    have HV2 := Lib.hid hval2
    have HP2 : Hid (∀ a, T2.pc = some a → a.block ≠ b) := Lib.hid fun a ha => by rw [hpc2] at ha; cases ha; exact hZ2b
    have HN2 : Hid (T2.nm.size ≤ 9223372036854775807) := Lib.hid (by rw [hnm2]; exact name_small i)
    clear HB6 HE6 HT6 HK6 HX6 HA6 HY6 HC6 hat2 hval2 hs7 ht7 hnm2 hpc2 hZ2b hZ2 hok2
    unfold Tab.v
    have hbn := below_alloc w7 (.cells #[.string T2.nm, .slice T2.pc T2.n T2.cc, .int .i64 T2.nx, .slice T2.pr T2.R.length T2.cr] 51)
    have HB8 := Lib.hid (below_next HB7.out hbn)
    have HE8 := Lib.hid (HE7.out.low hbn)
    have HT8 := Lib.hid (HT7.out.below hbn)
    have HK8 := Lib.hid (HK7.out.low hbn)
    have HX8 := Lib.hid (HX7.out.low hbn)
    have HA8 := Lib.hid (HA7.out.low hbn)
    have HY8 := Lib.hid (HY7.out.low hbn)
    have HD8 := Lib.hid (HD7.out.low hbn)
    have HU8 := Lib.hid (cell4_new w7 (.string T2.nm) (.slice T2.pc T2.n T2.cc) (.int .i64 T2.nx) (.slice T2.pr T2.R.length T2.cr) 51)
    have HXu : Hid (b < w7.heap.size) := Lib.hid HT7.out.lt
    clear HB7 HE7 HT7 HK7 HX7 HA7 HY7 HD7 hbn
    go_upto_region 6 with (fail)
    generalize World.alloc _ _ = w8 at HB8 HE8 HT8 HK8 HX8 HA8 HY8 HD8 HU8 ⊢
    generalize w7.heap.size = X2 at HU8 HXu ⊢
    go_region_held3 (fun u => (u.cell? ⟨w.heap.size, 0, none⟩ = some (.string nm) ∧ u.cell? ⟨w.heap.size, 1, none⟩ = some (.slice pc n cc) ∧ u.cell? ⟨w.heap.size, 2, none⟩ = some (.int .i64 nx) ∧ u.cell? ⟨w.heap.size, 3, none⟩ = some (.slice pr R.length cr) ∧ w.heap.size < u.heap.size)
        ∧ (u.cell? ⟨X1, 0, none⟩ = some (.string T1.nm) ∧ u.cell? ⟨X1, 1, none⟩ = some (.slice T1.pc T1.n T1.cc) ∧ u.cell? ⟨X1, 2, none⟩ = some (.int .i64 T1.nx) ∧ u.cell? ⟨X1, 3, none⟩ = some (.slice T1.pr T1.R.length T1.cr) ∧ X1 < u.heap.size)
        ∧ (u.cell? ⟨X2, 0, none⟩ = some (.string T2.nm) ∧ u.cell? ⟨X2, 1, none⟩ = some (.slice T2.pc T2.n T2.cc) ∧ u.cell? ⟨X2, 2, none⟩ = some (.int .i64 T2.nx) ∧ u.cell? ⟨X2, 3, none⟩ = some (.slice T2.pr T2.R.length T2.cr) ∧ X2 < u.heap.size))
      (first
        | exact ⟨HX8.out.conj, HY8.out.conj, HU8.out.conj⟩
        | exact ⟨(HX8.out.step (hs10.alloc _) (by have := HXb.out; omega)).conj, (HY8.out.step (hs10.alloc _) (by have := HXy.out; omega)).conj, (HU8.out.step (hs10.alloc _) (by have := HXu.out; omega)).conj⟩
        | exact ⟨(HX8.out.step hs10 (by have := HXb.out; omega)).conj, (HY8.out.step hs10 (by have := HXy.out; omega)).conj, (HU8.out.step hs10 (by have := HXu.out; omega)).conj⟩
        | exact ⟨(HX8.out.step hs9 (by have := HXb.out; omega)).conj, (HY8.out.step hs9 (by have := HXy.out; omega)).conj, (HU8.out.step hs9 (by have := HXu.out; omega)).conj⟩)
      (first
        | (revert ht9; intro ht9; go_at_call 35; refine (spoiledt_any b _ h8b ht9 (HE8.out.step hs9 h8b) hlw T2.nm T2.pc T2.n T2.cc T2.f T2.nx T2.pr T2.cr T2.R HN2.out (HD8.out.next hs9) HV2.out (by omega) HP2.out).mono ?_; rintro e w10 ⟨T4, rfl, hat4, ht10, hs910⟩; unfold Tab.v; (have hs10 := hs9.trans hs910))
        | (go_at_call 35; refine (spoiledt_any b w8.drew h8b (HT8.out.drewN 1) HE8.out.drew hlw T1.nm T1.pc T1.n T1.cc T1.f T1.nx T1.pr T1.cr T1.R HN1.out (HA8.out.low (Below.refl w8.heap.size w8).drew) HV1.out (by omega) HP1.out).mono ?_; rintro e w9 ⟨T3, rfl, hat3, ht9, hs89⟩; unfold Tab.v; (have hs9 := ((StepT.refl b w8).drewN 1).trans hs89)))
    rename_i hHeld
    clear hHeld
    have hs11 := hs10.alloc (.cells #[.string nm, .slice pc n cc, .int .i64 nx, .slice pr R.length cr, .string T1.nm, .slice T1.pc T1.n T1.cc, .int .i64 T1.nx, .slice T1.pr T1.R.length T1.cr, .string T2.nm, .slice T2.pc T2.n T2.cc, .int .i64 T2.nx, .slice T2.pr T2.R.length T2.cr, .string T3.nm, .slice T3.pc T3.n T3.cc, .int .i64 T3.nx, .slice T3.pr T3.R.length T3.cr, .string T4.nm, .slice T4.pc T4.n T4.cc, .int .i64 T4.nx, .slice T4.pr T4.R.length T4.cr] 51)
    have HBB : Hid (Below w.heap.size w (w10.alloc (.cells #[.string nm, .slice pc n cc, .int .i64 nx, .slice pr R.length cr, .string T1.nm, .slice T1.pc T1.n T1.cc, .int .i64 T1.nx, .slice T1.pr T1.R.length T1.cr, .string T2.nm, .slice T2.pc T2.n T2.cc, .int .i64 T2.nx, .slice T2.pr T2.R.length T2.cr, .string T3.nm, .slice T3.pc T3.n T3.cc, .int .i64 T3.nx, .slice T3.pr T3.R.length T3.cr, .string T4.nm, .slice T4.pc T4.n T4.cc, .int .i64 T4.nx, .slice T4.pr T4.R.length T4.cr] 51))) := Lib.hid (HB8.out.trans (hs11.below (B := w.heap.size) (by omega) HB8.out.size))
    have HG := Lib.hid (tabs_new w10 51 ⟨nm, pc, n, cc, f, nx, pr, cr, R⟩ T1 T2 T3 T4)
    have HK11 := Lib.hid (HK8.out.step hs11 (by have := HXb.out; omega))
    have HY11 := Lib.hid (HY8.out.step hs11 (by have := HXy.out; omega))
    have HU11 := Lib.hid (HU8.out.step hs11 (by have := HXu.out; omega))
    have HA11 := Lib.hid (HA8.out.next hs11)
    have HD11 := Lib.hid (HD8.out.next hs11)
    have hst : Stays b (w10.alloc (.cells #[.string nm, .slice pc n cc, .int .i64 nx, .slice pr R.length cr, .string T1.nm, .slice T1.pc T1.n T1.cc, .int .i64 T1.nx, .slice T1.pr T1.R.length T1.cr, .string T2.nm, .slice T2.pc T2.n T2.cc, .int .i64 T2.nx, .slice T2.pr T2.R.length T2.cr, .string T3.nm, .slice T3.pc T3.n T3.cc, .int .i64 T3.nx, .slice T3.pr T3.R.length T3.cr, .string T4.nm, .slice T4.pc T4.n T4.cc, .int .i64 T4.nx, .slice T4.pr T4.R.length T4.cr] 51)) ⟨nm, pc, n, cc, f, nx, pr, cr, R⟩ := fun v hv => HTR.out.low (HBB.out.trans (hv.below (B := w.heap.size) (by omega) HBB.out.size))
    have HTB : Hid (∀ k, k < 5 → Stays b (w10.alloc (.cells #[.string nm, .slice pc n cc, .int .i64 nx, .slice pr R.length cr, .string T1.nm, .slice T1.pc T1.n T1.cc, .int .i64 T1.nx, .slice T1.pr T1.R.length T1.cr, .string T2.nm, .slice T2.pc T2.n T2.cc, .int .i64 T2.nx, .slice T2.pr T2.R.length T2.cr, .string T3.nm, .slice T3.pc T3.n T3.cc, .int .i64 T3.nx, .slice T3.pr T3.R.length T3.cr, .string T4.nm, .slice T4.pc T4.n T4.cc, .int .i64 T4.nx, .slice T4.pr T4.R.length T4.cr] 51)) (pick5 ⟨nm, pc, n, cc, f, nx, pr, cr, R⟩ T1 T2 T3 T4 k)) := Lib.hid fun k hk => by
      obtain rfl | rfl | rfl | rfl | rfl : k = 0 ∨ k = 1 ∨ k = 2 ∨ k = 3 ∨ k = 4 := by omega
      · exact hst
      · exact HA11.out
      · exact HD11.out
      · exact Stays.next hat3 (hs910.alloc _)
      · exact Stays.next hat4 ((StepT.refl b w10).alloc _)
    have HT11 := Lib.hid (ht10.alloc (.cells #[.string nm, .slice pc n cc, .int .i64 nx, .slice pr R.length cr, .string T1.nm, .slice T1.pc T1.n T1.cc, .int .i64 T1.nx, .slice T1.pr T1.R.length T1.cr, .string T2.nm, .slice T2.pc T2.n T2.cc, .int .i64 T2.nx, .slice T2.pr T2.R.length T2.cr, .string T3.nm, .slice T3.pc T3.n T3.cc, .int .i64 T3.nx, .slice T3.pr T3.R.length T3.cr, .string T4.nm, .slice T4.pc T4.n T4.cc, .int .i64 T4.nx, .slice T4.pr T4.R.length T4.cr] 51))
    have HXg : Hid (b < w10.heap.size) := Lib.hid ht10.lt
    have HGL : Hid (w10.heap.size < (w10.alloc (.cells #[.string nm, .slice pc n cc, .int .i64 nx, .slice pr R.length cr, .string T1.nm, .slice T1.pc T1.n T1.cc, .int .i64 T1.nx, .slice T1.pr T1.R.length T1.cr, .string T2.nm, .slice T2.pc T2.n T2.cc, .int .i64 T2.nx, .slice T2.pr T2.R.length T2.cr, .string T3.nm, .slice T3.pc T3.n T3.cc, .int .i64 T3.nx, .slice T3.pr T3.R.length T3.cr, .string T4.nm, .slice T4.pc T4.n T4.cc, .int .i64 T4.nx, .slice T4.pr T4.R.length T4.cr] 51)).heap.size) := Lib.hid (by rw [size_alloc]; omega)
    clear hst hs11 hs910 hs10 hs9 hs89 hat3 hat4 ht9 ht10 HB8 HE8 HT8 HK8 HX8 HA8 HY8 HD8 HU8 HN1 HN2 HP1 HP2 HTR
    go_wp2_with fail
    generalize World.alloc _ _ = W at HG HBB HK11 HY11 HU11 HA11 HD11 HTB HT11 HGL ⊢
    generalize w10.heap.size = g at HG HXg HGL ⊢
    generalize pick5 _ T1 T2 T3 T4 = tb at HG HTB
    go_loopw [41] (fun i v => ∃ k : Nat, k ≤ 5 ∧ i = .int .i64 k ∧ TapeAt v b ∧ StepT b W v) (fun i _ => 5 - (intOf i).toNat)
    case atStart => exact ⟨0, by omega, rfl, HT11.out, StepT.refl b W⟩
    case round =>
      obtain ⟨k, hk, rfl, ht, hs⟩ := hrel
      have HT := Lib.hid ht
      have HS := Lib.hid hs
      clear ht hs HT11
      by_cases hlt : k < 5
      · have hlt' : decide ((k : Int) < 5) = true := decide_eq_true (by omega)
        have hltn : decide (k < 5) = true := decide_eq_true hlt
        obtain ⟨c0, c1, c2, c3⟩ := HG.out k hlt
        have hgb : g ≠ b := by have := HXg.out; omega
        have hgl := Nat.lt_of_lt_of_le HGL.out HS.out.size
        rw [← HS.out.cell (by exact HGL.out) (by exact hgb)] at c0 c1 c2 c3
        have HTK := Lib.hid ((HTB.out k hlt).next HS.out)
        generalize tb k = T at c0 c1 c2 c3 HTK
        have hbn := below_alloc wr (.cells #[.string T.nm, .slice T.pc T.n T.cc, .int .i64 T.nx, .slice T.pr T.R.length T.cr] 51)
        have HZ := Lib.hid (cell4_new wr (.string T.nm) (.slice T.pc T.n T.cc) (.int .i64 T.nx) (.slice T.pr T.R.length T.cr) 51)
        have HT1 := Lib.hid (HT.out.below hbn)
        have HS1 := Lib.hid (HS.out.alloc (.cells #[.string T.nm, .slice T.pc T.n T.cc, .int .i64 T.nx, .slice T.pr T.R.length T.cr] 51))
        have HK1 := Lib.hid (HK11.out.step HS1.out (by have := HXb.out; omega))
        have HTK1 := Lib.hid (HTK.out.low hbn)
        have HXz : Hid (b < wr.heap.size) := Lib.hid HT.out.lt
        clear HT HS HTK hbn
        go_upto_region 9 with (fail)
        clear c0 c1 c2 c3 hgl
        generalize World.alloc _ _ = w12 at HZ HT1 HS1 HK1 HTK1 ⊢
        generalize wr.heap.size = z at HZ HXz ⊢
        have hzb : z ≠ b := by have := HXz.out; omega
        have hkb : w.heap.size + 1 ≠ b := by have := HXb.out; omega
        have h81 : (1 : Int) ≤ 8 := by decide
        have h82 : (8 : Int) ≤ 100000 := by decide
        have hKc := Lib.hid (⟨HK1.out.c0, HK1.out.c1, HK1.out.c2, HK1.out.lt⟩ : (w12.cell? ⟨w.heap.size + 1, 0, none⟩ = some (.int .i64 key.1) ∧ w12.cell? ⟨w.heap.size + 1, 1, none⟩ = some (.int .i64 key.2.1) ∧ w12.cell? ⟨w.heap.size + 1, 2, none⟩ = some (.string key.2.2) ∧ w.heap.size + 1 < w12.heap.size))
        go_region_held3 (fun u => (u.cell? ⟨z, 0, none⟩ = some (.string T.nm) ∧ u.cell? ⟨z, 1, none⟩ = some (.slice T.pc T.n T.cc) ∧ u.cell? ⟨z, 2, none⟩ = some (.int .i64 T.nx) ∧ u.cell? ⟨z, 3, none⟩ = some (.slice T.pr T.R.length T.cr) ∧ z < u.heap.size) ∧ (u.cell? ⟨w.heap.size + 1, 0, none⟩ = some (.int .i64 key.1) ∧ u.cell? ⟨w.heap.size + 1, 1, none⟩ = some (.int .i64 key.2.1) ∧ u.cell? ⟨w.heap.size + 1, 2, none⟩ = some (.string key.2.2) ∧ w.heap.size + 1 < u.heap.size) ∧ TapeAt u b ∧ Stays b u T ∧ StepT b W u)
          (first
            | exact ⟨HZ.out.conj, hKc.out, HT1.out.drewN 1, HTK1.out.low (Below.refl _ _).drew, HS1.out.drewN 1⟩
            | with_reducible exact keepBf hzb hkb hbq (by assumption)
            | with_reducible exact keepTf hzb hkb hsq htq (by assumption))
          (first
            | (revert sz; intro sz; go_at_call 36; with_reducible refine (alikes2_any (b := b) hT T r sz _ ?_).mono ?_; (go_split_ands; assumption); rintro e wq ⟨rfl, hbq⟩)
            | (go_at_call 36; with_reducible refine (alikes_any (b := b) hT T id key _ ?_).mono ?_; (go_split_ands; assumption); rintro e wq ⟨rfl, hbq⟩)
            | (go_at_call 38; with_reducible refine (small_any b _ ?_).mono ?_; (go_split_ands; assumption); rintro e wq ⟨sz, rfl, -, -, htq, hsq⟩)
            | (go_at_call 37; with_reducible refine (rnumber6_any sz _).mono ?_; rintro e wq ⟨rfl, hbq⟩)
            | (go_at_call 17; (with_reducible refine (next_any b 8 _ h81 h82 ?_).mono ?_); (go_split_ands; assumption); rintro e wq ⟨r, rfl, hr0, hr1, htq, hsq⟩))
        rename_i hHeld
        obtain ⟨-, -, hT9, -, hS9⟩ := hHeld
        have HT9 := Lib.hid hT9
        have HS9 := Lib.hid hS9
        clear hT9 hS9
        go_wp2
        go_roundw
        case rel => exact ⟨k + 1, by omega, by go_num, HT9.out, HS9.out⟩
        case measure => simp [intOf]; omega
      · have hlt' : decide ((k : Int) < 5) = false := decide_eq_false (by omega)
        have hltn : decide (k < 5) = false := decide_eq_false hlt
        obtain rfl : k = 5 := by omega
        have HY := Lib.hid (HY11.out.step HS.out (by have := HXy.out; omega))
        have HU := Lib.hid (HU11.out.step HS.out (by have := HXu.out; omega))
        have HA := Lib.hid (HA11.out.next HS.out)
        have HD := Lib.hid (HD11.out.next HS.out)
        have HB := Lib.hid (HBB.out.trans (HS.out.below (B := w.heap.size) (by omega) HBB.out.size))
        clear HY11 HU11 HA11 HD11 HBB HS HT HK11 HG HTB
        obtain ⟨yl, y0, y1, y2, y3, -⟩ := HY.out
        go_wp2_with fail
        refine (valids_any (b := b) hT T1 _ HA.out HV1.out).mono ?_
        rintro e w13 ⟨rfl, hb⟩
        have HU13 := Lib.hid (HU.out.low hb)
        have HD13 := Lib.hid (HD.out.low hb)
        have HB13 := Lib.hid (below_next HB.out hb)
        clear yl y0 y1 y2 y3 HY HU HA HD HB hb
        obtain ⟨yl, y0, y1, y2, y3, -⟩ := HU13.out
        go_wp2_with fail
        refine (valids_any (b := b) hT T2 _ HD13.out HV2.out).mono ?_
        rintro e w14 ⟨rfl, hb⟩
        have HB14 := Lib.hid (below_next HB13.out hb)
        clear yl y0 y1 y2 y3 HU13 HD13 HB13 hb
        go_wp2_with fail
        refine (known6_any hT _).mono ?_
        rintro e w15 ⟨rfl, hb⟩
        have HR9 := Lib.hid (below_next HB14.out hb)
        clear HB14 hb
        go_wp2
        exact bodyPost_ret (v := .bool true) (by simp [results, Tryd.results7, go_sem]) rfl ⟨rfl, HR9.out⟩
  · have hd : decide ((40 : Int) < (m : Int)) = true := decide_eq_true (by omega)
    have hdn : decide (40 < m) = true := decide_eq_true (by omega)
    clear h40
    go_wp2_with fail
    refine (known6_any hT _).mono ?_
    rintro e w1 ⟨rfl, hb1⟩
    have HB1 := Lib.hid (below_next HB.out hb1)
    go_wp2
    exact bodyPost_ret (v := .bool true) (by simp [results, Tryd.results7, go_sem]) rfl ⟨rfl, HB1.out⟩
end Go.Proofs.YtgaihglploedaaaDoor
