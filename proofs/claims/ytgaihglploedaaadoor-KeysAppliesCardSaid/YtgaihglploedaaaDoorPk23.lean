/-
  Several texts in one.
-/
import Derived.Test.YtgaihglploedaaaDoorPk22
import Derived.Test.YtgaihglploedaaaDoorPk10
import Derived.Test.YtgaihglploedaaaDoorPk18
/-
  Package table: Bag.
-/
namespace Go.Proofs.YtgaihglploedaaaDoor
set_option maxRecDepth 100000
open Go.RowKit
variable {ls : List Nat}

set_option maxHeartbeats 1000000 in
theorem bag_any (T : Tab) (w : World) (hT : TabAt w T) :
    Calls Tryd.prog 46 #[T.v] w (SortedPost (T.R.map (·.2)) w) := by
  obtain ⟨nm, pc, n, cc, f, nx, pr, cr, R⟩ := T
  obtain ⟨hnm, hn, hC, hR, hl, hz⟩ := hT
  obtain ⟨i25, hi25, hz25, hs25, hb25⟩ := info_parts info_row
  unfold Tab.v
  dsimp only at *
  have HR := Lib.hid hR
  clear hC hR hz
  go_enter Tryd.func46, Tryd.ntmps46
  go_wp2_with fail
  go_loopw [3, 9] (fun vo i v => ∃ (k : Nat) (po : Option Addr) (co : Nat) (xs : List Value), k ≤ R.length ∧ i = .int .i64 k ∧ vo = .slice po k co ∧ v.ownsRow w.heap.size 25 1 (.slice po k co) k xs ∧ HeadsAt w xs ((R.take k).map (·.2)) ∧ Below w.heap.size w v) (fun _ i _ => R.length - (intOf i).toNat)
  case atStart => exact ⟨0, none, 0, [], Nat.zero_le _, rfl, rfl, ⟨rfl, Or.inl ⟨rfl, rfl⟩⟩, HeadsAt.nil _, below_new (Below.refl _ _) _⟩
  case round =>
    obtain ⟨k, po, co, xs, hk, rfl, rfl, ho, hg, hb⟩ := hrel
    have HO := Lib.hid ho
    have HG := Lib.hid hg
    have HB := Lib.hid hb
    clear hg hb ho
    by_cases hlt : k < R.length
    · have hlt' : decide ((k : Int) < R.length) = true := decide_eq_true (by omega)
      obtain ⟨c, o, q, cp, rfl, hc', h0', h1', hr, hs, hqn⟩ := HR.out k hlt
      have HG2 := Lib.hid (heads_add HG.out hr hs hqn)
      have hc := Nat.lt_of_lt_of_le hc' HB.out.size
      have h0 : wr.cell? ⟨c, o + k * 2, none⟩ = some (.int .i64 (tAt R k).1) := by rw [HB.out.cell (by exact hc')]; exact h0'
      have h1 : wr.cell? ⟨c, o + k * 2 + 1, none⟩ = some (.slice q (tAt R k).2.length cp) := by rw [HB.out.cell (by exact hc')]; exact h1'
      have HO7 := Lib.hid ((HO.out.alloc (.cells #[.int .i64 (tAt R k).1, .slice q (tAt R k).2.length cp] 68)).alloc (.cells #[.slice q (tAt R k).2.length cp] 25))
      have HNEW := Lib.hid (head_news wr (.cells #[.int .i64 (tAt R k).1, .slice q (tAt R k).2.length cp] 68) (.slice q (tAt R k).2.length cp))
      have HB7 := Lib.hid (below_new (below_new HB.out (.cells #[.int .i64 (tAt R k).1, .slice q (tAt R k).2.length cp] 68)) (.cells #[.slice q (tAt R k).2.length cp] 25))
      clear hr hqn h0' h1' hc' HG
      go_wp2_with (at_builtin; refine wpList_append_lies _ rfl (.tmp 13) (.tmp 16) 39 rfl w.heap.size 25 i25 _ 1 24 Tryd.underlying39 hi25 hz25 hs25 hb25 rfl (by decide) (.slice po k co) k xs (by rfl) HO7.out ⟨wr.heap.size + 1, 0, none⟩ 1 1 [.slice q (tAt R k).2.length cp] (by rfl) rfl HNEW.out (by intro u hu; obtain rfl := List.mem_singleton.1 hu; rfl) (by decide) (by unfold maxLen; omega) (by omega) HB7.out.size _ rfl ?_; intro g8 c8 w8 hown8 hgr8 hat8 hlt8; (have HO8 := Lib.hid hown8); (have HB8 := Lib.hid (HB7.out.grown hgr8 HB7.out.size (owns_block HO.out))); clear hown8 hgr8 hat8)
      go_roundw
      case rel => exact ⟨k + 1, some ⟨g8, 0, none⟩, c8, xs ++ [.slice q (tAt R k).2.length cp], by omega, by go_num, rfl, HO8.out, by rw [bag_take hlt]; exact HG2.out, HB8.out⟩
      case measure => simp [intOf]; omega
    · have hlt' : decide ((k : Int) < R.length) = false := decide_eq_false (by omega)
      obtain rfl : k = R.length := by omega
      have hrows : RowsAt wr po (R.map (·.2)) := by
        have := rows_of_heads HO.out (HG.out.low HB.out)
        rw [List.take_length] at this
        exact this
      have hsort := sort_any (R.map (·.2)) po co wr (by rw [List.length_map]; exact hl) hrows
      rw [List.length_map] at hsort
      clear HG hrows
      go_wp2_with fail
      refine hsort.mono ?_
      rintro e w3 ⟨p3, c3, rfl, hr3, hl3, hb3⟩
      have HR3 := Lib.hid hr3
      have HL3 := Lib.hid hl3
      have HB3 := Lib.hid (below_next HB.out hb3)
      clear hr3 hl3 hb3 hsort
      go_wp2
      go_ret
      exact ⟨p3, c3, rfl, HR3.out, HL3.out, HB3.out⟩
end Go.Proofs.YtgaihglploedaaaDoor
/-
  Package table: cell.
-/
namespace Go.Proofs.YtgaihglploedaaaDoor
set_option maxRecDepth 100000
open Go.RowKit
variable {ls : List Nat}

def cellO (k : Int) (l : List Val) : Val × Bool := match keyV k l with | some v => (v, true) | none => ((0, 0, ⟨#[]⟩), false)
theorem cellO_some {k : Int} {l : List Val} {v : Val} (h : keyV k l = some v) : cellO k l = (v, true) := by unfold cellO; rw [h]
theorem cellO_none {k : Int} {l : List Val} (h : keyV k l = none) : cellO k l = ((0, 0, ⟨#[]⟩), false) := by unfold cellO; rw [h]
set_option maxHeartbeats 1000000 in
theorem cell_any (id : Int) (q : Option Addr) (l : List Val) (cp : Nat) (kk : Int) (w : World) (hR : RowAt w q l) :
    Calls Tryd.prog 84 #[.agg #[.int .i64 id, .slice q l.length cp], .int .i64 kk] w fun e w' => e = .returned (.tuple #[valV (cellO kk l).1, .bool (cellO kk l).2]) ∧ Below w.heap.size w w' := by
  have hb0 : Below w.heap.size w ((w.alloc (.cells #[.int .i64 id, .slice q l.length cp] 68)).alloc (.cells #[.int .i64 0, .int .i64 0, .string ⟨#[]⟩] 34)) := below_new (below_new (Below.refl _ _) _) _
  have HR := Lib.hid (hR.low hb0)
  obtain ⟨p0, p1⟩ := row2_new w (.int .i64 id) (.slice q l.length cp) 68
  have r1 : ((w.alloc (.cells #[.int .i64 id, .slice q l.length cp] 68)).alloc (.cells #[.int .i64 0, .int .i64 0, .string ⟨#[]⟩] 34)).cell? ⟨w.heap.size, 1, none⟩ = some (.slice q l.length cp) := by rw [(below_alloc _ _).cell (by simp)]; exact p1
  clear hR hb0 p0 p1
  by_cases hneg : kk < 0
  · have g1 : decide (kk < 0) = true := decide_eq_true hneg
    have HE := Lib.hid (cellO_none (keyV_neg (l := l) hneg))
    go_enter Tryd.func84, Tryd.ntmps84
    go_wp2
    exact bodyPost_ret (v := .tuple #[valV (0, 0, ⟨#[]⟩), .bool false]) (by simp [results, Tryd.results84, go_sem, valV]) rfl
      ⟨by rw [HE.out], below_new (below_new (Below.refl _ _) _) _⟩
  · obtain ⟨K, rfl⟩ : ∃ K : Nat, kk = K := ⟨kk.toNat, by omega⟩
    have g1 : decide ((K : Int) < 0) = false := decide_eq_false hneg
    by_cases hlen : K < l.length
    · have g2 : decide ((l.length : Int) ≤ (K : Int)) = false := decide_eq_false (by omega)
      have hkI : (K : Int) < (l.length : Int) := by omega
      have HE := Lib.hid (cellO_some (keyV_some hlen))
      obtain ⟨c2, o2, rfl, hc2, v0, v1, v2⟩ := HR.out K hlen
      go_enter Tryd.func84, Tryd.ntmps84
      go_wp2
      exact bodyPost_ret (v := .tuple #[valV (vAt l K), .bool true]) (by simp [results, Tryd.results84, go_sem, valV]) rfl
        ⟨by rw [HE.out], below_new (below_new (Below.refl _ _) _) _⟩
    · have g2 : decide ((l.length : Int) ≤ (K : Int)) = true := decide_eq_true (by omega)
      have HE := Lib.hid (cellO_none (keyV_long (k := K) (l := l) (by omega)))
      go_enter Tryd.func84, Tryd.ntmps84
      go_wp2
      exact bodyPost_ret (v := .tuple #[valV (0, 0, ⟨#[]⟩), .bool false]) (by simp [results, Tryd.results84, go_sem, valV]) rfl
        ⟨by rw [HE.out], below_new (below_new (Below.refl _ _) _) _⟩
end Go.Proofs.YtgaihglploedaaaDoor
/-
  Package table: Lookup.
-/
namespace Go.Proofs.YtgaihglploedaaaDoor
set_option maxRecDepth 100000
open Go.RowKit
variable {ls : List Nat}

set_option maxHeartbeats 2000000 in
theorem look_any (T : Tab) (key : Val) (w : World) (hT : TabAt w T) :
    Calls Tryd.prog 45 #[T.v, .agg #[.int .i64 key.1, .int .i64 key.2.1, .string key.2.2]] w fun e w' => e = .returned (.tuple #[.int .i64 (lookO T.key key T.R).1, .bool (lookO T.key key T.R).2]) ∧ Below w.heap.size w w' := by
  obtain ⟨nm, pc, n, cc, f, nx, pr, cr, R⟩ := T
  obtain ⟨hnm, hn, hC, hR, hl, hz⟩ := hT
  unfold Tab.v Tab.key
  dsimp only at *
  have HR := Lib.hid hR
  have hb0 : Below w.heap.size w ((w.alloc (.cells #[.string nm, .slice pc n cc, .int .i64 nx, .slice pr R.length cr] 51)).alloc (.cells #[.int .i64 key.1, .int .i64 key.2.1, .string key.2.2] 34)) := below_new (below_new (Below.refl _ _) _) _
  have HC := Lib.hid (hC.low hb0)
  have HY := Lib.hid (cell3_new (w.alloc (.cells #[.string nm, .slice pc n cc, .int .i64 nx, .slice pr R.length cr] 51)) (.int .i64 key.1) (.int .i64 key.2.1) (.string key.2.2) 34)
  have HX := Lib.hid ((cell4_new w (.string nm) (.slice pc n cc) (.int .i64 nx) (.slice pr R.length cr) 51).low (below_alloc _ (.cells #[.int .i64 key.1, .int .i64 key.2.1, .string key.2.2] 34)))
  have HB0 := Lib.hid hb0
  clear hC hR hz hb0
  obtain ⟨kk, hkk⟩ : ∃ kk, findKey f n = kk := ⟨_, rfl⟩
  rw [hkk]
  have HKK := Lib.hid hkk
  clear hkk
  go_enter Tryd.func45, Tryd.ntmps45
  go_wp2_with fail
  refine (keycol_any nm pc n cc f _ hn HC.out).mono ?_
  rintro e w1 ⟨rfl, hb1⟩
  have hx := HX.out.low hb1
  have hy := (HY.out.low hb1).at (size_alloc _ _)
  have HB1 := Lib.hid (below_next HB0.out hb1)
  have HY1 := Lib.hid hy
  obtain ⟨hxl, x0, x1, x2, x3, -⟩ := hx
  clear HC HX HY HB0 hb1 hy
  rw [HKK.out]
  clear HKK
  go_wp2_with fail
  go_loopw [17] (fun i v => ∃ k : Nat, k ≤ R.length ∧ i = .int .i64 k ∧ (∀ j, j < k → keyV kk (tAt R j).2 ≠ some key) ∧ Below w.heap.size w v ∧ Cell3 v (w.heap.size + 1) (.int .i64 key.1) (.int .i64 key.2.1) (.string key.2.2)) (fun i _ => R.length - (intOf i).toNat)
  case atStart => exact ⟨0, Nat.zero_le _, rfl, fun j hj => by omega, HB1.out, HY1.out⟩
  clear HB1 HY1 x0 x1 x2 x3 hxl
  case round =>
    obtain ⟨k, hk, rfl, ha, hb, hy⟩ := hrel
    have HA := Lib.hid ha
    have HB := Lib.hid hb
    have HY := Lib.hid hy
    clear ha hb hy
    by_cases hlt : k < R.length
    · have hlt' : decide ((k : Int) < R.length) = true := decide_eq_true (by omega)
      obtain ⟨c, o, q, cp, rfl, hc, h0, h1, hr, hs, hqn⟩ := HR.out.low HB.out k hlt
      have HQ := Lib.hid (hr.low (below_alloc wr (.cells #[.int .i64 (tAt R k).1, .slice q (tAt R k).2.length cp] 68)))
      clear hr hqn
      go_wp2_with fail
      have hbn := below_alloc wr (.cells #[.int .i64 (tAt R k).1, .slice q (tAt R k).2.length cp] 68)
      have hXl : wr.heap.size < (wr.alloc (.cells #[.int .i64 (tAt R k).1, .slice q (tAt R k).2.length cp] 68)).heap.size := by simp
      refine (cell_any (tAt R k).1 q (tAt R k).2 cp kk _ HQ.out).mono ?_
      rintro e w2 ⟨rfl, hb2⟩
      have HB2 := Lib.hid (below_next (below_next HB.out hbn) hb2)
      have HY2 := Lib.hid ((HY.out.low hbn).low hb2)
      obtain ⟨p0, p1⟩ := row2_new wr (.int .i64 (tAt R k).1) (.slice q (tAt R k).2.length cp) 68
      have r0 : w2.cell? ⟨wr.heap.size, 0, none⟩ = some (.int .i64 (tAt R k).1) := by rw [hb2.cell (by exact hXl)]; exact p0
      have HXL := Lib.hid (Nat.lt_of_lt_of_le hXl hb2.size)
      clear HB HY HQ hbn hb2 h0 h1 hc p0 p1 hXl
      generalize wr.heap.size = X at r0 HXL ⊢
      cases hkv : keyV kk (tAt R k).2 with
      | none =>
        have HKV := Lib.hid hkv
        rw [cellO_none hkv]
        clear hkv
        unfold valV
        have HB3 := Lib.hid (below_new HB2.out (.cells #[.int .i64 0, .int .i64 0, .string ⟨#[]⟩] 34))
        have HY3 := Lib.hid (HY2.out.low (below_alloc w2 (.cells #[.int .i64 0, .int .i64 0, .string ⟨#[]⟩] 34)))
        clear HB2 HY2
        go_wp2
        go_roundw
        case rel => exact ⟨k + 1, by omega, by go_num, all_succ HA.out (by rw [HKV.out]; exact fun h => by cases h), HB3.out, HY3.out⟩
        case measure => simp [intOf]; omega
      | some v =>
        have HKV := Lib.hid hkv
        rw [cellO_some hkv]
        clear hkv
        unfold valV
        have hbv := below_alloc w2 (.cells #[.int .i64 v.1, .int .i64 v.2.1, .string v.2.2] 34)
        have HB3 := Lib.hid (below_next HB2.out hbv)
        have HY3 := Lib.hid (HY2.out.low hbv)
        have r3 : (w2.alloc (.cells #[.int .i64 v.1, .int .i64 v.2.1, .string v.2.2] 34)).cell? ⟨X, 0, none⟩ = some (.int .i64 (tAt R k).1) := by rw [hbv.cell (by exact HXL.out)]; exact r0
        have hXl := Nat.lt_of_lt_of_le HXL.out hbv.size
        clear HB2 HY2 hbv r0 HXL
        obtain ⟨hyl, y0, y1, y2, -⟩ := HY3.out
        go_wp2_with fail
        refine (same_any v.1 v.2.1 v.2.2 key.1 key.2.1 key.2.2 _).mono ?_
        rintro e w4 ⟨rfl, hb4⟩
        have r4 : w4.cell? ⟨X, 0, none⟩ = some (.int .i64 (tAt R k).1) := by rw [hb4.cell (by exact hXl)]; exact r3
        have HB4 := Lib.hid (below_next HB3.out hb4)
        have HY4 := Lib.hid (HY3.out.low hb4)
        clear r3 hXl hyl y0 y1 y2 hb4 HB3 HY3
        cases hsame : sameV v.1 v.2.1 v.2.2 key.1 key.2.1 key.2.2
        · have HE : Hid (keyV kk (tAt R k).2 ≠ some key) := Lib.hid (fun h => by rw [HKV.out] at h; have e := Option.some.inj h; rw [e, same_vals.2 rfl] at hsame; cases hsame)
          go_wp2
          go_roundw
          case rel => exact ⟨k + 1, by omega, by go_num, all_succ HA.out HE.out, HB4.out, HY4.out⟩
          case measure => simp [intOf]; omega
        · have HG := Lib.hid (lookO_hit hlt (by rw [HKV.out, same_vals.1 hsame]) HA.out)
          go_wp2
          go_ret2
          rw [HG.out]
          exact ⟨rfl, HB4.out⟩
    · have hlt' : decide ((k : Int) < R.length) = false := decide_eq_false (by omega)
      obtain rfl : k = R.length := by omega
      have HG := Lib.hid (lookO_none HA.out)
      go_wp2
      go_ret2
      rw [HG.out]
      exact ⟨rfl, HB.out⟩
end Go.Proofs.YtgaihglploedaaaDoor
/-
  Package table: Duplicate.
-/
namespace Go.Proofs.YtgaihglploedaaaDoor
set_option maxRecDepth 100000
open Go.RowKit
variable {ls : List Nat}

set_option maxHeartbeats 2000000 in
theorem dup_any (T : Tab) (w : World) (hT : TabAt w T) :
    Calls Tryd.prog 69 #[T.v] w fun e w' => e = .returned (.bool (dupR T.key T.R)) ∧ Below w.heap.size w w' := by
  obtain ⟨nm, pc, n, cc, f, nx, pr, cr, R⟩ := T
  obtain ⟨hnm, hn, hC, hR, hl, hz⟩ := hT
  unfold Tab.v Tab.key
  dsimp only at *
  have HR := Lib.hid hR
  have hb0 : Below w.heap.size w (w.alloc (.cells #[.string nm, .slice pc n cc, .int .i64 nx, .slice pr R.length cr] 51)) := below_new (Below.refl _ _) _
  have HC := Lib.hid (hC.low hb0)
  have HX := Lib.hid (cell4_new w (.string nm) (.slice pc n cc) (.int .i64 nx) (.slice pr R.length cr) 51)
  have HB0 := Lib.hid hb0
  clear hC hR hz hb0
  obtain ⟨kk, hkk⟩ : ∃ kk, findKey f n = kk := ⟨_, rfl⟩
  rw [hkk]
  have HKK := Lib.hid hkk
  clear hkk
  go_enter Tryd.func69, Tryd.ntmps69
  go_wp2_with fail
  refine (keycol_any nm pc n cc f _ hn HC.out).mono ?_
  rintro e w1 ⟨rfl, hb1⟩
  have hx := HX.out.low hb1
  have hB1 := below_next HB0.out hb1
  have HS0 := Lib.hid (SeenAt.new w1)
  have HB1 := Lib.hid (below_new hB1 (.map #[] 0))
  obtain ⟨hxl, x0, x1, x2, x3, -⟩ := hx.low (below_alloc w1 (.map #[] 0))
  have HM : Hid (w.heap.size ≤ w1.heap.size) := Lib.hid hB1.size
  clear HC HX HB0 hb1 hx hB1
  rw [HKK.out]
  clear HKK
  have hmk := run_makeMap (P := Tryd.prog) (w := w1) 120
  go_wp2_with fail
  generalize w1.alloc (.map #[] 0) = W1 at HS0 HB1 hxl x0 x1 x2 x3 ⊢
  generalize hM : w1.heap.size = M at HS0 HM ⊢
  clear hM hmk
  go_wp2_with fail
  go_loopw [16] (fun i v => ∃ k : Nat, k ≤ R.length ∧ i = .int .i64 k ∧ SeenAt v M (keysR kk (R.take k)) ∧ (keysR kk (R.take k)).Nodup ∧ Below w.heap.size w v) (fun i _ => R.length - (intOf i).toNat)
  case atStart => exact ⟨0, Nat.zero_le _, rfl, HS0.out, List.nodup_nil, HB1.out⟩
  clear HB1 HS0 x0 x1 x2 x3 hxl
  case round =>
    obtain ⟨k, hk, rfl, hs, hd, hb⟩ := hrel
    have HS := Lib.hid hs
    have HD := Lib.hid hd
    have HB := Lib.hid hb
    clear hs hd hb
    by_cases hlt : k < R.length
    · have hlt' : decide ((k : Int) < R.length) = true := decide_eq_true (by omega)
      obtain ⟨c, o, q, cp, rfl, hc, h0, h1, hr, hs, hqn⟩ := HR.out.low HB.out k hlt
      have hbn := below_alloc wr (.cells #[.int .i64 (tAt R k).1, .slice q (tAt R k).2.length cp] 68)
      have HQ := Lib.hid (hr.low hbn)
      have HB2 := Lib.hid (below_next HB.out hbn)
      have HS2 := Lib.hid (HS.out.low hbn)
      clear hr hqn HB HS hbn
      go_wp2_with fail
      refine (cell_any (tAt R k).1 q (tAt R k).2 cp kk _ HQ.out).mono ?_
      rintro e w2 ⟨rfl, hb2⟩
      have HB3 := Lib.hid (below_next HB2.out hb2)
      have HS3 := Lib.hid (HS2.out.low hb2)
      clear HB2 HS2 HQ hb2 h0 h1 hc
      cases hkv : keyV kk (tAt R k).2 with
      | none =>
        have HE := Lib.hid (keysR_none hlt hkv)
        rw [cellO_none hkv]
        clear hkv
        unfold valV
        have HB4 := Lib.hid (below_new HB3.out (.cells #[.int .i64 0, .int .i64 0, .string ⟨#[]⟩] 34))
        have HS4 := Lib.hid (HS3.out.low (below_alloc w2 (.cells #[.int .i64 0, .int .i64 0, .string ⟨#[]⟩] 34)))
        clear HB3 HS3
        go_wp2
        go_roundw
        case rel => exact ⟨k + 1, by omega, by go_num, by rw [HE.out]; exact HS4.out, by rw [HE.out]; exact HD.out, HB4.out⟩
        case measure => simp [intOf]; omega
      | some v =>
        have HKV := Lib.hid hkv
        rw [cellO_some hkv]
        clear hkv
        unfold valV
        have hbv := below_alloc w2 (.cells #[.int .i64 v.1, .int .i64 v.2.1, .string v.2.2] 34)
        have HB4 := Lib.hid (below_next HB3.out hbv)
        have HS4 := Lib.hid (HS3.out.low hbv)
        clear HB3 HS3 hbv
        cases hseen : seenB v (keysR kk (R.take k))
        · have HNS : Hid (¬ v ∈ keysR kk (R.take k)) := Lib.hid (fun hm => Bool.false_ne_true (hseen.symm.trans (seenB_iff.2 hm)))
          have HE : Hid (keysR kk (R.take (k + 1)) = keysR kk (R.take k) ++ [v]) := Lib.hid (by rw [keysR_take hlt, HKV.out]; rfl)
          go_wp2_with (first | (at_lookup; refine wpList_look_seen rfl (.tmp 28) (.tmp 29) 120 rfl Tryd.underlying120 M _ rfl HS4.out v (by rfl) ?_; rw [hseen]) | (at_mapUpdate; refine wpList_put_seen rfl (.tmp 31) (.tmp 32) (.const (.bool true)) 120 rfl Tryd.underlying120 M _ rfl HS4.out v (by rfl) rfl HNS.out ?_; intro w5 hs5 hg5; (have HS5 := Lib.hid hs5); (have HB5 := Lib.hid (HB4.out.grown hg5 HB4.out.size (fun j hj => by cases hj; exact HM.out))); clear hs5 hg5))
          go_roundw
          case rel => exact ⟨k + 1, by omega, by go_num, by rw [HE.out]; exact HS5.out, nodup_step hlt HKV.out HD.out HNS.out, HB5.out⟩
          case measure => simp [intOf]; omega
        · have HDUP := Lib.hid (dupR_yes hlt HKV.out (seenB_iff.1 hseen))
          go_wp2_with (at_lookup; refine wpList_look_seen rfl (.tmp 28) (.tmp 29) 120 rfl Tryd.underlying120 M _ rfl HS4.out v (by rfl) ?_; rw [hseen])
          go_ret
          exact ⟨ret_b HDUP.out.symm, HB4.out⟩
    · have hlt' : decide ((k : Int) < R.length) = false := decide_eq_false (by omega)
      obtain rfl : k = R.length := by omega
      have HE : Hid (dupR kk R = false) := Lib.hid (dupR_no (by have := HD.out; rw [List.take_length] at this; exact this))
      go_wp2
      go_ret
      exact ⟨ret_b HE.out.symm, HB.out⟩
end Go.Proofs.YtgaihglploedaaaDoor
