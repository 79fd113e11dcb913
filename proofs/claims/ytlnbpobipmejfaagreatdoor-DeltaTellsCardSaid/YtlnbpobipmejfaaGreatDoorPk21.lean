/-
  Several texts in one.
-/
import Derived.Test.YtlnbpobipmejfaaGreatDoorPk11
import Derived.Test.YtlnbpobipmejfaaGreatDoorPk12
import Derived.Test.YtlnbpobipmejfaaGreatDoorPk09
import Derived.Test.YtlnbpobipmejfaaGreatDoorPk18
/-
  Package table: cell.
-/
namespace Go.Proofs.YtlnbpobipmejfaaGreatDoor
set_option maxRecDepth 100000
open Go.RowKit
variable {ls : List Nat}

def cellO (k : Int) (l : List Val) : Val × Bool := match keyV k l with | some v => (v, true) | none => ((0, 0, ⟨#[]⟩), false)
theorem cellO_some {k : Int} {l : List Val} {v : Val} (h : keyV k l = some v) : cellO k l = (v, true) := by unfold cellO; rw [h]
theorem cellO_none {k : Int} {l : List Val} (h : keyV k l = none) : cellO k l = ((0, 0, ⟨#[]⟩), false) := by unfold cellO; rw [h]
set_option maxHeartbeats 1000000 in
theorem cell_any (id : Int) (q : Option Addr) (l : List Val) (cp : Nat) (kk : Int) (w : World) (hR : RowAt w q l) :
    Calls Tryz.prog 83 #[.agg #[.int .i64 id, .slice q l.length cp], .int .i64 kk] w fun e w' => e = .returned (.tuple #[valV (cellO kk l).1, .bool (cellO kk l).2]) ∧ Below w.heap.size w w' := by
  have hb0 : Below w.heap.size w ((w.alloc (.cells #[.int .i64 id, .slice q l.length cp] 58)).alloc (.cells #[.int .i64 0, .int .i64 0, .string ⟨#[]⟩] 55)) := below_new (below_new (Below.refl _ _) _) _
  have HR := Lib.hid (hR.low hb0)
  obtain ⟨p0, p1⟩ := row2_new w (.int .i64 id) (.slice q l.length cp) 58
  have r1 : ((w.alloc (.cells #[.int .i64 id, .slice q l.length cp] 58)).alloc (.cells #[.int .i64 0, .int .i64 0, .string ⟨#[]⟩] 55)).cell? ⟨w.heap.size, 1, none⟩ = some (.slice q l.length cp) := by rw [(below_alloc _ _).cell (by simp)]; exact p1
  clear hR hb0 p0 p1
  by_cases hneg : kk < 0
  · have g1 : decide (kk < 0) = true := decide_eq_true hneg
    have HE := Lib.hid (cellO_none (keyV_neg (l := l) hneg))
    go_enter Tryz.func83, Tryz.ntmps83
    go_wp2
    exact bodyPost_ret (v := .tuple #[valV (0, 0, ⟨#[]⟩), .bool false]) (by simp [results, Tryz.results83, go_sem, valV]) rfl
      ⟨by rw [HE.out], below_new (below_new (Below.refl _ _) _) _⟩
  · obtain ⟨K, rfl⟩ : ∃ K : Nat, kk = K := ⟨kk.toNat, by omega⟩
    have g1 : decide ((K : Int) < 0) = false := decide_eq_false hneg
    by_cases hlen : K < l.length
    · have g2 : decide ((l.length : Int) ≤ (K : Int)) = false := decide_eq_false (by omega)
      have hkI : (K : Int) < (l.length : Int) := by omega
      have HE := Lib.hid (cellO_some (keyV_some hlen))
      obtain ⟨c2, o2, rfl, hc2, v0, v1, v2⟩ := HR.out K hlen
      go_enter Tryz.func83, Tryz.ntmps83
      go_wp2
      exact bodyPost_ret (v := .tuple #[valV (vAt l K), .bool true]) (by simp [results, Tryz.results83, go_sem, valV]) rfl
        ⟨by rw [HE.out], below_new (below_new (Below.refl _ _) _) _⟩
    · have g2 : decide ((l.length : Int) ≤ (K : Int)) = true := decide_eq_true (by omega)
      have HE := Lib.hid (cellO_none (keyV_long (k := K) (l := l) (by omega)))
      go_enter Tryz.func83, Tryz.ntmps83
      go_wp2
      exact bodyPost_ret (v := .tuple #[valV (0, 0, ⟨#[]⟩), .bool false]) (by simp [results, Tryz.results83, go_sem, valV]) rfl
        ⟨by rw [HE.out], below_new (below_new (Below.refl _ _) _) _⟩
end Go.Proofs.YtlnbpobipmejfaaGreatDoor
/-
  Package table: Duplicate.
-/
namespace Go.Proofs.YtlnbpobipmejfaaGreatDoor
set_option maxRecDepth 100000
open Go.RowKit
variable {ls : List Nat}

set_option maxHeartbeats 2000000 in
theorem dup_any (T : Tab) (w : World) (hT : TabAt w T) :
    Calls Tryz.prog 65 #[T.v] w fun e w' => e = .returned (.bool (dupR T.key T.R)) ∧ Below w.heap.size w w' := by
  obtain ⟨nm, pc, n, cc, f, nx, pr, cr, R⟩ := T
  obtain ⟨hnm, hn, hC, hR, hl, hz⟩ := hT
  unfold Tab.v Tab.key
  dsimp only at *
  have HR := Lib.hid hR
  have hb0 : Below w.heap.size w (w.alloc (.cells #[.string nm, .slice pc n cc, .int .i64 nx, .slice pr R.length cr] 34)) := below_new (Below.refl _ _) _
  have HC := Lib.hid (hC.low hb0)
  have HX := Lib.hid (cell4_new w (.string nm) (.slice pc n cc) (.int .i64 nx) (.slice pr R.length cr) 34)
  have HB0 := Lib.hid hb0
  clear hC hR hz hb0
  obtain ⟨kk, hkk⟩ : ∃ kk, findKey f n = kk := ⟨_, rfl⟩
  rw [hkk]
  have HKK := Lib.hid hkk
  clear hkk
  go_enter Tryz.func65, Tryz.ntmps65
  go_wp2_with fail
  refine (keycol_any nm pc n cc f _ hn HC.out).mono ?_
  rintro e w1 ⟨rfl, hb1⟩
  have hx := HX.out.low hb1
  have hB1 := below_next HB0.out hb1
  have HS0 := Lib.hid (SeenAt.new w1)
  have HB1 := Lib.hid (below_new hB1 (.map #[] 0))
  obtain ⟨hxl, x0, x1, x2, x3, -⟩ := hx.low (below_alloc w1 (.map #[] 0))
  have HM : Hid (w.heap.size ≤ w1.heap.size) := Lib.hid hB1.size
  clear HC HX HB0 hb1 hx hB1
  rw [HKK.out]
  clear HKK
  have hmk := run_makeMap (P := Tryz.prog) (w := w1) 106
  go_wp2_with fail
  generalize w1.alloc (.map #[] 0) = W1 at HS0 HB1 hxl x0 x1 x2 x3 ⊢
  generalize hM : w1.heap.size = M at HS0 HM ⊢
  clear hM hmk
  go_wp2_with fail
  go_loopw [16] (fun i v => ∃ k : Nat, k ≤ R.length ∧ i = .int .i64 k ∧ SeenAt v M (keysR kk (R.take k)) ∧ (keysR kk (R.take k)).Nodup ∧ Below w.heap.size w v) (fun i _ => R.length - (intOf i).toNat)
  case atStart => exact ⟨0, Nat.zero_le _, rfl, HS0.out, List.nodup_nil, HB1.out⟩
  clear HB1 HS0 x0 x1 x2 x3 hxl
  case round =>
    obtain ⟨k, hk, rfl, hs, hd, hb⟩ := hrel
    have HS := Lib.hid hs
    have HD := Lib.hid hd
    have HB := Lib.hid hb
    clear hs hd hb
    by_cases hlt : k < R.length
    · have hlt' : decide ((k : Int) < R.length) = true := decide_eq_true (by omega)
      obtain ⟨c, o, q, cp, rfl, hc, h0, h1, hr, hs, hqn⟩ := HR.out.low HB.out k hlt
      have hbn := below_alloc wr (.cells #[.int .i64 (tAt R k).1, .slice q (tAt R k).2.length cp] 58)
      have HQ := Lib.hid (hr.low hbn)
      have HB2 := Lib.hid (below_next HB.out hbn)
      have HS2 := Lib.hid (HS.out.low hbn)
      clear hr hqn HB HS hbn
      go_wp2_with fail
      refine (cell_any (tAt R k).1 q (tAt R k).2 cp kk _ HQ.out).mono ?_
      rintro e w2 ⟨rfl, hb2⟩
      have HB3 := Lib.hid (below_next HB2.out hb2)
      have HS3 := Lib.hid (HS2.out.low hb2)
      clear HB2 HS2 HQ hb2 h0 h1 hc
      cases hkv : keyV kk (tAt R k).2 with
      | none =>
        have HE := Lib.hid (keysR_none hlt hkv)
        rw [cellO_none hkv]
        clear hkv
        unfold valV
        have HB4 := Lib.hid (below_new HB3.out (.cells #[.int .i64 0, .int .i64 0, .string ⟨#[]⟩] 55))
        have HS4 := Lib.hid (HS3.out.low (below_alloc w2 (.cells #[.int .i64 0, .int .i64 0, .string ⟨#[]⟩] 55)))
        clear HB3 HS3
        go_wp2
        go_roundw
        case rel => exact ⟨k + 1, by omega, by go_num, by rw [HE.out]; exact HS4.out, by rw [HE.out]; exact HD.out, HB4.out⟩
        case measure => simp [intOf]; omega
      | some v =>
        have HKV := Lib.hid hkv
        rw [cellO_some hkv]
        clear hkv
        unfold valV
        have hbv := below_alloc w2 (.cells #[.int .i64 v.1, .int .i64 v.2.1, .string v.2.2] 55)
        have HB4 := Lib.hid (below_next HB3.out hbv)
        have HS4 := Lib.hid (HS3.out.low hbv)
        clear HB3 HS3 hbv
        cases hseen : seenB v (keysR kk (R.take k))
        · have HNS : Hid (¬ v ∈ keysR kk (R.take k)) := Lib.hid (fun hm => Bool.false_ne_true (hseen.symm.trans (seenB_iff.2 hm)))
          have HE : Hid (keysR kk (R.take (k + 1)) = keysR kk (R.take k) ++ [v]) := Lib.hid (by rw [keysR_take hlt, HKV.out]; rfl)
          go_wp2_with (first | (at_lookup; refine wpList_look_seen rfl (.tmp 28) (.tmp 29) 106 rfl Tryz.underlying106 M _ rfl HS4.out v (by rfl) ?_; rw [hseen]) | (at_mapUpdate; refine wpList_put_seen rfl (.tmp 31) (.tmp 32) (.const (.bool true)) 106 rfl Tryz.underlying106 M _ rfl HS4.out v (by rfl) rfl HNS.out ?_; intro w5 hs5 hg5; (have HS5 := Lib.hid hs5); (have HB5 := Lib.hid (HB4.out.grown hg5 HB4.out.size (fun j hj => by cases hj; exact HM.out))); clear hs5 hg5))
          go_roundw
          case rel => exact ⟨k + 1, by omega, by go_num, by rw [HE.out]; exact HS5.out, nodup_step hlt HKV.out HD.out HNS.out, HB5.out⟩
          case measure => simp [intOf]; omega
        · have HDUP := Lib.hid (dupR_yes hlt HKV.out (seenB_iff.1 hseen))
          go_wp2_with (at_lookup; refine wpList_look_seen rfl (.tmp 28) (.tmp 29) 106 rfl Tryz.underlying106 M _ rfl HS4.out v (by rfl) ?_; rw [hseen])
          go_ret
          exact ⟨ret_b HDUP.out.symm, HB4.out⟩
    · have hlt' : decide ((k : Int) < R.length) = false := decide_eq_false (by omega)
      obtain rfl : k = R.length := by omega
      have HE : Hid (dupR kk R = false) := Lib.hid (dupR_no (by have := HD.out; rw [List.take_length] at this; exact this))
      go_wp2
      go_ret
      exact ⟨ret_b HE.out.symm, HB.out⟩
end Go.Proofs.YtlnbpobipmejfaaGreatDoor
/-
  Fits of package tuple.
-/
namespace Go.Proofs.YtlnbpobipmejfaaGreatDoor
set_option maxRecDepth 100000
open Go.RowKit
variable {ls : List Nat}

set_option maxRecDepth 100000 in
set_option maxHeartbeats 2000000 in
theorem rowfits_any (nm : ByteArray) (p : Option Addr) (n cap : Nat) (f : Nat → Col) (q : Option Addr) (l : List Val) (cq : Nat) (w : World) (hn : n ≤ 9223372036854775807) (hC : ColsAt w p n f) (hR : RowAt w q l) (hS : ValsSized l) :
    Calls Tryz.prog 82 #[schV nm p n cap, .slice q l.length cq] w fun e w' => e = .returned (.int .i64 (fitsRow f n l)) ∧ Below w.heap.size w w' := by
  unfold schV
  have HC := Lib.hid (hC.low (below_alloc w (.cells #[.string nm, .slice p n cap] 28)))
  have HR := Lib.hid (hR.low (below_alloc w (.cells #[.string nm, .slice p n cap] 28)))
  have HB := Lib.hid (below_alloc w (.cells #[.string nm, .slice p n cap] 28))
  have HX := Lib.hid (cell2_new w (.string nm) (.slice p n cap) 28)
  have HS := Lib.hid hS
  clear hC hR hS
  by_cases hln : l.length = n
  · have hlI : ((l.length : Int) != (n : Int)) = false := by simp [hln]
    have HLN := Lib.hid hln
    have hle : l.length ≤ n := by omega
    have hge : n ≤ l.length := by omega
    clear hln
    go_enter Tryz.func82, Tryz.ntmps82
    go_wp2_with fail
    go_loopw [17] (fun i v => ∃ k : Nat, k ≤ n ∧ i = .int .i64 k ∧ (∀ j, j < k → fitE f l j = 0) ∧ ColsAt v p n f ∧ RowAt v q l ∧ Cell2 v w.heap.size (.string nm) (.slice p n cap) ∧ Below w.heap.size w v) (fun i _ => n - (intOf i).toNat)
    case atStart => exact ⟨0, Nat.zero_le _, rfl, fun j hj => by omega, HC.out, HR.out, HX.out, HB.out⟩
    clear HC HR HX HB
    case round =>
      obtain ⟨k, hk, rfl, heq, hc0, hr0, hx0, hb0⟩ := hrel
      have HEQ := Lib.hid heq
      have HC := Lib.hid hc0
      have HR := Lib.hid hr0
      have HX := Lib.hid hx0
      have HB := Lib.hid hb0
      clear heq hb0 hx0
      by_cases hlt : k < n
      · have hlt' : decide ((k : Int) < n) = true := decide_eq_true (by omega)
        have hkl : k < l.length := by omega
        have hkI : (k : Int) < (l.length : Int) := by omega
        obtain ⟨c, o, rfl, hc, hsz, c0, c1, c2, c3⟩ := hc0 k hlt
        obtain ⟨c', o', rfl, hc', r0, r1, r2⟩ := hr0 k hkl
        clear hc0 hr0
        go_wp2_with fail
        have hb1 := below_alloc wr (.cells #[.string (f k).nm, .int .i64 (f k).ty, .bool (f k).nn, .bool (f k).key] 63)
        have HC1 := Lib.hid (HC.out.low hb1)
        have HR1 := Lib.hid (HR.out.low hb1)
        have HX1 := Lib.hid (HX.out.low hb1)
        have HB1 := Lib.hid (below_next HB.out hb1)
        obtain ⟨xz, x0, x1, x2, x3⟩ := ColBox.new wr (f k) 63
        have r0' : (wr.alloc (.cells #[.string (f k).nm, .int .i64 (f k).ty, .bool (f k).nn, .bool (f k).key] 63)).cell? ⟨c', o' + k * 3, none⟩ = some (.int .i64 (vAt l k).1) := by rw [hb1.cell (by exact hc')]; exact r0
        have r1' : (wr.alloc (.cells #[.string (f k).nm, .int .i64 (f k).ty, .bool (f k).nn, .bool (f k).key] 63)).cell? ⟨c', o' + k * 3 + 1, none⟩ = some (.int .i64 (vAt l k).2.1) := by rw [hb1.cell (by exact hc')]; exact r1
        have r2' : (wr.alloc (.cells #[.string (f k).nm, .int .i64 (f k).ty, .bool (f k).nn, .bool (f k).key] 63)).cell? ⟨c', o' + k * 3 + 2, none⟩ = some (.string (vAt l k).2.2) := by rw [hb1.cell (by exact hc')]; exact r2
        have hc2' := Nat.lt_of_lt_of_le hc' hb1.size
        clear HC HR HX HB hb1 c0 c1 c2 c3 r0 r1 r2 hc hc'
        generalize wr.alloc _ = W1 at HC1 HR1 HX1 HB1 xz x0 x1 x2 x3 r0' r1' r2' hc2' ⊢
        generalize wr.heap.size = X at xz x0 x1 x2 x3 ⊢
        go_region_held3 (fun u => u.cell? ⟨X, 0, none⟩ = some (.string (f k).nm) ∧ u.cell? ⟨X, 1, none⟩ = some (.int .i64 (f k).ty) ∧ u.cell? ⟨X, 2, none⟩ = some (.bool (f k).nn) ∧ u.cell? ⟨X, 3, none⟩ = some (.bool (f k).key) ∧ u.cell? ⟨c', o' + k * 3, none⟩ = some (.int .i64 (vAt l k).1) ∧ u.cell? ⟨c', o' + k * 3 + 1, none⟩ = some (.int .i64 (vAt l k).2.1) ∧ u.cell? ⟨c', o' + k * 3 + 2, none⟩ = some (.string (vAt l k).2.2) ∧ X < u.heap.size ∧ c' < u.heap.size ∧ ColsAt u (some ⟨c, o, none⟩) n f ∧ RowAt u (some ⟨c', o', none⟩) l ∧ Cell2 u w.heap.size (.string nm) (.slice (some ⟨c, o, none⟩) n cap) ∧ Below w.heap.size w u)
          (first
            | exact ⟨x0, x1, x2, x3, r0', r1', r2', xz, hc2', HC1.out, HR1.out, ⟨HX1.out.lt, HX1.out.c0, HX1.out.c1, HX1.out.fz⟩, HB1.out.drew⟩
            | exact keepRF hbq (by assumption))
          (first
            | (go_at_call 96; refine (fits_any (f k) _ _ _ _ (HS.out k hkl)).mono ?_; rintro e wq ⟨rfl, hbq⟩))
        rename_i hHeld
        obtain ⟨-, -, -, -, -, -, -, -, -, hc5, hr5, hx5, hb5⟩ := hHeld
        clear xz x0 x1 x2 x3 r0' r1' r2' hc2' HC1 HR1 HX1 HB1 hbq
        cases hz : (fitE f l k != 0)
        · have hz' : (fitsE (f k).ty (f k).nn (vAt l k).1 (vAt l k).2.1 (vAt l k).2.2 != 0) = false := hz
          have HZ : Hid (fitE f l k = 0) := Lib.hid (by simpa using hz)
          go_wp2
          go_roundw
          case rel => exact ⟨k + 1, by omega, by go_num, fun j hj => by
            by_cases hjk : j = k
            · subst hjk; exact HZ.out
            · exact HEQ.out j (by omega), hc5, hr5, hx5, hb5⟩
          case measure => simp [intOf]; omega
        · have hz' : (fitsE (f k).ty (f k).nn (vAt l k).1 (vAt l k).2.1 (vAt l k).2.2 != 0) = true := hz
          have HZ : Hid (¬ fitE f l k = 0) := Lib.hid (bne_iff_ne.1 hz)
          have HB5 := Lib.hid hb5
          go_wp2
          go_ret
          exact ⟨ret_int (fitsRow_hit HLN.out hlt HZ.out HEQ.out).symm, HB5.out⟩
      · have hlt' : decide ((k : Int) < n) = false := decide_eq_false (by omega)
        obtain rfl : k = n := by omega
        clear hc0 hr0
        go_wp2
        go_ret
        exact ⟨ret_int (fitsRow_ok HLN.out HEQ.out).symm, HB.out⟩
  · have hlI : ((l.length : Int) != (n : Int)) = true := bne_iff_ne.2 (by omega)
    have HLN := Lib.hid hln
    clear hln
    go_enter Tryz.func82, Tryz.ntmps82
    go_wp2
    go_ret
    exact ⟨ret_int (fitsRow_len HLN.out).symm, HB.out⟩
theorem fits_does : FitsDoes := by
  intro nm p n cap f q l cq w hn hC hR hS
  have := rowfits_any nm p n cap f q l cq w hn hC hR hS
  unfold schV at this
  exact this
end Go.Proofs.YtlnbpobipmejfaaGreatDoor
/-
  Package table: Valid.
-/
namespace Go.Proofs.YtlnbpobipmejfaaGreatDoor
set_option maxRecDepth 100000
open Go.RowKit
variable {ls : List Nat}

theorem row_hi {f : Nat → Col} {n : Nat} {nx : Int} {R : List TRow} {i : Nat} (h : nx ≤ (tAt R i).1) : ¬ RowOK f n nx R i := fun hc => by have := hc.2.1; omega
theorem row_fit {f : Nat → Col} {n : Nat} {nx : Int} {R : List TRow} {i : Nat} (h : ¬ fitsRow f n (tAt R i).2 = 0) : ¬ RowOK f n nx R i := fun hc => h hc.2.2.2
theorem rowfits6_any (nm : ByteArray) (p : Option Addr) (n cap : Nat) (f : Nat → Col) (q : Option Addr) (l : List Val) (cq : Nat) (w : World) (hn : n ≤ 9223372036854775807) (hC : ColsAt w p n f) (hR : RowAt w q l) (hS : ValsSized l) :
    Calls Tryz.prog 82 #[.agg #[.string nm, .slice p n cap], .slice q l.length cq] w fun e w' => e = .returned (.int .i64 (fitsRow f n l)) ∧ Below w.heap.size w w' := by
  have := rowfits_any nm p n cap f q l cq w hn hC hR hS
  unfold schV at this
  exact this
def nextOK (nx : Int) : Bool := decide (1 ≤ nx ∧ nx ≤ 2147483648)
set_option maxHeartbeats 400000 in
theorem validnext_any (nx : Int) (w : World) (hn : nx ≤ 9223372036854775807) :
    Calls Tryz.prog 63 #[.int .i64 nx] w fun e w' => e = .returned (.bool (nextOK nx)) ∧ Below w.heap.size w w' := by
  by_cases h1 : 1 ≤ nx
  · have g1 : decide (1 ≤ nx) = true := decide_eq_true h1
    have hw : IntKind.i64.wrap (nx - 1) = nx - 1 := i64w (by omega) (by omega)
    have hr : decide (nx - 1 ≤ 2147483647) = nextOK nx := by unfold nextOK; rw [decide_eq_decide]; omega
    go_enter Tryz.func63, Tryz.ntmps63
    go_wp2
    go_ret
    exact ⟨rfl, Below.refl _ _⟩
  · have g1 : decide (1 ≤ nx) = false := decide_eq_false h1
    have hr : nextOK nx = false := decide_eq_false (fun h => h1 h.1)
    go_enter Tryz.func63, Tryz.ntmps63
    go_wp2
    go_ret
    exact ⟨rfl, Below.refl _ _⟩
/-- The rows up to k are right. -/
def rowsOK (f : Nat → Col) (n : Nat) (nx : Int) (R : List TRow) : Bool := decide (∀ i, i < R.length → RowOK f n nx R i)
/-- The number of the row before row k. -/
def befR (R : List TRow) (k : Nat) : Int := if k = 0 then 0 else (tAt R (k - 1)).1
theorem befR_succ (R : List TRow) (k : Nat) : befR R (k + 1) = (tAt R k).1 := by unfold befR; rw [if_neg (by omega), Nat.add_sub_cancel]
theorem row_not_bef {f : Nat → Col} {n : Nat} {nx : Int} {R : List TRow} {k : Nat} (h : (tAt R k).1 ≤ befR R k) : ¬ RowOK f n nx R k := by
  intro hc
  unfold befR at h
  split at h
  · have := hc.1; omega
  · have := hc.2.2.1 (by omega); omega
theorem row_yes {f : Nat → Col} {n : Nat} {nx : Int} {R : List TRow} {k : Nat} (hp : ∀ j, j < k → RowOK f n nx R j) (h1 : ¬ (tAt R k).1 ≤ befR R k) (h2 : ¬ nx ≤ (tAt R k).1) (h3 : fitsRow f n (tAt R k).2 = 0) : RowOK f n nx R k := by
  unfold befR at h1
  split at h1
  · exact ⟨by omega, by omega, fun h => by omega, h3⟩
  · have := (hp (k - 1) (by omega)).1
    exact ⟨by omega, by omega, fun h => by omega, h3⟩
theorem rowsOK_no {f : Nat → Col} {n : Nat} {nx : Int} {R : List TRow} {k : Nat} (hk : k < R.length) (h : ¬ RowOK f n nx R k) : rowsOK f n nx R = false := decide_eq_false fun hc => h (hc k hk)
theorem rowsOK_yes {f : Nat → Col} {n : Nat} {nx : Int} {R : List TRow} (h : ∀ i, i < R.length → RowOK f n nx R i) : rowsOK f n nx R = true := decide_eq_true h
set_option maxHeartbeats 2000000 in
theorem validrows_any (T : Tab) (w : World) (hT : TabAt w T) :
    Calls Tryz.prog 64 #[T.v] w fun e w' => e = .returned (.bool (rowsOK T.f T.n T.nx T.R)) ∧ Below w.heap.size w w' := by
  obtain ⟨nm, pc, n, cc, f, nx, pr, cr, R⟩ := T
  obtain ⟨hnm, hn, hC, hR, hl, hz⟩ := hT
  unfold Tab.v
  dsimp only at *
  have HR := Lib.hid hR
  have HZ := Lib.hid hz
  have hb0 : Below w.heap.size w (w.alloc (.cells #[.string nm, .slice pc n cc, .int .i64 nx, .slice pr R.length cr] 34)) := below_new (Below.refl _ _) _
  have HC := Lib.hid (hC.low hb0)
  have HX := Lib.hid (cell4_new w (.string nm) (.slice pc n cc) (.int .i64 nx) (.slice pr R.length cr) 34)
  have HB0 := Lib.hid hb0
  clear hC hR hz hb0
  go_enter Tryz.func64, Tryz.ntmps64
  go_wp2_with fail
  go_loopw [3, 9] (fun bv i v => ∃ k : Nat, k ≤ R.length ∧ i = .int .i64 k ∧ bv = .int .i64 (befR R k) ∧ (∀ j, j < k → RowOK f n nx R j) ∧ Cell4 v w.heap.size (.string nm) (.slice pc n cc) (.int .i64 nx) (.slice pr R.length cr) ∧ ColsAt v pc n f ∧ Below w.heap.size w v) (fun _ i _ => R.length - (intOf i).toNat)
  case atStart => exact ⟨0, Nat.zero_le _, rfl, rfl, fun j hj => by omega, HX.out, HC.out, HB0.out⟩
  clear HX HC HB0
  case round =>
    obtain ⟨k, hk, rfl, rfl, hok, hx, hc, hb⟩ := hrel
    have HOK := Lib.hid hok
    have HX := Lib.hid hx
    have HC := Lib.hid hc
    have HB := Lib.hid hb
    clear hok hx hc hb
    by_cases hlt : k < R.length
    · have hlt' : decide ((k : Int) < R.length) = true := decide_eq_true (by omega)
      obtain ⟨c, o, q, cp, rfl, hc, h0, h1, hr, hs, hqn⟩ := HR.out.low HB.out k hlt
      have HQ := Lib.hid hr
      clear hr hqn
      have hbn := below_alloc wr (.cells #[.int .i64 (tAt R k).1, .slice q (tAt R k).2.length cp] 58)
      have HX2 := Lib.hid (HX.out.low hbn)
      have HC2 := Lib.hid (HC.out.low hbn)
      have HB2 := Lib.hid (below_next HB.out hbn)
      have HQ2 := Lib.hid (HQ.out.low hbn)
      obtain ⟨hxl, x0, x1, x2, x3, -⟩ := HX2.out
      obtain ⟨hxl9, y0, y1, y2, y3, -⟩ := HX.out
      have HR0 := Lib.hid (row2_new wr (.int .i64 (tAt R k).1) (.slice q (tAt R k).2.length cp) 58)
      clear HX HC HB HQ hbn
      by_cases h1 : (tAt R k).1 ≤ befR R k
      · have e1 : decide ((tAt R k).1 ≤ befR R k) = true := decide_eq_true h1
        have HV := Lib.hid (rowsOK_no hlt (row_not_bef (f := f) (n := n) (nx := nx) h1))
        go_wp2
        go_ret
        exact ⟨ret_b HV.out.symm, HB2.out⟩
      · have e1 : decide ((tAt R k).1 ≤ befR R k) = false := decide_eq_false h1
        by_cases h2 : nx ≤ (tAt R k).1
        · have e2 : decide (nx ≤ (tAt R k).1) = true := decide_eq_true h2
          have HV := Lib.hid (rowsOK_no hlt (row_hi (f := f) (n := n) (nx := nx) h2))
          go_wp2
          go_ret
          exact ⟨ret_b HV.out.symm, HB2.out⟩
        · have e2 : decide (nx ≤ (tAt R k).1) = false := decide_eq_false h2
          go_wp2_with fail
          refine (rowfits6_any nm pc n cc f q (tAt R k).2 cp _ hn HC2.out HQ2.out (HZ.out _ (tAt_mem hlt))).mono ?_
          rintro e w3 ⟨rfl, hb3⟩
          have r4 : w3.cell? ⟨wr.heap.size, 0, none⟩ = some (.int .i64 (tAt R k).1) := by rw [hb3.cell (by simp)]; exact HR0.out.1
          have HX3 := Lib.hid (HX2.out.low hb3)
          have HC3 := Lib.hid (HC2.out.low hb3)
          have HB3 := Lib.hid (below_next HB2.out hb3)
          clear hb3 HX2 HC2 HB2 HR0 hxl x0 x1 x2 x3 hxl9 y0 y1 y2 y3 h0 hc
          cases hz : (fitsRow f n (tAt R k).2 != 0)
          · have HROW : Hid (RowOK f n nx R k) := Lib.hid (row_yes HOK.out (by omega) (by omega) (by simpa using hz))
            go_wp2
            go_roundw
            case rel => exact ⟨k + 1, by omega, by go_num, by rw [befR_succ], all_succ HOK.out HROW.out, HX3.out, HC3.out, HB3.out⟩
            case measure => simp [intOf]; omega
          · have HV := Lib.hid (rowsOK_no hlt (row_fit (f := f) (n := n) (nx := nx) (bne_iff_ne.1 hz)))
            go_wp2
            go_ret
            exact ⟨ret_b HV.out.symm, HB3.out⟩
    · have hlt' : decide ((k : Int) < R.length) = false := decide_eq_false (by omega)
      obtain rfl : k = R.length := by omega
      have HV := Lib.hid (rowsOK_yes HOK.out)
      go_wp2
      go_ret
      exact ⟨ret_b HV.out.symm, HB.out⟩
theorem svalid6_eq {nm : ByteArray} {p : Option Addr} {n cap : Nat} {f : Nat → Col} {w : World} {b : Bool} (hs : nm.size ≤ 9223372036854775807) (hn : n ≤ 9223372036854775807) (hC : ColsAt w p n f) (h : schemaOK nm n f = b) :
    Calls Tryz.prog 62 #[.agg #[.string nm, .slice p n cap]] w fun e w' => e = .returned (.bool b) ∧ Below w.heap.size w w' := by
  subst h; exact svalid_any nm p n cap f w hs hn hC
theorem validnext_eq {nx : Int} {b : Bool} (hn : nx ≤ 9223372036854775807) (h : nextOK nx = b) (w : World) :
    Calls Tryz.prog 63 #[.int .i64 nx] w fun e w' => e = .returned (.bool b) ∧ Below w.heap.size w w' := by
  subst h; exact validnext_any nx w hn
theorem valid_is {nm : ByteArray} {n : Nat} {f : Nat → Col} {nx : Int} {R : List TRow} {a b c d e : Bool} (h1 : schemaOK nm n f = a) (h2 : nextOK nx = b) (h3 : decide ((R.length : Int) ≤ 100) = c) (h4 : rowsOK f n nx R = d) (h5 : dupR (findKey f n) R = e) : validT nm n f nx R = (a && b && c && d && !e) := by
  subst h1 h2 h3 h4 h5
  unfold validT nextOK rowsOK
  have : decide (R.length ≤ 100 ∧ 1 ≤ nx ∧ nx ≤ 2147483648) = (decide (1 ≤ nx ∧ nx ≤ 2147483648) && decide ((R.length : Int) ≤ 100)) := by
    rw [← Bool.decide_and, decide_eq_decide]
    omega
  rw [this]
  simp only [Bool.and_assoc]
set_option maxHeartbeats 2000000 in
theorem tvalid_any (T : Tab) (w : World) (hT : TabAt w T) :
    Calls Tryz.prog 43 #[T.v] w fun e w' => e = .returned (.bool T.valid) ∧ Below w.heap.size w w' := by
  have hnx := hT.nxr
  obtain ⟨nm, pc, n, cc, f, nx, pr, cr, R⟩ := T
  obtain ⟨hnm, hn, hC, -⟩ := id hT
  have hvr : ∀ v (b : Bool), rowsOK f n nx R = b → TabAt v ⟨nm, pc, n, cc, f, nx, pr, cr, R⟩ → Calls Tryz.prog 64 #[Tab.v ⟨nm, pc, n, cc, f, nx, pr, cr, R⟩] v fun e w' => e = .returned (.bool b) ∧ Below v.heap.size v w' := by
    intro v b h hv
    subst h
    exact validrows_any ⟨nm, pc, n, cc, f, nx, pr, cr, R⟩ v hv
  have hdp := fun v (hv : TabAt v ⟨nm, pc, n, cc, f, nx, pr, cr, R⟩) => dup_any ⟨nm, pc, n, cc, f, nx, pr, cr, R⟩ v hv
  unfold Tab.v at hvr
  unfold Tab.v Tab.key at hdp
  unfold Tab.v Tab.valid
  dsimp only at hnm hn hC hnx hvr hdp ⊢
  have hb0 : Below w.heap.size w (w.alloc (.cells #[.string nm, .slice pc n cc, .int .i64 nx, .slice pr R.length cr] 34)) := below_new (Below.refl _ _) _
  have HT := Lib.hid (hT.low hb0)
  have HC := Lib.hid (hC.low hb0)
  have HB := Lib.hid hb0
  have HX := Lib.hid (cell4_new w (.string nm) (.slice pc n cc) (.int .i64 nx) (.slice pr R.length cr) 34)
  obtain ⟨hxl, x0, x1, x2, x3, -⟩ := HX.out
  have HVR := Lib.hid hvr
  have HDP := Lib.hid hdp
  clear hT hC hb0 hvr hdp
  obtain ⟨e5, h5⟩ : ∃ e, dupR (findKey f n) R = e := ⟨_, rfl⟩
  go_enter Tryz.func43, Tryz.ntmps43
  go_wp2_with fail
  refine (svalid_any nm pc n cc f _ hnm hn HC.out).mono ?_
  rintro e w1 ⟨rfl, hb⟩
  have HX1 := Lib.hid (HX.out.low hb)
  have HT1 := Lib.hid (HT.out.low hb)
  have HB1 := Lib.hid (below_next HB.out hb)
  clear hb HX HT HB x0 x1 x2 x3 hxl
  obtain ⟨hxl, x0, x1, x2, x3, -⟩ := HX1.out
  cases h1 : schemaOK nm n f
  · have HV := Lib.hid (validT_schema (nx := nx) (R := R) h1)
    go_wp2
    go_ret
    exact ⟨ret_b HV.out.symm, HB1.out⟩
  · go_wp2_with fail
    refine (validnext_any nx _ hnx).mono ?_
    rintro e w2 ⟨rfl, hb⟩
    have HX2 := Lib.hid (HX1.out.low hb)
    have HT2 := Lib.hid (HT1.out.low hb)
    have HB2 := Lib.hid (below_next HB1.out hb)
    clear hb HX1 HT1 HB1 x0 x1 x2 x3 hxl
    obtain ⟨hxl, x0, x1, x2, x3, -⟩ := HX2.out
    cases h2 : nextOK nx
    · have HV := Lib.hid (valid_is h1 h2 rfl rfl h5)
      go_wp2
      go_ret
      exact ⟨ret_b HV.out.symm, HB2.out⟩
    · cases h3 : decide ((R.length : Int) ≤ 100)
      · have HV := Lib.hid (valid_is h1 h2 h3 rfl h5)
        go_wp2
        go_ret
        exact ⟨ret_b HV.out.symm, HB2.out⟩
      · go_wp2_with fail
        refine (HVR.out _ _ rfl HT2.out).mono ?_
        rintro e w3 ⟨rfl, hb⟩
        have HX3 := Lib.hid (HX2.out.low hb)
        have HT3 := Lib.hid (HT2.out.low hb)
        have HB3 := Lib.hid (below_next HB2.out hb)
        clear hb HX2 HT2 HB2 x0 x1 x2 x3 hxl
        obtain ⟨hxl, x0, x1, x2, x3, -⟩ := HX3.out
        cases h4 : rowsOK f n nx R
        · have HV := Lib.hid (valid_is h1 h2 h3 h4 h5)
          go_wp2
          go_ret
          exact ⟨ret_b HV.out.symm, HB3.out⟩
        · have HV := Lib.hid (valid_is h1 h2 h3 h4 h5)
          go_wp2_with fail
          refine (HDP.out _ HT3.out).mono ?_
          rintro e w4 ⟨rfl, hb⟩
          have HB4 := Lib.hid (below_next HB3.out hb)
          clear hb
          go_wp2
          go_ret
          exact ⟨ret_b HV.out.symm, HB4.out⟩
end Go.Proofs.YtlnbpobipmejfaaGreatDoor
