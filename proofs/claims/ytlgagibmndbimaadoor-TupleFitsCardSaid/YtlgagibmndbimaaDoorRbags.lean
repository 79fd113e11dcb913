/-
  SameBag and Minus of the reference.
-/
import Derived.Test.YtlgagibmndbimaaDoorRsort
import Derived.Deep.RegionHeld3
namespace Go.Proofs.YtlgagibmndbimaaDoor
open Go.RowKit
variable {ls : List Nat}

theorem ext_rows {A B : List (List Val)} (hl : A.length = B.length) (h : ∀ i, i < A.length → rAt A i = rAt B i) : A = B := by
  apply List.ext_getElem hl
  intro i h1 h2
  have := h i h1
  rw [rAt_get h1, rAt_get h2] at this
  exact this
theorem sort_rows {w' : World} {base cap : Nat} {p : Option Addr} {L : List (List Val)} {G : List (Value × List Val)} (hg : G.map (·.2) = srt L) (h : Rows2 w' base (.slice p G.length cap) G) : RowsAt w' p (srt L) := by
  rw [← hg]
  exact h.rows
/-- Sort, as a list of rows. -/
def SortedPost (L : List (List Val)) (w : World) (e : Ending) (w' : World) : Prop := ∃ (p : Option Addr) (cap : Nat), e = .returned (.slice p (srt L).length cap) ∧ RowsAt w' p (srt L) ∧ (srt L).length = L.length ∧ Below w.heap.size w w'
theorem rsorted_any (L : List (List Val)) (p : Option Addr) (cap : Nat) (w : World) (hL : L.length ≤ 1000) (hp : RowsAt w p L) :
    Calls Tryd.prog 24 #[.slice p L.length cap] w (SortedPost L w) :=
  (rsort_any L p cap w hL hp).mono fun e w' ⟨p', cap', G, he, hg, hr, hb⟩ => ⟨p', cap', by rw [srt_length]; exact he, sort_rows hg hr, srt_length L, hb⟩
theorem keepBag {W u v : World} {c c' i i' : Nat} {x y : Value} {p q p' q' : Option Addr} {a b : List Val} {A B : List (List Val)} (hb : Below u.heap.size u v)
    (h : u.cell? ⟨c, i, none⟩ = some x ∧ u.cell? ⟨c', i', none⟩ = some y ∧ c < u.heap.size ∧ c' < u.heap.size ∧ RowAt u p a ∧ RowAt u q b ∧ RowsAt u p' A ∧ RowsAt u q' B ∧ Below W.heap.size W u) :
    v.cell? ⟨c, i, none⟩ = some x ∧ v.cell? ⟨c', i', none⟩ = some y ∧ c < v.heap.size ∧ c' < v.heap.size ∧ RowAt v p a ∧ RowAt v q b ∧ RowsAt v p' A ∧ RowsAt v q' B ∧ Below W.heap.size W v := by
  obtain ⟨h0, h1, hc, hc', h2, h3, h4, h5, h6⟩ := h
  exact ⟨by rw [hb.cell (by exact hc)]; exact h0, by rw [hb.cell (by exact hc')]; exact h1, Nat.lt_of_lt_of_le hc hb.size, Nat.lt_of_lt_of_le hc' hb.size, h2.low hb, h3.low hb, h4.low hb, h5.low hb, below_next h6 hb⟩
set_option maxRecDepth 100000 in
set_option maxHeartbeats 2000000 in
theorem rsamebag_any (A B : List (List Val)) (p q : Option Addr) (ca cb : Nat) (w : World) (hA : A.length ≤ 1000) (hB : B.length ≤ 1000) (hp : RowsAt w p A) (hq : RowsAt w q B) :
    Calls Tryd.prog 17 #[.slice p A.length ca, .slice q B.length cb] w fun e w' => e = .returned (.bool (decide (srt A = srt B))) ∧ Below w.heap.size w w' := by
  have HP := Lib.hid hp
  have HQ := Lib.hid hq
  clear hp hq
  go_enter Tryd.func17, Tryd.ntmps17
  go_wp2_with fail
  refine (rsorted_any A p ca _ hA HP.out).mono ?_
  rintro e w1 ⟨px, cx, rfl, hx, hlx, hb1⟩
  have HX := Lib.hid hx
  have HB1 := Lib.hid hb1
  have HLX := Lib.hid hlx
  clear hx hb1 hlx
  go_wp2_with fail
  refine (rsorted_any B q cb _ hB (HQ.out.low HB1.out)).mono ?_
  rintro e w2 ⟨py, cy, rfl, hy, hly, hb2⟩
  have HX2 := Lib.hid (HX.out.low hb2)
  have HY2 := Lib.hid hy
  have HB2 := Lib.hid (below_next HB1.out hb2)
  have HLY := Lib.hid hly
  clear hy hb2 HX HB1 hly
  by_cases hl : (srt A).length = (srt B).length
  · have hl' : ((srt A).length != (srt B).length) = false := by simp [hl]
    have hlI : (((srt A).length : Int) != ((srt B).length : Int)) = false := by simp [hl]
    have HL := Lib.hid hl
    have hz : (srt A).length ≤ 1000 := by have := HLX.out; omega
    clear HLX HLY hl
    generalize hsa : srt A = X at *
    generalize hsb : srt B = Y at *
    go_wp2_with fail
    go_loopw [19] (fun i v => ∃ k : Nat, k ≤ X.length ∧ i = .int .i64 k ∧ (∀ j, j < k → rAt X j = rAt Y j) ∧ Below w.heap.size w v ∧ RowsAt v px X ∧ RowsAt v py Y) (fun i _ => X.length - (intOf i).toNat)
    case atStart => exact ⟨0, Nat.zero_le _, rfl, fun j hj => by omega, HB2.out, HX2.out, HY2.out⟩
    clear HB2 HX2 HY2
    case round =>
      obtain ⟨k, hk, rfl, heq, hb, hx, hy⟩ := hrel
      have HEQ := Lib.hid heq
      have HB := Lib.hid hb
      have HX := Lib.hid hx
      have HY := Lib.hid hy
      clear heq hb
      by_cases hlt : k < X.length
      · have hlt' : decide ((k : Int) < X.length) = true := decide_eq_true (by omega)
        have hky : k < Y.length := by have := HL.out; omega
        obtain ⟨c, o, q1, c1, rfl, hc, h0, hr1, hs1, -⟩ := hx k hlt
        obtain ⟨c', o', q2, c2, rfl, hc', h0', hr2, hs2, -⟩ := hy k hky
        have HR1 := Lib.hid hr1
        have HR2 := Lib.hid hr2
        have hkI : (k : Int) < (Y.length : Int) := by omega
        clear hr1 hr2 hy hx
        go_wp2_with fail
        go_region_held3 (fun u => u.cell? ⟨c, o + k, none⟩ = some (.slice q1 (rAt X k).length c1) ∧ u.cell? ⟨c', o' + k, none⟩ = some (.slice q2 (rAt Y k).length c2) ∧ c < u.heap.size ∧ c' < u.heap.size ∧ RowAt u q1 (rAt X k) ∧ RowAt u q2 (rAt Y k) ∧ RowsAt u (some ⟨c, o, none⟩) X ∧ RowsAt u (some ⟨c', o', none⟩) Y ∧ Below w.heap.size w u)
          (first
            | exact ⟨h0, h0', hc, hc', HR1.out, HR2.out, HX.out, HY.out, HB.out.drew⟩
            | exact keepBag hbq (by assumption))
          (first
            | (go_at_call 25; refine (rcomparerows_any q1 q2 (rAt X k) (rAt Y k) c1 c2 _ (by omega) (by omega) ?_ ?_).mono ?_; (go_split_ands; assumption); (go_split_ands; assumption); rintro e wq ⟨rfl, hbq⟩))
        rename_i hHeld
        obtain ⟨-, -, -, -, -, -, hx2, hy2, hb2⟩ := hHeld
        clear h0 h0' hc hc' HR1 HR2 HX HY HB hbq
        cases hz2 : (cmpRow (rAt X k) (rAt Y k) != 0)
        · have HZ := Lib.hid ((cmpRow_zero _ _).1 (by simpa using hz2))
          go_wp2
          go_roundw
          case rel => exact ⟨k + 1, by omega, by go_num, fun j hj => by
            by_cases hjk : j = k
            · subst hjk; exact HZ.out
            · exact HEQ.out j (by omega), hb2, hx2, hy2⟩
          case measure => simp [intOf]; omega
        · have HD : Hid (¬ srt A = srt B) := Lib.hid (fun h => by
            rw [hsa, hsb] at h
            rw [h, (cmpRow_zero _ _).2 rfl] at hz2
            cases hz2)
          have HB2 := Lib.hid hb2
          go_wp2
          go_ret
          exact ⟨ret_b (decide_eq_false HD.out).symm, HB2.out⟩
      · have hlt' : decide ((k : Int) < X.length) = false := decide_eq_false (by omega)
        obtain rfl : k = X.length := by omega
        have HD : Hid (srt A = srt B) := Lib.hid (by rw [hsa, hsb]; exact ext_rows HL.out HEQ.out)
        clear hx hy
        go_wp2
        go_ret
        exact ⟨ret_b (decide_eq_true HD.out).symm, HB.out⟩
  · have hlI : (((srt A).length : Int) != ((srt B).length : Int)) = true := bne_iff_ne.2 (by omega)
    have HD : Hid (¬ srt A = srt B) := Lib.hid (fun h => hl (by rw [h]))
    clear HLX HLY hl
    go_wp2
    go_ret
    exact ⟨ret_b (decide_eq_false HD.out).symm, HB2.out⟩
end Go.Proofs.YtlgagibmndbimaaDoor
