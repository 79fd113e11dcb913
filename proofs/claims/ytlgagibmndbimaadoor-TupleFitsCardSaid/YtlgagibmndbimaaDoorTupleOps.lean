/-
  The small functions of package tuple, SameBag and Count.
-/
import Derived.Test.YtlgagibmndbimaaDoorOrdered
namespace Go.Proofs.YtlgagibmndbimaaDoor
open Go.RowKit
variable {ls : List Nat}

set_option maxHeartbeats 1000000 in
theorem copyrow_any (t : List Val) (q : Option Addr) (cp : Nat) (w : World) (hr : RowAt w q t) (hz : t.length * 32 ≤ 140737488355328) (hn : q = none → t = [] ∧ cp = 0) :
    Calls Tryd.prog 40 #[.slice q t.length cp] w (CopyPost t w) := by
  have hown0 : w.ownsRow w.heap.size 34 3 (.slice none 0 0) 0 (vcells []) := ⟨rfl, Or.inl ⟨rfl, rfl⟩⟩
  have HO := Lib.hid hown0
  have HR := Lib.hid hr
  clear hown0 hr
  go_enter Tryd.func40, Tryd.ntmps40
  go_wp2_with (at_builtin; refine wpList_append_vals rfl _ (.tmp 3) rfl w.heap.size _ 0 [] rfl HO.out q t cp rfl HR.out hn (by omega) (Nat.le_refl _) ?_; intro v2 w2 hown2 hgr2)
  go_ret
  rw [Nat.zero_add, List.nil_append] at hown2
  exact ⟨_, rfl, ⟨hown2, hz⟩, grown_below (Below.refl _ _) (Nat.le_refl _) hgr2 (fun k hk => by cases hk)⟩
set_option maxHeartbeats 1000000 in
theorem samerow_any (p q : Option Addr) (a b : List Val) (ca cb : Nat) (w : World) (hla : a.length ≤ 9223372036854775807) (hlb : b.length ≤ 9223372036854775807) (ha : RowAt w p a) (hb : RowAt w q b) :
    Calls Tryd.prog 37 #[.slice p a.length ca, .slice q b.length cb] w fun e w' => e = .returned (.bool (cmpRow a b == 0)) ∧ Below w.heap.size w w' := by
  go_enter Tryd.func37, Tryd.ntmps37
  go_wp2_with fail
  refine (comparerows_any p q a b ca cb _ hla hlb ha hb).mono ?_
  rintro e w2 ⟨rfl, hb2⟩
  have HB := Lib.hid hb2
  clear hb2
  go_wp2
  go_ret
  exact ⟨rfl, HB.out⟩
theorem same_row {a b : List Val} : (cmpRow a b == 0) = decide (a = b) := by
  by_cases h : a = b
  · rw [decide_eq_true h, (cmpRow_zero a b).2 h]; rfl
  · rw [decide_eq_false h, beq_eq_false_iff_ne]
    exact fun h2 => h ((cmpRow_zero a b).1 h2)
set_option maxHeartbeats 1000000 in
theorem equalfunc_any (A B : List (List Val)) (p q : Option Addr) (ca cb : Nat) (w : World) (hA : A.length ≤ 1000) (hp : RowsAt w p A) (hq : RowsAt w q B) :
    Calls Tryd.prog 35 #[.slice p A.length ca, .slice q B.length cb, .func (.func 37) #[] #[]] w fun e w' => e = .returned (.bool (decide (A = B))) ∧ Below w.heap.size w w' := by
  have HP := Lib.hid hp
  have HQ := Lib.hid hq
  clear hp hq
  by_cases hl : A.length = B.length
  · have hlI : ((A.length : Int) != (B.length : Int)) = false := by simp [hl]
    have HL := Lib.hid hl
    clear hl
    go_enter Tryd.func35, Tryd.ntmps35
    go_wp2_with fail
    go_loopw [17] (fun i v => ∃ k : Nat, k ≤ A.length ∧ i = .int .i64 k ∧ (∀ j, j < k → rAt A j = rAt B j) ∧ Below w.heap.size w v) (fun i _ => A.length - (intOf i).toNat)
    case atStart => exact ⟨0, Nat.zero_le _, rfl, fun j hj => by omega, Below.refl _ _⟩
    case round =>
      obtain ⟨k, hk, rfl, heq, hb⟩ := hrel
      have HEQ := Lib.hid heq
      have HB := Lib.hid hb
      clear heq hb
      by_cases hlt : k < A.length
      · have hlt' : decide ((k : Int) < A.length) = true := decide_eq_true (by omega)
        have hky : k < B.length := by have := HL.out; omega
        have hkI : (k : Int) < (B.length : Int) := by omega
        obtain ⟨c, o, q1, c1, rfl, hc, h0, hr1, hs1, -⟩ := HP.out.low HB.out k hlt
        obtain ⟨c', o', q2, c2, rfl, hc', h0', hr2, hs2, -⟩ := HQ.out.low HB.out k hky
        have HR1 := Lib.hid hr1
        have HR2 := Lib.hid hr2
        clear hr1 hr2
        go_wp2_with fail
        refine (samerow_any q1 q2 (rAt A k) (rAt B k) c1 c2 _ (by omega) (by omega) HR1.out HR2.out).mono ?_
        rintro e v1 ⟨rfl, hb1⟩
        have HB1 := Lib.hid (below_next HB.out hb1)
        clear HB hb1 h0 h0' hc hc' HR1 HR2
        cases hz : (cmpRow (rAt A k) (rAt B k) == 0)
        · have HD : Hid (¬ A = B) := Lib.hid (fun h => by
            rw [h, (cmpRow_zero _ _).2 rfl] at hz
            cases hz)
          go_wp2
          go_ret
          exact ⟨ret_b (decide_eq_false HD.out).symm, HB1.out⟩
        · have HZ := Lib.hid ((cmpRow_zero _ _).1 (beq_iff_eq.1 hz))
          go_wp2
          go_roundw
          case rel => exact ⟨k + 1, by omega, by go_num, fun j hj => by
            by_cases hjk : j = k
            · subst hjk; exact HZ.out
            · exact HEQ.out j (by omega), HB1.out⟩
          case measure => simp [intOf]; omega
      · have hlt' : decide ((k : Int) < A.length) = false := decide_eq_false (by omega)
        obtain rfl : k = A.length := by omega
        have HD : Hid (A = B) := Lib.hid (ext_rows HL.out HEQ.out)
        go_wp2
        go_ret
        exact ⟨ret_b (decide_eq_true HD.out).symm, HB.out⟩
  · have hlI : ((A.length : Int) != (B.length : Int)) = true := bne_iff_ne.2 (by omega)
    have HD : Hid (¬ A = B) := Lib.hid (fun h => hl (by rw [h]))
    clear hl
    go_enter Tryd.func35, Tryd.ntmps35
    go_wp2
    go_ret
    exact ⟨ret_b (decide_eq_false HD.out).symm, Below.refl _ _⟩
theorem OrdAt.rows {w w' : World} {v : Value} {S : List (List Val)} (h : OrdAt w w' v S) : ∃ p c, v = .slice p S.length c ∧ RowsAt w' p S ∧ S.length ≤ c := by
  obtain ⟨xs, ho, hH⟩ := h.row
  refine ⟨_, _, (own_src ho).1, rows_of_heads ho (hH.low h.low), ?_⟩
  rcases ho.2 with ⟨rfl, h0⟩ | ⟨g, cap, cur, rfl, -, -, hc, -⟩
  · rw [h0]; exact Nat.zero_le _
  · exact hc
set_option maxHeartbeats 1000000 in
theorem samebag_any (A B : List (List Val)) (p q : Option Addr) (ca cb : Nat) (w : World) (hA : A.length ≤ 1000) (hB : B.length ≤ 1000) (hp : RowsAt w p A) (hq : RowsAt w q B) :
    Calls Tryd.prog 16 #[.slice p A.length ca, .slice q B.length cb] w fun e w' => e = .returned (.bool (decide (srt A = srt B))) ∧ Below w.heap.size w w' := by
  have HP := Lib.hid hp
  have HQ := Lib.hid hq
  clear hp hq
  go_enter Tryd.func16, Tryd.ntmps16
  go_wp2_with fail
  refine (ordered_any A p ca _ hA HP.out).mono ?_
  rintro e w1 ⟨vx, rfl, hox⟩
  obtain ⟨px, cx, rfl, hx, -⟩ := hox.rows
  have HX := Lib.hid hx
  have HB1 := Lib.hid hox.low
  clear hx hox
  go_wp2_with fail
  refine (ordered_any B q cb _ hB (HQ.out.low HB1.out)).mono ?_
  rintro e w2 ⟨vy, rfl, hoy⟩
  obtain ⟨py, cy, rfl, hy, -⟩ := hoy.rows
  have HY := Lib.hid hy
  have HX2 := Lib.hid (HX.out.low hoy.low)
  have HB2 := Lib.hid (below_next HB1.out hoy.low)
  clear hy hoy HX HB1
  go_wp2_with fail
  refine (equalfunc_any (srt A) (srt B) px py cx cy _ (by rw [srt_length]; exact hA) HX2.out HY.out).mono ?_
  rintro e w3 ⟨rfl, hb3⟩
  have HB3 := Lib.hid (below_next HB2.out hb3)
  clear hb3
  go_wp2
  go_ret
  exact ⟨rfl, HB3.out⟩
theorem count_next {L : List (List Val)} {t : List Val} {k : Nat} (h : k < L.length) : (L.take (k + 1)).count t = (L.take k).count t + if cmpRow (rAt L k) t = 0 then 1 else 0 := by
  rw [take_row h, List.count_append, List.count_singleton]
  congr 1
  by_cases he : rAt L k = t
  · rw [if_pos ((cmpRow_zero _ _).2 he), he, beq_self_eq_true]; rfl
  · rw [if_neg (fun hc => he ((cmpRow_zero _ _).1 hc)), beq_eq_false_iff_ne.2 he]; rfl
set_option maxHeartbeats 1000000 in
theorem count_any (L : List (List Val)) (p : Option Addr) (cap : Nat) (t : List Val) (q : Option Addr) (cp : Nat) (w : World) (hL : L.length ≤ 1000) (ht : t.length * 32 ≤ 140737488355328) (hp : RowsAt w p L) (hq : RowAt w q t) :
    Calls Tryd.prog 21 #[.slice p L.length cap, .slice q t.length cp] w fun e w' => e = .returned (.int .i64 (L.count t : Nat)) ∧ Below w.heap.size w w' := by
  have HP := Lib.hid hp
  have HQ := Lib.hid hq
  clear hp hq
  go_enter Tryd.func21, Tryd.ntmps21
  go_wp2_with fail
  go_loopw [5, 10] (fun n i v => ∃ k : Nat, k ≤ L.length ∧ i = .int .i64 k ∧ n = .int .i64 ((L.take k).count t : Nat) ∧ Below w.heap.size w v) (fun _ i _ => L.length - (intOf i).toNat)
  case atStart => exact ⟨0, Nat.zero_le _, rfl, rfl, Below.refl _ _⟩
  case round =>
    obtain ⟨k, hk, rfl, rfl, hb⟩ := hrel
    have HB := Lib.hid hb
    clear hb
    by_cases hlt : k < L.length
    · have hlt' : decide ((k : Int) < L.length) = true := decide_eq_true (by omega)
      obtain ⟨c, o, q', cp', rfl, hc, h0, hr, hs, -⟩ := HP.out.low HB.out k hlt
      have HR := Lib.hid hr
      have hcl : (L.take k).count t ≤ k := Nat.le_trans (List.count_le_length) (by rw [List.length_take]; omega)
      have HCT := Lib.hid (count_next (t := t) hlt)
      clear hr
      go_wp2_with fail
      refine (samerow_any q' q (rAt L k) t cp' cp _ (by omega) (by omega) HR.out (HQ.out.low HB.out)).mono ?_
      rintro e v1 ⟨rfl, hb1⟩
      have HB1 := Lib.hid (below_next HB.out hb1)
      clear HB hb1 h0 hc
      cases hz : (cmpRow (rAt L k) t == 0)
      · have HZ := Lib.hid (beq_eq_false_iff_ne.1 hz)
        go_wp2
        go_roundw
        case rel => exact ⟨k + 1, by omega, by go_num, by rw [HCT.out, if_neg HZ.out]; rfl, HB1.out⟩
        case measure => simp [intOf]; omega
      · have HZ := Lib.hid (beq_iff_eq.1 hz)
        go_wp2
        go_roundw
        case rel => exact ⟨k + 1, by omega, by go_num, by rw [HCT.out, if_pos HZ.out]; go_num, HB1.out⟩
        case measure => simp [intOf]; omega
    · have hlt' : decide ((k : Int) < L.length) = false := decide_eq_false (by omega)
      obtain rfl : k = L.length := by omega
      go_wp2
      go_ret
      exact ⟨ret_int (by rw [List.take_length]), HB.out⟩
end Go.Proofs.YtlgagibmndbimaaDoor
