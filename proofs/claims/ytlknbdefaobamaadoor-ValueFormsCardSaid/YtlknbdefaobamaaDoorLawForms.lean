/-
  THE STATEMENT ValueForms, as a walk.
-/
import Derived.Test.YtlknbdefaobamaaDoorLists
import Derived.Test.YtlknbdefaobamaaDoorRwords
import Derived.Test.YtlknbdefaobamaaDoorEql
namespace Go.Proofs.YtlknbdefaobamaaDoor
open Go.RowKit

/-- A value whose number is an int64 and whose text is a text of Go. -/
def Fair (v : Int × Int × ByteArray) : Prop := -9223372036854775808 ≤ v.2.1 ∧ v.2.1 ≤ 9223372036854775807 ∧ v.2.2.size ≤ 9223372036854775807

theorem fair_mk {k n : Int} {s : ByteArray} (h1 : -9223372036854775808 ≤ n) (h2 : n ≤ 9223372036854775807) (h3 : s.size ≤ 9223372036854775807) : Fair (k, n, s) := ⟨h1, h2, h3⟩

theorem list6 {W wq : World} {t : TypeId} {a0 b0 a1 b1 a2 b2 a3 b3 a4 b4 a5 b5 : Int} {c0 c1 c2 c3 c4 c5 : ByteArray}
    (h : wq.alloc (.cells #[.int .i64 a0, .int .i64 b0, .string c0, .int .i64 a1, .int .i64 b1, .string c1, .int .i64 a2, .int .i64 b2, .string c2, .int .i64 a3, .int .i64 b3, .string c3, .int .i64 a4, .int .i64 b4, .string c4, .int .i64 a5, .int .i64 b5, .string c5] t) = W)
    (f0 : Fair (a0, b0, c0)) (f1 : Fair (a1, b1, c1)) (f2 : Fair (a2, b2, c2)) (f3 : Fair (a3, b3, c3)) (f4 : Fair (a4, b4, c4)) (f5 : Fair (a5, b5, c5)) :
    ∃ V, ListAt W wq.heap.size 6 V ∧ ∀ i, Fair (V i) := by
  subst h
  refine ⟨fun i => match i with | 0 => (a0, b0, c0) | 1 => (a1, b1, c1) | 2 => (a2, b2, c2) | 3 => (a3, b3, c3) | 4 => (a4, b4, c4) | _ => (a5, b5, c5), ⟨by simp, fun i hi => ?_⟩, fun i => ?_⟩
  · have hi' : i = 0 ∨ i = 1 ∨ i = 2 ∨ i = 3 ∨ i = 4 ∨ i = 5 := by omega
    rcases hi' with rfl | rfl | rfl | rfl | rfl | rfl
    all_goals
      refine ⟨?_, ?_, ?_⟩
      all_goals go_simp
  · match i with
    | 0 => exact f0
    | 1 => exact f1
    | 2 => exact f2
    | 3 => exact f3
    | 4 => exact f4
    | _ + 5 => exact f5

set_option maxRecDepth 100000 in
set_option maxHeartbeats 4000000 in
theorem forms_walk (w : World) (p : Option Addr) (len cap : Nat) (hl : len ≤ cap) (hm : len ≤ 9223372036854775807) (h : IntsAt w p len) (hE : Env w) (k0 n0 : Int) (s0 : ByteArray) (hn0 : -9223372036854775808 ≤ n0) (hn0' : n0 ≤ 9223372036854775807) (hs0 : s0.size ≤ 9223372036854775807)
    (m : Int) (hm0 : -9223372036854775808 ≤ m) (hm0' : m ≤ 9223372036854775807) (t : ByteArray) (ht0 : t.size ≤ 9223372036854775807) :
    Calls Tryd.prog 3 #[.agg #[.int .i64 k0, .int .i64 n0, .string s0], .int .i64 m, .string t, .slice p len cap] w fun e w' => e = .returned (.bool true) ∧ Below w.heap.size w w' := by
  have HI := Lib.hid h
  clear h
  have hz8 := hE.size
  have hI' : IntsAt (w.alloc (.cells #[.int .i64 k0, .int .i64 n0, .string s0] 23)) p len := fun i hi => by
    obtain ⟨c, o, z, hp, hc, hz, hz1⟩ := HI.out i hi
    exact ⟨c, o, z, hp, by simp; omega, by rw [World.cell?_of_block (w := w) (Below.heap_alloc _ _ _ hc)]; exact hz, hz1⟩
  have HI' := Lib.hid hI'
  clear hI' HI
  have hmod := tmod_range m 3 (by omega)
  go_enter Tryd.func3, Tryd.ntmps3
  go_wp2_with fail
  refine (new_any _ p len cap hl hm HI'.out).mono ?_
  rintro e w1 ⟨b, rfl, hb0, ht, hb1⟩
  have hb0' : w.heap.size < b := Nat.lt_of_lt_of_le (Nat.lt_succ_self _) (by simpa using hb0)
  have h8b : 8 ≤ b := by omega
  obtain ⟨a0, a1, a2, -, -, -, hz1⟩ := box3 hb1
  have hE1 : Env w1 := hE.low (Below.of_alloc hb1)
  have hB1 : Below w.heap.size w w1 := Below.of_alloc hb1
  have hbw : b ≠ 1 := by omega
  clear HI' hb1 hb0 hE
  go_wp2_with fail
  have HT := Lib.hid ht
  clear ht
  go_region_held3 (fun u => u.cell? ⟨w.heap.size, 0, none⟩ = some (.int .i64 k0) ∧ u.cell? ⟨w.heap.size, 1, none⟩ = some (.int .i64 n0) ∧ u.cell? ⟨w.heap.size, 2, none⟩ = some (.string s0) ∧ TapeAt u b ∧ Env u ∧ Below w.heap.size w u ∧ w.heap.size < u.heap.size)
    (first
      | exact ⟨a0, a1, a2, HT.out, hE1.drew, hB1.drew, hz1⟩
      | exact keepS hsq htq h8b hb0' (Nat.le_of_lt hb0') (by assumption)
      | exact keepA h8b hb0' (Nat.le_of_lt hb0') (by assumption))
    (first
      | (go_at_call 9; refine (value_any b _ hbw ?_ ?_).mono ?_; (go_split_ands; assumption); (go_split_ands; exact Env.words (by assumption)); rintro e wq ⟨k, n, s, rfl, hv, -, htq, hsq⟩)
      | (go_at_call 10; refine (odd_any b _ hbw ?_ ?_).mono ?_; (go_split_ands; assumption); (go_split_ands; exact Env.words (by assumption)); rintro e wo ⟨ko, no, so, rfl, ho, htq, hsq⟩))
  rename_i hHeld
  obtain ⟨-, -, -, -, hE2, hB2, -⟩ := hHeld
  clear a0 a1 a2 hE1 hB1 HT hbw h8b hb0' hz1 hsq htq
  have fv : Fair (k, n, s) := ⟨hv.odd.2.2.1, hv.odd.2.2.2.1, by have := hv.short; show s.size ≤ _; omega⟩
  have fo : Fair (ko, no, so) := ⟨ho.2.2.1, ho.2.2.2.1, by have := ho.2.2.2.2; show so.size ≤ _; omega⟩
  clear hv ho
  generalize hW : wo.alloc _ = W5 at hE2 hB2 ⊢
  obtain ⟨V, hV, hF⟩ := list6 hW (fair_mk hn0 hn0' hs0) fv fo (fair_mk (by decide) (by decide) ht0) (fair_mk (by omega) (by omega) (by decide)) (fair_mk hm0 hm0' (by decide))
  clear hW fv fo
  generalize wo.heap.size = L at hV ⊢
  have HF := Lib.hid hF
  clear hF hmod
  go_wp2
  go_loopw [11, 32] (fun _ i wr => ∃ c : Nat, c ≤ 6 ∧ i = .int .i64 c ∧ Env wr ∧ ListAt wr L 6 V ∧ Below w.heap.size w wr) (fun _ i _ => 6 - (intOf i).toNat)
  case atStart => exact ⟨0, by omega, rfl, hE2, hV, hB2⟩
  case round =>
    clear hE2 hB2 hV
    obtain ⟨c, hc, rfl, hE, hV, hB⟩ := hrel
    by_cases hlt : c < 6
    · have hz := hB.size
      have hVz := hV.1
      obtain ⟨v0, v1, v2⟩ := hV.2 c hlt
      go_wp2_with fail
      have hb1 := low_alloc wr (.cells #[.int .i64 (V c).1, .int .i64 (V c).2.1, .string (V c).2.2] 23)
      have hE1 := hE.alloc (.cells #[.int .i64 (V c).1, .int .i64 (V c).2.1, .string (V c).2.2] 23)
      have hV1 := hV.low hb1
      have hX1 := BoxAt.new wr (V c) 23
      have hB1 := Below.next hB hb1
      clear hE hV hB v0 v1 v2 hb1 hz hVz
      generalize wr.alloc _ = Wx at hE1 hV1 hX1 hB1 ⊢
      generalize wr.heap.size = X at hX1 ⊢
      obtain ⟨hxz, x0, x1, x2⟩ := hX1
      have hzx : w.heap.size ≤ Wx.heap.size := hB1.size
      go_region_held3 (fun u => u.cell? ⟨X, 0, none⟩ = some (.int .i64 (V c).1) ∧ u.cell? ⟨X, 1, none⟩ = some (.int .i64 (V c).2.1) ∧ u.cell? ⟨X, 2, none⟩ = some (.string (V c).2.2) ∧ X < u.heap.size ∧ Env u ∧ ListAt u L 6 V ∧ Below w.heap.size w u ∧ w.heap.size ≤ u.heap.size)
        (first
          | exact ⟨x0, x1, x2, hxz, hE1.drew, hV1, hB1.drew, hzx⟩
          | exact keepX hbq (by assumption))
        (first
          | (go_at_call 11; refine (valid_any _ _ _ _ (HF.out c).2.2).mono ?_; rintro e wq ⟨rfl, hbq⟩)
          | (go_at_call 12; refine (rvalid_any _ _ _ _ (HF.out c).2.2).mono ?_; rintro e wq ⟨rfl, hbq⟩)
          | (go_at_call 13; refine (format_any _ _ _ _ ?_ (HF.out c).2.2 (HF.out c).1 (HF.out c).2.1).mono ?_; (go_split_ands; assumption); rintro e wq ⟨rfl, hbq⟩)
          | (go_at_call 14; refine (rformat_any _ _ _ _ ?_ (HF.out c).2.2 (HF.out c).1 (HF.out c).2.1).mono ?_; (go_split_ands; assumption); rintro e wq ⟨rfl, hbq⟩))
      rename_i hHeld
      clear x0 x1 x2 hE1 hV1 hB1 hxz hzx
      obtain ⟨-, -, -, -, hE, hV, hB, -⟩ := hHeld
      clear hbq
      go_wp2
      go_roundw
      case rel => exact ⟨c + 1, by omega, by go_num, hE, hV, hB⟩
      case measure => simp [intOf]; omega
    · clear hV
      go_wp2_with fail
      refine (words_any t _ ht0).mono ?_
      rintro e wa ⟨rfl, hba⟩
      have hEa := hE.low hba
      have hBa := Below.next hB hba
      clear hE hB hba
      go_wp2_with fail
      refine (rwords_any t _ ht0).mono ?_
      rintro e wb ⟨rfl, hbb⟩
      obtain ⟨c0, c1, c2, -, -, -, hzb⟩ := box3 hbb
      have hEb := hEa.low (Below.of_alloc hbb)
      have hBb := Below.next hBa (Below.of_alloc hbb)
      have hEb' := hEb.alloc (.cells #[.int .i64 (wordsN t), .int .i64 0, .string (wordsS t)] 23)
      have hBb' := Below.next hBb (low_alloc wb (.cells #[.int .i64 (wordsN t), .int .i64 0, .string (wordsS t)] 23))
      clear hEa hBa hbb hEb hBb
      go_wp2_with fail
      refine (num_any m _).mono ?_
      rintro e wc ⟨rfl, hbc⟩
      clear c0 c1 c2 hzb
      go_wp2_with fail
      refine (rnum_any m _).mono ?_
      rintro e wd ⟨rfl, hbd⟩
      go_wp2_with fail
      refine (truth_any true _).mono ?_
      rintro e we ⟨rfl, hbe⟩
      go_wp2_with fail
      refine (rtruth_any true _).mono ?_
      rintro e wf ⟨rfl, hbf⟩
      go_wp2_with fail
      refine (truth_any false _).mono ?_
      rintro e wg ⟨rfl, hbg⟩
      go_wp2_with fail
      refine (rtruth_any false _).mono ?_
      rintro e wh ⟨rfl, hbh⟩
      have hEh := (((((hEb'.low hbc).low hbd).low hbe).low hbf).low hbg).low hbh
      have hBh := Below.next (Below.next (Below.next (Below.next (Below.next (Below.next hBb' hbc) hbd) hbe) hbf) hbg) hbh
      clear hEb' hBb' hbc hbd hbe hbf hbg hbh
      go_wp2_with fail
      refine (known_any _ hEh).mono ?_
      rintro e wi ⟨rfl, hbi⟩
      go_wp2
      go_ret
      exact ⟨rfl, Below.next hBh hbi⟩
end Go.Proofs.YtlknbdefaobamaaDoor
