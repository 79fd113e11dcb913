/-
  THE STATEMENT ValueFormats, as a walk.
-/
import Derived.Test.YtlknbdefaobamaaDoorFmtInj
import Derived.Test.YtlknbdefaobamaaDoorKnown
import Derived.Test.YtlknbdefaobamaaDoorEql
namespace Go.Proofs.YtlknbdefaobamaaDoor
open Go.RowKit

theorem StepT.toBelow {b : Nat} {u v : World} (h : StepT b u v) {B : Nat} (hB : B ≤ b) (hz : B ≤ u.heap.size) : Below B u v := h.below hB hz

theorem valid_yes (k n : Int) (s : ByteArray) (w : World) (h : IsVal k n s) :
    Calls Tryd.prog 11 #[.agg #[.int .i64 k, .int .i64 n, .string s]] w fun e w' => e = .returned (.bool true) ∧ Below w.heap.size w w' := by
  have := valid_any k n s w (by have := h.size; omega)
  rw [h.valid] at this; exact this
theorem format_val (k n : Int) (s : ByteArray) (w : World) (h : IsVal k n s) (hE : Env w) :
    Calls Tryd.prog 13 #[.agg #[.int .i64 k, .int .i64 n, .string s]] w fun e w' => e = .returned (.string (fmtB k n s)) ∧ Below w.heap.size w w' :=
  format_any k n s w hE (by have := h.size; omega) h.range.1 h.range.2

theorem toList_inj {a b : ByteArray} (h : a.toList = b.toList) : a = b := WideShapes.bytes_inj (by rw [ByteArray.toList_eq, ByteArray.toList_eq] at h; exact h)
theorem fmt_same {k n : Int} {s : ByteArray} {k' n' : Int} {s' : ByteArray} (h : IsVal k n s) (h' : IsVal k' n' s') :
    (((fmtB k n s).toList == (fmtB k' n' s').toList) == sameV k n s k' n' s') = true := by
  rw [beq_iff_eq, Bool.eq_iff_iff, sameV_iff, beq_iff_eq]
  constructor
  · intro he; exact fmt_inj h h' (toList_inj he)
  · rintro ⟨rfl, rfl, rfl⟩; rfl
theorem fmt_no_mark {k n : Int} {s : ByteArray} (h : IsVal k n s) : ((fmtB k n s).toList == [63]) = false := by
  rw [beq_eq_false_iff_ne]
  intro he
  exact fmt_mark h (toList_inj (he.trans (by rw [ByteArray.toList_eq])))

set_option maxRecDepth 100000 in
set_option maxHeartbeats 4000000 in
theorem formats_walk (w : World) (p : Option Addr) (len cap : Nat) (hl : len ≤ cap) (hm : len ≤ 9223372036854775807) (h : IntsAt w p len) (hE : Env w) :
    Calls Tryd.prog 6 #[.slice p len cap] w fun e w' => e = .returned (.bool true) ∧ Below w.heap.size w w' := by
  have HI := Lib.hid h
  clear h
  go_enter Tryd.func6, Tryd.ntmps6
  go_wp2_with fail
  refine (new_any w p len cap hl hm HI.out).mono ?_
  rintro e w1 ⟨b, rfl, hb0, ht, hb1⟩
  have hE1 := hE.low hb1
  have hz8 := hE.size
  have hbw : b ≠ 1 := by omega
  go_wp2_with fail
  refine (value_any b _ hbw ht hE1.words).mono ?_
  rintro e w2 ⟨k, n, s, rfl, hv, -, ht2, hs2⟩
  have hE2 := hE1.step hs2 (by omega)
  go_wp2_with fail
  refine (value_any b _ hbw ht2 hE2.words).mono ?_
  rintro e w3 ⟨k', n', s', rfl, hv', -, ht3, hs3⟩
  have hE3 := hE2.step hs3 (by omega)
  have hB3 : Below w.heap.size w w3 := (hb1.trans (hs2.below hb0 hb1.size)).trans (hs3.below hb0 (Nat.le_trans hb1.size hs2.size))
  clear hE1 hE2 hs2 hs3 ht ht2 ht3 hb1 HI hE hbw hb0
  have hz3 := hB3.size
  obtain ⟨W, hW, hb, hz, c0, c1, c2, d0, d1, d2⟩ := two_boxes w3 (.int .i64 k) (.int .i64 n) (.string s) (.int .i64 k') (.int .i64 n') (.string s') 23
  have HW := Lib.hid hW
  clear hW
  go_wp2_with fail
  rw [← HW.out]
  clear HW
  have hE' := hE3.below hb (by omega)
  have hb' := hB3.trans (hb.mono hz3)
  have hzW : w.heap.size ≤ W.heap.size := hb'.size
  have hq := eql_val k n s k' n' s'
  have hsame := fmt_same hv hv'
  have hmark := fmt_no_mark hv
  have HV := Lib.hid hv
  have HV' := Lib.hid hv'
  clear hv hv' hb hE3 hB3
  go_region_held3 (fun u => u.cell? ⟨w3.heap.size, 0, none⟩ = some (.int .i64 k) ∧ u.cell? ⟨w3.heap.size, 1, none⟩ = some (.int .i64 n) ∧ u.cell? ⟨w3.heap.size, 2, none⟩ = some (.string s) ∧ u.cell? ⟨w3.heap.size + 1, 0, none⟩ = some (.int .i64 k') ∧ u.cell? ⟨w3.heap.size + 1, 1, none⟩ = some (.int .i64 n') ∧ u.cell? ⟨w3.heap.size + 1, 2, none⟩ = some (.string s') ∧ w3.heap.size < u.heap.size ∧ w3.heap.size + 1 < u.heap.size ∧ Env u ∧ Below w.heap.size w u ∧ w.heap.size ≤ u.heap.size)
    (first
      | exact ⟨c0, c1, c2, d0, d1, d2, by show _ < W.heap.size; omega, by show _ < W.heap.size; omega, hE'.drew, hb'.drew, hzW⟩
      | exact keep6 hbq (by assumption))
    (first
      | (go_at_call 11; refine (valid_yes _ _ _ _ (by first | exact HV.out | exact HV'.out)).mono ?_; rintro e wq ⟨rfl, hbq⟩)
      | (go_at_call 13; refine (format_val _ _ _ _ (by first | exact HV.out | exact HV'.out) ?_).mono ?_; (go_split_ands; assumption); rintro e wq ⟨rfl, hbq⟩)
      | (go_at_call 21; refine (known_any _ ?_).mono ?_; (go_split_ands; assumption); rintro e wq ⟨rfl, hbq⟩))
  rename_i hHeld
  obtain ⟨-, -, -, -, -, -, -, -, -, hBw, -⟩ := hHeld
  clear c0 c1 c2 d0 d1 d2
  go_wp2
  go_ret
  exact ⟨rfl, hBw⟩
end Go.Proofs.YtlknbdefaobamaaDoor
