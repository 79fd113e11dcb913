/-
  Fits of rows: what it answers; the reference's.
-/
import Derived.Test.YtlgagibmndbimaaDoorBagMem
import Derived.Test.YtlgagibmndbimaaDoorFits
import Derived.Test.YtlgagibmndbimaaDoorColBox
import Derived.Deep.RegionHeld3
namespace Go.Proofs.YtlgagibmndbimaaDoor
open Go.RowKit
variable {ls : List Nat}

def fitE (f : Nat → Col) (l : List Val) (i : Nat) : Int := fitsE (f i).ty (f i).nn (vAt l i).1 (vAt l i).2.1 (vAt l i).2.2
/-- What Fits answers for a row. -/
def fitsRow (f : Nat → Col) (n : Nat) (l : List Val) : Int := if l.length = n then (match (List.range n).find? (fun i => decide (fitE f l i ≠ 0)) with | some i => fitE f l i | none => 0) else 17
theorem fitsRow_len {f : Nat → Col} {n : Nat} {l : List Val} (h : ¬ l.length = n) : fitsRow f n l = 17 := by unfold fitsRow; rw [if_neg h]
theorem fitsRow_hit {f : Nat → Col} {n i : Nat} {l : List Val} (h : l.length = n) (hi : i < n) (he : ¬ fitE f l i = 0) (hj : ∀ j, j < i → fitE f l j = 0) : fitsRow f n l = fitE f l i := by
  unfold fitsRow
  rw [if_pos h]
  have : (List.range n).find? (fun i => decide (fitE f l i ≠ 0)) = some i := List.find?_range_eq_some.2 ⟨decide_eq_true he, List.mem_range.2 hi, fun j hji => by rw [hj j hji]; rfl⟩
  rw [this]
theorem fitsRow_ok {f : Nat → Col} {n : Nat} {l : List Val} (h : l.length = n) (hj : ∀ j, j < n → fitE f l j = 0) : fitsRow f n l = 0 := by
  unfold fitsRow
  rw [if_pos h]
  have : (List.range n).find? (fun i => decide (fitE f l i ≠ 0)) = none := List.find?_range_eq_none.2 fun j hji => by rw [hj j hji]; rfl
  rw [this]
/-- Texts of a row that Go could hold. -/
def ValsSized (l : List Val) : Prop := ∀ i, i < l.length → (vAt l i).2.2.size ≤ 9223372036854775807

theorem keepRF {W u v : World} {X c o : Nat} {a : Col} {b : Val} {k : Nat} {p q : Option Addr} {n : Nat} {f : Nat → Col} {l : List Val} {nm : ByteArray} {R : Nat} {sv : Value} (hb : Below u.heap.size u v)
    (h : u.cell? ⟨X, 0, none⟩ = some (.string a.nm) ∧ u.cell? ⟨X, 1, none⟩ = some (.int .i64 a.ty) ∧ u.cell? ⟨X, 2, none⟩ = some (.bool a.nn) ∧ u.cell? ⟨X, 3, none⟩ = some (.bool a.key) ∧ u.cell? ⟨c, o + k * 3, none⟩ = some (.int .i64 b.1) ∧ u.cell? ⟨c, o + k * 3 + 1, none⟩ = some (.int .i64 b.2.1) ∧ u.cell? ⟨c, o + k * 3 + 2, none⟩ = some (.string b.2.2) ∧ X < u.heap.size ∧ c < u.heap.size ∧ ColsAt u p n f ∧ RowAt u q l ∧ Cell2 u R (.string nm) sv ∧ Below W.heap.size W u) :
    v.cell? ⟨X, 0, none⟩ = some (.string a.nm) ∧ v.cell? ⟨X, 1, none⟩ = some (.int .i64 a.ty) ∧ v.cell? ⟨X, 2, none⟩ = some (.bool a.nn) ∧ v.cell? ⟨X, 3, none⟩ = some (.bool a.key) ∧ v.cell? ⟨c, o + k * 3, none⟩ = some (.int .i64 b.1) ∧ v.cell? ⟨c, o + k * 3 + 1, none⟩ = some (.int .i64 b.2.1) ∧ v.cell? ⟨c, o + k * 3 + 2, none⟩ = some (.string b.2.2) ∧ X < v.heap.size ∧ c < v.heap.size ∧ ColsAt v p n f ∧ RowAt v q l ∧ Cell2 v R (.string nm) sv ∧ Below W.heap.size W v := by
  obtain ⟨h0, h1, h2, h3, h4, h5, h6, hx, hc, hco, hr, h7, hB⟩ := h
  exact ⟨by rw [hb.cell (by exact hx)]; exact h0, by rw [hb.cell (by exact hx)]; exact h1, by rw [hb.cell (by exact hx)]; exact h2, by rw [hb.cell (by exact hx)]; exact h3, by rw [hb.cell (by exact hc)]; exact h4, by rw [hb.cell (by exact hc)]; exact h5, by rw [hb.cell (by exact hc)]; exact h6, Nat.lt_of_lt_of_le hx hb.size, Nat.lt_of_lt_of_le hc hb.size, hco.low hb, hr.low hb, h7.low hb, below_next hB hb⟩

set_option maxRecDepth 100000 in
set_option maxHeartbeats 2000000 in
theorem rrowfits_any (nm : ByteArray) (p : Option Addr) (n cap : Nat) (f : Nat → Col) (q : Option Addr) (l : List Val) (cq : Nat) (w : World) (hn : n ≤ 9223372036854775807) (hC : ColsAt w p n f) (hR : RowAt w q l) (hS : ValsSized l) :
    Calls Tryd.prog 13 #[schV nm p n cap, .slice q l.length cq] w fun e w' => e = .returned (.int .i64 (fitsRow f n l)) ∧ Below w.heap.size w w' := by
  unfold schV
  have HC := Lib.hid (hC.low (below_alloc w (.cells #[.string nm, .slice p n cap] 24)))
  have HR := Lib.hid (hR.low (below_alloc w (.cells #[.string nm, .slice p n cap] 24)))
  have HB := Lib.hid (below_alloc w (.cells #[.string nm, .slice p n cap] 24))
  have HX := Lib.hid (cell2_new w (.string nm) (.slice p n cap) 24)
  have HS := Lib.hid hS
  clear hC hR hS
  by_cases hln : l.length = n
  · have hlI : ((l.length : Int) != (n : Int)) = false := by simp [hln]
    have HLN := Lib.hid hln
    have hle : l.length ≤ n := by omega
    have hge : n ≤ l.length := by omega
    clear hln
    go_enter Tryd.func13, Tryd.ntmps13
    go_wp2_with fail
    go_loopw [17] (fun i v => ∃ k : Nat, k ≤ n ∧ i = .int .i64 k ∧ (∀ j, j < k → fitE f l j = 0) ∧ ColsAt v p n f ∧ RowAt v q l ∧ Cell2 v w.heap.size (.string nm) (.slice p n cap) ∧ Below w.heap.size w v) (fun i _ => n - (intOf i).toNat)
    case atStart => exact ⟨0, Nat.zero_le _, rfl, fun j hj => by omega, HC.out, HR.out, HX.out, HB.out⟩
    clear HC HR HX HB
    case round =>
      obtain ⟨k, hk, rfl, heq, hc0, hr0, hx0, hb0⟩ := hrel
      have HEQ := Lib.hid heq
      have HC := Lib.hid hc0
      have HR := Lib.hid hr0
      have HX := Lib.hid hx0
      have HB := Lib.hid hb0
      clear heq hb0 hx0
      by_cases hlt : k < n
      · have hlt' : decide ((k : Int) < n) = true := decide_eq_true (by omega)
        have hkl : k < l.length := by omega
        have hkI : (k : Int) < (l.length : Int) := by omega
        obtain ⟨c, o, rfl, hc, hsz, c0, c1, c2, c3⟩ := hc0 k hlt
        obtain ⟨c', o', rfl, hc', r0, r1, r2⟩ := hr0 k hkl
        clear hc0 hr0
        go_wp2_with fail
        have hb1 := below_alloc wr (.cells #[.string (f k).nm, .int .i64 (f k).ty, .bool (f k).nn, .bool (f k).key] 55)
        have HC1 := Lib.hid (HC.out.low hb1)
        have HR1 := Lib.hid (HR.out.low hb1)
        have HX1 := Lib.hid (HX.out.low hb1)
        have HB1 := Lib.hid (below_next HB.out hb1)
        obtain ⟨xz, x0, x1, x2, x3⟩ := ColBox.new wr (f k) 55
        have r0' : (wr.alloc (.cells #[.string (f k).nm, .int .i64 (f k).ty, .bool (f k).nn, .bool (f k).key] 55)).cell? ⟨c', o' + k * 3, none⟩ = some (.int .i64 (vAt l k).1) := by rw [hb1.cell (by exact hc')]; exact r0
        have r1' : (wr.alloc (.cells #[.string (f k).nm, .int .i64 (f k).ty, .bool (f k).nn, .bool (f k).key] 55)).cell? ⟨c', o' + k * 3 + 1, none⟩ = some (.int .i64 (vAt l k).2.1) := by rw [hb1.cell (by exact hc')]; exact r1
        have r2' : (wr.alloc (.cells #[.string (f k).nm, .int .i64 (f k).ty, .bool (f k).nn, .bool (f k).key] 55)).cell? ⟨c', o' + k * 3 + 2, none⟩ = some (.string (vAt l k).2.2) := by rw [hb1.cell (by exact hc')]; exact r2
        have hc2' := Nat.lt_of_lt_of_le hc' hb1.size
        clear HC HR HX HB hb1 c0 c1 c2 c3 r0 r1 r2 hc hc'
        generalize wr.alloc _ = W1 at HC1 HR1 HX1 HB1 xz x0 x1 x2 x3 r0' r1' r2' hc2' ⊢
        generalize wr.heap.size = X at xz x0 x1 x2 x3 ⊢
        go_region_held3 (fun u => u.cell? ⟨X, 0, none⟩ = some (.string (f k).nm) ∧ u.cell? ⟨X, 1, none⟩ = some (.int .i64 (f k).ty) ∧ u.cell? ⟨X, 2, none⟩ = some (.bool (f k).nn) ∧ u.cell? ⟨X, 3, none⟩ = some (.bool (f k).key) ∧ u.cell? ⟨c', o' + k * 3, none⟩ = some (.int .i64 (vAt l k).1) ∧ u.cell? ⟨c', o' + k * 3 + 1, none⟩ = some (.int .i64 (vAt l k).2.1) ∧ u.cell? ⟨c', o' + k * 3 + 2, none⟩ = some (.string (vAt l k).2.2) ∧ X < u.heap.size ∧ c' < u.heap.size ∧ ColsAt u (some ⟨c, o, none⟩) n f ∧ RowAt u (some ⟨c', o', none⟩) l ∧ Cell2 u w.heap.size (.string nm) (.slice (some ⟨c, o, none⟩) n cap) ∧ Below w.heap.size w u)
          (first
            | exact ⟨x0, x1, x2, x3, r0', r1', r2', xz, hc2', HC1.out, HR1.out, ⟨HX1.out.lt, HX1.out.c0, HX1.out.c1, HX1.out.fz⟩, HB1.out.drew⟩
            | exact keepRF hbq (by assumption))
          (first
            | (go_at_call 33; refine (rfits_any (f k) _ _ _ _ (HS.out k hkl)).mono ?_; rintro e wq ⟨rfl, hbq⟩))
        rename_i hHeld
        obtain ⟨-, -, -, -, -, -, -, -, -, hc5, hr5, hx5, hb5⟩ := hHeld
        clear xz x0 x1 x2 x3 r0' r1' r2' hc2' HC1 HR1 HX1 HB1 hbq
        cases hz : (fitE f l k != 0)
        · have hz' : (fitsE (f k).ty (f k).nn (vAt l k).1 (vAt l k).2.1 (vAt l k).2.2 != 0) = false := hz
          have HZ : Hid (fitE f l k = 0) := Lib.hid (by simpa using hz)
          go_wp2
          go_roundw
          case rel => exact ⟨k + 1, by omega, by go_num, fun j hj => by
            by_cases hjk : j = k
            · subst hjk; exact HZ.out
            · exact HEQ.out j (by omega), hc5, hr5, hx5, hb5⟩
          case measure => simp [intOf]; omega
        · have hz' : (fitsE (f k).ty (f k).nn (vAt l k).1 (vAt l k).2.1 (vAt l k).2.2 != 0) = true := hz
          have HZ : Hid (¬ fitE f l k = 0) := Lib.hid (bne_iff_ne.1 hz)
          have HB5 := Lib.hid hb5
          go_wp2
          go_ret
          exact ⟨ret_int (fitsRow_hit HLN.out hlt HZ.out HEQ.out).symm, HB5.out⟩
      · have hlt' : decide ((k : Int) < n) = false := decide_eq_false (by omega)
        obtain rfl : k = n := by omega
        clear hc0 hr0
        go_wp2
        go_ret
        exact ⟨ret_int (fitsRow_ok HLN.out HEQ.out).symm, HB.out⟩
  · have hlI : ((l.length : Int) != (n : Int)) = true := bne_iff_ne.2 (by omega)
    have HLN := Lib.hid hln
    clear hln
    go_enter Tryd.func13, Tryd.ntmps13
    go_wp2
    go_ret
    exact ⟨ret_int (fitsRow_len HLN.out).symm, HB.out⟩
end Go.Proofs.YtlgagibmndbimaaDoor
