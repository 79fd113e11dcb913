/-
  CompareRows, of the program and of the reference.
-/
import Derived.Test.YtlgagibmndbimaaDoorLists
import Derived.Test.YtlgagibmndbimaaDoorOrder
import Derived.Test.YtlgagibmndbimaaDoorCompare
import Derived.Deep.RegionHeld3
namespace Go.Proofs.YtlgagibmndbimaaDoor
open Go.RowKit

abbrev Val := Int × Int × ByteArray
def nilVal : Val := (0, 0, ⟨#[]⟩)
/-- The i-th of a list of values. -/
def vAt (l : List Val) (i : Nat) : Val := l.getD i nilVal
def cmpVal (x y : Val) : Int := cmpV x.1 x.2.1 x.2.2 y.1 y.2.1 y.2.2
/-- The order of rows. -/
def cmpRow : List Val → List Val → Int
  | [], [] => 0
  | [], _ :: _ => -1
  | _ :: _, [] => 1
  | x :: a, y :: b => if cmpVal x y = 0 then cmpRow a b else cmpVal x y

/-- A slice that reads as these values. -/
def RowAt (u : World) (p : Option Addr) (l : List Val) : Prop :=
  ∀ i, i < l.length → ∃ c o : Nat, p = some ⟨c, o, none⟩ ∧ c < u.heap.size ∧ u.cell? ⟨c, o + i * 3, none⟩ = some (.int .i64 (vAt l i).1) ∧ u.cell? ⟨c, o + i * 3 + 1, none⟩ = some (.int .i64 (vAt l i).2.1) ∧ u.cell? ⟨c, o + i * 3 + 2, none⟩ = some (.string (vAt l i).2.2)
theorem RowAt.low {u v : World} {p : Option Addr} {l : List Val} (h : RowAt u p l) (hb : Below u.heap.size u v) : RowAt v p l := fun i hi => by
  obtain ⟨c, o, hp, hc, h0, h1, h2⟩ := h i hi
  exact ⟨c, o, hp, Nat.lt_of_lt_of_le hc hb.size, by rw [hb.cell (by exact hc)]; exact h0, by rw [hb.cell (by exact hc)]; exact h1, by rw [hb.cell (by exact hc)]; exact h2⟩

theorem drop_cons {l : List Val} {i : Nat} (h : i < l.length) : l.drop i = vAt l i :: l.drop (i + 1) := by
  rw [List.drop_eq_getElem_cons h, vAt, List.getD, List.getElem?_eq_getElem h]; rfl
theorem cmpRow_step {a b : List Val} {i : Nat} (h : i < a.length) (h' : i < b.length) (hz : cmpVal (vAt a i) (vAt b i) = 0) : cmpRow (a.drop (i + 1)) (b.drop (i + 1)) = cmpRow (a.drop i) (b.drop i) := by
  rw [drop_cons h, drop_cons h', cmpRow, if_pos hz]
theorem cmpRow_stop {a b : List Val} {i : Nat} (h : i < a.length) (h' : i < b.length) (hz : ¬ cmpVal (vAt a i) (vAt b i) = 0) : cmpVal (vAt a i) (vAt b i) = cmpRow (a.drop i) (b.drop i) := by
  rw [drop_cons h, drop_cons h', cmpRow, if_neg hz]
theorem cmpRow_long {a b : List Val} {i : Nat} (h : i < a.length) (h' : b.length ≤ i) : cmpRow (a.drop i) (b.drop i) = 1 := by
  rw [drop_cons h, List.drop_eq_nil_of_le h']; rfl
theorem cmpRow_short {a b : List Val} {i : Nat} (h : a.length ≤ i) (h' : i < b.length) : cmpRow (a.drop i) (b.drop i) = -1 := by
  rw [drop_cons h', List.drop_eq_nil_of_le h]; rfl
theorem cmpRow_end {a b : List Val} {i : Nat} (h : a.length ≤ i) (h' : b.length ≤ i) : cmpRow (a.drop i) (b.drop i) = 0 := by
  rw [List.drop_eq_nil_of_le h', List.drop_eq_nil_of_le h]; rfl

set_option maxHeartbeats 1000000 in
theorem comparefunc_any (p q : Option Addr) (a b : List Val) (ca cb : Nat) (w : World) (hla : a.length ≤ 9223372036854775807) (hlb : b.length ≤ 9223372036854775807) (ha : RowAt w p a) (hb : RowAt w q b) :
    Calls Tryd.prog 50 #[.slice p a.length ca, .slice q b.length cb, .func (.func 51) #[] #[]] w fun e w' => e = .returned (.int .i64 (cmpRow a b)) ∧ Below w.heap.size w w' := by
  go_enter Tryd.func50, Tryd.ntmps50
  go_wp2
  go_loopw [7, 8, 9, 10, 13] (fun _ _ _ _ i wr => ∃ k : Nat, k ≤ a.length ∧ k ≤ b.length ∧ i = .int .i64 k ∧ cmpRow (a.drop k) (b.drop k) = cmpRow a b ∧ Below w.heap.size w wr) (fun _ _ _ _ i _ => a.length - (intOf i).toNat)
  case atStart => exact ⟨0, by omega, by omega, rfl, rfl, Below.refl _ _⟩
  case round =>
    obtain ⟨k, hk, hk', rfl, hcmp, hB⟩ := hrel
    have hA1 := ha.low hB
    have hB1 := hb.low hB
    have HC := Lib.hid hcmp
    clear hcmp
    by_cases hlt : k < a.length
    · by_cases hlt' : k < b.length
      · obtain ⟨c, o, rfl, hc, x0, x1, x2⟩ := hA1 k hlt
        obtain ⟨c', o', rfl, hc', y0, y1, y2⟩ := hB1 k hlt'
        go_wp2_with fail
        refine (compare_any _ _ _ _ _ _ _).mono ?_
        rintro e w2 ⟨rfl, hb2⟩
        have hB2 := Below.next hB (Below.of_alloc (Below.of_alloc hb2))
        clear hb2 x0 x1 x2 y0 y1 y2 hA1 hB1 hc hc' hB ha hb
        by_cases hz : cmpVal (vAt a k) (vAt b k) = 0
        · have hz' : (cmpV (vAt a k).1 (vAt a k).2.1 (vAt a k).2.2 (vAt b k).1 (vAt b k).2.1 (vAt b k).2.2 != 0) = false := by
            rw [bne_eq_false_iff_eq]; exact hz
          have HS := Lib.hid ((cmpRow_step hlt hlt' hz).trans HC.out)
          clear hz
          go_wp2
          go_roundw
          case rel => exact ⟨k + 1, by omega, by omega, by go_num, HS.out, hB2⟩
          case measure => simp [intOf]; omega
        · have hz' : (cmpV (vAt a k).1 (vAt a k).2.1 (vAt a k).2.2 (vAt b k).1 (vAt b k).2.1 (vAt b k).2.2 != 0) = true := by
            rw [bne_iff_ne]; exact hz
          have HS := Lib.hid ((cmpRow_stop hlt hlt' hz).trans HC.out)
          clear hz
          go_wp2
          go_ret
          exact ⟨ret_i HS.out, hB2⟩
      · obtain ⟨c, o, rfl, hc, x0, x1, x2⟩ := hA1 k hlt
        have HS := Lib.hid ((cmpRow_long hlt (by omega)).symm.trans HC.out)
        have hB2 := Below.next hB (low_alloc wr (.cells #[.int .i64 (vAt a k).1, .int .i64 (vAt a k).2.1, .string (vAt a k).2.2] 34))
        go_wp2
        go_ret
        exact ⟨ret_i HS.out, hB2⟩
    · by_cases hlt' : k < b.length
      · have HS := Lib.hid ((cmpRow_short (by omega) hlt').symm.trans HC.out)
        go_wp2
        go_ret
        exact ⟨ret_i HS.out, hB⟩
      · have HS := Lib.hid ((cmpRow_end (by omega) (by omega)).symm.trans HC.out)
        go_wp2
        go_ret
        exact ⟨ret_i HS.out, hB⟩

set_option maxHeartbeats 1000000 in
theorem comparerows_any (p q : Option Addr) (a b : List Val) (ca cb : Nat) (w : World) (hla : a.length ≤ 9223372036854775807) (hlb : b.length ≤ 9223372036854775807) (ha : RowAt w p a) (hb : RowAt w q b) :
    Calls Tryd.prog 39 #[.slice p a.length ca, .slice q b.length cb] w fun e w' => e = .returned (.int .i64 (cmpRow a b)) ∧ Below w.heap.size w w' := by
  go_enter Tryd.func39, Tryd.ntmps39
  go_wp2_with fail
  refine (comparefunc_any p q a b ca cb _ hla hlb ha hb).mono ?_
  rintro e w2 ⟨rfl, hb2⟩
  go_wp2
  go_ret
  exact ⟨rfl, hb2⟩

set_option maxRecDepth 100000 in
set_option maxHeartbeats 1000000 in
theorem rcomparerows_any (p q : Option Addr) (a b : List Val) (ca cb : Nat) (w : World) (hla : a.length ≤ 9223372036854775807) (hlb : b.length ≤ 9223372036854775807) (ha : RowAt w p a) (hb : RowAt w q b) :
    Calls Tryd.prog 25 #[.slice p a.length ca, .slice q b.length cb] w fun e w' => e = .returned (.int .i64 (cmpRow a b)) ∧ Below w.heap.size w w' := by
  go_enter Tryd.func25, Tryd.ntmps25
  go_wp2
  go_loopw [5, 6] (fun i _ wr => ∃ k : Nat, k ≤ a.length ∧ k ≤ b.length ∧ i = .int .i64 k ∧ cmpRow (a.drop k) (b.drop k) = cmpRow a b ∧ Below w.heap.size w wr) (fun i _ _ => a.length - (intOf i).toNat)
  case atStart => exact ⟨0, by omega, by omega, rfl, rfl, Below.refl _ _⟩
  case round =>
    obtain ⟨k, hk, hk', rfl, hcmp, hB⟩ := hrel
    have hA1 := ha.low hB
    have hB1 := hb.low hB
    have HC := Lib.hid hcmp
    clear hcmp
    by_cases hlt : k < a.length
    · by_cases hlt' : k < b.length
      · obtain ⟨c, o, rfl, hc, x0, x1, x2⟩ := hA1 k hlt
        obtain ⟨c', o', rfl, hc', y0, y1, y2⟩ := hB1 k hlt'
        have hk1 : (0 : Int) ≤ (k : Int) := Int.natCast_nonneg _
        have hk2 : (k : Int) < (a.length : Int) := by omega
        have hk3 : (k : Int) < (b.length : Int) := by omega
        go_wp2_with fail
        go_still_tail 8, (by kernel_rfl)
        change wpList _ _ _ _ _ wr.drew
        have hB' : Below w.heap.size w wr.drew := hB.drew
        generalize wr.drew = wd at hB' ⊢
        clear x0 x1 x2 y0 y1 y2 hA1 hB1 hc hc' hB ha hb
        go_wp2_with fail
        refine (rcompare_any _ _ _ _ _ _ _).mono ?_
        rintro e w2 ⟨rfl, hb2⟩
        have hB2 := Below.next hB' hb2
        clear hb2 hB'
        by_cases hz : cmpVal (vAt a k) (vAt b k) = 0
        · have hz' : (cmpV (vAt a k).1 (vAt a k).2.1 (vAt a k).2.2 (vAt b k).1 (vAt b k).2.1 (vAt b k).2.2 != 0) = false := by
            rw [bne_eq_false_iff_eq]; exact hz
          have HS := Lib.hid ((cmpRow_step hlt hlt' hz).trans HC.out)
          clear hz
          go_wp2
          go_roundw
          case rel => exact ⟨k + 1, by omega, by omega, by go_num, HS.out, hB2⟩
          case measure => simp [intOf]; omega
        · have hz' : (cmpV (vAt a k).1 (vAt a k).2.1 (vAt a k).2.2 (vAt b k).1 (vAt b k).2.1 (vAt b k).2.2 != 0) = true := by
            rw [bne_iff_ne]; exact hz
          have HS := Lib.hid ((cmpRow_stop hlt hlt' hz).trans HC.out)
          clear hz
          go_wp2
          go_ret
          exact ⟨ret_i HS.out, hB2⟩
      · have HS := Lib.hid ((cmpRow_long hlt (by omega)).symm.trans HC.out)
        go_wp2
        go_ret
        exact ⟨ret_i HS.out, hB⟩
    · by_cases hlt' : k < b.length
      · have HS := Lib.hid ((cmpRow_short (by omega) hlt').symm.trans HC.out)
        go_wp2
        go_ret
        exact ⟨ret_i HS.out, hB⟩
      · have HS := Lib.hid ((cmpRow_end (by omega) (by omega)).symm.trans HC.out)
        go_wp2
        go_ret
        exact ⟨ret_i HS.out, hB⟩
end Go.Proofs.YtlgagibmndbimaaDoor
