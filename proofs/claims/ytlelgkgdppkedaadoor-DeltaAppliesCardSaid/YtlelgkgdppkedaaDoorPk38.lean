/-
  Several texts in one.
-/
import Derived.Test.YtlelgkgdppkedaaDoorPk33
import Derived.Test.YtlelgkgdppkedaaDoorPk37
/-
  numbers of package delta: the numbers of rows.
-/
namespace Go.Proofs.YtlelgkgdppkedaaDoor
set_option maxRecDepth 100000
open Go.RowKit
variable {ls : List Nat}

def NumsPost (R : List TRow) (w : World) (e : Ending) (w' : World) : Prop := ∃ (p : Option Addr) (c : Nat), e = .returned (.slice p R.length c) ∧ NumAt w' p (R.map (·.1)) ∧ R.length ≤ c ∧ Below w.heap.size w w'
set_option maxHeartbeats 2000000 in
theorem numbers_any (R : List TRow) (q : Option Addr) (cq : Nat) (w : World) (hR : TRowsAt w q R) (hl : R.length ≤ 17592186044415) :
    Calls Tryd.prog 42 #[.slice q R.length cq] w (NumsPost R w) := by
  have HR := Lib.hid hR
  clear hR
  go_enter Tryd.func42, Tryd.ntmps42
  go_wp2_with fail
  go_loopw [3, 8] (fun s3 s8 wx => ∃ (k : Nat), k ≤ R.length ∧ s8 = .int .i64 k ∧ wx.ownsRow w.heap.size 3 1 s3 ((R.take k).map (·.1)).length (icells ((R.take k).map (·.1))) ∧ Below w.heap.size w wx) (fun _ s8 _ => R.length - (intOf s8).toNat)
  case atStart => exact ⟨0, Nat.zero_le _, rfl, by simpa [icells] using World.ownsRow_nil w w.heap.size 3 1, Below.refl _ _⟩
  case round =>
    rename_i s3
    obtain ⟨k, hkl, rfl, ho, hb⟩ := hrel
    obtain ⟨p3, c3, e3⟩ := own_ex ho
    subst e3
    have HO := Lib.hid ho
    have HB := Lib.hid hb
    have HKL : Hid (((R.take k).map (·.1)).length = k) := Lib.hid (by rw [List.length_map, List.length_take]; omega)
    clear ho hb
    by_cases hk : k < R.length
    · have hkd : decide ((k : Int) < R.length) = true := decide_eq_true (by omega)
      obtain ⟨c, o, qb, cb, hp, hc, h0, h1, -, -, -⟩ := HR.out k hk
      obtain ⟨⟨id, l⟩, hr⟩ : ∃ x, tAt R k = x := ⟨_, rfl⟩
      rw [hr] at h0 h1
      dsimp only at h0 h1
      subst hp
      rw [← HB.out.cell (by exact hc)] at h0 h1
      have hbn := below_alloc wr (.cells #[.int .i64 id, .slice qb l.length cb] 53)
      have HO1 := Lib.hid (owns_below HO.out hbn)
      have HB1 := Lib.hid (below_next HB.out hbn)
      have HY1 := Lib.hid (cell2_new wr (.int .i64 id) (.slice qb l.length cb) 53)
      have HT : Hid ((R.take (k + 1)).map (·.1) = (R.take k).map (·.1) ++ [id]) := Lib.hid (by rw [take_trow hk, List.map_append, hr]; rfl)
      clear HO HB hbn hr
      go_upto_region 5 with (fail)
      clear h0 h1
      generalize World.alloc _ _ = W2 at HO1 HB1 HY1 ⊢
      generalize wr.heap.size = Y at HY1 ⊢
      have hbn := below_alloc W2 (.cells #[.int .i64 id] 3)
      have HO2 := Lib.hid (owns_below HO1.out hbn)
      have HNW := Lib.hid (one_new W2 (.int .i64 id) 3)
      have HB2 := Lib.hid (below_next HB1.out hbn)
      have HLO := Lib.hid HB2.out.size
      clear hbn
      obtain ⟨i0, hi0, hz0, hz1, hz2⟩ := info_parts info_int7
      obtain ⟨yl, y0, y1, -⟩ := HY1.out
      go_wp2_with (at_builtin; refine wpList_append_own _ rfl (.tmp 12) (.tmp 15) 28 rfl w.heap.size 3 i0 _ 1 8 Tryd.underlying28 hi0 hz0 hz1 hz2 rfl (by decide) (.slice p3 ((R.take k).map (·.1)).length c3) ((R.take k).map (·.1)).length (icells ((R.take k).map (·.1))) (by rfl) HO2.out ⟨W2.heap.size, 0, none⟩ 1 1 [.int .i64 id] (by rfl) rfl HNW.out (by intro u hu; obtain rfl := List.mem_singleton.1 hu; rfl) (by have := HKL.out; unfold maxLen; omega) (by have := HKL.out; omega) HLO.out ?_; intro v8 w8 hown8 hg8 _; (have HO8 := Lib.hid hown8); (have HB8 := Lib.hid (grown_below HB2.out HLO.out hg8 (fun j hj => owns_block HO2.out j hj))); clear hown8 hg8)
      go_roundw
      case rel => exact ⟨k + 1, by omega, by go_num, by
        rw [HT.out, List.length_append]
        have h := HO8.out
        unfold icells at h ⊢
        rw [List.map_append]
        exact h, HB8.out⟩
      case measure => simp [intOf]; omega
    · clear HKL
      obtain rfl : k = R.length := by omega
      have hkd : decide (((R.length : Nat) : Int) < R.length) = false := decide_eq_false (by omega)
      have ho := HO.out
      rw [List.take_length] at ho
      have HN := Lib.hid (numAt_own ho)
      have HC := Lib.hid (owns_cap ho)
      rw [List.length_map] at HC ⊢
      clear ho HO
      go_wp2
      exact bodyPost_ret (v := .slice p3 R.length c3) (by simp [results, Tryd.results42, go_sem]) rfl ⟨p3, c3, rfl, HN.out, HC.out.2, HB.out⟩
end Go.Proofs.YtlelgkgdppkedaaDoor
