/-
  Rows of the tape: at most n rows of at most four values.
-/
import Derived.Test.YtlgagibmndbimaaDoorVcells
import Derived.Test.YtlgagibmndbimaaDoorOwns
import Derived.Deep.Cut
namespace Go.Proofs.YtlgagibmndbimaaDoor
open Go.RowKit

theorem info_rows : (Tryd.prog.info? 25).map (fun i => (i.zero, i.size, i.bytes)) = some (some (.slice none 0 0), 1, 24) := by kernel_rfl

/-- The rows that have been made. -/
def Grid (u : World) (base : Nat) (vo : Value) (G : List (Value × List Val)) : Prop :=
  u.ownsRow base 25 1 vo G.length (G.map (·.1)) ∧ ∀ x ∈ G, u.ownsRow base 34 3 x.1 x.2.length (vcells x.2) ∧ x.2.length ≤ 4
theorem Grid.step {u v : World} {b base : Nat} {vo : Value} {G : List (Value × List Val)} (h : Grid u base vo G) (hb : b < base) (hs : StepT b u v) : Grid v base vo G :=
  ⟨owns_step h.1 hb hs, fun x hx => ⟨owns_step (h.2 x hx).1 hb hs, (h.2 x hx).2⟩⟩

theorem Grid.add {u v : World} {base : Nat} {vo vo' x : Value} {l : List Val} {G : List (Value × List Val)} (h : Grid u base vo G) (hx : u.ownsRow base 34 3 x l.length (vcells l)) (hl : l.length ≤ 4)
    (ho : v.ownsRow base 25 1 vo' (G.length + 1) (G.map (·.1) ++ [x])) (hg : u.grownBy v vo.ownBlock) : Grid v base vo' (G ++ [(x, l)]) := by
  have key : ∀ (y : Value) (m : List Val), u.ownsRow base 34 3 y m.length (vcells m) → v.ownsRow base 34 3 y m.length (vcells m) := fun y m hy =>
    owns_keep hy fun k hk => hg.block k (owns_lt hy k hk) (fun he => owns_apart hy h.1 (by decide) k hk he.symm)
  refine ⟨by simpa using ho, fun z hz => ?_⟩
  rcases List.mem_append.1 hz with hz | hz
  · exact ⟨key _ _ (h.2 z hz).1, (h.2 z hz).2⟩
  · obtain rfl : z = (x, l) := by simpa using hz
    exact ⟨key _ _ hx, hl⟩
theorem row_new (u : World) (k n : Int) (s : ByteArray) (t : TypeId) : RowAt (u.alloc (.cells #[.int .i64 k, .int .i64 n, .string s] t)) (some ⟨u.heap.size, 0, none⟩) [(k, n, s)] := by
  intro i hi
  obtain rfl : i = 0 := by simpa using hi
  have hb := BoxAt.new u (k, n, s) t
  exact ⟨u.heap.size, 0, rfl, hb.1, hb.2.1, hb.2.2.1, hb.2.2.2⟩

def RowsPost (b : Nat) (n : Int) (w : World) (e : Ending) (w' : World) : Prop := ∃ (v : Value) (G : List (Value × List Val)), e = .returned v ∧ Grid w' w.heap.size v G ∧ (G.length : Int) ≤ n ∧ TapeAt w' b ∧ StepT b w w'

set_option maxRecDepth 100000 in
set_option maxHeartbeats 4000000 in
theorem rows_any (b : Nat) (n : Nat) (w : World) (hn : n ≤ 100) (hb : b ≠ 1) (ht : TapeAt w b) (hw : WordsAt w) :
    Calls Tryd.prog 15 #[.pointer (some ⟨b, 0, none⟩), .int .i64 n] w (RowsPost b n w) := by
  have hlt := ht.lt
  obtain ⟨i28, hi28, hz28, hs28, hb28⟩ := info_parts info_rows
  go_enter Tryd.func15, Tryd.ntmps15
  go_wp2_with fail
  refine (next_any b _ _ (by omega) (by omega) ht).mono ?_
  rintro e w1 ⟨r, rfl, hr0, hr1, ht1, hs1⟩
  obtain ⟨r, rfl⟩ := Int.eq_ofNat_of_zero_le hr0
  have hg0 : Grid w1 w.heap.size (.slice none 0 0) [] := ⟨⟨rfl, Or.inl ⟨rfl, rfl⟩⟩, fun x hx => by cases hx⟩
  have hw1 := hw.step hs1 hb
  have HW := Lib.hid (fun u (h : StepT b w u) => hw.step h hb)
  clear ht hw
  go_wp2
  go_loopw [5, 6, 7, 8] (fun vo i _ _ wr => ∃ (c : Nat) (G : List (Value × List Val)), i = .int .i64 c ∧ c + G.length ≤ n ∧ Grid wr w.heap.size vo G ∧ TapeAt wr b ∧ StepT b w wr) (fun _ i _ _ _ => (intOf i).toNat)
  case atStart => exact ⟨r, [], rfl, by simp; omega, hg0, ht1, hs1⟩
  case round =>
    clear hg0 ht1 hs1 hw1
    obtain ⟨c, G, rfl, hc, hG, htr, hsr⟩ := hrel
    by_cases hcz : 0 < c
    · obtain ⟨d, rfl⟩ : ∃ d, c = d + 1 := ⟨c - 1, by omega⟩
      go_wp2_with fail
      refine (next_any b _ _ (by omega) (by omega) htr).mono ?_
      rintro e w2 ⟨q, rfl, hq0, hq1, ht2, hs2⟩
      obtain ⟨q, rfl⟩ := Int.eq_ofNat_of_zero_le hq0
      have hG2 := hG.step hlt hs2
      have hsr2 := hsr.trans hs2
      clear htr hs2 hG hsr
      have HG2 := Lib.hid hG2
      have HS2 := Lib.hid hsr2
      have hn0 : w2.ownsRow w2.heap.size 34 3 (.slice none 0 0) 0 (vcells []) := ⟨rfl, Or.inl ⟨rfl, rfl⟩⟩
      clear hG2 hsr2
      go_wp2
      go_loopw [7, 8] (fun v k wr => ∃ (m : Nat) (l : List Val), k = .int .i64 m ∧ m + l.length ≤ 3 ∧ wr.ownsRow w2.heap.size 34 3 v l.length (vcells l) ∧ TapeAt wr b ∧ StepT b w2 wr) (fun _ k _ => (intOf k).toNat)
      case atStart => exact ⟨q, [], rfl, by simp; omega, hn0, ht2, StepT.refl _ _⟩
      case round =>
        clear hn0 ht2
        obtain ⟨m, l, rfl, hm, hown, htr, hsr⟩ := hrel
        by_cases hmz : 0 < m
        · obtain ⟨g, rfl⟩ : ∃ g, m = g + 1 := ⟨m - 1, by omega⟩
          go_wp2_with fail
          refine (next_any b _ _ (by omega) (by omega) htr).mono ?_
          rintro e w4 ⟨t, rfl, ht0, ht1, ht4, hs4⟩
          have hb2 : b < w2.heap.size := by have := HS2.out.size; omega
          have hown4 := owns_step (owns_step hown hb2 hs4) hb2 ((StepT.refl b w4).alloc (.cells #[.int .i64 1, .int .i64 t, .string ⟨#[]⟩] 34))
          have hsr4 := (hsr.trans hs4).alloc (.cells #[.int .i64 1, .int .i64 t, .string ⟨#[]⟩] 34)
          have ht4' := ht4.alloc (.cells #[.int .i64 1, .int .i64 t, .string ⟨#[]⟩] 34)
          have hrow := row_new w4 1 t ⟨#[]⟩ 34
          have hz4 : w2.heap.size ≤ (w4.alloc (.cells #[.int .i64 1, .int .i64 t, .string ⟨#[]⟩] 34)).heap.size := hsr4.size
          clear hown htr hsr ht4 hs4
          go_wp2_with (at_builtin; refine wpList_append_vals rfl (.tmp 23) (.tmp 27) rfl w2.heap.size _ _ l rfl hown4 _ [(1, t, ⟨#[]⟩)] 1 rfl hrow (by intro h; cases h) ?_ hz4 ?_; (simp only [List.length_singleton]; omega); (intro v5 w5 hown5 hgr5))
          go_roundw
          case rel => exact ⟨g, l ++ [(1, t, ⟨#[]⟩)], by go_num, by simp; omega, by simpa using hown5, ht4'.grown hgr5 (fun k hk => by have := owns_block hown4 k hk; omega), step_grown_from hsr4 hgr5 (owns_block hown4)⟩
          case measure => simp [intOf]
        · obtain rfl : m = 0 := by omega
          go_wp2_with fail
          refine (tbool_any b _ _ (by omega) (by omega) htr).mono ?_
          rintro e w4 ⟨t, rfl, ht4, hs4⟩
          have hb2 : b < w2.heap.size := by have := HS2.out.size; omega
          have hown4 := owns_step hown hb2 hs4
          have hsr4 := hsr.trans hs4
          clear hown htr hsr hs4
          obtain ⟨pu, cu, hvu, hvul, -⟩ := row_of_owns hown4
          cases t
          · clear hvu hvul
            obtain ⟨pv, cv, hvv, hvl, -⟩ := row_of_owns hown4
            rw [hvv] at hown4 ⊢
            have hS9 := HS2.out.trans (hsr4)
            have hG9 := HG2.out.step hlt (hsr4)
            have hown9 := owns_step hG9.1 hlt ((StepT.refl b w4).alloc (.cells #[.slice pv l.length cv] 25))
            have hx9 := owns_step hown4 hb2 ((StepT.refl b w4).alloc (.cells #[.slice pv l.length cv] 25))
            have hG10 := hG9.step hlt ((StepT.refl b w4).alloc (.cells #[.slice pv l.length cv] 25))
            have hS10 := hS9.alloc (.cells #[.slice pv l.length cv] 25)
            have hT10 := (ht4).alloc (.cells #[.slice pv l.length cv] 25)
            have hcell : (w4.alloc (.cells #[.slice pv l.length cv] 25)).cell? ⟨w4.heap.size, 0, none⟩ = some (.slice pv l.length cv) := by go_simp
            have h1c : ∀ u ∈ [Value.slice pv l.length cv], u.oneCell' = true := by
              intro u hu
              obtain rfl := List.mem_singleton.1 hu
              rfl
            have hnews : ∀ (j : Nat) u, [Value.slice pv l.length cv][j]? = some u → (w4.alloc (.cells #[.slice pv l.length cv] 25)).cell? ((⟨w4.heap.size, 0, none⟩ : Addr).add j) = some u := by
              intro j u hj
              match j, hj with
              | 0, hj => obtain rfl := Option.some.inj hj; exact hcell
            have hz10 : w.heap.size ≤ (w4.alloc (.cells #[.slice pv l.length cv] 25)).heap.size := hS10.size
            have hx10 := owns_base hx9 (show w.heap.size ≤ w2.heap.size from HS2.out.size)
            clear hvv hvl hcell hG9 hS9 hx9
            go_wp2_with (at_builtin; refine wpList_append_own _ rfl (.tmp 36) (.tmp 38) 39 rfl w.heap.size 25 i28 _ 1 24 Tryd.underlying39 hi28 hz28 hs28 hb28 rfl (by decide) _ G.length _ rfl hown9 ⟨w4.heap.size, 0, none⟩ 1 1 [.slice pv l.length cv] rfl rfl hnews h1c ?_ ?_ hz10 ?_; (unfold maxLen; omega); (omega); (intro vo6 w6 hown6 hgr6 hnil6))
            go_roundw
            case rel =>
              exact ⟨d, G ++ [(.slice pv l.length cv, l)], by go_num, by simp; omega, hG10.add hx10 (by omega) hown6 hgr6, hT10.grown hgr6 (fun k hk => by have := owns_block hown9 k hk; omega), step_grown_from hS10 hgr6 (owns_block hown9)⟩
            case measure => simp [intOf]
          · clear hvu hvul
            go_wp2_with fail
            refine (value_any b _ hb ht4 (HW.out _ (HS2.out.trans hsr4))).mono ?_
            rintro e w5 ⟨kk, nn, ss, rfl, -, -, ht5, hs5⟩
            have hown5 := owns_step (owns_step hown4 hb2 hs5) hb2 ((StepT.refl b w5).alloc (.cells #[.int .i64 kk, .int .i64 nn, .string ss] 34))
            have hsr5 := (hsr4.trans hs5).alloc (.cells #[.int .i64 kk, .int .i64 nn, .string ss] 34)
            have ht5' := ht5.alloc (.cells #[.int .i64 kk, .int .i64 nn, .string ss] 34)
            have hrow := row_new w5 kk nn ss 34
            have hz5 : w2.heap.size ≤ (w5.alloc (.cells #[.int .i64 kk, .int .i64 nn, .string ss] 34)).heap.size := hsr5.size
            clear hown4 hsr4 ht4 ht5 hs5
            go_upto_region 12 with (at_builtin; refine wpList_append_vals rfl (.tmp 31) (.tmp 34) rfl w2.heap.size _ _ l rfl hown5 _ [(kk, nn, ss)] 1 rfl hrow (by intro h; cases h) ?_ hz5 ?_; (simp only [List.length_singleton]; omega); (intro vg wg howng0 hgrg))
            have htg := ht5'.grown hgrg (fun k hk => by have := owns_block hown5 k hk; omega)
            have hsrg := step_grown_from hsr5 hgrg (owns_block hown5)
            have howng : wg.ownsRow w2.heap.size 34 3 vg (l ++ [(kk, nn, ss)]).length (vcells (l ++ [(kk, nn, ss)])) := by simpa using howng0
            clear howng0 hgrg hown5 hsr5 ht5' hrow hz5
            obtain ⟨pv, cv, hvv, hvl, -⟩ := row_of_owns howng
            have hvv' : vg = .slice pv (l.length + 1) cv := by rw [hvv]; simp
            rw [hvv'] at howng ⊢
            have hS9 := HS2.out.trans (hsrg)
            have hG9 := HG2.out.step hlt (hsrg)
            have hown9 := owns_step hG9.1 hlt ((StepT.refl b wg).alloc (.cells #[.slice pv (l.length + 1) cv] 25))
            have hx9 := owns_step howng hb2 ((StepT.refl b wg).alloc (.cells #[.slice pv (l.length + 1) cv] 25))
            have hG10 := hG9.step hlt ((StepT.refl b wg).alloc (.cells #[.slice pv (l.length + 1) cv] 25))
            have hS10 := hS9.alloc (.cells #[.slice pv (l.length + 1) cv] 25)
            have hT10 := (htg).alloc (.cells #[.slice pv (l.length + 1) cv] 25)
            have hcell : (wg.alloc (.cells #[.slice pv (l.length + 1) cv] 25)).cell? ⟨wg.heap.size, 0, none⟩ = some (.slice pv (l.length + 1) cv) := by go_simp
            have h1c : ∀ u ∈ [Value.slice pv (l.length + 1) cv], u.oneCell' = true := by
              intro u hu
              obtain rfl := List.mem_singleton.1 hu
              rfl
            have hnews : ∀ (j : Nat) u, [Value.slice pv (l.length + 1) cv][j]? = some u → (wg.alloc (.cells #[.slice pv (l.length + 1) cv] 25)).cell? ((⟨wg.heap.size, 0, none⟩ : Addr).add j) = some u := by
              intro j u hj
              match j, hj with
              | 0, hj => obtain rfl := Option.some.inj hj; exact hcell
            have hz10 : w.heap.size ≤ (wg.alloc (.cells #[.slice pv (l.length + 1) cv] 25)).heap.size := hS10.size
            have hx10 := owns_base hx9 (show w.heap.size ≤ w2.heap.size from HS2.out.size)
            clear hvv hvv' hvl hcell hG9 hS9 hx9
            go_wp2_with (at_builtin; refine wpList_append_own _ rfl (.tmp 36) (.tmp 38) 39 rfl w.heap.size 25 i28 _ 1 24 Tryd.underlying39 hi28 hz28 hs28 hb28 rfl (by decide) _ G.length _ rfl hown9 ⟨wg.heap.size, 0, none⟩ 1 1 [.slice pv (l.length + 1) cv] rfl rfl hnews h1c ?_ ?_ hz10 ?_; (unfold maxLen; omega); (omega); (intro vo6 w6 hown6 hgr6 hnil6))
            go_roundw
            case rel =>
              exact ⟨d, G ++ [(.slice pv (l.length + 1) cv, l ++ [(kk, nn, ss)])], by go_num, by simp; omega, hG10.add hx10 (by simp; omega) hown6 hgr6, hT10.grown hgr6 (fun k hk => by have := owns_block hown9 k hk; omega), step_grown_from hS10 hgr6 (owns_block hown9)⟩
            case measure => simp [intOf]
    · go_wp2
      go_ret
      exact ⟨_, G, rfl, hG, by omega, htr, hsr⟩
end Go.Proofs.YtlgagibmndbimaaDoor
