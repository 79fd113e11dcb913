/-
  Several texts in one.
-/
import Derived.Test.YtgaihglploedaabDoorPk08
import Derived.Deep.QuietTactic
import Derived.Laws.Concat
/-
  THE STATEMENT TokenPlaces, as a walk.
-/
namespace Go.Proofs.YtgaihglploedaabDoor
set_option maxRecDepth 100000
open Go.RowKit
variable {ls : List Nat}

theorem bit_short {i : Nat} (h : i < 20) : (bitS i).size ≤ 19 := by
  have : ∀ i : Fin 20, (bitS i).size ≤ 19 := by decide +kernel
  exact this ⟨i, h⟩
/-- The two texts of the statement in a block of the call's own. -/
structure TwoAt (u : World) (L : Nat) (a b : ByteArray) : Prop where
  lt : L < u.heap.size
  c0 : u.cell? ⟨L, 0, none⟩ = some (.string a)
  c1 : u.cell? ⟨L, 1, none⟩ = some (.string b)
theorem TwoAt.low {u v : World} {L : Nat} {a b : ByteArray} (h : TwoAt u L a b) (hb : Below u.heap.size u v) : TwoAt v L a b :=
  ⟨Nat.lt_of_lt_of_le h.lt hb.size, by rw [hb.cell (by exact h.lt)]; exact h.c0, by rw [hb.cell (by exact h.lt)]; exact h.c1⟩
theorem TwoAt.new (u : World) (a b : ByteArray) (t : TypeId) : TwoAt (u.alloc (.cells #[.string a, .string b] t)) u.heap.size a b := ⟨by simp, by go_simp, by go_simp⟩
theorem TwoAt.at {u : World} {L : Nat} {a b : ByteArray} (h : TwoAt u L a b) {j : Nat} (hj : j < 2) : ∃ s, u.cell? ⟨L, j, none⟩ = some (.string s) := by
  have : j = 0 ∨ j = 1 := by omega
  rcases this with rfl | rfl
  · exact ⟨a, h.c0⟩
  · exact ⟨b, h.c1⟩
theorem below_drewN (w : World) (n : Nat) : Below w.heap.size w (w.drewN n) := ⟨rfl, rfl, rfl, Nat.le_refl _, fun _ _ => rfl⟩
set_option maxRecDepth 100000 in
set_option maxHeartbeats 4000000 in
theorem places_walk (w : World) (raw : ByteArray) (p : Option Addr) (len cap : Nat) (hl : len ≤ cap) (hm : len ≤ 9223372036854775807) (h : IntsAt w p len) (hE : Env ls w)
    (hlb : 0 ∈ ls) (hk : 3 ∈ ls) (hy : 2 ∈ ls) (hS : 10 ∈ ls) (hR : 11 ∈ ls) :
    Calls Tryd.prog 4 #[.string raw, .slice p len cap] w fun e w' => e = .returned (.bool true) ∧ Below w.heap.size w w' := by
  have hz8 := hE.size
  have HE := Lib.hid hE
  have HI := Lib.hid h
  clear h hE
  go_enter Tryd.func4, Tryd.ntmps4
  go_wp2_with fail
  refine (new_any _ p len cap hl hm HI.out).mono ?_
  rintro e w1 ⟨b, rfl, hb0, ht, hb1⟩
  have hE1 := HE.out.low hb1
  have h8b : 12 ≤ b := by omega
  have HB1 := Lib.hid hb1
  clear HE HI hb1
  go_wp2_with fail
  refine (next_any b _ _ (by omega) (by omega) ht).mono ?_
  rintro e w2 ⟨r, rfl, hr0, hr1, ht2, hs2⟩
  have HE2 := Lib.hid (hE1.step hs2 h8b)
  have HT2 := Lib.hid ht2
  have HB2 := Lib.hid (HB1.out.trans (hs2.below hb0 HB1.out.size))
  obtain ⟨n0, rfl⟩ := Int.eq_ofNat_of_zero_le hr0
  clear ht hE1 HB1 hs2 ht2 hr0
  go_wp2
  go_loopw [6, 7] (fun s6 s7 v => ∃ (m : ByteArray) (i : Nat), s6 = .string m ∧ s7 = .int .i64 i ∧ i ≤ 19 ∧ m.size ≤ (19 - i) * 19 ∧ TapeAt v b ∧ Env ls v ∧ Below w.heap.size w v) (fun _ s7 _ => (intOf s7).toNat)
  case atStart => exact ⟨_, n0, rfl, rfl, by omega, Nat.zero_le _, HT2.out, HE2.out, HB2.out⟩
  clear HT2 HE2 HB2
  case round =>
    obtain ⟨m, i, rfl, rfl, hi19, hms, ht, hE, hB⟩ := hrel
    have HT := Lib.hid ht
    have HE := Lib.hid hE
    have HB := Lib.hid hB
    clear ht hE hB
    by_cases hi : 0 < i
    · obtain ⟨g, rfl⟩ : ∃ g, i = g + 1 := ⟨i - 1, by omega⟩
      have hid : decide ((0 : Int) < ((g + 1 : Nat) : Int)) = true := decide_eq_true (by omega)
      go_wp2_with fail
      refine (next_any b _ _ (by omega) (by omega) HT.out).mono ?_
      rintro e w3 ⟨r, rfl, hr0, hr1, ht3, hs3⟩
      obtain ⟨q, rfl⟩ := Int.eq_ofNat_of_zero_le hr0
      have HE3 := Lib.hid (HE.out.step hs3 h8b)
      have HT3 := Lib.hid ht3
      have HB3 := Lib.hid (HB.out.trans (hs3.below hb0 HB.out.size))
      have hq : q < 20 := by omega
      have hcell := HE3.out.bits hlb q hq
      have hbs := bit_short hq
      have hcat : ¬ (m.size + (bitS q).size > 9223372036854775807) := by omega
      have hms' : (m ++ bitS q).size ≤ (19 - g) * 19 := by rw [ByteArray.size_append]; omega
      have HMS := Lib.hid hms'
      clear HT HE HB ht3 hs3 hms'
      go_wp2
      go_roundw
      case rel => exact ⟨m ++ bitS q, g, rfl, by go_num, by omega, HMS.out, HT3.out, HE3.out, HB3.out⟩
      case measure => simp [intOf]
    · obtain rfl : i = 0 := by omega
      have hid : decide ((0 : Int) < ((0 : Nat) : Int)) = false := rfl
      have HL := Lib.hid (TwoAt.new wr raw m 9)
      have HEL := Lib.hid (HE.out.alloc (.cells #[.string raw, .string m] 9))
      have HBL := Lib.hid (below_new HB.out (.cells #[.string raw, .string m] 9))
      clear HT HE HB
      go_wp2
      generalize World.alloc _ _ = W5 at HL HEL HBL ⊢
      generalize wr.heap.size = L at HL ⊢
      go_loopw [33] (fun s33 v => ∃ j : Nat, j ≤ 2 ∧ s33 = .int .i64 j ∧ TwoAt v L raw m ∧ Env ls v ∧ Below w.heap.size w v) (fun s33 _ => 2 - (intOf s33).toNat)
      case atStart => exact ⟨0, Nat.zero_le _, rfl, HL.out, HEL.out, HBL.out⟩
      clear HL HEL HBL hid hi hms hi19
      case round =>
        rename_i W6
        obtain ⟨j, hj, rfl, hL, hE, hB⟩ := hrel
        have HL := Lib.hid hL
        have HE := Lib.hid hE
        have HB := Lib.hid hB
        clear hE hB
        by_cases hj2 : j < 2
        · have hjd : decide ((j : Int) < 2) = true := decide_eq_true (by omega)
          obtain ⟨s, hsc⟩ := hL.at hj2
          clear hL
          go_wp2_with fail
          refine (tokens_any s _ HE.out hk hy hS hR).mono ?_
          rintro e w3 ⟨pt, ct, rfl, hKA, hct, hb3⟩
          obtain ⟨T, at_, er, hT⟩ : ∃ T at_ er, toksR s = (T, at_, er) := ⟨_, _, _, rfl⟩
          obtain ⟨h0, h1, h2, h3, h4, h5⟩ := toksR_places hT
          rw [hT] at hKA hct ⊢
          dsimp only at hKA hct ⊢
          have HL3 := Lib.hid (HL.out.low hb3)
          have HE3 := Lib.hid (HE.out.low hb3)
          have HB3 := Lib.hid (below_next HB.out hb3)
          have HKA := Lib.hid hKA
          have HP := Lib.hid h5
          clear HL HE HB hb3 hKA hsc hT h5
          have ea : decide (at_ < 0) = false := decide_eq_false (by omega)
          have eb : decide ((s.size : Int) < at_) = false := decide_eq_false (by omega)
          have hcase : ((er == 0) = true ∧ (er != 0) = false ∧ (at_ != 0) = false) ∨ ((er == 0) = false ∧ (er != 0) = true ∧ ((T.length : Int) != 0) = false) := by
            by_cases he : er = 0
            · exact Or.inl ⟨beq_iff_eq.2 he, by simp [he], by rw [h2 he]; rfl⟩
            · exact Or.inr ⟨beq_eq_false_iff_ne.2 he, bne_iff_ne.2 he, by rw [h3 he]; rfl⟩
          clear h0 h1 h2 h3
          rcases hcase with ⟨ec, ed, ee⟩ | ⟨ec, ed, ee⟩
          all_goals
            go_wp2
            clear ea eb ec ed ee
            go_loopw [70] (fun s70 v => ∃ i : Nat, i ≤ T.length ∧ s70 = .int .i64 i ∧ KAt v pt T ∧ TwoAt v L raw m ∧ Env ls v ∧ Below w.heap.size w v) (fun s70 _ => T.length - (intOf s70).toNat)
            case atStart => exact ⟨0, Nat.zero_le _, rfl, HKA.out, HL3.out, HE3.out, HB3.out⟩
            case round =>
              obtain ⟨i, hi, rfl, hK, hL, hE, hB⟩ := hrel
              have HK := Lib.hid hK
              have HL := Lib.hid hL
              have HE := Lib.hid hE
              have HB := Lib.hid hB
              clear hK hL hE hB
              by_cases hlt : i < T.length
              · have hid : decide ((i : Int) < T.length) = true := decide_eq_true (by omega)
                obtain ⟨c, o, hpt, hcl, x0, x1, x2⟩ := HK.out i hlt
                subst hpt
                obtain ⟨hq1, hq2⟩ := HP.out i hlt
                have HQ2 := Lib.hid hq2
                have hbn := below_alloc wr (.cells #[.int .i64 T[i].k, .string T[i].t, .int .i64 T[i].a] 23)
                have HN := Lib.hid (cell3_new wr (.int .i64 T[i].k) (.string T[i].t) (.int .i64 T[i].a) 23)
                have HK2 := Lib.hid (HK.out.low hbn)
                have HL2 := Lib.hid (HL.out.low hbn)
                have HE2 := Lib.hid (HE.out.low hbn)
                have HB2 := Lib.hid (below_next HB.out hbn)
                have ta : decide ((T[i].a : Int) < 0) = false := decide_eq_false (by omega)
                have tb : decide ((s.size : Int) ≤ (T[i].a : Int)) = false := decide_eq_false (by omega)
                have tn : decide (s.size ≤ T[i].a) = false := decide_eq_false (by omega)
                clear hq2 hbn HK HL HE HB
                by_cases hi0 : i = 0
                · subst hi0
                  obtain ⟨Z, hZ⟩ : ∃ Z, T[0] = Z := ⟨_, rfl⟩
                  rw [hZ] at x0 x1 x2 ta tb tn hq1 HN HK2 HL2 HE2 HB2
                  clear hZ HQ2
                  simp only [Nat.zero_mul, Nat.add_zero] at x0 x1 x2
                  go_upto_region 16 with (fail)
                  generalize World.alloc _ _ = W7 at HN HK2 HL2 HE2 HB2 ⊢
                  obtain ⟨yl, y0, y1, y2, -⟩ := HN.out
                  clear x0 x1 x2
                  go_quiet (fail)
                  go_wp2
                  go_roundw
                  case rel => exact ⟨1, by omega, by go_num, HK2.out.low (below_drewN _ _), HL2.out.low (below_drewN _ _), HE2.out.low (below_drewN _ _), below_next HB2.out (below_drewN _ _)⟩
                  case measure => simp [intOf]; omega
                · obtain ⟨g, rfl⟩ : ∃ g, i = g + 1 := ⟨i - 1, by omega⟩
                  have ei : decide ((0 : Int) < ((g + 1 : Nat) : Int)) = true := decide_eq_true (by omega)
                  clear hi0
                  have hgl : g < T.length := by omega
                  have hwg : IntKind.i64.wrap (g : Int) = g := by rw [IntKind.wrap_i64]; omega
                  have tc : decide ((T[g + 1].a : Int) ≤ (T[g].a : Int)) = false := decide_eq_false (by have := HQ2.out g (by omega); omega)
                  have td : decide (T[g + 1].a ≤ T[g].a) = false := decide_eq_false (by have := HQ2.out g (by omega); omega)
                  go_upto_region 16 with (fail)
                  generalize World.alloc _ _ = W7 at HN HK2 HL2 HE2 HB2 ⊢
                  obtain ⟨yl, y0, y1, y2, -⟩ := HN.out
                  obtain ⟨c', o', hpt', hcl', z0, z1, z2⟩ := HK2.out g (by omega)
                  injection hpt' with hpt'
                  injection hpt' with hc' ho' _
                  subst hc' ho'
                  clear x0 x1 x2
                  go_quiet (fail)
                  go_wp2
                  go_roundw
                  case rel => exact ⟨g + 1 + 1, by omega, by go_num, HK2.out.low (below_drewN _ _), HL2.out.low (below_drewN _ _), HE2.out.low (below_drewN _ _), below_next HB2.out (below_drewN _ _)⟩
                  case measure => simp [intOf]; omega
              · have hid : decide ((i : Int) < T.length) = false := decide_eq_false (by omega)
                go_wp2
                go_roundw
                case rel => exact ⟨j + 1, by omega, by go_num, HL.out, HE.out, HB.out⟩
                case measure => simp [intOf]; omega
        · have hjd : decide ((j : Int) < 2) = false := decide_eq_false (by omega)
          clear hL HL
          go_wp2_with fail
          refine (known10_any _ HE.out hk hy hS hR).mono ?_
          rintro e w5 ⟨rfl, hb5⟩
          have HB5 := Lib.hid (below_next HB.out hb5)
          clear hb5
          go_wp2
          go_ret
          exact ⟨rfl, HB5.out⟩
end Go.Proofs.YtgaihglploedaabDoor
