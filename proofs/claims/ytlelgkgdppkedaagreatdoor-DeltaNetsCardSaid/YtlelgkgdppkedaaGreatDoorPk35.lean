/-
  Several texts in one.
-/
import Derived.Test.YtlelgkgdppkedaaGreatDoorPk33
import Derived.Test.YtlelgkgdppkedaaGreatDoorPk34
import Derived.Deep.AppendLies
import Derived.Test.YtlelgkgdppkedaaGreatDoorPk22
import Derived.Deep.RegionLaw
import Derived.Test.YtlelgkgdppkedaaGreatDoorPk16
import Derived.Test.YtlelgkgdppkedaaGreatDoorPk25
/-
  Bags of package delta: the rows that left, and those that came, in order.
-/
namespace Go.Proofs.YtlelgkgdppkedaaGreatDoor
set_option maxRecDepth 100000
open Go.RowKit
variable {ls : List Nat}

/-- The rows that left, and those that came. -/
def leftR (E : Dlt) : List (List Val) := E.D.map (·.2) ++ E.U.map (·.2.1)
def cameR (E : Dlt) : List (List Val) := E.I.map (·.2) ++ E.U.map (·.2.2)
/-- What Bags gives. -/
def BagsPost (E : Dlt) (w : World) (e : Ending) (w' : World) : Prop := ∃ (p1 : Option Addr) (c1 : Nat) (p2 : Option Addr) (c2 : Nat), e = .returned (.tuple #[.slice p1 (srt (leftR E)).length c1, .slice p2 (srt (cameR E)).length c2]) ∧ RowsAt w' p1 (srt (leftR E)) ∧ RowsAt w' p2 (srt (cameR E)) ∧ Below w.heap.size w w'
/-- Two lists of heads that grow. -/
structure BgW (w : World) (a b c d : Value) (vl vc : Value) (L M : List (List Val)) (v : World) : Prop where
  box : Cell4 v w.heap.size a b c d
  l : ∃ xs, v.ownsRow (w.heap.size + 1) 89 1 vl L.length xs ∧ HeadsAt w xs L
  c : ∃ xs, v.ownsRow (w.heap.size + 1) 89 1 vc M.length xs ∧ HeadsAt w xs M
  ne : ∀ g, vl.ownBlock = some g → vc.ownBlock ≠ some g
  low : Below w.heap.size w v
section
variable {w u v w8 : World} {a b c d vl vc : Value} {L M : List (List Val)} {xs : List Value} {l : List Val} {q : Option Addr} {cq g8 c8 : Nat}
theorem BgW.to (h : BgW w a b c d vl vc L M u) (hb : Below u.heap.size u v) : BgW w a b c d vl vc L M v := by
  obtain ⟨xs, h1, h2⟩ := h.l
  obtain ⟨ys, h3, h4⟩ := h.c
  exact ⟨h.box.low hb, ⟨xs, owns_below h1 hb, h2⟩, ⟨ys, owns_below h3 hb, h4⟩, h.ne, below_next h.low hb⟩
theorem BgW.pushL {n : Nat} (h : BgW w a b c d vl vc L M u) (hn : L.length = n) (hx : HeadsAt w (xs ++ [.slice q l.length cq]) (L ++ [l])) (ho : u.ownsRow (w.heap.size + 1) 89 1 vl n xs)
    (h8 : w8.ownsRow (w.heap.size + 1) 89 1 (.slice (some ⟨g8, 0, none⟩) (n + 1) c8) (n + 1) (xs ++ [.slice q l.length cq])) (hgr : u.grownBy w8 vl.ownBlock) (hat : vl.ownBlock = some g8 ∨ g8 = u.heap.size) :
    BgW w a b c d (.slice (some ⟨g8, 0, none⟩) (n + 1) c8) vc (L ++ [l]) M w8 := by
  subst hn
  obtain ⟨ys, h3, h4⟩ := h.c
  have hr : ∀ k, vl.ownBlock = some k → w.heap.size + 1 ≤ k := fun k hk => owns_block ho k hk
  refine ⟨h.box.grown hgr fun k hk => (by have := hr k hk; omega), ⟨_, by rw [List.length_append]; exact h8, hx⟩, ⟨ys, owns_keep h3 fun k hk => hgr.block k (owns_lt h3 k hk) (fun e => h.ne k e.symm hk), h4⟩, fun g hg he => ?_, grown_below h.low (Nat.le_trans (Nat.le_succ _) (Nat.succ_le_of_lt h.box.lt)) hgr fun k hk => (by have := hr k hk; omega)⟩
  obtain rfl : g8 = g := by
    have hg : some g8 = some g := hg
    exact Option.some.inj hg
  rcases hat with h1 | h1
  · exact h.ne _ h1 he
  · have := owns_lt h3 _ he
    omega
theorem BgW.pushC {n : Nat} (h : BgW w a b c d vl vc L M u) (hn : M.length = n) (hx : HeadsAt w (xs ++ [.slice q l.length cq]) (M ++ [l])) (ho : u.ownsRow (w.heap.size + 1) 89 1 vc n xs)
    (h8 : w8.ownsRow (w.heap.size + 1) 89 1 (.slice (some ⟨g8, 0, none⟩) (n + 1) c8) (n + 1) (xs ++ [.slice q l.length cq])) (hgr : u.grownBy w8 vc.ownBlock) (hat : vc.ownBlock = some g8 ∨ g8 = u.heap.size) :
    BgW w a b c d vl (.slice (some ⟨g8, 0, none⟩) (n + 1) c8) L (M ++ [l]) w8 := by
  subst hn
  obtain ⟨ys, h3, h4⟩ := h.l
  have hr : ∀ k, vc.ownBlock = some k → w.heap.size + 1 ≤ k := fun k hk => owns_block ho k hk
  refine ⟨h.box.grown hgr fun k hk => (by have := hr k hk; omega), ⟨ys, owns_keep h3 fun k hk => hgr.block k (owns_lt h3 k hk) (fun e => h.ne k hk e.symm), h4⟩, ⟨_, by rw [List.length_append]; exact h8, hx⟩, fun g hg he => ?_, grown_below h.low (Nat.le_trans (Nat.le_succ _) (Nat.succ_le_of_lt h.box.lt)) hgr fun k hk => (by have := hr k hk; omega)⟩
  obtain rfl : g8 = g := by
    have he : some g8 = some g := he
    exact Option.some.inj he
  rcases hat with h1 | h1
  · exact h.ne _ hg h1
  · have := owns_lt h3 _ hg
    omega
theorem BgW.shapeL (h : BgW w a b c d vl vc L M u) : ∃ p n, vl = .slice p L.length n := by
  obtain ⟨xs, h1, -⟩ := h.l
  exact own_ex h1
theorem BgW.shapeC (h : BgW w a b c d vl vc L M u) : ∃ p n, vc = .slice p M.length n := by
  obtain ⟨xs, h1, -⟩ := h.c
  exact own_ex h1
theorem cell3_grownR {X : Nat} {x y z : Value} {row : Option Nat} (h : Cell3 u X x y z) (hg : u.grownBy v row) (hr : ∀ k, row = some k → k < X) : Cell3 v X x y z := by
  have hb := hg.block X h.lt (fun e => by have := hr X e.symm; omega)
  exact ⟨Nat.lt_of_lt_of_le h.lt hg.size, by rw [World.cell?_of_block (w := u) hb]; exact h.c0, by rw [World.cell?_of_block (w := u) hb]; exact h.c1, by rw [World.cell?_of_block (w := u) hb]; exact h.c2, fun o => by rw [World.frozen?_of_block (w := u) hb]; exact h.fz o⟩
theorem upd_take1 {U : List PRow} {k : Nat} (h : k < U.length) : (U.take (k + 1)).map (·.2.1) = (U.take k).map (·.2.1) ++ [(pAt U k).2.1] := by
  rw [← List.take_append_getElem h, List.map_append, pAt_get h]; rfl
theorem upd_take2 {U : List PRow} {k : Nat} (h : k < U.length) : (U.take (k + 1)).map (·.2.2) = (U.take k).map (·.2.2) ++ [(pAt U k).2.2] := by
  rw [← List.take_append_getElem h, List.map_append, pAt_get h]; rfl
end
set_option maxHeartbeats 4000000 in
theorem dbags_any (E : Dlt) (w : World) (hE : DltAt w E) (hl : E.D.length + E.I.length + E.U.length ≤ 1000) :
    Calls Tryz.prog 16 #[.agg #[.string E.nm, .slice E.pi E.I.length E.ci, .slice E.pd E.D.length E.cd, .slice E.pu E.U.length E.cu]] w (BagsPost E w) := by
  obtain ⟨nm, pi, ci, I, pd, cd, D, pu, cu, U⟩ := E
  dsimp only at hl ⊢
  obtain ⟨i25, hi25, hz25, hs25, hb25⟩ := info_parts info_row
  have HE := Lib.hid hE
  have HW0 := Lib.hid (BgW.mk (cell4_new w (.string nm) (.slice pi I.length ci) (.slice pd D.length cd) (.slice pu U.length cu) 25) ⟨[], ⟨rfl, Or.inl ⟨rfl, rfl⟩⟩, HeadsAt.nil _⟩ ⟨[], ⟨rfl, Or.inl ⟨rfl, rfl⟩⟩, HeadsAt.nil _⟩ (fun g hg => by cases hg) (below_alloc w (.cells #[.string nm, .slice pi I.length ci, .slice pd D.length cd, .slice pu U.length cu] 25)) : BgW w (.string nm) (.slice pi I.length ci) (.slice pd D.length cd) (.slice pu U.length cu) (.slice none 0 0) (.slice none 0 0) [] [] _)
  clear hE
  go_enter Tryz.func16, Tryz.ntmps16
  go_upto_region 1 with (fail)
  generalize World.alloc _ _ = W1 at HW0 ⊢
  obtain ⟨bl, b0, b1, b2, b3, -⟩ := HW0.out.box
  go_wp2_with fail
  go_loopw [4, 15] (fun s i v => ∃ k : Nat, k ≤ D.length ∧ i = .int .i64 k ∧ BgW w (.string nm) (.slice pi I.length ci) (.slice pd D.length cd) (.slice pu U.length cu) s (.slice none 0 0) ((D.take k).map (·.2)) [] v) (fun _ i _ => D.length - (intOf i).toNat)
  case atStart => exact ⟨0, Nat.zero_le _, rfl, HW0.out⟩
  clear HW0
  case round =>
    rename_i s
    obtain ⟨k, hk, rfl, hw⟩ := hrel
    obtain ⟨p1, n1, hs⟩ := hw.shapeL
    have hLn : ((D.take k).map (·.2)).length = k := by rw [List.length_map, List.length_take]; omega
    rw [hLn] at hs
    subst hs
    have HW := Lib.hid hw
    clear hw
    by_cases hlt : k < D.length
    · have hlt' : decide ((k : Int) < D.length) = true := decide_eq_true (by omega)
      obtain ⟨c, o, q, cp, hp, hc', h0', h1', hr, hs, hqn⟩ := HE.out.del k hlt
      dsimp only at hc' h0' h1' hr hs hqn
      have hc := Nat.lt_of_lt_of_le hc' HW.out.low.size
      have h0 : wr.cell? ⟨c, o + k * 2, none⟩ = some (.int .i64 (tAt D k).1) := by rw [HW.out.low.cell (by exact hc')]; exact h0'
      have h1 : wr.cell? ⟨c, o + k * 2 + 1, none⟩ = some (.slice q (tAt D k).2.length cp) := by rw [HW.out.low.cell (by exact hc')]; exact h1'
      have hb7 := below_new (below_new (Below.refl wr.heap.size wr) (.cells #[.int .i64 (tAt D k).1, .slice q (tAt D k).2.length cp] 91)) (.cells #[.slice q (tAt D k).2.length cp] 89)
      have HW7 := Lib.hid (HW.out.to hb7)
      obtain ⟨xs, ho7, hg7⟩ := HW7.out.l
      rw [hLn] at ho7
      have HO7 := Lib.hid ho7
      have HX := Lib.hid (heads_add hg7 hr hs hqn)
      have HNEW := Lib.hid (head_news wr (.cells #[.int .i64 (tAt D k).1, .slice q (tAt D k).2.length cp] 91) (.slice q (tAt D k).2.length cp))
      have HZ : Hid (w.heap.size + 1 ≤ ((wr.alloc (.cells #[.int .i64 (tAt D k).1, .slice q (tAt D k).2.length cp] 91)).alloc (.cells #[.slice q (tAt D k).2.length cp] 89)).heap.size) := Lib.hid (Nat.succ_le_of_lt HW7.out.box.lt)
      clear hr hqn h0' h1' hc' hb7 ho7 hg7
      dsimp only at hp
      subst hp
      go_wp2_with (at_builtin; refine wpList_append_lies _ rfl (.tmp 19) (.tmp 22) 43 rfl (w.heap.size + 1) 89 i25 _ 1 24 Tryz.underlying43 hi25 hz25 hs25 hb25 rfl (by decide) (.slice p1 k n1) k xs (by rfl) HO7.out ⟨wr.heap.size + 1, 0, none⟩ 1 1 [.slice q (tAt D k).2.length cp] (by rfl) rfl HNEW.out (by intro u hu; obtain rfl := List.mem_singleton.1 hu; rfl) (by decide) (by unfold maxLen; omega) (by omega) HZ.out _ rfl ?_; intro g8 c8 w8 hown8 hgr8 hat8 hlt8; (have HW8 := Lib.hid (HW7.out.pushL hLn HX.out HO7.out hown8 hgr8 hat8)); clear hown8 hgr8 hat8 hlt8)
      go_roundw
      case rel => exact ⟨k + 1, by omega, by go_num, by rw [bag_take hlt]; exact HW8.out⟩
      case measure => simp [intOf]; omega
    · have hlt' : decide ((k : Int) < D.length) = false := decide_eq_false (by omega)
      obtain rfl : k = D.length := by omega
      have hw := HW.out
      rw [List.take_length] at hw
      have HWA := Lib.hid hw
      obtain ⟨bl, b0, b1, b2, b3, -⟩ := HWA.out.box
      clear hw HW hLn
      go_wp2_with fail
      go_loopw [5, 28] (fun s i v => ∃ k : Nat, k ≤ I.length ∧ i = .int .i64 k ∧ BgW w (.string nm) (.slice pi I.length ci) (.slice pd D.length cd) (.slice pu U.length cu) (.slice p1 D.length n1) s (D.map (·.2)) ((I.take k).map (·.2)) v) (fun _ i _ => I.length - (intOf i).toNat)
      case atStart => exact ⟨0, Nat.zero_le _, rfl, HWA.out⟩
      clear HWA
      case round =>
        rename_i s
        obtain ⟨k, hk, rfl, hw⟩ := hrel
        obtain ⟨p2, n2, hs⟩ := hw.shapeC
        have hLn : ((I.take k).map (·.2)).length = k := by rw [List.length_map, List.length_take]; omega
        rw [hLn] at hs
        subst hs
        have HW := Lib.hid hw
        clear hw
        by_cases hlt : k < I.length
        · have hlt' : decide ((k : Int) < I.length) = true := decide_eq_true (by omega)
          obtain ⟨c, o, q, cp, hp, hc', h0', h1', hr, hs, hqn⟩ := HE.out.ins k hlt
          dsimp only at hc' h0' h1' hr hs hqn
          have hc := Nat.lt_of_lt_of_le hc' HW.out.low.size
          have h0 : wr.cell? ⟨c, o + k * 2, none⟩ = some (.int .i64 (tAt I k).1) := by rw [HW.out.low.cell (by exact hc')]; exact h0'
          have h1 : wr.cell? ⟨c, o + k * 2 + 1, none⟩ = some (.slice q (tAt I k).2.length cp) := by rw [HW.out.low.cell (by exact hc')]; exact h1'
          have hb7 := below_new (below_new (Below.refl wr.heap.size wr) (.cells #[.int .i64 (tAt I k).1, .slice q (tAt I k).2.length cp] 91)) (.cells #[.slice q (tAt I k).2.length cp] 89)
          have HW7 := Lib.hid (HW.out.to hb7)
          obtain ⟨xs, ho7, hg7⟩ := HW7.out.c
          rw [hLn] at ho7
          have HO7 := Lib.hid ho7
          have HX := Lib.hid (heads_add hg7 hr hs hqn)
          have HNEW := Lib.hid (head_news wr (.cells #[.int .i64 (tAt I k).1, .slice q (tAt I k).2.length cp] 91) (.slice q (tAt I k).2.length cp))
          have HZ : Hid (w.heap.size + 1 ≤ ((wr.alloc (.cells #[.int .i64 (tAt I k).1, .slice q (tAt I k).2.length cp] 91)).alloc (.cells #[.slice q (tAt I k).2.length cp] 89)).heap.size) := Lib.hid (Nat.succ_le_of_lt HW7.out.box.lt)
          clear hr hqn h0' h1' hc' hb7 ho7 hg7
          dsimp only at hp
          subst hp
          go_wp2_with (at_builtin; refine wpList_append_lies _ rfl (.tmp 32) (.tmp 35) 43 rfl (w.heap.size + 1) 89 i25 _ 1 24 Tryz.underlying43 hi25 hz25 hs25 hb25 rfl (by decide) (.slice p2 k n2) k xs (by rfl) HO7.out ⟨wr.heap.size + 1, 0, none⟩ 1 1 [.slice q (tAt I k).2.length cp] (by rfl) rfl HNEW.out (by intro u hu; obtain rfl := List.mem_singleton.1 hu; rfl) (by decide) (by unfold maxLen; omega) (by omega) HZ.out _ rfl ?_; intro g8 c8 w8 hown8 hgr8 hat8 hlt8; (have HW8 := Lib.hid (HW7.out.pushC hLn HX.out HO7.out hown8 hgr8 hat8)); clear hown8 hgr8 hat8 hlt8)
          go_roundw
          case rel => exact ⟨k + 1, by omega, by go_num, by rw [bag_take hlt]; exact HW8.out⟩
          case measure => simp [intOf]; omega
        · have hlt' : decide ((k : Int) < I.length) = false := decide_eq_false (by omega)
          obtain rfl : k = I.length := by omega
          have hw := HW.out
          rw [List.take_length] at hw
          have HWB := Lib.hid hw
          obtain ⟨bl, b0, b1, b2, b3, -⟩ := HWB.out.box
          clear hw HW hLn
          go_wp2_with fail
          go_loopw [4, 5, 41] (fun sl sc i v => ∃ k : Nat, k ≤ U.length ∧ i = .int .i64 k ∧ BgW w (.string nm) (.slice pi I.length ci) (.slice pd D.length cd) (.slice pu U.length cu) sl sc (D.map (·.2) ++ (U.take k).map (·.2.1)) (I.map (·.2) ++ (U.take k).map (·.2.2)) v) (fun _ _ i _ => U.length - (intOf i).toNat)
          case atStart => exact ⟨0, Nat.zero_le _, rfl, by simpa using HWB.out⟩
          clear HWB
          case round =>
            rename_i sl sc
            obtain ⟨k, hk, rfl, hw⟩ := hrel
            obtain ⟨pl, nl, hsl⟩ := hw.shapeL
            obtain ⟨pc, nc, hsc⟩ := hw.shapeC
            have hLl : (D.map (·.2) ++ (U.take k).map (·.2.1)).length = D.length + k := by rw [List.length_append, List.length_map, List.length_map, List.length_take]; omega
            have hMl : (I.map (·.2) ++ (U.take k).map (·.2.2)).length = I.length + k := by rw [List.length_append, List.length_map, List.length_map, List.length_take]; omega
            rw [hLl] at hsl
            rw [hMl] at hsc
            subst hsl hsc
            have HW := Lib.hid hw
            clear hw
            by_cases hlt : k < U.length
            · have hlt' : decide ((k : Int) < U.length) = true := decide_eq_true (by omega)
              obtain ⟨c, o, q, cq, r, cr, hp, hc', h0', h1', h2', hr, hr2, hs, hs2, hqn, hrn⟩ := HE.out.upd k hlt
              dsimp only at hc' h0' h1' h2' hr hr2 hs hs2 hqn hrn
              have hc := Nat.lt_of_lt_of_le hc' HW.out.low.size
              have h0 : wr.cell? ⟨c, o + k * 3, none⟩ = some (.int .i64 (pAt U k).1) := by rw [HW.out.low.cell (by exact hc')]; exact h0'
              have h1 : wr.cell? ⟨c, o + k * 3 + 1, none⟩ = some (.slice q (pAt U k).2.1.length cq) := by rw [HW.out.low.cell (by exact hc')]; exact h1'
              have h2 : wr.cell? ⟨c, o + k * 3 + 2, none⟩ = some (.slice r (pAt U k).2.2.length cr) := by rw [HW.out.low.cell (by exact hc')]; exact h2'
              have HWP := Lib.hid (HW.out.to (below_alloc wr (.cells #[.int .i64 (pAt U k).1, .slice q (pAt U k).2.1.length cq, .slice r (pAt U k).2.2.length cr] 108)))
              have HP := Lib.hid (cell3_new wr (.int .i64 (pAt U k).1) (.slice q (pAt U k).2.1.length cq) (.slice r (pAt U k).2.2.length cr) 108)
              have HRQ := Lib.hid hr
              have HRR := Lib.hid hr2
              have HQN := Lib.hid hqn
              have HRN := Lib.hid hrn
              clear hr hr2 hqn hrn h0' h1' h2' hc'
              obtain ⟨_, ho5, -⟩ := HW.out.l
              have HLT := Lib.hid (owns_lt ho5)
              clear ho5
              dsimp only at hp
              subst hp
              go_upto_region 15 with (fail)
              clear h0 h1 h2 hc HW
              generalize World.alloc _ _ = W5 at HWP HP ⊢
              generalize wr.heap.size = Y at HP HLT ⊢
              have HW6 := Lib.hid (HWP.out.to (below_alloc W5 (.cells #[.slice q (pAt U k).2.1.length cq] 89)))
              obtain ⟨xs, ho6, hg6⟩ := HW6.out.l
              rw [hLl] at ho6
              have HO6 := Lib.hid ho6
              have HX := Lib.hid (heads_add hg6 HRQ.out hs HQN.out)
              have HNEW := Lib.hid (one_news W5 (.slice q (pAt U k).2.1.length cq))
              have HZ : Hid (w.heap.size + 1 ≤ (W5.alloc (.cells #[.slice q (pAt U k).2.1.length cq] 89)).heap.size) := Lib.hid (Nat.succ_le_of_lt HW6.out.box.lt)
              have HP6 := Lib.hid (HP.out.low (below_alloc W5 (.cells #[.slice q (pAt U k).2.1.length cq] 89)))
              obtain ⟨yl, y0, y1, y2, -⟩ := HP.out
              clear ho6 hg6
              go_upto_region 16 with (at_builtin; refine wpList_append_lies _ rfl (.tmp 45) (.tmp 48) 43 rfl (w.heap.size + 1) 89 i25 _ 1 24 Tryz.underlying43 hi25 hz25 hs25 hb25 rfl (by decide) (.slice pl (D.length + k) nl) (D.length + k) xs (by rfl) HO6.out ⟨W5.heap.size, 0, none⟩ 1 1 [.slice q (pAt U k).2.1.length cq] (by rfl) rfl HNEW.out (by intro u hu; obtain rfl := List.mem_singleton.1 hu; rfl) (by decide) (by unfold maxLen; omega) (by omega) HZ.out _ rfl ?_; intro g8 c8 w8 hown8 hgr8 hat8 hlt8; (have HW8 := Lib.hid (HW6.out.pushL hLl HX.out HO6.out hown8 hgr8 hat8)); (have HP8 := Lib.hid (cell3_grownR HP6.out hgr8 HLT.out)); clear hown8 hgr8 hat8 hlt8)
              clear HWP HP HW6 HO6 HX HNEW HZ HP6 yl y0 y1 y2
              have HW9 := Lib.hid (HW8.out.to (below_alloc w8 (.cells #[.slice r (pAt U k).2.2.length cr] 89)))
              obtain ⟨ys, ho9, hg9⟩ := HW9.out.c
              rw [hMl] at ho9
              have HO9 := Lib.hid ho9
              have HX := Lib.hid (heads_add hg9 HRR.out hs2 HRN.out)
              have HNEW := Lib.hid (one_news w8 (.slice r (pAt U k).2.2.length cr))
              have HZ : Hid (w.heap.size + 1 ≤ (w8.alloc (.cells #[.slice r (pAt U k).2.2.length cr] 89)).heap.size) := Lib.hid (Nat.succ_le_of_lt HW9.out.box.lt)
              obtain ⟨yl, y0, y1, y2, -⟩ := HP8.out
              clear ho9 hg9
              go_wp2_with (at_builtin; refine wpList_append_lies _ rfl (.tmp 50) (.tmp 53) 43 rfl (w.heap.size + 1) 89 i25 _ 1 24 Tryz.underlying43 hi25 hz25 hs25 hb25 rfl (by decide) (.slice pc (I.length + k) nc) (I.length + k) ys (by rfl) HO9.out ⟨w8.heap.size, 0, none⟩ 1 1 [.slice r (pAt U k).2.2.length cr] (by rfl) rfl HNEW.out (by intro u hu; obtain rfl := List.mem_singleton.1 hu; rfl) (by decide) (by unfold maxLen; omega) (by omega) HZ.out _ rfl ?_; intro g9 c9 w10 hown9 hgr9 hat9 hlt9; (have HWT := Lib.hid (HW9.out.pushC hMl HX.out HO9.out hown9 hgr9 hat9)); clear hown9 hgr9 hat9 hlt9)
              go_roundw
              case rel => exact ⟨k + 1, by omega, by go_num, by rw [upd_take1 hlt, upd_take2 hlt, ← List.append_assoc, ← List.append_assoc]; exact HWT.out⟩
              case measure => simp [intOf]; omega
            · have hlt' : decide ((k : Int) < U.length) = false := decide_eq_false (by omega)
              obtain rfl : k = U.length := by omega
              have hw := HW.out
              rw [List.take_length] at hw
              obtain ⟨xs, ho1, hg1⟩ := hw.l
              obtain ⟨ys, ho2, hg2⟩ := hw.c
              have HL := Lib.hid (rows_of_heads ho1 (hg1.low hw.low) : RowsAt wr pl (leftR ⟨nm, pi, ci, I, pd, cd, D, pu, cu, U⟩))
              have HM := Lib.hid (rows_of_heads ho2 (hg2.low hw.low) : RowsAt wr pc (cameR ⟨nm, pi, ci, I, pd, cd, D, pu, cu, U⟩))
              have HB := Lib.hid hw.low
              have hL9 : (leftR ⟨nm, pi, ci, I, pd, cd, D, pu, cu, U⟩).length ≤ 1000 := by unfold leftR; rw [List.length_append, List.length_map, List.length_map]; dsimp only; omega
              have hM9 : (cameR ⟨nm, pi, ci, I, pd, cd, D, pu, cu, U⟩).length ≤ 1000 := by unfold cameR; rw [List.length_append, List.length_map, List.length_map]; dsimp only; omega
              have hLe : (leftR ⟨nm, pi, ci, I, pd, cd, D, pu, cu, U⟩).length = D.length + U.length := by unfold leftR; rw [List.length_append, List.length_map, List.length_map]
              have hMe : (cameR ⟨nm, pi, ci, I, pd, cd, D, pu, cu, U⟩).length = I.length + U.length := by unfold cameR; rw [List.length_append, List.length_map, List.length_map]
              have HSL := Lib.hid (sort_any (leftR ⟨nm, pi, ci, I, pd, cd, D, pu, cu, U⟩) pl nl _ hL9 HL.out)
              rw [hLe] at HSL
              clear hw HW ho1 ho2 hg1 hg2 hLl hMl
              go_wp2_with fail
              refine HSL.out.mono ?_
              rintro e w3 ⟨p3, c3, rfl, hr3, hl3, hb3⟩
              have HR3 := Lib.hid hr3
              have HM3 := Lib.hid (HM.out.low hb3)
              have HB3 := Lib.hid (below_next HB.out hb3)
              clear hr3 hl3 hb3
              go_wp2_with fail
              have HSM := Lib.hid (sort_any (cameR ⟨nm, pi, ci, I, pd, cd, D, pu, cu, U⟩) pc nc _ hM9 HM3.out)
              rw [hMe] at HSM
              refine HSM.out.mono ?_
              rintro e w4 ⟨p4, c4, rfl, hr4, hl4, hb4⟩
              have HR4 := Lib.hid (HR3.out.low hb4)
              have HR5 := Lib.hid hr4
              have HB4 := Lib.hid (below_next HB3.out hb4)
              clear hr4 hl4 hb4
              go_wp2
              go_ret2
              exact ⟨p3, c3, p4, c4, rfl, HR4.out, HR5.out, HB4.out⟩
end Go.Proofs.YtlelgkgdppkedaaGreatDoor
/-
  Package delta and its reference: copies of rows, equality of rows and of schemas.
-/
namespace Go.Proofs.YtlelgkgdppkedaaGreatDoor
set_option maxRecDepth 100000
open Go.RowKit
variable {ls : List Nat}

set_option maxHeartbeats 1000000 in
theorem eqvalsB_any (p q : Option Addr) (a b : List Val) (ca cb : Nat) (w : World) (hla : a.length ≤ 9223372036854775807) (ha : RowAt w p a) (hb : RowAt w q b) :
    Calls Tryz.prog 145 #[.slice p a.length ca, .slice q b.length cb, .func (.func 66) #[] #[]] w fun e w' => e = .returned (.bool (decide (a = b))) ∧ Below w.heap.size w w' := by
  have HP := Lib.hid ha
  have HQ := Lib.hid hb
  clear ha hb
  by_cases hl : a.length = b.length
  · have hlI : ((a.length : Int) != (b.length : Int)) = false := by simp [hl]
    have HL := Lib.hid hl
    clear hl
    go_enter Tryz.func145, Tryz.ntmps145
    go_wp2_with fail
    go_loopw [17] (fun i v => ∃ k : Nat, k ≤ a.length ∧ i = .int .i64 k ∧ (∀ j, j < k → vAt a j = vAt b j) ∧ Below w.heap.size w v) (fun i _ => a.length - (intOf i).toNat)
    case atStart => exact ⟨0, Nat.zero_le _, rfl, fun j hj => by omega, Below.refl _ _⟩
    case round =>
      obtain ⟨k, hk, rfl, heq, hb⟩ := hrel
      have HEQ := Lib.hid heq
      have HB := Lib.hid hb
      clear heq hb
      by_cases hlt : k < a.length
      · have hlt' : decide ((k : Int) < a.length) = true := decide_eq_true (by omega)
        have hkb : k < b.length := by have := HL.out; omega
        have hkI : (k : Int) < (b.length : Int) := by omega
        obtain ⟨c, o, rfl, hc, x0, x1, x2⟩ := HP.out.low HB.out k hlt
        obtain ⟨c', o', rfl, hc', y0, y1, y2⟩ := HQ.out.low HB.out k hkb
        go_wp2_with fail
        refine (same_any _ _ _ _ _ _ _).mono ?_
        rintro e v1 ⟨rfl, hb1⟩
        have HB1 := Lib.hid (below_next (below_new (below_new HB.out _) _) hb1)
        clear HB hb1 x0 x1 x2 y0 y1 y2 hc hc'
        cases hsame : sameV (vAt a k).1 (vAt a k).2.1 (vAt a k).2.2 (vAt b k).1 (vAt b k).2.1 (vAt b k).2.2
        · have HD : Hid (¬ a = b) := Lib.hid (fun h => by
            rw [h] at hsame
            rw [same_vals.2 rfl] at hsame
            cases hsame)
          go_wp2
          go_ret
          exact ⟨ret_b (decide_eq_false HD.out).symm, HB1.out⟩
        · have HS := Lib.hid (same_vals.1 hsame)
          go_wp2
          go_roundw
          case rel => exact ⟨k + 1, by omega, by go_num, fun j hj => by
            by_cases hjk : j = k
            · subst hjk; exact HS.out
            · exact HEQ.out j (by omega), HB1.out⟩
          case measure => simp [intOf]; omega
      · have hlt' : decide ((k : Int) < a.length) = false := decide_eq_false (by omega)
        obtain rfl : k = a.length := by omega
        have HD : Hid (a = b) := Lib.hid (ext_vals HL.out HEQ.out)
        go_wp2
        go_ret
        exact ⟨ret_b (decide_eq_true HD.out).symm, HB.out⟩
  · have hlI : ((a.length : Int) != (b.length : Int)) = true := bne_iff_ne.2 (by omega)
    have HD : Hid (¬ a = b) := Lib.hid (fun h => hl (by rw [h]))
    clear hl
    go_enter Tryz.func145, Tryz.ntmps145
    go_wp2
    go_ret
    exact ⟨ret_b (decide_eq_false HD.out).symm, Below.refl _ _⟩
theorem dsamerow_any (p q : Option Addr) (a b : List Val) (ca cb : Nat) (w : World) (hla : a.length ≤ 9223372036854775807) (ha : RowAt w p a) (hb : RowAt w q b) :
    Calls Tryz.prog 114 #[.slice p a.length ca, .slice q b.length cb] w fun e w' => e = .returned (.bool (decide (a = b))) ∧ Below w.heap.size w w' := by
  have HA := Lib.hid ha
  have HB := Lib.hid hb
  clear ha hb
  go_enter Tryz.func114, Tryz.ntmps114
  go_wp2_with fail
  refine (eqvalsB_any p q a b ca cb _ hla HA.out HB.out).mono ?_
  rintro e w2 ⟨rfl, hb2⟩
  have HC := Lib.hid hb2
  clear hb2
  go_wp2
  go_ret
  exact ⟨rfl, HC.out⟩
set_option maxHeartbeats 2000000 in
theorem rcopyrow_any (id : Int) (t : List Val) (q : Option Addr) (cp : Nat) (w : World) (hr : RowAt w q t) (hz : t.length * 32 ≤ 140737488355328) (hn : q = none → t = [] ∧ cp = 0) :
    Calls Tryz.prog 58 #[.agg #[.int .i64 id, .slice q t.length cp]] w (CopyRowPost id t w) := by
  have HX := Lib.hid ((cell2_row w id (.slice q t.length cp)).low (below_alloc _ (.cells #[.int .i64 0, .slice none 0 0] 91)))
  have hy := cell2_row (w.alloc (.cells #[.int .i64 id, .slice q t.length cp] 91)) 0 (.slice none 0 0)
  rw [size_alloc] at hy
  have HY := Lib.hid hy
  have hb0 := below_new (below_new (Below.refl w.heap.size w) (.cells #[.int .i64 id, .slice q t.length cp] 91)) (.cells #[.int .i64 0, .slice none 0 0] 91)
  have HB := Lib.hid hb0
  have HR := Lib.hid (hr.low hb0)
  have HN := Lib.hid hn
  clear hy hb0 hr hn
  go_enter Tryz.func58, Tryz.ntmps58
  go_upto_region 1 with (fail)
  generalize World.alloc _ _ = W1 at HX HY HB HR ⊢
  obtain ⟨xl, x0, x1, -⟩ := HX.out
  have HRD := Lib.hid (HR.out.low (Below.refl W1.heap.size W1).drew)
  have HXD := Lib.hid (HX.out.low (Below.refl W1.heap.size W1).drew)
  have HYD := Lib.hid (HY.out.low (Below.refl W1.heap.size W1).drew)
  have HBD := Lib.hid (below_next HB.out (Below.refl W1.heap.size W1).drew)
  go_region_law (first
    | (go_simp; go_at_call 60; refine (rcopy_any t q cp _ HRD.out hz HN.out).mono ?_; rintro e w3 ⟨v3, rfl, hin, hb3⟩; obtain ⟨p3, c3, e3⟩ := InRow.ex hin; subst e3; (have HIN := Lib.hid hin); (have HB3 := Lib.hid hb3); obtain ⟨zl, z0, z1, -⟩ := HXD.out.low hb3; obtain ⟨yl, y0, y1, yf⟩ := HYD.out.low hb3; clear hin hb3))
  all_goals
    go_wp2
    have hz0 : w.heap.size + 1 < W1.heap.size := HY.out.lt
    have HS := cell2_put w3 (HYD.out.low HB3.out) (.int .i64 id) (.slice p3 t.length c3)
    obtain ⟨-, s0, s1, -⟩ := HS
    exact bodyPost_ret (v := .agg #[.int .i64 id, .slice p3 t.length c3]) (by simp [results, Tryz.results58, go_sem, s0, s1]) rfl
      ⟨_, rfl, (HIN.out.base (show w.heap.size + 2 ≤ W1.drew.heap.size from by show w.heap.size + 2 ≤ W1.heap.size; omega)).keep2 (fun k h1 _ => by rw [Below.heap_setCell _ _ _ _ (show k ≠ w.heap.size + 1 by omega), Below.heap_setCell _ _ _ _ (show k ≠ w.heap.size + 1 by omega)]) |>.base (by omega),
        ((below_next HBD.out HB3.out).setCell (by show w.heap.size ≤ w.heap.size + 1; omega) _).setCell (by show w.heap.size ≤ w.heap.size + 1; omega) _⟩
end Go.Proofs.YtlelgkgdppkedaaGreatDoor
/-
  Append of another's slice, nil or not, to a row of the call's own.
-/
namespace Go.Proofs.YtlelgkgdppkedaaGreatDoor
set_option maxRecDepth 100000
open Go.RowKit

theorem run_append_nil7 {P : Program} {w : World} (base : Nat) (t ty e : TypeId) (i : TypeInfo) (size : Nat) (ht : P.underlying t = some (.slice e)) (hi : P.info? e = some i)
    (v : Value) (n c : Nat) (xs : List Value) (hown : w.ownsRow base e size v n xs) :
    (Builtin.append_ #[t, t] ty #[v, .slice none 0 c]).run P w = .ok v w := by
  rcases hown.2 with ⟨rfl, rfl⟩ | ⟨g, cap, cur, rfl, _, _, hnc, _⟩
  · simp [Builtin.append_, run_underlying ht, sizeOf, typeInfo, hi, Builtin.lenOf, Builtin.firstCells]
  · simp [Builtin.append_, run_underlying ht, sizeOf, typeInfo, hi, Builtin.lenOf, Builtin.firstCells, hnc, storeCells]
/-- Append of another's slice, nil or not, to a row of the call's own. -/
theorem wpList_append_any {w : World} {ops : Array Oper} {rest : List Oper} {o : Oper} {a : Act} {Q : Exit → Act → World → Prop} (hgd : o.guard = none) (s x : Operand) (t e : TypeId)
    (ho : o.op = .call { callee := .builtin .append, args := #[s, x], argTypes := #[t, t] })
    (base : Nat) (i0 : TypeInfo) (z : Value) (size bytes : Nat) (ht : Tryz.prog.underlying t = some (.slice e)) (hi : Tryz.prog.info? e = some i0) (hz0 : i0.zero = some z) (hz1 : i0.size = size) (hz2 : i0.bytes = bytes) (hzs : z.cells.size = size) (hsz : 0 < size) (v : Value) (n : Nat) (xs : List Value) (hs : a.eval s = v) (hown : w.ownsRow base e size v n xs)
    (px : Option Addr) (m cx : Nat) (ys : List Value) (hx : a.eval x = .slice px m cx) (hl : ys.length = m * size) (hsrc : ∀ ad, px = some ad → ∀ j u, ys[j]? = some u → w.cell? (ad.add j) = some u) (hnil : px = none → ys = []) (h1 : ∀ u ∈ ys, u.oneCell' = true) (h63 : n + m ≤ maxLen) (hsum : (n + m) * bytes ≤ 140737488355328) (hbase : base ≤ w.heap.size)
    (h : ∀ v' w', w'.ownsRow base e size v' (n + m) (xs ++ ys) → w.grownBy w' v.ownBlock → wpList Tryz.prog ops Q rest (a.put o.dst v') w') : wpList Tryz.prog ops Q (o :: rest) a w := by
  cases px with
  | none =>
    obtain rfl := hnil rfl
    obtain rfl : m = 0 := by
      rw [List.length_nil] at hl
      rcases Nat.mul_eq_zero.1 hl.symm with h0 | h0
      · exact h0
      · omega
    refine wpList_plain hgd fun K hK => ?_
    have hrun := run_append_nil7 (P := Tryz.prog) (w := w) base t o.type e i0 size ht hi v n cx xs hown
    unfold Oper.wp
    simp [execOp, ho, resolve, invoke, builtin, hs, hx, hrun, Result.andThen]
    exact hK _ _ (h v w (by simpa using hown) (World.grownBy.refl w _))
  | some ad =>
    refine wpList_append_own w hgd s x t ho base e i0 z size bytes ht hi hz0 hz1 hz2 hzs hsz v n xs hs hown ad m cx ys hx hl (hsrc ad rfl) h1 h63 hsum hbase ?_
    intro v' w' h1 h2 _
    exact h v' w' h1 h2
theorem step_append_any {w : World} {ops : Array Oper} {o : Oper} {a : Act} {K : Act → World → Prop} {Q : Exit → Act → World → Prop} {E : Prop} (hgd : o.guard = none) (s x : Operand) (t e : TypeId)
    (ho : o.op = .call { callee := .builtin .append, args := #[s, x], argTypes := #[t, t] })
    (base : Nat) (i0 : TypeInfo) (z : Value) (size bytes : Nat) (ht : Tryz.prog.underlying t = some (.slice e)) (hi : Tryz.prog.info? e = some i0) (hz0 : i0.zero = some z) (hz1 : i0.size = size) (hz2 : i0.bytes = bytes) (hzs : z.cells.size = size) (hsz : 0 < size) (v : Value) (n : Nat) (xs : List Value) (hs : a.eval s = v) (hown : w.ownsRow base e size v n xs)
    (px : Option Addr) (m cx : Nat) (ys : List Value) (hx : a.eval x = .slice px m cx) (hl : ys.length = m * size) (hsrc : ∀ ad, px = some ad → ∀ j u, ys[j]? = some u → w.cell? (ad.add j) = some u) (hnil : px = none → ys = []) (h1 : ∀ u ∈ ys, u.oneCell' = true) (h63 : n + m ≤ maxLen) (hsum : (n + m) * bytes ≤ 140737488355328) (hbase : base ≤ w.heap.size)
    (h : ∀ v' w', w'.ownsRow base e size v' (n + m) (xs ++ ys) → w.grownBy w' v.ownBlock → K (a.put o.dst v') w') : if Region.wanted o (yielded ops a.tmps) = true then Oper.wp Tryz.prog o a w K Q else E := by
  refine step_of hgd ?_
  cases px with
  | none =>
    obtain rfl := hnil rfl
    obtain rfl : m = 0 := by
      rw [List.length_nil] at hl
      rcases Nat.mul_eq_zero.1 hl.symm with h0 | h0
      · exact h0
      · omega
    have hrun := run_append_nil7 (P := Tryz.prog) (w := w) base t o.type e i0 size ht hi v n cx xs hown
    unfold Oper.wp
    simp [execOp, ho, resolve, invoke, builtin, hs, hx, hrun, Result.andThen]
    exact h v w (by simpa using hown) (World.grownBy.refl w _)
  | some ad =>
    refine wp_append_own w s x t ho base e i0 z size bytes ht hi hz0 hz1 hz2 hzs hsz v n xs hs hown ad m cx ys hx hl (hsrc ad rfl) h1 h63 hsum hbase ?_
    intro v' w' h1 h2 _
    exact h v' w' h1 h2
end Go.Proofs.YtlelgkgdppkedaaGreatDoor
/-
  A drawn region whose operations make memory, and some of which, late ones, write memory of the call's own: each operation is shown once, from the facts of those that it waits for; no orders are told apart.
-/
namespace Go.Proofs.YtlelgkgdppkedaaGreatDoor
set_option maxRecDepth 100000
open Go.RowKit

/-- What a region's plan must meet: no guards; each fact is used where it stands. -/
def lateB (l : List Oper) (use sl : List (List Nat)) (live : List (List Nat)) (late : List Nat) : Bool :=
  let n := l.length
  let ops := l.toArray
  l.all (fun o => o.guard.isNone) &&
  (List.range n).all fun i =>
    (match l[i]? with | some o => o.after.all (fun e => !Region.binds .any e || decide (e.on < i)) | none => true) &&
    (use.getD i []).all (fun k => reach ops n i k && (late.all fun t => (live.getD k []).contains t || reach ops n t i || t == i || t == k || reach ops n k t)) &&
    (List.range n).all fun j => i == j || reach ops n j i || (match (l[i]?).bind (·.dst) with | some d => !(sl.getD j []).contains d | none => true)
section
variable {P : Program} {l : List Oper} {Q : Exit → Act → World → Prop} {a0 : Act} {w0 : World} (use sl : List (List Nat)) (live : List (List Nat)) (late brk : List Nat) (B : Nat) (J : World → Prop) (Φ : Nat → (Nat → Value) → World → Prop)
/-- What is known of a state in the midst of the region. -/
structure LateAt (l : List Oper) (a0 : Act) (w0 : World) (live : List (List Nat)) (late brk : List Nat) (B : Nat) (J : World → Prop) (Φ : Nat → (Nat → Value) → World → Prop) (listed : Array Bool) (a : Act) (w : World) : Prop where
  size : listed.size = l.length
  shut : Shut l.toArray listed
  tmps : a.tmps.size = a0.tmps.size
  defs : a.defers = a0.defers
  old : ∀ s, (∀ o ∈ l, o.dst ≠ some s) → slotF a s = slotF a0 s
  low : Below B w0 w
  grow : w0.heap.size ≤ w.heap.size
  inv : (∀ t ∈ brk, listed.getD t false = false) → J w
  fact : ∀ i, listed.getD i false = true → (∀ t ∈ late, listed.getD t false = true → (live.getD i []).contains t = true ∨ t = i ∨ reach l.toArray l.length i t = true) → Φ i (slotF a) w
theorem wpAny_late {listed : Array Bool} {a : Act} {w : World} (hB : lateB l use sl live late = true) (hBw : B ≤ w0.heap.size) (hJ : ∀ w w', J w → Below w.heap.size w w' → J w')
    (hstab : ∀ j f g w w', (∀ s ∈ sl.getD j [], g s = f s) → Below w.heap.size w w' → Φ j f w → Φ j g w')
    (hstep : ∀ i o, l[i]? = some o → i ∉ late → ∀ a w, a.tmps.size = a0.tmps.size → (∀ s, (∀ o ∈ l, o.dst ≠ some s) → slotF a s = slotF a0 s) → Below B w0 w → w0.heap.size ≤ w.heap.size → ((brk.all fun t => reach l.toArray l.length t i) = true → J w) → (∀ k ∈ use.getD i [], Φ k (slotF a) w) →
      Oper.wp P o a w (fun a' w' => ∃ v, a' = a.put o.dst v ∧ Below w.heap.size w w' ∧ Φ i (slotF a') w') Q)
    (hlate : ∀ i o, l[i]? = some o → i ∈ late → ∀ a w, a.tmps.size = a0.tmps.size → (∀ s, (∀ o ∈ l, o.dst ≠ some s) → slotF a s = slotF a0 s) → Below B w0 w → w0.heap.size ≤ w.heap.size → ((brk.all fun t => reach l.toArray l.length t i || t == i) = true → J w) → (∀ k ∈ use.getD i [], Φ k (slotF a) w) →
      Oper.wp P o a w (fun a' w' => ∃ v, a' = a.put o.dst v ∧ w.heap.size ≤ w'.heap.size ∧ Below B w0 w' ∧ Φ i (slotF a') w' ∧ (i ∉ brk → J w') ∧ ∀ j, j ≠ i → (live.getD j []).contains i = true → reach l.toArray l.length j i = false → (∀ s ∈ sl.getD j [], slotF a' s = slotF a s) → Φ j (slotF a) w → Φ j (slotF a') w') Q)
    (hend : ∀ (f : Nat → Value) w, Below B w0 w → (∀ i, i < l.length → (late.all fun t => (live.getD i []).contains t || t == i || reach l.toArray l.length i t) = true → Φ i f w) → Q .normal (putAll l f a0) w) :
    ∀ (fuel : Nat), (listed.toList.count false ≤ fuel) → LateAt l a0 w0 live late brk B J Φ listed a w → wpAny P .any l.toArray Q fuel listed a w := by
  intro fuel
  unfold lateB at hB
  simp only [Bool.and_eq_true, List.all_eq_true, List.mem_range, Bool.or_eq_true] at hB
  obtain ⟨hg, hB⟩ := hB
  have hdone : ∀ (listed : Array Bool) (a : Act) (w : World), LateAt l a0 w0 live late brk B J Φ listed a w → (∀ i, i < l.length → listed.getD i false = true) → Q .normal a w := by
    intro listed a w h hall
    have he : a = putAll l (slotF a) a0 := by
      have hz := putAll_size l (slotF a) a0
      refine act_eq (h.tmps.trans hz.1.symm) (h.defs.trans hz.2.symm) fun s hs => ?_
      rw [putAll_slot _ _ _ _ (by rw [← h.tmps]; exact hs)]
      split
      · rfl
      · rename_i hno
        exact h.old s fun o ho hd => hno ⟨o, ho, hd⟩
    rw [he]
    refine hend (slotF a) w h.low (fun i hi' hl => h.fact i (hall i hi') ?_)
    intro t ht _
    have := List.all_eq_true.1 hl t ht
    rw [Bool.or_eq_true, Bool.or_eq_true] at this
    rcases this with (h1 | h1) | h1
    · exact .inl h1
    · exact .inr (.inl (beq_iff_eq.1 h1))
    · exact .inr (.inr h1)
  have hmem : ∀ (listed : Array Bool), listed.size = l.length → ∀ i, i < l.length → listed.getD i true = listed.getD i false := by
    intro listed hz i hi
    simp [show i < listed.size by omega]
  have hready : ∀ (listed : Array Bool), listed.size = l.length → Region.ready .any l.toArray listed = [] → ∀ i, i < l.length → listed.getD i false = true := by
    intro listed hz hr i
    induction i using Nat.strongRecOn with
    | ind i ih =>
      intro hi
      cases hc : listed.getD i false with
      | true => rfl
      | false =>
        have h1 : i ∈ Region.ready .any l.toArray listed := by
          refine mem_ready.2 ⟨by rw [hmem listed hz i hi]; exact hc, l[i], by simp [hi], fun e he hb => ?_⟩
          have h2 := (hB i hi).1.1
          rw [List.getElem?_eq_getElem hi] at h2
          simp only [Array.all_eq_true'] at h2
          have h3 := h2 e he
          rw [hb] at h3
          have h4 : e.on < i := by simpa using h3
          exact ih e.on h4 (by omega)
        rw [hr] at h1
        cases h1
  induction fuel generalizing listed a w with
  | zero =>
    intro hc h
    have hall : ∀ i, i < l.length → listed.getD i false = true := by
      intro i hi
      have h0 : listed.toList.count false = 0 := by omega
      have h1 := List.count_eq_zero.1 h0
      have hi' : i < listed.size := by rw [h.size]; exact hi
      cases hv : listed[i] with
      | true => simp [hi', hv]
      | false => exact absurd (by rw [← hv]; simp) h1
    refine ⟨?_, hdone listed a w h hall⟩
    rw [List.eq_nil_iff_forall_not_mem]
    intro i hi
    obtain ⟨h1, o, ho, -⟩ := mem_ready.1 hi
    have hlt : i < l.length := by
      have := (Array.getElem?_eq_some_iff.1 ho).1
      simpa using this
    rw [hmem listed h.size i hlt, hall i hlt] at h1
    cases h1
  | succ fuel ih =>
    intro hc h
    refine ⟨fun h0 => hdone listed a w h (hready listed h.size h0), fun i hi' => ?_⟩
    obtain ⟨hun, o, ho, hdeps⟩ := mem_ready.1 hi'
    have hlt : i < l.length := by
      have := (Array.getElem?_eq_some_iff.1 ho).1
      simpa using this
    have hlo : l[i]? = some o := by simpa using ho
    have hol : o ∈ l := List.mem_of_getElem? hlo
    have hun' : listed.getD i false = false := by rw [← hmem listed h.size i hlt]; exact hun
    have hwant : Region.wanted o (yielded l.toArray a.tmps) = true := by
      have := hg o hol
      unfold Region.wanted
      rw [Option.isNone_iff_eq_none.1 this]
    have hsl : i < listed.size := by rw [h.size]; exact hlt
    have hcnt : (listed.setIfInBounds i true).toList.count false ≤ fuel := by
      rw [Array.toList_setIfInBounds, List.count_set (by simpa using hsl)]
      have hv : listed.toList[i]'(by simpa using hsl) = false := by
        have : listed[i] = false := by simpa [hsl] using hun'
        simpa using this
      have h1 : 0 < listed.toList.count false := List.count_pos_iff.2 (by rw [← hv]; exact List.getElem_mem _)
      rw [hv]
      simp
      simp at hc h1
      omega
    have hone : ∀ t, reach l.toArray l.length t i = true → listed.getD t false = false := by
      intro t hr
      cases hs : listed.getD t false with
      | false => rfl
      | true =>
        cases hos : l.toArray[t]? with
        | none =>
          cases hn : l.length with
          | zero => omega
          | succ m => rw [hn] at hr; unfold reach at hr; rw [hos] at hr; cases hr
        | some os =>
          have := reach_listed h.shut l.length t i os hos (h.shut t os hos hs) hr
          rw [hun'] at this
          cases this
    have hfirst : (∀ t ∈ brk, reach l.toArray l.length t i = true ∨ t = i) → ∀ t ∈ brk, listed.getD t false = false := by
      intro hr t ht
      rcases hr t ht with h1 | rfl
      · exact hone t h1
      · exact hun'
    have huse : ∀ k ∈ use.getD i [], listed.getD k false = true ∧ Φ k (slotF a) w := by
      intro k hk
      obtain ⟨h1, h2⟩ := (hB i hlt).1.2 k hk
      have h3 := reach_listed h.shut l.length i k o ho hdeps h1
      refine ⟨h3, h.fact k h3 ?_⟩
      intro t ht hlt2
      rcases h2 t ht with (((h4 | h4) | h4) | h4) | h4
      · exact .inl h4
      · rw [hone t h4] at hlt2; cases hlt2
      · rw [beq_iff_eq.1 h4, hun'] at hlt2; cases hlt2
      · exact .inr (.inl (beq_iff_eq.1 h4))
      · exact .inr (.inr h4)
    have hsame : ∀ v j, j ≠ i → listed.getD j false = true → ∀ s ∈ sl.getD j [], slotF (a.put o.dst v) s = slotF a s := by
      intro v j hji hj s hs
      refine slot_put _ _ _ _ fun hd => ?_
      have hjl : j < l.length := by
        rw [← h.size]
        apply Classical.byContradiction
        intro hc'
        simp [hc'] at hj
      rcases (hB i hlt).2 j hjl with (h1 | h1) | h1
      · exact hji (beq_iff_eq.1 h1).symm
      · have hoj : l.toArray[j]? = some l[j] := by simp [hjl]
        have := reach_listed h.shut l.length j i l[j] hoj (h.shut j l[j] hoj hj) h1
        rw [hun'] at this
        cases this
      · rw [hlo] at h1
        simp only [Option.bind_some, hd] at h1
        simp at h1
        exact h1 hs
    have hshut : Shut l.toArray (listed.setIfInBounds i true) := by
      intro j oj hoj hj e he hb
      rw [listed_set hsl] at hj ⊢
      rcases hj with rfl | hj
      · rw [ho] at hoj
        cases hoj
        exact .inr (hdeps e he hb)
      · exact .inr (h.shut j oj hoj hj e he hb)
    have hnot : ∀ t, (listed.setIfInBounds i true).getD t false = false → listed.getD t false = false := by
      intro t hl
      cases hs : listed.getD t false with
      | false => rfl
      | true => rw [(listed_set hsl).2 (.inr hs)] at hl; cases hl
    have hend' : ∀ v w' (hs : w.heap.size ≤ w'.heap.size) (hlow : Below B w0 w') (hinv : (∀ t ∈ brk, (listed.setIfInBounds i true).getD t false = false) → J w')
        (hf : ∀ j, j ≠ i → listed.getD j false = true → (∀ t ∈ late, (listed.setIfInBounds i true).getD t false = true → (live.getD j []).contains t = true ∨ t = j ∨ reach l.toArray l.length j t = true) → Φ j (slotF (a.put o.dst v)) w')
        (hi0 : Φ i (slotF (a.put o.dst v)) w'),
        wpAny P .any l.toArray Q fuel (listed.setIfInBounds i true) (a.put o.dst v) w' := by
      intro v w' hs hlow hinv hf hi0
      refine ih hcnt ⟨by rw [Array.size_setIfInBounds]; exact h.size, hshut, (size_put _ _ _).trans h.tmps, (defers_put _ _ _).trans h.defs, fun s hs' => (slot_put _ _ _ _ (hs' o hol)).trans (h.old s hs'), hlow, Nat.le_trans h.grow hs, hinv, fun j hj hl => ?_⟩
      by_cases hji : j = i
      · rw [hji]; exact hi0
      · rcases (listed_set hsl).1 hj with e | hj
        · exact absurd e.symm hji
        · exact hf j hji hj hl
    have hrf : ∀ j, listed.getD j false = true → reach l.toArray l.length j i = false := by
      intro j hj
      cases hr : reach l.toArray l.length j i with
      | false => rfl
      | true => rw [hone j hr] at hj; cases hj
    unfold wpOp
    simp only [ho, hwant, if_true]
    refine .inl ?_
    by_cases hie : i ∈ late
    · refine Oper.wp_mono ?_ (hlate i o hlo hie a w h.tmps h.old h.low h.grow (fun hr => h.inv (hfirst fun t ht => by
        have := List.all_eq_true.1 hr t ht
        rw [Bool.or_eq_true] at this
        exact this.imp id fun e => beq_iff_eq.1 e)) (fun k hk => (huse k hk).2))
      rintro a' w' ⟨v, rfl, hs, hlow, hi0, hjk, hkeep⟩
      refine hend' v w' hs hlow (fun hc' => hjk fun hib => ?_) (fun j hji hj hl => ?_) hi0
      · have := hc' i hib
        rw [(listed_set hsl).2 (.inl rfl)] at this
        cases this
      · rcases hl i hie ((listed_set hsl).2 (.inl rfl)) with e | e | e
        · exact hkeep j hji e (hrf j hj) (hsame v j hji hj) (h.fact j hj fun t ht hlt2 => hl t ht ((listed_set hsl).2 (.inr hlt2)))
        · exact absurd e.symm hji
        · rw [hrf j hj] at e; cases e
    · refine Oper.wp_mono ?_ (hstep i o hlo hie a w h.tmps h.old h.low h.grow (fun hr => h.inv (hfirst fun t ht => .inl (List.all_eq_true.1 hr t ht))) fun k hk => (huse k hk).2)
      rintro a' w' ⟨v, rfl, hb, hi0⟩
      refine hend' v w' hb.size (h.low.trans (hb.mono (Nat.le_trans hBw h.grow))) (fun hc' => hJ _ _ (h.inv fun t ht => hnot t (hc' t ht)) hb) (fun j hji hj hl => ?_) hi0
      exact hstab j _ _ _ _ (hsame v j hji hj) hb (h.fact j hj fun t ht hlt2 => hl t ht ((listed_set hsl).2 (.inr hlt2)))
/-- A drawn region with late operations, over a function of slots. W: the world behind the draw. -/
theorem wp_region_late {id : Nat} {w : World} (hm : P.follows .mixedOrders = true) (W : World) (hW : w.drew = W) (hB : lateB l use sl live late = true) (hD : (l.all fun o => match o.dst with | some d => decide (d < a0.tmps.size) | none => true) = true) (hBw : B ≤ W.heap.size) (hJ0 : J W) (hJ : ∀ w w', J w → Below w.heap.size w w' → J w')
    (hstab : ∀ j f g w w', (∀ s ∈ sl.getD j [], g s = f s) → Below w.heap.size w w' → Φ j f w → Φ j g w')
    (hstep : ∀ i o, l[i]? = some o → i ∉ late → ∀ (f : Nat → Value) w, (∀ s, (l.all fun o => o.dst != some s) = true → f s = slotF a0 s) → Below B W w → W.heap.size ≤ w.heap.size → ((brk.all fun t => reach l.toArray l.length t i) = true → J w) → (∀ k ∈ use.getD i [], Φ k f w) →
      gives P (fun v w' => Below w.heap.size w w' ∧ Φ i (upF f o.dst v) w') ((execOp (evF f) o).run P w))
    (hlate : ∀ i o, l[i]? = some o → i ∈ late → ∀ (f : Nat → Value) w, (∀ s, (l.all fun o => o.dst != some s) = true → f s = slotF a0 s) → Below B W w → W.heap.size ≤ w.heap.size → ((brk.all fun t => reach l.toArray l.length t i || t == i) = true → J w) → (∀ k ∈ use.getD i [], Φ k f w) →
      gives P (fun v w' => w.heap.size ≤ w'.heap.size ∧ Below B W w' ∧ Φ i (upF f o.dst v) w' ∧ (i ∉ brk → J w') ∧ ∀ j, j ≠ i → (live.getD j []).contains i = true → reach l.toArray l.length j i = false → (∀ s ∈ sl.getD j [], upF f o.dst v s = f s) → Φ j f w → Φ j (upF f o.dst v) w') ((execOp (evF f) o).run P w))
    (hend : ∀ (f : Nat → Value) w, Below B W w → (∀ i, i < l.length → (late.all fun t => (live.getD i []).contains t || t == i || reach l.toArray l.length i t) = true → Φ i f w) → Q .normal (putAll l f a0) w) :
    (Code.region id l.toArray true).wp P Q a0 w := by
  subst hW
  rw [List.all_eq_true] at hD
  have hd : ∀ o ∈ l, ∀ (a : Act), a.tmps.size = a0.tmps.size → ∀ x, o.dst = some x → x < a.tmps.size := by
    intro o ho a ha x hx
    have := hD o ho
    rw [hx] at this
    rw [ha]
    exact of_decide_eq_true this
  have hold : ∀ a : Act, (∀ s, (∀ o ∈ l, o.dst ≠ some s) → slotF a s = slotF a0 s) → ∀ s, (l.all fun o => o.dst != some s) = true → slotF a s = slotF a0 s := by
    intro a h s hs
    rw [List.all_eq_true] at hs
    exact h s fun o ho => bne_iff_ne.1 (hs o ho)
  have hno : ∀ i, (Array.replicate l.length false).getD i false = true → False := by
    intro i h
    by_cases hi : i < l.length
    · simp [hi] at h
    · simp [hi] at h
  refine wp_region_any hm (wpAny_late (w0 := w.drew) use sl live late brk B J Φ hB hBw hJ hstab ?_ ?_ hend _ (by simp) ⟨by simp, fun j o hj h => ?_, rfl, rfl, fun s _ => rfl, Below.refl _ _, Nat.le_refl _, fun _ => hJ0, fun i h => ?_⟩)
  · intro i o hi hne a w hz ho hb hg hj hu
    refine Oper.wp_mono ?_ (wp_of_gives (Q := Q) (hstep i o hi hne (slotF a) w (hold a ho) hb hg hj hu))
    rintro a' w' ⟨v, rfl, h2, h3⟩
    refine ⟨v, rfl, h2, ?_⟩
    rw [upF_put a o.dst v (hd o (List.mem_of_getElem? hi) a hz)]
    exact h3
  · intro i o hi hin a w hz ho hb hg hj hu
    refine Oper.wp_mono ?_ (wp_of_gives (Q := Q) (hlate i o hi hin (slotF a) w (hold a ho) hb hg hj hu))
    rintro a' w' ⟨v, rfl, h2⟩
    refine ⟨v, rfl, ?_⟩
    rw [upF_put a o.dst v (hd o (List.mem_of_getElem? hi) a hz)]
    exact h2
  all_goals
    simp only [List.size_toArray] at h
    exact (hno _ h).elim
end
/-- Append of another's slice, nil or not, to a row of the call's own. -/
theorem gives_append_any {P : Program} {R : Value → World → Prop} {f : Nat → Value} {o : Oper} {w : World} (s x : Operand) (t e : TypeId)
    (ho : o.op = .call { callee := .builtin .append, args := #[s, x], argTypes := #[t, t] })
    (base : Nat) (i0 : TypeInfo) (z : Value) (size bytes : Nat) (ht : P.underlying t = some (.slice e)) (hi : P.info? e = some i0) (hz0 : i0.zero = some z) (hz1 : i0.size = size) (hz2 : i0.bytes = bytes) (hzs : z.cells.size = size) (hsz : 0 < size) (v : Value) (n : Nat) (xs : List Value) (hs : evF f s = v) (hown : w.ownsRow base e size v n xs)
    (px : Option Addr) (m cx : Nat) (ys : List Value) (hx : evF f x = .slice px m cx) (hl : ys.length = m * size) (hsrc : ∀ ad, px = some ad → ∀ j u, ys[j]? = some u → w.cell? (ad.add j) = some u) (hnil : px = none → ys = []) (h1 : ∀ u ∈ ys, u.oneCell' = true) (h63 : n + m ≤ maxLen) (hsum : (n + m) * bytes ≤ 140737488355328) (hbase : base ≤ w.heap.size)
    (h : ∀ v' w', w'.ownsRow base e size v' (n + m) (xs ++ ys) → w.grownBy w' v.ownBlock → R v' w') : gives P R ((execOp (evF f) o).run P w) := by
  cases px with
  | none =>
    obtain rfl := hnil rfl
    obtain rfl : m = 0 := by
      rw [List.length_nil] at hl
      rcases Nat.mul_eq_zero.1 hl.symm with h0 | h0
      · exact h0
      · omega
    have hrun := run_append_nil7 (P := P) (w := w) base t o.type e i0 size ht hi v n cx xs hown
    unfold execOp
    simp only [ho, resolve, invoke, builtin, Sem.run_bind, Sem.run_pure, Result.andThen_ok, List.map_toArray, List.map_cons, List.map_nil, hs, hx, hrun]
    exact h v w (by simpa using hown) (World.grownBy.refl w _)
  | some ad =>
    obtain ⟨v', w', hr, h2, h3, -⟩ := run_append_own (P := P) w base t o.type e i0 z size bytes ht hi hz0 hz1 hz2 hzs hsz v n xs hown ad m cx ys hl (hsrc ad rfl) h1 h63 hsum hbase
    unfold execOp
    simp only [ho, resolve, invoke, builtin, Sem.run_bind, Sem.run_pure, Result.andThen_ok, List.map_toArray, List.map_cons, List.map_nil, hs, hx, hr]
    exact h v' w' h2 h3
end Go.Proofs.YtlelgkgdppkedaaGreatDoor
