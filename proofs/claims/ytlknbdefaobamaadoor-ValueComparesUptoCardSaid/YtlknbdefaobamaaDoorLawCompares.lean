/-
  THE STATEMENT ValueCompares, as a walk.
-/
import Derived.Test.YtlknbdefaobamaaDoorVcells
import Derived.Test.YtlknbdefaobamaaDoorKnown
namespace Go.Proofs.YtlknbdefaobamaaDoor
open Go.RowKit

theorem IntsAt.low {u v : World} {p : Option Addr} {n : Nat} (h : IntsAt u p n) (hb : Below u.heap.size u v) : IntsAt v p n := fun i hi => by
  obtain ⟨c, o, z, hp, hc, hz, hz1⟩ := h i hi
  exact ⟨c, o, z, hp, Nat.lt_of_lt_of_le hc hb.size, by rw [hb.cell (by exact hc)]; exact hz, hz1⟩

set_option maxHeartbeats 400000 in
theorem same_any (k n : Int) (s : ByteArray) (k' n' : Int) (s' : ByteArray) (w : World) :
    Calls Tryd.prog 24 #[.agg #[.int .i64 k, .int .i64 n, .string s], .agg #[.int .i64 k', .int .i64 n', .string s']] w fun e w' => e = .returned (.bool (sameV k n s k' n' s')) ∧ Below w.heap.size w w' := by
  have hq := eql_val k n s k' n' s'
  go_enter Tryd.func24, Tryd.ntmps24
  go_wp2
  go_ret
  exact ⟨rfl, ((Below.refl _ _).alloc (Nat.le_refl _) _).alloc (by simp) _⟩

theorem keepS6 {R R' b : Nat} {W u v : World} {x y z x' y' z' : Value} (hs : StepT b u v) (ht : TapeAt v b) (h8 : 8 ≤ b) (hR : R < b) (hR' : R' < b) (hW : W.heap.size ≤ b)
    (h : u.cell? ⟨R, 0, none⟩ = some x ∧ u.cell? ⟨R, 1, none⟩ = some y ∧ u.cell? ⟨R, 2, none⟩ = some z ∧ u.cell? ⟨R', 0, none⟩ = some x' ∧ u.cell? ⟨R', 1, none⟩ = some y' ∧ u.cell? ⟨R', 2, none⟩ = some z' ∧ TapeAt u b ∧ Env u ∧ Below W.heap.size W u ∧ R < u.heap.size ∧ R' < u.heap.size) :
    v.cell? ⟨R, 0, none⟩ = some x ∧ v.cell? ⟨R, 1, none⟩ = some y ∧ v.cell? ⟨R, 2, none⟩ = some z ∧ v.cell? ⟨R', 0, none⟩ = some x' ∧ v.cell? ⟨R', 1, none⟩ = some y' ∧ v.cell? ⟨R', 2, none⟩ = some z' ∧ TapeAt v b ∧ Env v ∧ Below W.heap.size W v ∧ R < v.heap.size ∧ R' < v.heap.size := by
  obtain ⟨h0, h1, h2, h0', h1', h2', _, hE, hB, hz, hz'⟩ := h
  have hn : R ≠ b := by omega
  have hn' : R' ≠ b := by omega
  exact ⟨by rw [hs.cell (by exact hz) (by exact hn)]; exact h0, by rw [hs.cell (by exact hz) (by exact hn)]; exact h1, by rw [hs.cell (by exact hz) (by exact hn)]; exact h2,
    by rw [hs.cell (by exact hz') (by exact hn')]; exact h0', by rw [hs.cell (by exact hz') (by exact hn')]; exact h1', by rw [hs.cell (by exact hz') (by exact hn')]; exact h2', ht, hE.step hs h8, hB.trans (hs.below hW hB.size), Nat.lt_of_lt_of_le hz hs.size, Nat.lt_of_lt_of_le hz' hs.size⟩
theorem keepA6 {R R' b : Nat} {W u : World} {x y z x' y' z' : Value} {o : Obj} (h8 : 8 ≤ b) (hR : R < b) (hR' : R' < b) (hW : W.heap.size ≤ b)
    (h : u.cell? ⟨R, 0, none⟩ = some x ∧ u.cell? ⟨R, 1, none⟩ = some y ∧ u.cell? ⟨R, 2, none⟩ = some z ∧ u.cell? ⟨R', 0, none⟩ = some x' ∧ u.cell? ⟨R', 1, none⟩ = some y' ∧ u.cell? ⟨R', 2, none⟩ = some z' ∧ TapeAt u b ∧ Env u ∧ Below W.heap.size W u ∧ R < u.heap.size ∧ R' < u.heap.size) :
    (u.alloc o).cell? ⟨R, 0, none⟩ = some x ∧ (u.alloc o).cell? ⟨R, 1, none⟩ = some y ∧ (u.alloc o).cell? ⟨R, 2, none⟩ = some z ∧ (u.alloc o).cell? ⟨R', 0, none⟩ = some x' ∧ (u.alloc o).cell? ⟨R', 1, none⟩ = some y' ∧ (u.alloc o).cell? ⟨R', 2, none⟩ = some z' ∧ TapeAt (u.alloc o) b ∧ Env (u.alloc o) ∧ Below W.heap.size W (u.alloc o) ∧ R < (u.alloc o).heap.size ∧ R' < (u.alloc o).heap.size :=
  keepS6 ((StepT.refl b u).alloc o) (h.2.2.2.2.2.2.1.alloc o) h8 hR hR' hW h

theorem RowAt.below' {u v : World} {p : Option Addr} {l : List Val} (h : RowAt u p l) (hb : Below u.heap.size u v) : RowAt v p l := h.low hb

theorem list7 {W wq : World} {t : TypeId} {a0 b0 a1 b1 a2 b2 a3 b3 a4 b4 a5 b5 a6 b6 : Int} {c0 c1 c2 c3 c4 c5 c6 : ByteArray}
    (h : wq.alloc (.cells #[.int .i64 a0, .int .i64 b0, .string c0, .int .i64 a1, .int .i64 b1, .string c1, .int .i64 a2, .int .i64 b2, .string c2, .int .i64 a3, .int .i64 b3, .string c3, .int .i64 a4, .int .i64 b4, .string c4, .int .i64 a5, .int .i64 b5, .string c5, .int .i64 a6, .int .i64 b6, .string c6] t) = W) :
    ∃ V, ListAt W wq.heap.size 7 V := by
  subst h
  refine ⟨fun i => match i with | 0 => (a0, b0, c0) | 1 => (a1, b1, c1) | 2 => (a2, b2, c2) | 3 => (a3, b3, c3) | 4 => (a4, b4, c4) | 5 => (a5, b5, c5) | _ => (a6, b6, c6), ⟨by simp, fun i hi => ?_⟩⟩
  have hi' : i = 0 ∨ i = 1 ∨ i = 2 ∨ i = 3 ∨ i = 4 ∨ i = 5 ∨ i = 6 := by omega
  rcases hi' with rfl | rfl | rfl | rfl | rfl | rfl | rfl
  all_goals
    refine ⟨?_, ?_, ?_⟩
    all_goals go_simp

set_option maxRecDepth 100000 in
set_option maxHeartbeats 8000000 in
theorem compares_walk (w : World) (ka na : Int) (sa : ByteArray) (kb nb : Int) (sb : ByteArray) (pr : Option Addr) (lr : List Val) (cr : Nat) (ps : Option Addr) (ls : List Val) (cs : Nat)
    (hlr : lr.length ≤ 9223372036854775807) (hls : ls.length ≤ 9223372036854775807) (hsum : (lr.length + ls.length) * 32 ≤ 140737488355328) (hr : RowAt w pr lr) (hs : RowAt w ps ls) (hrn : pr = none → lr = [] ∧ cr = 0) (hsn : ps = none → ls = [] ∧ cs = 0)
    (p : Option Addr) (len cap : Nat) (hl : len ≤ cap) (hm : len ≤ 9223372036854775807) (h : IntsAt w p len) (hE : Env w) :
    Calls Tryd.prog 4 #[.agg #[.int .i64 ka, .int .i64 na, .string sa], .agg #[.int .i64 kb, .int .i64 nb, .string sb], .slice pr lr.length cr, .slice ps ls.length cs, .slice p len cap] w fun e w' => e = .returned (.bool true) ∧ Below w.heap.size w w' := by
  have hz8 := hE.size
  have HI' := Lib.hid ((h.low (low_alloc w (.cells #[.int .i64 ka, .int .i64 na, .string sa] 23))).low (low_alloc _ (.cells #[.int .i64 kb, .int .i64 nb, .string sb] 23)))
  have HR := Lib.hid hr
  have HS := Lib.hid hs
  have HRN := Lib.hid hrn
  have HSN := Lib.hid hsn
  clear h hr hs hrn hsn
  go_enter Tryd.func4, Tryd.ntmps4
  go_wp2_with fail
  refine (new_any _ p len cap hl hm HI'.out).mono ?_
  rintro e w1 ⟨b, rfl, hb0, ht, hb1⟩
  have hb0' : w.heap.size + 1 < b := Nat.lt_of_lt_of_le (Nat.lt_succ_self _) (by simpa using hb0)
  have h8b : 8 ≤ b := by omega
  obtain ⟨⟨a0, a1, a2⟩, -, ⟨d0, d1, d2⟩, hz1, hB1⟩ := boxes2 hb1
  have hE1 : Env w1 := hE.low hB1
  have hbw : b ≠ 1 := by omega
  have hz1' : w.heap.size < w1.heap.size := by omega
  have hbr : w.heap.size < b := by omega
  have hbW : w.heap.size ≤ b := by omega
  clear HI' hb1 hb0 hE
  go_wp2_with fail
  have HT := Lib.hid ht
  clear ht
  go_region_held3 (fun u => u.cell? ⟨w.heap.size, 0, none⟩ = some (.int .i64 ka) ∧ u.cell? ⟨w.heap.size, 1, none⟩ = some (.int .i64 na) ∧ u.cell? ⟨w.heap.size, 2, none⟩ = some (.string sa) ∧ u.cell? ⟨w.heap.size + 1, 0, none⟩ = some (.int .i64 kb) ∧ u.cell? ⟨w.heap.size + 1, 1, none⟩ = some (.int .i64 nb) ∧ u.cell? ⟨w.heap.size + 1, 2, none⟩ = some (.string sb) ∧ TapeAt u b ∧ Env u ∧ Below w.heap.size w u ∧ w.heap.size < u.heap.size ∧ w.heap.size + 1 < u.heap.size)
    (first
      | exact ⟨a0, a1, a2, d0, d1, d2, HT.out, hE1.drew, hB1.drew, hz1', hz1⟩
      | exact keepS6 hsq htq h8b hbr hb0' hbW (by assumption)
      | exact keepA6 h8b hbr hb0' hbW (by assumption))
    (first
      | (go_at_call 9; refine (value_any b _ hbw ?_ ?_).mono ?_; (go_split_ands; assumption); (go_split_ands; exact Env.words (by assumption)); rintro e wq ⟨k, n, s, rfl, hv, -, htq, hsq⟩)
      | (go_at_call 10; refine (odd_any b _ hbw ?_ ?_).mono ?_; (go_split_ands; assumption); (go_split_ands; exact Env.words (by assumption)); rintro e wo ⟨ko, no, so, rfl, ho, htq, hsq⟩))
  rename_i hHeld
  obtain ⟨-, -, -, -, -, -, -, hE2, hB2, -⟩ := hHeld
  clear a0 a1 a2 d0 d1 d2 hE1 hB1 HT hbw h8b hb0' hz1 hz1' hsq htq hbr hbW
  generalize hW : wo.alloc _ = W5 at hE2 hB2 ⊢
  obtain ⟨V, hV⟩ := list7 hW
  clear hW
  generalize wo.heap.size = L at hV ⊢
  go_wp2
  go_loopw [14, 45] (fun _ i wr => ∃ c : Nat, c ≤ 7 ∧ i = .int .i64 c ∧ Env wr ∧ ListAt wr L 7 V ∧ Below w.heap.size w wr) (fun _ i _ => 7 - (intOf i).toNat)
  case atStart => exact ⟨0, by omega, rfl, hE2, hV, hB2⟩
  case round =>
    clear hE2 hB2 hV
    obtain ⟨c, hc, rfl, hE, hV, hB⟩ := hrel
    by_cases hlt : c < 7
    · have hz := hB.size
      have hVz := hV.1
      obtain ⟨v0, v1, v2⟩ := hV.2 c hlt
      have hdc : decide ((c : Int) < 7) = true := by simp; omega
      go_wp2
      have hb1 := low_alloc wr (.cells #[.int .i64 (V c).1, .int .i64 (V c).2.1, .string (V c).2.2] 23)
      have hE1 := hE.low hb1
      have hV1 := hV.low hb1
      have hX1 := BoxAt.new wr (V c) 23
      have hB1 := Below.next hB hb1
      clear hE hV hB v0 v1 v2 hb1
      generalize wr.alloc _ = Wx at hE1 hV1 hX1 hB1 ⊢
      generalize wr.heap.size = X at hX1 ⊢
      go_loopw [16, 51] (fun _ i wr2 => ∃ d : Nat, d ≤ 7 ∧ i = .int .i64 d ∧ Env wr2 ∧ ListAt wr2 L 7 V ∧ BoxAt wr2 X (V c) ∧ Below w.heap.size w wr2) (fun _ i _ => 7 - (intOf i).toNat)
      case atStart => exact ⟨0, by omega, rfl, hE1, hV1, hX1, hB1⟩
      case round =>
        clear hE1 hB1 hV1 hX1
        obtain ⟨d, hd, rfl, hE, hV, hX, hB⟩ := hrel
        by_cases hlt2 : d < 7
        · have hz := hB.size
          have hVz := hV.1
          obtain ⟨v0, v1, v2⟩ := hV.2 d hlt2
          have hdd : decide ((d : Int) < 7) = true := by simp; omega
          go_wp2_with fail
          have hb1 := low_alloc wr (.cells #[.int .i64 (V d).1, .int .i64 (V d).2.1, .string (V d).2.2] 23)
          have hE1 := hE.low hb1
          have hV1 := hV.low hb1
          have hX1 := hX.low hb1
          have hY1 := BoxAt.new wr (V d) 23
          have hB1 := Below.next hB hb1
          clear hE hV hB hX v0 v1 v2 hb1
          generalize wr.alloc _ = Wx at hE1 hV1 hX1 hB1 hY1 ⊢
          generalize wr.heap.size = Y at hY1 ⊢
          obtain ⟨hxz, x0, x1, x2⟩ := hX1
          obtain ⟨hyz, y0, y1, y2⟩ := hY1
          have hq := eql_val (V c).1 (V c).2.1 (V c).2.2 (V d).1 (V d).2.1 (V d).2.2
          have hzx : w.heap.size ≤ Wx.heap.size := hB1.size
          go_region_held3 (fun u => u.cell? ⟨X, 0, none⟩ = some (.int .i64 (V c).1) ∧ u.cell? ⟨X, 1, none⟩ = some (.int .i64 (V c).2.1) ∧ u.cell? ⟨X, 2, none⟩ = some (.string (V c).2.2) ∧ u.cell? ⟨Y, 0, none⟩ = some (.int .i64 (V d).1) ∧ u.cell? ⟨Y, 1, none⟩ = some (.int .i64 (V d).2.1) ∧ u.cell? ⟨Y, 2, none⟩ = some (.string (V d).2.2) ∧ X < u.heap.size ∧ Y < u.heap.size ∧ Env u ∧ ListAt u L 7 V ∧ Below w.heap.size w u ∧ w.heap.size ≤ u.heap.size)
            (first
              | exact ⟨x0, x1, x2, y0, y1, y2, hxz, hyz, hE1.drew, hV1, hB1.drew, hzx⟩
              | exact keepL hbq (by assumption))
            (first
              | (go_at_call 22; refine (compare_any _ _ _ _ _ _ _).mono ?_; rintro e wq ⟨rfl, hbq⟩)
              | (go_at_call 23; refine (rcompare_any _ _ _ _ _ _ _).mono ?_; rintro e wq ⟨rfl, hbq⟩)
              | (go_at_call 24; refine (same_any _ _ _ _ _ _ _).mono ?_; rintro e wq ⟨rfl, hbq⟩))
          clear hq x0 x1 x2 y0 y1 y2 hE1 hV1 hB1 hxz hyz hzx
          rename_i hHeld
          obtain ⟨x0, x1, x2, -, -, -, hxz, -, hE, hV, hB, -⟩ := hHeld
          have hX : BoxAt wq X (V c) := ⟨hxz, x0, x1, x2⟩
          clear x0 x1 x2 hxz hbq
          go_wp2
          go_roundw
          case rel => exact ⟨d + 1, by omega, by go_num, hE, hV, hX, hB⟩
          case measure => simp [intOf]; omega
        · go_wp2
          go_roundw
          case rel => exact ⟨c + 1, by omega, by go_num, hE, hV, hB⟩
          case measure => simp [intOf]; omega
    · clear hV
      have hz := hB.size
      have hown := owns_empty wr
      have hb1 := low_alloc wr (.cells #[] 23)
      have HB1 := Lib.hid (Below.next hB hb1)
      have hr1 := (HR.out.below' HB1.out)
      have HE := Lib.hid hE
      clear hE hB
      go_wp2_with (first
        | (at_builtin; refine wpList_append_vals rfl (.tmp 73) (.tmp 74) rfl wr.heap.size _ 0 [] rfl hown pr lr cr rfl hr1 HRN.out ?_ ?_ ?_; (omega); (simp); (intro v1 w2 hown2 hgr2))
        | (at_builtin; refine wpList_append_vals rfl (.tmp 75) (.tmp 76) rfl wr.heap.size _ _ _ rfl hown2 ps ls cs rfl ?_ HSN.out ?_ ?_ ?_; (exact HS.out.below' (grown_below HB1.out (by simp; omega) hgr2 (by intro k hk; obtain rfl := Option.some.inj hk; exact hz))); (omega); (have := hgr2.size; simp at this; omega); (intro v2 w3 hown3 hgr3)))
      have hg2 : Below w.heap.size w w2 := grown_below HB1.out (by simp; omega) hgr2 (by intro k hk; obtain rfl := Option.some.inj hk; exact hz)
      have hg3 : Below w.heap.size w w3 := grown_below hg2 hg2.size hgr3 (fun k hk => Nat.le_trans hz (owns_block hown2 k hk))
      have hE3 : Env w3 := by
        have h1 : Below 8 wr.drew w2 := ⟨hgr2.os, hgr2.tape, hgr2.output, Nat.le_trans (by simp) hgr2.size, fun k hk => (hgr2.block k (by simp; omega) (by intro he; have hkk : k = wr.heap.size := Option.some.inj he; omega)).trans (Below.heap_alloc _ _ _ (by omega))⟩
        have h2 : Below 8 w2 w3 := ⟨hgr3.os, hgr3.tape, hgr3.output, hgr3.size, fun k hk => hgr3.block k (by have := hg2.size; omega) (by intro he; have := owns_block hown2 k he.symm; omega)⟩
        exact (HE.out.drew.below h1 (Nat.le_refl _)).below h2 (Nat.le_refl _)
      obtain ⟨pu, cu, hv2, hnu, hru⟩ := row_of_owns hown3
      have hr3 := HR.out.below' hg3
      have hs3 := HS.out.below' hg3
      have hlu : ([] ++ lr ++ ls).length ≤ 9223372036854775807 := by simp; omega
      rw [hv2, hnu]
      clear hown hown2 hown3 hgr2 hgr3 hb1 hr1 HE HB1 hg2 hv2 hnu HR HS HRN HSN
      generalize [] ++ lr ++ ls = lu at hru hlu ⊢
      refine (comparerows_any pr ps lr ls cr cs _ hlr hls hr3 hs3).mono ?_
      rintro e wa ⟨rfl, hba⟩
      go_wp2_with fail
      refine (rcomparerows_any pr ps lr ls cr cs _ hlr hls (hr3.low hba) (hs3.low hba)).mono ?_
      rintro e wb ⟨rfl, hbb⟩
      have hr5 := (hr3.low hba).low hbb
      have hu5 := (hru.low hba).low hbb
      have hE5 := (hE3.low hba).low hbb
      have hB5 : Below w.heap.size w wb := Below.next (Below.next hg3 hba) hbb
      clear hr3 hs3 hru hE3 hg3 hba hbb
      go_wp2_with fail
      refine (comparerows_any pu pr lu lr cu cr _ hlu hlr hu5 hr5).mono ?_
      rintro e wc ⟨rfl, hbc⟩
      go_wp2_with fail
      refine (rcomparerows_any pu pr lu lr cu cr _ hlu hlr (hu5.low hbc) (hr5.low hbc)).mono ?_
      rintro e wd ⟨rfl, hbd⟩
      have hr6 := (hr5.low hbc).low hbd
      have hE6 := (hE5.low hbc).low hbd
      have hB6 : Below w.heap.size w wd := Below.next (Below.next hB5 hbc) hbd
      clear hr5 hu5 hE5 hB5 hbc hbd
      go_wp2_with fail
      refine (comparerows_any pr pr lr lr cr cr _ hlr hlr hr6 hr6).mono ?_
      rintro e we ⟨rfl, hbe⟩
      rw [cmpRow_self]
      have hE7 := hE6.low hbe
      have hB7 : Below w.heap.size w we := Below.next hB6 hbe
      clear hr6 hE6 hB6 hbe
      go_wp2_with fail
      refine (known_any _ hE7).mono ?_
      rintro e wf ⟨rfl, hbf⟩
      go_wp2
      go_ret
      exact ⟨rfl, Below.next hB7 hbf⟩
end Go.Proofs.YtlknbdefaobamaaDoor
