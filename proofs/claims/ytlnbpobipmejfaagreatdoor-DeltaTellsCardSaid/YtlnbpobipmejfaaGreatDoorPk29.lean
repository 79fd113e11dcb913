/-
  Several texts in one.
-/
import Derived.Test.YtlnbpobipmejfaaGreatDoorPk20
import Derived.Test.YtlnbpobipmejfaaGreatDoorPk28
import Derived.Test.YtlnbpobipmejfaaGreatDoorPk12
import Derived.Test.YtlnbpobipmejfaaGreatDoorPk10
/-
  The reference of package keys: Valid.
-/
namespace Go.Proofs.YtlnbpobipmejfaaGreatDoor
set_option maxRecDepth 100000
open Go.RowKit
variable {ls : List Nat}

theorem take_i {D : List Int} {k : Nat} (h : k < D.length) : D.take (k + 1) = D.take k ++ [iAt D k] := by rw [iAt_get h]; exact (List.take_append_getElem h).symm
theorem asc_i {D : List Int} {k : Nat} (h : ∀ j, j < k → 0 < j → iAt D (j - 1) < iAt D j) : ∀ i j, i < j → j < k → iAt D i < iAt D j := by
  intro i j hij
  induction j with
  | zero => intro _; omega
  | succ j ih =>
    intro hj
    have h1 := h (j + 1) hj (by omega)
    rw [Nat.add_sub_cancel] at h1
    by_cases he : i = j
    · subst he; exact h1
    · have := ih (by omega) (by omega); omega
theorem new_i {D : List Int} {k : Nat} (hk : k < D.length) (h : ∀ j, j < k + 1 → 0 < j → iAt D (j - 1) < iAt D j) : iAt D k ∉ D.take k := fun hm => by
  obtain ⟨i, hi, he⟩ := List.getElem_of_mem hm
  rw [List.length_take] at hi
  have h1 := asc_i h i k (by omega) (by omega)
  rw [List.getElem_take] at he
  rw [iAt_get (by omega : i < D.length), he] at h1
  omega
theorem wpList_put_seenI {w : World} {ops : Array Oper} {rest : List Oper} {o : Oper} {a : Act} {Q : Exit → Act → World → Prop} (hg : o.guard = none) (m x y : Operand) (t : TypeId) (hop : o.op = Op.mapUpdate t m x y) (ht : Tryz.prog.underlying t = some (.map 3 4))
    (b : Nat) (S : List Int) (hm : a.eval m = .map (some b)) (hs : SeenI w b S) (v : Int) (hx : a.eval x = .int .i64 v) (hy : a.eval y = .bool true) (hn : v ∉ S) (h : ∀ w', SeenI w' b (S ++ [v]) → w.grownBy w' (some b) → wpList Tryz.prog ops Q rest (a.put o.dst undef) w') : wpList Tryz.prog ops Q (o :: rest) a w := by
  refine wpList_plain hg fun K' hK' => ?_
  obtain ⟨w', hrun, h1, h2⟩ := hs.put v hn t ht
  unfold Oper.wp
  simp [execOp, hop, hm, hx, hy, hrun, Result.andThen]
  exact hK' _ _ (h w' h1 h2)
theorem Cell3.grown {u v : World} {X : Nat} {x y z : Value} {row : Option Nat} (h : Cell3 u X x y z) (hg : u.grownBy v row) (hr : ∀ k, row = some k → X < k) : Cell3 v X x y z := by
  obtain ⟨hl, c0, c1, c2, fz⟩ := h
  have hb := hg.block X hl (fun e => by have := hr X e.symm; omega)
  exact ⟨Nat.lt_of_lt_of_le hl hg.size, by rw [World.cell?_of_block (w := u) hb]; exact c0, by rw [World.cell?_of_block (w := u) hb]; exact c1, by rw [World.cell?_of_block (w := u) hb]; exact c2, fun o => by rw [World.frozen?_of_block (w := u) hb]; exact fz o⟩
/-- What Valid has while it looks at a change. -/
structure ChgW (w : World) (nm : ByteArray) (pc : Option Addr) (n cc : Nat) (nx : Int) (pr : Option Addr) (m cr : Nat) (pi : Option Addr) (mi ci : Nat) (pd : Option Addr) (md cd : Nat) (pu : Option Addr) (mu cu : Nat) (M : Nat) (S : List Int) (v : World) : Prop where
  tab : Cell4 v w.heap.size (.string nm) (.slice pc n cc) (.int .i64 nx) (.slice pr m cr)
  chg : Cell3 v (w.heap.size + 1) (.slice pi mi ci) (.slice pd md cd) (.slice pu mu cu)
  map : SeenI v M S
  bel : Below w.heap.size w v
  hM : w.heap.size + 2 ≤ M
section
variable {w u v : World} {nm : ByteArray} {pc : Option Addr} {n cc : Nat} {nx : Int} {pr : Option Addr} {m cr : Nat} {pi : Option Addr} {mi ci : Nat} {pd : Option Addr} {md cd : Nat} {pu : Option Addr} {mu cu : Nat} {M : Nat} {S : List Int}
theorem ChgW.low (h : ChgW w nm pc n cc nx pr m cr pi mi ci pd md cd pu mu cu M S u) (hb : Below u.heap.size u v) : ChgW w nm pc n cc nx pr m cr pi mi ci pd md cd pu mu cu M S v :=
  ⟨h.tab.low hb, h.chg.low hb, h.map.low hb, below_next h.bel hb, h.hM⟩
theorem ChgW.put {x : Int} (h : ChgW w nm pc n cc nx pr m cr pi mi ci pd md cd pu mu cu M S u) (hs : SeenI v M (S ++ [x])) (hg : u.grownBy v (some M)) : ChgW w nm pc n cc nx pr m cr pi mi ci pd md cd pu mu cu M (S ++ [x]) v := by
  have hM := h.hM
  exact ⟨h.tab.grown hg (fun k hk => by cases hk; omega), h.chg.grown hg (fun k hk => by cases hk; omega), hs, h.bel.grown hg h.bel.size (fun k hk => by cases hk; omega), hM⟩
end
theorem rtv_any (nm : ByteArray) (pc : Option Addr) (n cc : Nat) (f : Nat → Col) (nx : Int) (pr : Option Addr) (cr : Nat) (R : List TRow) (w : World) (h : TabAt w ⟨nm, pc, n, cc, f, nx, pr, cr, R⟩) {b : Bool} (hv : validT nm n f nx R = b) :
    Calls Tryz.prog 27 #[.agg #[.string nm, .slice pc n cc, .int .i64 nx, .slice pr R.length cr]] w fun e w' => e = .returned (.bool b) ∧ Below w.heap.size w w' :=
  (rtvalid_any ⟨nm, pc, n, cc, f, nx, pr, cr, R⟩ w h).mono fun _ _ ⟨he, hb⟩ => ⟨by rw [he]; unfold Tab.valid; dsimp only; rw [hv], hb⟩
theorem rgt_any (nm : ByteArray) (pc : Option Addr) (n cc : Nat) (f : Nat → Col) (nx : Int) (pr : Option Addr) (cr : Nat) (R : List TRow) (id : Int) (w : World) (h : TabAt w ⟨nm, pc, n, cc, f, nx, pr, cr, R⟩) {l : List Val} {b : Bool} (hg : getO id R = (l, b)) :
    Calls Tryz.prog 29 #[.agg #[.string nm, .slice pc n cc, .int .i64 nx, .slice pr R.length cr], .int .i64 id] w fun e w' => ∃ (p : Option Addr) (cap : Nat), e = .returned (.tuple #[.slice p l.length cap, .bool b]) ∧ RowAt w' p l ∧ l.length * 32 ≤ 140737488355328 ∧ Below w.heap.size w w' :=
  (rget_any ⟨nm, pc, n, cc, f, nx, pr, cr, R⟩ id w h).mono fun _ _ ⟨p, c, he, hr, hs, hb⟩ => ⟨p, c, by rw [he]; dsimp only; rw [hg], by have := hr; dsimp only at this; rw [hg] at this; exact this, by have := hs; dsimp only at this; rw [hg] at this; exact this, hb⟩
set_option maxHeartbeats 8000000 in
theorem rcvalid_any (T : Tab) (C : Chg) (w : World) (hT : TabAt w T) (hC : ChgAt w C) :
    Calls Tryz.prog 53 #[T.v, C.v] w fun e w' => e = .returned (.bool (T.valid && validC T.n T.R C.I C.D C.U)) ∧ Below w.heap.size w w' := by
  obtain ⟨nm, pc, n, cc, f, nx, pr, cr, R⟩ := T
  obtain ⟨pi, ci, I, pd, cd, D, pu, cu, U⟩ := C
  unfold Tab.v Chg.v Tab.valid
  dsimp only at *
  have HT := Lib.hid hT
  have HC := Lib.hid hC
  have hn63 := hT.n
  have hR63 := hT.len
  have hI63 := hC.inl
  have hD63 := hC.dl
  have hU63 := hC.ul
  dsimp only at hn63 hR63 hI63 hD63 hU63
  have hb0 : Below w.heap.size w ((w.alloc (.cells #[.string nm, .slice pc n cc, .int .i64 nx, .slice pr R.length cr] 34)).alloc (.cells #[.slice pi I.length ci, .slice pd D.length cd, .slice pu U.length cu] 80)) := below_new (below_new (Below.refl _ _) _) _
  have HX := Lib.hid ((cell4_new w (.string nm) (.slice pc n cc) (.int .i64 nx) (.slice pr R.length cr) 34).low (below_alloc _ (.cells #[.slice pi I.length ci, .slice pd D.length cd, .slice pu U.length cu] 80)))
  have HY := Lib.hid ((cell3_new (w.alloc (.cells #[.string nm, .slice pc n cc, .int .i64 nx, .slice pr R.length cr] 34)) (.slice pi I.length ci) (.slice pd D.length cd) (.slice pu U.length cu) 80).at (size_alloc _ _))
  have HB0 := Lib.hid hb0
  have HT0 := Lib.hid (hT.low hb0)
  clear hT hC hb0
  obtain ⟨vb, hvb⟩ : ∃ b, validT nm n f nx R = b := ⟨_, rfl⟩
  rw [hvb]
  obtain ⟨res, hres⟩ : ∃ r, (vb && validC n R I D U) = r := ⟨_, rfl⟩
  rw [hres]
  go_enter Tryz.func53, Tryz.ntmps53
  go_upto_region 1 with (fail)
  generalize World.alloc _ _ = W0 at HX HY HB0 HT0 ⊢
  obtain ⟨hxl, x0, x1, x2, x3, -⟩ := HX.out
  go_wp2_with fail
  refine (rtv_any nm pc n cc f nx pr cr R _ HT0.out hvb).mono ?_
  rintro e w1 ⟨rfl, hb1⟩
  have HX1 := Lib.hid (HX.out.low hb1)
  have HY1 := Lib.hid (HY.out.low hb1)
  have HB1 := Lib.hid (below_next HB0.out hb1)
  clear HX HY HB0 HT0 hb1 hxl x0 x1 x2 x3 hvb
  cases vb
  · have HRES := Lib.hid hres
    clear hres
    go_wp2
    go_ret
    exact ⟨ret_b (by rw [← HRES.out]; rfl), HB1.out⟩
  · have HRES : Hid (validC n R I D U = res) := Lib.hid (by rw [← hres]; rfl)
    clear hres
    obtain ⟨hxl, x0, x1, x2, x3, -⟩ := HX1.out
    have HS0 := Lib.hid (SeenI.new w1)
    have hmk := run_makeMap (P := Tryz.prog) (w := w1) 108
    have HW : Hid (ChgW w nm pc n cc nx pr R.length cr pi I.length ci pd D.length cd pu U.length cu w1.heap.size [] (w1.alloc (.map #[] 0))) := Lib.hid ⟨HX1.out.low (below_alloc _ _), HY1.out.low (below_alloc _ _), HS0.out, below_new HB1.out _, HY1.out.lt⟩
    clear HX1 HY1 HB1 HS0
    go_upto_region 5 with (fail)
    generalize w1.alloc (.map #[] 0) = W1 at HW ⊢
    generalize hM : w1.heap.size = M at HW ⊢
    clear hM hmk hxl x0 x1 x2 x3
    obtain ⟨hyl, y0, y1, y2, -⟩ := HW.out.chg
    go_wp2_with fail
    go_loopw [28] (fun i v => ∃ k : Nat, k ≤ D.length ∧ i = .int .i64 k ∧ (∀ j, j < k → DelOK R D j) ∧ ChgW w nm pc n cc nx pr R.length cr pi I.length ci pd D.length cd pu U.length cu M (D.take k) v) (fun i _ => D.length - (intOf i).toNat)
    case atStart => exact ⟨0, Nat.zero_le _, rfl, fun j hj => by omega, HW.out⟩
    clear HW hyl y0 y1 y2
    case round =>
      obtain ⟨k, hk, rfl, hok, hw⟩ := hrel
      have HOK := Lib.hid hok
      have HW := Lib.hid hw
      clear hok hw
      by_cases hlt : k < D.length
      · have hlt' : decide ((k : Int) < D.length) = true := decide_eq_true (by omega)
        obtain ⟨c, o, hp, hc, h0⟩ := (HC.out.low HW.out.bel).del k hlt
        dsimp only at hp h0
        subst hp
        have HPREV : Hid (0 < k → wr.cell? ⟨c, o + (k - 1), none⟩ = some (.int .i64 (iAt D (k - 1)))) := Lib.hid (by
          intro h0k
          obtain ⟨c', o', he, hc', h0'⟩ := (HC.out.low HW.out.bel).del (k - 1) (by show k - 1 < D.length; omega)
          cases he
          exact h0')
        obtain ⟨hxl, x0, x1, x2, x3, -⟩ := HW.out.tab
        obtain ⟨gl, gb, hget⟩ : ∃ l b, getO (iAt D k) R = (l, b) := ⟨_, _, rfl⟩
        have HGET := Lib.hid hget
        clear hget
        go_wp2_with fail
        refine (rgt_any nm pc n cc f nx pr cr R _ _ (HT.out.low HW.out.bel) HGET.out).mono ?_
        rintro e w2 ⟨gp, gc, rfl, -, -, hb2⟩
        have HW2 := Lib.hid (HW.out.low hb2)
        have HPREV2 : Hid (0 < k → w2.cell? ⟨c, o + (k - 1), none⟩ = some (.int .i64 (iAt D (k - 1)))) := Lib.hid (fun h0k => by rw [hb2.cell (by exact hc)]; exact HPREV.out h0k)
        have hcl : c < w2.heap.size := Nat.lt_of_lt_of_le hc hb2.size
        clear HW HPREV hb2 hc h0 hxl x0 x1 x2 x3
        obtain ⟨hyl, y0, y1, y2, -⟩ := HW2.out.chg
        cases gb
        · have HV : Hid (validC n R I D U = false) := Lib.hid (validC_del hlt (fun h => by have := h.1; rw [HGET.out] at this; cases this))
          go_wp2
          go_ret
          exact ⟨ret_b (by rw [← HRES.out, HV.out]), HW2.out.bel⟩
        · by_cases h3 : 0 < k
          · have e3 : decide ((0 : Int) < (k : Int)) = true := decide_eq_true (by omega)
            have e3n : decide (0 < k) = true := decide_eq_true h3
            have hp := HPREV2.out h3
            have hw1 : IntKind.i64.wrap ((k : Int) - 1) = (k : Int) - 1 := i64w (by omega) (by omega)
            have ht1 : ((k : Int) - 1).toNat = k - 1 := by omega
            have hlo : (1 : Int) ≤ (k : Int) := by omega
            have hhi : (k : Int) - 1 < (D.length : Int) := by omega
            by_cases h4 : iAt D k ≤ iAt D (k - 1)
            · have e4 : decide (iAt D k ≤ iAt D (k - 1)) = true := decide_eq_true h4
              have HV : Hid (validC n R I D U = false) := Lib.hid (validC_del hlt (fun h => by have := h.2 h3; omega))
              go_wp2
              go_ret
              exact ⟨ret_b (by rw [← HRES.out, HV.out]), HW2.out.bel⟩
            · have e4 : decide (iAt D k ≤ iAt D (k - 1)) = false := decide_eq_false h4
              have HDO : Hid (DelOK R D k) := Lib.hid ⟨by rw [HGET.out], fun _ => by omega⟩
              have HNS : Hid (iAt D k ∉ D.take k) := Lib.hid (new_i hlt (fun j hj hj0 => by
                by_cases he : j = k
                · subst he; exact HDO.out.2 hj0
                · exact (HOK.out j (by omega)).2 hj0))
              have HTK := Lib.hid (take_i hlt)
              go_wp2_with (at_mapUpdate; refine wpList_put_seenI rfl (.tmp 55) (.tmp 56) (.const (.bool true)) 108 rfl Tryz.underlying108 M _ rfl HW2.out.map (iAt D k) (by rfl) rfl HNS.out ?_; intro w5 hs5 hg5; (have HW5 := Lib.hid (HW2.out.put hs5 hg5)); clear hs5 hg5)
              go_roundw
              case rel => exact ⟨k + 1, by omega, by go_num, all_succ HOK.out HDO.out, by rw [HTK.out]; exact HW5.out⟩
              case measure => simp [intOf]; omega
          · have e3 : decide ((0 : Int) < (k : Int)) = false := decide_eq_false (by omega)
            have e3n : decide (0 < k) = false := decide_eq_false h3
            have HDO : Hid (DelOK R D k) := Lib.hid ⟨by rw [HGET.out], fun h => absurd h h3⟩
            have HNS : Hid (iAt D k ∉ D.take k) := Lib.hid (by obtain rfl : k = 0 := (by omega); simp)
            have HTK := Lib.hid (take_i hlt)
            go_wp2_with (at_mapUpdate; refine wpList_put_seenI rfl (.tmp 55) (.tmp 56) (.const (.bool true)) 108 rfl Tryz.underlying108 M _ rfl HW2.out.map (iAt D k) (by rfl) rfl HNS.out ?_; intro w5 hs5 hg5; (have HW5 := Lib.hid (HW2.out.put hs5 hg5)); clear hs5 hg5)
            go_roundw
            case rel => exact ⟨k + 1, by omega, by go_num, all_succ HOK.out HDO.out, by rw [HTK.out]; exact HW5.out⟩
            case measure => simp [intOf]; omega
      · have hlt' : decide ((k : Int) < D.length) = false := decide_eq_false (by omega)
        obtain rfl : k = D.length := by omega
        have HW1 : Hid (ChgW w nm pc n cc nx pr R.length cr pi I.length ci pd D.length cd pu U.length cu M D wr) := Lib.hid (by have := HW.out; rw [List.take_length] at this; exact this)
        clear HW
        have HDEL := Lib.hid HOK.out
        clear HOK
        obtain ⟨hyl, y0, y1, y2, -⟩ := HW1.out.chg
        go_wp2_with fail
        go_loopw [61] (fun i v => ∃ k : Nat, k ≤ U.length ∧ i = .int .i64 k ∧ (∀ j, j < k → UpdOK n R D U j) ∧ ChgW w nm pc n cc nx pr R.length cr pi I.length ci pd D.length cd pu U.length cu M D v) (fun i _ => U.length - (intOf i).toNat)
        case atStart => exact ⟨0, Nat.zero_le _, rfl, fun j hj => by omega, HW1.out⟩
        clear HW1 hyl y0 y1 y2
        case round =>
          generalize wr = wo at *
          obtain ⟨k, hk, rfl, hok, hw⟩ := hrel
          have HOK := Lib.hid hok
          have HW := Lib.hid hw
          clear hok hw
          by_cases hlt : k < U.length
          · have hlt' : decide ((k : Int) < U.length) = true := decide_eq_true (by omega)
            obtain ⟨c, o, q, cq, r, cw, hp, hc, h0, h1, h2, hro, -, hso, -, -, -⟩ := (HC.out.low HW.out.bel).upd k hlt
            dsimp only at hp h0 h1 h2 hro hso
            subst hp
            have hbn := below_alloc wo (.cells #[.int .i64 (pAt U k).1, .slice q (pAt U k).2.1.length cq, .slice r (pAt U k).2.2.length cw] 75)
            have HPREV : Hid (0 < k → wo.cell? ⟨c, o + (k - 1) * 3, none⟩ = some (.int .i64 (pAt U (k - 1)).1)) := Lib.hid (by
              intro h0k
              obtain ⟨c', o', q', cq', r', cw', he, hc', h0', -⟩ := (HC.out.low HW.out.bel).upd (k - 1) (by show k - 1 < U.length; omega)
              cases he
              exact h0')
            have HPREV2 : Hid (0 < k → (wo.alloc (.cells #[.int .i64 (pAt U k).1, .slice q (pAt U k).2.1.length cq, .slice r (pAt U k).2.2.length cw] 75)).cell? ⟨c, o + (k - 1) * 3, none⟩ = some (.int .i64 (pAt U (k - 1)).1)) := Lib.hid (fun h0k => by rw [hbn.cell (by exact hc)]; exact HPREV.out h0k)
            have HW2 := Lib.hid (HW.out.low hbn)
            have HRO := Lib.hid (hro.low hbn)
            have HP2 := Lib.hid (cell3_new wo (.int .i64 (pAt U k).1) (.slice q (pAt U k).2.1.length cq) (.slice r (pAt U k).2.2.length cw) 75)
            have hcl2 := Nat.lt_of_lt_of_le hc hbn.size
            have HOL : Hid ((pAt U k).2.1.length ≤ 9223372036854775807) := Lib.hid (by omega)
            clear HPREV hro hso HW hbn
            go_upto_region 16 with (fail)
            clear h0 h1 h2 hc
            generalize World.alloc _ _ = W2 at HPREV2 HW2 HRO HP2 hcl2 ⊢
            generalize wo.heap.size = P at HP2 ⊢
            obtain ⟨hxl, x0, x1, x2, x3, -⟩ := HW2.out.tab
            obtain ⟨hpl, p0, p1, p2, -⟩ := HP2.out
            obtain ⟨gl, gb, hget⟩ : ∃ l b, getO (pAt U k).1 R = (l, b) := ⟨_, _, rfl⟩
            have HGET := Lib.hid hget
            clear hget
            go_wp2_with fail
            refine (rgt_any nm pc n cc f nx pr cr R _ _ (HT.out.low HW2.out.bel) HGET.out).mono ?_
            rintro e w3 ⟨gp, gc, rfl, hgr, hgs, hb3⟩
            have HW3 := Lib.hid (HW2.out.low hb3)
            have HP3 := Lib.hid (HP2.out.low hb3)
            have HRO3 := Lib.hid (HRO.out.low hb3)
            have HGR := Lib.hid hgr
            have HGL : Hid (gl.length ≤ 9223372036854775807) := Lib.hid (by omega)
            have HPREV3 : Hid (0 < k → w3.cell? ⟨c, o + (k - 1) * 3, none⟩ = some (.int .i64 (pAt U (k - 1)).1)) := Lib.hid (fun h0k => by rw [hb3.cell (by exact hcl2)]; exact HPREV2.out h0k)
            have hcl := Nat.lt_of_lt_of_le hcl2 hb3.size
            clear HW2 HP2 HRO HPREV2 hgr hgs hb3 hcl2 hxl x0 x1 x2 x3 hpl p0 p1 p2
            go_upto_region 17 with (fail)
            obtain ⟨hyl, y0, y1, y2, -⟩ := HW3.out.chg
            obtain ⟨hpl, p0, p1, p2, -⟩ := HP3.out
            cases gb
            · have HV : Hid (validC n R I D U = false) := Lib.hid (validC_upd hlt (fun h => by have := h.1; rw [HGET.out] at this; cases this))
              go_quiet (fail)
              go_wp2
              go_ret
              exact ⟨ret_b (by rw [← HRES.out, HV.out]), drewN_low HW3.out.bel _⟩
            · have l0 := lowW_cell (a := ⟨w.heap.size + 1, 0, none⟩) hyl y0
              have l1 := lowW_cell (a := ⟨w.heap.size + 1, 1, none⟩) hyl y1
              have l2 := lowW_cell (a := ⟨w.heap.size + 1, 2, none⟩) hyl y2
              have m0 := lowW_cell (a := ⟨P, 0, none⟩) hpl p0
              have m1 := lowW_cell (a := ⟨P, 1, none⟩) hpl p1
              have m2 := lowW_cell (a := ⟨P, 2, none⟩) hpl p2
              have hlook : ∀ d os, (Instr.lookup 108 (.map (some M)) (.int .i64 (pAt U k).1) false).run Tryz.prog (lowW w3 d os) = .ok (.bool (decide ((pAt U k).1 ∈ D))) (lowW w3 d os) := fun d os => (HW3.out.map.low (lowW_low w3 d os)).look _ _ Tryz.underlying108
              clear hyl y0 y1 y2 hpl p0 p1 p2
              by_cases hm : (pAt U k).1 ∈ D
              · rw [decide_eq_true hm] at hlook
                have HV : Hid (validC n R I D U = false) := Lib.hid (validC_upd hlt (fun h => h.2.1 hm))
                refine wp_region_low (by kernel_rfl) (by kernel_rfl) ?_
                repeat (refine wq_step (fun K hK => ?_); go_simp; first | (refine hK _ ?_; clear hK K) | (apply Exists.intro; refine ⟨fun _ => ?_, hK _ ?_⟩; (go_at_call 31; exact Calls.low_of (rcomparerows_any gp q gl (pAt U k).2.1 gc cq _ HGL.out HOL.out (HGR.out.low (lowW_low _ _ _)) (HRO3.out.low (lowW_low _ _ _)))); clear hK K))
                refine wq_nil ?_
                rintro _ ⟨⟨d3, os3⟩, rfl⟩
                dsimp only
                have HW4 := Lib.hid (HW3.out.low (lowW_low w3 d3 os3))
                clear  l0 l1 l2 m0 m1 m2 hlook
                generalize lowW w3 d3 os3 = w4 at HW4 ⊢
                go_wp2
                go_ret
                exact ⟨ret_b (by rw [← HRES.out, HV.out]), HW4.out.bel⟩
              · rw [decide_eq_false hm] at hlook
                by_cases h3 : 0 < k
                · have e3 : decide ((0 : Int) < (k : Int)) = true := decide_eq_true (by omega)
                  have e3n : decide (0 < k) = true := decide_eq_true h3
                  have lp := lowW_cell (a := ⟨c, o + (k - 1) * 3, none⟩) hcl (HPREV3.out h3)
                  have hw1 : IntKind.i64.wrap ((k : Int) - 1) = (k : Int) - 1 := i64w (by omega) (by omega)
                  have ht1 : ((k : Int) - 1).toNat = k - 1 := by omega
                  have hlo : (1 : Int) ≤ (k : Int) := by omega
                  have hhi : (k : Int) - 1 < (U.length : Int) := by omega
                  by_cases h4 : (pAt U k).1 ≤ (pAt U (k - 1)).1
                  · have e4 : decide ((pAt U k).1 ≤ (pAt U (k - 1)).1) = true := decide_eq_true h4
                    have HV : Hid (validC n R I D U = false) := Lib.hid (validC_upd hlt (fun h => by have := h.2.2.1 h3; omega))
                    refine wp_region_low (by kernel_rfl) (by kernel_rfl) ?_
                    repeat (refine wq_step (fun K hK => ?_); go_simp; first | (refine hK _ ?_; clear hK K) | (apply Exists.intro; refine ⟨fun _ => ?_, hK _ ?_⟩; (go_at_call 31; exact Calls.low_of (rcomparerows_any gp q gl (pAt U k).2.1 gc cq _ HGL.out HOL.out (HGR.out.low (lowW_low _ _ _)) (HRO3.out.low (lowW_low _ _ _)))); clear hK K))
                    refine wq_nil ?_
                    rintro _ ⟨⟨d3, os3⟩, rfl⟩
                    dsimp only
                    have HW4 := Lib.hid (HW3.out.low (lowW_low w3 d3 os3))
                    clear lp l0 l1 l2 m0 m1 m2 hlook
                    generalize lowW w3 d3 os3 = w4 at HW4 ⊢
                    go_wp2
                    go_ret
                    exact ⟨ret_b (by rw [← HRES.out, HV.out]), HW4.out.bel⟩
                  · have e4 : decide ((pAt U k).1 ≤ (pAt U (k - 1)).1) = false := decide_eq_false h4
                    cases hz : (cmpRow gl (pAt U k).2.1 != 0)
                    · cases hz2 : (((pAt U k).2.2.length : Int) != (n : Int))
                      · have HUO : Hid (UpdOK n R D U k) := Lib.hid ⟨by rw [HGET.out], hm, fun _ => by omega, by rw [HGET.out]; exact (cmpRow_zero _ _).1 (bne_eq_false_iff_eq.1 hz), by have := bne_eq_false_iff_eq.1 hz2; omega⟩
                        refine wp_region_low (by kernel_rfl) (by kernel_rfl) ?_
                        repeat (refine wq_step (fun K hK => ?_); go_simp; first | (refine hK _ ?_; clear hK K) | (apply Exists.intro; refine ⟨fun _ => ?_, hK _ ?_⟩; (go_at_call 31; exact Calls.low_of (rcomparerows_any gp q gl (pAt U k).2.1 gc cq _ HGL.out HOL.out (HGR.out.low (lowW_low _ _ _)) (HRO3.out.low (lowW_low _ _ _)))); clear hK K))
                        refine wq_nil ?_
                        rintro _ ⟨⟨d3, os3⟩, rfl⟩
                        dsimp only
                        have HW4 := Lib.hid (HW3.out.low (lowW_low w3 d3 os3))
                        clear lp l0 l1 l2 m0 m1 m2 hlook
                        generalize lowW w3 d3 os3 = w4 at HW4 ⊢
                        go_wp2
                        go_roundw
                        case rel => exact ⟨k + 1, by omega, by go_num, all_succ HOK.out HUO.out, HW4.out⟩
                        case measure => simp [intOf]; omega
                      · have HV : Hid (validC n R I D U = false) := Lib.hid (validC_upd hlt (fun h => by have := h.2.2.2.2; have := bne_iff_ne.1 hz2; omega))
                        refine wp_region_low (by kernel_rfl) (by kernel_rfl) ?_
                        repeat (refine wq_step (fun K hK => ?_); go_simp; first | (refine hK _ ?_; clear hK K) | (apply Exists.intro; refine ⟨fun _ => ?_, hK _ ?_⟩; (go_at_call 31; exact Calls.low_of (rcomparerows_any gp q gl (pAt U k).2.1 gc cq _ HGL.out HOL.out (HGR.out.low (lowW_low _ _ _)) (HRO3.out.low (lowW_low _ _ _)))); clear hK K))
                        refine wq_nil ?_
                        rintro _ ⟨⟨d3, os3⟩, rfl⟩
                        dsimp only
                        have HW4 := Lib.hid (HW3.out.low (lowW_low w3 d3 os3))
                        clear lp l0 l1 l2 m0 m1 m2 hlook
                        generalize lowW w3 d3 os3 = w4 at HW4 ⊢
                        go_wp2
                        go_ret
                        exact ⟨ret_b (by rw [← HRES.out, HV.out]), HW4.out.bel⟩
                    · have HV : Hid (validC n R I D U = false) := Lib.hid (validC_upd hlt (fun h => by have := h.2.2.2.1; rw [HGET.out] at this; exact bne_iff_ne.1 hz ((cmpRow_zero _ _).2 this)))
                      refine wp_region_low (by kernel_rfl) (by kernel_rfl) ?_
                      repeat (refine wq_step (fun K hK => ?_); go_simp; first | (refine hK _ ?_; clear hK K) | (apply Exists.intro; refine ⟨fun _ => ?_, hK _ ?_⟩; (go_at_call 31; exact Calls.low_of (rcomparerows_any gp q gl (pAt U k).2.1 gc cq _ HGL.out HOL.out (HGR.out.low (lowW_low _ _ _)) (HRO3.out.low (lowW_low _ _ _)))); clear hK K))
                      refine wq_nil ?_
                      rintro _ ⟨⟨d3, os3⟩, rfl⟩
                      dsimp only
                      have HW4 := Lib.hid (HW3.out.low (lowW_low w3 d3 os3))
                      clear lp l0 l1 l2 m0 m1 m2 hlook
                      generalize lowW w3 d3 os3 = w4 at HW4 ⊢
                      go_wp2
                      go_ret
                      exact ⟨ret_b (by rw [← HRES.out, HV.out]), HW4.out.bel⟩
                · have e3 : decide ((0 : Int) < (k : Int)) = false := decide_eq_false (by omega)
                  have e3n : decide (0 < k) = false := decide_eq_false h3
                  cases hz : (cmpRow gl (pAt U k).2.1 != 0)
                  · cases hz2 : (((pAt U k).2.2.length : Int) != (n : Int))
                    · have HUO : Hid (UpdOK n R D U k) := Lib.hid ⟨by rw [HGET.out], hm, fun h => absurd h h3, by rw [HGET.out]; exact (cmpRow_zero _ _).1 (bne_eq_false_iff_eq.1 hz), by have := bne_eq_false_iff_eq.1 hz2; omega⟩
                      refine wp_region_low (by kernel_rfl) (by kernel_rfl) ?_
                      repeat (refine wq_step (fun K hK => ?_); go_simp; first | (refine hK _ ?_; clear hK K) | (apply Exists.intro; refine ⟨fun _ => ?_, hK _ ?_⟩; (go_at_call 31; exact Calls.low_of (rcomparerows_any gp q gl (pAt U k).2.1 gc cq _ HGL.out HOL.out (HGR.out.low (lowW_low _ _ _)) (HRO3.out.low (lowW_low _ _ _)))); clear hK K))
                      refine wq_nil ?_
                      rintro _ ⟨⟨d3, os3⟩, rfl⟩
                      dsimp only
                      have HW4 := Lib.hid (HW3.out.low (lowW_low w3 d3 os3))
                      clear  l0 l1 l2 m0 m1 m2 hlook
                      generalize lowW w3 d3 os3 = w4 at HW4 ⊢
                      go_wp2
                      go_roundw
                      case rel => exact ⟨k + 1, by omega, by go_num, all_succ HOK.out HUO.out, HW4.out⟩
                      case measure => simp [intOf]; omega
                    · have HV : Hid (validC n R I D U = false) := Lib.hid (validC_upd hlt (fun h => by have := h.2.2.2.2; have := bne_iff_ne.1 hz2; omega))
                      refine wp_region_low (by kernel_rfl) (by kernel_rfl) ?_
                      repeat (refine wq_step (fun K hK => ?_); go_simp; first | (refine hK _ ?_; clear hK K) | (apply Exists.intro; refine ⟨fun _ => ?_, hK _ ?_⟩; (go_at_call 31; exact Calls.low_of (rcomparerows_any gp q gl (pAt U k).2.1 gc cq _ HGL.out HOL.out (HGR.out.low (lowW_low _ _ _)) (HRO3.out.low (lowW_low _ _ _)))); clear hK K))
                      refine wq_nil ?_
                      rintro _ ⟨⟨d3, os3⟩, rfl⟩
                      dsimp only
                      have HW4 := Lib.hid (HW3.out.low (lowW_low w3 d3 os3))
                      clear  l0 l1 l2 m0 m1 m2 hlook
                      generalize lowW w3 d3 os3 = w4 at HW4 ⊢
                      go_wp2
                      go_ret
                      exact ⟨ret_b (by rw [← HRES.out, HV.out]), HW4.out.bel⟩
                  · have HV : Hid (validC n R I D U = false) := Lib.hid (validC_upd hlt (fun h => by have := h.2.2.2.1; rw [HGET.out] at this; exact bne_iff_ne.1 hz ((cmpRow_zero _ _).2 this)))
                    refine wp_region_low (by kernel_rfl) (by kernel_rfl) ?_
                    repeat (refine wq_step (fun K hK => ?_); go_simp; first | (refine hK _ ?_; clear hK K) | (apply Exists.intro; refine ⟨fun _ => ?_, hK _ ?_⟩; (go_at_call 31; exact Calls.low_of (rcomparerows_any gp q gl (pAt U k).2.1 gc cq _ HGL.out HOL.out (HGR.out.low (lowW_low _ _ _)) (HRO3.out.low (lowW_low _ _ _)))); clear hK K))
                    refine wq_nil ?_
                    rintro _ ⟨⟨d3, os3⟩, rfl⟩
                    dsimp only
                    have HW4 := Lib.hid (HW3.out.low (lowW_low w3 d3 os3))
                    clear  l0 l1 l2 m0 m1 m2 hlook
                    generalize lowW w3 d3 os3 = w4 at HW4 ⊢
                    go_wp2
                    go_ret
                    exact ⟨ret_b (by rw [← HRES.out, HV.out]), HW4.out.bel⟩
          · have hlt' : decide ((k : Int) < U.length) = false := decide_eq_false (by omega)
            obtain rfl : k = U.length := by omega
            have HUPD := Lib.hid HOK.out
            clear HOK
            obtain ⟨hyl, y0, y1, y2, -⟩ := HW.out.chg
            go_wp2_with fail
            go_loopw [115] (fun i v => ∃ k : Nat, k ≤ I.length ∧ i = .int .i64 k ∧ (∀ j, j < k → (rAt I j).length = n) ∧ ChgW w nm pc n cc nx pr R.length cr pi I.length ci pd D.length cd pu U.length cu M D v) (fun i _ => I.length - (intOf i).toNat)
            case atStart => exact ⟨0, Nat.zero_le _, rfl, fun j hj => by omega, HW.out⟩
            clear HW hyl y0 y1 y2
            case round =>
              obtain ⟨k, hk, rfl, hok, hw⟩ := hrel
              have HOK := Lib.hid hok
              have HW := Lib.hid hw
              clear hok hw
              by_cases hlt : k < I.length
              · have hlt' : decide ((k : Int) < I.length) = true := decide_eq_true (by omega)
                obtain ⟨c, o, q, cp, hp, hc, h0, hr, hs, hq⟩ := (HC.out.low HW.out.bel).ins k hlt
                dsimp only at hp h0 hs
                subst hp
                clear hr hq
                cases hz : (((rAt I k).length : Int) != (n : Int))
                · have HE : Hid ((rAt I k).length = n) := Lib.hid (by have := bne_eq_false_iff_eq.1 hz; omega)
                  go_wp2
                  go_roundw
                  case rel => exact ⟨k + 1, by omega, by go_num, all_succ HOK.out HE.out, HW.out⟩
                  case measure => simp [intOf]; omega
                · have HV : Hid (validC n R I D U = false) := Lib.hid (validC_ins hlt (fun h => by have := bne_iff_ne.1 hz; omega))
                  go_wp2
                  go_ret
                  exact ⟨ret_b (by rw [← HRES.out, HV.out]), HW.out.bel⟩
              · have hlt' : decide ((k : Int) < I.length) = false := decide_eq_false (by omega)
                obtain rfl : k = I.length := by omega
                have HV : Hid (validC n R I D U = true) := Lib.hid (validC_yes HDEL.out HUPD.out HOK.out)
                go_wp2
                go_ret
                exact ⟨ret_b (by rw [← HRES.out, HV.out]), HW.out.bel⟩
end Go.Proofs.YtlnbpobipmejfaaGreatDoor
