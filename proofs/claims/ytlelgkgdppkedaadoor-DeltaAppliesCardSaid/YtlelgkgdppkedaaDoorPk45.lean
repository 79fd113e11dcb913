/-
  Several texts in one.
-/
import Derived.Test.YtlelgkgdppkedaaDoorPk29
import Derived.Test.YtlelgkgdppkedaaDoorPk33
/-
  sound of the reference of package delta: does a difference fit a table?
-/
namespace Go.Proofs.YtlelgkgdppkedaaDoor
set_option maxRecDepth 100000
open Go.RowKit
variable {ls : List Nat}

def DelS (R D : List TRow) (i : Nat) : Prop := (getO (tAt D i).1 R).2 = true ∧ (getO (tAt D i).1 R).1 = (tAt D i).2 ∧ (0 < i → (tAt D (i - 1)).1 < (tAt D i).1)
instance (R D : List TRow) (i : Nat) : Decidable (DelS R D i) := by unfold DelS; infer_instance
def UpdS (R D : List TRow) (U : List PRow) (i : Nat) : Prop := (getO (pAt U i).1 R).2 = true ∧ (pAt U i).1 ∉ D.map (·.1) ∧ (getO (pAt U i).1 R).1 = (pAt U i).2.1 ∧ (0 < i → (pAt U (i - 1)).1 < (pAt U i).1)
instance (R D : List TRow) (U : List PRow) (i : Nat) : Decidable (UpdS R D U i) := by unfold UpdS; infer_instance
def InsS (nx : Int) (I : List TRow) (i : Nat) : Prop := nx ≤ (tAt I i).1 ∧ (0 < i → (tAt I (i - 1)).1 < (tAt I i).1)
instance (nx : Int) (I : List TRow) (i : Nat) : Decidable (InsS nx I i) := by unfold InsS; infer_instance
/-- What sound answers. -/
def soundB (nm : ByteArray) (nx : Int) (R : List TRow) (em : ByteArray) (I D : List TRow) (U : List PRow) : Bool :=
  decide (∀ i, i < D.length → DelS R D i) && (decide (∀ i, i < U.length → UpdS R D U i) && (decide (∀ i, i < I.length → InsS nx I i) && eqT em nm))
section
variable {nm em : ByteArray} {nx : Int} {R I D : List TRow} {U : List PRow} {k : Nat}
theorem sound_del (hk : k < D.length) (h : ¬ DelS R D k) : soundB nm nx R em I D U = false := by unfold soundB; rw [decide_eq_false (fun hc => h (hc k hk))]; rfl
theorem sound_upd (hk : k < U.length) (h : ¬ UpdS R D U k) : soundB nm nx R em I D U = false := by unfold soundB; rw [decide_eq_false (p := ∀ i, i < U.length → UpdS R D U i) (fun hc => h (hc k hk))]; simp
theorem sound_ins (hk : k < I.length) (h : ¬ InsS nx I k) : soundB nm nx R em I D U = false := by unfold soundB; rw [decide_eq_false (p := ∀ i, i < I.length → InsS nx I i) (fun hc => h (hc k hk))]; simp
theorem sound_yes (h1 : ∀ i, i < D.length → DelS R D i) (h2 : ∀ i, i < U.length → UpdS R D U i) (h3 : ∀ i, i < I.length → InsS nx I i) : soundB nm nx R em I D U = eqT em nm := by unfold soundB; rw [decide_eq_true h1, decide_eq_true h2, decide_eq_true h3]; rfl
theorem ids_take (hk : k < D.length) : (D.take (k + 1)).map (·.1) = (D.take k).map (·.1) ++ [(tAt D k).1] := by rw [take_trow hk, List.map_append]; rfl
theorem ids_asc (h : ∀ j, j < k → 0 < j → (tAt D (j - 1)).1 < (tAt D j).1) : ∀ i j, i < j → j < k → (tAt D i).1 < (tAt D j).1 := by
  intro i j hij
  induction j with
  | zero => intro _; omega
  | succ j ih =>
    intro hj
    have h1 := h (j + 1) hj (by omega)
    rw [Nat.add_sub_cancel] at h1
    by_cases he : i = j
    · subst he; exact h1
    · have := ih (by omega) (by omega); omega
theorem ids_new (hk : k < D.length) (h : ∀ j, j < k + 1 → 0 < j → (tAt D (j - 1)).1 < (tAt D j).1) : (tAt D k).1 ∉ (D.take k).map (·.1) := fun hm => by
  obtain ⟨x, hx, he⟩ := List.mem_map.1 hm
  obtain ⟨i, hi, hxi⟩ := List.getElem_of_mem hx
  rw [List.length_take] at hi
  have h1 := ids_asc h i k (by omega) (by omega)
  rw [List.getElem_take] at hxi
  rw [tAt_get (by omega : i < D.length), hxi, he] at h1
  omega
end
/-- What sound has while it looks at a difference. -/
structure SnW (w : World) (nm : ByteArray) (pc : Option Addr) (n cc : Nat) (nx : Int) (pr : Option Addr) (m cr : Nat) (em : ByteArray) (pi : Option Addr) (mi ci : Nat) (pd : Option Addr) (md cd : Nat) (pu : Option Addr) (mu cu : Nat) (M : Nat) (S : List Int) (v : World) : Prop where
  tab : Cell4 v w.heap.size (.string nm) (.slice pc n cc) (.int .i64 nx) (.slice pr m cr)
  dl : Cell4 v (w.heap.size + 1) (.string em) (.slice pi mi ci) (.slice pd md cd) (.slice pu mu cu)
  map : SeenI v M S
  bel : Below w.heap.size w v
  hM : w.heap.size + 2 ≤ M
section
variable {w u v : World} {nm : ByteArray} {pc : Option Addr} {n cc : Nat} {nx : Int} {pr : Option Addr} {m cr : Nat} {em : ByteArray} {pi : Option Addr} {mi ci : Nat} {pd : Option Addr} {md cd : Nat} {pu : Option Addr} {mu cu : Nat} {M : Nat} {S : List Int}
theorem SnW.low (h : SnW w nm pc n cc nx pr m cr em pi mi ci pd md cd pu mu cu M S u) (hb : Below u.heap.size u v) : SnW w nm pc n cc nx pr m cr em pi mi ci pd md cd pu mu cu M S v :=
  ⟨h.tab.low hb, h.dl.low hb, h.map.low hb, below_next h.bel hb, h.hM⟩
theorem SnW.put {x : Int} (h : SnW w nm pc n cc nx pr m cr em pi mi ci pd md cd pu mu cu M S u) (hs : SeenI v M (S ++ [x])) (hg : u.grownBy v (some M)) : SnW w nm pc n cc nx pr m cr em pi mi ci pd md cd pu mu cu M (S ++ [x]) v := by
  have hM := h.hM
  exact ⟨h.tab.grown hg (fun k hk => by cases hk; omega), h.dl.grown hg (fun k hk => by cases hk; omega), hs, h.bel.grown hg h.bel.size (fun k hk => by cases hk; omega), hM⟩
end
set_option maxHeartbeats 16000000 in
theorem rsound_any (T : Tab) (E : Dlt) (w : World) (hT : TabAt w T) (hE : DltAt w E) :
    Calls Tryd.prog 61 #[.agg #[.string T.nm, .slice T.pc T.n T.cc, .int .i64 T.nx, .slice T.pr T.R.length T.cr], .agg #[.string E.nm, .slice E.pi E.I.length E.ci, .slice E.pd E.D.length E.cd, .slice E.pu E.U.length E.cu]] w fun e w' => e = .returned (.bool (soundB T.nm T.nx T.R E.nm E.I E.D E.U)) ∧ Below w.heap.size w w' := by
  obtain ⟨nm, pc, n, cc, f, nx, pr, cr, R⟩ := T
  obtain ⟨em, pi, ci, I, pd, cd, D, pu, cu, U⟩ := E
  dsimp only
  have HT := Lib.hid hT
  have HE := Lib.hid hE
  have hI63 := hE.il
  have hD63 := hE.dl
  have hU63 := hE.ul
  dsimp only at hI63 hD63 hU63
  have hb0 : Below w.heap.size w ((w.alloc (.cells #[.string nm, .slice pc n cc, .int .i64 nx, .slice pr R.length cr] 27)).alloc (.cells #[.string em, .slice pi I.length ci, .slice pd D.length cd, .slice pu U.length cu] 41)) := below_new (below_new (Below.refl _ _) _) _
  have HX := Lib.hid ((cell4_new w (.string nm) (.slice pc n cc) (.int .i64 nx) (.slice pr R.length cr) 27).low (below_alloc _ (.cells #[.string em, .slice pi I.length ci, .slice pd D.length cd, .slice pu U.length cu] 41)))
  have HY := Lib.hid ((cell4_new (w.alloc (.cells #[.string nm, .slice pc n cc, .int .i64 nx, .slice pr R.length cr] 27)) (.string em) (.slice pi I.length ci) (.slice pd D.length cd) (.slice pu U.length cu) 41).at (size_alloc _ _))
  have HB0 := Lib.hid hb0
  clear hT hE hb0
  obtain ⟨res, hres⟩ : ∃ r, soundB nm nx R em I D U = r := ⟨_, rfl⟩
  rw [hres]
  have HRES := Lib.hid hres
  clear hres
  go_enter Tryd.func61, Tryd.ntmps61
  go_upto_region 1 with (fail)
  generalize World.alloc _ _ = w1 at HX HY HB0 ⊢
  have HS0 := Lib.hid (SeenI.new w1)
  have hmk := run_makeMap (P := Tryd.prog) (w := w1) 108
  have HW : Hid (SnW w nm pc n cc nx pr R.length cr em pi I.length ci pd D.length cd pu U.length cu w1.heap.size [] (w1.alloc (.map #[] 0))) := Lib.hid ⟨HX.out.low (below_alloc _ _), HY.out.low (below_alloc _ _), HS0.out, below_new HB0.out _, HY.out.lt⟩
  clear HX HY HB0 HS0
  go_upto_region 2 with (fail)
  generalize w1.alloc (.map #[] 0) = W1 at HW ⊢
  generalize hM : w1.heap.size = M at HW ⊢
  clear hM hmk
  obtain ⟨hyl, y0, y1, y2, y3, -⟩ := HW.out.dl
  go_wp2_with fail
  go_loopw [20] (fun i v => ∃ k : Nat, k ≤ D.length ∧ i = .int .i64 k ∧ (∀ j, j < k → DelS R D j) ∧ SnW w nm pc n cc nx pr R.length cr em pi I.length ci pd D.length cd pu U.length cu M ((D.take k).map (·.1)) v) (fun i _ => D.length - (intOf i).toNat)
  case atStart => exact ⟨0, Nat.zero_le _, rfl, fun j hj => by omega, HW.out⟩
  clear HW hyl y0 y1 y2 y3
  case round =>
    obtain ⟨k, hk, rfl, hok, hw⟩ := hrel
    have HOK := Lib.hid hok
    have HW := Lib.hid hw
    clear hok hw
    by_cases hlt : k < D.length
    · have hlt' : decide ((k : Int) < D.length) = true := decide_eq_true (by omega)
      obtain ⟨c, o, q, cq, hp, hc, h0, h1, hro, hso, -⟩ := (HE.out.low HW.out.bel).del k hlt
      dsimp only at hp h0 h1 hro hso
      subst hp
      have hbn := below_alloc wr (.cells #[.int .i64 (tAt D k).1, .slice q (tAt D k).2.length cq] 53)
      have HPREV2 : Hid (0 < k → (wr.alloc (.cells #[.int .i64 (tAt D k).1, .slice q (tAt D k).2.length cq] 53)).cell? ⟨c, o + (k - 1) * 2, none⟩ = some (.int .i64 (tAt D (k - 1)).1)) := Lib.hid (by
        intro h0k
        obtain ⟨c', o', q', cq', he, hc', h0', -⟩ := (HE.out.low HW.out.bel).del (k - 1) (by show k - 1 < D.length; omega)
        cases he
        rw [hbn.cell (by exact hc)]
        exact h0')
      have HW2 := Lib.hid (HW.out.low hbn)
      have HRO := Lib.hid (hro.low hbn)
      have HP2 := Lib.hid (cell2_new wr (.int .i64 (tAt D k).1) (.slice q (tAt D k).2.length cq) 53)
      have hcl2 := Nat.lt_of_lt_of_le hc hbn.size
      have HOL : Hid ((tAt D k).2.length ≤ 9223372036854775807) := Lib.hid (by omega)
      clear hro hso HW hbn
      go_upto_region 5 with (fail)
      clear h0 h1 hc
      generalize World.alloc _ _ = W2 at HPREV2 HW2 HRO HP2 hcl2 ⊢
      generalize wr.heap.size = P at HP2 ⊢
      obtain ⟨hxl, x0, x1, x2, x3, -⟩ := HW2.out.tab
      obtain ⟨hpl, p0, p1, -⟩ := HP2.out
      obtain ⟨gl, gb, hget⟩ : ∃ l b, getO (tAt D k).1 R = (l, b) := ⟨_, _, rfl⟩
      have HGET := Lib.hid hget
      clear hget
      go_wp2_with fail
      refine (rgt_any nm pc n cc f nx pr cr R _ _ (HT.out.low HW2.out.bel) HGET.out).mono ?_
      rintro e w3 ⟨gp, gc, rfl, hgr, hgs, hb3⟩
      have HW3 := Lib.hid (HW2.out.low hb3)
      have HP3 := Lib.hid (HP2.out.low hb3)
      have HRO3 := Lib.hid (HRO.out.low hb3)
      have HGR := Lib.hid hgr
      have HGL : Hid (gl.length ≤ 9223372036854775807) := Lib.hid (by omega)
      have HPREV3 : Hid (0 < k → w3.cell? ⟨c, o + (k - 1) * 2, none⟩ = some (.int .i64 (tAt D (k - 1)).1)) := Lib.hid (fun h0k => by rw [hb3.cell (by exact hcl2)]; exact HPREV2.out h0k)
      have hcl := Nat.lt_of_lt_of_le hcl2 hb3.size
      clear HW2 HP2 HRO HPREV2 hgr hgs hb3 hcl2 hxl x0 x1 x2 x3 hpl p0 p1 
      go_upto_region 6 with (fail)
      obtain ⟨hyl, y0, y1, y2, y3, -⟩ := HW3.out.dl
      obtain ⟨hpl, p0, p1, -⟩ := HP3.out
      cases gb
      · have HV : Hid (soundB nm nx R em I D U = false) := Lib.hid (sound_del hlt (fun h => by have := h.1; rw [HGET.out] at this; cases this))
        go_quiet (fail)
        go_wp2
        go_ret
        exact ⟨ret_b (by rw [← HRES.out, HV.out]), drewN_low HW3.out.bel _⟩
      · have l0 := lowW_cell (a := ⟨w.heap.size + 1, 0, none⟩) hyl y0
        have l1 := lowW_cell (a := ⟨w.heap.size + 1, 1, none⟩) hyl y1
        have l2 := lowW_cell (a := ⟨w.heap.size + 1, 2, none⟩) hyl y2
        have l3 := lowW_cell (a := ⟨w.heap.size + 1, 3, none⟩) hyl y3
        have m0 := lowW_cell (a := ⟨P, 0, none⟩) hpl p0
        have m1 := lowW_cell (a := ⟨P, 1, none⟩) hpl p1
        clear hyl y0 y1 y2 y3 hpl p0 p1 
        cases hz : (cmpRow gl (tAt D k).2 != 0)
        · by_cases h3 : 0 < k
          · have e3 : decide ((0 : Int) < (k : Int)) = true := decide_eq_true (by omega)
            have e3n : decide (0 < k) = true := decide_eq_true h3
            have lp := lowW_cell (a := ⟨c, o + (k - 1) * 2, none⟩) hcl (HPREV3.out h3)
            have hw1 : IntKind.i64.wrap ((k : Int) - 1) = (k : Int) - 1 := i64w (by omega) (by omega)
            have ht1 : ((k : Int) - 1).toNat = k - 1 := by omega
            have hlo : (1 : Int) ≤ (k : Int) := by omega
            have hhi : (k : Int) - 1 < (D.length : Int) := by omega
            by_cases h4 : (tAt D k).1 ≤ (tAt D (k - 1)).1
            · have e4 : decide ((tAt D k).1 ≤ (tAt D (k - 1)).1) = true := decide_eq_true h4
              have HV : Hid (soundB nm nx R em I D U = false) := Lib.hid (sound_del hlt (fun h => by have := h.2.2 h3; omega))
              refine wp_region_low (by kernel_rfl) (by kernel_rfl) ?_
              repeat (refine wq_step (fun K hK => ?_); go_simp; first | (refine hK _ ?_; clear hK K) | (apply Exists.intro; refine ⟨fun _ => ?_, hK _ ?_⟩; (go_at_call 34; exact Calls.low_of (rcomparerows_any gp q gl (tAt D k).2 gc cq _ HGL.out HOL.out (HGR.out.low (lowW_low _ _ _)) (HRO3.out.low (lowW_low _ _ _)))); clear hK K))
              refine wq_nil ?_
              rintro _ ⟨⟨d3, os3⟩, rfl⟩
              dsimp only
              have HW4 := Lib.hid (HW3.out.low (lowW_low w3 d3 os3))
              clear lp l0 l1 l2 l3 m0 m1
              generalize lowW w3 d3 os3 = w4 at HW4 ⊢
              go_wp2
              go_ret
              exact ⟨ret_b (by rw [← HRES.out, HV.out]), HW4.out.bel⟩
            · have e4 : decide ((tAt D k).1 ≤ (tAt D (k - 1)).1) = false := decide_eq_false h4
              refine wp_region_low (by kernel_rfl) (by kernel_rfl) ?_
              repeat (refine wq_step (fun K hK => ?_); go_simp; first | (refine hK _ ?_; clear hK K) | (apply Exists.intro; refine ⟨fun _ => ?_, hK _ ?_⟩; (go_at_call 34; exact Calls.low_of (rcomparerows_any gp q gl (tAt D k).2 gc cq _ HGL.out HOL.out (HGR.out.low (lowW_low _ _ _)) (HRO3.out.low (lowW_low _ _ _)))); clear hK K))
              refine wq_nil ?_
              rintro _ ⟨⟨d3, os3⟩, rfl⟩
              dsimp only
              have HW4 := Lib.hid (HW3.out.low (lowW_low w3 d3 os3))
              have HP4 := Lib.hid (HP3.out.low (lowW_low w3 d3 os3))
              clear lp l0 l1 l2 l3 m0 m1
              generalize lowW w3 d3 os3 = w4 at HW4 HP4 ⊢
              obtain ⟨hpl, p0, p1, -⟩ := HP4.out
              have HDO : Hid (DelS R D k) := Lib.hid ⟨by rw [HGET.out], by rw [HGET.out]; exact (cmpRow_zero _ _).1 (bne_eq_false_iff_eq.1 hz), fun _ => by omega⟩
              have HNS : Hid ((tAt D k).1 ∉ (D.take k).map (·.1)) := Lib.hid (ids_new hlt (fun j hj hj0 => by
                by_cases he : j = k
                · subst he; exact HDO.out.2.2 hj0
                · exact (HOK.out j (by omega)).2.2 hj0))
              have HTK := Lib.hid (ids_take hlt)
              go_wp2_with (at_mapUpdate; refine wpList_put_seenI rfl (.tmp 57) (.tmp 59) (.const (.bool true)) 108 rfl Tryd.underlying108 M _ rfl HW4.out.map (tAt D k).1 (by rfl) rfl HNS.out ?_; intro w5 hs5 hg5; (have HW5 := Lib.hid (HW4.out.put hs5 hg5)); clear hs5 hg5)
              go_roundw
              case rel => exact ⟨k + 1, by omega, by go_num, all_succ HOK.out HDO.out, by rw [HTK.out]; exact HW5.out⟩
              case measure => simp [intOf]; omega
          · have e3 : decide ((0 : Int) < (k : Int)) = false := decide_eq_false (by omega)
            have e3n : decide (0 < k) = false := decide_eq_false h3
            refine wp_region_low (by kernel_rfl) (by kernel_rfl) ?_
            repeat (refine wq_step (fun K hK => ?_); go_simp; first | (refine hK _ ?_; clear hK K) | (apply Exists.intro; refine ⟨fun _ => ?_, hK _ ?_⟩; (go_at_call 34; exact Calls.low_of (rcomparerows_any gp q gl (tAt D k).2 gc cq _ HGL.out HOL.out (HGR.out.low (lowW_low _ _ _)) (HRO3.out.low (lowW_low _ _ _)))); clear hK K))
            refine wq_nil ?_
            rintro _ ⟨⟨d3, os3⟩, rfl⟩
            dsimp only
            have HW4 := Lib.hid (HW3.out.low (lowW_low w3 d3 os3))
            have HP4 := Lib.hid (HP3.out.low (lowW_low w3 d3 os3))
            clear l0 l1 l2 l3 m0 m1
            generalize lowW w3 d3 os3 = w4 at HW4 HP4 ⊢
            obtain ⟨hpl, p0, p1, -⟩ := HP4.out
            have HDO : Hid (DelS R D k) := Lib.hid ⟨by rw [HGET.out], by rw [HGET.out]; exact (cmpRow_zero _ _).1 (bne_eq_false_iff_eq.1 hz), fun h => absurd h h3⟩
            have HNS : Hid ((tAt D k).1 ∉ (D.take k).map (·.1)) := Lib.hid (ids_new hlt (fun j hj hj0 => by
              by_cases he : j = k
              · subst he; exact HDO.out.2.2 hj0
              · exact (HOK.out j (by omega)).2.2 hj0))
            have HTK := Lib.hid (ids_take hlt)
            go_wp2_with (at_mapUpdate; refine wpList_put_seenI rfl (.tmp 57) (.tmp 59) (.const (.bool true)) 108 rfl Tryd.underlying108 M _ rfl HW4.out.map (tAt D k).1 (by rfl) rfl HNS.out ?_; intro w5 hs5 hg5; (have HW5 := Lib.hid (HW4.out.put hs5 hg5)); clear hs5 hg5)
            go_roundw
            case rel => exact ⟨k + 1, by omega, by go_num, all_succ HOK.out HDO.out, by rw [HTK.out]; exact HW5.out⟩
            case measure => simp [intOf]; omega
        · have HV : Hid (soundB nm nx R em I D U = false) := Lib.hid (sound_del hlt (fun h => by have := h.2.1; rw [HGET.out] at this; exact bne_iff_ne.1 hz ((cmpRow_zero _ _).2 this)))
          refine wp_region_low (by kernel_rfl) (by kernel_rfl) ?_
          repeat (refine wq_step (fun K hK => ?_); go_simp; first | (refine hK _ ?_; clear hK K) | (apply Exists.intro; refine ⟨fun _ => ?_, hK _ ?_⟩; (go_at_call 34; exact Calls.low_of (rcomparerows_any gp q gl (tAt D k).2 gc cq _ HGL.out HOL.out (HGR.out.low (lowW_low _ _ _)) (HRO3.out.low (lowW_low _ _ _)))); clear hK K))
          refine wq_nil ?_
          rintro _ ⟨⟨d3, os3⟩, rfl⟩
          dsimp only
          have HW4 := Lib.hid (HW3.out.low (lowW_low w3 d3 os3))
          clear l0 l1 l2 l3 m0 m1
          generalize lowW w3 d3 os3 = w4 at HW4 ⊢
          go_wp2
          go_ret
          exact ⟨ret_b (by rw [← HRES.out, HV.out]), HW4.out.bel⟩
    · have hlt' : decide ((k : Int) < D.length) = false := decide_eq_false (by omega)
      obtain rfl : k = D.length := by omega
      have HW1 : Hid (SnW w nm pc n cc nx pr R.length cr em pi I.length ci pd D.length cd pu U.length cu M (D.map (·.1)) wr) := Lib.hid (by have := HW.out; rw [List.take_length] at this; exact this)
      clear HW
      have HW := HW1
      have HDEL := Lib.hid HOK.out
      clear HOK HW1
      obtain ⟨hyl, y0, y1, y2, y3, -⟩ := HW.out.dl
      go_wp2_with fail
      go_loopw [64] (fun i v => ∃ k : Nat, k ≤ U.length ∧ i = .int .i64 k ∧ (∀ j, j < k → UpdS R D U j) ∧ SnW w nm pc n cc nx pr R.length cr em pi I.length ci pd D.length cd pu U.length cu M (D.map (·.1)) v) (fun i _ => U.length - (intOf i).toNat)
      case atStart => exact ⟨0, Nat.zero_le _, rfl, fun j hj => by omega, HW.out⟩
      clear HW hyl y0 y1 y2 y3
      case round =>
        obtain ⟨k, hk, rfl, hok, hw⟩ := hrel
        have HOK := Lib.hid hok
        have HW := Lib.hid hw
        clear hok hw
        by_cases hlt : k < U.length
        · have hlt' : decide ((k : Int) < U.length) = true := decide_eq_true (by omega)
          obtain ⟨c, o, q, cq, r, cw, hp, hc, h0, h1, h2, hro, -, hso, -, -, -⟩ := (HE.out.low HW.out.bel).upd k hlt
          dsimp only at hp h0 h1 h2 hro hso
          subst hp
          have hbn := below_alloc wr (.cells #[.int .i64 (pAt U k).1, .slice q (pAt U k).2.1.length cq, .slice r (pAt U k).2.2.length cw] 86)
          have HPREV2 : Hid (0 < k → (wr.alloc (.cells #[.int .i64 (pAt U k).1, .slice q (pAt U k).2.1.length cq, .slice r (pAt U k).2.2.length cw] 86)).cell? ⟨c, o + (k - 1) * 3, none⟩ = some (.int .i64 (pAt U (k - 1)).1)) := Lib.hid (by
            intro h0k
            obtain ⟨c', o', q', cq', r', cw', he, hc', h0', -⟩ := (HE.out.low HW.out.bel).upd (k - 1) (by show k - 1 < U.length; omega)
            cases he
            rw [hbn.cell (by exact hc)]
            exact h0')
          have HW2 := Lib.hid (HW.out.low hbn)
          have HRO := Lib.hid (hro.low hbn)
          have HP2 := Lib.hid (cell3_new wr (.int .i64 (pAt U k).1) (.slice q (pAt U k).2.1.length cq) (.slice r (pAt U k).2.2.length cw) 86)
          have hcl2 := Nat.lt_of_lt_of_le hc hbn.size
          have HOL : Hid ((pAt U k).2.1.length ≤ 9223372036854775807) := Lib.hid (by omega)
          clear hro hso HW hbn
          go_upto_region 13 with (fail)
          clear h0 h1 h2 hc
          generalize World.alloc _ _ = W2 at HPREV2 HW2 HRO HP2 hcl2 ⊢
          generalize wr.heap.size = P at HP2 ⊢
          obtain ⟨hxl, x0, x1, x2, x3, -⟩ := HW2.out.tab
          obtain ⟨hpl, p0, p1, p2, -⟩ := HP2.out
          obtain ⟨gl, gb, hget⟩ : ∃ l b, getO (pAt U k).1 R = (l, b) := ⟨_, _, rfl⟩
          have HGET := Lib.hid hget
          clear hget
          go_wp2_with fail
          refine (rgt_any nm pc n cc f nx pr cr R _ _ (HT.out.low HW2.out.bel) HGET.out).mono ?_
          rintro e w3 ⟨gp, gc, rfl, hgr, hgs, hb3⟩
          have HW3 := Lib.hid (HW2.out.low hb3)
          have HP3 := Lib.hid (HP2.out.low hb3)
          have HRO3 := Lib.hid (HRO.out.low hb3)
          have HGR := Lib.hid hgr
          have HGL : Hid (gl.length ≤ 9223372036854775807) := Lib.hid (by omega)
          have HPREV3 : Hid (0 < k → w3.cell? ⟨c, o + (k - 1) * 3, none⟩ = some (.int .i64 (pAt U (k - 1)).1)) := Lib.hid (fun h0k => by rw [hb3.cell (by exact hcl2)]; exact HPREV2.out h0k)
          have hcl := Nat.lt_of_lt_of_le hcl2 hb3.size
          clear HW2 HP2 HRO HPREV2 hgr hgs hb3 hcl2 hxl x0 x1 x2 x3 hpl p0 p1 p2
          go_upto_region 14 with (fail)
          obtain ⟨hyl, y0, y1, y2, y3, -⟩ := HW3.out.dl
          obtain ⟨hpl, p0, p1, p2, -⟩ := HP3.out
          cases gb
          · have HV : Hid (soundB nm nx R em I D U = false) := Lib.hid (sound_upd hlt (fun h => by have := h.1; rw [HGET.out] at this; cases this))
            go_quiet (fail)
            go_wp2
            go_ret
            exact ⟨ret_b (by rw [← HRES.out, HV.out]), drewN_low HW3.out.bel _⟩
          · have l0 := lowW_cell (a := ⟨w.heap.size + 1, 0, none⟩) hyl y0
            have l1 := lowW_cell (a := ⟨w.heap.size + 1, 1, none⟩) hyl y1
            have l2 := lowW_cell (a := ⟨w.heap.size + 1, 2, none⟩) hyl y2
            have l3 := lowW_cell (a := ⟨w.heap.size + 1, 3, none⟩) hyl y3
            have m0 := lowW_cell (a := ⟨P, 0, none⟩) hpl p0
            have m1 := lowW_cell (a := ⟨P, 1, none⟩) hpl p1
            have m2 := lowW_cell (a := ⟨P, 2, none⟩) hpl p2
            have hlook : ∀ d os, (Instr.lookup 108 (.map (some M)) (.int .i64 (pAt U k).1) false).run Tryd.prog (lowW w3 d os) = .ok (.bool (decide ((pAt U k).1 ∈ D.map (·.1)))) (lowW w3 d os) := fun d os => (HW3.out.map.low (lowW_low w3 d os)).look _ _ Tryd.underlying108
            clear hyl y0 y1 y2 y3 hpl p0 p1 p2 
            by_cases hm : (pAt U k).1 ∈ D.map (·.1)
            · rw [decide_eq_true hm] at hlook
              have HV : Hid (soundB nm nx R em I D U = false) := Lib.hid (sound_upd hlt (fun h => h.2.1 hm))
              refine wp_region_low (by kernel_rfl) (by kernel_rfl) ?_
              repeat (refine wq_step (fun K hK => ?_); go_simp; first | (refine hK _ ?_; clear hK K) | (apply Exists.intro; refine ⟨fun _ => ?_, hK _ ?_⟩; (go_at_call 34; exact Calls.low_of (rcomparerows_any gp q gl (pAt U k).2.1 gc cq _ HGL.out HOL.out (HGR.out.low (lowW_low _ _ _)) (HRO3.out.low (lowW_low _ _ _)))); clear hK K))
              refine wq_nil ?_
              rintro _ ⟨⟨d3, os3⟩, rfl⟩
              dsimp only
              have HW4 := Lib.hid (HW3.out.low (lowW_low w3 d3 os3))
              clear l0 l1 l2 l3 m0 m1 m2 hlook
              generalize lowW w3 d3 os3 = w4 at HW4 ⊢
              go_wp2
              go_ret
              exact ⟨ret_b (by rw [← HRES.out, HV.out]), HW4.out.bel⟩
            · rw [decide_eq_false hm] at hlook
              cases hz : (cmpRow gl (pAt U k).2.1 != 0)
              · by_cases h3 : 0 < k
                · have e3 : decide ((0 : Int) < (k : Int)) = true := decide_eq_true (by omega)
                  have e3n : decide (0 < k) = true := decide_eq_true h3
                  have lp := lowW_cell (a := ⟨c, o + (k - 1) * 3, none⟩) hcl (HPREV3.out h3)
                  have hw1 : IntKind.i64.wrap ((k : Int) - 1) = (k : Int) - 1 := i64w (by omega) (by omega)
                  have ht1 : ((k : Int) - 1).toNat = k - 1 := by omega
                  have hlo : (1 : Int) ≤ (k : Int) := by omega
                  have hhi : (k : Int) - 1 < (U.length : Int) := by omega
                  by_cases h4 : (pAt U k).1 ≤ (pAt U (k - 1)).1
                  · have e4 : decide ((pAt U k).1 ≤ (pAt U (k - 1)).1) = true := decide_eq_true h4
                    have HV : Hid (soundB nm nx R em I D U = false) := Lib.hid (sound_upd hlt (fun h => by have := h.2.2.2 h3; omega))
                    refine wp_region_low (by kernel_rfl) (by kernel_rfl) ?_
                    repeat (refine wq_step (fun K hK => ?_); go_simp; first | (refine hK _ ?_; clear hK K) | (apply Exists.intro; refine ⟨fun _ => ?_, hK _ ?_⟩; (go_at_call 34; exact Calls.low_of (rcomparerows_any gp q gl (pAt U k).2.1 gc cq _ HGL.out HOL.out (HGR.out.low (lowW_low _ _ _)) (HRO3.out.low (lowW_low _ _ _)))); clear hK K))
                    refine wq_nil ?_
                    rintro _ ⟨⟨d3, os3⟩, rfl⟩
                    dsimp only
                    have HW4 := Lib.hid (HW3.out.low (lowW_low w3 d3 os3))
                    clear lp l0 l1 l2 l3 m0 m1 m2 hlook
                    generalize lowW w3 d3 os3 = w4 at HW4 ⊢
                    go_wp2
                    go_ret
                    exact ⟨ret_b (by rw [← HRES.out, HV.out]), HW4.out.bel⟩
                  · have e4 : decide ((pAt U k).1 ≤ (pAt U (k - 1)).1) = false := decide_eq_false h4
                    refine wp_region_low (by kernel_rfl) (by kernel_rfl) ?_
                    repeat (refine wq_step (fun K hK => ?_); go_simp; first | (refine hK _ ?_; clear hK K) | (apply Exists.intro; refine ⟨fun _ => ?_, hK _ ?_⟩; (go_at_call 34; exact Calls.low_of (rcomparerows_any gp q gl (pAt U k).2.1 gc cq _ HGL.out HOL.out (HGR.out.low (lowW_low _ _ _)) (HRO3.out.low (lowW_low _ _ _)))); clear hK K))
                    refine wq_nil ?_
                    rintro _ ⟨⟨d3, os3⟩, rfl⟩
                    dsimp only
                    have HW4 := Lib.hid (HW3.out.low (lowW_low w3 d3 os3))
                    clear lp l0 l1 l2 l3 m0 m1 m2 hlook
                    generalize lowW w3 d3 os3 = w4 at HW4 ⊢
                    have HDO : Hid (UpdS R D U k) := Lib.hid ⟨by rw [HGET.out], hm, by rw [HGET.out]; exact (cmpRow_zero _ _).1 (bne_eq_false_iff_eq.1 hz), fun _ => by omega⟩
                    go_wp2
                    go_roundw
                    case rel => exact ⟨k + 1, by omega, by go_num, all_succ HOK.out HDO.out, HW4.out⟩
                    case measure => simp [intOf]; omega
                · have e3 : decide ((0 : Int) < (k : Int)) = false := decide_eq_false (by omega)
                  have e3n : decide (0 < k) = false := decide_eq_false h3
                  refine wp_region_low (by kernel_rfl) (by kernel_rfl) ?_
                  repeat (refine wq_step (fun K hK => ?_); go_simp; first | (refine hK _ ?_; clear hK K) | (apply Exists.intro; refine ⟨fun _ => ?_, hK _ ?_⟩; (go_at_call 34; exact Calls.low_of (rcomparerows_any gp q gl (pAt U k).2.1 gc cq _ HGL.out HOL.out (HGR.out.low (lowW_low _ _ _)) (HRO3.out.low (lowW_low _ _ _)))); clear hK K))
                  refine wq_nil ?_
                  rintro _ ⟨⟨d3, os3⟩, rfl⟩
                  dsimp only
                  have HW4 := Lib.hid (HW3.out.low (lowW_low w3 d3 os3))
                  clear l0 l1 l2 l3 m0 m1 m2 hlook
                  generalize lowW w3 d3 os3 = w4 at HW4 ⊢
                  have HDO : Hid (UpdS R D U k) := Lib.hid ⟨by rw [HGET.out], hm, by rw [HGET.out]; exact (cmpRow_zero _ _).1 (bne_eq_false_iff_eq.1 hz), fun h => absurd h h3⟩
                  go_wp2
                  go_roundw
                  case rel => exact ⟨k + 1, by omega, by go_num, all_succ HOK.out HDO.out, HW4.out⟩
                  case measure => simp [intOf]; omega
              · have HV : Hid (soundB nm nx R em I D U = false) := Lib.hid (sound_upd hlt (fun h => by have := h.2.2.1; rw [HGET.out] at this; exact bne_iff_ne.1 hz ((cmpRow_zero _ _).2 this)))
                refine wp_region_low (by kernel_rfl) (by kernel_rfl) ?_
                repeat (refine wq_step (fun K hK => ?_); go_simp; first | (refine hK _ ?_; clear hK K) | (apply Exists.intro; refine ⟨fun _ => ?_, hK _ ?_⟩; (go_at_call 34; exact Calls.low_of (rcomparerows_any gp q gl (pAt U k).2.1 gc cq _ HGL.out HOL.out (HGR.out.low (lowW_low _ _ _)) (HRO3.out.low (lowW_low _ _ _)))); clear hK K))
                refine wq_nil ?_
                rintro _ ⟨⟨d3, os3⟩, rfl⟩
                dsimp only
                have HW4 := Lib.hid (HW3.out.low (lowW_low w3 d3 os3))
                clear l0 l1 l2 l3 m0 m1 m2 hlook
                generalize lowW w3 d3 os3 = w4 at HW4 ⊢
                go_wp2
                go_ret
                exact ⟨ret_b (by rw [← HRES.out, HV.out]), HW4.out.bel⟩
        · have hlt' : decide ((k : Int) < U.length) = false := decide_eq_false (by omega)
          obtain rfl : k = U.length := by omega
          have HUPD := Lib.hid HOK.out
          clear HOK
          obtain ⟨hyl, y0, y1, y2, y3, -⟩ := HW.out.dl
          go_wp2_with fail
          go_loopw [111] (fun i v => ∃ k : Nat, k ≤ I.length ∧ i = .int .i64 k ∧ (∀ j, j < k → InsS nx I j) ∧ SnW w nm pc n cc nx pr R.length cr em pi I.length ci pd D.length cd pu U.length cu M (D.map (·.1)) v) (fun i _ => I.length - (intOf i).toNat)
          case atStart => exact ⟨0, Nat.zero_le _, rfl, fun j hj => by omega, HW.out⟩
          clear HW hyl y0 y1 y2 y3
          case round =>
            obtain ⟨k, hk, rfl, hok, hw⟩ := hrel
            have HOK := Lib.hid hok
            have HW := Lib.hid hw
            clear hok hw
            by_cases hlt : k < I.length
            · have hlt' : decide ((k : Int) < I.length) = true := decide_eq_true (by omega)
              obtain ⟨c, o, q, cq, hp, hc, h0, h1, hro, hso, -⟩ := (HE.out.low HW.out.bel).ins k hlt
              dsimp only at hp h0 h1 hro hso
              subst hp
              have hbn := below_alloc wr (.cells #[.int .i64 (tAt I k).1, .slice q (tAt I k).2.length cq] 53)
              have HPREV2 : Hid (0 < k → (wr.alloc (.cells #[.int .i64 (tAt I k).1, .slice q (tAt I k).2.length cq] 53)).cell? ⟨c, o + (k - 1) * 2, none⟩ = some (.int .i64 (tAt I (k - 1)).1)) := Lib.hid (by
                intro h0k
                obtain ⟨c', o', q', cq', he, hc', h0', -⟩ := (HE.out.low HW.out.bel).ins (k - 1) (by show k - 1 < I.length; omega)
                cases he
                rw [hbn.cell (by exact hc)]
                exact h0')
              have HW2 := Lib.hid (HW.out.low hbn)
              have HRO := Lib.hid (hro.low hbn)
              have HP2 := Lib.hid (cell2_new wr (.int .i64 (tAt I k).1) (.slice q (tAt I k).2.length cq) 53)
              have hcl2 := Nat.lt_of_lt_of_le hc hbn.size
              have HOL : Hid ((tAt I k).2.length ≤ 9223372036854775807) := Lib.hid (by omega)
              clear hro hso HW hbn
              go_upto_region 20 with (fail)
              clear h0 h1 hc
              generalize World.alloc _ _ = W2 at HPREV2 HW2 HRO HP2 hcl2 ⊢
              generalize wr.heap.size = P at HP2 ⊢
              generalize W2 = w3 at HPREV2 HW2 HRO HP2 hcl2 ⊢
              have HW3 := HW2
              have HP3 := HP2
              have HPREV3 := HPREV2
              have hcl := hcl2
              clear HW2 HP2 HPREV2 hcl2 HRO HOL
              obtain ⟨hxl, x0, x1, x2, x3, -⟩ := HW3.out.tab
              obtain ⟨hyl, y0, y1, y2, y3, -⟩ := HW3.out.dl
              obtain ⟨hpl, p0, p1, -⟩ := HP3.out
              have l0 := lowW_cell (a := ⟨w.heap.size + 1, 0, none⟩) hyl y0
              have l1 := lowW_cell (a := ⟨w.heap.size + 1, 1, none⟩) hyl y1
              have l2 := lowW_cell (a := ⟨w.heap.size + 1, 2, none⟩) hyl y2
              have l3 := lowW_cell (a := ⟨w.heap.size + 1, 3, none⟩) hyl y3
              have m0 := lowW_cell (a := ⟨P, 0, none⟩) hpl p0
              have m1 := lowW_cell (a := ⟨P, 1, none⟩) hpl p1
              have n2 := lowW_cell (a := ⟨w.heap.size, 2, none⟩) hxl x2
              clear hyl y0 y1 y2 y3 hpl p0 p1 hxl x0 x1 x2 x3 
              by_cases h5 : (tAt I k).1 < nx
              · have e5 : decide ((tAt I k).1 < nx) = true := decide_eq_true h5
                have HV : Hid (soundB nm nx R em I D U = false) := Lib.hid (sound_ins hlt (fun h => by have := h.1; omega))
                refine wp_region_low (by kernel_rfl) (by kernel_rfl) ?_
                repeat (refine wq_step (fun K hK => ?_); go_simp; first | (refine hK _ ?_; clear hK K))
                refine wq_nil ?_
                rintro _ ⟨⟨d3, os3⟩, rfl⟩
                dsimp only
                have HW4 := Lib.hid (HW3.out.low (lowW_low w3 d3 os3))
                clear l0 l1 l2 l3 m0 m1 n2
                generalize lowW w3 d3 os3 = w4 at HW4 ⊢
                go_wp2
                go_ret
                exact ⟨ret_b (by rw [← HRES.out, HV.out]), HW4.out.bel⟩
              · have e5 : decide ((tAt I k).1 < nx) = false := decide_eq_false h5
                by_cases h3 : 0 < k
                · have e3 : decide ((0 : Int) < (k : Int)) = true := decide_eq_true (by omega)
                  have e3n : decide (0 < k) = true := decide_eq_true h3
                  have lp := lowW_cell (a := ⟨c, o + (k - 1) * 2, none⟩) hcl (HPREV3.out h3)
                  have hw1 : IntKind.i64.wrap ((k : Int) - 1) = (k : Int) - 1 := i64w (by omega) (by omega)
                  have ht1 : ((k : Int) - 1).toNat = k - 1 := by omega
                  have hlo : (1 : Int) ≤ (k : Int) := by omega
                  have hhi : (k : Int) - 1 < (I.length : Int) := by omega
                  by_cases h4 : (tAt I k).1 ≤ (tAt I (k - 1)).1
                  · have e4 : decide ((tAt I k).1 ≤ (tAt I (k - 1)).1) = true := decide_eq_true h4
                    have HV : Hid (soundB nm nx R em I D U = false) := Lib.hid (sound_ins hlt (fun h => by have := h.2 h3; omega))
                    refine wp_region_low (by kernel_rfl) (by kernel_rfl) ?_
                    repeat (refine wq_step (fun K hK => ?_); go_simp; first | (refine hK _ ?_; clear hK K))
                    refine wq_nil ?_
                    rintro _ ⟨⟨d3, os3⟩, rfl⟩
                    dsimp only
                    have HW4 := Lib.hid (HW3.out.low (lowW_low w3 d3 os3))
                    clear lp l0 l1 l2 l3 m0 m1 n2
                    generalize lowW w3 d3 os3 = w4 at HW4 ⊢
                    go_wp2
                    go_ret
                    exact ⟨ret_b (by rw [← HRES.out, HV.out]), HW4.out.bel⟩
                  · have e4 : decide ((tAt I k).1 ≤ (tAt I (k - 1)).1) = false := decide_eq_false h4
                    refine wp_region_low (by kernel_rfl) (by kernel_rfl) ?_
                    repeat (refine wq_step (fun K hK => ?_); go_simp; first | (refine hK _ ?_; clear hK K))
                    refine wq_nil ?_
                    rintro _ ⟨⟨d3, os3⟩, rfl⟩
                    dsimp only
                    have HW4 := Lib.hid (HW3.out.low (lowW_low w3 d3 os3))
                    clear lp l0 l1 l2 l3 m0 m1 n2
                    generalize lowW w3 d3 os3 = w4 at HW4 ⊢
                    have HDO : Hid (InsS nx I k) := Lib.hid ⟨by omega, fun _ => by omega⟩
                    go_wp2
                    go_roundw
                    case rel => exact ⟨k + 1, by omega, by go_num, all_succ HOK.out HDO.out, HW4.out⟩
                    case measure => simp [intOf]; omega
                · have e3 : decide ((0 : Int) < (k : Int)) = false := decide_eq_false (by omega)
                  have e3n : decide (0 < k) = false := decide_eq_false h3
                  refine wp_region_low (by kernel_rfl) (by kernel_rfl) ?_
                  repeat (refine wq_step (fun K hK => ?_); go_simp; first | (refine hK _ ?_; clear hK K))
                  refine wq_nil ?_
                  rintro _ ⟨⟨d3, os3⟩, rfl⟩
                  dsimp only
                  have HW4 := Lib.hid (HW3.out.low (lowW_low w3 d3 os3))
                  clear l0 l1 l2 l3 m0 m1 n2
                  generalize lowW w3 d3 os3 = w4 at HW4 ⊢
                  have HDO : Hid (InsS nx I k) := Lib.hid ⟨by omega, fun h => absurd h h3⟩
                  go_wp2
                  go_roundw
                  case rel => exact ⟨k + 1, by omega, by go_num, all_succ HOK.out HDO.out, HW4.out⟩
                  case measure => simp [intOf]; omega
            · have hlt' : decide ((k : Int) < I.length) = false := decide_eq_false (by omega)
              obtain rfl : k = I.length := by omega
              have HV : Hid (soundB nm nx R em I D U = eqT em nm) := Lib.hid (sound_yes HDEL.out HUPD.out HOK.out)
              obtain ⟨hxl, x0, x1, x2, x3, -⟩ := HW.out.tab
              obtain ⟨hyl, y0, y1, y2, y3, -⟩ := HW.out.dl
              go_wp2
              go_ret
              exact ⟨ret_b (by rw [← HRES.out, HV.out]; rfl), HW.out.bel⟩
end Go.Proofs.YtlelgkgdppkedaaDoor
