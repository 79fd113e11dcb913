/-
  Several texts in one.
-/
import Derived.Test.YtlelgkgdppkedaaDoorPk45
import Derived.Test.YtlelgkgdppkedaaDoorPk31
import Derived.Test.YtlelgkgdppkedaaDoorPk39
import Derived.Test.YtlelgkgdppkedaaDoorPk27
import Derived.Test.YtlelgkgdppkedaaDoorPk25
import Derived.Deep.RegionLaw
import Derived.Deep.RegionHeld3
import Derived.Deep.CutRange
/-
  Apply of the reference of package delta.
-/
namespace Go.Proofs.YtlelgkgdppkedaaDoor
set_option maxRecDepth 100000
open Go.RowKit
variable {ls : List Nat}

/-- The number behind the last of these rows. -/
def nextN : Int → List TRow → Int
  | nx, [] => nx
  | _, r :: I => nextN (r.1 + 1) I
theorem nextN_snoc {nx : Int} {I : List TRow} {r : TRow} : nextN nx (I ++ [r]) = r.1 + 1 := by
  induction I generalizing nx with
  | nil => rfl
  | cons x I ih => exact ih
/-- The next number behind a difference that the reference can apply. -/
def rappN (T : Tab) (E : Dlt) : Option Int := if (T.valid && (soundB T.nm T.nx T.R E.nm E.I E.D E.U && E.I.all fun r => decide (r.1 < 2147483648))) = true then (if validT T.nm T.n T.f (nextN T.nx E.I) (dappR T E) = true then some (nextN T.nx E.I) else none) else none
def RAppPost (T : Tab) (E : Dlt) (w : World) (e : Ending) (w' : World) : Prop := ∃ S : Tab, e = .returned (.tuple #[.agg #[.string S.nm, .slice S.pc S.n S.cc, .int .i64 S.nx, .slice S.pr S.R.length S.cr], .bool (rappN T E).isSome]) ∧ TabAt w' S ∧ Below w.heap.size w w' ∧
  ((∃ m, rappN T E = some m ∧ S.nm = T.nm ∧ S.n = T.n ∧ S.f = T.f ∧ S.nx = m ∧ S.R = dappR T E) ∨ (rappN T E = none ∧ S.nm = ⟨#[]⟩ ∧ S.n = 0 ∧ S.nx = 0 ∧ S.R = []))
theorem rapp_zero {T : Tab} {E : Dlt} {w v : World} (h : rappN T E = none) (hb : Below w.heap.size w v) : RAppPost T E w (.returned (.tuple #[.agg #[.string ⟨#[]⟩, .slice none 0 0, .int .i64 0, .slice none 0 0], .bool false])) v :=
  ⟨zeroTab, by rw [h]; rfl, zeroTab_at _, hb, .inr ⟨h, rfl, rfl, rfl, rfl⟩⟩
theorem rapp_no {T : Tab} {E : Dlt} (h : (T.valid && (soundB T.nm T.nx T.R E.nm E.I E.D E.U && E.I.all fun r => decide (r.1 < 2147483648))) = false) : rappN T E = none := by unfold rappN; rw [if_neg (by rw [h]; decide)]
theorem rapp_bad {T : Tab} {E : Dlt} (h : validT T.nm T.n T.f (nextN T.nx E.I) (dappR T E) = false) : rappN T E = none := by unfold rappN; rw [if_neg (show ¬ validT T.nm T.n T.f (nextN T.nx E.I) (dappR T E) = true by rw [h]; decide)]; split <;> rfl
theorem rapp_yes {T : Tab} {E : Dlt} (h0 : (T.valid && (soundB T.nm T.nx T.R E.nm E.I E.D E.U && E.I.all fun r => decide (r.1 < 2147483648))) = true) (h : validT T.nm T.n T.f (nextN T.nx E.I) (dappR T E) = true) : rappN T E = some (nextN T.nx E.I) := by unfold rappN; rw [if_pos h0, if_pos h]
/-- The boxes of Apply. -/
structure RaB (w : World) (nm : ByteArray) (pc : Option Addr) (n cc : Nat) (nx : Int) (pr : Option Addr) (m cr : Nat) (em : ByteArray) (pi : Option Addr) (mi ci : Nat) (pd : Option Addr) (md cd : Nat) (pu : Option Addr) (mu cu : Nat) (v : World) : Prop where
  tab : Cell4 v w.heap.size (.string nm) (.slice pc n cc) (.int .i64 nx) (.slice pr m cr)
  dl : Cell4 v (w.heap.size + 1) (.string em) (.slice pi mi ci) (.slice pd md cd) (.slice pu mu cu)
  res : Cell4 v (w.heap.size + 2) (.string ⟨#[]⟩) (.slice none 0 0) (.int .i64 0) (.slice none 0 0)
  bel : Below w.heap.size w v
section
variable {w u v : World} {nm : ByteArray} {pc : Option Addr} {n cc : Nat} {nx : Int} {pr : Option Addr} {m cr : Nat} {em : ByteArray} {pi : Option Addr} {mi ci : Nat} {pd : Option Addr} {md cd : Nat} {pu : Option Addr} {mu cu : Nat}
theorem RaB.low (h : RaB w nm pc n cc nx pr m cr em pi mi ci pd md cd pu mu cu u) (hb : Below u.heap.size u v) : RaB w nm pc n cc nx pr m cr em pi mi ci pd md cd pu mu cu v := ⟨h.tab.low hb, h.dl.low hb, h.res.low hb, below_next h.bel hb⟩
theorem RaB.step {O : Nat} (h : RaB w nm pc n cc nx pr m cr em pi mi ci pd md cd pu mu cu u) (hO : w.heap.size + 3 ≤ O) (hs : StepT O u v) : RaB w nm pc n cc nx pr m cr em pi mi ci pd md cd pu mu cu v :=
  ⟨h.tab.step hs (by omega), h.dl.step hs (by omega), h.res.step hs (by omega), h.bel.trans (hs.below (by omega) h.bel.size)⟩
theorem RaB.set {Z o : Nat} (h : RaB w nm pc n cc nx pr m cr em pi mi ci pd md cd pu mu cu u) (hZ : w.heap.size + 3 ≤ Z) (y : Value) : RaB w nm pc n cc nx pr m cr em pi mi ci pd md cd pu mu cu (u.setCell ⟨Z, o, none⟩ y) :=
  ⟨h.tab.far (by omega) y, h.dl.far (by omega) y, h.res.far (by omega) y, h.bel.setCell (by show w.heap.size ≤ Z; omega) y⟩
theorem RaB.ret (h : RaB w nm pc n cc nx pr m cr em pi mi ci pd md cd pu mu cu u) (a b c d : Value) : Below w.heap.size w ((((u.setCell ⟨w.heap.size + 2, 0, none⟩ a).setCell ⟨w.heap.size + 2, 1, none⟩ b).setCell ⟨w.heap.size + 2, 2, none⟩ c).setCell ⟨w.heap.size + 2, 3, none⟩ d) :=
  (((h.bel.setCell (by exact Nat.le_add_right _ _) _).setCell (by exact Nat.le_add_right _ _) _).setCell (by exact Nat.le_add_right _ _) _).setCell (by exact Nat.le_add_right _ _) _
theorem raB_new (w : World) : RaB w nm pc n cc nx pr m cr em pi mi ci pd md cd pu mu cu (((w.alloc (.cells #[.string nm, .slice pc n cc, .int .i64 nx, .slice pr m cr] 27)).alloc (.cells #[.string em, .slice pi mi ci, .slice pd md cd, .slice pu mu cu] 41)).alloc (.cells #[.string ⟨#[]⟩, .slice none 0 0, .int .i64 0, .slice none 0 0] 27)) := by
  have h2 := cell4_new (w.alloc (.cells #[.string nm, .slice pc n cc, .int .i64 nx, .slice pr m cr] 27)) (.string em) (.slice pi mi ci) (.slice pd md cd) (.slice pu mu cu) 41
  rw [size_alloc] at h2
  have h3 := cell4_new ((w.alloc (.cells #[.string nm, .slice pc n cc, .int .i64 nx, .slice pr m cr] 27)).alloc (.cells #[.string em, .slice pi mi ci, .slice pd md cd, .slice pu mu cu] 41)) (.string ⟨#[]⟩) (.slice none 0 0) (.int .i64 0) (.slice none 0 0) 27
  rw [size_alloc, size_alloc] at h3
  exact ⟨((cell4_new w _ _ _ _ _).low (below_alloc _ _)).low (below_alloc _ _), h2.low (below_alloc _ _), h3, below_new (below_new (below_new (Below.refl _ _) _) _) _⟩
end
/-- A round of the loop over the rows: the new table, and the row in its box, with values of its own. -/
structure RpW (O : Nat) (wc : World) (nm : ByteArray) (p2 : Option Addr) (n c2 : Nat) (nx : Int) (vr : Value) (G : List GRow) (Z : Nat) (id : Int) (hd : Value) (l : List Val) (v : World) : Prop where
  ow : OutW O wc nm p2 n c2 nx vr G v
  nz : ∀ j, vr.ownBlock = some j → j < Z
  nzs : ∀ g ∈ G, ∀ j, g.2.1.ownBlock = some j → j < Z
  row : Cell2 v Z (.int .i64 id) hd
  inn : InRow v (Z + 1) (hd, l)
  wz : wc.heap.size ≤ Z
section
variable {O : Nat} {wc u v : World} {nm : ByteArray} {p2 : Option Addr} {n c2 : Nat} {nx : Int} {vr : Value} {G : List GRow} {Z : Nat} {id : Int} {hd : Value} {l : List Val}
theorem RpW.low (h : RpW O wc nm p2 n c2 nx vr G Z id hd l u) (hb : Below u.heap.size u v) : RpW O wc nm p2 n c2 nx vr G Z id hd l v := ⟨h.ow.low hb, h.nz, h.nzs, h.row.low hb, h.inn.low hb, h.wz⟩
theorem outw_setZ (h : OutW O wc nm p2 n c2 nx vr G u) (nz : ∀ j, vr.ownBlock = some j → j < Z) (nzs : ∀ g ∈ G, ∀ j, g.2.1.ownBlock = some j → j < Z) (wz : wc.heap.size ≤ Z) (o : Nat) (y : Value) : OutW O wc nm p2 n c2 nx vr G (u.setCell ⟨Z, o, none⟩ y) := by
  have hO := h.hO
  refine ⟨h.out.far (by omega) y, ⟨owns_keep h.own.own fun k hk => Below.heap_setCell _ _ _ _ (by have := nz k hk; show k ≠ Z; omega), fun g hg => ⟨owns_keep (h.own.inn g hg).1 fun k hk => Below.heap_setCell _ _ _ _ (by have := nzs g hg k hk; show k ≠ Z; omega), (h.own.inn g hg).2⟩⟩, h.step.set2 wz o none y, hO⟩
theorem RpW.put {hd' : Value} {l' : List Val} (h : RpW O wc nm p2 n c2 nx vr G Z id hd l u) (hin : InRow u (Z + 1) (hd', l')) : RpW O wc nm p2 n c2 nx vr G Z id hd' l' (u.setCell ⟨Z, 1, none⟩ hd') :=
  ⟨outw_setZ h.ow h.nz h.nzs h.wz 1 hd', h.nz, h.nzs, cell2_st1 h.row hd', ⟨owns_keep hin.1 fun k hk => Below.heap_setCell _ _ _ _ (by have := owns_block hin.1 k hk; show k ≠ Z; omega), hin.2⟩, h.wz⟩
theorem outw_nx {m9 : Int} (e : m9 = nx) (h : OutW O wc nm p2 n c2 nx vr G u) : OutW O wc nm p2 n c2 m9 vr G u := by rw [e]; exact h
theorem nextN_le {nx M : Int} {I : List TRow} (h0 : nx ≤ M) (h : ∀ r ∈ I, r.1 < M) : nextN nx I ≤ M := by
  induction I generalizing nx with
  | nil => exact h0
  | cons r I ih => exact ih (by have := h r List.mem_cons_self; omega) fun x hx => h x (List.mem_cons_of_mem _ hx)
theorem lastU_asc {U : List PRow} (h : ∀ i, i < U.length → 0 < i → (pAt U (i - 1)).1 < (pAt U i).1) (id : Int) (l : List Val) : lastU U id l U.length = newV U (id, l) := by
  have hup : ∀ i, i < U.length → ∀ j, j < i → (pAt U j).1 < (pAt U i).1 := by
    intro i
    induction i with
    | zero => intro _ j hj; omega
    | succ i ih =>
      intro hi j hj
      have h1 := h (i + 1) hi (by omega)
      rw [Nat.add_sub_cancel] at h1
      by_cases hji : j = i
      · subst hji; exact h1
      · have := ih (by omega) j (by omega); omega
  unfold newV
  cases hf : U.find? fun p => decide (p.1 = id) with
  | none =>
    refine lastU_none _ fun i hi he => ?_
    have := List.find?_eq_none.1 hf _ (pAt_mem hi)
    simp [he] at this
  | some p =>
    have hm := List.mem_of_find?_eq_some hf
    have hp : p.1 = id := by have := List.find?_some hf; simpa using this
    obtain ⟨k, hk, he⟩ := List.getElem_of_mem hm
    have hpk : pAt U k = p := by rw [pAt_get hk]; exact he
    rw [lastU_hit (k := k) (by rw [hpk]; exact hp) U.length hk fun i hi hki he2 => by have := hup i hi k hki; rw [hpk] at this; omega, hpk]
theorem sound_parts {nm em : ByteArray} {nx : Int} {R I D : List TRow} {U : List PRow} (h : soundB nm nx R em I D U = true) : (∀ i, i < D.length → DelS R D i) ∧ (∀ i, i < U.length → UpdS R D U i) ∧ (∀ i, i < I.length → InsS nx I i) ∧ eqT em nm = true := by
  unfold soundB at h
  simp only [Bool.and_eq_true, decide_eq_true_eq] at h
  exact ⟨h.1, h.2.1, h.2.2.1, h.2.2.2⟩
end
theorem rsn_any (nm : ByteArray) (pc : Option Addr) (n cc : Nat) (f : Nat → Col) (nx : Int) (pr : Option Addr) (cr : Nat) (R : List TRow) (em : ByteArray) (pi : Option Addr) (ci : Nat) (I : List TRow) (pd : Option Addr) (cd : Nat) (D : List TRow) (pu : Option Addr) (cu : Nat) (U : List PRow) (w : World) (hT : TabAt w ⟨nm, pc, n, cc, f, nx, pr, cr, R⟩) (hE : DltAt w ⟨em, pi, ci, I, pd, cd, D, pu, cu, U⟩) {b : Bool} (hb : soundB nm nx R em I D U = b) :
    Calls Tryd.prog 61 #[.agg #[.string nm, .slice pc n cc, .int .i64 nx, .slice pr R.length cr], .agg #[.string em, .slice pi I.length ci, .slice pd D.length cd, .slice pu U.length cu]] w fun e w' => e = .returned (.bool b) ∧ Below w.heap.size w w' := by
  subst hb
  exact rsound_any ⟨nm, pc, n, cc, f, nx, pr, cr, R⟩ ⟨em, pi, ci, I, pd, cd, D, pu, cu, U⟩ w hT hE
set_option maxHeartbeats 16000000 in
theorem rdapply_any (T : Tab) (E : Dlt) (w : World) (hT : TabAt w T) (hE : DltAt w E) (hIl : E.I.length ≤ 900) :
    Calls Tryd.prog 36 #[.agg #[.string T.nm, .slice T.pc T.n T.cc, .int .i64 T.nx, .slice T.pr T.R.length T.cr], .agg #[.string E.nm, .slice E.pi E.I.length E.ci, .slice E.pd E.D.length E.cd, .slice E.pu E.U.length E.cu]] w (RAppPost T E w) := by
  obtain ⟨nm, pc, n, cc, f, nx, pr, cr, R⟩ := T
  obtain ⟨em, pi, ci, I, pd, cd, D, pu, cu, U⟩ := E
  dsimp only at hIl ⊢
  have HT := Lib.hid hT
  have HE := Lib.hid hE
  have hR63 := hT.len
  have hD63 := hE.dl
  have hU63 := hE.ul
  dsimp only at hR63 hD63 hU63
  have HA : Hid (RaB w nm pc n cc nx pr R.length cr em pi I.length ci pd D.length cd pu U.length cu _) := Lib.hid (raB_new w)
  clear hT hE
  go_enter Tryd.func36, Tryd.ntmps36
  go_upto_region 1 with (fail)
  generalize World.alloc _ _ = W0 at HA ⊢
  rw [show w.heap.size + 1 + 1 = w.heap.size + 2 from rfl]
  obtain ⟨hxl, x0, x1, x2, x3, -⟩ := HA.out.tab
  obtain ⟨hyl, y0, y1, y2, y3, -⟩ := HA.out.dl
  obtain ⟨vb, hvb⟩ : ∃ b, validT nm n f nx R = b := ⟨_, rfl⟩
  have HVB := Lib.hid hvb
  go_wp2_with fail
  refine (rtv_any nm pc n cc f nx pr cr R _ (HT.out.low HA.out.bel) hvb).mono ?_
  rintro e w1 ⟨rfl, hb1⟩
  have HA1 := Lib.hid (HA.out.low hb1)
  clear HA hb1 hxl x0 x1 x2 x3 hyl y0 y1 y2 y3 hvb
  cases vb
  · have HNO : Hid (rappN ⟨nm, pc, n, cc, f, nx, pr, cr, R⟩ ⟨em, pi, ci, I, pd, cd, D, pu, cu, U⟩ = none) := Lib.hid (rapp_no (by unfold Tab.valid; dsimp only; rw [HVB.out]; rfl))
    have HYS := Lib.hid (cell4_put w1 HA1.out.res (.string ⟨#[]⟩) (.slice none 0 0) (.int .i64 0) (.slice none 0 0))
    have HRT := Lib.hid (HA1.out.ret (.string ⟨#[]⟩) (.slice none 0 0) (.int .i64 0) (.slice none 0 0))
    obtain ⟨zl, z0, z1, z2, z3, zf⟩ := HA1.out.res
    go_wp2
    obtain ⟨-, s0, s1, s2, s3, -⟩ := HYS.out
    exact bodyPost_ret (v := .tuple #[.agg #[.string ⟨#[]⟩, .slice none 0 0, .int .i64 0, .slice none 0 0], .bool false]) (by simp [results, Tryd.results36, go_sem, s0, s1, s2, s3]) rfl (rapp_zero HNO.out HRT.out)
  obtain ⟨hxl, x0, x1, x2, x3, -⟩ := HA1.out.tab
  obtain ⟨hyl, y0, y1, y2, y3, -⟩ := HA1.out.dl
  obtain ⟨sb, hsb⟩ : ∃ b, soundB nm nx R em I D U = b := ⟨_, rfl⟩
  have HSB := Lib.hid hsb
  go_wp2_with fail
  refine (rsn_any nm pc n cc f nx pr cr R em pi ci I pd cd D pu cu U _ (HT.out.low HA1.out.bel) (HE.out.low HA1.out.bel) hsb).mono ?_
  rintro e w2 ⟨rfl, hb2⟩
  have HA2 := Lib.hid (HA1.out.low hb2)
  clear HA1 hb2 hxl x0 x1 x2 x3 hyl y0 y1 y2 y3 hsb
  cases sb
  · have HNO : Hid (rappN ⟨nm, pc, n, cc, f, nx, pr, cr, R⟩ ⟨em, pi, ci, I, pd, cd, D, pu, cu, U⟩ = none) := Lib.hid (rapp_no (by unfold Tab.valid; dsimp only; rw [HSB.out]; simp))
    have HYS := Lib.hid (cell4_put w2 HA2.out.res (.string ⟨#[]⟩) (.slice none 0 0) (.int .i64 0) (.slice none 0 0))
    have HRT := Lib.hid (HA2.out.ret (.string ⟨#[]⟩) (.slice none 0 0) (.int .i64 0) (.slice none 0 0))
    obtain ⟨zl, z0, z1, z2, z3, zf⟩ := HA2.out.res
    go_wp2
    obtain ⟨-, s0, s1, s2, s3, -⟩ := HYS.out
    exact bodyPost_ret (v := .tuple #[.agg #[.string ⟨#[]⟩, .slice none 0 0, .int .i64 0, .slice none 0 0], .bool false]) (by simp [results, Tryd.results36, go_sem, s0, s1, s2, s3]) rfl (rapp_zero HNO.out HRT.out)
  obtain ⟨hso, hR100, hnx1, hnx2, -, -⟩ := validT_parts HVB.out
  obtain ⟨hn1, hn6⟩ := schemaOK_range hso
  obtain ⟨-, hUS, hIS, -⟩ := sound_parts HSB.out
  have HUS := Lib.hid hUS
  have HIS := Lib.hid hIS
  clear hso hUS hIS
  go_upto_region 3 with (fail)
  go_cut [6] from 26 to 31 (fun s6 wx => ∃ (O : Nat) (p2 : Option Addr) (c2 : Nat), s6 = .pointer (some ⟨O, 0, none⟩) ∧ w.heap.size + 3 ≤ O ∧ Cell4 wx O (.string nm) (.slice p2 n c2) (.int .i64 nx) (.slice none 0 0) ∧ ColsAt wx p2 n f ∧ (∀ q, p2 = some q → q.block ≠ O ∧ w.heap.size + 3 ≤ q.block ∧ q.block < wx.heap.size) ∧ RaB w nm pc n cc nx pr R.length cr em pi I.length ci pd D.length cd pu U.length cu wx)
  case first =>
    obtain ⟨hxl, x0, x1, x2, x3, -⟩ := HA2.out.tab
    have HZ := Lib.hid (cell4_new w2 (.string ⟨#[]⟩) (.slice none 0 0) (.int .i64 0) (.slice none 0 0) 27)
    have HAL := Lib.hid (HA2.out.low (below_alloc w2 (.cells #[.string ⟨#[]⟩, .slice none 0 0, .int .i64 0, .slice none 0 0] 27)))
    have hal : w.heap.size < (w2.alloc (.cells #[.string ⟨#[]⟩, .slice none 0 0, .int .i64 0, .slice none 0 0] 27)).heap.size := HAL.out.tab.lt
    have HTA := Lib.hid (HT.out.low HA2.out.bel.drew)
    have hfs := field_schema
    have hOx : w.heap.size ≠ w2.heap.size := Nat.ne_of_lt HA2.out.tab.lt
    have HTB := Lib.hid (HT.out.low HAL.out.bel.drew)
    go_region_held3 (fun u => u.cell? ⟨w.heap.size, 0, none⟩ = some (.string nm) ∧ u.cell? ⟨w.heap.size, 1, none⟩ = some (.slice pc n cc) ∧ u.cell? ⟨w.heap.size, 2, none⟩ = some (.int .i64 nx) ∧ u.cell? ⟨w.heap.size, 3, none⟩ = some (.slice pr R.length cr) ∧ w.heap.size < u.heap.size)
      (first
        | exact ⟨x0, x1, x2, x3, hxl⟩
        | with_reducible exact (HAL.out.low (Below.refl _ _).drew).tab.conj
        | with_reducible exact HA5.out.tab.conj
        | with_reducible exact (HA5.out.low (below_alloc _ _)).tab.conj
        | with_reducible exact ((((HA5.out.tab.far hOx _).far hOx _).far hOx _).far hOx _).conj)
      (first
        | (go_at_call 52; refine (rcopyt_any nm pc n cc f nx pr cr R _ HTA.out hn1 (by omega)).mono ?_; rintro e w5 ⟨p2, c2, pq, cq, rfl, hcols, hlo, hb5⟩; (have HA5 := Lib.hid (HA2.out.low (undrew hb5))); (have HC5 := Lib.hid hcols); (have HL5 := Lib.hid hlo))
        | (go_at_call 52; refine (rcopyt_any nm pc n cc f nx pr cr R _ HTB.out hn1 (by omega)).mono ?_; rintro e w5 ⟨p2, c2, pq, cq, rfl, hcols, hlo, hb5⟩; (have HA5 := Lib.hid (HAL.out.low (undrew hb5))); (have HC5 := Lib.hid hcols); (have HL5 := Lib.hid hlo); obtain ⟨zl, z0, z1, z2, z3, zf⟩ := HZ.out.low (undrew hb5)))
    · rename_i hHeld
      clear hHeld
      have hO : w.heap.size + 3 ≤ w5.heap.size := HA5.out.res.lt
      go_wp2_with fail
      go_meet
      exact ⟨w5.heap.size, p2, c2, rfl, hO, cell4_new _ _ _ _ _ _, HC5.out.low (below_alloc _ _), fun q hq => ⟨Nat.ne_of_lt (HL5.out q hq).2, Nat.le_trans HA2.out.res.lt (HL5.out q hq).1, Nat.lt_of_lt_of_le (HL5.out q hq).2 (below_alloc _ _).size⟩, HA5.out.low (below_alloc _ _)⟩
    · rename_i hHeld
      clear hHeld
      have hO : w.heap.size + 3 ≤ w2.heap.size := HA2.out.res.lt
      have hq : ∀ q, p2 = some q → q.block ≠ w2.heap.size := fun q hq => by
        have h1 : (w2.alloc (.cells #[.string ⟨#[]⟩, .slice none 0 0, .int .i64 0, .slice none 0 0] 27)).heap.size ≤ q.block := (HL5.out q hq).1
        rw [size_alloc] at h1
        omega
      have HCP := Lib.hid (cell4_put w5 (HZ.out.low (undrew hb5)) (.string nm) (.slice p2 n c2) (.int .i64 nx) (.slice none 0 0))
      have HCC := Lib.hid ((((HC5.out.set (a := ⟨w2.heap.size, 0, none⟩) hq (.string nm)).set (a := ⟨w2.heap.size, 1, none⟩) hq (.slice p2 n c2)).set (a := ⟨w2.heap.size, 2, none⟩) hq (.int .i64 nx)).set (a := ⟨w2.heap.size, 3, none⟩) hq (.slice none 0 0))
      have HST := Lib.hid (HA5.out.step hO (((((StepT.refl w2.heap.size w5).setCell 0 none (.string nm)).setCell 1 none (.slice p2 n c2)).setCell 2 none (.int .i64 nx)).setCell 3 none (.slice none 0 0)))
      go_wp2_with fail
      go_meet
      exact ⟨w2.heap.size, p2, c2, rfl, hO, HCP.out, HCC.out, fun q hq' => ⟨hq q hq', Nat.le_trans HAL.out.res.lt (HL5.out q hq').1, by rw [set_size, set_size, set_size, set_size]; exact (HL5.out q hq').2⟩, HST.out⟩
  case rest =>
    obtain ⟨O, p2, c2, rfl, hO, hout, hcols, hqO, ha⟩ := hcut
    have HCOL := Lib.hid hcols
    have HQO := Lib.hid hqO
    have HA6 := Lib.hid ha
    have HOW6 : Hid (OutW O wc nm p2 n c2 nx (.slice none 0 0) [] wc) := Lib.hid ⟨hout, TOwn.nil _ _, StepT.refl _ _, hout.lt⟩
    clear hout hcols hqO ha HA2
    obtain ⟨hxl, x0, x1, x2, x3, -⟩ := HA6.out.tab
    go_wp2_with fail
    go_loopw [35] (fun i v => ∃ (k : Nat) (vr : Value) (G : List GRow), k ≤ R.length ∧ i = .int .i64 k ∧ tabR G = keptR (D.map (·.1)) U (R.take k) ∧ OutW O wc nm p2 n c2 nx vr G v) (fun i _ => R.length - (intOf i).toNat)
    case atStart => exact ⟨0, .slice none 0 0, [], Nat.zero_le _, rfl, rfl, HOW6.out⟩
    clear HOW6 hxl x0 x1 x2 x3
    case round =>
      obtain ⟨k, vr, G, hk, rfl, hG, how⟩ := hrel
      have HG := Lib.hid hG
      have HOW0 := Lib.hid how
      have HA7 := Lib.hid (HA6.out.step hO how.step)
      have HGL : Hid (G.length ≤ 100) := Lib.hid (by have h1 := congrArg List.length hG; rw [tabR_length] at h1; have h2 := keptR_length (D := D.map (·.1)) (U := U) (R := R.take k); rw [List.length_take] at h2; omega)
      clear hG how
      by_cases hlt : k < R.length
      · have hlt' : decide ((k : Int) < R.length) = true := decide_eq_true (by omega)
        obtain ⟨c, o, q, cp, hpr, hc, h0, h1, hr, hs, hqn⟩ := (HT.out.low HA7.out.bel).rows k hlt
        dsimp only at hpr h0 h1 hr hs hqn
        obtain ⟨⟨id, l⟩, hrk⟩ : ∃ x, tAt R k = x := ⟨_, rfl⟩
        rw [hrk] at h0 h1 hr hs hqn
        dsimp only at h0 h1 hr hs hqn
        subst hpr
        have hbn := below_alloc wr (.cells #[.int .i64 id, .slice q l.length cp] 53)
        have HA8 := Lib.hid (HA7.out.low hbn)
        have HOW := Lib.hid (HOW0.out.low hbn)
        have HRR := Lib.hid (hr.low hbn)
        have HNN := Lib.hid hqn
        have HRB := Lib.hid (cell2_new wr (.int .i64 id) (.slice q l.length cp) 53)
        have HNE : Hid ((∀ j, vr.ownBlock = some j → j < wr.heap.size) ∧ (∀ g ∈ G, ∀ j, g.2.1.ownBlock = some j → j < wr.heap.size)) := Lib.hid ⟨owns_lt HOW0.out.own.own, fun g hg j hj => owns_lt (HOW0.out.own.inn g hg).1 j hj⟩
        have HWZ : Hid (wc.heap.size ≤ wr.heap.size) := Lib.hid HOW0.out.step.size
        have HZ3 : Hid (w.heap.size + 3 ≤ wr.heap.size) := Lib.hid (by have := HA7.out.res.lt; omega)
        have HRK := Lib.hid hrk
        clear hr hqn hbn HA7 HOW0 hrk
        go_upto_region 7 with (fail)
        clear h0 h1 hc
        have hzs : wr.heap.size < (wr.alloc (.cells #[.int .i64 id, .slice q l.length cp] 53)).heap.size := by rw [size_alloc]; exact Nat.lt_succ_self _
        generalize World.alloc _ _ = W8 at HA8 HOW HRR HRB hzs ⊢
        generalize wr.heap.size = Z at HRB HNE HWZ HZ3 hzs ⊢
        obtain ⟨rl, r0, r1, rf⟩ := HRB.out
        go_wp2_with fail
        refine (rcopyrow_any id l q cp _ HRR.out hs HNN.out).mono ?_
        rintro e w9 ⟨v9, rfl, hin9, hb9⟩
        obtain ⟨p9, c9, e9⟩ := InRow.ex hin9
        subst e9
        have hin9' := hin9.base (b' := Z + 1) (Nat.succ_le_of_lt hzs)
        have hw9 : RpW O wc nm p2 n c2 nx vr G Z id (.slice q l.length cp) l (w9.setCell ⟨Z, 0, none⟩ (.int .i64 id)) → True := fun _ => trivial
        have HROW := Lib.hid (HRB.out.low hb9)
        have HRA9 : Hid (RpW O wc nm p2 n c2 nx vr G Z id (.slice p9 l.length c9) l ((w9.setCell ⟨Z, 0, none⟩ (.int .i64 id)).setCell ⟨Z, 1, none⟩ (.slice p9 l.length c9))) := Lib.hid
          ⟨outw_setZ (outw_setZ (HOW.out.low hb9) HNE.out.1 HNE.out.2 HWZ.out 0 _) HNE.out.1 HNE.out.2 HWZ.out 1 _, HNE.out.1, HNE.out.2, cell2_put w9 (HRB.out.low hb9) _ _,
            ⟨owns_keep hin9'.1 fun k hk => by rw [Below.heap_setCell _ _ _ _ (show k ≠ Z by have := owns_block hin9'.1 k hk; omega), Below.heap_setCell _ _ _ _ (show k ≠ Z by have := owns_block hin9'.1 k hk; omega)], hin9.2⟩, HWZ.out⟩
        have HDA9 := Lib.hid (((HA8.out.low hb9).set (o := 0) HZ3.out (.int .i64 id)).set (o := 1) HZ3.out (.slice p9 l.length c9))
        clear HA8 HOW HRR HRB hb9 hin9 hin9' r0 r1 rl rf hw9
        obtain ⟨rl, r0, r1, rf⟩ := HROW.out
        go_upto_region 9 with (fail)
        clear HROW rl r0 r1 rf
        generalize World.setCell _ _ _ = W10 at HRA9 HDA9 ⊢
        obtain ⟨hyl, y0, y1, y2, y3, -⟩ := HDA9.out.dl
        go_wp2_with fail
        go_loopw [9, 44] (fun s9 i v => ∃ j : Nat, j ≤ D.length ∧ i = .int .i64 j ∧ s9 = .bool (decide (id ∈ (D.take j).map (·.1))) ∧ RpW O wc nm p2 n c2 nx vr G Z id (.slice p9 l.length c9) l v ∧ RaB w nm pc n cc nx (some ⟨c, o, none⟩) R.length cr em pi I.length ci pd D.length cd pu U.length cu v) (fun _ i _ => D.length - (intOf i).toNat)
        case atStart => exact ⟨0, Nat.zero_le _, rfl, rfl, HRA9.out, HDA9.out⟩
        clear HRA9 HDA9 hyl y0 y1 y2 y3
        case round =>
          rename_i s9
          obtain ⟨j, hj, rfl, hs9, hra, hda⟩ := hrel
          subst hs9
          have HRA := Lib.hid hra
          have HDA := Lib.hid hda
          clear hra hda
          obtain ⟨gn, hgn⟩ : ∃ b, decide (id ∈ (D.take j).map (·.1)) = b := ⟨_, rfl⟩
          rw [hgn]
          have HGN := Lib.hid hgn
          clear hgn
          by_cases hlj : j < D.length
          · have hljd : decide ((j : Int) < D.length) = true := decide_eq_true (by omega)
            obtain ⟨c', o', q', cp', hpd, hc', k0, k1, -, -, -⟩ := (HE.out.low HDA.out.bel).del j hlj
            dsimp only at hpd k0 k1
            obtain ⟨⟨id2, l2⟩, hdk⟩ : ∃ x, tAt D j = x := ⟨_, rfl⟩
            rw [hdk] at k0 k1
            dsimp only at k0 k1
            have HTKE : Hid (decide (id ∈ (D.take (j + 1)).map (·.1)) = (gn || (id2 == id))) := Lib.hid (by
              rw [ids_take hlj, hdk, ← HGN.out]
              by_cases hm : id ∈ (D.take j).map (·.1)
              · rw [decide_eq_true hm, decide_eq_true (List.mem_append_left _ hm)]; rfl
              · rw [decide_eq_false hm]
                by_cases he : id2 = id
                · subst he; simp
                · rw [decide_eq_false (fun hc => by rcases List.mem_append.1 hc with hc | hc; exact hm hc; exact he (List.mem_singleton.1 hc).symm), beq_eq_false_iff_ne.2 he]; rfl)
            subst hpd
            have hbn := below_alloc wr (.cells #[.int .i64 id2, .slice q' l2.length cp'] 53)
            have HRA2 := Lib.hid (HRA.out.low hbn)
            have HDA2 := Lib.hid (HDA.out.low hbn)
            have HX2 := Lib.hid (cell2_new wr (.int .i64 id2) (.slice q' l2.length cp') 53)
            clear HRA HDA hbn hdk
            go_upto_region 12 with (fail)
            clear k0 k1 hc'
            generalize World.alloc _ _ = W12 at HRA2 HDA2 HX2 ⊢
            generalize wr.heap.size = Q at HX2 ⊢
            obtain ⟨ql, q0, q1, -⟩ := HX2.out
            obtain ⟨rl, r0, r1, rf⟩ := HRA2.out.row
            obtain ⟨eb, heb⟩ : ∃ b, (id2 == id) = b := ⟨_, rfl⟩
            rw [heb] at HTKE
            cases gn <;> cases eb
            all_goals
              go_wp2
              go_roundw
              case rel => exact ⟨j + 1, by omega, by go_num, by rw [HTKE.out]; rfl, HRA2.out, HDA2.out⟩
              case measure => simp [intOf]; omega
          · have hljd : decide ((j : Int) < D.length) = false := decide_eq_false (by omega)
            obtain rfl : j = D.length := by omega
            have HGN2 : Hid (decide (id ∈ D.map (·.1)) = gn) := Lib.hid (by have := HGN.out; rwa [List.take_length] at this)
            clear HGN
            obtain ⟨hyl, y0, y1, y2, y3, -⟩ := HDA.out.dl
            go_wp2_with fail
            go_loopw [60] (fun i v => ∃ (j : Nat) (ph : Option Addr) (ch : Nat), j ≤ U.length ∧ i = .int .i64 j ∧ RpW O wc nm p2 n c2 nx vr G Z id (.slice ph (lastU U id l j).length ch) (lastU U id l j) v ∧ RaB w nm pc n cc nx (some ⟨c, o, none⟩) R.length cr em pi I.length ci pd D.length cd pu U.length cu v) (fun i _ => U.length - (intOf i).toNat)
            case atStart => exact ⟨0, p9, c9, Nat.zero_le _, rfl, HRA.out, HDA.out⟩
            clear HRA HDA hyl y0 y1 y2 y3
            case round =>
              generalize wr = wo at *
              obtain ⟨j, ph, ch, hj, rfl, hra, hda⟩ := hrel
              have HRA := Lib.hid hra
              have HDA := Lib.hid hda
              clear hra hda
              by_cases hlj : j < U.length
              · have hljd : decide ((j : Int) < U.length) = true := decide_eq_true (by omega)
                obtain ⟨c', o', q', cq', r', cr', hpu, hc', k0, k1, k2, -, hrn, -, hsn, -, hnn⟩ := (HE.out.low HDA.out.bel).upd j hlj
                dsimp only at hpu k0 k1 k2 hrn hsn hnn
                obtain ⟨⟨id2, lo2, ln2⟩, hdk⟩ : ∃ x, pAt U j = x := ⟨_, rfl⟩
                rw [hdk] at k0 k1 k2 hrn hsn hnn
                dsimp only at k0 k1 k2 hrn hsn hnn
                have HLU : Hid (lastU U id l (j + 1) = if id2 = id then ln2 else lastU U id l j) := Lib.hid (by show (if (pAt U j).1 = id then (pAt U j).2.2 else lastU U id l j) = _; rw [hdk])
                subst hpu
                have hbn := below_alloc wo (.cells #[.int .i64 id2, .slice q' lo2.length cq', .slice r' ln2.length cr'] 86)
                have HRA2 := Lib.hid (HRA.out.low hbn)
                have HDA2 := Lib.hid (HDA.out.low hbn)
                have HX2 := Lib.hid (cell3_new wo (.int .i64 id2) (.slice q' lo2.length cq') (.slice r' ln2.length cr') 86)
                have HRN := Lib.hid (hrn.low hbn)
                have HNN2 := Lib.hid hnn
                obtain ⟨lj, hlju⟩ : ∃ x, lastU U id l j = x := ⟨_, rfl⟩
                rw [hlju] at HRA2 HLU
                have HLJ := Lib.hid hlju
                clear HRA HDA hbn hdk hrn hnn hlju
                go_upto_region 17 with (fail)
                clear k0 k1 k2 hc'
                generalize World.alloc _ _ = W12 at HRA2 HDA2 HX2 HRN ⊢
                generalize wo.heap.size = Q at HX2 ⊢
                obtain ⟨ql, q0, q1, q2, -⟩ := HX2.out
                obtain ⟨rl, r0, r1, rf⟩ := HRA2.out.row
                by_cases he : id2 = id
                · have hed : (id2 == id) = true := beq_iff_eq.2 he
                  have HL2 : Hid (lastU U id l (j + 1) = ln2) := Lib.hid (by rw [HLU.out, if_pos he])
                  clear HLU
                  go_wp2_with fail
                  refine (rcopy_any ln2 r' cr' _ HRN.out hsn HNN2.out).mono ?_
                  rintro e w13 ⟨v13, rfl, hin, hb13⟩
                  obtain ⟨p13, c13, e13⟩ := InRow.ex hin
                  subst e13
                  have HRA3 := Lib.hid ((HRA2.out.low hb13).put (hin.base (b' := Z + 1) (Nat.succ_le_of_lt HRA2.out.row.lt)))
                  have HDA3 := Lib.hid ((HDA2.out.low hb13).set (o := 1) HZ3.out (.slice p13 ln2.length c13))
                  have HR13 := Lib.hid (HRA2.out.row.low hb13)
                  clear HRA2 HDA2 HX2 HRN hin hb13 ql q0 q1 q2 rl r0 r1 rf hed
                  obtain ⟨rl, r0, r1, rf⟩ := HR13.out
                  go_upto_region 19 with (fail)
                  clear rl r0 r1 rf HR13
                  generalize World.setCell _ _ _ = W14 at HRA3 HDA3 ⊢
                  go_wp2
                  go_roundw
                  case rel => exact ⟨j + 1, p13, c13, by omega, by go_num, by rw [HL2.out]; exact HRA3.out, HDA3.out⟩
                  case measure => simp [intOf]; omega
                · have hed : (id2 == id) = false := beq_eq_false_iff_ne.2 he
                  have HL2 : Hid (lastU U id l (j + 1) = lj) := Lib.hid (by rw [HLU.out, if_neg he])
                  clear HLU
                  go_wp2
                  go_roundw
                  case rel => exact ⟨j + 1, ph, ch, by omega, by go_num, by rw [HL2.out]; exact HRA2.out, HDA2.out⟩
                  case measure => simp [intOf]; omega
              · have hljd : decide ((j : Int) < U.length) = false := decide_eq_false (by omega)
                obtain rfl : j = U.length := by omega
                obtain ⟨nv, hnv⟩ : ∃ x, lastU U id l U.length = x := ⟨_, rfl⟩
                have HNV : Hid (newV U (tAt R k) = nv) := Lib.hid (by rw [HRK.out, ← hnv]; exact (lastU_asc (fun i hi h0 => (HUS.out i hi).2.2.2 h0) id l).symm)
                rw [hnv] at HRA
                clear hnv
                have HKT : Hid (keptR (D.map (·.1)) U (R.take (k + 1)) = keptR (D.map (·.1)) U (R.take k) ++ if gn = true then [] else [(id, nv)]) := Lib.hid (by
                  rw [keptR_take hlt, HNV.out, HRK.out]
                  dsimp only
                  by_cases hm : id ∈ D.map (·.1)
                  · have hg : gn = true := by rw [← HGN2.out]; exact decide_eq_true hm
                    rw [if_pos hm, if_pos hg]
                  · have hg : ¬ gn = true := by rw [← HGN2.out, decide_eq_false hm]; decide
                    rw [if_neg hm, if_neg hg])
                clear HNV HGN2
                cases gn
                · have HIR := Lib.hid (HRA.out.inn.base (b' := wc.heap.size) (by have := HRA.out.wz; omega))
                  obtain ⟨pv, cv, hvr⟩ := HRA.out.ow.own.ex
                  subst hvr
                  have hgs : (G.length + 1) * 32 ≤ 140737488355328 := by have := HGL.out; omega
                  obtain ⟨ol, o0, o1, o2, o3, of⟩ := HRA.out.ow.out
                  obtain ⟨rl, r0, r1, rf⟩ := HRA.out.row
                  have HOA := Lib.hid (HRA.out.ow.low (below_alloc wo (.cells #[.int .i64 id, .slice ph nv.length ch] 53)))
                  have HN6 := Lib.hid (row2_new wo (.int .i64 id) (.slice ph nv.length ch) 53)
                  have HLO := Lib.hid HOA.out.step.size
                  go_upto_region 22 with (at_builtin; refine wpList_append_trow rfl (.tmp 77) (.tmp 79) rfl wc.heap.size (.slice pv G.length cv) G (by rfl) HOA.out.own.own wo.heap.size id (.slice ph nv.length ch) nv (by rfl) HN6.out.1 HN6.out.2 rfl hgs HLO.out ?_; intro v8 w8 hown8 hg8; obtain ⟨⟨zl, z0, z1, z2, z3, zf⟩, hS8⟩ := HRA.out.ow.push (g := (id, .slice ph nv.length ch, nv)) HIR.out hown8 hg8; obtain ⟨p8, c8, e8⟩ := hS8.own.ex; rw [List.length_append, List.length_singleton] at e8; subst e8; (have HS8 := Lib.hid hS8); clear hS8 hown8 hg8 z0 z1 z2)
                  clear HRA HDA HOA HN6 HIR ol o0 o1 o2 o3 of rl r0 r1 rf zl z3 zf
                  generalize World.setCell _ _ _ = W14 at HS8 ⊢
                  go_wp2
                  go_roundw
                  case rel => exact ⟨k + 1, _, G ++ [(id, .slice ph nv.length ch, nv)], by omega, by go_num, by rw [tabR_append, HG.out, HKT.out]; rfl, HS8.out⟩
                  case measure => simp [intOf]; omega
                · go_wp2
                  go_roundw
                  case rel => exact ⟨k + 1, vr, G, by omega, by go_num, by rw [HG.out, HKT.out]; simp, HRA.out.ow⟩
                  case measure => simp [intOf]; omega
      · have hlt' : decide ((k : Int) < R.length) = false := decide_eq_false (by omega)
        obtain rfl : k = R.length := by omega
        have HGK : Hid (tabR G = keptR (D.map (·.1)) U R) := Lib.hid (by rw [HG.out, List.take_length])
        clear HG
        obtain ⟨hyl, y0, y1, y2, y3, -⟩ := HA7.out.dl
        go_wp2_with fail
        go_loopw [86] (fun i v => ∃ (j : Nat) (vq : Value) (H : List GRow), j ≤ I.length ∧ i = .int .i64 j ∧ tabR H = keptR (D.map (·.1)) U R ++ I.take j ∧ (∀ i, i < j → (tAt I i).1 < 2147483648) ∧ OutW O wc nm p2 n c2 (nextN nx (I.take j)) vq H v) (fun i _ => I.length - (intOf i).toNat)
        case atStart => exact ⟨0, _, G, Nat.zero_le _, rfl, by rw [HGK.out]; simp, fun i hi => by omega, HOW0.out⟩
        clear HOW0 HA7 hyl y0 y1 y2 y3
        case round =>
          generalize wr = wo at *
          obtain ⟨j, vq, H, hj, rfl, hH, hsm, how⟩ := hrel
          have HH := Lib.hid hH
          have HSM := Lib.hid hsm
          have HOW := Lib.hid how
          have HA8 := Lib.hid (HA6.out.step hO how.step)
          have HHL : Hid (H.length ≤ 100 + j) := Lib.hid (by
            have h1 := congrArg List.length hH
            rw [tabR_length, List.length_append, List.length_take, Nat.min_eq_left hj] at h1
            have h2 := keptR_length (D := D.map (·.1)) (U := U) (R := R)
            omega)
          clear hH how hsm
          by_cases hlj : j < I.length
          · have hljd : decide ((j : Int) < I.length) = true := decide_eq_true (by omega)
            obtain ⟨c', o', q', cp', hpi, hc', k0, k1, hr, hs, hqn⟩ := (HE.out.low HA8.out.bel).ins j hlj
            dsimp only at hpi k0 k1 hr hs hqn
            obtain ⟨⟨id, l⟩, hdk⟩ : ∃ x, tAt I j = x := ⟨_, rfl⟩
            rw [hdk] at k0 k1 hr hs hqn
            dsimp only at k0 k1 hr hs hqn
            subst hpi
            have hid1 : nx ≤ id := by have := (HIS.out j hlj).1; rw [hdk] at this; exact this
            have HTK : Hid (I.take (j + 1) = I.take j ++ [(id, l)]) := Lib.hid (by rw [take_trow hlj, hdk])
            have hbn := below_alloc wo (.cells #[.int .i64 id, .slice q' l.length cp'] 53)
            have HA9 := Lib.hid (HA8.out.low hbn)
            have HOW9 := Lib.hid (HOW.out.low hbn)
            have HX2 := Lib.hid (cell2_new wo (.int .i64 id) (.slice q' l.length cp') 53)
            have HR := Lib.hid (hr.low hbn)
            have HN := Lib.hid hqn
            have HBQ : Hid (∀ i, vq.ownBlock = some i → i < wo.heap.size) := Lib.hid (owns_lt HOW.out.own.own)
            have HQO2 : Hid (wo.heap.size ≠ O) := Lib.hid (by have h1 := HOW.out.hO; have h2 := HOW.out.step.size; omega)
            have HDK := Lib.hid hdk
            clear HA8 HOW hr hqn hbn hdk
            go_upto_region 26 with (fail)
            clear k0 k1 hc'
            generalize World.alloc _ _ = W12 at HA9 HOW9 HX2 HR ⊢
            generalize wo.heap.size = Q at HX2 HBQ HQO2 ⊢
            obtain ⟨ql, q0, q1, -⟩ := HX2.out
            by_cases hbig : 2147483648 ≤ id
            · have hbd : decide ((2147483648 : Int) ≤ id) = true := decide_eq_true hbig
              have hall : (I.all fun r => decide (r.1 < 2147483648)) = false := List.all_eq_false.2 ⟨tAt I j, tAt_mem hlj, by rw [HDK.out]; dsimp only; rw [decide_eq_false (by omega)]; decide⟩
              have HNO : Hid (rappN ⟨nm, pc, n, cc, f, nx, pr, cr, R⟩ ⟨em, some ⟨c', o', none⟩, ci, I, pd, cd, D, pu, cu, U⟩ = none) := Lib.hid (rapp_no (by dsimp only; rw [hall]; simp))
              clear hall
              have HYS := Lib.hid (cell4_put W12 HA9.out.res (.string ⟨#[]⟩) (.slice none 0 0) (.int .i64 0) (.slice none 0 0))
              have HRT := Lib.hid (HA9.out.ret (.string ⟨#[]⟩) (.slice none 0 0) (.int .i64 0) (.slice none 0 0))
              obtain ⟨zl, z0, z1, z2, z3, zf⟩ := HA9.out.res
              go_wp2
              obtain ⟨-, s0, s1, s2, s3, -⟩ := HYS.out
              exact bodyPost_ret (v := .tuple #[.agg #[.string ⟨#[]⟩, .slice none 0 0, .int .i64 0, .slice none 0 0], .bool false]) (by simp [results, Tryd.results36, go_sem, s0, s1, s2, s3]) rfl (rapp_zero HNO.out HRT.out)
            · have hbd : decide ((2147483648 : Int) ≤ id) = false := decide_eq_false hbig
              go_upto_region 28 with (fail)
              go_cut [] from 90 to 100 (fun wx => ∃ (vq' : Value) (H' : List GRow), tabR H' = keptR (D.map (·.1)) U R ++ I.take (j + 1) ∧ OutW O wc nm p2 n c2 (nextN nx (I.take j)) vq' H' wx ∧ Cell2 wx Q (.int .i64 id) (.slice q' l.length cp'))
              case first =>
                obtain ⟨ol, o0, o1, o2, o3, of⟩ := HOW9.out.out
                have HRV := Lib.hid (HR.out.low (Below.refl W12.heap.size W12).drew)
                have HOWD := Lib.hid (HOW9.out.low (Below.refl W12.heap.size W12).drew)
                have HXD := Lib.hid (HX2.out.low (Below.refl W12.heap.size W12).drew)
                have HBS : Hid (wc.heap.size ≤ W12.drew.heap.size) := Lib.hid HOWD.out.step.size
                have hhl : (H.length + 1) * 32 ≤ 140737488355328 := by have := HHL.out; omega
                clear o0 o1
                go_region_law (first
                  | (go_simp; go_at_call 33; refine (rcopyrow_any id l q' cp' _ HRV.out hs HN.out).mono ?_; rintro e w12 ⟨v12, rfl, hin, hb12⟩; obtain ⟨p12, c12, e12⟩ := InRow.ex hin; subst e12; (have HIN := Lib.hid (InRow.base hin HBS.out)); (have HO12 := Lib.hid (HOWD.out.low hb12)); (have HX12 := Lib.hid (HXD.out.low hb12)); (have n2 := HO12.out.out.c2); (have n3 := HO12.out.out.c3); (have nl := HO12.out.out.lt); clear hin hb12)
                  | (refine step_append_trow (by rfl) (.tmp 95) (.tmp 98) (by rfl) wc.heap.size vq H (by simp [Act.eval]) (HO12.out.own.low (below_alloc _ _)).own w12.heap.size id (.slice p12 l.length c12) l (by simp [Act.eval]) (row2_new _ _ _ _).1 (row2_new _ _ _ _).2 rfl hhl (by rw [size_alloc]; exact Nat.le_succ_of_le HO12.out.step.size) ?_; intro v13 w13 hown13 hg13; obtain ⟨⟨zl, z0, z1, z2, z3, zf⟩, hS13⟩ := HO12.out.push (g := (id, .slice p12 l.length c12, l)) HIN.out hown13 hg13; (have HX13 := Lib.hid (cell2_far (cell2_grownN (HX12.out.low (below_alloc _ _)) hg13 (fun e => by have h9 : Q < Q := HBQ.out _ e; omega)) HQO2.out v13 : Cell2 (w13.setCell ⟨O, 3, none⟩ v13) Q (.int .i64 id) (.slice q' l.length cp'))); obtain ⟨p13, c13, e13⟩ := hS13.own.ex; rw [List.length_append, List.length_singleton] at e13; subst e13; (have HS13 := Lib.hid hS13); clear hS13 hown13 hg13 z0 z1 z2))
                all_goals
                  clear HOW9
                  generalize World.setCell _ _ _ = W13 at HS13 HX13 ⊢
                  go_wp2_with fail
                  go_meet
                  exact ⟨_, H ++ [(id, .slice p12 l.length c12, l)], by rw [tabR_append, HH.out, HTK.out, List.append_assoc]; rfl, HS13.out, HX13.out⟩
              case rest =>
                obtain ⟨vq', H', hH', how', hx'⟩ := hcut
                have HH2 := Lib.hid hH'
                obtain ⟨ol, o0, o1, o2, o3, of⟩ := how'.out
                obtain ⟨ql, q0, q1, -⟩ := hx'
                have hw64 : wrap64 (id + 1) = id + 1 := by unfold wrap64; omega
                have HS3 := Lib.hid (outw_nx (m9 := nextN nx (I.take (j + 1))) (by rw [HTK.out, nextN_snoc]) (how'.setNx (id + 1)))
                clear hH' how' HOW9 HA9 HH HX2 HR o0 o1 o3
                go_wp2
                go_roundw
                case rel => exact ⟨j + 1, vq', H', by omega, by go_num, HH2.out, fun i hi => (by
                  by_cases hij : i = j
                  · subst hij; rw [HDK.out]; dsimp only; omega
                  · exact HSM.out i (by omega)), HS3.out⟩
                case measure => simp [intOf]; omega
          · have hljd : decide ((j : Int) < I.length) = false := decide_eq_false (by omega)
            obtain rfl : j = I.length := by omega
            have HHF : Hid (tabR H = keptR (D.map (·.1)) U R ++ I) := Lib.hid (by have := HH.out; rwa [List.take_length] at this)
            obtain ⟨RR, hRR⟩ : ∃ x, keptR (D.map (·.1)) U R ++ I = x := ⟨_, rfl⟩
            rw [hRR] at HHF
            have HRR := Lib.hid hRR
            clear hRR
            have how := HOW.out
            rw [List.take_length] at how
            obtain ⟨pv, cv, hvq⟩ := how.own.ex
            have hHl : H.length = RR.length := by rw [← HHF.out, tabR_length]
            rw [hHl] at hvq
            subst hvq
            have hrows := how.own.rows
            rw [HHF.out] at hrows
            have hsmall : ∀ r ∈ I, r.1 < 2147483648 := fun r hr => by
              obtain ⟨i, hi, rfl⟩ := List.getElem_of_mem hr
              have := HSM.out i hi
              rwa [tAt_get hi] at this
            have HALL : Hid ((I.all fun r => decide (r.1 < 2147483648)) = true) := Lib.hid (List.all_eq_true.2 fun r hr => decide_eq_true (hsmall r hr))
            have HTR : Hid (TabAt wo ⟨nm, p2, n, c2, f, nextN nx I, pv, cv, RR⟩) := Lib.hid ⟨HT.out.name, HT.out.n, HCOL.out.step how.step (fun q hq => (HQO.out q hq).1), hrows, by
              have h2 := keptR_length (D := D.map (·.1)) (U := U) (R := R)
              show RR.length ≤ 1000
              rw [← HRR.out, List.length_append]
              omega, fun r hr => by
              rw [← HRR.out] at hr
              rcases List.mem_append.1 hr with h | h
              · exact kept_sized HE.out.usz HT.out.sized r h
              · exact HE.out.isz r h, by
              have := nextN_le hnx2 hsmall
              show nextN nx I ≤ 9223372036854775807
              omega⟩
            have HOWF := Lib.hid how
            clear how hrows hsmall HOW HH hHl
            obtain ⟨ol, o0, o1, o2, o3, of⟩ := HOWF.out.out
            obtain ⟨vb2, hvb2⟩ : ∃ b, validT nm n f (nextN nx I) RR = b := ⟨_, rfl⟩
            have HV2 := Lib.hid hvb2
            go_wp2_with fail
            refine (rtv_any nm p2 n c2 f (nextN nx I) pv cv RR _ HTR.out hvb2).mono ?_
            rintro e w9 ⟨rfl, hb9⟩
            have HA9 := Lib.hid (HA8.out.low hb9)
            have HOW9 := Lib.hid (HOWF.out.low hb9)
            have HTR9 := Lib.hid (HTR.out.low hb9)
            have HCO9 := Lib.hid ((HCOL.out.step HOWF.out.step (fun q hq => (HQO.out q hq).1)).low hb9)
            clear HA8 HOWF HTR hb9 hvb2 ol o0 o1 o2 o3 of
            cases vb2
            · have HNO : Hid (rappN ⟨nm, pc, n, cc, f, nx, pr, cr, R⟩ ⟨em, pi, ci, I, pd, cd, D, pu, cu, U⟩ = none) := Lib.hid (rapp_bad (by show validT nm n f (nextN nx I) (keptR (D.map (·.1)) U R ++ I) = false; rw [HRR.out]; exact HV2.out))
              have HYS := Lib.hid (cell4_put w9 HA9.out.res (.string ⟨#[]⟩) (.slice none 0 0) (.int .i64 0) (.slice none 0 0))
              have HRT := Lib.hid (HA9.out.ret (.string ⟨#[]⟩) (.slice none 0 0) (.int .i64 0) (.slice none 0 0))
              obtain ⟨zl, z0, z1, z2, z3, zf⟩ := HA9.out.res
              go_wp2
              obtain ⟨-, s0, s1, s2, s3, -⟩ := HYS.out
              exact bodyPost_ret (v := .tuple #[.agg #[.string ⟨#[]⟩, .slice none 0 0, .int .i64 0, .slice none 0 0], .bool false]) (by simp [results, Tryd.results36, go_sem, s0, s1, s2, s3]) rfl (rapp_zero HNO.out HRT.out)
            · have HY : Hid (rappN ⟨nm, pc, n, cc, f, nx, pr, cr, R⟩ ⟨em, pi, ci, I, pd, cd, D, pu, cu, U⟩ = some (nextN nx I)) := Lib.hid (rapp_yes (by unfold Tab.valid; dsimp only; rw [HVB.out, HSB.out, HALL.out]; rfl) (by show validT nm n f (nextN nx I) (keptR (D.map (·.1)) U R ++ I) = true; rw [HRR.out]; exact HV2.out))
              have hwcs : w.heap.size + 3 ≤ wc.heap.size := HA6.out.res.lt
              have HYS := Lib.hid (cell4_put w9 HA9.out.res (.string nm) (.slice p2 n c2) (.int .i64 (nextN nx I)) (.slice pv RR.length cv))
              have HRT := Lib.hid (HA9.out.ret (.string nm) (.slice p2 n c2) (.int .i64 (nextN nx I)) (.slice pv RR.length cv))
              have hq : ∀ q, p2 = some q → q.block ≠ w.heap.size + 2 := fun q hq => by have := (HQO.out q hq).2.1; omega
              have HTF : Hid (TabAt ((((w9.setCell ⟨w.heap.size + 2, 0, none⟩ (.string nm)).setCell ⟨w.heap.size + 2, 1, none⟩ (.slice p2 n c2)).setCell ⟨w.heap.size + 2, 2, none⟩ (.int .i64 (nextN nx I))).setCell ⟨w.heap.size + 2, 3, none⟩ (.slice pv RR.length cv)) ⟨nm, p2, n, c2, f, nextN nx I, pv, cv, RR⟩) := Lib.hid (by
                have h1 := ((((HOW9.out.own.set (V := w.heap.size + 2) (o := 0) (by omega) (.string nm)).set (V := w.heap.size + 2) (o := 1) (by omega) (.slice p2 n c2)).set (V := w.heap.size + 2) (o := 2) (by omega) (.int .i64 (nextN nx I))).set (V := w.heap.size + 2) (o := 3) (by omega) (.slice pv RR.length cv)).rows
                rw [HHF.out] at h1
                exact ⟨HTR9.out.name, HTR9.out.n, (((HCO9.out.set (a := ⟨w.heap.size + 2, 0, none⟩) hq _).set (a := ⟨w.heap.size + 2, 1, none⟩) hq _).set (a := ⟨w.heap.size + 2, 2, none⟩) hq _).set (a := ⟨w.heap.size + 2, 3, none⟩) hq _, h1, HTR9.out.len, HTR9.out.sized, HTR9.out.nxr⟩)
              obtain ⟨zl, z0, z1, z2, z3, zf⟩ := HA9.out.res
              obtain ⟨ol, o0, o1, o2, o3, of⟩ := HOW9.out.out
              go_wp2
              obtain ⟨-, s0, s1, s2, s3, -⟩ := HYS.out
              exact bodyPost_ret (v := .tuple #[.agg #[.string nm, .slice p2 n c2, .int .i64 (nextN nx I), .slice pv RR.length cv], .bool true]) (by simp [results, Tryd.results36, go_sem, s0, s1, s2, s3]) rfl
                ⟨⟨nm, p2, n, c2, f, nextN nx I, pv, cv, RR⟩, by rw [HY.out]; rfl, HTF.out, HRT.out, .inl ⟨_, HY.out, rfl, rfl, rfl, rfl, HRR.out.symm⟩⟩
end Go.Proofs.YtlelgkgdppkedaaDoor
