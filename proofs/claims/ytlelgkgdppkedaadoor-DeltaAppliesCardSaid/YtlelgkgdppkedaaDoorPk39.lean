/-
  Several texts in one.
-/
import Derived.Test.YtlelgkgdppkedaaDoorPk37
import Derived.Test.YtlelgkgdppkedaaDoorPk38
import Derived.Test.YtlelgkgdppkedaaDoorPk25
import Derived.Test.YtlelgkgdppkedaaDoorPk21
import Derived.Deep.RegionLaw
import Derived.Deep.CutRange
/-
  Apply of package delta.
-/
namespace Go.Proofs.YtlelgkgdppkedaaDoor
set_option maxRecDepth 100000
open Go.RowKit
variable {ls : List Nat}

/-- The rows behind a difference. -/
def dappR (T : Tab) (E : Dlt) : List TRow := keptR (E.D.map (·.1)) E.U T.R ++ E.I
/-- Does the difference fit the table, but for the rows that come? -/
def dappB (T : Tab) (E : Dlt) : Bool := eqT E.nm T.nm && (decide (applyE T.nm T.n T.f T.nx T.R [] (E.D.map (·.1)) E.U = 0) && holdB T.R E.D)
/-- The next number behind a difference that can be applied. -/
def dappN (T : Tab) (E : Dlt) : Option Int := if dappB T E = true then (match addN T.nx E.I with | some m => if validT T.nm T.n T.f m (dappR T E) = true then some m else none | none => none) else none
/-- What Apply gives. -/
def DApplyPost (T : Tab) (E : Dlt) (w : World) (e : Ending) (w' : World) : Prop := ∃ S : Tab, e = .returned (.tuple #[.agg #[.string S.nm, .slice S.pc S.n S.cc, .int .i64 S.nx, .slice S.pr S.R.length S.cr], .bool (dappN T E).isSome]) ∧ TabAt w' S ∧ Below w.heap.size w w' ∧
  ((∃ m, dappN T E = some m ∧ S.nm = T.nm ∧ S.n = T.n ∧ S.f = T.f ∧ S.nx = m ∧ S.R = dappR T E) ∨ (dappN T E = none ∧ S.nm = ⟨#[]⟩ ∧ S.n = 0 ∧ S.nx = 0 ∧ S.R = []))
/-- The boxes of Apply. -/
structure DaB (w : World) (T : Tab) (E : Dlt) (v : World) : Prop where
  t : Cell4 v w.heap.size (.string T.nm) (.slice T.pc T.n T.cc) (.int .i64 T.nx) (.slice T.pr T.R.length T.cr)
  e : Cell4 v (w.heap.size + 1) (.string E.nm) (.slice E.pi E.I.length E.ci) (.slice E.pd E.D.length E.cd) (.slice E.pu E.U.length E.cu)
  r : Cell4 v (w.heap.size + 2) (.string ⟨#[]⟩) (.slice none 0 0) (.int .i64 0) (.slice none 0 0)
  bel : Below w.heap.size w v
section
variable {w u v : World} {T S : Tab} {E : Dlt} {lo Y : Nat}
theorem DaB.low (h : DaB w T E u) (hb : Below u.heap.size u v) : DaB w T E v := ⟨h.t.low hb, h.e.low hb, h.r.low hb, below_next h.bel hb⟩
theorem cell4_keepK {X : Nat} {a b c d : Value} (h : Cell4 u X a b c d) (hk : AdK lo Y u v) (h1 : X < lo) (h2 : X ≠ Y) : Cell4 v X a b c d := by
  have hb := hk.blk X h1 h.lt h2
  exact ⟨Nat.lt_of_lt_of_le h.lt hk.size, by rw [World.cell?_of_block (w := u) hb]; exact h.c0, by rw [World.cell?_of_block (w := u) hb]; exact h.c1, by rw [World.cell?_of_block (w := u) hb]; exact h.c2, by rw [World.cell?_of_block (w := u) hb]; exact h.c3, fun o => by rw [World.frozen?_of_block (w := u) hb]; exact h.fz o⟩
theorem DaB.keepK (h : DaB w T E u) (hk : AdK lo Y u v) (hlo : w.heap.size + 3 ≤ lo) (hY : w.heap.size + 3 ≤ Y) (hb : Below w.heap.size w v) : DaB w T E v :=
  ⟨cell4_keepK h.t hk (by omega) (by omega), cell4_keepK h.e hk (by omega) (by omega), cell4_keepK h.r hk (by omega) (by omega), hb⟩
theorem DaB.set4 (h : DaB w T E u) (hY : w.heap.size + 3 ≤ Y) (a b c d : Value) : DaB w T E ((((u.setCell ⟨Y, 0, none⟩ a).setCell ⟨Y, 1, none⟩ b).setCell ⟨Y, 2, none⟩ c).setCell ⟨Y, 3, none⟩ d) :=
  h.keepK (lo := w.heap.size + 3) (Y := Y) ((((AdK.refl _ _ _).set 0 a).set 1 b).set 2 c |>.set 3 d) (Nat.le_refl _) hY ((((h.bel.setCell (by show w.heap.size ≤ Y; omega) _).setCell (by show w.heap.size ≤ Y; omega) _).setCell (by show w.heap.size ≤ Y; omega) _).setCell (by show w.heap.size ≤ Y; omega) _)
theorem daB_new (w : World) (T : Tab) (E : Dlt) : DaB w T E (((w.alloc (.cells #[.string T.nm, .slice T.pc T.n T.cc, .int .i64 T.nx, .slice T.pr T.R.length T.cr] 27)).alloc (.cells #[.string E.nm, .slice E.pi E.I.length E.ci, .slice E.pd E.D.length E.cd, .slice E.pu E.U.length E.cu] 41)).alloc (.cells #[.string ⟨#[]⟩, .slice none 0 0, .int .i64 0, .slice none 0 0] 27)) := by
  have h2 := cell4_new (w.alloc (.cells #[.string T.nm, .slice T.pc T.n T.cc, .int .i64 T.nx, .slice T.pr T.R.length T.cr] 27)) (.string E.nm) (.slice E.pi E.I.length E.ci) (.slice E.pd E.D.length E.cd) (.slice E.pu E.U.length E.cu) 41
  rw [size_alloc] at h2
  have h3 := cell4_new ((w.alloc (.cells #[.string T.nm, .slice T.pc T.n T.cc, .int .i64 T.nx, .slice T.pr T.R.length T.cr] 27)).alloc (.cells #[.string E.nm, .slice E.pi E.I.length E.ci, .slice E.pd E.D.length E.cd, .slice E.pu E.U.length E.cu] 41)) (.string ⟨#[]⟩) (.slice none 0 0) (.int .i64 0) (.slice none 0 0) 27
  rw [size_alloc, size_alloc] at h3
  exact ⟨((cell4_new w _ _ _ _ _).low (below_alloc _ _)).low (below_alloc _ _), h2.low (below_alloc _ _), h3, below_new (below_new (below_new (Below.refl _ _) _) _) _⟩
/-- The boxes, and the table that keys.Apply has given. -/
structure DaA (w : World) (T : Tab) (E : Dlt) (S : Tab) (Y lo : Nat) (v : World) : Prop where
  b : DaB w T E v
  new : Cell4 v Y (.string S.nm) (.slice S.pc S.n S.cc) (.int .i64 S.nx) (.slice S.pr S.R.length S.cr)
  own : ∃ G, TOwn v lo (.slice S.pr S.R.length S.cr) G ∧ tabR G = S.R ∧ (Value.slice S.pr S.R.length S.cr).ownBlock ≠ some Y ∧ ∀ g ∈ G, g.2.1.ownBlock ≠ some Y
  col : COwn v lo S.pc S.n S.cc S.f
  nec : (Value.slice S.pc S.n S.cc).ownBlock ≠ some Y
  sized : ∀ r ∈ S.R, ValsSized r.2
  hY : w.heap.size + 3 ≤ Y
  hlo : w.heap.size + 3 ≤ lo
  lov : lo ≤ v.heap.size
theorem daA_new (h : DaB w T E u) (k : TabOwn lo u S) (hlo : w.heap.size + 3 ≤ lo) (hlv : lo ≤ u.heap.size) : DaA w T E S u.heap.size lo (u.alloc (.cells #[.string S.nm, .slice S.pc S.n S.cc, .int .i64 S.nx, .slice S.pr S.R.length S.cr] 27)) := by
  obtain ⟨G, h1, h2⟩ := k.own
  refine ⟨h.low (below_alloc _ _), cell4_new _ _ _ _ _ _, ⟨G, h1.low (below_alloc _ _), h2, fun e => ?_, fun g hg e => ?_⟩, k.col.low (below_alloc _ _), fun e => ?_, k.sized, Nat.le_trans hlo hlv, hlo, Nat.le_trans hlv (below_alloc _ _).size⟩
  · have := owns_lt h1.own _ e; omega
  · have := owns_lt (h1.inn g hg).1 _ e; omega
  · obtain ⟨l, h3, -⟩ := k.col
    have := owns_lt h3 _ e; omega
theorem daA_set (h : DaB w T E u) (k : TabOwn lo u S) (hlo : w.heap.size + 3 ≤ lo) (hlv : lo ≤ u.heap.size) (hY : w.heap.size + 3 ≤ Y) (hYl : Y < lo) {a b c d : Value} (hc : Cell4 u Y a b c d) :
    DaA w T E S Y lo ((((u.setCell ⟨Y, 0, none⟩ (.string S.nm)).setCell ⟨Y, 1, none⟩ (.slice S.pc S.n S.cc)).setCell ⟨Y, 2, none⟩ (.int .i64 S.nx)).setCell ⟨Y, 3, none⟩ (.slice S.pr S.R.length S.cr)) := by
  have k2 := (((k.set (o := 0) hYl (.string S.nm)).set (o := 1) hYl (.slice S.pc S.n S.cc)).set (o := 2) hYl (.int .i64 S.nx)).set (o := 3) hYl (.slice S.pr S.R.length S.cr)
  obtain ⟨G, h1, h2⟩ := k2.own
  refine ⟨h.set4 hY _ _ _ _, cell4_put u hc _ _ _ _, ⟨G, h1, h2, fun e => ?_, fun g hg e => ?_⟩, k2.col, fun e => ?_, k.sized, hY, hlo, by rw [set_size, set_size, set_size, set_size]; exact hlv⟩
  · have := owns_block h1.own _ e; omega
  · have := owns_block (h1.inn g hg).1 _ e; omega
  · obtain ⟨l, h3, -⟩ := k2.col
    have := owns_block h3 _ e; omega
theorem DaA.low (h : DaA w T E S Y lo u) (hb : Below u.heap.size u v) : DaA w T E S Y lo v := by
  obtain ⟨G, h1, h2, h3, h4⟩ := h.own
  exact ⟨h.b.low hb, h.new.low hb, ⟨G, h1.low hb, h2, h3, h4⟩, h.col.low hb, h.nec, h.sized, h.hY, h.hlo, Nat.le_trans h.lov hb.size⟩
/-- The state of add. -/
theorem DaA.adw (h : DaA w T E S Y lo u) (h1 : S.n = T.n) (h2 : ∀ i, i < T.n → S.f i = T.f i) : ∃ G, tabR G = S.R ∧ AdW w lo Y S.nm S.pc S.n S.cc T.f S.nx (.slice S.pr S.R.length S.cr) G u := by
  obtain ⟨G, g1, g2, g3, g4⟩ := h.own
  obtain ⟨l, c1, c2, c3⟩ := h.col
  exact ⟨G, g2, h.new, g1, g3, g4, ⟨l, c1, c2, fun i hi => (c3 i hi).trans (h2 i (by omega))⟩, h.nec, h.b.bel, by have := h.hlo; omega, by have := h.hY; omega, h.lov⟩
/-- What is known of the table that keys.Apply has given. -/
def DaS (T : Tab) (E : Dlt) (S : Tab) : Prop := (applyE T.nm T.n T.f T.nx T.R [] (E.D.map (·.1)) E.U = 0 ∧ S.nm = T.nm ∧ S.n = T.n ∧ (∀ i, i < T.n → S.f i = T.f i) ∧ S.nx = T.nx ∧ S.R = keptR (E.D.map (·.1)) E.U T.R) ∨ applyE T.nm T.n T.f T.nx T.R [] (E.D.map (·.1)) E.U ≠ 0
theorem numsKeys_any (T : Tab) (E : Dlt) (p9 : Option Addr) (c9 : Nat) (w : World) (hT : TabAt w T) (hE : DltAt w E) (hn : NumAt w p9 (E.D.map (·.1))) (hc : E.D.length ≤ c9) :
    Calls Tryd.prog 41 #[.agg #[.string T.nm, .slice T.pc T.n T.cc, .int .i64 T.nx, .slice T.pr T.R.length T.cr], .agg #[.slice none 0 0, .slice p9 E.D.length c9, .slice E.pu E.U.length E.cu]] w fun e w' => ∃ S : Tab, e = .returned (.tuple #[.agg #[.string S.nm, .slice S.pc S.n S.cc, .int .i64 S.nx, .slice S.pr S.R.length S.cr], .int .i64 (applyE T.nm T.n T.f T.nx T.R [] (E.D.map (·.1)) E.U)]) ∧ TabOwn w.heap.size w' S ∧ Below w.heap.size w w' ∧ DaS T E S := by
  have hl : (E.D.map (·.1)).length = E.D.length := List.length_map _
  have h := kapply_free T.nm T.pc T.n T.cc T.f T.nx T.pr T.cr T.R none 0 [] p9 c9 (E.D.map (·.1)) E.pu E.cu E.U w hT ⟨fun i hi => absurd hi (Nat.not_lt_zero i), hn, hE.upd, Nat.zero_le _, by show (E.D.map (·.1)).length ≤ _; rw [hl]; exact hE.dl, hE.ul, fun l hl => (by cases hl), hE.usz, by show (E.D.map (·.1)).length ≤ _; rw [hl]; exact hc, hE.ucap⟩
  rw [hl] at h
  refine h.mono fun e w' ⟨S, h1, h2, h3, h4⟩ => ⟨S, h1, h2, h3, ?_⟩
  rcases h4 with ⟨g1, g2, g3, g4, g5, g6⟩ | ⟨g1, -⟩
  · exact .inl ⟨g1, g2, g3, g4, by rw [g5]; exact Int.add_zero _, by rw [g6]; exact List.append_nil _⟩
  · exact .inr g1
theorem dapp_no (h : dappB T E = false) : dappN T E = none := by unfold dappN; rw [if_neg (by rw [h]; decide)]
theorem dapp_none (h : addN T.nx E.I = none) : dappN T E = none := by unfold dappN; rw [h]; split <;> rfl
theorem dapp_bad {m : Int} (h : addN T.nx E.I = some m) (hv : validT T.nm T.n T.f m (dappR T E) = false) : dappN T E = none := by
  unfold dappN; rw [h]; dsimp only; rw [if_neg (show ¬ validT T.nm T.n T.f m (dappR T E) = true by rw [hv]; decide)]; split <;> rfl
theorem dapp_yes {m : Int} (hb : dappB T E = true) (h : addN T.nx E.I = some m) (hv : validT T.nm T.n T.f m (dappR T E) = true) : dappN T E = some m := by
  unfold dappN; rw [if_pos hb, h]; dsimp only; rw [if_pos hv]
theorem dapp_zero (h : dappN T E = none) (hb : Below w.heap.size w v) : DApplyPost T E w (.returned (.tuple #[.agg #[.string ⟨#[]⟩, .slice none 0 0, .int .i64 0, .slice none 0 0], .bool false])) v :=
  ⟨zeroTab, by rw [h]; rfl, zeroTab_at _, hb, .inr ⟨h, rfl, rfl, rfl, rfl⟩⟩
theorem addN_le {nx : Int} {I : List TRow} {m : Int} (h : addN nx I = some m) (hx : nx ≤ 9223372036854775807) : m ≤ 9223372036854775807 := by
  induction I generalizing nx with
  | nil => obtain rfl := Option.some.inj h; exact hx
  | cons r I ih =>
    unfold addN at h
    split at h
    · cases h
    · exact ih h (by unfold wrap64; omega)
/-- The table stays when the result's box is filled. -/
theorem tab_keepR {nm : ByteArray} {p2 : Option Addr} {n c2 : Nat} {f : Nat → Col} {nx : Int} {p9 : Option Addr} {c9 m9 : Nat} {G : List GRow} {R : List TRow} (h : AdW w lo Y nm p2 n c2 f nx (.slice p9 m9 c9) G u) (ht : TabAt u ⟨nm, p2, n, c2, f, nx, p9, c9, R⟩) (hR : tabR G = R) (hlo : w.heap.size + 3 ≤ lo) (a b c d : Value) :
    TabAt ((((u.setCell ⟨w.heap.size + 2, 0, none⟩ a).setCell ⟨w.heap.size + 2, 1, none⟩ b).setCell ⟨w.heap.size + 2, 2, none⟩ c).setCell ⟨w.heap.size + 2, 3, none⟩ d) ⟨nm, p2, n, c2, f, nx, p9, c9, R⟩ := by
  have hb : w.heap.size + 2 < lo := by omega
  have h1 := ((((h.own.set (o := 0) hb a).set (o := 1) hb b).set (o := 2) hb c).set (o := 3) hb d).rows
  rw [hR] at h1
  exact ⟨ht.name, ht.n, ((((h.col.set (o := 0) hb a).set (o := 1) hb b).set (o := 2) hb c).set (o := 3) hb d).cols, h1, ht.len, ht.sized, ht.nxr⟩
theorem DaB.ret (h : DaB w T E u) (a b c d : Value) : Below w.heap.size w ((((u.setCell ⟨w.heap.size + 2, 0, none⟩ a).setCell ⟨w.heap.size + 2, 1, none⟩ b).setCell ⟨w.heap.size + 2, 2, none⟩ c).setCell ⟨w.heap.size + 2, 3, none⟩ d) :=
  (((h.bel.setCell (by exact Nat.le_add_right _ _) _).setCell (by exact Nat.le_add_right _ _) _).setCell (by exact Nat.le_add_right _ _) _).setCell (by exact Nat.le_add_right _ _) _
end
set_option maxHeartbeats 8000000 in
theorem dapply_any (T : Tab) (E : Dlt) (w : World) (hT : TabAt w T) (hE : DltAt w E) (hI : E.I.length ≤ 900) (hD : E.D.length ≤ 17592186044415) :
    Calls Tryd.prog 18 #[.agg #[.string T.nm, .slice T.pc T.n T.cc, .int .i64 T.nx, .slice T.pr T.R.length T.cr], .agg #[.string E.nm, .slice E.pi E.I.length E.ci, .slice E.pd E.D.length E.cd, .slice E.pu E.U.length E.cu]] w (DApplyPost T E w) := by
  have HT := Lib.hid hT
  have HE := Lib.hid hE
  have HA := Lib.hid (daB_new w T E)
  clear hT hE
  go_enter Tryd.func18, Tryd.ntmps18
  go_upto_region 1 with (fail)
  generalize World.alloc _ _ = W0 at HA ⊢
  rw [show w.heap.size + 1 + 1 = w.heap.size + 2 from rfl]
  obtain ⟨xl, x0, x1, x2, x3, -⟩ := HA.out.t
  obtain ⟨el, e0, e1, e2, e3, -⟩ := HA.out.e
  obtain ⟨nb, hnb⟩ : ∃ b, eqT E.nm T.nm = b := ⟨_, rfl⟩
  have HNB := Lib.hid hnb
  cases nb
  · have hne : (E.nm.toList == T.nm.toList) = false := hnb
    have HNO := Lib.hid (dapp_no (T := T) (E := E) (by unfold dappB; rw [HNB.out]; rfl))
    have HYS := Lib.hid (cell4_put W0 HA.out.r (.string ⟨#[]⟩) (.slice none 0 0) (.int .i64 0) (.slice none 0 0))
    obtain ⟨zl, z0, z1, z2, z3, zf⟩ := HA.out.r
    go_wp2
    obtain ⟨-, s0, s1, s2, s3, -⟩ := HYS.out
    exact bodyPost_ret (v := .tuple #[.agg #[.string ⟨#[]⟩, .slice none 0 0, .int .i64 0, .slice none 0 0], .bool false]) (by simp [results, Tryd.results18, go_sem, s0, s1, s2, s3]) rfl (dapp_zero HNO.out (HA.out.ret _ _ _ _))
  have hne : (E.nm.toList == T.nm.toList) = true := hnb
  go_upto_region 3 with (fail)
  clear xl x0 x1 x2 x3 el e0 e1 e2 e3 hnb
  go_cut [6, 7] from 15 to 25 (fun s6 s7 wx => ∃ (S : Tab) (Y lo : Nat), s6 = .pointer (some ⟨Y, 0, none⟩) ∧ s7 = .int .i64 (applyE T.nm T.n T.f T.nx T.R [] (E.D.map (·.1)) E.U) ∧ DaA w T E S Y lo wx ∧ DaS T E S)
  case first =>
    have HAD := Lib.hid (HA.out.low (Below.refl W0.heap.size W0).drew)
    obtain ⟨xl, x0, x1, x2, x3, -⟩ := HA.out.t
    obtain ⟨el, e0, e1, e2, e3, -⟩ := HA.out.e
    go_region_law (first
      | (go_simp; go_at_call 42; refine (numbers_any E.D E.pd E.cd _ (HE.out.del.low HAD.out.bel) hD).mono ?_; rintro e wq ⟨p9, c9, rfl, hnum, hc9, hbq⟩; (have HNQ := Lib.hid hnum); (have HCQ := Lib.hid hc9); (have HAQ := Lib.hid (HAD.out.low hbq)); (have HNA : Hid (0 = 0) := Lib.hid rfl); clear hnum hc9 hbq x0 x1 x2 x3 xl e0 e1 e2 e3 el; obtain ⟨xl, x0, x1, x2, x3, -⟩ := HAQ.out.t; obtain ⟨el, e0, e1, e2, e3, -⟩ := HAQ.out.e)
      | (go_simp; go_at_call 42; refine (numbers_any E.D E.pd E.cd _ (HE.out.del.low (HAD.out.low (below_alloc _ _)).bel) hD).mono ?_; rintro e wq ⟨p9, c9, rfl, hnum, hc9, hbq⟩; (have HNQ := Lib.hid hnum); (have HCQ := Lib.hid hc9); (have HAQ := Lib.hid ((HAD.out.low (below_alloc _ (.cells #[.string ⟨#[]⟩, .slice none 0 0, .int .i64 0, .slice none 0 0] 27))).low hbq)); (have HZQ : Hid (Cell4 wq W0.heap.size (.string ⟨#[]⟩) (.slice none 0 0) (.int .i64 0) (.slice none 0 0)) := Lib.hid ((cell4_new W0.drew (.string ⟨#[]⟩) (.slice none 0 0) (.int .i64 0) (.slice none 0 0) 27).low hbq)); clear hnum hc9 hbq x0 x1 x2 x3 xl e0 e1 e2 e3 el; obtain ⟨xl, x0, x1, x2, x3, -⟩ := HAQ.out.t; obtain ⟨el, e0, e1, e2, e3, -⟩ := HAQ.out.e)
      | (go_simp; go_at_call 41; refine (numsKeys_any T E p9 c9 _ (HT.out.low HAQ.out.bel) (HE.out.low HAQ.out.bel) HNQ.out HCQ.out).mono ?_; rintro e wz ⟨S, rfl, hf, hbz, hs⟩; (have HFZ := Lib.hid hf); (have HSZ := Lib.hid hs); (have HAZ := Lib.hid (HAQ.out.low hbz)); (have HLZ := Lib.hid hbz.size); (have HLQ : Hid (w.heap.size + 3 ≤ wq.heap.size) := Lib.hid HAQ.out.r.lt); (first | ((have HZY := Lib.hid (HZQ.out.low hbz)); (have HYQ : Hid (w.heap.size + 3 ≤ W0.heap.size) := Lib.hid HA.out.r.lt); (have HYL : Hid (W0.heap.size < wq.heap.size) := Lib.hid HZQ.out.lt); obtain ⟨zl, z0, z1, z2, z3, zf⟩ := HZY.out) | skip); clear hf hs hbz x0 x1 x2 x3 xl e0 e1 e2 e3 el)
      | (go_simp; go_at_call 41; refine (numsKeys_any T E p9 c9 _ (HT.out.low (HAQ.out.low (below_alloc _ _)).bel) (HE.out.low (HAQ.out.low (below_alloc _ _)).bel) (HNQ.out.low (below_alloc _ _)) HCQ.out).mono ?_; rintro e wz ⟨S, rfl, hf, hbz, hs⟩; (have HFZ := Lib.hid hf); (have HSZ := Lib.hid hs); (have HAZ := Lib.hid ((HAQ.out.low (below_alloc _ (.cells #[.string ⟨#[]⟩, .slice none 0 0, .int .i64 0, .slice none 0 0] 27))).low hbz)); (have HLZ := Lib.hid hbz.size); (have HLQ : Hid (w.heap.size + 3 ≤ (wq.alloc (.cells #[.string ⟨#[]⟩, .slice none 0 0, .int .i64 0, .slice none 0 0] 27)).heap.size) := Lib.hid (HAQ.out.low (below_alloc _ _)).r.lt); (have HYQ : Hid (w.heap.size + 3 ≤ wq.heap.size) := Lib.hid HAQ.out.r.lt); (have HYL : Hid (wq.heap.size < (wq.alloc (.cells #[.string ⟨#[]⟩, .slice none 0 0, .int .i64 0, .slice none 0 0] 27)).heap.size) := Lib.hid (by rw [size_alloc]; omega)); (have HZY : Hid (Cell4 wz wq.heap.size (.string ⟨#[]⟩) (.slice none 0 0) (.int .i64 0) (.slice none 0 0)) := Lib.hid ((cell4_new wq (.string ⟨#[]⟩) (.slice none 0 0) (.int .i64 0) (.slice none 0 0) 27).low hbz)); obtain ⟨zl, z0, z1, z2, z3, zf⟩ := HZY.out; clear hf hs hbz x0 x1 x2 x3 xl e0 e1 e2 e3 el))
    all_goals
      go_wp2_with fail
      go_meet
      first
        | exact ⟨S, _, _, rfl, rfl, daA_new HAZ.out HFZ.out HLQ.out HLZ.out, HSZ.out⟩
        | exact ⟨S, _, _, rfl, rfl, daA_set HAZ.out HFZ.out HLQ.out HLZ.out HYQ.out HYL.out HZY.out, HSZ.out⟩
  case rest =>
    obtain ⟨S, Y, lo, rfl, rfl, hda, hds⟩ := hcut
    have HDA := Lib.hid hda
    clear hda HA
    rcases hds with ⟨hz, hSn, hSk, hSf, hSx, hSR⟩ | hnz
    rotate_left
    · have HNO := Lib.hid (dapp_no (T := T) (E := E) (by unfold dappB; rw [decide_eq_false hnz]; simp))
      have hzd : (applyE T.nm T.n T.f T.nx T.R [] (E.D.map (·.1)) E.U != 0) = true := bne_iff_ne.2 hnz
      have HYS := Lib.hid (cell4_put wc HDA.out.b.r (.string ⟨#[]⟩) (.slice none 0 0) (.int .i64 0) (.slice none 0 0))
      have HRT := Lib.hid (HDA.out.b.ret (.string ⟨#[]⟩) (.slice none 0 0) (.int .i64 0) (.slice none 0 0))
      obtain ⟨zl, z0, z1, z2, z3, zf⟩ := HDA.out.b.r
      go_wp2
      obtain ⟨-, s0, s1, s2, s3, -⟩ := HYS.out
      exact bodyPost_ret (v := .tuple #[.agg #[.string ⟨#[]⟩, .slice none 0 0, .int .i64 0, .slice none 0 0], .bool false]) (by simp [results, Tryd.results18, go_sem, s0, s1, s2, s3]) rfl (dapp_zero HNO.out HRT.out)
    have HZ := Lib.hid hz
    have hR100 : T.R.length ≤ 100 := by
      cases hc : (validT T.nm T.n T.f T.nx T.R && validC T.n T.R [] (E.D.map (·.1)) E.U)
      · rw [applyE_bad hc] at hz; cases hz
      · rw [Bool.and_eq_true] at hc
        exact (validT_parts hc.1).2.1
    rw [hz]
    obtain ⟨nmS, pcS, nS, ccS, fS, nxS, prS, crS, RS⟩ := S
    dsimp only at hSn hSk hSf hSx hSR
    subst hSn hSk hSx hSR
    obtain ⟨G, hG, hadw⟩ := HDA.out.adw rfl hSf
    have HG := Lib.hid hG
    have HAW := Lib.hid hadw
    have HB := Lib.hid HDA.out.b
    have hY3 := HDA.out.hY
    have hlo3 := HDA.out.hlo
    clear HDA hz hSf hG hadw
    obtain ⟨xl, x0, x1, x2, x3, -⟩ := HB.out.t
    obtain ⟨el, e0, e1, e2, e3, -⟩ := HB.out.e
    go_wp2_with fail
    refine (dhold_any T E.pd E.cd E.D _ (HT.out.low HB.out.bel) (HE.out.del.low HB.out.bel) HE.out.dl).mono ?_
    rintro e w5 ⟨rfl, hb5⟩
    obtain ⟨hb, hhb⟩ : ∃ b, holdB T.R E.D = b := ⟨_, rfl⟩
    rw [hhb]
    have HHB := Lib.hid hhb
    have HB5 := Lib.hid (HB.out.low hb5)
    have HAW5 := Lib.hid (HAW.out.to hb5)
    clear HB HAW hb5 hhb xl x0 x1 x2 x3 el e0 e1 e2 e3
    cases hb
    · have HNO := Lib.hid (dapp_no (T := T) (E := E) (by unfold dappB; rw [HHB.out]; simp))
      have HYS := Lib.hid (cell4_put w5 HB5.out.r (.string ⟨#[]⟩) (.slice none 0 0) (.int .i64 0) (.slice none 0 0))
      have HRT := Lib.hid (HB5.out.ret (.string ⟨#[]⟩) (.slice none 0 0) (.int .i64 0) (.slice none 0 0))
      obtain ⟨zl, z0, z1, z2, z3, zf⟩ := HB5.out.r
      go_wp2
      obtain ⟨-, s0, s1, s2, s3, -⟩ := HYS.out
      exact bodyPost_ret (v := .tuple #[.agg #[.string ⟨#[]⟩, .slice none 0 0, .int .i64 0, .slice none 0 0], .bool false]) (by simp [results, Tryd.results18, go_sem, s0, s1, s2, s3]) rfl (dapp_zero HNO.out HRT.out)
    have HDB : Hid (dappB T E = true) := Lib.hid (by unfold dappB; rw [HNB.out, HZ.out, HHB.out]; rfl)
    have hGl : G.length + E.I.length ≤ 2000 := by
      have h1 := congrArg List.length HG.out
      rw [tabR_length] at h1
      have h2 : (keptR (E.D.map (·.1)) E.U T.R).length ≤ T.R.length := keptR_length
      have h3 := HT.out.len
      omega
    obtain ⟨el, e0, e1, e2, e3, -⟩ := HB5.out.e
    go_wp2_with fail
    refine (dadd_any w _ lo Y T.nm pcS T.n ccS T.f T.nx _ G E.pi E.ci E.I HAW5.out HE.out.ins hGl).mono ?_
    rintro e w6 ⟨ab, rfl, hK6, hb6, hadd⟩
    have HB6 := Lib.hid (HB5.out.keepK hK6 hlo3 hY3 hb6)
    clear HB5 HAW5 hK6 hb6 el e0 e1 e2 e3
    rcases hadd with ⟨rfl, hno⟩ | ⟨rfl, m, vr, G', hm, hG', hadw⟩
    · have HNO := Lib.hid (dapp_none (T := T) (E := E) hno)
      have HYS := Lib.hid (cell4_put w6 HB6.out.r (.string ⟨#[]⟩) (.slice none 0 0) (.int .i64 0) (.slice none 0 0))
      have HRT := Lib.hid (HB6.out.ret (.string ⟨#[]⟩) (.slice none 0 0) (.int .i64 0) (.slice none 0 0))
      obtain ⟨zl, z0, z1, z2, z3, zf⟩ := HB6.out.r
      go_wp2
      obtain ⟨-, s0, s1, s2, s3, -⟩ := HYS.out
      exact bodyPost_ret (v := .tuple #[.agg #[.string ⟨#[]⟩, .slice none 0 0, .int .i64 0, .slice none 0 0], .bool false]) (by simp [results, Tryd.results18, go_sem, s0, s1, s2, s3]) rfl (dapp_zero HNO.out HRT.out)
    obtain ⟨p9, c9, e9⟩ := hadw.own.ex
    subst e9
    have hGR : tabR G' = dappR T E := by rw [hG', HG.out]; rfl
    have hGL : G'.length = (dappR T E).length := by rw [← hGR, tabR_length]
    rw [hGL] at hadw
    have hrows := hadw.own.rows
    rw [hGR] at hrows
    have HTR : Hid (TabAt w6 ⟨T.nm, pcS, T.n, ccS, T.f, m, p9, c9, dappR T E⟩) := Lib.hid ⟨HT.out.name, HT.out.n, hadw.col.cols, hrows, by
        have h2 : (keptR (E.D.map (·.1)) E.U T.R).length ≤ T.R.length := keptR_length
        show (keptR (E.D.map (·.1)) E.U T.R ++ E.I).length ≤ 1000
        rw [List.length_append]
        omega, fun r hr => by
        rcases List.mem_append.1 hr with h | h
        · exact kept_sized HE.out.usz HT.out.sized r h
        · exact HE.out.isz r h, addN_le hm HT.out.nxr⟩
    have HGR := Lib.hid hGR
    have HAW6 := Lib.hid hadw
    have HM := Lib.hid hm
    clear hadw hrows hm hG' hGR hGL
    obtain ⟨yl, y0, y1, y2, y3, yf⟩ := HAW6.out.box
    go_wp2_with fail
    refine (tvalid_any ⟨T.nm, pcS, T.n, ccS, T.f, m, p9, c9, dappR T E⟩ _ HTR.out).mono ?_
    rintro e w7 ⟨rfl, hb7⟩
    obtain ⟨vb, hvb⟩ : ∃ b, Tab.valid ⟨T.nm, pcS, T.n, ccS, T.f, m, p9, c9, dappR T E⟩ = b := ⟨_, rfl⟩
    rw [hvb]
    have HVB : Hid (validT T.nm T.n T.f m (dappR T E) = vb) := Lib.hid hvb
    have HB7 := Lib.hid (HB6.out.low hb7)
    have HTR7 := Lib.hid (HTR.out.low hb7)
    have HAW7 := Lib.hid (HAW6.out.to hb7)
    clear HB6 HAW6 HTR hb7 hvb yl y0 y1 y2 y3 yf
    cases vb
    · have HNO := Lib.hid (dapp_bad HM.out HVB.out)
      have HYS := Lib.hid (cell4_put w7 HB7.out.r (.string ⟨#[]⟩) (.slice none 0 0) (.int .i64 0) (.slice none 0 0))
      have HRT := Lib.hid (HB7.out.ret (.string ⟨#[]⟩) (.slice none 0 0) (.int .i64 0) (.slice none 0 0))
      obtain ⟨zl, z0, z1, z2, z3, zf⟩ := HB7.out.r
      go_wp2
      obtain ⟨-, s0, s1, s2, s3, -⟩ := HYS.out
      exact bodyPost_ret (v := .tuple #[.agg #[.string ⟨#[]⟩, .slice none 0 0, .int .i64 0, .slice none 0 0], .bool false]) (by simp [results, Tryd.results18, go_sem, s0, s1, s2, s3]) rfl (dapp_zero HNO.out HRT.out)
    have HY := Lib.hid (dapp_yes HDB.out HM.out HVB.out)
    have HYS := Lib.hid (cell4_put w7 HB7.out.r (.string T.nm) (.slice pcS T.n ccS) (.int .i64 m) (.slice p9 (dappR T E).length c9))
    have HRT := Lib.hid (HB7.out.ret (.string T.nm) (.slice pcS T.n ccS) (.int .i64 m) (.slice p9 (dappR T E).length c9))
    have HTF := Lib.hid (tab_keepR HAW7.out HTR7.out HGR.out hlo3 (.string T.nm) (.slice pcS T.n ccS) (.int .i64 m) (.slice p9 (dappR T E).length c9))
    obtain ⟨zl, z0, z1, z2, z3, zf⟩ := HB7.out.r
    obtain ⟨yl, y0, y1, y2, y3, yf⟩ := HAW7.out.box
    go_wp2
    obtain ⟨-, s0, s1, s2, s3, -⟩ := HYS.out
    exact bodyPost_ret (v := .tuple #[.agg #[.string T.nm, .slice pcS T.n ccS, .int .i64 m, .slice p9 (dappR T E).length c9], .bool true]) (by simp [results, Tryd.results18, go_sem, s0, s1, s2, s3]) rfl
      ⟨⟨T.nm, pcS, T.n, ccS, T.f, m, p9, c9, dappR T E⟩, by rw [HY.out]; rfl, HTF.out, HRT.out, .inl ⟨m, HY.out, rfl, rfl, rfl, rfl, rfl⟩⟩
end Go.Proofs.YtlelgkgdppkedaaDoor
