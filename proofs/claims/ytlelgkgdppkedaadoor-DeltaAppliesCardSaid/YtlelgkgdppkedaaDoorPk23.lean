/-
  Several texts in one.
-/
import Derived.Test.YtlelgkgdppkedaaDoorPk22
import Derived.Test.YtlelgkgdppkedaaDoorPk16
import Derived.Test.YtlelgkgdppkedaaDoorPk14
import Derived.Deep.RegionHeld3
import Derived.Test.YtlelgkgdppkedaaDoorPk18
/-
  Package clone: copies of schemas, of lists of rows and of tables.
-/
namespace Go.Proofs.YtlelgkgdppkedaaDoor
set_option maxRecDepth 100000
open Go.RowKit
variable {ls : List Nat}

theorem own_ex {u : World} {base : Nat} {vr : Value} {e : TypeId} {s n : Nat} {xs : List Value} (h : u.ownsRow base e s vr n xs) : ∃ p c, vr = .slice p n c := by
  rcases h.2 with ⟨rfl, rfl⟩ | ⟨g, cap, cur, rfl, -⟩
  · exact ⟨none, 0, rfl⟩
  · exact ⟨_, cap, rfl⟩
theorem cell2_st1 {u : World} {X : Nat} {a b : Value} (h : Cell2 u X a b) (y : Value) : Cell2 (u.setCell ⟨X, 1, none⟩ y) X a y := by
  obtain ⟨hl, c0, c1, fz⟩ := h
  refine ⟨by simpa [World.setCell] using hl, ?_, ?_, fun o => ?_⟩
  · go_simp
  · go_simp
  · rw [World.frozen?_setCell]; exact fz o
theorem cell2_far {u : World} {X Y o : Nat} {a b : Value} (h : Cell2 u X a b) (hn : X ≠ Y) (y : Value) : Cell2 (u.setCell ⟨Y, o, none⟩ y) X a b := by
  have hb : (u.setCell ⟨Y, o, none⟩ y).heap[X]? = u.heap[X]? := Below.heap_setCell _ _ _ _ (by exact hn)
  exact ⟨by simpa [World.setCell] using h.lt, by rw [World.cell?_of_block (w := u) hb]; exact h.c0, by rw [World.cell?_of_block (w := u) hb]; exact h.c1, fun o => by rw [World.frozen?_of_block (w := u) hb]; exact h.fz o⟩
/-- Columns of the call's own. -/
def COwn (u : World) (lo : Nat) (p : Option Addr) (n c : Nat) (f : Nat → Col) : Prop := ∃ l : List Col, u.ownsRow lo 63 4 (.slice p n c) n (ccells l) ∧ Sized l ∧ ∀ i, i < n → cAt l i = f i
theorem COwn.keep {u v : World} {lo : Nat} {p : Option Addr} {n c : Nat} {f : Nat → Col} (h : COwn u lo p n c f) (hk : ∀ k, lo ≤ k → k < u.heap.size → v.heap[k]? = u.heap[k]?) : COwn v lo p n c f := by
  obtain ⟨l, h1, h2, h3⟩ := h
  exact ⟨l, owns_keep h1 fun k hk' => hk k (owns_block h1 k hk') (owns_lt h1 k hk'), h2, h3⟩
theorem COwn.low {u v : World} {lo : Nat} {p : Option Addr} {n c : Nat} {f : Nat → Col} (h : COwn u lo p n c f) (hb : Below u.heap.size u v) : COwn v lo p n c f := h.keep fun k _ h2 => hb.block k h2
theorem COwn.base {u : World} {lo lo' : Nat} {p : Option Addr} {n c : Nat} {f : Nat → Col} (h : COwn u lo p n c f) (hl : lo' ≤ lo) : COwn u lo' p n c f := by
  obtain ⟨l, h1, h2, h3⟩ := h
  exact ⟨l, owns_base h1 hl, h2, h3⟩
theorem COwn.set {u : World} {lo b o : Nat} {p : Option Addr} {n c : Nat} {f : Nat → Col} (h : COwn u lo p n c f) (hb : b < lo) (y : Value) : COwn (u.setCell ⟨b, o, none⟩ y) lo p n c f := h.keep fun k h1 _ => Below.heap_setCell _ _ _ _ (by show k ≠ b; omega)
theorem COwn.cols {u : World} {lo : Nat} {p : Option Addr} {n c : Nat} {f : Nat → Col} (h : COwn u lo p n c f) : ColsAt u p n f := by
  obtain ⟨l, h1, h2, h3⟩ := h
  obtain ⟨p', c', he, hn, hc, -⟩ := cols_of_owns h1 h2
  injection he with e1 e2 e3
  subst e1
  exact hc.congr fun i hi => (h3 i hi).symm
theorem COwn.zero (u : World) (lo : Nat) (f : Nat → Col) : COwn u lo none 0 0 f := ⟨[], ⟨rfl, Or.inl ⟨rfl, rfl⟩⟩, fun i hi => absurd hi (Nat.not_lt_zero i), fun i hi => absurd hi (Nat.not_lt_zero i)⟩
/-- A table of the call's own, whose rows can be appended to. -/
structure TabOwn (lo : Nat) (u : World) (S : Tab) : Prop where
  own : ∃ G, TOwn u lo (.slice S.pr S.R.length S.cr) G ∧ tabR G = S.R
  col : COwn u lo S.pc S.n S.cc S.f
  name : S.nm.size ≤ 9223372036854775807
  n : S.n ≤ 9223372036854775807
  len : S.R.length ≤ 1000
  sized : ∀ r ∈ S.R, ValsSized r.2
  nxr : S.nx ≤ 9223372036854775807
theorem TabOwn.at {lo : Nat} {u : World} {S : Tab} (h : TabOwn lo u S) : TabAt u S := by
  obtain ⟨G, h1, h2⟩ := h.own
  have hr := h1.rows
  rw [h2] at hr
  exact ⟨h.name, h.n, h.col.cols, hr, h.len, h.sized, h.nxr⟩
theorem TabOwn.low {lo : Nat} {u v : World} {S : Tab} (h : TabOwn lo u S) (hb : Below u.heap.size u v) : TabOwn lo v S := by
  obtain ⟨G, h1, h2⟩ := h.own
  exact ⟨⟨G, h1.low hb, h2⟩, h.col.low hb, h.name, h.n, h.len, h.sized, h.nxr⟩
theorem TabOwn.keep {lo : Nat} {u v : World} {S : Tab} (h : TabOwn lo u S) (hk : ∀ k, lo ≤ k → k < u.heap.size → v.heap[k]? = u.heap[k]?) : TabOwn lo v S := by
  obtain ⟨G, h1, h2⟩ := h.own
  exact ⟨⟨G, h1.keep hk, h2⟩, h.col.keep hk, h.name, h.n, h.len, h.sized, h.nxr⟩
theorem TabOwn.set {lo b o : Nat} {u : World} {S : Tab} (h : TabOwn lo u S) (hb : b < lo) (y : Value) : TabOwn lo (u.setCell ⟨b, o, none⟩ y) S := h.keep fun k h1 _ => Below.heap_setCell _ _ _ _ (by show k ≠ b; omega)
theorem TabOwn.mono {lo lo' : Nat} {u : World} {S : Tab} (h : TabOwn lo u S) (hl : lo' ≤ lo) : TabOwn lo' u S := by
  obtain ⟨G, h1, h2⟩ := h.own
  exact ⟨⟨G, h1.base hl, h2⟩, h.col.base hl, h.name, h.n, h.len, h.sized, h.nxr⟩
theorem TabOwn.free {lo : Nat} {u : World} {S : Tab} (h : TabOwn lo u S) : TabFree lo u S := fun _ _ hk => (h.keep hk).at
/-- What a copy of a schema gives. -/
def CloneSPost (nm : ByteArray) (n : Nat) (f : Nat → Col) (w : World) (e : Ending) (w' : World) : Prop := ∃ (p2 : Option Addr) (c2 : Nat), e = .returned (.agg #[.string nm, .slice p2 n c2]) ∧ COwn w' w.heap.size p2 n c2 f ∧ Below w.heap.size w w'
set_option maxHeartbeats 2000000 in
theorem clonesch_any (nm : ByteArray) (p : Option Addr) (n cc : Nat) (f : Nat → Col) (w : World) (hn1 : 0 < n) (hn6 : n ≤ 1000) (hC : ColsAt w p n f) :
    Calls Tryd.prog 102 #[.agg #[.string nm, .slice p n cc]] w (CloneSPost nm n f w) := by
  unfold CloneSPost
  obtain ⟨c, o, rfl, -⟩ := hC.ptr hn1
  obtain ⟨l, hl, hlf⟩ := cols_list n f
  have hb0 : Below w.heap.size w ((w.alloc (.cells #[.string nm, .slice (some ⟨c, o, none⟩) n cc] 24)).alloc (.cells #[.string ⟨#[]⟩, .slice none 0 0] 24)) := below_new (below_new (Below.refl _ _) _) _
  have hcols : ColsAt w (some ⟨c, o, none⟩) l.length (cAt l) := by rw [hl]; exact hC.congr hlf
  have hsz : Sized l := fun i hi => by
    obtain ⟨-, -, -, -, hs, -⟩ := hcols i hi
    exact hs
  have HCL := Lib.hid (hcols.low hb0)
  have HSZ := Lib.hid hsz
  have HLF : Hid (∀ i, i < n → f i = cAt l i) := Lib.hid fun i hi => (hlf i hi).symm
  have HX := Lib.hid ((cell2_new w (.string nm) (.slice (some ⟨c, o, none⟩) n cc) 24).low (below_alloc _ (.cells #[.string ⟨#[]⟩, .slice none 0 0] 24)))
  have hy := cell2_new (w.alloc (.cells #[.string nm, .slice (some ⟨c, o, none⟩) n cc] 24)) (.string ⟨#[]⟩) (.slice none 0 0) 24
  rw [size_alloc] at hy
  have HY := Lib.hid hy
  have HB0 := Lib.hid hb0
  have hown0 : ∀ W : World, W.ownsRow W.heap.size 63 4 (.slice none 0 0) 0 (ccells []) := fun W => ⟨rfl, Or.inl ⟨rfl, rfl⟩⟩
  have HO := Lib.hid hown0
  clear hC hb0 hown0 hcols hsz hlf hy
  go_enter Tryd.func102, Tryd.ntmps102
  go_upto_region 1 with (fail)
  generalize World.alloc _ _ = W0 at HCL HX HY HB0 ⊢
  obtain ⟨hxl, x0, x1, xf⟩ := HX.out
  have hyl := HY.out.lt
  go_upto_region 2 with (at_builtin; refine wpList_append_cols rfl _ (.tmp 4) rfl W0.heap.size _ 0 [] rfl (HO.out _) ⟨c, o, none⟩ l cc n rfl hl HCL.out (by omega) (Nat.le_refl _) ?_; intro v2 w2 hown2 hgr2; (have hb2 := grown_below (Below.refl W0.heap.size W0) (Nat.le_refl _) hgr2 (fun k hk => by cases hk)); rw [Nat.zero_add, List.nil_append] at hown2; obtain ⟨p2, c2, hv2⟩ := own_ex hown2; subst hv2; (have HC2 : Hid (COwn w2 (w.heap.size + 2) p2 n c2 f) := Lib.hid ⟨l, owns_base (by rw [hl] at hown2; exact hown2) (by omega), HSZ.out, fun i hi => (HLF.out i hi).symm⟩); (have HX2 := Lib.hid (HX.out.low hb2)); (have HY2 := Lib.hid (HY.out.low hb2)); (have HB2 := Lib.hid (below_next HB0.out hb2)); clear hown2 hgr2 hb2 hxl x0 x1 xf; obtain ⟨hxl, x0, x1, xf⟩ := HX2.out)
  have HX3 := Lib.hid (cell2_st1 HX2.out (.slice p2 n c2))
  have HY3 : Hid (Cell2 (w2.setCell ⟨w.heap.size, 1, none⟩ (.slice p2 n c2)) (w.heap.size + 1) (.string ⟨#[]⟩) (.slice none 0 0)) := Lib.hid (cell2_far HY2.out (by omega) _)
  have HC3 := Lib.hid (HC2.out.set (b := w.heap.size) (o := 1) (by omega) (.slice p2 n c2))
  have HB3 : Hid (Below w.heap.size w (w2.setCell ⟨w.heap.size, 1, none⟩ (.slice p2 n c2))) := Lib.hid (HB2.out.setCell (by exact Nat.le_refl _) _)
  clear HX2 HY2 HC2 HB2 hxl x0 x1 xf hyl
  generalize World.setCell _ _ _ = W3 at HX3 HY3 HC3 HB3 ⊢
  obtain ⟨hxl, x0, x1, xf⟩ := HX3.out
  obtain ⟨hyl, y0, y1, yf⟩ := HY3.out
  have HS := Lib.hid (cell2_put W3 HY3.out (.string nm) (.slice p2 n c2))
  go_wp2
  obtain ⟨-, s0, s1, -⟩ := HS.out
  exact bodyPost_ret (v := .agg #[.string nm, .slice p2 n c2]) (by simp [results, Tryd.results102, go_sem, s0, s1]) rfl
    ⟨p2, c2, rfl, ((HC3.out.set (b := w.heap.size + 1) (o := 0) (by omega) (.string nm)).set (b := w.heap.size + 1) (o := 1) (by omega) (.slice p2 n c2)).base (by omega), (HB3.out.setCell (by exact Nat.le_succ _) _).setCell (by exact Nat.le_succ _) _⟩
/-- What a copy of rows gives. -/
def CloneRPost (R : List TRow) (w : World) (e : Ending) (w' : World) : Prop := ∃ (p : Option Addr) (c : Nat) (G : List GRow), e = .returned (.slice p R.length c) ∧ TOwn w' w.heap.size (.slice p R.length c) G ∧ tabR G = R ∧ Below w.heap.size w w'
set_option maxHeartbeats 2000000 in
theorem clonerows_any (R : List TRow) (q : Option Addr) (cq : Nat) (w : World) (hR : TRowsAt w q R) (hl : R.length ≤ 10000) :
    Calls Tryd.prog 103 #[.slice q R.length cq] w (CloneRPost R w) := by
  have HR := Lib.hid hR
  clear hR
  go_enter Tryd.func103, Tryd.ntmps103
  go_wp2_with fail
  go_loopw [3, 8] (fun s3 s8 wx => ∃ (k : Nat) (G : List GRow), k ≤ R.length ∧ s8 = .int .i64 k ∧ G.length = k ∧ tabR G = R.take k ∧ TOwn wx w.heap.size s3 G ∧ Below w.heap.size w wx) (fun _ s8 _ => R.length - (intOf s8).toNat)
  case atStart => exact ⟨0, [], Nat.zero_le _, rfl, rfl, rfl, TOwn.nil _ _, Below.refl _ _⟩
  case round =>
    rename_i s3
    obtain ⟨k, G, hk, rfl, hGl, hG, hown, hb⟩ := hrel
    obtain ⟨p3, c3, e3⟩ := hown.ex
    subst e3
    have HG := Lib.hid hG
    have HGL := Lib.hid hGl
    have HOW := Lib.hid hown
    have HB := Lib.hid hb
    clear hG hGl hown hb
    by_cases hlt : k < R.length
    · have hkd : decide ((k : Int) < R.length) = true := decide_eq_true (by omega)
      obtain ⟨c, o, qb, cb, hp, hc, h0, h1, hr, hs, hn⟩ := HR.out k hlt
      obtain ⟨⟨id, l⟩, hrk⟩ : ∃ x, tAt R k = x := ⟨_, rfl⟩
      rw [hrk] at h0 h1 hr hs hn
      dsimp only at h0 h1 hr hs hn
      subst hp
      rw [← HB.out.cell (by exact hc)] at h0 h1
      have hbn := below_alloc wr (.cells #[.int .i64 id, .slice qb l.length cb] 53)
      have HO1 := Lib.hid (HOW.out.low hbn)
      have HB1 := Lib.hid (below_next HB.out hbn)
      have HY1 := Lib.hid (cell2_new wr (.int .i64 id) (.slice qb l.length cb) 53)
      have HRV := Lib.hid (hr.low HB1.out)
      have HN := Lib.hid hn
      have HRK := Lib.hid hrk
      clear HOW HB hbn hr hn hrk
      go_upto_region 5 with (fail)
      clear h0 h1
      generalize World.alloc _ _ = W2 at HO1 HB1 HY1 HRV ⊢
      generalize wr.heap.size = Y at HY1 ⊢
      obtain ⟨yl, y0, y1, -⟩ := HY1.out
      go_wp2_with fail
      refine (dcopyrow_any id l qb cb _ HRV.out hs HN.out).mono ?_
      rintro e w5 ⟨v5, rfl, hin5, hb5⟩
      obtain ⟨p5, c5, hv5⟩ := InRow.ex hin5
      subst hv5
      have HIN : Hid (InRow w5 w.heap.size (.slice p5 l.length c5, l)) := Lib.hid (InRow.base hin5 HB1.out.size)
      have HO5 := Lib.hid (HO1.out.low hb5)
      have HB5 := Lib.hid (below_next HB1.out hb5)
      have hb6 := below_alloc w5 (.cells #[.int .i64 id, .slice p5 l.length c5] 53)
      have HO6 := Lib.hid (HO5.out.low hb6)
      have HB6 := Lib.hid (below_next HB5.out hb6)
      have HN6 := Lib.hid (row2_new w5 (.int .i64 id) (.slice p5 l.length c5) 53)
      have HLO := Lib.hid HB6.out.size
      have hGs : (G.length + 1) * 32 ≤ 140737488355328 := by have := HGL.out; omega
      clear hin5 hb5 hb6 HO1 HB1 HY1 HRV yl y0 y1
      go_wp2_with (at_builtin; refine wpList_append_trow rfl (.tmp 12) (.tmp 15) rfl w.heap.size (.slice p3 G.length c3) G (by rfl) HO6.out.own w5.heap.size id (.slice p5 l.length c5) l (by rfl) HN6.out.1 HN6.out.2 rfl hGs HLO.out ?_; intro v8 w8 hown8 hg8; (have HO8 := Lib.hid (HO5.out.push (g := (id, .slice p5 l.length c5, l)) HIN.out hown8 hg8)); (have HB8 := Lib.hid (grown_below HB6.out HLO.out hg8 (fun j hj => owns_block HO6.out.own j hj))); clear hown8 hg8)
      go_roundw
      case rel => exact ⟨k + 1, G ++ [(id, .slice p5 l.length c5, l)], by omega, by go_num, by rw [List.length_append, HGL.out]; rfl, by rw [tabR_append, HG.out, take_trow hlt, HRK.out]; rfl, HO8.out, HB8.out⟩
      case measure => simp [intOf]; omega
    · obtain rfl : k = R.length := by omega
      have hkd : decide (((R.length : Nat) : Int) < R.length) = false := decide_eq_false (by omega)
      have HGR : Hid (tabR G = R) := Lib.hid (by rw [HG.out, List.take_length])
      have hgl := HGL.out
      have ho := HOW.out
      rw [hgl] at ho ⊢
      have HOR := Lib.hid ho
      clear ho HOW hgl
      go_wp2
      exact bodyPost_ret (v := .slice p3 R.length c3) (by simp [results, Tryd.results103, go_sem]) rfl ⟨p3, c3, G, rfl, HOR.out, HGR.out, HB.out⟩
/-- What a copy of a table gives. -/
def CloneTPost (nm : ByteArray) (n : Nat) (f : Nat → Col) (nx : Int) (R : List TRow) (w : World) (e : Ending) (w' : World) : Prop :=
  ∃ (p2 : Option Addr) (c2 : Nat) (pr : Option Addr) (cr : Nat), e = .returned (.agg #[.string nm, .slice p2 n c2, .int .i64 nx, .slice pr R.length cr]) ∧ TabOwn w.heap.size w' ⟨nm, p2, n, c2, f, nx, pr, cr, R⟩ ∧ Below w.heap.size w w'
set_option maxHeartbeats 4000000 in
theorem clonetab_any (nm : ByteArray) (p : Option Addr) (n cc : Nat) (f : Nat → Col) (nx : Int) (pr : Option Addr) (cr : Nat) (R : List TRow) (w : World) (hT : TabAt w ⟨nm, p, n, cc, f, nx, pr, cr, R⟩) (hn1 : 0 < n) (hn6 : n ≤ 1000) :
    Calls Tryd.prog 93 #[.agg #[.string nm, .slice p n cc, .int .i64 nx, .slice pr R.length cr]] w (CloneTPost nm n f nx R w) := by
  have hb0 : Below w.heap.size w ((w.alloc (.cells #[.string nm, .slice p n cc, .int .i64 nx, .slice pr R.length cr] 27)).alloc (.cells #[.string ⟨#[]⟩, .slice none 0 0, .int .i64 0, .slice none 0 0] 27)) := below_new (below_new (Below.refl _ _) _) _
  have HX := Lib.hid ((cell4_new w (.string nm) (.slice p n cc) (.int .i64 nx) (.slice pr R.length cr) 27).low (below_alloc _ (.cells #[.string ⟨#[]⟩, .slice none 0 0, .int .i64 0, .slice none 0 0] 27)))
  have HY := Lib.hid ((cell4_new (w.alloc (.cells #[.string nm, .slice p n cc, .int .i64 nx, .slice pr R.length cr] 27)) (.string ⟨#[]⟩) (.slice none 0 0) (.int .i64 0) (.slice none 0 0) 27).at (size_alloc _ _))
  have HT := Lib.hid (hT.low hb0)
  have HB0 := Lib.hid hb0
  have hR10 : R.length ≤ 10000 := by have := hT.len; dsimp only at this; omega
  clear hT hb0
  go_enter Tryd.func93, Tryd.ntmps93
  go_upto_region 1 with (fail)
  generalize World.alloc _ _ = W1 at HX HY HT HB0 ⊢
  obtain ⟨xl, x0, x1, x2, x3, -⟩ := HX.out
  have HTD := Lib.hid (HT.out.low (Below.refl W1.heap.size W1).drew)
  have HXD := Lib.hid (HX.out.low (Below.refl W1.heap.size W1).drew)
  have HYD := Lib.hid (HY.out.low (Below.refl W1.heap.size W1).drew)
  have HBD := Lib.hid (below_next HB0.out (Below.refl W1.heap.size W1).drew)
  go_region_law (first
    | (go_simp; go_at_call 102; refine (clonesch_any nm p n cc f _ hn1 hn6 HTD.out.cols).mono ?_; rintro e w3 ⟨p2, c2, rfl, hcl, hb3⟩; (have HCL := Lib.hid hcl); (have HB3 := Lib.hid hb3); obtain ⟨zl, z0, z1, z2, z3, -⟩ := HXD.out.low hb3; clear hcl hb3)
    | (go_simp; go_at_call 103; refine (clonerows_any R pr cr _ (HTD.out.low HB3.out).rows hR10).mono ?_; rintro e w5 ⟨p5, c5, G, rfl, ho5, hG5, hb5⟩; (have HO5 := Lib.hid ho5); (have HG5 := Lib.hid hG5); (have HB5 := Lib.hid hb5); obtain ⟨yl, y0, y1, y2, y3, yf⟩ := (HYD.out.low HB3.out).low hb5; obtain ⟨ul, u0, u1, u2, u3, -⟩ := (HXD.out.low HB3.out).low hb5; clear ho5 hG5 hb5))
  all_goals
    go_wp2
    have hz0 : w.heap.size + 1 < W1.heap.size := HY.out.lt
    have hz1 : W1.heap.size ≤ w3.heap.size := HB3.out.size
    have HS := cell4_put w5 ((HYD.out.low HB3.out).low HB5.out) (.string nm) (.slice p2 n c2) (.int .i64 nx) (.slice p5 R.length c5)
    obtain ⟨-, s0, s1, s2, s3, -⟩ := HS
    have hm : TabOwn (w.heap.size + 2) w5 ⟨nm, p2, n, c2, f, nx, p5, c5, R⟩ := ⟨⟨G, HO5.out.base (by omega), HG5.out⟩, (HCL.out.low HB5.out).base (by show w.heap.size + 2 ≤ W1.heap.size; omega), HT.out.name, HT.out.n, HT.out.len, HT.out.sized, HT.out.nxr⟩
    exact bodyPost_ret (v := .agg #[.string nm, .slice p2 n c2, .int .i64 nx, .slice p5 R.length c5]) (by simp [results, Tryd.results93, go_sem, s0, s1, s2, s3]) rfl
      ⟨p2, c2, p5, c5, rfl, ((((hm.set (b := w.heap.size + 1) (o := 0) (by omega) (.string nm)).set (b := w.heap.size + 1) (o := 1) (by omega) (.slice p2 n c2)).set (b := w.heap.size + 1) (o := 2) (by omega) (.int .i64 nx)).set (b := w.heap.size + 1) (o := 3) (by omega) (.slice p5 R.length c5)).mono (by omega),
        (((((below_next (below_next HBD.out HB3.out) HB5.out).setCell (by exact Nat.le_succ _) _).setCell (by exact Nat.le_succ _) _).setCell (by exact Nat.le_succ _) _).setCell (by exact Nat.le_succ _) _)⟩
end Go.Proofs.YtlelgkgdppkedaaDoor
/-
  Package keys: changed.
-/
namespace Go.Proofs.YtlelgkgdppkedaaDoor
set_option maxRecDepth 100000
open Go.RowKit
variable {ls : List Nat}

theorem c3_step {u v : World} {X b : Nat} {x y z : Value} (h : Cell3 u X x y z) (hs : StepT b u v) (hn : X ≠ b) : Cell3 v X x y z :=
  ⟨Nat.lt_of_lt_of_le h.lt hs.size, by rw [hs.cell (by exact h.lt) (by exact hn)]; exact h.c0, by rw [hs.cell (by exact h.lt) (by exact hn)]; exact h.c1, by rw [hs.cell (by exact h.lt) (by exact hn)]; exact h.c2, fun o => by rw [hs.frozen (by exact h.lt) (by exact hn)]; exact h.fz o⟩
section
variable {w0 u v : World} {base k : Nat} {vr : Value} {G : List GRow}
theorem MOwn.setB {X o : Nat} (h : MOwn w0 u base k vr G) (hX : X < base) (hw : w0.heap.size ≤ X) (y : Value) : MOwn w0 (u.setCell ⟨X, o, none⟩ y) base k vr G :=
  ⟨ownsRow_setCell_below h.own (a := ⟨X, o, none⟩) hX y, fun i hi hl => ⟨ownsRow_setCell_below (h.fst i hi hl).1 (a := ⟨X, o, none⟩) hX y, (h.fst i hi hl).2⟩, h.snd, h.low.setCell (by exact hw) _, h.hb⟩
theorem MOwn.slot (h : MOwn w0 u base k vr G) (hl : 0 < G.length) : ∃ g c, vr = .slice (some ⟨g, 0, none⟩) G.length c ∧ base ≤ g ∧ g < u.heap.size ∧ (∀ o, u.frozen? ⟨g, o, none⟩ = false) ∧
    (∀ i, i < G.length → u.cell? ⟨g, i * 2, none⟩ = some (.int .i64 (grAt G i).1) ∧ u.cell? ⟨g, i * 2 + 1, none⟩ = some (grAt G i).2.1) := by
  rcases h.own.2 with ⟨-, h0⟩ | ⟨g, cap', cur, rfl, hg, hh, hcap, hm, hcur, htake⟩
  · omega
  · have hget : ∀ j, j < G.length * 2 → cur[j]? = (tcells G)[j]? := fun j hj => by
      rw [← htake, List.getElem?_take, if_pos hj]; simp
    refine ⟨g, cap', rfl, hg, (Array.getElem?_eq_some_iff.1 hh).1, fun o => by simp [World.frozen?, hh], fun i hi => ?_⟩
    obtain ⟨c0, c1⟩ := tcells_at G i hi
    refine ⟨?_, ?_⟩
    · simp only [World.cell?, hh]
      rw [if_neg (by simp), hget _ (by omega), c0]
    · simp only [World.cell?, hh]
      rw [if_neg (by simp), hget _ (by omega), c1]
theorem MOwn.trows (h : MOwn w0 u base 0 vr G) : TRowsAt u (rowP vr) (tabR G) := by
  intro i hi
  rw [tabR_length] at hi
  rw [tabR_at hi]
  obtain ⟨g, c, rfl, hg, hgs, hf, hc⟩ := h.slot (by omega)
  obtain ⟨c0, c1⟩ := hc i hi
  obtain ⟨q, cq, hv, hr, hs, hn⟩ := h.snd i (Nat.zero_le _) hi
  exact ⟨g, 0, q, cq, rfl, hgs, by rw [Nat.zero_add]; exact c0, by rw [Nat.zero_add, ← hv]; exact c1, hr.low h.low, hs, hn⟩
end
/-- What changed gives. -/
def ChdPost (nm : ByteArray) (n : Nat) (f : Nat → Col) (nx : Int) (A : List TRow) (w : World) (e : Ending) (w' : World) : Prop :=
  ∃ (p2 : Option Addr) (c2 : Nat) (pr : Option Addr) (cr : Nat), e = .returned (.agg #[.string nm, .slice p2 n c2, .int .i64 nx, .slice pr A.length cr]) ∧ TabOwn w.heap.size w' ⟨nm, p2, n, c2, f, nx, pr, cr, A⟩ ∧ Below w.heap.size w w'
/-- The state of changed, from the call of remaining on. -/
structure ChdB (w w3 : World) (nm : ByteArray) (p2 : Option Addr) (n c2 : Nat) (nx : Int) (k : Nat) (vr : Value) (G : List GRow) (v : World) : Prop where
  tab : Cell4 v w.heap.size (.string nm) (.slice p2 n c2) (.int .i64 nx) vr
  own : MOwn w v w3.heap.size k vr G
  step : StepT w.heap.size w3 v
theorem ChdB.low {w w3 u v : World} {nm : ByteArray} {p2 : Option Addr} {n c2 : Nat} {nx : Int} {k : Nat} {vr : Value} {G : List GRow} (h : ChdB w w3 nm p2 n c2 nx k vr G u) (hb : Below u.heap.size u v) : ChdB w w3 nm p2 n c2 nx k vr G v :=
  ⟨h.tab.low hb, h.own.to hb, h.step.trans (StepT.of_below hb)⟩
theorem ChdB.push {w w3 u w8 : World} {nm : ByteArray} {p2 : Option Addr} {n c2 : Nat} {nx : Int} {vr v8 : Value} {G : List GRow} {g : GRow} (h : ChdB w w3 nm p2 n c2 nx 0 vr G u) (hlt : w.heap.size < w3.heap.size) (hg : LiesV w g.2.1 g.2.2)
    (ho : w8.ownsRow w3.heap.size 53 2 v8 (G ++ [g]).length (tcells (G ++ [g]))) (hgr : u.grownBy w8 vr.ownBlock) :
    Cell4 w8 w.heap.size (.string nm) (.slice p2 n c2) (.int .i64 nx) vr ∧ ChdB w w3 nm p2 n c2 nx 0 v8 (G ++ [g]) (w8.setCell ⟨w.heap.size, 3, none⟩ v8) := by
  have hk : ∀ k, vr.ownBlock = some k → w3.heap.size ≤ k := fun k hk => owns_block h.own.own k hk
  have hc := h.tab.grown hgr (fun k hk' => by have := hk k hk'; omega)
  have hm := h.own.push hg ho hgr h.step.size
  exact ⟨hc, hc.set3 v8, hm.setB hlt (Nat.le_refl _) _, (step_grown_from h.step hgr hk).setCell 3 none v8⟩
theorem ChdB.setNx {w w3 u : World} {nm : ByteArray} {p2 : Option Addr} {n c2 : Nat} {nx : Int} {k : Nat} {vr : Value} {G : List GRow} (h : ChdB w w3 nm p2 n c2 nx k vr G u) (hlt : w.heap.size < w3.heap.size) (nx' : Int) : ChdB w w3 nm p2 n c2 nx' k vr G (u.setCell ⟨w.heap.size, 2, none⟩ (.int .i64 nx')) :=
  ⟨h.tab.set2 _, h.own.setB hlt (Nat.le_refl _) _, h.step.setCell 2 none _⟩
set_option maxHeartbeats 16000000 in
theorem changed_any (nm : ByteArray) (pc : Option Addr) (n cc : Nat) (f : Nat → Col) (nx : Int) (pr : Option Addr) (cr : Nat) (R : List TRow) (pi : Option Addr) (ci : Nat) (I : List (List Val)) (pd : Option Addr) (cd : Nat) (D : List Int) (pu : Option Addr) (cu : Nat) (U : List PRow) (w : World)
    (hT : TabAt w ⟨nm, pc, n, cc, f, nx, pr, cr, R⟩) (hC : ChgAt w ⟨pi, ci, I, pd, cd, D, pu, cu, U⟩) (hn1 : 0 < n) (hn6 : n ≤ 1000) (hnx1 : 1 ≤ nx) (hnx2 : nx ≤ 2147483648) (hR100 : R.length ≤ 100) (hrem : remR R D U = some (keptR D U R)) (_hpos : ∀ r ∈ afterR nx R I D U, 0 < r.2.length) (hlen : (afterR nx R I D U).length ≤ 1000) :
    Calls Tryd.prog 74 #[.agg #[.string nm, .slice pc n cc, .int .i64 nx, .slice pr R.length cr], .agg #[.slice pi I.length ci, .slice pd D.length cd, .slice pu U.length cu]] w (ChdPost nm n f (nx + I.length) (afterR nx R I D U) w) := by
  have HT := Lib.hid hT
  have HC := Lib.hid hC
  have HREM := Lib.hid hrem
  have HLEN := Lib.hid hlen
  have hI63 := hC.inl
  dsimp only at hI63
  have HK0 := Lib.hid (KB.new w nm pc n cc nx pr R.length cr pi I.length ci pd D.length cd pu U.length cu)
  have HK : Hid (KB w nm pc n cc nx pr R.length cr pi I.length ci pd D.length cd pu U.length cu (((w.alloc (.cells #[.string nm, .slice pc n cc, .int .i64 nx, .slice pr R.length cr] 27)).alloc (.cells #[.slice pi I.length ci, .slice pd D.length cd, .slice pu U.length cu] 73)).alloc (.cells #[.string ⟨#[]⟩, .slice none 0 0, .int .i64 0, .slice none 0 0] 27))) := Lib.hid (HK0.out.low (below_alloc _ _))
  have HZ : Hid (Cell4 (((w.alloc (.cells #[.string nm, .slice pc n cc, .int .i64 nx, .slice pr R.length cr] 27)).alloc (.cells #[.slice pi I.length ci, .slice pd D.length cd, .slice pu U.length cu] 73)).alloc (.cells #[.string ⟨#[]⟩, .slice none 0 0, .int .i64 0, .slice none 0 0] 27)) (w.heap.size + 2) (.string ⟨#[]⟩) (.slice none 0 0) (.int .i64 0) (.slice none 0 0)) := Lib.hid ((cell4_new ((w.alloc _).alloc _) _ _ _ _ _).at (by rw [size_alloc, size_alloc]))
  clear hT hC hrem hlen HK0
  go_enter Tryd.func74, Tryd.ntmps74
  go_upto_region 1 with (fail)
  generalize World.alloc _ _ = W0 at HK HZ ⊢
  rw [show w.heap.size + 1 + 1 = w.heap.size + 2 from rfl]
  obtain ⟨xl, x0, x1, x2, x3, xf⟩ := HK.out.tab
  obtain ⟨yl, y0, y1, y2, -⟩ := HK.out.chg
  go_wp2_with fail
  refine (remaining_eq nm pc n cc nx pr cr R pi ci I pd cd D pu cu U _ w HT.out.rows (by omega) HC.out HK.out.bel).mono ?_
  rintro e w4 ⟨v4, rfl, hb4, hown4⟩
  obtain ⟨G0, hG0, hm0⟩ := hown4 _ HREM.out
  obtain ⟨p4, c4, hv4⟩ := own_ex hm0.own
  subst hv4
  have hlt3 : w.heap.size < W0.heap.size := HK.out.tab.lt
  have HCH : Hid (ChdB w W0 nm pc n cc (nx + ((0 : Nat) : Int)) 0 (.slice p4 G0.length c4) G0 (w4.setCell ⟨w.heap.size, 3, none⟩ (.slice p4 G0.length c4))) := Lib.hid (by
    rw [show nx + ((0 : Nat) : Int) = nx by omega]
    exact ⟨(HK.out.tab.low hb4).set3 _, hm0.setB hlt3 (Nat.le_refl _) _, (StepT.of_below hb4).setCell 3 none _⟩)
  have HT4 := Lib.hid (HK.out.tab.low hb4)
  have HG0 := Lib.hid hG0
  clear hown4 hm0 hb4 hG0 xl x0 x1 x2 x3 xf yl y0 y1 y2
  obtain ⟨xl, x0, x1, x2, x3, xf⟩ := HT4.out
  go_upto_region 2 with (fail)
  clear HT4 xl x0 x1 x2 x3 xf
  generalize World.setCell _ _ _ = W5 at HCH ⊢
  have HCB5 := Lib.hid (c3_step HK.out.chg HCH.out.step (by omega))
  obtain ⟨yl, y0, y1, y2, -⟩ := HCB5.out
  go_wp2_with fail
  go_loopw [17] (fun i v => ∃ (k : Nat) (vr : Value) (G : List GRow), k ≤ I.length ∧ i = .int .i64 k ∧ tabR G = keptR D U R ++ comeR nx (I.take k) ∧ ChdB w W0 nm pc n cc (nx + k) 0 vr G v) (fun i _ => I.length - (intOf i).toNat)
  case atStart => exact ⟨0, _, G0, Nat.zero_le _, rfl, by rw [HG0.out]; simp [comeR], HCH.out⟩
  clear HCH HCB5 HG0 yl y0 y1 y2
  case round =>
    obtain ⟨k, vr, G, hk, rfl, hG, hch⟩ := hrel
    have HG := Lib.hid hG
    have HCH := Lib.hid hch
    have HGL : Hid (G.length ≤ 2000) := Lib.hid (by have h1 := congrArg List.length hG; rw [tabR_length, List.length_append, comeR_length, List.length_take] at h1; have h2 := keptR_length (D := D) (U := U) (R := R); omega)
    clear hG hch
    by_cases hlt : k < I.length
    · have hlt' : decide ((k : Int) < I.length) = true := decide_eq_true (by omega)
      obtain ⟨c', o', q, cq, hp, hc', h0', hr, hs, hqn⟩ := HC.out.ins k hlt
      dsimp only at hp h0' hr hs hqn
      subst hp
      have hc := Nat.lt_of_lt_of_le hc' HCH.out.own.low.size
      have h0 : wr.cell? ⟨c', o' + k, none⟩ = some (.slice q (rAt I k).length cq) := by rw [HCH.out.own.low.cell (by exact hc')]; exact h0'
      have HLV : Hid (LiesV w (.slice q (rAt I k).length cq) (rAt I k)) := Lib.hid ⟨q, cq, rfl, hr, hs, hqn⟩
      have HH5 := Lib.hid (HCH.out.low (below_alloc wr (.cells #[.int .i64 (nx + k), .slice q (rAt I k).length cq] 53)))
      have HN5 := Lib.hid (row2_new wr (.int .i64 (nx + k)) (.slice q (rAt I k).length cq) 53)
      have HLO := Lib.hid HH5.out.step.size
      obtain ⟨xl, x0, x1, x2, x3, xf⟩ := HCH.out.tab
      clear h0' hr hs hqn hc'
      go_upto_region 6 with (at_builtin; refine wpList_append_trow rfl (.tmp 22) (.tmp 27) rfl W0.heap.size vr G (by rfl) HH5.out.own.own wr.heap.size (nx + k) (.slice q (rAt I k).length cq) (rAt I k) (by rfl) HN5.out.1 HN5.out.2 rfl (by have := HGL.out; omega) HLO.out ?_; intro v8 w8 hown8 hg8; obtain ⟨⟨zl, z0, z1, z2, z3, zf⟩, hs8⟩ := HH5.out.push (g := (nx + k, .slice q (rAt I k).length cq, rAt I k)) hlt3 HLV.out hown8 hg8; obtain ⟨p8, c8, e8⟩ := own_ex hown8; subst e8; rw [List.length_append, List.length_singleton] at hs8; (have HS8 := Lib.hid hs8); clear hs8 hown8 hg8)
      clear HCH HH5 HN5 HLO xl x0 x1 x2 x3 xf zl z0 z1 z2 z3 zf h0 hc
      generalize World.setCell _ _ _ = W9 at HS8 ⊢
      obtain ⟨xl, x0, x1, x2, x3, xf⟩ := HS8.out.tab
      have HS9 := Lib.hid (HS8.out.setNx hlt3 (nx + k + 1))
      go_wp2
      go_roundw
      case rel => exact ⟨k + 1, _, G ++ [(nx + k, .slice q (rAt I k).length cq, rAt I k)], by omega, by go_num, by rw [tabR_append, HG.out, comeR_take hlt, List.append_assoc]; rfl, by rw [show nx + ((k + 1 : Nat) : Int) = nx + k + 1 by omega]; exact HS9.out⟩
      case measure => simp [intOf]; omega
    · have hlt' : decide ((k : Int) < I.length) = false := decide_eq_false (by omega)
      obtain rfl : k = I.length := by omega
      obtain ⟨p, cv, hvr⟩ := own_ex HCH.out.own.own
      subst hvr
      have HGA : Hid (tabR G = afterR nx R I D U) := Lib.hid (by rw [HG.out, List.take_length]; rfl)
      have hml : G.length = (afterR nx R I D U).length := by rw [← HGA.out, tabR_length]
      have hch := HCH.out
      rw [hml] at hch
      have HCH1 := Lib.hid hch
      have hrows := hch.own.trows
      rw [HGA.out] at hrows
      have HTA : Hid (TabAt wr ⟨nm, pc, n, cc, f, nx + I.length, p, cv, afterR nx R I D U⟩) := Lib.hid ⟨HT.out.name, HT.out.n, HT.out.cols.low hch.own.low, hrows, HLEN.out, after_sized HC.out.usz HT.out.sized HC.out.isz, by dsimp only; omega⟩
      have HB := Lib.hid hch.own.low
      have HZ4 := Lib.hid (HZ.out.step hch.step (by omega))
      have hZS := HZ4.out.lt
      clear HCH HG HGL hch hml hrows
      obtain ⟨xl, x0, x1, x2, x3, xf⟩ := HCH1.out.tab
      go_wp2_with fail
      refine (clonetab_any nm pc n cc f (nx + I.length) p cv (afterR nx R I D U) _ HTA.out hn1 hn6).mono ?_
      rintro e w6 ⟨p2, c2, p6, c6, rfl, hm6, hb6⟩
      have HZ6 := HZ4.out.low hb6
      have HYS := Lib.hid (cell4_put w6 HZ6 (.string nm) (.slice p2 n c2) (.int .i64 (nx + I.length)) (.slice p6 (afterR nx R I D U).length c6))
      have HM := Lib.hid (((((hm6.set (b := w.heap.size + 2) (o := 0) (by omega) (.string nm)).set (b := w.heap.size + 2) (o := 1) (by omega) (.slice p2 n c2)).set (b := w.heap.size + 2) (o := 2) (by omega) (.int .i64 (nx + I.length))).set (b := w.heap.size + 2) (o := 3) (by omega) (.slice p6 (afterR nx R I D U).length c6)).mono (lo' := w.heap.size) (by omega))
      have HBF : Hid (Below w.heap.size w ((((w6.setCell ⟨w.heap.size + 2, 0, none⟩ (.string nm)).setCell ⟨w.heap.size + 2, 1, none⟩ (.slice p2 n c2)).setCell ⟨w.heap.size + 2, 2, none⟩ (.int .i64 (nx + I.length))).setCell ⟨w.heap.size + 2, 3, none⟩ (.slice p6 (afterR nx R I D U).length c6))) := Lib.hid (((((below_next HB.out hb6).setCell (by exact Nat.le_add_right _ _) _).setCell (by exact Nat.le_add_right _ _) _).setCell (by exact Nat.le_add_right _ _) _).setCell (by exact Nat.le_add_right _ _) _)
      obtain ⟨zl, z0, z1, z2, z3, zf⟩ := HZ6
      clear hm6 hb6
      go_wp2
      obtain ⟨-, s0, s1, s2, s3, -⟩ := HYS.out
      exact bodyPost_ret (v := .agg #[.string nm, .slice p2 n c2, .int .i64 (nx + I.length), .slice p6 (afterR nx R I D U).length c6]) (by simp [results, Tryd.results74, go_sem, s0, s1, s2, s3]) rfl
        ⟨p2, c2, p6, c6, rfl, HM.out, HBF.out⟩
end Go.Proofs.YtlelgkgdppkedaaDoor
/-
  A change that is built row by row: its box, its three lists.
-/
namespace Go.Proofs.YtlelgkgdppkedaaDoor
set_option maxRecDepth 100000
open Go.RowKit
variable {ls : List Nat}

/-- Values in a block of their own. -/
def NewAt (lo : Nat) (v : World) (x : Value) (l : List Val) : Prop := ∃ (g c : Nat) (cur : Array Value), x = .slice (some ⟨g, 0, none⟩) l.length c ∧ lo ≤ g ∧ v.heap[g]? = some (.cells cur 57 (0, 0)) ∧ RowAt v (some ⟨g, 0, none⟩) l ∧ l.length ≤ c
theorem NewAt.of {lo : Nat} {v : World} {x : Value} {l : List Val} (h : v.ownsRow lo 57 3 x l.length (vcells l)) (hl : 0 < l.length) : NewAt lo v x l := by
  obtain ⟨hv, hr, hn⟩ := owned_shape h
  rcases h.2 with ⟨-, h0⟩ | ⟨g, cap', cur, rfl, hg, hh, hcap, hm, hcur, htake⟩
  · omega
  · exact ⟨g, cap', cur, rfl, hg, hh, hr, hcap⟩
theorem NewAt.keep {lo : Nat} {u v : World} {x : Value} {l : List Val} (h : NewAt lo u x l) (hz : u.heap.size ≤ v.heap.size) (hk : ∀ k, lo ≤ k → k < u.heap.size → v.heap[k]? = u.heap[k]?) : NewAt lo v x l := by
  obtain ⟨g, c, cur, hx, hg, hh, hr, hc⟩ := h
  have hb := hk g hg (Array.getElem?_eq_some_iff.1 hh).1
  exact ⟨g, c, cur, hx, hg, hb.trans hh, hr.keep hz fun a ha => by cases ha; exact hb, hc⟩
theorem NewAt.keepG {lo base n m : Nat} {e : TypeId} {u v : World} {x y : Value} {l : List Val} {ys : List Value} (h : NewAt lo u x l) (hy : u.ownsRow base e m y n ys) (he : e ≠ 57) (hg : u.grownBy v y.ownBlock) : NewAt lo v x l := by
  obtain ⟨g, c, cur, hx, hg', hh, hr, hc⟩ := h
  have hlt := (Array.getElem?_eq_some_iff.1 hh).1
  have hb : v.heap[g]? = u.heap[g]? := hg.block g hlt fun e0 => by
    rcases hy.2 with ⟨rfl, -⟩ | ⟨g2, cap', cur', rfl, -, hh2, -⟩
    · cases e0
    · have e1 : g = g2 := Option.some.inj e0
      subst e1
      rw [hh] at hh2
      injection hh2 with hh2
      injection hh2 with h3 h4
      exact he h4.symm
  exact ⟨g, c, cur, hx, hg', hb.trans hh, hr.keep hg.size fun a ha => by cases ha; exact hb, hc⟩
theorem NewAt.mono {lo lo' : Nat} {u : World} {x : Value} {l : List Val} (h : NewAt lo u x l) (hl : lo' ≤ lo) : NewAt lo' u x l := by
  obtain ⟨g, c, cur, hx, hg, h2⟩ := h
  exact ⟨g, c, cur, hx, Nat.le_trans hl hg, h2⟩
/-- A value is set. -/
theorem NewAt.put {lo g c r : Nat} {u : World} {l : List Val} (h : NewAt lo u (.slice (some ⟨g, 0, none⟩) l.length c) l) (hr : r < l.length) (x : Val) :
    NewAt lo (((u.setCell ⟨g, r * 3, none⟩ (.int .i64 x.1)).setCell ⟨g, r * 3 + 1, none⟩ (.int .i64 x.2.1)).setCell ⟨g, r * 3 + 2, none⟩ (.string x.2.2)) (.slice (some ⟨g, 0, none⟩) l.length c) (l.set r x) := by
  obtain ⟨g', c', cur, hx, hg, hh, hrow, hc⟩ := h
  injection hx with h1 h2 h3
  injection h1 with h1
  injection h1 with h1
  subst h1 h3
  refine ⟨g, c, _, by rw [List.length_set], hg, heap_setCell_same _ _ _ _ _ _ (heap_setCell_same _ _ _ _ _ _ (heap_setCell_same _ _ _ _ _ _ hh)), hrow.put hr x, by rw [List.length_set]; exact hc⟩
abbrev GPair := Int × (Value × List Val) × (Value × List Val)
def pcells (P : List GPair) : List Value := P.flatMap fun p => [.int .i64 p.1, p.2.1.1, p.2.2.1]
theorem pcells_length (P : List GPair) : (pcells P).length = P.length * 3 := by
  induction P with
  | nil => rfl
  | cons g G ih => show (_ :: _ :: _ :: pcells G).length = _; rw [List.length_cons, List.length_cons, List.length_cons, ih, List.length_cons]; omega
theorem pcells_append (G H : List GPair) : pcells (G ++ H) = pcells G ++ pcells H := List.flatMap_append
theorem pcells_at (P : List GPair) (i : Nat) (h : i < P.length) : (pcells P)[i * 3]? = some (.int .i64 P[i].1) ∧ (pcells P)[i * 3 + 1]? = some P[i].2.1.1 ∧ (pcells P)[i * 3 + 2]? = some P[i].2.2.1 := by
  induction P generalizing i with
  | nil => simp at h
  | cons g G ih =>
    have e : pcells (g :: G) = .int .i64 g.1 :: g.2.1.1 :: g.2.2.1 :: pcells G := rfl
    rw [e]
    cases i with
    | zero => exact ⟨rfl, rfl, rfl⟩
    | succ i =>
      rw [List.length_cons] at h
      have := ih i (by omega)
      rw [show (i + 1) * 3 = i * 3 + 1 + 1 + 1 by omega]
      exact this
def icells (D : List Int) : List Value := D.map fun z => .int .i64 z
theorem info_pair : (Tryd.prog.info? 86).map (fun i => (i.zero, i.size, i.bytes)) = some (some (.agg #[.int .i64 0, .slice none 0 0, .slice none 0 0]), 3, 56) := by kernel_rfl
theorem info_int7 : (Tryd.prog.info? 3).map (fun i => (i.zero, i.size, i.bytes)) = some (some (.int .i64 0), 1, 8) := by kernel_rfl
theorem info_row7 : (Tryd.prog.info? 51).map (fun i => (i.zero, i.size, i.bytes)) = some (some (.slice none 0 0), 1, 24) := by kernel_rfl
/-- The change that is built. -/
structure ChoC (b X : Nat) (vi vd vu : Value) (G : List (Value × List Val)) (D : List Int) (P : List GPair) (v : World) : Prop where
  box : Cell3 v X vi vd vu
  ins : v.ownsRow (X + 1) 51 1 vi G.length (G.map (·.1))
  num : v.ownsRow (X + 1) 3 1 vd D.length (icells D)
  upd : v.ownsRow (X + 1) 86 3 vu P.length (pcells P)
  inn : ∀ g ∈ G, NewAt (X + 1) v g.1 g.2 ∧ ValsSized g.2 ∧ g.2.length ≤ 10
  unn : ∀ p ∈ P, (NewAt (X + 1) v p.2.1.1 p.2.1.2 ∧ p.2.1.2.length ≤ 10) ∧ NewAt (X + 1) v p.2.2.1 p.2.2.2 ∧ ValsSized p.2.2.2 ∧ p.2.2.2.length ≤ 10
  hb : b < X
section
variable {b X : Nat} {u v w8 : World} {vi vd vu v8 : Value} {G : List (Value × List Val)} {D : List Int} {P : List GPair}
theorem ChoC.keep (h : ChoC b X vi vd vu G D P u) (hz : u.heap.size ≤ v.heap.size) (hk : ∀ k, X ≤ k → k < u.heap.size → v.heap[k]? = u.heap[k]?) : ChoC b X vi vd vu G D P v := by
  have hX : v.heap[X]? = u.heap[X]? := hk X (Nat.le_refl _) h.box.lt
  have ho : ∀ {e : TypeId} {s n : Nat} {x : Value} {xs : List Value}, u.ownsRow (X + 1) e s x n xs → v.ownsRow (X + 1) e s x n xs := fun ho =>
    owns_keep ho fun k hk' => hk k (by have := owns_block ho k hk'; omega) (owns_lt ho k hk')
  have hn : ∀ {x : Value} {l : List Val}, NewAt (X + 1) u x l → NewAt (X + 1) v x l := fun hn => hn.keep hz fun k h1 h2 => hk k (by omega) h2
  exact ⟨⟨Nat.lt_of_lt_of_le h.box.lt hz, by rw [World.cell?_of_block (w := u) hX]; exact h.box.c0, by rw [World.cell?_of_block (w := u) hX]; exact h.box.c1, by rw [World.cell?_of_block (w := u) hX]; exact h.box.c2, fun o => by rw [World.frozen?_of_block (w := u) hX]; exact h.box.fz o⟩,
    ho h.ins, ho h.num, ho h.upd, fun g hg => ⟨hn (h.inn g hg).1, (h.inn g hg).2⟩, fun p hp => ⟨⟨hn (h.unn p hp).1.1, (h.unn p hp).1.2⟩, hn (h.unn p hp).2.1, (h.unn p hp).2.2⟩, h.hb⟩
theorem ChoC.to (h : ChoC b X vi vd vu G D P u) (hb : Below u.heap.size u v) : ChoC b X vi vd vu G D P v := h.keep hb.size fun k _ h2 => hb.block k h2
theorem ChoC.next (h : ChoC b X vi vd vu G D P u) (hs : StepT b u v) : ChoC b X vi vd vu G D P v := h.keep hs.size fun k h1 h2 => hs.block k h2 (by have := h.hb; omega)
theorem chG {x y z : Value} {row : Option Nat} (h : Cell3 u X x y z) (hg : u.grownBy v row) (hr : ∀ k, row = some k → X < k) : Cell3 v X x y z := by
  have hb := hg.block X h.lt (fun e => by have := hr X e.symm; omega)
  exact ⟨Nat.lt_of_lt_of_le h.lt hg.size, by rw [World.cell?_of_block (w := u) hb]; exact h.c0, by rw [World.cell?_of_block (w := u) hb]; exact h.c1, by rw [World.cell?_of_block (w := u) hb]; exact h.c2, fun o => by rw [World.frozen?_of_block (w := u) hb]; exact h.fz o⟩
theorem chS0 {a b c : Value} (h : Cell3 u X a b c) (y : Value) : Cell3 (u.setCell ⟨X, 0, none⟩ y) X y b c := by
  obtain ⟨hl, c0, c1, c2, fz⟩ := h
  refine ⟨by simpa [World.setCell] using hl, ?_, ?_, ?_, fun o => ?_⟩
  · go_simp
  · go_simp
  · go_simp
  · rw [World.frozen?_setCell]; exact fz o
theorem chS1 {a b c : Value} (h : Cell3 u X a b c) (y : Value) : Cell3 (u.setCell ⟨X, 1, none⟩ y) X a y c := by
  obtain ⟨hl, c0, c1, c2, fz⟩ := h
  refine ⟨by simpa [World.setCell] using hl, ?_, ?_, ?_, fun o => ?_⟩
  · go_simp
  · go_simp
  · go_simp
  · rw [World.frozen?_setCell]; exact fz o
theorem chS2 {a b c : Value} (h : Cell3 u X a b c) (y : Value) : Cell3 (u.setCell ⟨X, 2, none⟩ y) X a b y := by
  obtain ⟨hl, c0, c1, c2, fz⟩ := h
  refine ⟨by simpa [World.setCell] using hl, ?_, ?_, ?_, fun o => ?_⟩
  · go_simp
  · go_simp
  · go_simp
  · rw [World.frozen?_setCell]; exact fz o
theorem chE {base base' n : Nat} {e e' : TypeId} {size size' n' : Nat} {x y : Value} {xs ys : List Value} (h : u.ownsRow base e size x n xs) (k : u.ownsRow base' e' size' y n' ys) (he : e ≠ e') (hg : u.grownBy v y.ownBlock) : v.ownsRow base e size x n xs :=
  owns_keep h fun j hj => hg.block j (owns_lt h j hj) (fun e0 => owns_apart h k he j hj e0.symm)
theorem chX {n size o : Nat} {e : TypeId} {x y : Value} {xs : List Value} (h : u.ownsRow (X + 1) e size x n xs) : (u.setCell ⟨X, o, none⟩ y).ownsRow (X + 1) e size x n xs := ownsRow_setCell_below h (a := ⟨X, o, none⟩) (Nat.lt_succ_self X) y
theorem chNew {o : Nat} {x y : Value} {l : List Val} (h : NewAt (X + 1) u x l) : NewAt (X + 1) (u.setCell ⟨X, o, none⟩ y) x l :=
  h.keep (by rw [set_size]; exact Nat.le_refl _) fun k h1 _ => Below.heap_setCell _ _ _ _ (by show k ≠ X; omega)
theorem ChoC.pushI {o : Obj} {g : Value × List Val} (h : ChoC b X vi vd vu G D P u) (hz : NewAt (X + 1) u g.1 g.2 ∧ ValsSized g.2 ∧ g.2.length ≤ 10) (ho : w8.ownsRow (X + 1) 51 1 v8 (G ++ [g]).length ((G ++ [g]).map (·.1))) (hg : (u.alloc o).grownBy w8 vi.ownBlock) :
    Cell3 w8 X vi vd vu ∧ ChoC b X v8 vd vu (G ++ [g]) D P (w8.setCell ⟨X, 0, none⟩ v8) := by
  have h7 := h.to (below_alloc u o)
  have hk : ∀ k, vi.ownBlock = some k → X + 1 ≤ k := fun k hk => owns_block h.ins k hk
  have hc := chG h7.box hg (fun k hk' => by have := hk k hk'; omega)
  have hn : ∀ {x : Value} {l : List Val}, NewAt (X + 1) (u.alloc o) x l → NewAt (X + 1) (w8.setCell ⟨X, 0, none⟩ v8) x l := fun hn => chNew (hn.keepG h7.ins (by decide) hg)
  refine ⟨hc, chS0 hc v8, chX ho, chX (chE h7.num h7.ins (by decide) hg), chX (chE h7.upd h7.ins (by decide) hg), fun q hq => ?_, fun p hp => ⟨⟨hn (h7.unn p hp).1.1, (h7.unn p hp).1.2⟩, hn (h7.unn p hp).2.1, (h7.unn p hp).2.2⟩, h.hb⟩
  rcases List.mem_append.1 hq with hq | hq
  · exact ⟨hn (h7.inn q hq).1, (h7.inn q hq).2⟩
  · obtain rfl := List.mem_singleton.1 hq
    exact ⟨hn (hz.1.keep (below_alloc u o).size fun k _ h2 => (below_alloc u o).block k h2), hz.2⟩
theorem ChoC.pushD {o : Obj} {z : Int} (h : ChoC b X vi vd vu G D P u) (ho : w8.ownsRow (X + 1) 3 1 v8 (D ++ [z]).length (icells (D ++ [z]))) (hg : (u.alloc o).grownBy w8 vd.ownBlock) :
    Cell3 w8 X vi vd vu ∧ ChoC b X vi v8 vu G (D ++ [z]) P (w8.setCell ⟨X, 1, none⟩ v8) := by
  have h7 := h.to (below_alloc u o)
  have hk : ∀ k, vd.ownBlock = some k → X + 1 ≤ k := fun k hk => owns_block h.num k hk
  have hc := chG h7.box hg (fun k hk' => by have := hk k hk'; omega)
  have hn : ∀ {x : Value} {l : List Val}, NewAt (X + 1) (u.alloc o) x l → NewAt (X + 1) (w8.setCell ⟨X, 1, none⟩ v8) x l := fun hn => chNew (hn.keepG h7.num (by decide) hg)
  exact ⟨hc, chS1 hc v8, chX (chE h7.ins h7.num (by decide) hg), chX ho, chX (chE h7.upd h7.num (by decide) hg), fun q hq => ⟨hn (h7.inn q hq).1, (h7.inn q hq).2⟩, fun p hp => ⟨⟨hn (h7.unn p hp).1.1, (h7.unn p hp).1.2⟩, hn (h7.unn p hp).2.1, (h7.unn p hp).2.2⟩, h.hb⟩
theorem ChoC.pushU {o : Obj} {p : GPair} (h : ChoC b X vi vd vu G D P u) (hz : (NewAt (X + 1) u p.2.1.1 p.2.1.2 ∧ p.2.1.2.length ≤ 10) ∧ NewAt (X + 1) u p.2.2.1 p.2.2.2 ∧ ValsSized p.2.2.2 ∧ p.2.2.2.length ≤ 10) (ho : w8.ownsRow (X + 1) 86 3 v8 (P ++ [p]).length (pcells (P ++ [p]))) (hg : (u.alloc o).grownBy w8 vu.ownBlock) :
    Cell3 w8 X vi vd vu ∧ ChoC b X vi vd v8 G D (P ++ [p]) (w8.setCell ⟨X, 2, none⟩ v8) := by
  have h7 := h.to (below_alloc u o)
  have hk : ∀ k, vu.ownBlock = some k → X + 1 ≤ k := fun k hk => owns_block h.upd k hk
  have hc := chG h7.box hg (fun k hk' => by have := hk k hk'; omega)
  have hn : ∀ {x : Value} {l : List Val}, NewAt (X + 1) (u.alloc o) x l → NewAt (X + 1) (w8.setCell ⟨X, 2, none⟩ v8) x l := fun hn => chNew (hn.keepG h7.upd (by decide) hg)
  have ha : ∀ {x : Value} {l : List Val}, NewAt (X + 1) u x l → NewAt (X + 1) (u.alloc o) x l := fun hn => hn.keep (below_alloc u o).size fun k _ h2 => (below_alloc u o).block k h2
  refine ⟨hc, chS2 hc v8, chX (chE h7.ins h7.upd (by decide) hg), chX (chE h7.num h7.upd (by decide) hg), chX ho, fun q hq => ⟨hn (h7.inn q hq).1, (h7.inn q hq).2⟩, fun q hq => ?_, h.hb⟩
  rcases List.mem_append.1 hq with hq | hq
  · exact ⟨⟨hn (h7.unn q hq).1.1, (h7.unn q hq).1.2⟩, hn (h7.unn q hq).2.1, (h7.unn q hq).2.2⟩
  · obtain rfl := List.mem_singleton.1 hq
    exact ⟨⟨hn (ha hz.1.1), hz.1.2⟩, hn (ha hz.2.1), hz.2.2⟩
theorem own_cell {base n : Nat} {e : TypeId} {p : Option Addr} {s m cap : Nat} {xs : List Value} (h : u.ownsRow base e s (.slice p m cap) n xs) {i : Nat} {x : Value} (hi : xs[i]? = some x) : ∃ c, p = some ⟨c, 0, none⟩ ∧ c < u.heap.size ∧ u.cell? ⟨c, 0 + i, none⟩ = some x := by
  rcases h.2 with ⟨hv, h0⟩ | ⟨g, cap', cur, hv, hg, hh, hcap, hm, hcur, htake⟩
  · have hl := h.1
    rw [h0, Nat.zero_mul] at hl
    have : xs = [] := List.eq_nil_of_length_eq_zero hl
    subst this
    simp at hi
  · injection hv with hv1 hv2 hv3
    subst hv1
    refine ⟨g, rfl, (Array.getElem?_eq_some_iff.1 hh).1, ?_⟩
    rw [Nat.zero_add]
    simp only [World.cell?, hh]
    rw [if_neg (by simp)]
    have : cur.toList[i]? = some x := by
      rw [← htake, List.getElem?_take] at hi
      split at hi
      · exact hi
      · cases hi
    simpa using this
theorem own_len {base n : Nat} {e : TypeId} {p : Option Addr} {s m cap : Nat} {xs : List Value} (h : u.ownsRow base e s (.slice p m cap) n xs) : m = n ∧ n ≤ cap := by
  rcases h.2 with ⟨hv, h0⟩ | ⟨g, cap', cur, hv, hg, hh, hcap, -⟩
  · injection hv with h1 h2 h3
    omega
  · injection hv with h1 h2 h3
    omega
theorem NewAt.row {lo : Nat} {x : Value} {l : List Val} (h : NewAt lo u x l) : ∃ (q : Option Addr) (c : Nat), x = .slice q l.length c ∧ RowAt u q l ∧ (q = none → l = [] ∧ c = 0) := by
  obtain ⟨g, c, cur, hx, -, -, hr, -⟩ := h
  exact ⟨some ⟨g, 0, none⟩, c, hx, hr, fun e => by cases e⟩
/-- The change, as Apply wants it. -/
theorem ChoC.chg {pi pd pu : Option Addr} {ci cd cu mi md mu : Nat} (h : ChoC b X (.slice pi mi ci) (.slice pd md cd) (.slice pu mu cu) G D P u) (hG : G.length ≤ 1000) (hD : D.length ≤ 1000) (hP : P.length ≤ 1000) :
    ChgAt u ⟨pi, ci, G.map (·.2), pd, cd, D, pu, cu, P.map fun p => (p.1, p.2.1.2, p.2.2.2)⟩ := by
  have h1 := own_len h.ins
  have h2 := own_len h.num
  have h3 := own_len h.upd
  refine ⟨fun i hi => ?_, fun i hi => ?_, fun i hi => ?_, by dsimp only; rw [List.length_map]; omega, by dsimp only; omega, by dsimp only; rw [List.length_map]; omega, fun l hl => ?_, fun p hp => ?_, by dsimp only; omega, by dsimp only; rw [List.length_map]; omega⟩
  · dsimp only at hi ⊢
    have hi' : i < G.length := by rw [List.length_map] at hi; exact hi
    obtain ⟨hn, -, hl⟩ := h.inn _ (List.getElem_mem hi')
    obtain ⟨q, c2, hx, hr, hq⟩ := hn.row
    obtain ⟨c, hp, hc, hcell⟩ := own_cell h.ins (i := i) (x := G[i].1) (by simp [hi'])
    have e : rAt (G.map (·.2)) i = G[i].2 := by rw [rAt_get hi, List.getElem_map]
    rw [e]
    exact ⟨c, 0, q, c2, hp, hc, by rw [← hx]; exact hcell, hr, by omega, hq⟩
  · dsimp only at hi ⊢
    obtain ⟨c, hp, hc, hcell⟩ := own_cell h.num (i := i) (x := .int .i64 (iAt D i)) (by unfold icells; rw [List.getElem?_map, List.getElem?_eq_getElem hi, iAt_get hi]; rfl)
    exact ⟨c, 0, hp, hc, hcell⟩
  · dsimp only at hi ⊢
    have hi' : i < P.length := by rw [List.length_map] at hi; exact hi
    obtain ⟨⟨hn1, hl1⟩, hn2, -, hl2⟩ := h.unn _ (List.getElem_mem hi')
    obtain ⟨q, c2, hx, hr, hq⟩ := hn1.row
    obtain ⟨q', c2', hx', hr', hq'⟩ := hn2.row
    obtain ⟨e0, e1, e2⟩ := pcells_at P i hi'
    obtain ⟨c, hp, hc, k0⟩ := own_cell h.upd e0
    obtain ⟨c', hp', -, k1⟩ := own_cell h.upd e1
    rw [hp] at hp'
    cases hp'
    obtain ⟨c', hp', -, k2⟩ := own_cell h.upd e2
    rw [hp] at hp'
    cases hp'
    have e : pAt (P.map fun p => (p.1, p.2.1.2, p.2.2.2)) i = (P[i].1, P[i].2.1.2, P[i].2.2.2) := by rw [pAt_get hi, List.getElem_map]
    rw [e]
    exact ⟨c, 0, q, c2, q', c2', hp, hc, k0, by rw [← hx]; exact k1, by rw [← hx']; exact k2, hr, hr', by dsimp only; omega, by dsimp only; omega, hq, hq'⟩
  · obtain ⟨g, hg, rfl⟩ := List.mem_map.1 hl
    exact (h.inn g hg).2.1
  · obtain ⟨g, hg, rfl⟩ := List.mem_map.1 hp
    exact (h.unn g hg).2.2.1
end
end Go.Proofs.YtlelgkgdppkedaaDoor
