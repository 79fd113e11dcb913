/-
  Several texts in one.
-/
import Derived.Test.YtgaihglploedaaaDoorPk04
import Derived.Test.YtgaihglploedaaaDoorPk21
import Derived.Deep.RegionHeld3
import Derived.Test.YtgaihglploedaaaDoorPk19
import Derived.Test.YtgaihglploedaaaDoorPk18
import Derived.Test.YtgaihglploedaaaDoorPk17
/-
  The capacity of a slice of the call's own.
-/
namespace Go.Proofs.YtgaihglploedaaaDoor
set_option maxRecDepth 100000
open Go.RowKit

theorem owns_cap {u : World} {base n : Nat} {e : TypeId} {p : Option Addr} {s m cap : Nat} {xs : List Value} (h : u.ownsRow base e s (.slice p m cap) n xs) : m = n ∧ n ≤ cap := by
  rcases h.2 with ⟨hv, h0⟩ | ⟨g, cap', cur, hv, hg, hh, hcap, -⟩
  · injection hv with h1 h2 h3
    omega
  · injection hv with h1 h2 h3
    omega
end Go.Proofs.YtgaihglploedaaaDoor
/-
  Package clone: copies of schemas, of lists of rows and of tables.
-/
namespace Go.Proofs.YtgaihglploedaaaDoor
set_option maxRecDepth 100000
open Go.RowKit
variable {ls : List Nat}

theorem own_ex {u : World} {base : Nat} {vr : Value} {e : TypeId} {s n : Nat} {xs : List Value} (h : u.ownsRow base e s vr n xs) : ∃ p c, vr = .slice p n c := by
  rcases h.2 with ⟨rfl, rfl⟩ | ⟨g, cap, cur, rfl, -⟩
  · exact ⟨none, 0, rfl⟩
  · exact ⟨_, cap, rfl⟩
theorem cell2_st1 {u : World} {X : Nat} {a b : Value} (h : Cell2 u X a b) (y : Value) : Cell2 (u.setCell ⟨X, 1, none⟩ y) X a y := by
  obtain ⟨hl, c0, c1, fz⟩ := h
  refine ⟨by simpa [World.setCell] using hl, ?_, ?_, fun o => ?_⟩
  · go_simp
  · go_simp
  · rw [World.frozen?_setCell]; exact fz o
theorem cell2_far {u : World} {X Y o : Nat} {a b : Value} (h : Cell2 u X a b) (hn : X ≠ Y) (y : Value) : Cell2 (u.setCell ⟨Y, o, none⟩ y) X a b := by
  have hb : (u.setCell ⟨Y, o, none⟩ y).heap[X]? = u.heap[X]? := Below.heap_setCell _ _ _ _ (by exact hn)
  exact ⟨by simpa [World.setCell] using h.lt, by rw [World.cell?_of_block (w := u) hb]; exact h.c0, by rw [World.cell?_of_block (w := u) hb]; exact h.c1, fun o => by rw [World.frozen?_of_block (w := u) hb]; exact h.fz o⟩
/-- Columns of the call's own. -/
def COwn (u : World) (lo : Nat) (p : Option Addr) (n c : Nat) (f : Nat → Col) : Prop := ∃ l : List Col, u.ownsRow lo 75 4 (.slice p n c) n (ccells l) ∧ Sized l ∧ ∀ i, i < n → cAt l i = f i
theorem COwn.keep {u v : World} {lo : Nat} {p : Option Addr} {n c : Nat} {f : Nat → Col} (h : COwn u lo p n c f) (hk : ∀ k, lo ≤ k → k < u.heap.size → v.heap[k]? = u.heap[k]?) : COwn v lo p n c f := by
  obtain ⟨l, h1, h2, h3⟩ := h
  exact ⟨l, owns_keep h1 fun k hk' => hk k (owns_block h1 k hk') (owns_lt h1 k hk'), h2, h3⟩
theorem COwn.low {u v : World} {lo : Nat} {p : Option Addr} {n c : Nat} {f : Nat → Col} (h : COwn u lo p n c f) (hb : Below u.heap.size u v) : COwn v lo p n c f := h.keep fun k _ h2 => hb.block k h2
theorem COwn.base {u : World} {lo lo' : Nat} {p : Option Addr} {n c : Nat} {f : Nat → Col} (h : COwn u lo p n c f) (hl : lo' ≤ lo) : COwn u lo' p n c f := by
  obtain ⟨l, h1, h2, h3⟩ := h
  exact ⟨l, owns_base h1 hl, h2, h3⟩
theorem COwn.set {u : World} {lo b o : Nat} {p : Option Addr} {n c : Nat} {f : Nat → Col} (h : COwn u lo p n c f) (hb : b < lo) (y : Value) : COwn (u.setCell ⟨b, o, none⟩ y) lo p n c f := h.keep fun k h1 _ => Below.heap_setCell _ _ _ _ (by show k ≠ b; omega)
theorem COwn.cols {u : World} {lo : Nat} {p : Option Addr} {n c : Nat} {f : Nat → Col} (h : COwn u lo p n c f) : ColsAt u p n f := by
  obtain ⟨l, h1, h2, h3⟩ := h
  obtain ⟨p', c', he, hn, hc, -⟩ := cols_of_owns h1 h2
  injection he with e1 e2 e3
  subst e1
  exact hc.congr fun i hi => (h3 i hi).symm
theorem COwn.zero (u : World) (lo : Nat) (f : Nat → Col) : COwn u lo none 0 0 f := ⟨[], ⟨rfl, Or.inl ⟨rfl, rfl⟩⟩, fun i hi => absurd hi (Nat.not_lt_zero i), fun i hi => absurd hi (Nat.not_lt_zero i)⟩
/-- A table of the call's own, whose rows can be appended to. -/
structure TabOwn (lo : Nat) (u : World) (S : Tab) : Prop where
  own : ∃ G, TOwn u lo (.slice S.pr S.R.length S.cr) G ∧ tabR G = S.R
  col : COwn u lo S.pc S.n S.cc S.f
  name : S.nm.size ≤ 9223372036854775807
  n : S.n ≤ 9223372036854775807
  len : S.R.length ≤ 1000
  sized : ∀ r ∈ S.R, ValsSized r.2
  nxr : S.nx ≤ 9223372036854775807
theorem TabOwn.at {lo : Nat} {u : World} {S : Tab} (h : TabOwn lo u S) : TabAt u S := by
  obtain ⟨G, h1, h2⟩ := h.own
  have hr := h1.rows
  rw [h2] at hr
  exact ⟨h.name, h.n, h.col.cols, hr, h.len, h.sized, h.nxr⟩
theorem TabOwn.low {lo : Nat} {u v : World} {S : Tab} (h : TabOwn lo u S) (hb : Below u.heap.size u v) : TabOwn lo v S := by
  obtain ⟨G, h1, h2⟩ := h.own
  exact ⟨⟨G, h1.low hb, h2⟩, h.col.low hb, h.name, h.n, h.len, h.sized, h.nxr⟩
theorem TabOwn.keep {lo : Nat} {u v : World} {S : Tab} (h : TabOwn lo u S) (hk : ∀ k, lo ≤ k → k < u.heap.size → v.heap[k]? = u.heap[k]?) : TabOwn lo v S := by
  obtain ⟨G, h1, h2⟩ := h.own
  exact ⟨⟨G, h1.keep hk, h2⟩, h.col.keep hk, h.name, h.n, h.len, h.sized, h.nxr⟩
theorem TabOwn.set {lo b o : Nat} {u : World} {S : Tab} (h : TabOwn lo u S) (hb : b < lo) (y : Value) : TabOwn lo (u.setCell ⟨b, o, none⟩ y) S := h.keep fun k h1 _ => Below.heap_setCell _ _ _ _ (by show k ≠ b; omega)
theorem TabOwn.mono {lo lo' : Nat} {u : World} {S : Tab} (h : TabOwn lo u S) (hl : lo' ≤ lo) : TabOwn lo' u S := by
  obtain ⟨G, h1, h2⟩ := h.own
  exact ⟨⟨G, h1.base hl, h2⟩, h.col.base hl, h.name, h.n, h.len, h.sized, h.nxr⟩
theorem TabOwn.free {lo : Nat} {u : World} {S : Tab} (h : TabOwn lo u S) : TabFree lo u S := fun _ _ hk => (h.keep hk).at
/-- What a copy of a schema gives. -/
def CloneSPost (nm : ByteArray) (n : Nat) (f : Nat → Col) (w : World) (e : Ending) (w' : World) : Prop := ∃ (p2 : Option Addr) (c2 : Nat), e = .returned (.agg #[.string nm, .slice p2 n c2]) ∧ COwn w' w.heap.size p2 n c2 f ∧ Below w.heap.size w w'
set_option maxHeartbeats 2000000 in
theorem clonesch_any (nm : ByteArray) (p : Option Addr) (n cc : Nat) (f : Nat → Col) (w : World) (hn1 : 0 < n) (hn6 : n ≤ 1000) (hC : ColsAt w p n f) :
    Calls Tryd.prog 78 #[.agg #[.string nm, .slice p n cc]] w (CloneSPost nm n f w) := by
  unfold CloneSPost
  obtain ⟨c, o, rfl, -⟩ := hC.ptr hn1
  obtain ⟨l, hl, hlf⟩ := cols_list n f
  have hb0 : Below w.heap.size w ((w.alloc (.cells #[.string nm, .slice (some ⟨c, o, none⟩) n cc] 24)).alloc (.cells #[.string ⟨#[]⟩, .slice none 0 0] 24)) := below_new (below_new (Below.refl _ _) _) _
  have hcols : ColsAt w (some ⟨c, o, none⟩) l.length (cAt l) := by rw [hl]; exact hC.congr hlf
  have hsz : Sized l := fun i hi => by
    obtain ⟨-, -, -, -, hs, -⟩ := hcols i hi
    exact hs
  have HCL := Lib.hid (hcols.low hb0)
  have HSZ := Lib.hid hsz
  have HLF : Hid (∀ i, i < n → f i = cAt l i) := Lib.hid fun i hi => (hlf i hi).symm
  have HX := Lib.hid ((cell2_new w (.string nm) (.slice (some ⟨c, o, none⟩) n cc) 24).low (below_alloc _ (.cells #[.string ⟨#[]⟩, .slice none 0 0] 24)))
  have hy := cell2_new (w.alloc (.cells #[.string nm, .slice (some ⟨c, o, none⟩) n cc] 24)) (.string ⟨#[]⟩) (.slice none 0 0) 24
  rw [size_alloc] at hy
  have HY := Lib.hid hy
  have HB0 := Lib.hid hb0
  have hown0 : ∀ W : World, W.ownsRow W.heap.size 75 4 (.slice none 0 0) 0 (ccells []) := fun W => ⟨rfl, Or.inl ⟨rfl, rfl⟩⟩
  have HO := Lib.hid hown0
  clear hC hb0 hown0 hcols hsz hlf hy
  go_enter Tryd.func78, Tryd.ntmps78
  go_upto_region 1 with (fail)
  generalize World.alloc _ _ = W0 at HCL HX HY HB0 ⊢
  obtain ⟨hxl, x0, x1, xf⟩ := HX.out
  have hyl := HY.out.lt
  go_upto_region 2 with (at_builtin; refine wpList_append_cols rfl _ (.tmp 4) rfl W0.heap.size _ 0 [] rfl (HO.out _) ⟨c, o, none⟩ l cc n rfl hl HCL.out (by omega) (Nat.le_refl _) ?_; intro v2 w2 hown2 hgr2; (have hb2 := grown_below (Below.refl W0.heap.size W0) (Nat.le_refl _) hgr2 (fun k hk => by cases hk)); rw [Nat.zero_add, List.nil_append] at hown2; obtain ⟨p2, c2, hv2⟩ := own_ex hown2; subst hv2; (have HC2 : Hid (COwn w2 (w.heap.size + 2) p2 n c2 f) := Lib.hid ⟨l, owns_base (by rw [hl] at hown2; exact hown2) (by omega), HSZ.out, fun i hi => (HLF.out i hi).symm⟩); (have HX2 := Lib.hid (HX.out.low hb2)); (have HY2 := Lib.hid (HY.out.low hb2)); (have HB2 := Lib.hid (below_next HB0.out hb2)); clear hown2 hgr2 hb2 hxl x0 x1 xf; obtain ⟨hxl, x0, x1, xf⟩ := HX2.out)
  have HX3 := Lib.hid (cell2_st1 HX2.out (.slice p2 n c2))
  have HY3 : Hid (Cell2 (w2.setCell ⟨w.heap.size, 1, none⟩ (.slice p2 n c2)) (w.heap.size + 1) (.string ⟨#[]⟩) (.slice none 0 0)) := Lib.hid (cell2_far HY2.out (by omega) _)
  have HC3 := Lib.hid (HC2.out.set (b := w.heap.size) (o := 1) (by omega) (.slice p2 n c2))
  have HB3 : Hid (Below w.heap.size w (w2.setCell ⟨w.heap.size, 1, none⟩ (.slice p2 n c2))) := Lib.hid (HB2.out.setCell (by exact Nat.le_refl _) _)
  clear HX2 HY2 HC2 HB2 hxl x0 x1 xf hyl
  generalize World.setCell _ _ _ = W3 at HX3 HY3 HC3 HB3 ⊢
  obtain ⟨hxl, x0, x1, xf⟩ := HX3.out
  obtain ⟨hyl, y0, y1, yf⟩ := HY3.out
  have HS := Lib.hid (cell2_put W3 HY3.out (.string nm) (.slice p2 n c2))
  go_wp2
  obtain ⟨-, s0, s1, -⟩ := HS.out
  exact bodyPost_ret (v := .agg #[.string nm, .slice p2 n c2]) (by simp [results, Tryd.results78, go_sem, s0, s1]) rfl
    ⟨p2, c2, rfl, ((HC3.out.set (b := w.heap.size + 1) (o := 0) (by omega) (.string nm)).set (b := w.heap.size + 1) (o := 1) (by omega) (.slice p2 n c2)).base (by omega), (HB3.out.setCell (by exact Nat.le_succ _) _).setCell (by exact Nat.le_succ _) _⟩
/-- What a copy of rows gives. -/
def CloneRPost (R : List TRow) (w : World) (e : Ending) (w' : World) : Prop := ∃ (p : Option Addr) (c : Nat) (G : List GRow), e = .returned (.slice p R.length c) ∧ TOwn w' w.heap.size (.slice p R.length c) G ∧ tabR G = R ∧ Below w.heap.size w w'
set_option maxHeartbeats 2000000 in
theorem clonerows_any (R : List TRow) (q : Option Addr) (cq : Nat) (w : World) (hR : TRowsAt w q R) (hl : R.length ≤ 10000) :
    Calls Tryd.prog 128 #[.slice q R.length cq] w (CloneRPost R w) := by
  have HR := Lib.hid hR
  clear hR
  go_enter Tryd.func128, Tryd.ntmps128
  go_wp2_with fail
  go_loopw [3, 8] (fun s3 s8 wx => ∃ (k : Nat) (G : List GRow), k ≤ R.length ∧ s8 = .int .i64 k ∧ G.length = k ∧ tabR G = R.take k ∧ TOwn wx w.heap.size s3 G ∧ Below w.heap.size w wx) (fun _ s8 _ => R.length - (intOf s8).toNat)
  case atStart => exact ⟨0, [], Nat.zero_le _, rfl, rfl, rfl, TOwn.nil _ _, Below.refl _ _⟩
  case round =>
    rename_i s3
    obtain ⟨k, G, hk, rfl, hGl, hG, hown, hb⟩ := hrel
    obtain ⟨p3, c3, e3⟩ := hown.ex
    subst e3
    have HG := Lib.hid hG
    have HGL := Lib.hid hGl
    have HOW := Lib.hid hown
    have HB := Lib.hid hb
    clear hG hGl hown hb
    by_cases hlt : k < R.length
    · have hkd : decide ((k : Int) < R.length) = true := decide_eq_true (by omega)
      obtain ⟨c, o, qb, cb, hp, hc, h0, h1, hr, hs, hn⟩ := HR.out k hlt
      obtain ⟨⟨id, l⟩, hrk⟩ : ∃ x, tAt R k = x := ⟨_, rfl⟩
      rw [hrk] at h0 h1 hr hs hn
      dsimp only at h0 h1 hr hs hn
      subst hp
      rw [← HB.out.cell (by exact hc)] at h0 h1
      have hbn := below_alloc wr (.cells #[.int .i64 id, .slice qb l.length cb] 68)
      have HO1 := Lib.hid (HOW.out.low hbn)
      have HB1 := Lib.hid (below_next HB.out hbn)
      have HY1 := Lib.hid (cell2_new wr (.int .i64 id) (.slice qb l.length cb) 68)
      have HRV := Lib.hid (hr.low HB1.out)
      have HN := Lib.hid hn
      have HRK := Lib.hid hrk
      clear HOW HB hbn hr hn hrk
      go_upto_region 5 with (fail)
      clear h0 h1
      generalize World.alloc _ _ = W2 at HO1 HB1 HY1 HRV ⊢
      generalize wr.heap.size = Y at HY1 ⊢
      obtain ⟨yl, y0, y1, -⟩ := HY1.out
      go_wp2_with fail
      refine (dcopyrow_any id l qb cb _ HRV.out hs HN.out).mono ?_
      rintro e w5 ⟨v5, rfl, hin5, hb5⟩
      obtain ⟨p5, c5, hv5⟩ := InRow.ex hin5
      subst hv5
      have HIN : Hid (InRow w5 w.heap.size (.slice p5 l.length c5, l)) := Lib.hid (InRow.base hin5 HB1.out.size)
      have HO5 := Lib.hid (HO1.out.low hb5)
      have HB5 := Lib.hid (below_next HB1.out hb5)
      have hb6 := below_alloc w5 (.cells #[.int .i64 id, .slice p5 l.length c5] 68)
      have HO6 := Lib.hid (HO5.out.low hb6)
      have HB6 := Lib.hid (below_next HB5.out hb6)
      have HN6 := Lib.hid (row2_new w5 (.int .i64 id) (.slice p5 l.length c5) 68)
      have HLO := Lib.hid HB6.out.size
      have hGs : (G.length + 1) * 32 ≤ 140737488355328 := by have := HGL.out; omega
      clear hin5 hb5 hb6 HO1 HB1 HY1 HRV yl y0 y1
      go_wp2_with (at_builtin; refine wpList_append_trow rfl (.tmp 12) (.tmp 15) rfl w.heap.size (.slice p3 G.length c3) G (by rfl) HO6.out.own w5.heap.size id (.slice p5 l.length c5) l (by rfl) HN6.out.1 HN6.out.2 rfl hGs HLO.out ?_; intro v8 w8 hown8 hg8; (have HO8 := Lib.hid (HO5.out.push (g := (id, .slice p5 l.length c5, l)) HIN.out hown8 hg8)); (have HB8 := Lib.hid (grown_below HB6.out HLO.out hg8 (fun j hj => owns_block HO6.out.own j hj))); clear hown8 hg8)
      go_roundw
      case rel => exact ⟨k + 1, G ++ [(id, .slice p5 l.length c5, l)], by omega, by go_num, by rw [List.length_append, HGL.out]; rfl, by rw [tabR_append, HG.out, take_trow hlt, HRK.out]; rfl, HO8.out, HB8.out⟩
      case measure => simp [intOf]; omega
    · obtain rfl : k = R.length := by omega
      have hkd : decide (((R.length : Nat) : Int) < R.length) = false := decide_eq_false (by omega)
      have HGR : Hid (tabR G = R) := Lib.hid (by rw [HG.out, List.take_length])
      have hgl := HGL.out
      have ho := HOW.out
      rw [hgl] at ho ⊢
      have HOR := Lib.hid ho
      clear ho HOW hgl
      go_wp2
      exact bodyPost_ret (v := .slice p3 R.length c3) (by simp [results, Tryd.results128, go_sem]) rfl ⟨p3, c3, G, rfl, HOR.out, HGR.out, HB.out⟩
/-- What a copy of a table gives. -/
def CloneTPost (nm : ByteArray) (n : Nat) (f : Nat → Col) (nx : Int) (R : List TRow) (w : World) (e : Ending) (w' : World) : Prop :=
  ∃ (p2 : Option Addr) (c2 : Nat) (pr : Option Addr) (cr : Nat), e = .returned (.agg #[.string nm, .slice p2 n c2, .int .i64 nx, .slice pr R.length cr]) ∧ TabOwn w.heap.size w' ⟨nm, p2, n, c2, f, nx, pr, cr, R⟩ ∧ Below w.heap.size w w'
set_option maxHeartbeats 4000000 in
theorem clonetab_any (nm : ByteArray) (p : Option Addr) (n cc : Nat) (f : Nat → Col) (nx : Int) (pr : Option Addr) (cr : Nat) (R : List TRow) (w : World) (hT : TabAt w ⟨nm, p, n, cc, f, nx, pr, cr, R⟩) (hn1 : 0 < n) (hn6 : n ≤ 1000) :
    Calls Tryd.prog 114 #[.agg #[.string nm, .slice p n cc, .int .i64 nx, .slice pr R.length cr]] w (CloneTPost nm n f nx R w) := by
  have hb0 : Below w.heap.size w ((w.alloc (.cells #[.string nm, .slice p n cc, .int .i64 nx, .slice pr R.length cr] 51)).alloc (.cells #[.string ⟨#[]⟩, .slice none 0 0, .int .i64 0, .slice none 0 0] 51)) := below_new (below_new (Below.refl _ _) _) _
  have HX := Lib.hid ((cell4_new w (.string nm) (.slice p n cc) (.int .i64 nx) (.slice pr R.length cr) 51).low (below_alloc _ (.cells #[.string ⟨#[]⟩, .slice none 0 0, .int .i64 0, .slice none 0 0] 51)))
  have HY := Lib.hid ((cell4_new (w.alloc (.cells #[.string nm, .slice p n cc, .int .i64 nx, .slice pr R.length cr] 51)) (.string ⟨#[]⟩) (.slice none 0 0) (.int .i64 0) (.slice none 0 0) 51).at (size_alloc _ _))
  have HT := Lib.hid (hT.low hb0)
  have HB0 := Lib.hid hb0
  have hR10 : R.length ≤ 10000 := by have := hT.len; dsimp only at this; omega
  clear hT hb0
  go_enter Tryd.func114, Tryd.ntmps114
  go_upto_region 1 with (fail)
  generalize World.alloc _ _ = W1 at HX HY HT HB0 ⊢
  obtain ⟨xl, x0, x1, x2, x3, -⟩ := HX.out
  have HTD := Lib.hid (HT.out.low (Below.refl W1.heap.size W1).drew)
  have HXD := Lib.hid (HX.out.low (Below.refl W1.heap.size W1).drew)
  have HYD := Lib.hid (HY.out.low (Below.refl W1.heap.size W1).drew)
  have HBD := Lib.hid (below_next HB0.out (Below.refl W1.heap.size W1).drew)
  go_region_law (first
    | (go_simp; go_at_call 78; refine (clonesch_any nm p n cc f _ hn1 hn6 HTD.out.cols).mono ?_; rintro e w3 ⟨p2, c2, rfl, hcl, hb3⟩; (have HCL := Lib.hid hcl); (have HB3 := Lib.hid hb3); obtain ⟨zl, z0, z1, z2, z3, -⟩ := HXD.out.low hb3; clear hcl hb3)
    | (go_simp; go_at_call 128; refine (clonerows_any R pr cr _ (HTD.out.low HB3.out).rows hR10).mono ?_; rintro e w5 ⟨p5, c5, G, rfl, ho5, hG5, hb5⟩; (have HO5 := Lib.hid ho5); (have HG5 := Lib.hid hG5); (have HB5 := Lib.hid hb5); obtain ⟨yl, y0, y1, y2, y3, yf⟩ := (HYD.out.low HB3.out).low hb5; obtain ⟨ul, u0, u1, u2, u3, -⟩ := (HXD.out.low HB3.out).low hb5; clear ho5 hG5 hb5))
  all_goals
    go_wp2
    have hz0 : w.heap.size + 1 < W1.heap.size := HY.out.lt
    have hz1 : W1.heap.size ≤ w3.heap.size := HB3.out.size
    have HS := cell4_put w5 ((HYD.out.low HB3.out).low HB5.out) (.string nm) (.slice p2 n c2) (.int .i64 nx) (.slice p5 R.length c5)
    obtain ⟨-, s0, s1, s2, s3, -⟩ := HS
    have hm : TabOwn (w.heap.size + 2) w5 ⟨nm, p2, n, c2, f, nx, p5, c5, R⟩ := ⟨⟨G, HO5.out.base (by omega), HG5.out⟩, (HCL.out.low HB5.out).base (by show w.heap.size + 2 ≤ W1.heap.size; omega), HT.out.name, HT.out.n, HT.out.len, HT.out.sized, HT.out.nxr⟩
    exact bodyPost_ret (v := .agg #[.string nm, .slice p2 n c2, .int .i64 nx, .slice p5 R.length c5]) (by simp [results, Tryd.results114, go_sem, s0, s1, s2, s3]) rfl
      ⟨p2, c2, p5, c5, rfl, ((((hm.set (b := w.heap.size + 1) (o := 0) (by omega) (.string nm)).set (b := w.heap.size + 1) (o := 1) (by omega) (.slice p2 n c2)).set (b := w.heap.size + 1) (o := 2) (by omega) (.int .i64 nx)).set (b := w.heap.size + 1) (o := 3) (by omega) (.slice p5 R.length c5)).mono (by omega),
        (((((below_next (below_next HBD.out HB3.out) HB5.out).setCell (by exact Nat.le_succ _) _).setCell (by exact Nat.le_succ _) _).setCell (by exact Nat.le_succ _) _).setCell (by exact Nat.le_succ _) _)⟩
end Go.Proofs.YtgaihglploedaaaDoor
/-
  Package table: New.
-/
namespace Go.Proofs.YtgaihglploedaaaDoor
set_option maxRecDepth 100000
open Go.RowKit
variable {ls : List Nat}

set_option maxHeartbeats 1000000 in
theorem tnew_any (nm : ByteArray) (p : Option Addr) (n cap : Nat) (f : Nat → Col) (w : World) (hnm : nm.size ≤ 9223372036854775807) (hn : n ≤ 9223372036854775807) (hC : ColsAt w p n f) :
    Calls Tryd.prog 40 #[schV nm p n cap] w (TNewPost nm n f w) := by
  unfold schV TNewPost
  have hb0 : Below w.heap.size w ((w.alloc (.cells #[.string nm, .slice p n cap] 24)).alloc (.cells #[.string ⟨#[]⟩, .slice none 0 0, .int .i64 0, .slice none 0 0] 51)) := below_new (below_new (Below.refl _ _) _) _
  have HC := Lib.hid (hC.low hb0)
  have HX := Lib.hid ((cell2_new w (.string nm) (.slice p n cap) 24).low (below_alloc _ (.cells #[.string ⟨#[]⟩, .slice none 0 0, .int .i64 0, .slice none 0 0] 51)))
  have HY := Lib.hid ((cell4_new (w.alloc (.cells #[.string nm, .slice p n cap] 24)) (.string ⟨#[]⟩) (.slice none 0 0) (.int .i64 0) (.slice none 0 0) 51).at (size_alloc _ _))
  have HB0 := Lib.hid hb0
  clear hC hb0
  go_enter Tryd.func40, Tryd.ntmps40
  go_wp2_with fail
  refine (svalid_any nm p n cap f _ hnm hn HC.out).mono ?_
  rintro e w1 ⟨rfl, hb1⟩
  have HX1 := Lib.hid (HX.out.low hb1)
  have HY1 := Lib.hid (HY.out.low hb1)
  have HC1 := Lib.hid (HC.out.low hb1)
  have HB1 := Lib.hid (below_next HB0.out hb1)
  obtain ⟨hxl, x0, x1, xf⟩ := HX1.out
  obtain ⟨hyl, y0, y1, y2, y3, yf⟩ := HY1.out
  clear HC HX HY HB0 hb1
  cases hso : schemaOK nm n f
  · have HSO := Lib.hid hso
    have HYS := Lib.hid (cell4_put w1 HY1.out (.string ⟨#[]⟩) (.slice none 0 0) (.int .i64 0) (.slice none 0 0))
    go_wp2
    obtain ⟨-, s0, s1, s2, s3, -⟩ := HYS.out
    exact bodyPost_ret (v := .tuple #[zeroTab.v, .int .i64 17]) (by simp [results, Tryd.results40, go_sem, s0, s1, s2, s3, Tab.v, zeroTab]) rfl
      ⟨zeroTab, 17, rfl, zeroTab_at _, rfl, (((HB1.out.setCell (by exact Nat.le_succ _) _).setCell (by exact Nat.le_succ _) _).setCell (by exact Nat.le_succ _) _).setCell (by exact Nat.le_succ _) _, .inr ⟨HSO.out, rfl, rfl, rfl, rfl⟩⟩
  · have HSO := Lib.hid hso
    obtain ⟨hn1, hn6⟩ := schemaOK_range hso
    have hZ : w.heap.size + 1 < w1.heap.size := hyl
    clear hso
    go_wp2_with fail
    refine (clonesch_any nm p n cap f _ (by omega) (by omega) HC1.out).mono ?_
    rintro e w2 ⟨p2, c2, rfl, hco, hb2⟩
    have HCO := Lib.hid hco
    have HY2 := Lib.hid (HY1.out.low hb2)
    have HB2 := Lib.hid (below_next HB1.out hb2)
    clear hco hb2 x0 x1 xf y0 y1 y2 y3 yf hxl hyl HX1 HC1 HB1
    obtain ⟨yl2, t0, t1, t2, t3, tf⟩ := HY2.out
    have HYS := Lib.hid (cell4_put w2 HY2.out (.string nm) (.slice p2 n c2) (.int .i64 1) (.slice none 0 0))
    go_wp2
    obtain ⟨-, s0, s1, s2, s3, -⟩ := HYS.out
    exact bodyPost_ret (v := .tuple #[Tab.v ⟨nm, p2, n, c2, f, 1, none, 0, []⟩, .int .i64 0]) (by simp [results, Tryd.results40, go_sem, s0, s1, s2, s3, Tab.v]) rfl
      ⟨⟨nm, p2, n, c2, f, 1, none, 0, []⟩, 0, rfl, ⟨hnm, hn, ((((HCO.out.set (b := w.heap.size + 1) (by omega) _).set (b := w.heap.size + 1) (by omega) _).set (b := w.heap.size + 1) (by omega) _).set (b := w.heap.size + 1) (by omega) _).cols, TRowsAt.nil _ _, Nat.zero_le _, fun r hr => absurd hr (List.not_mem_nil), by show (1 : Int) ≤ 9223372036854775807; decide⟩, rfl,
        (((HB2.out.setCell (by exact Nat.le_succ _) _).setCell (by exact Nat.le_succ _) _).setCell (by exact Nat.le_succ _) _).setCell (by exact Nat.le_succ _) _, .inl ⟨HSO.out, rfl, rfl, rfl, fun _ _ => rfl, rfl⟩⟩
end Go.Proofs.YtgaihglploedaaaDoor
/-
  Package table: Get.
-/
namespace Go.Proofs.YtgaihglploedaaaDoor
set_option maxRecDepth 100000
open Go.RowKit
variable {ls : List Nat}

set_option maxHeartbeats 1000000 in
theorem get_any (T : Tab) (id : Int) (w : World) (hT : TabAt w T) :
    Calls Tryd.prog 43 #[T.v, .int .i64 id] w (GetPost id T.R w) := by
  obtain ⟨nm, pc, n, cc, f, nx, pr, cr, R⟩ := T
  obtain ⟨hnm, hn, hC, hR, hl, hz⟩ := hT
  unfold Tab.v GetPost
  dsimp only at *
  have HR := Lib.hid hR
  clear hC hR hz
  go_enter Tryd.func43, Tryd.ntmps43
  go_wp2_with fail
  go_loopw [11] (fun i v => ∃ k : Nat, k ≤ R.length ∧ i = .int .i64 k ∧ (∀ j, j < k → (tAt R j).1 ≠ id) ∧ Below w.heap.size w v) (fun i _ => R.length - (intOf i).toNat)
  case atStart => exact ⟨0, Nat.zero_le _, rfl, fun j hj => by omega, below_new (Below.refl _ _) _⟩
  case round =>
    obtain ⟨k, hk, rfl, ha, hb⟩ := hrel
    have HA := Lib.hid ha
    have HB := Lib.hid hb
    clear ha hb
    by_cases hlt : k < R.length
    · have hlt' : decide ((k : Int) < R.length) = true := decide_eq_true (by omega)
      obtain ⟨c, o, q, cp, rfl, hc, h0, h1, hr, hs, hqn⟩ := HR.out.low HB.out k hlt
      have HQ := Lib.hid (hr.low (below_alloc wr (.cells #[.int .i64 (tAt R k).1, .slice q (tAt R k).2.length cp] 68)))
      have HN := Lib.hid hqn
      clear hr hqn
      cases he : ((tAt R k).1 == id)
      · have HE := Lib.hid (beq_eq_false_iff_ne.1 he)
        go_wp2
        go_roundw
        case rel => exact ⟨k + 1, by omega, by go_num, all_succ HA.out HE.out, below_new HB.out _⟩
        case measure => simp [intOf]; omega
      · have HE := Lib.hid (beq_iff_eq.1 he)
        have HG := Lib.hid (getO_hit hlt HE.out HA.out)
        have HBN := Lib.hid (below_new HB.out (.cells #[.int .i64 (tAt R k).1, .slice q (tAt R k).2.length cp] 68))
        go_wp2_with fail
        refine (dcopy_any (tAt R k).2 q cp _ HQ.out hs HN.out).mono ?_
        rintro e w2 ⟨v2, rfl, hin2, hb2⟩
        obtain ⟨hv2, hr2, -⟩ := owned_shape hin2.1
        have HR2 := Lib.hid hr2
        have HB2 := Lib.hid (below_next HBN.out hb2)
        have HV := Lib.hid hv2
        clear hin2 hb2 hr2 h0 h1 hc hv2
        go_wp2
        go_ret2
        rw [HG.out]
        exact ⟨_, _, by rw [HV.out]; rfl, HR2.out, hs, HB2.out⟩
    · have hlt' : decide ((k : Int) < R.length) = false := decide_eq_false (by omega)
      obtain rfl : k = R.length := by omega
      have HG := Lib.hid (getO_none HA.out)
      go_wp2
      go_ret2
      rw [HG.out]
      exact ⟨none, 0, rfl, fun i hi => by simp at hi, by simp, HB.out⟩
end Go.Proofs.YtgaihglploedaaaDoor
