/-
  Several texts in one.
-/
import Derived.Test.YtgaihglploedaaaPk04
import Derived.Test.YtgaihglploedaaaPk19
import Derived.Deep.RegionHeld3
/-
  The capacity of a slice of the call's own.
-/
namespace Go.Proofs.Ytgaihglploedaaa
set_option maxRecDepth 100000
open Go.RowKit

theorem owns_cap {u : World} {base n : Nat} {e : TypeId} {p : Option Addr} {s m cap : Nat} {xs : List Value} (h : u.ownsRow base e s (.slice p m cap) n xs) : m = n ∧ n ≤ cap := by
  rcases h.2 with ⟨hv, h0⟩ | ⟨g, cap', cur, hv, hg, hh, hcap, -⟩
  · injection hv with h1 h2 h3
    omega
  · injection hv with h1 h2 h3
    omega
end Go.Proofs.Ytgaihglploedaaa
/-
  Package clone: copies of schemas, of lists of rows and of tables.
-/
namespace Go.Proofs.Ytgaihglploedaaa
set_option maxRecDepth 100000
open Go.RowKit
variable {ls : List Nat}

theorem own_ex {u : World} {base : Nat} {vr : Value} {e : TypeId} {s n : Nat} {xs : List Value} (h : u.ownsRow base e s vr n xs) : ∃ p c, vr = .slice p n c := by
  rcases h.2 with ⟨rfl, rfl⟩ | ⟨g, cap, cur, rfl, -⟩
  · exact ⟨none, 0, rfl⟩
  · exact ⟨_, cap, rfl⟩
theorem cell2_st1 {u : World} {X : Nat} {a b : Value} (h : Cell2 u X a b) (y : Value) : Cell2 (u.setCell ⟨X, 1, none⟩ y) X a y := by
  obtain ⟨hl, c0, c1, fz⟩ := h
  refine ⟨by simpa [World.setCell] using hl, ?_, ?_, fun o => ?_⟩
  · go_simp
  · go_simp
  · rw [World.frozen?_setCell]; exact fz o
theorem cell2_far {u : World} {X Y o : Nat} {a b : Value} (h : Cell2 u X a b) (hn : X ≠ Y) (y : Value) : Cell2 (u.setCell ⟨Y, o, none⟩ y) X a b := by
  have hb : (u.setCell ⟨Y, o, none⟩ y).heap[X]? = u.heap[X]? := Below.heap_setCell _ _ _ _ (by exact hn)
  exact ⟨by simpa [World.setCell] using h.lt, by rw [World.cell?_of_block (w := u) hb]; exact h.c0, by rw [World.cell?_of_block (w := u) hb]; exact h.c1, fun o => by rw [World.frozen?_of_block (w := u) hb]; exact h.fz o⟩
/-- Columns of the call's own. -/
def COwn (u : World) (lo : Nat) (p : Option Addr) (n c : Nat) (f : Nat → Col) : Prop := ∃ l : List Col, u.ownsRow lo 62 4 (.slice p n c) n (ccells l) ∧ Sized l ∧ ∀ i, i < n → cAt l i = f i
theorem COwn.keep {u v : World} {lo : Nat} {p : Option Addr} {n c : Nat} {f : Nat → Col} (h : COwn u lo p n c f) (hk : ∀ k, lo ≤ k → k < u.heap.size → v.heap[k]? = u.heap[k]?) : COwn v lo p n c f := by
  obtain ⟨l, h1, h2, h3⟩ := h
  exact ⟨l, owns_keep h1 fun k hk' => hk k (owns_block h1 k hk') (owns_lt h1 k hk'), h2, h3⟩
theorem COwn.low {u v : World} {lo : Nat} {p : Option Addr} {n c : Nat} {f : Nat → Col} (h : COwn u lo p n c f) (hb : Below u.heap.size u v) : COwn v lo p n c f := h.keep fun k _ h2 => hb.block k h2
theorem COwn.base {u : World} {lo lo' : Nat} {p : Option Addr} {n c : Nat} {f : Nat → Col} (h : COwn u lo p n c f) (hl : lo' ≤ lo) : COwn u lo' p n c f := by
  obtain ⟨l, h1, h2, h3⟩ := h
  exact ⟨l, owns_base h1 hl, h2, h3⟩
theorem COwn.set {u : World} {lo b o : Nat} {p : Option Addr} {n c : Nat} {f : Nat → Col} (h : COwn u lo p n c f) (hb : b < lo) (y : Value) : COwn (u.setCell ⟨b, o, none⟩ y) lo p n c f := h.keep fun k h1 _ => Below.heap_setCell _ _ _ _ (by show k ≠ b; omega)
theorem COwn.cols {u : World} {lo : Nat} {p : Option Addr} {n c : Nat} {f : Nat → Col} (h : COwn u lo p n c f) : ColsAt u p n f := by
  obtain ⟨l, h1, h2, h3⟩ := h
  obtain ⟨p', c', he, hn, hc, -⟩ := cols_of_owns h1 h2
  injection he with e1 e2 e3
  subst e1
  exact hc.congr fun i hi => (h3 i hi).symm
theorem COwn.zero (u : World) (lo : Nat) (f : Nat → Col) : COwn u lo none 0 0 f := ⟨[], ⟨rfl, Or.inl ⟨rfl, rfl⟩⟩, fun i hi => absurd hi (Nat.not_lt_zero i), fun i hi => absurd hi (Nat.not_lt_zero i)⟩
/-- A table of the call's own, whose rows can be appended to. -/
structure TabOwn (lo : Nat) (u : World) (S : Tab) : Prop where
  own : ∃ G, TOwn u lo (.slice S.pr S.R.length S.cr) G ∧ tabR G = S.R
  col : COwn u lo S.pc S.n S.cc S.f
  name : S.nm.size ≤ 9223372036854775807
  n : S.n ≤ 9223372036854775807
  len : S.R.length ≤ 1000
  sized : ∀ r ∈ S.R, ValsSized r.2
  nxr : S.nx ≤ 9223372036854775807
theorem TabOwn.at {lo : Nat} {u : World} {S : Tab} (h : TabOwn lo u S) : TabAt u S := by
  obtain ⟨G, h1, h2⟩ := h.own
  have hr := h1.rows
  rw [h2] at hr
  exact ⟨h.name, h.n, h.col.cols, hr, h.len, h.sized, h.nxr⟩
theorem TabOwn.low {lo : Nat} {u v : World} {S : Tab} (h : TabOwn lo u S) (hb : Below u.heap.size u v) : TabOwn lo v S := by
  obtain ⟨G, h1, h2⟩ := h.own
  exact ⟨⟨G, h1.low hb, h2⟩, h.col.low hb, h.name, h.n, h.len, h.sized, h.nxr⟩
theorem TabOwn.keep {lo : Nat} {u v : World} {S : Tab} (h : TabOwn lo u S) (hk : ∀ k, lo ≤ k → k < u.heap.size → v.heap[k]? = u.heap[k]?) : TabOwn lo v S := by
  obtain ⟨G, h1, h2⟩ := h.own
  exact ⟨⟨G, h1.keep hk, h2⟩, h.col.keep hk, h.name, h.n, h.len, h.sized, h.nxr⟩
theorem TabOwn.set {lo b o : Nat} {u : World} {S : Tab} (h : TabOwn lo u S) (hb : b < lo) (y : Value) : TabOwn lo (u.setCell ⟨b, o, none⟩ y) S := h.keep fun k h1 _ => Below.heap_setCell _ _ _ _ (by show k ≠ b; omega)
theorem TabOwn.mono {lo lo' : Nat} {u : World} {S : Tab} (h : TabOwn lo u S) (hl : lo' ≤ lo) : TabOwn lo' u S := by
  obtain ⟨G, h1, h2⟩ := h.own
  exact ⟨⟨G, h1.base hl, h2⟩, h.col.base hl, h.name, h.n, h.len, h.sized, h.nxr⟩
theorem TabOwn.free {lo : Nat} {u : World} {S : Tab} (h : TabOwn lo u S) : TabFree lo u S := fun _ _ hk => (h.keep hk).at
/-- What a copy of a schema gives. -/
def CloneSPost (nm : ByteArray) (n : Nat) (f : Nat → Col) (w : World) (e : Ending) (w' : World) : Prop := ∃ (p2 : Option Addr) (c2 : Nat), e = .returned (.agg #[.string nm, .slice p2 n c2]) ∧ COwn w' w.heap.size p2 n c2 f ∧ Below w.heap.size w w'
set_option maxHeartbeats 2000000 in
theorem clonesch_any (nm : ByteArray) (p : Option Addr) (n cc : Nat) (f : Nat → Col) (w : World) (hn1 : 0 < n) (hn6 : n ≤ 1000) (hC : ColsAt w p n f) :
    Calls Try.prog 32 #[.agg #[.string nm, .slice p n cc]] w (CloneSPost nm n f w) := by
  unfold CloneSPost
  obtain ⟨c, o, rfl, -⟩ := hC.ptr hn1
  obtain ⟨l, hl, hlf⟩ := cols_list n f
  have hb0 : Below w.heap.size w ((w.alloc (.cells #[.string nm, .slice (some ⟨c, o, none⟩) n cc] 25)).alloc (.cells #[.string ⟨#[]⟩, .slice none 0 0] 25)) := below_new (below_new (Below.refl _ _) _) _
  have hcols : ColsAt w (some ⟨c, o, none⟩) l.length (cAt l) := by rw [hl]; exact hC.congr hlf
  have hsz : Sized l := fun i hi => by
    obtain ⟨-, -, -, -, hs, -⟩ := hcols i hi
    exact hs
  have HCL := Lib.hid (hcols.low hb0)
  have HSZ := Lib.hid hsz
  have HLF : Hid (∀ i, i < n → f i = cAt l i) := Lib.hid fun i hi => (hlf i hi).symm
  have HX := Lib.hid ((cell2_new w (.string nm) (.slice (some ⟨c, o, none⟩) n cc) 25).low (below_alloc _ (.cells #[.string ⟨#[]⟩, .slice none 0 0] 25)))
  have hy := cell2_new (w.alloc (.cells #[.string nm, .slice (some ⟨c, o, none⟩) n cc] 25)) (.string ⟨#[]⟩) (.slice none 0 0) 25
  rw [size_alloc] at hy
  have HY := Lib.hid hy
  have HB0 := Lib.hid hb0
  have hown0 : ∀ W : World, W.ownsRow W.heap.size 62 4 (.slice none 0 0) 0 (ccells []) := fun W => ⟨rfl, Or.inl ⟨rfl, rfl⟩⟩
  have HO := Lib.hid hown0
  clear hC hb0 hown0 hcols hsz hlf hy
  go_enter Try.func32, Try.ntmps32
  go_upto_region 1 with (fail)
  generalize World.alloc _ _ = W0 at HCL HX HY HB0 ⊢
  obtain ⟨hxl, x0, x1, xf⟩ := HX.out
  have hyl := HY.out.lt
  go_upto_region 2 with (at_builtin; refine wpList_append_cols rfl _ (.tmp 4) rfl W0.heap.size _ 0 [] rfl (HO.out _) ⟨c, o, none⟩ l cc n rfl hl HCL.out (by omega) (Nat.le_refl _) ?_; intro v2 w2 hown2 hgr2; (have hb2 := grown_below (Below.refl W0.heap.size W0) (Nat.le_refl _) hgr2 (fun k hk => by cases hk)); rw [Nat.zero_add, List.nil_append] at hown2; obtain ⟨p2, c2, hv2⟩ := own_ex hown2; subst hv2; (have HC2 : Hid (COwn w2 (w.heap.size + 2) p2 n c2 f) := Lib.hid ⟨l, owns_base (by rw [hl] at hown2; exact hown2) (by omega), HSZ.out, fun i hi => (HLF.out i hi).symm⟩); (have HX2 := Lib.hid (HX.out.low hb2)); (have HY2 := Lib.hid (HY.out.low hb2)); (have HB2 := Lib.hid (below_next HB0.out hb2)); clear hown2 hgr2 hb2 hxl x0 x1 xf; obtain ⟨hxl, x0, x1, xf⟩ := HX2.out)
  have HX3 := Lib.hid (cell2_st1 HX2.out (.slice p2 n c2))
  have HY3 : Hid (Cell2 (w2.setCell ⟨w.heap.size, 1, none⟩ (.slice p2 n c2)) (w.heap.size + 1) (.string ⟨#[]⟩) (.slice none 0 0)) := Lib.hid (cell2_far HY2.out (by omega) _)
  have HC3 := Lib.hid (HC2.out.set (b := w.heap.size) (o := 1) (by omega) (.slice p2 n c2))
  have HB3 : Hid (Below w.heap.size w (w2.setCell ⟨w.heap.size, 1, none⟩ (.slice p2 n c2))) := Lib.hid (HB2.out.setCell (by exact Nat.le_refl _) _)
  clear HX2 HY2 HC2 HB2 hxl x0 x1 xf hyl
  generalize World.setCell _ _ _ = W3 at HX3 HY3 HC3 HB3 ⊢
  obtain ⟨hxl, x0, x1, xf⟩ := HX3.out
  obtain ⟨hyl, y0, y1, yf⟩ := HY3.out
  have HS := Lib.hid (cell2_put W3 HY3.out (.string nm) (.slice p2 n c2))
  go_wp2
  obtain ⟨-, s0, s1, -⟩ := HS.out
  exact bodyPost_ret (v := .agg #[.string nm, .slice p2 n c2]) (by simp [results, Try.results32, go_sem, s0, s1]) rfl
    ⟨p2, c2, rfl, ((HC3.out.set (b := w.heap.size + 1) (o := 0) (by omega) (.string nm)).set (b := w.heap.size + 1) (o := 1) (by omega) (.slice p2 n c2)).base (by omega), (HB3.out.setCell (by exact Nat.le_succ _) _).setCell (by exact Nat.le_succ _) _⟩
/-- What a copy of rows gives. -/
def CloneRPost (R : List TRow) (w : World) (e : Ending) (w' : World) : Prop := ∃ (p : Option Addr) (c : Nat) (G : List GRow), e = .returned (.slice p R.length c) ∧ TOwn w' w.heap.size (.slice p R.length c) G ∧ tabR G = R ∧ Below w.heap.size w w'
set_option maxHeartbeats 2000000 in
theorem clonerows_any (R : List TRow) (q : Option Addr) (cq : Nat) (w : World) (hR : TRowsAt w q R) (hl : R.length ≤ 10000) :
    Calls Try.prog 42 #[.slice q R.length cq] w (CloneRPost R w) := by
  have HR := Lib.hid hR
  clear hR
  go_enter Try.func42, Try.ntmps42
  go_wp2_with fail
  go_loopw [3, 8] (fun s3 s8 wx => ∃ (k : Nat) (G : List GRow), k ≤ R.length ∧ s8 = .int .i64 k ∧ G.length = k ∧ tabR G = R.take k ∧ TOwn wx w.heap.size s3 G ∧ Below w.heap.size w wx) (fun _ s8 _ => R.length - (intOf s8).toNat)
  case atStart => exact ⟨0, [], Nat.zero_le _, rfl, rfl, rfl, TOwn.nil _ _, Below.refl _ _⟩
  case round =>
    rename_i s3
    obtain ⟨k, G, hk, rfl, hGl, hG, hown, hb⟩ := hrel
    obtain ⟨p3, c3, e3⟩ := hown.ex
    subst e3
    have HG := Lib.hid hG
    have HGL := Lib.hid hGl
    have HOW := Lib.hid hown
    have HB := Lib.hid hb
    clear hG hGl hown hb
    by_cases hlt : k < R.length
    · have hkd : decide ((k : Int) < R.length) = true := decide_eq_true (by omega)
      obtain ⟨c, o, qb, cb, hp, hc, h0, h1, hr, hs, hn⟩ := HR.out k hlt
      obtain ⟨⟨id, l⟩, hrk⟩ : ∃ x, tAt R k = x := ⟨_, rfl⟩
      rw [hrk] at h0 h1 hr hs hn
      dsimp only at h0 h1 hr hs hn
      subst hp
      rw [← HB.out.cell (by exact hc)] at h0 h1
      have hbn := below_alloc wr (.cells #[.int .i64 id, .slice qb l.length cb] 34)
      have HO1 := Lib.hid (HOW.out.low hbn)
      have HB1 := Lib.hid (below_next HB.out hbn)
      have HY1 := Lib.hid (cell2_new wr (.int .i64 id) (.slice qb l.length cb) 34)
      have HRV := Lib.hid (hr.low HB1.out)
      have HN := Lib.hid hn
      have HRK := Lib.hid hrk
      clear HOW HB hbn hr hn hrk
      go_upto_region 5 with (fail)
      clear h0 h1
      generalize World.alloc _ _ = W2 at HO1 HB1 HY1 HRV ⊢
      generalize wr.heap.size = Y at HY1 ⊢
      obtain ⟨yl, y0, y1, -⟩ := HY1.out
      go_wp2_with fail
      refine (dcopyrow_any id l qb cb _ HRV.out hs HN.out).mono ?_
      rintro e w5 ⟨v5, rfl, hin5, hb5⟩
      obtain ⟨p5, c5, hv5⟩ := InRow.ex hin5
      subst hv5
      have HIN : Hid (InRow w5 w.heap.size (.slice p5 l.length c5, l)) := Lib.hid (InRow.base hin5 HB1.out.size)
      have HO5 := Lib.hid (HO1.out.low hb5)
      have HB5 := Lib.hid (below_next HB1.out hb5)
      have hb6 := below_alloc w5 (.cells #[.int .i64 id, .slice p5 l.length c5] 34)
      have HO6 := Lib.hid (HO5.out.low hb6)
      have HB6 := Lib.hid (below_next HB5.out hb6)
      have HN6 := Lib.hid (row2_new w5 (.int .i64 id) (.slice p5 l.length c5) 34)
      have HLO := Lib.hid HB6.out.size
      have hGs : (G.length + 1) * 32 ≤ 140737488355328 := by have := HGL.out; omega
      clear hin5 hb5 hb6 HO1 HB1 HY1 HRV yl y0 y1
      go_wp2_with (at_builtin; refine wpList_append_trow rfl (.tmp 12) (.tmp 15) rfl w.heap.size (.slice p3 G.length c3) G (by rfl) HO6.out.own w5.heap.size id (.slice p5 l.length c5) l (by rfl) HN6.out.1 HN6.out.2 rfl hGs HLO.out ?_; intro v8 w8 hown8 hg8; (have HO8 := Lib.hid (HO5.out.push (g := (id, .slice p5 l.length c5, l)) HIN.out hown8 hg8)); (have HB8 := Lib.hid (grown_below HB6.out HLO.out hg8 (fun j hj => owns_block HO6.out.own j hj))); clear hown8 hg8)
      go_roundw
      case rel => exact ⟨k + 1, G ++ [(id, .slice p5 l.length c5, l)], by omega, by go_num, by rw [List.length_append, HGL.out]; rfl, by rw [tabR_append, HG.out, take_trow hlt, HRK.out]; rfl, HO8.out, HB8.out⟩
      case measure => simp [intOf]; omega
    · obtain rfl : k = R.length := by omega
      have hkd : decide (((R.length : Nat) : Int) < R.length) = false := decide_eq_false (by omega)
      have HGR : Hid (tabR G = R) := Lib.hid (by rw [HG.out, List.take_length])
      have hgl := HGL.out
      have ho := HOW.out
      rw [hgl] at ho ⊢
      have HOR := Lib.hid ho
      clear ho HOW hgl
      go_wp2
      exact bodyPost_ret (v := .slice p3 R.length c3) (by simp [results, Try.results42, go_sem]) rfl ⟨p3, c3, G, rfl, HOR.out, HGR.out, HB.out⟩
/-- What a copy of a table gives. -/
def CloneTPost (nm : ByteArray) (n : Nat) (f : Nat → Col) (nx : Int) (R : List TRow) (w : World) (e : Ending) (w' : World) : Prop :=
  ∃ (p2 : Option Addr) (c2 : Nat) (pr : Option Addr) (cr : Nat), e = .returned (.agg #[.string nm, .slice p2 n c2, .int .i64 nx, .slice pr R.length cr]) ∧ TabOwn w.heap.size w' ⟨nm, p2, n, c2, f, nx, pr, cr, R⟩ ∧ Below w.heap.size w w'
set_option maxHeartbeats 4000000 in
theorem clonetab_any (nm : ByteArray) (p : Option Addr) (n cc : Nat) (f : Nat → Col) (nx : Int) (pr : Option Addr) (cr : Nat) (R : List TRow) (w : World) (hT : TabAt w ⟨nm, p, n, cc, f, nx, pr, cr, R⟩) (hn1 : 0 < n) (hn6 : n ≤ 1000) :
    Calls Try.prog 36 #[.agg #[.string nm, .slice p n cc, .int .i64 nx, .slice pr R.length cr]] w (CloneTPost nm n f nx R w) := by
  have hb0 : Below w.heap.size w ((w.alloc (.cells #[.string nm, .slice p n cc, .int .i64 nx, .slice pr R.length cr] 29)).alloc (.cells #[.string ⟨#[]⟩, .slice none 0 0, .int .i64 0, .slice none 0 0] 29)) := below_new (below_new (Below.refl _ _) _) _
  have HX := Lib.hid ((cell4_new w (.string nm) (.slice p n cc) (.int .i64 nx) (.slice pr R.length cr) 29).low (below_alloc _ (.cells #[.string ⟨#[]⟩, .slice none 0 0, .int .i64 0, .slice none 0 0] 29)))
  have HY := Lib.hid ((cell4_new (w.alloc (.cells #[.string nm, .slice p n cc, .int .i64 nx, .slice pr R.length cr] 29)) (.string ⟨#[]⟩) (.slice none 0 0) (.int .i64 0) (.slice none 0 0) 29).at (size_alloc _ _))
  have HT := Lib.hid (hT.low hb0)
  have HB0 := Lib.hid hb0
  have hR10 : R.length ≤ 10000 := by have := hT.len; dsimp only at this; omega
  clear hT hb0
  go_enter Try.func36, Try.ntmps36
  go_upto_region 1 with (fail)
  generalize World.alloc _ _ = W1 at HX HY HT HB0 ⊢
  obtain ⟨xl, x0, x1, x2, x3, -⟩ := HX.out
  have HTD := Lib.hid (HT.out.low (Below.refl W1.heap.size W1).drew)
  have HXD := Lib.hid (HX.out.low (Below.refl W1.heap.size W1).drew)
  have HYD := Lib.hid (HY.out.low (Below.refl W1.heap.size W1).drew)
  have HBD := Lib.hid (below_next HB0.out (Below.refl W1.heap.size W1).drew)
  go_region_law (first
    | (go_simp; go_at_call 32; refine (clonesch_any nm p n cc f _ hn1 hn6 HTD.out.cols).mono ?_; rintro e w3 ⟨p2, c2, rfl, hcl, hb3⟩; (have HCL := Lib.hid hcl); (have HB3 := Lib.hid hb3); obtain ⟨zl, z0, z1, z2, z3, -⟩ := HXD.out.low hb3; clear hcl hb3)
    | (go_simp; go_at_call 42; refine (clonerows_any R pr cr _ (HTD.out.low HB3.out).rows hR10).mono ?_; rintro e w5 ⟨p5, c5, G, rfl, ho5, hG5, hb5⟩; (have HO5 := Lib.hid ho5); (have HG5 := Lib.hid hG5); (have HB5 := Lib.hid hb5); obtain ⟨yl, y0, y1, y2, y3, yf⟩ := (HYD.out.low HB3.out).low hb5; obtain ⟨ul, u0, u1, u2, u3, -⟩ := (HXD.out.low HB3.out).low hb5; clear ho5 hG5 hb5))
  all_goals
    go_wp2
    have hz0 : w.heap.size + 1 < W1.heap.size := HY.out.lt
    have hz1 : W1.heap.size ≤ w3.heap.size := HB3.out.size
    have HS := cell4_put w5 ((HYD.out.low HB3.out).low HB5.out) (.string nm) (.slice p2 n c2) (.int .i64 nx) (.slice p5 R.length c5)
    obtain ⟨-, s0, s1, s2, s3, -⟩ := HS
    have hm : TabOwn (w.heap.size + 2) w5 ⟨nm, p2, n, c2, f, nx, p5, c5, R⟩ := ⟨⟨G, HO5.out.base (by omega), HG5.out⟩, (HCL.out.low HB5.out).base (by show w.heap.size + 2 ≤ W1.heap.size; omega), HT.out.name, HT.out.n, HT.out.len, HT.out.sized, HT.out.nxr⟩
    exact bodyPost_ret (v := .agg #[.string nm, .slice p2 n c2, .int .i64 nx, .slice p5 R.length c5]) (by simp [results, Try.results36, go_sem, s0, s1, s2, s3]) rfl
      ⟨p2, c2, p5, c5, rfl, ((((hm.set (b := w.heap.size + 1) (o := 0) (by omega) (.string nm)).set (b := w.heap.size + 1) (o := 1) (by omega) (.slice p2 n c2)).set (b := w.heap.size + 1) (o := 2) (by omega) (.int .i64 nx)).set (b := w.heap.size + 1) (o := 3) (by omega) (.slice p5 R.length c5)).mono (by omega),
        (((((below_next (below_next HBD.out HB3.out) HB5.out).setCell (by exact Nat.le_succ _) _).setCell (by exact Nat.le_succ _) _).setCell (by exact Nat.le_succ _) _).setCell (by exact Nat.le_succ _) _)⟩
end Go.Proofs.Ytgaihglploedaaa
/-
  Package keys: changed.
-/
namespace Go.Proofs.Ytgaihglploedaaa
set_option maxRecDepth 100000
open Go.RowKit
variable {ls : List Nat}

theorem c3_step {u v : World} {X b : Nat} {x y z : Value} (h : Cell3 u X x y z) (hs : StepT b u v) (hn : X ≠ b) : Cell3 v X x y z :=
  ⟨Nat.lt_of_lt_of_le h.lt hs.size, by rw [hs.cell (by exact h.lt) (by exact hn)]; exact h.c0, by rw [hs.cell (by exact h.lt) (by exact hn)]; exact h.c1, by rw [hs.cell (by exact h.lt) (by exact hn)]; exact h.c2, fun o => by rw [hs.frozen (by exact h.lt) (by exact hn)]; exact h.fz o⟩
section
variable {w0 u v : World} {base k : Nat} {vr : Value} {G : List GRow}
theorem MOwn.setB {X o : Nat} (h : MOwn w0 u base k vr G) (hX : X < base) (hw : w0.heap.size ≤ X) (y : Value) : MOwn w0 (u.setCell ⟨X, o, none⟩ y) base k vr G :=
  ⟨ownsRow_setCell_below h.own (a := ⟨X, o, none⟩) hX y, fun i hi hl => ⟨ownsRow_setCell_below (h.fst i hi hl).1 (a := ⟨X, o, none⟩) hX y, (h.fst i hi hl).2⟩, h.snd, h.low.setCell (by exact hw) _, h.hb⟩
theorem MOwn.slot (h : MOwn w0 u base k vr G) (hl : 0 < G.length) : ∃ g c, vr = .slice (some ⟨g, 0, none⟩) G.length c ∧ base ≤ g ∧ g < u.heap.size ∧ (∀ o, u.frozen? ⟨g, o, none⟩ = false) ∧
    (∀ i, i < G.length → u.cell? ⟨g, i * 2, none⟩ = some (.int .i64 (grAt G i).1) ∧ u.cell? ⟨g, i * 2 + 1, none⟩ = some (grAt G i).2.1) := by
  rcases h.own.2 with ⟨-, h0⟩ | ⟨g, cap', cur, rfl, hg, hh, hcap, hm, hcur, htake⟩
  · omega
  · have hget : ∀ j, j < G.length * 2 → cur[j]? = (tcells G)[j]? := fun j hj => by
      rw [← htake, List.getElem?_take, if_pos hj]; simp
    refine ⟨g, cap', rfl, hg, (Array.getElem?_eq_some_iff.1 hh).1, fun o => by simp [World.frozen?, hh], fun i hi => ?_⟩
    obtain ⟨c0, c1⟩ := tcells_at G i hi
    refine ⟨?_, ?_⟩
    · simp only [World.cell?, hh]
      rw [if_neg (by simp), hget _ (by omega), c0]
    · simp only [World.cell?, hh]
      rw [if_neg (by simp), hget _ (by omega), c1]
theorem MOwn.trows (h : MOwn w0 u base 0 vr G) : TRowsAt u (rowP vr) (tabR G) := by
  intro i hi
  rw [tabR_length] at hi
  rw [tabR_at hi]
  obtain ⟨g, c, rfl, hg, hgs, hf, hc⟩ := h.slot (by omega)
  obtain ⟨c0, c1⟩ := hc i hi
  obtain ⟨q, cq, hv, hr, hs, hn⟩ := h.snd i (Nat.zero_le _) hi
  exact ⟨g, 0, q, cq, rfl, hgs, by rw [Nat.zero_add]; exact c0, by rw [Nat.zero_add, ← hv]; exact c1, hr.low h.low, hs, hn⟩
end
/-- What changed gives. -/
def ChdPost (nm : ByteArray) (n : Nat) (f : Nat → Col) (nx : Int) (A : List TRow) (w : World) (e : Ending) (w' : World) : Prop :=
  ∃ (p2 : Option Addr) (c2 : Nat) (pr : Option Addr) (cr : Nat), e = .returned (.agg #[.string nm, .slice p2 n c2, .int .i64 nx, .slice pr A.length cr]) ∧ TabOwn w.heap.size w' ⟨nm, p2, n, c2, f, nx, pr, cr, A⟩ ∧ Below w.heap.size w w'
/-- The state of changed, from the call of remaining on. -/
structure ChdB (w w3 : World) (nm : ByteArray) (p2 : Option Addr) (n c2 : Nat) (nx : Int) (k : Nat) (vr : Value) (G : List GRow) (v : World) : Prop where
  tab : Cell4 v w.heap.size (.string nm) (.slice p2 n c2) (.int .i64 nx) vr
  own : MOwn w v w3.heap.size k vr G
  step : StepT w.heap.size w3 v
theorem ChdB.low {w w3 u v : World} {nm : ByteArray} {p2 : Option Addr} {n c2 : Nat} {nx : Int} {k : Nat} {vr : Value} {G : List GRow} (h : ChdB w w3 nm p2 n c2 nx k vr G u) (hb : Below u.heap.size u v) : ChdB w w3 nm p2 n c2 nx k vr G v :=
  ⟨h.tab.low hb, h.own.to hb, h.step.trans (StepT.of_below hb)⟩
theorem ChdB.push {w w3 u w8 : World} {nm : ByteArray} {p2 : Option Addr} {n c2 : Nat} {nx : Int} {vr v8 : Value} {G : List GRow} {g : GRow} (h : ChdB w w3 nm p2 n c2 nx 0 vr G u) (hlt : w.heap.size < w3.heap.size) (hg : LiesV w g.2.1 g.2.2)
    (ho : w8.ownsRow w3.heap.size 34 2 v8 (G ++ [g]).length (tcells (G ++ [g]))) (hgr : u.grownBy w8 vr.ownBlock) :
    Cell4 w8 w.heap.size (.string nm) (.slice p2 n c2) (.int .i64 nx) vr ∧ ChdB w w3 nm p2 n c2 nx 0 v8 (G ++ [g]) (w8.setCell ⟨w.heap.size, 3, none⟩ v8) := by
  have hk : ∀ k, vr.ownBlock = some k → w3.heap.size ≤ k := fun k hk => owns_block h.own.own k hk
  have hc := h.tab.grown hgr (fun k hk' => by have := hk k hk'; omega)
  have hm := h.own.push hg ho hgr h.step.size
  exact ⟨hc, hc.set3 v8, hm.setB hlt (Nat.le_refl _) _, (step_grown_from h.step hgr hk).setCell 3 none v8⟩
theorem ChdB.setNx {w w3 u : World} {nm : ByteArray} {p2 : Option Addr} {n c2 : Nat} {nx : Int} {k : Nat} {vr : Value} {G : List GRow} (h : ChdB w w3 nm p2 n c2 nx k vr G u) (hlt : w.heap.size < w3.heap.size) (nx' : Int) : ChdB w w3 nm p2 n c2 nx' k vr G (u.setCell ⟨w.heap.size, 2, none⟩ (.int .i64 nx')) :=
  ⟨h.tab.set2 _, h.own.setB hlt (Nat.le_refl _) _, h.step.setCell 2 none _⟩
set_option maxHeartbeats 16000000 in
theorem changed_any (nm : ByteArray) (pc : Option Addr) (n cc : Nat) (f : Nat → Col) (nx : Int) (pr : Option Addr) (cr : Nat) (R : List TRow) (pi : Option Addr) (ci : Nat) (I : List (List Val)) (pd : Option Addr) (cd : Nat) (D : List Int) (pu : Option Addr) (cu : Nat) (U : List PRow) (w : World)
    (hT : TabAt w ⟨nm, pc, n, cc, f, nx, pr, cr, R⟩) (hC : ChgAt w ⟨pi, ci, I, pd, cd, D, pu, cu, U⟩) (hn1 : 0 < n) (hn6 : n ≤ 1000) (hnx1 : 1 ≤ nx) (hnx2 : nx ≤ 2147483648) (hR100 : R.length ≤ 100) (hrem : remR R D U = some (keptR D U R)) (_hpos : ∀ r ∈ afterR nx R I D U, 0 < r.2.length) (hlen : (afterR nx R I D U).length ≤ 1000) :
    Calls Try.prog 25 #[.agg #[.string nm, .slice pc n cc, .int .i64 nx, .slice pr R.length cr], .agg #[.slice pi I.length ci, .slice pd D.length cd, .slice pu U.length cu]] w (ChdPost nm n f (nx + I.length) (afterR nx R I D U) w) := by
  have HT := Lib.hid hT
  have HC := Lib.hid hC
  have HREM := Lib.hid hrem
  have HLEN := Lib.hid hlen
  have hI63 := hC.inl
  dsimp only at hI63
  have HK0 := Lib.hid (KB.new w nm pc n cc nx pr R.length cr pi I.length ci pd D.length cd pu U.length cu)
  have HK : Hid (KB w nm pc n cc nx pr R.length cr pi I.length ci pd D.length cd pu U.length cu (((w.alloc (.cells #[.string nm, .slice pc n cc, .int .i64 nx, .slice pr R.length cr] 29)).alloc (.cells #[.slice pi I.length ci, .slice pd D.length cd, .slice pu U.length cu] 46)).alloc (.cells #[.string ⟨#[]⟩, .slice none 0 0, .int .i64 0, .slice none 0 0] 29))) := Lib.hid (HK0.out.low (below_alloc _ _))
  have HZ : Hid (Cell4 (((w.alloc (.cells #[.string nm, .slice pc n cc, .int .i64 nx, .slice pr R.length cr] 29)).alloc (.cells #[.slice pi I.length ci, .slice pd D.length cd, .slice pu U.length cu] 46)).alloc (.cells #[.string ⟨#[]⟩, .slice none 0 0, .int .i64 0, .slice none 0 0] 29)) (w.heap.size + 2) (.string ⟨#[]⟩) (.slice none 0 0) (.int .i64 0) (.slice none 0 0)) := Lib.hid ((cell4_new ((w.alloc _).alloc _) _ _ _ _ _).at (by rw [size_alloc, size_alloc]))
  clear hT hC hrem hlen HK0
  go_enter Try.func25, Try.ntmps25
  go_upto_region 1 with (fail)
  generalize World.alloc _ _ = W0 at HK HZ ⊢
  rw [show w.heap.size + 1 + 1 = w.heap.size + 2 from rfl]
  obtain ⟨xl, x0, x1, x2, x3, xf⟩ := HK.out.tab
  obtain ⟨yl, y0, y1, y2, -⟩ := HK.out.chg
  go_wp2_with fail
  refine (remaining_eq nm pc n cc nx pr cr R pi ci I pd cd D pu cu U _ w HT.out.rows (by omega) HC.out HK.out.bel).mono ?_
  rintro e w4 ⟨v4, rfl, hb4, hown4⟩
  obtain ⟨G0, hG0, hm0⟩ := hown4 _ HREM.out
  obtain ⟨p4, c4, hv4⟩ := own_ex hm0.own
  subst hv4
  have hlt3 : w.heap.size < W0.heap.size := HK.out.tab.lt
  have HCH : Hid (ChdB w W0 nm pc n cc (nx + ((0 : Nat) : Int)) 0 (.slice p4 G0.length c4) G0 (w4.setCell ⟨w.heap.size, 3, none⟩ (.slice p4 G0.length c4))) := Lib.hid (by
    rw [show nx + ((0 : Nat) : Int) = nx by omega]
    exact ⟨(HK.out.tab.low hb4).set3 _, hm0.setB hlt3 (Nat.le_refl _) _, (StepT.of_below hb4).setCell 3 none _⟩)
  have HT4 := Lib.hid (HK.out.tab.low hb4)
  have HG0 := Lib.hid hG0
  clear hown4 hm0 hb4 hG0 xl x0 x1 x2 x3 xf yl y0 y1 y2
  obtain ⟨xl, x0, x1, x2, x3, xf⟩ := HT4.out
  go_upto_region 2 with (fail)
  clear HT4 xl x0 x1 x2 x3 xf
  generalize World.setCell _ _ _ = W5 at HCH ⊢
  have HCB5 := Lib.hid (c3_step HK.out.chg HCH.out.step (by omega))
  obtain ⟨yl, y0, y1, y2, -⟩ := HCB5.out
  go_wp2_with fail
  go_loopw [17] (fun i v => ∃ (k : Nat) (vr : Value) (G : List GRow), k ≤ I.length ∧ i = .int .i64 k ∧ tabR G = keptR D U R ++ comeR nx (I.take k) ∧ ChdB w W0 nm pc n cc (nx + k) 0 vr G v) (fun i _ => I.length - (intOf i).toNat)
  case atStart => exact ⟨0, _, G0, Nat.zero_le _, rfl, by rw [HG0.out]; simp [comeR], HCH.out⟩
  clear HCH HCB5 HG0 yl y0 y1 y2
  case round =>
    obtain ⟨k, vr, G, hk, rfl, hG, hch⟩ := hrel
    have HG := Lib.hid hG
    have HCH := Lib.hid hch
    have HGL : Hid (G.length ≤ 2000) := Lib.hid (by have h1 := congrArg List.length hG; rw [tabR_length, List.length_append, comeR_length, List.length_take] at h1; have h2 := keptR_length (D := D) (U := U) (R := R); omega)
    clear hG hch
    by_cases hlt : k < I.length
    · have hlt' : decide ((k : Int) < I.length) = true := decide_eq_true (by omega)
      obtain ⟨c', o', q, cq, hp, hc', h0', hr, hs, hqn⟩ := HC.out.ins k hlt
      dsimp only at hp h0' hr hs hqn
      subst hp
      have hc := Nat.lt_of_lt_of_le hc' HCH.out.own.low.size
      have h0 : wr.cell? ⟨c', o' + k, none⟩ = some (.slice q (rAt I k).length cq) := by rw [HCH.out.own.low.cell (by exact hc')]; exact h0'
      have HLV : Hid (LiesV w (.slice q (rAt I k).length cq) (rAt I k)) := Lib.hid ⟨q, cq, rfl, hr, hs, hqn⟩
      have HH5 := Lib.hid (HCH.out.low (below_alloc wr (.cells #[.int .i64 (nx + k), .slice q (rAt I k).length cq] 34)))
      have HN5 := Lib.hid (row2_new wr (.int .i64 (nx + k)) (.slice q (rAt I k).length cq) 34)
      have HLO := Lib.hid HH5.out.step.size
      obtain ⟨xl, x0, x1, x2, x3, xf⟩ := HCH.out.tab
      clear h0' hr hs hqn hc'
      go_upto_region 6 with (at_builtin; refine wpList_append_trow rfl (.tmp 22) (.tmp 27) rfl W0.heap.size vr G (by rfl) HH5.out.own.own wr.heap.size (nx + k) (.slice q (rAt I k).length cq) (rAt I k) (by rfl) HN5.out.1 HN5.out.2 rfl (by have := HGL.out; omega) HLO.out ?_; intro v8 w8 hown8 hg8; obtain ⟨⟨zl, z0, z1, z2, z3, zf⟩, hs8⟩ := HH5.out.push (g := (nx + k, .slice q (rAt I k).length cq, rAt I k)) hlt3 HLV.out hown8 hg8; obtain ⟨p8, c8, e8⟩ := own_ex hown8; subst e8; rw [List.length_append, List.length_singleton] at hs8; (have HS8 := Lib.hid hs8); clear hs8 hown8 hg8)
      clear HCH HH5 HN5 HLO xl x0 x1 x2 x3 xf zl z0 z1 z2 z3 zf h0 hc
      generalize World.setCell _ _ _ = W9 at HS8 ⊢
      obtain ⟨xl, x0, x1, x2, x3, xf⟩ := HS8.out.tab
      have HS9 := Lib.hid (HS8.out.setNx hlt3 (nx + k + 1))
      go_wp2
      go_roundw
      case rel => exact ⟨k + 1, _, G ++ [(nx + k, .slice q (rAt I k).length cq, rAt I k)], by omega, by go_num, by rw [tabR_append, HG.out, comeR_take hlt, List.append_assoc]; rfl, by rw [show nx + ((k + 1 : Nat) : Int) = nx + k + 1 by omega]; exact HS9.out⟩
      case measure => simp [intOf]; omega
    · have hlt' : decide ((k : Int) < I.length) = false := decide_eq_false (by omega)
      obtain rfl : k = I.length := by omega
      obtain ⟨p, cv, hvr⟩ := own_ex HCH.out.own.own
      subst hvr
      have HGA : Hid (tabR G = afterR nx R I D U) := Lib.hid (by rw [HG.out, List.take_length]; rfl)
      have hml : G.length = (afterR nx R I D U).length := by rw [← HGA.out, tabR_length]
      have hch := HCH.out
      rw [hml] at hch
      have HCH1 := Lib.hid hch
      have hrows := hch.own.trows
      rw [HGA.out] at hrows
      have HTA : Hid (TabAt wr ⟨nm, pc, n, cc, f, nx + I.length, p, cv, afterR nx R I D U⟩) := Lib.hid ⟨HT.out.name, HT.out.n, HT.out.cols.low hch.own.low, hrows, HLEN.out, after_sized HC.out.usz HT.out.sized HC.out.isz, by dsimp only; omega⟩
      have HB := Lib.hid hch.own.low
      have HZ4 := Lib.hid (HZ.out.step hch.step (by omega))
      have hZS := HZ4.out.lt
      clear HCH HG HGL hch hml hrows
      obtain ⟨xl, x0, x1, x2, x3, xf⟩ := HCH1.out.tab
      go_wp2_with fail
      refine (clonetab_any nm pc n cc f (nx + I.length) p cv (afterR nx R I D U) _ HTA.out hn1 hn6).mono ?_
      rintro e w6 ⟨p2, c2, p6, c6, rfl, hm6, hb6⟩
      have HZ6 := HZ4.out.low hb6
      have HYS := Lib.hid (cell4_put w6 HZ6 (.string nm) (.slice p2 n c2) (.int .i64 (nx + I.length)) (.slice p6 (afterR nx R I D U).length c6))
      have HM := Lib.hid (((((hm6.set (b := w.heap.size + 2) (o := 0) (by omega) (.string nm)).set (b := w.heap.size + 2) (o := 1) (by omega) (.slice p2 n c2)).set (b := w.heap.size + 2) (o := 2) (by omega) (.int .i64 (nx + I.length))).set (b := w.heap.size + 2) (o := 3) (by omega) (.slice p6 (afterR nx R I D U).length c6)).mono (lo' := w.heap.size) (by omega))
      have HBF : Hid (Below w.heap.size w ((((w6.setCell ⟨w.heap.size + 2, 0, none⟩ (.string nm)).setCell ⟨w.heap.size + 2, 1, none⟩ (.slice p2 n c2)).setCell ⟨w.heap.size + 2, 2, none⟩ (.int .i64 (nx + I.length))).setCell ⟨w.heap.size + 2, 3, none⟩ (.slice p6 (afterR nx R I D U).length c6))) := Lib.hid (((((below_next HB.out hb6).setCell (by exact Nat.le_add_right _ _) _).setCell (by exact Nat.le_add_right _ _) _).setCell (by exact Nat.le_add_right _ _) _).setCell (by exact Nat.le_add_right _ _) _)
      obtain ⟨zl, z0, z1, z2, z3, zf⟩ := HZ6
      clear hm6 hb6
      go_wp2
      obtain ⟨-, s0, s1, s2, s3, -⟩ := HYS.out
      exact bodyPost_ret (v := .agg #[.string nm, .slice p2 n c2, .int .i64 (nx + I.length), .slice p6 (afterR nx R I D U).length c6]) (by simp [results, Try.results25, go_sem, s0, s1, s2, s3]) rfl
        ⟨p2, c2, p6, c6, rfl, HM.out, HBF.out⟩
end Go.Proofs.Ytgaihglploedaaa
/-
  Package keys: Apply.
-/
namespace Go.Proofs.Ytgaihglploedaaa
set_option maxRecDepth 100000
open Go.RowKit
variable {ls : List Nat}

theorem filt_len (R : List TRow) (D : List Int) (hR : (R.map (·.1)).Pairwise (· < ·)) (hD : D.Pairwise (· < ·)) (hin : ∀ d ∈ D, d ∈ R.map (·.1)) : (R.filter fun r => decide (r.1 ∈ D)).length = D.length := by
  induction R generalizing D with
  | nil =>
    have h1 : D = [] := List.eq_nil_iff_forall_not_mem.2 fun d hd => by have := hin d hd; simp at this
    subst h1
    rfl
  | cons r R ih =>
    have hR' : (R.map (·.1)).Pairwise (· < ·) := by rw [List.map_cons, List.pairwise_cons] at hR; exact hR.2
    cases D with
    | nil => simp
    | cons d D =>
      have hp := List.pairwise_cons.1 hD
      by_cases he : d = r.1
      · subst he
        have hin' : ∀ x ∈ D, x ∈ R.map (·.1) := fun x hx => by
          have h1 := hin x (List.mem_cons_of_mem _ hx)
          rw [List.map_cons, List.mem_cons] at h1
          rcases h1 with h1 | h1
          · have := hp.1 x hx; omega
          · exact h1
        rw [List.filter_cons_of_pos (by simp), List.length_cons, List.length_cons, ← ih D hR' hp.2 hin']
        congr 2
        apply List.filter_congr
        intro x hx
        have h1 := ids_lt hR hx
        rw [decide_eq_decide, List.mem_cons]
        constructor
        · rintro (h2 | h2)
          · omega
          · exact h2
        · exact .inr
      · have hlt : ∀ x ∈ d :: D, r.1 < x := by
          have h0 : r.1 < d := by
            have h1 := hin d List.mem_cons_self
            rw [List.map_cons, List.mem_cons] at h1
            rcases h1 with h1 | h1
            · exact absurd h1 he
            · exact idsl_lt hR h1
          intro x hx
          rcases List.mem_cons.1 hx with rfl | hx
          · exact h0
          · have := hp.1 x hx; omega
        rw [List.filter_cons_of_neg (by rw [decide_eq_false fun hc : r.1 ∈ d :: D => absurd (hlt _ hc) (by omega)]; decide)]
        exact ih _ hR' hD fun x hx => by
          have h1 := hin x hx
          have h2 := hlt x hx
          rw [List.map_cons, List.mem_cons] at h1
          rcases h1 with h1 | h1
          · omega
          · exact h1
theorem len_split {α : Type} (R : List α) (p : α → Bool) : (R.filter fun r => !p r).length + (R.filter p).length = R.length := by
  induction R with
  | nil => rfl
  | cons r R ih =>
    cases h : p r
    · rw [List.filter_cons_of_pos (by rw [h]; rfl), List.filter_cons_of_neg (by rw [h]; decide), List.length_cons, List.length_cons]; omega
    · rw [List.filter_cons_of_neg (by rw [h]; decide), List.filter_cons_of_pos (by rw [h]), List.length_cons, List.length_cons]; omega
theorem kept_len {f : Nat → Col} {n : Nat} {nx : Int} {R : List TRow} {I : List (List Val)} {D : List Int} {U : List PRow} (h : ∀ i, i < R.length → RowOK f n nx R i) (hv : validC n R I D U = true) : (keptR D U R).length + D.length = R.length := by
  obtain ⟨h1, h2, -⟩ := validC_parts hv
  have ha := ((agree_iff h).2 ⟨h1, h2⟩).1
  have h3 := filt_len R D (rows_up h) ha.dup ha.din
  have h4 := len_split R fun r => decide (r.1 ∈ D)
  unfold keptR
  rw [List.length_map]
  omega
theorem applyE_is {nm : ByteArray} {n : Nat} {f : Nat → Col} {nx : Int} {R : List TRow} {I : List (List Val)} {D : List Int} {U : List PRow} (h : (validT nm n f nx R && validC n R I D U) = true) :
    applyE nm n f nx R I D U = if fitsC f n I U ≠ 0 then fitsC f n I U else if roomB nx R I D = false then 10 else if dupR (findKey f n) (afterR nx R I D U) = true then 9 else 0 := by
  have hp := h
  rw [Bool.and_eq_true] at hp
  have hk := kept_len (validT_parts hp.1).2.2.2.2.1 hp.2
  have hr : roomB nx R I D = false ↔ (100 < (keptR D U R).length + I.length ∨ 2147483648 - nx < I.length) := by
    unfold roomB
    rw [decide_eq_false_iff_not]
    omega
  unfold applyE fitsC
  rw [if_neg (by rw [h]; decide)]
  simp only [hr]
  by_cases hu : fitsL f n (U.map (·.2.2)) ≠ 0
  · simp only [if_pos hu]
  · simp only [if_neg hu]
theorem fits_len {f : Nat → Col} {n : Nat} {l : List Val} (h : fitsRow f n l = 0) : l.length = n := by
  by_cases hl : l.length = n
  · exact hl
  · rw [fitsRow_len hl] at h; cases h
theorem after_pos {nm : ByteArray} {n : Nat} {f : Nat → Col} {nx : Int} {R : List TRow} {I : List (List Val)} {D : List Int} {U : List PRow} (hv : validT nm n f nx R = true) (hf : fitsC f n I U = 0) : ∀ r ∈ afterR nx R I D U, 0 < r.2.length := by
  obtain ⟨hso, -, -, -, hrow, -⟩ := validT_parts hv
  obtain ⟨hn1, -⟩ := schemaOK_range hso
  obtain ⟨hU, hI⟩ := fitsC_parts hf
  intro r hr
  have h2 : r.2.length = n := by
    rcases List.mem_append.1 hr with hr | hr
    · unfold keptR at hr
      obtain ⟨x, hx, rfl⟩ := List.mem_map.1 hr
      have hx := (List.mem_filter.1 hx).1
      show (newV U x).length = n
      unfold newV
      cases hu : U.find? fun p => decide (p.1 = x.1) with
      | none =>
        obtain ⟨i, hi, he⟩ := List.getElem_of_mem hx
        rw [← tAt_get hi] at he
        subst he
        exact fits_len (hrow i hi).2.2.2
      | some p => exact fits_len (hU p (List.mem_of_find?_eq_some hu))
    · have : ∀ (I : List (List Val)) (nx : Int), (∀ l ∈ I, fitsRow f n l = 0) → ∀ r ∈ comeR nx I, r.2.length = n := by
        intro I
        induction I with
        | nil => intro nx _ r hr; cases hr
        | cons l I ih =>
          intro nx h r hr
          rcases List.mem_cons.1 hr with rfl | hr
          · exact fits_len (h l List.mem_cons_self)
          · exact ih (nx + 1) (fun x hx => h x (List.mem_cons_of_mem _ hx)) r hr
      exact this I nx hI r hr
  omega
/-- The boxes of Apply. -/
structure AB (w : World) (nm : ByteArray) (pc : Option Addr) (n cc : Nat) (nx : Int) (pr : Option Addr) (m cr : Nat) (pi : Option Addr) (mi ci : Nat) (pd : Option Addr) (md cd : Nat) (pu : Option Addr) (mu cu : Nat) (v : World) : Prop where
  kb : KB w nm pc n cc nx pr m cr pi mi ci pd md cd pu mu cu v
  res : Cell4 v (w.heap.size + 2) (.string ⟨#[]⟩) (.slice none 0 0) (.int .i64 0) (.slice none 0 0)
section
variable {w u v : World} {nm : ByteArray} {pc : Option Addr} {n cc : Nat} {nx : Int} {pr : Option Addr} {m cr : Nat} {pi : Option Addr} {mi ci : Nat} {pd : Option Addr} {md cd : Nat} {pu : Option Addr} {mu cu : Nat}
theorem AB.low (h : AB w nm pc n cc nx pr m cr pi mi ci pd md cd pu mu cu u) (hb : Below u.heap.size u v) : AB w nm pc n cc nx pr m cr pi mi ci pd md cd pu mu cu v := ⟨h.kb.low hb, h.res.low hb⟩
theorem AB.new (w : World) (nm : ByteArray) (pc : Option Addr) (n cc : Nat) (nx : Int) (pr : Option Addr) (m cr : Nat) (pi : Option Addr) (mi ci : Nat) (pd : Option Addr) (md cd : Nat) (pu : Option Addr) (mu cu : Nat) :
    AB w nm pc n cc nx pr m cr pi mi ci pd md cd pu mu cu (((w.alloc (.cells #[.string nm, .slice pc n cc, .int .i64 nx, .slice pr m cr] 29)).alloc (.cells #[.slice pi mi ci, .slice pd md cd, .slice pu mu cu] 46)).alloc (.cells #[.string ⟨#[]⟩, .slice none 0 0, .int .i64 0, .slice none 0 0] 29)) :=
  ⟨(KB.new w nm pc n cc nx pr m cr pi mi ci pd md cd pu mu cu).low (below_alloc _ _), (cell4_new ((w.alloc _).alloc _) _ _ _ _ _).at (by rw [size_alloc, size_alloc])⟩
theorem AB.ret (h : AB w nm pc n cc nx pr m cr pi mi ci pd md cd pu mu cu u) (a b c d : Value) : Below w.heap.size w ((((u.setCell ⟨w.heap.size + 2, 0, none⟩ a).setCell ⟨w.heap.size + 2, 1, none⟩ b).setCell ⟨w.heap.size + 2, 2, none⟩ c).setCell ⟨w.heap.size + 2, 3, none⟩ d) :=
  (((h.kb.bel.setCell (by exact Nat.le_add_right _ _) _).setCell (by exact Nat.le_add_right _ _) _).setCell (by exact Nat.le_add_right _ _) _).setCell (by exact Nat.le_add_right _ _) _
end
section
variable (nm : ByteArray) (pc : Option Addr) (n cc : Nat) (f : Nat → Col) (nx : Int) (pr : Option Addr) (cr : Nat) (R : List TRow) (pi : Option Addr) (ci : Nat) (I : List (List Val)) (pd : Option Addr) (cd : Nat) (D : List Int) (pu : Option Addr) (cu : Nat) (U : List PRow) (w : World)
theorem kvalid_eq (hT : TabAt w ⟨nm, pc, n, cc, f, nx, pr, cr, R⟩) (hC : ChgAt w ⟨pi, ci, I, pd, cd, D, pu, cu, U⟩) {b : Bool} (hv : (validT nm n f nx R && validC n R I D U) = b) :
    Calls Try.prog 22 #[.agg #[.string nm, .slice pc n cc, .int .i64 nx, .slice pr R.length cr], .agg #[.slice pi I.length ci, .slice pd D.length cd, .slice pu U.length cu]] w fun e w' => e = .returned (.bool b) ∧ Below w.heap.size w w' := by
  subst hv; exact kvalid_any nm pc n cc f nx pr cr R pi ci I pd cd D pu cu U w hT hC
theorem kfits_eq (hn : n ≤ 9223372036854775807) (hcol : ColsAt w pc n f) (hC : ChgAt w ⟨pi, ci, I, pd, cd, D, pu, cu, U⟩) :
    Calls Try.prog 23 #[.agg #[.string nm, .slice pc n cc], .agg #[.slice pi I.length ci, .slice pd D.length cd, .slice pu U.length cu]] w fun e w' => e = .returned (.int .i64 (fitsC f n I U)) ∧ Below w.heap.size w w' :=
  kfits_any nm pc n cc f ⟨pi, ci, I, pd, cd, D, pu, cu, U⟩ w hn hcol hC
theorem room_eq (hR : R.length ≤ 100) (hD : D.length ≤ 100) (hI : I.length ≤ 1000) (h1 : 1 ≤ nx) (h2 : nx ≤ 2147483648) {b : Bool} (hv : roomB nx R I D = b) :
    Calls Try.prog 24 #[.agg #[.string nm, .slice pc n cc, .int .i64 nx, .slice pr R.length cr], .agg #[.slice pi I.length ci, .slice pd D.length cd, .slice pu U.length cu]] w fun e w' => e = .returned (.bool b) ∧ Below w.heap.size w w' := by
  subst hv; exact room_any ⟨nm, pc, n, cc, cAt [], nx, pr, cr, R⟩ ⟨pi, ci, I, pd, cd, D, pu, cu, U⟩ w hR hD hI h1 h2
theorem kdup_eq (hT : TabAt w ⟨nm, pc, n, cc, f, nx, pr, cr, R⟩) {b : Bool} (hv : dupR (findKey f n) R = b) :
    Calls Try.prog 17 #[.agg #[.string nm, .slice pc n cc, .int .i64 nx, .slice pr R.length cr]] w fun e w' => e = .returned (.bool b) ∧ Below w.heap.size w w' := by
  subst hv; exact dup_any ⟨nm, pc, n, cc, f, nx, pr, cr, R⟩ w hT
/-- What Apply gives; the table lies in memory of the call's own. -/
def ApplyFree (T : Tab) (C : Chg) (w : World) (e : Ending) (w' : World) : Prop := ∃ S : Tab, e = .returned (.tuple #[S.v, .int .i64 (applyE T.nm T.n T.f T.nx T.R C.I C.D C.U)]) ∧ TabOwn w.heap.size w' S ∧ Below w.heap.size w w' ∧
  ((applyE T.nm T.n T.f T.nx T.R C.I C.D C.U = 0 ∧ S.nm = T.nm ∧ S.n = T.n ∧ (∀ i, i < T.n → S.f i = T.f i) ∧ S.nx = T.nx + C.I.length ∧ S.R = afterR T.nx T.R C.I C.D C.U) ∨ (applyE T.nm T.n T.f T.nx T.R C.I C.D C.U ≠ 0 ∧ S.nm = ⟨#[]⟩ ∧ S.n = 0 ∧ S.nx = 0 ∧ S.R = []))
theorem apply_errF {T : Tab} {C : Chg} {w w' : World} {er : Int} (he : applyE T.nm T.n T.f T.nx T.R C.I C.D C.U = er) (hne : er ≠ 0) (hb : Below w.heap.size w w') : ApplyFree T C w (.returned (.tuple #[zeroTab.v, .int .i64 er])) w' :=
  ⟨zeroTab, by rw [he], ⟨⟨[], TOwn.nil _ _, rfl⟩, COwn.zero _ _ _, (zeroTab_at w').name, (zeroTab_at w').n, (zeroTab_at w').len, (zeroTab_at w').sized, (zeroTab_at w').nxr⟩, hb, .inr ⟨by rw [he]; exact hne, rfl, rfl, rfl, rfl⟩⟩
set_option maxHeartbeats 4000000 in
theorem kapply_free (hT : TabAt w ⟨nm, pc, n, cc, f, nx, pr, cr, R⟩) (hC : ChgAt w ⟨pi, ci, I, pd, cd, D, pu, cu, U⟩) :
    Calls Try.prog 12 #[.agg #[.string nm, .slice pc n cc, .int .i64 nx, .slice pr R.length cr], .agg #[.slice pi I.length ci, .slice pd D.length cd, .slice pu U.length cu]] w (ApplyFree ⟨nm, pc, n, cc, f, nx, pr, cr, R⟩ ⟨pi, ci, I, pd, cd, D, pu, cu, U⟩ w) := by
  have HT := Lib.hid hT
  have HC := Lib.hid hC
  have hn63 := hT.n
  have hR63 := hT.len
  have hI63 := hC.inl
  dsimp only at hn63 hR63 hI63
  have HA := Lib.hid (AB.new w nm pc n cc nx pr R.length cr pi I.length ci pd D.length cd pu U.length cu)
  clear hT hC
  obtain ⟨vb, hvb⟩ : ∃ b, (validT nm n f nx R && validC n R I D U) = b := ⟨_, rfl⟩
  have HVB := Lib.hid hvb
  clear hvb
  go_enter Try.func12, Try.ntmps12
  go_upto_region 1 with (fail)
  generalize World.alloc _ _ = W0 at HA ⊢
  rw [show w.heap.size + 1 + 1 = w.heap.size + 2 from rfl]
  obtain ⟨xl, x0, x1, x2, x3, -⟩ := HA.out.kb.tab
  obtain ⟨yl, y0, y1, y2, -⟩ := HA.out.kb.chg
  go_wp2_with fail
  refine (kvalid_eq nm pc n cc f nx pr cr R pi ci I pd cd D pu cu U _ (HT.out.low HA.out.kb.bel) (HC.out.low HA.out.kb.bel) HVB.out).mono ?_
  rintro e w1 ⟨rfl, hb1⟩
  have HA1 := Lib.hid (HA.out.low hb1)
  clear HA hb1 xl x0 x1 x2 x3 yl y0 y1 y2
  cases vb
  · have HE := Lib.hid (applyE_bad HVB.out)
    have HYS := Lib.hid (cell4_put w1 HA1.out.res (.string ⟨#[]⟩) (.slice none 0 0) (.int .i64 0) (.slice none 0 0))
    obtain ⟨zl, z0, z1, z2, z3, zf⟩ := HA1.out.res
    go_wp2
    obtain ⟨-, s0, s1, s2, s3, -⟩ := HYS.out
    exact bodyPost_ret (v := .tuple #[zeroTab.v, .int .i64 17]) (by simp [results, Try.results12, go_sem, s0, s1, s2, s3, Tab.v, zeroTab]) rfl (apply_errF HE.out (by decide) (HA1.out.ret _ _ _ _))
  · have hp := HVB.out
    rw [Bool.and_eq_true] at hp
    obtain ⟨hvt, hvc⟩ := hp
    obtain ⟨hso, hR100, hnx1, hnx2, hrow, -⟩ := validT_parts hvt
    obtain ⟨hn1, hn6⟩ := schemaOK_range hso
    have hD100 : D.length ≤ 100 := by have := kept_len hrow hvc; omega
    have HREM := Lib.hid (remR_kept hrow hvc)
    have HKL := Lib.hid (kept_len hrow hvc)
    have HIS := Lib.hid (applyE_is HVB.out)
    have HVT := Lib.hid hvt
    clear hvt hvc hso hrow HVB
    obtain ⟨xl, x0, x1, x2, x3, -⟩ := HA1.out.kb.tab
    obtain ⟨yl, y0, y1, y2, -⟩ := HA1.out.kb.chg
    go_wp2_with fail
    refine (kfits_eq nm pc n cc f pi ci I pd cd D pu cu U _ hn63 (HT.out.low HA1.out.kb.bel).cols (HC.out.low HA1.out.kb.bel)).mono ?_
    rintro e w2 ⟨rfl, hb2⟩
    have HA2 := Lib.hid (HA1.out.low hb2)
    clear HA1 hb2 xl x0 x1 x2 x3 yl y0 y1 y2
    cases hz : (fitsC f n I U != 0)
    · have HFZ : Hid (fitsC f n I U = 0) := Lib.hid (bne_eq_false_iff_eq.1 hz)
      obtain ⟨rb, hrb⟩ : ∃ b, roomB nx R I D = b := ⟨_, rfl⟩
      have HRB := Lib.hid hrb
      clear hrb
      obtain ⟨xl, x0, x1, x2, x3, -⟩ := HA2.out.kb.tab
      obtain ⟨yl, y0, y1, y2, -⟩ := HA2.out.kb.chg
      go_wp2_with fail
      refine (room_eq nm pc n cc nx pr cr R pi ci I pd cd D pu cu U _ hR100 hD100 hI63 hnx1 hnx2 HRB.out).mono ?_
      rintro e w3 ⟨rfl, hb3⟩
      have HA3 := Lib.hid (HA2.out.low hb3)
      clear HA2 hb3 xl x0 x1 x2 x3 yl y0 y1 y2
      cases rb
      · have HE : Hid (applyE nm n f nx R I D U = 10) := Lib.hid (by rw [HIS.out, if_neg (by rw [HFZ.out]; simp), if_pos HRB.out])
        have HYS := Lib.hid (cell4_put w3 HA3.out.res (.string ⟨#[]⟩) (.slice none 0 0) (.int .i64 0) (.slice none 0 0))
        obtain ⟨zl, z0, z1, z2, z3, zf⟩ := HA3.out.res
        go_wp2
        obtain ⟨-, s0, s1, s2, s3, -⟩ := HYS.out
        exact bodyPost_ret (v := .tuple #[zeroTab.v, .int .i64 10]) (by simp [results, Try.results12, go_sem, s0, s1, s2, s3, Tab.v, zeroTab]) rfl (apply_errF HE.out (by decide) (HA3.out.ret _ _ _ _))
      · have hroom : (R.length : Int) - D.length + I.length ≤ 100 := by
          have := HRB.out
          unfold roomB at this
          exact (of_decide_eq_true this).1
        have hlen : (afterR nx R I D U).length ≤ 1000 := by
          unfold afterR
          rw [List.length_append, comeR_length]
          have := HKL.out
          omega
        obtain ⟨xl, x0, x1, x2, x3, -⟩ := HA3.out.kb.tab
        obtain ⟨yl, y0, y1, y2, -⟩ := HA3.out.kb.chg
        have HLEN := Lib.hid hlen
        clear hroom hlen
        go_wp2_with fail
        refine (changed_any nm pc n cc f nx pr cr R pi ci I pd cd D pu cu U _ (HT.out.low HA3.out.kb.bel) (HC.out.low HA3.out.kb.bel) hn1 (by omega) hnx1 hnx2 hR100 HREM.out (after_pos HVT.out HFZ.out) HLEN.out).mono ?_
        rintro e w4 ⟨p2, c2, q, cr2, rfl, hT4, hb4⟩
        have HW3 : Hid (w.heap.size + 2 < w3.heap.size) := Lib.hid HA3.out.res.lt
        have HA4 := Lib.hid ((HA3.out.low hb4).low (below_alloc _ (.cells #[.string nm, .slice p2 n c2, .int .i64 (nx + I.length), .slice q (afterR nx R I D U).length cr2] 29)))
        have HT4 := Lib.hid (hT4.low (below_alloc _ (.cells #[.string nm, .slice p2 n c2, .int .i64 (nx + I.length), .slice q (afterR nx R I D U).length cr2] 29)))
        have HX4 := Lib.hid (cell4_new w4 (.string nm) (.slice p2 n c2) (.int .i64 (nx + I.length)) (.slice q (afterR nx R I D U).length cr2) 29)
        clear HA3 hb4 hT4 xl x0 x1 x2 x3 yl y0 y1 y2
        go_upto_region 9 with (fail)
        generalize World.alloc _ _ = W5 at HA4 HT4 HX4 ⊢
        generalize w4.heap.size = X at HX4 ⊢
        obtain ⟨xl, x0, x1, x2, x3, -⟩ := HX4.out
        obtain ⟨db, hdb⟩ : ∃ b, dupR (findKey f n) (afterR nx R I D U) = b := ⟨_, rfl⟩
        have HDB := Lib.hid hdb
        clear hdb
        go_wp2_with fail
        refine (kdup_eq nm p2 n c2 f (nx + I.length) q cr2 (afterR nx R I D U) _ HT4.out.at HDB.out).mono ?_
        rintro e w6 ⟨rfl, hb6⟩
        have HA6 := Lib.hid (HA4.out.low hb6)
        have HT6 := Lib.hid (HT4.out.low hb6)
        have HX6 := Lib.hid (HX4.out.low hb6)
        clear HA4 HT4 HX4 hb6 xl x0 x1 x2 x3
        cases db
        · have HE : Hid (applyE nm n f nx R I D U = 0) := Lib.hid (by rw [HIS.out, if_neg (by rw [HFZ.out]; simp), if_neg (by rw [HRB.out]; simp), if_neg (by rw [HDB.out]; simp)])
          have HYS := Lib.hid (cell4_put w6 HA6.out.res (.string nm) (.slice p2 n c2) (.int .i64 (nx + I.length)) (.slice q (afterR nx R I D U).length cr2))
          have HRET := Lib.hid (HA6.out.ret (.string nm) (.slice p2 n c2) (.int .i64 (nx + I.length)) (.slice q (afterR nx R I D U).length cr2))
          have HFR := Lib.hid ((((HT6.out.set (b := w.heap.size + 2) (o := 0) HW3.out (.string nm)).set (b := w.heap.size + 2) (o := 1) HW3.out (.slice p2 n c2)).set (b := w.heap.size + 2) (o := 2) HW3.out (.int .i64 (nx + I.length))).set (b := w.heap.size + 2) (o := 3) HW3.out (.slice q (afterR nx R I D U).length cr2))
          obtain ⟨xl, x0, x1, x2, x3, -⟩ := HX6.out
          obtain ⟨zl, z0, z1, z2, z3, zf⟩ := HA6.out.res
          go_wp2
          obtain ⟨-, s0, s1, s2, s3, -⟩ := HYS.out
          exact bodyPost_ret (v := .tuple #[.agg #[.string nm, .slice p2 n c2, .int .i64 (nx + I.length), .slice q (afterR nx R I D U).length cr2], .int .i64 0]) (by simp [results, Try.results12, go_sem, s0, s1, s2, s3]) rfl
            ⟨⟨nm, p2, n, c2, f, nx + I.length, q, cr2, afterR nx R I D U⟩, by rw [HE.out]; rfl, HFR.out.mono (by have := HW3.out; omega), HRET.out, .inl ⟨HE.out, rfl, rfl, fun _ _ => rfl, rfl, rfl⟩⟩
        · have HE : Hid (applyE nm n f nx R I D U = 9) := Lib.hid (by rw [HIS.out, if_neg (by rw [HFZ.out]; simp), if_neg (by rw [HRB.out]; simp), if_pos HDB.out])
          have HYS := Lib.hid (cell4_put w6 HA6.out.res (.string ⟨#[]⟩) (.slice none 0 0) (.int .i64 0) (.slice none 0 0))
          obtain ⟨zl, z0, z1, z2, z3, zf⟩ := HA6.out.res
          go_wp2
          obtain ⟨-, s0, s1, s2, s3, -⟩ := HYS.out
          exact bodyPost_ret (v := .tuple #[zeroTab.v, .int .i64 9]) (by simp [results, Try.results12, go_sem, s0, s1, s2, s3, Tab.v, zeroTab]) rfl (apply_errF HE.out (by decide) (HA6.out.ret _ _ _ _))
    · have HNE := Lib.hid (bne_iff_ne.1 hz)
      have HE : Hid (applyE nm n f nx R I D U = fitsC f n I U) := Lib.hid (by rw [HIS.out, if_pos (bne_iff_ne.1 hz)])
      have HYS := Lib.hid (cell4_put w2 HA2.out.res (.string ⟨#[]⟩) (.slice none 0 0) (.int .i64 0) (.slice none 0 0))
      obtain ⟨zl, z0, z1, z2, z3, zf⟩ := HA2.out.res
      go_wp2
      obtain ⟨-, s0, s1, s2, s3, -⟩ := HYS.out
      exact bodyPost_ret (v := .tuple #[zeroTab.v, .int .i64 (fitsC f n I U)]) (by simp [results, Try.results12, go_sem, s0, s1, s2, s3, Tab.v, zeroTab]) rfl (apply_errF HE.out HNE.out (HA2.out.ret _ _ _ _))
theorem kapply_at (hT : TabAt w ⟨nm, pc, n, cc, f, nx, pr, cr, R⟩) (hC : ChgAt w ⟨pi, ci, I, pd, cd, D, pu, cu, U⟩) :
    Calls Try.prog 12 #[.agg #[.string nm, .slice pc n cc, .int .i64 nx, .slice pr R.length cr], .agg #[.slice pi I.length ci, .slice pd D.length cd, .slice pu U.length cu]] w (ApplyPost ⟨nm, pc, n, cc, f, nx, pr, cr, R⟩ ⟨pi, ci, I, pd, cd, D, pu, cu, U⟩ w) :=
  (kapply_free nm pc n cc f nx pr cr R pi ci I pd cd D pu cu U w hT hC).mono fun _ _ ⟨S, h1, h2, h3⟩ => ⟨S, h1, h2.at, h3⟩
end
end Go.Proofs.Ytgaihglploedaaa
