/-
  Several texts in one.
-/
import Derived.Test.YtgaihglploedaaaPk14
import Derived.Test.YtgaihglploedaaaPk04
import Derived.Deep.RegionHeld3
import Derived.Test.YtgaihglploedaaaPk12
import Derived.Test.YtgaihglploedaaaPk11
/-
  Tables whose memory lies from a block on.
-/
namespace Go.Proofs.Ytgaihglploedaaa
set_option maxRecDepth 100000
open Go.RowKit
variable {ls : List Nat}

theorem RowAt.keep {u v : World} {p : Option Addr} {l : List Val} (h : RowAt u p l) (hz : u.heap.size ≤ v.heap.size) (hk : ∀ a, p = some a → v.heap[a.block]? = u.heap[a.block]?) : RowAt v p l := fun i hi => by
  obtain ⟨c, o, hp, hc, h0, h1, h2⟩ := h i hi
  have hb : v.heap[c]? = u.heap[c]? := hk _ hp
  exact ⟨c, o, hp, by omega, by rw [World.cell?_of_block (w := u) hb]; exact h0, by rw [World.cell?_of_block (w := u) hb]; exact h1, by rw [World.cell?_of_block (w := u) hb]; exact h2⟩

/-- Rows whose memory lies from block lo on. -/
def TRowsIn (lo : Nat) (w : World) (p : Option Addr) (R : List TRow) : Prop :=
  ∀ i, i < R.length → ∃ (g : Nat) (q : Option Addr) (cp : Nat), p = some ⟨g, 0, none⟩ ∧ lo ≤ g ∧ g < w.heap.size ∧ w.cell? ⟨g, i * 2, none⟩ = some (.int .i64 (tAt R i).1) ∧ w.cell? ⟨g, i * 2 + 1, none⟩ = some (.slice q (tAt R i).2.length cp) ∧ RowAt w q (tAt R i).2 ∧ (tAt R i).2.length * 32 ≤ 140737488355328 ∧ (q = none → (tAt R i).2 = [] ∧ cp = 0) ∧ (∀ a, q = some a → lo ≤ a.block ∧ a.block < w.heap.size)
theorem TRowsIn.at {lo : Nat} {u v : World} {p : Option Addr} {R : List TRow} (h : TRowsIn lo u p R) (hz : u.heap.size ≤ v.heap.size) (hk : ∀ k, lo ≤ k → k < u.heap.size → v.heap[k]? = u.heap[k]?) : TRowsAt v p R := by
  intro i hi
  obtain ⟨g, q, cp, rfl, hg, hgs, h0, h1, hr, hs, hn, hq⟩ := h i hi
  have hb := hk g hg hgs
  exact ⟨g, 0, q, cp, rfl, by omega, by rw [Nat.zero_add, World.cell?_of_block (w := u) hb]; exact h0, by rw [Nat.zero_add, World.cell?_of_block (w := u) hb]; exact h1, hr.keep hz fun a ha => hk _ (hq a ha).1 (hq a ha).2, hs, hn⟩
theorem TRowsIn.mono {lo lo' : Nat} {u : World} {p : Option Addr} {R : List TRow} (h : TRowsIn lo u p R) (hl : lo' ≤ lo) : TRowsIn lo' u p R := by
  intro i hi
  obtain ⟨g, q, cp, hp, hg, hgs, h0, h1, hr, hs, hn, hq⟩ := h i hi
  exact ⟨g, q, cp, hp, by omega, hgs, h0, h1, hr, hs, hn, fun a ha => ⟨by have := (hq a ha).1; omega, (hq a ha).2⟩⟩

/-- Where the rows of the call's own lie. -/
theorem TOwn.slot {u : World} {base : Nat} {vr : Value} {G : List GRow} (h : TOwn u base vr G) (hl : 0 < G.length) : ∃ g c, vr = .slice (some ⟨g, 0, none⟩) G.length c ∧ base ≤ g ∧ g < u.heap.size ∧ (∀ o, u.frozen? ⟨g, o, none⟩ = false) ∧
    (∀ i, i < G.length → u.cell? ⟨g, i * 2, none⟩ = some (.int .i64 (grAt G i).1) ∧ u.cell? ⟨g, i * 2 + 1, none⟩ = some (grAt G i).2.1 ∧ (grAt G i).2.1.ownBlock ≠ some g) := by
  rcases h.own.2 with ⟨-, h0⟩ | ⟨g, cap', cur, rfl, hg, hh, hcap, hm, hcur, htake⟩
  · omega
  · have hget : ∀ j, j < G.length * 2 → cur[j]? = (tcells G)[j]? := fun j hj => by
      rw [← htake, List.getElem?_take, if_pos hj]; simp
    refine ⟨g, cap', rfl, hg, (Array.getElem?_eq_some_iff.1 hh).1, fun o => by simp [World.frozen?, hh], fun i hi => ?_⟩
    obtain ⟨c0, c1⟩ := tcells_at G i hi
    refine ⟨?_, ?_, fun he => ?_⟩
    · simp only [World.cell?, hh]
      rw [if_neg (by simp), hget _ (by omega), c0]
    · simp only [World.cell?, hh]
      rw [if_neg (by simp), hget _ (by omega), c1]
    · exact owns_apart (h.inn _ (grAt_mem hi)).1 h.own (by decide) g he rfl
theorem InRow.slot {u : World} {base : Nat} {v : Value} {l : List Val} (h : InRow u base (v, l)) (hl : 0 < l.length) : ∃ g c, v = .slice (some ⟨g, 0, none⟩) l.length c ∧ base ≤ g ∧ g < u.heap.size ∧ (∀ o, u.frozen? ⟨g, o, none⟩ = false) ∧ v.ownBlock = some g ∧ RowAt u (some ⟨g, 0, none⟩) l ∧ l.length ≤ c := by
  have hs := owned_shape h.1
  rcases h.1.2 with ⟨-, h0⟩ | ⟨g, cap', cur, hv, hg, hh, hcap, hm, hcur, htake⟩
  · exact absurd h0 (by show ¬ l.length = 0; omega)
  · have hv : v = .slice (some ⟨g, 0, none⟩) l.length cap' := hv
    subst hv
    exact ⟨g, cap', rfl, hg, (Array.getElem?_eq_some_iff.1 hh).1, fun o => by simp [World.frozen?, hh], rfl, hs.2.1, hcap⟩
theorem TOwn.rowsIn {u : World} {base : Nat} {vr : Value} {G : List GRow} (h : TOwn u base vr G) : TRowsIn base u (rowP vr) (tabR G) := by
  intro i hi
  have hi' : i < G.length := by rw [tabR_length] at hi; exact hi
  obtain ⟨g, c, rfl, hg, hgs, -, hc⟩ := h.slot (by omega)
  obtain ⟨c0, c1, -⟩ := hc i hi'
  obtain ⟨hv, hr, hn⟩ := owned_shape (h.inn _ (grAt_mem hi')).1
  have hl := (h.inn _ (grAt_mem hi')).2
  rw [tabR_at hi']
  refine ⟨g, rowP (grAt G i).2.1, rowC (grAt G i).2.1, rfl, hg, hgs, c0, by rw [c1, ← hv], hr, hl, hn, fun a ha => ?_⟩
  have hb : (grAt G i).2.1.ownBlock = some a.block := by rw [hv, ha]; rfl
  exact ⟨owns_block (h.inn _ (grAt_mem hi')).1 _ hb, owns_lt (h.inn _ (grAt_mem hi')).1 _ hb⟩
/-- A table that stays whatever is written below block lo. -/
def TabFree (lo : Nat) (u : World) (S : Tab) : Prop := ∀ v, u.heap.size ≤ v.heap.size → (∀ k, lo ≤ k → k < u.heap.size → v.heap[k]? = u.heap[k]?) → TabAt v S
theorem TabFree.at {lo : Nat} {u : World} {S : Tab} (h : TabFree lo u S) : TabAt u S := h u (Nat.le_refl _) fun _ _ _ => rfl
theorem TabFree.low {lo : Nat} {u v : World} {S : Tab} (h : TabFree lo u S) (hb : Below u.heap.size u v) : TabFree lo v S := fun x hz hk =>
  h x (Nat.le_trans hb.size hz) fun k h1 h2 => (hk k h1 (Nat.lt_of_lt_of_le h2 hb.size)).trans (hb.block k h2)
theorem TabFree.set {lo b o : Nat} {u : World} {S : Tab} (h : TabFree lo u S) (hb : b < lo) (y : Value) : TabFree lo (u.setCell ⟨b, o, none⟩ y) S := fun x hz hk =>
  h x (by have e : (u.setCell ⟨b, o, none⟩ y).heap.size = u.heap.size := by simp [World.setCell]
          omega) fun k h1 h2 => (hk k h1 (by simpa [World.setCell] using h2)).trans (Below.heap_setCell _ _ _ _ (by show k ≠ b; omega))
theorem TabFree.mono {lo lo' : Nat} {u : World} {S : Tab} (h : TabFree lo u S) (hl : lo' ≤ lo) : TabFree lo' u S := fun x hz hk => h x hz fun k h1 h2 => hk k (by omega) h2
/-- Such a table, whose rows can be appended to. -/
structure TabMine (lo : Nat) (u : World) (S : Tab) : Prop where
  free : TabFree lo u S
  own : ∃ G, TOwn u lo (.slice S.pr S.R.length S.cr) G ∧ tabR G = S.R
theorem TabMine.at {lo : Nat} {u : World} {S : Tab} (h : TabMine lo u S) : TabAt u S := h.free.at
theorem TabMine.low {lo : Nat} {u v : World} {S : Tab} (h : TabMine lo u S) (hb : Below u.heap.size u v) : TabMine lo v S := ⟨h.free.low hb, by
  obtain ⟨G, h1, h2⟩ := h.own
  exact ⟨G, h1.low hb, h2⟩⟩
theorem TabMine.set {lo b o : Nat} {u : World} {S : Tab} (h : TabMine lo u S) (hb : b < lo) (y : Value) : TabMine lo (u.setCell ⟨b, o, none⟩ y) S := ⟨h.free.set hb y, by
  obtain ⟨G, h1, h2⟩ := h.own
  exact ⟨G, h1.set hb y, h2⟩⟩
theorem TabMine.mono {lo lo' : Nat} {u : World} {S : Tab} (h : TabMine lo u S) (hl : lo' ≤ lo) : TabMine lo' u S := ⟨h.free.mono hl, by
  obtain ⟨G, h1, h2⟩ := h.own
  exact ⟨G, h1.base hl, h2⟩⟩
end Go.Proofs.Ytgaihglploedaaa
/-
  The capacity of a slice of the call's own.
-/
namespace Go.Proofs.Ytgaihglploedaaa
set_option maxRecDepth 100000
open Go.RowKit

theorem owns_cap {u : World} {base n : Nat} {e : TypeId} {p : Option Addr} {s m cap : Nat} {xs : List Value} (h : u.ownsRow base e s (.slice p m cap) n xs) : m = n ∧ n ≤ cap := by
  rcases h.2 with ⟨hv, h0⟩ | ⟨g, cap', cur, hv, hg, hh, hcap, -⟩
  · injection hv with h1 h2 h3
    omega
  · injection hv with h1 h2 h3
    omega
end Go.Proofs.Ytgaihglploedaaa
/-
  Package clone: copies of schemas, of lists of rows and of tables.
-/
namespace Go.Proofs.Ytgaihglploedaaa
set_option maxRecDepth 100000
open Go.RowKit
variable {ls : List Nat}

theorem own_ex {u : World} {base : Nat} {vr : Value} {e : TypeId} {s n : Nat} {xs : List Value} (h : u.ownsRow base e s vr n xs) : ∃ p c, vr = .slice p n c := by
  rcases h.2 with ⟨rfl, rfl⟩ | ⟨g, cap, cur, rfl, -⟩
  · exact ⟨none, 0, rfl⟩
  · exact ⟨_, cap, rfl⟩
theorem cell2_st1 {u : World} {X : Nat} {a b : Value} (h : Cell2 u X a b) (y : Value) : Cell2 (u.setCell ⟨X, 1, none⟩ y) X a y := by
  obtain ⟨hl, c0, c1, fz⟩ := h
  refine ⟨by simpa [World.setCell] using hl, ?_, ?_, fun o => ?_⟩
  · go_simp
  · go_simp
  · rw [World.frozen?_setCell]; exact fz o
theorem cell2_far {u : World} {X Y o : Nat} {a b : Value} (h : Cell2 u X a b) (hn : X ≠ Y) (y : Value) : Cell2 (u.setCell ⟨Y, o, none⟩ y) X a b := by
  have hb : (u.setCell ⟨Y, o, none⟩ y).heap[X]? = u.heap[X]? := Below.heap_setCell _ _ _ _ (by exact hn)
  exact ⟨by simpa [World.setCell] using h.lt, by rw [World.cell?_of_block (w := u) hb]; exact h.c0, by rw [World.cell?_of_block (w := u) hb]; exact h.c1, fun o => by rw [World.frozen?_of_block (w := u) hb]; exact h.fz o⟩
/-- Columns of the call's own. -/
def COwn (u : World) (lo : Nat) (p : Option Addr) (n c : Nat) (f : Nat → Col) : Prop := ∃ l : List Col, u.ownsRow lo 62 4 (.slice p n c) n (ccells l) ∧ Sized l ∧ ∀ i, i < n → cAt l i = f i
theorem COwn.keep {u v : World} {lo : Nat} {p : Option Addr} {n c : Nat} {f : Nat → Col} (h : COwn u lo p n c f) (hk : ∀ k, lo ≤ k → k < u.heap.size → v.heap[k]? = u.heap[k]?) : COwn v lo p n c f := by
  obtain ⟨l, h1, h2, h3⟩ := h
  exact ⟨l, owns_keep h1 fun k hk' => hk k (owns_block h1 k hk') (owns_lt h1 k hk'), h2, h3⟩
theorem COwn.low {u v : World} {lo : Nat} {p : Option Addr} {n c : Nat} {f : Nat → Col} (h : COwn u lo p n c f) (hb : Below u.heap.size u v) : COwn v lo p n c f := h.keep fun k _ h2 => hb.block k h2
theorem COwn.base {u : World} {lo lo' : Nat} {p : Option Addr} {n c : Nat} {f : Nat → Col} (h : COwn u lo p n c f) (hl : lo' ≤ lo) : COwn u lo' p n c f := by
  obtain ⟨l, h1, h2, h3⟩ := h
  exact ⟨l, owns_base h1 hl, h2, h3⟩
theorem COwn.set {u : World} {lo b o : Nat} {p : Option Addr} {n c : Nat} {f : Nat → Col} (h : COwn u lo p n c f) (hb : b < lo) (y : Value) : COwn (u.setCell ⟨b, o, none⟩ y) lo p n c f := h.keep fun k h1 _ => Below.heap_setCell _ _ _ _ (by show k ≠ b; omega)
theorem COwn.cols {u : World} {lo : Nat} {p : Option Addr} {n c : Nat} {f : Nat → Col} (h : COwn u lo p n c f) : ColsAt u p n f := by
  obtain ⟨l, h1, h2, h3⟩ := h
  obtain ⟨p', c', he, hn, hc, -⟩ := cols_of_owns h1 h2
  injection he with e1 e2 e3
  subst e1
  exact hc.congr fun i hi => (h3 i hi).symm
theorem COwn.zero (u : World) (lo : Nat) (f : Nat → Col) : COwn u lo none 0 0 f := ⟨[], ⟨rfl, Or.inl ⟨rfl, rfl⟩⟩, fun i hi => absurd hi (Nat.not_lt_zero i), fun i hi => absurd hi (Nat.not_lt_zero i)⟩
/-- A table of the call's own, whose rows can be appended to. -/
structure TabOwn (lo : Nat) (u : World) (S : Tab) : Prop where
  own : ∃ G, TOwn u lo (.slice S.pr S.R.length S.cr) G ∧ tabR G = S.R
  col : COwn u lo S.pc S.n S.cc S.f
  name : S.nm.size ≤ 9223372036854775807
  n : S.n ≤ 9223372036854775807
  len : S.R.length ≤ 1000
  sized : ∀ r ∈ S.R, ValsSized r.2
  nxr : S.nx ≤ 9223372036854775807
theorem TabOwn.at {lo : Nat} {u : World} {S : Tab} (h : TabOwn lo u S) : TabAt u S := by
  obtain ⟨G, h1, h2⟩ := h.own
  have hr := h1.rows
  rw [h2] at hr
  exact ⟨h.name, h.n, h.col.cols, hr, h.len, h.sized, h.nxr⟩
theorem TabOwn.low {lo : Nat} {u v : World} {S : Tab} (h : TabOwn lo u S) (hb : Below u.heap.size u v) : TabOwn lo v S := by
  obtain ⟨G, h1, h2⟩ := h.own
  exact ⟨⟨G, h1.low hb, h2⟩, h.col.low hb, h.name, h.n, h.len, h.sized, h.nxr⟩
theorem TabOwn.keep {lo : Nat} {u v : World} {S : Tab} (h : TabOwn lo u S) (hk : ∀ k, lo ≤ k → k < u.heap.size → v.heap[k]? = u.heap[k]?) : TabOwn lo v S := by
  obtain ⟨G, h1, h2⟩ := h.own
  exact ⟨⟨G, h1.keep hk, h2⟩, h.col.keep hk, h.name, h.n, h.len, h.sized, h.nxr⟩
theorem TabOwn.set {lo b o : Nat} {u : World} {S : Tab} (h : TabOwn lo u S) (hb : b < lo) (y : Value) : TabOwn lo (u.setCell ⟨b, o, none⟩ y) S := h.keep fun k h1 _ => Below.heap_setCell _ _ _ _ (by show k ≠ b; omega)
theorem TabOwn.mono {lo lo' : Nat} {u : World} {S : Tab} (h : TabOwn lo u S) (hl : lo' ≤ lo) : TabOwn lo' u S := by
  obtain ⟨G, h1, h2⟩ := h.own
  exact ⟨⟨G, h1.base hl, h2⟩, h.col.base hl, h.name, h.n, h.len, h.sized, h.nxr⟩
theorem TabOwn.free {lo : Nat} {u : World} {S : Tab} (h : TabOwn lo u S) : TabFree lo u S := fun _ _ hk => (h.keep hk).at
/-- What a copy of a schema gives. -/
def CloneSPost (nm : ByteArray) (n : Nat) (f : Nat → Col) (w : World) (e : Ending) (w' : World) : Prop := ∃ (p2 : Option Addr) (c2 : Nat), e = .returned (.agg #[.string nm, .slice p2 n c2]) ∧ COwn w' w.heap.size p2 n c2 f ∧ Below w.heap.size w w'
set_option maxHeartbeats 2000000 in
theorem clonesch_any (nm : ByteArray) (p : Option Addr) (n cc : Nat) (f : Nat → Col) (w : World) (hn1 : 0 < n) (hn6 : n ≤ 1000) (hC : ColsAt w p n f) :
    Calls Try.prog 32 #[.agg #[.string nm, .slice p n cc]] w (CloneSPost nm n f w) := by
  unfold CloneSPost
  obtain ⟨c, o, rfl, -⟩ := hC.ptr hn1
  obtain ⟨l, hl, hlf⟩ := cols_list n f
  have hb0 : Below w.heap.size w ((w.alloc (.cells #[.string nm, .slice (some ⟨c, o, none⟩) n cc] 25)).alloc (.cells #[.string ⟨#[]⟩, .slice none 0 0] 25)) := below_new (below_new (Below.refl _ _) _) _
  have hcols : ColsAt w (some ⟨c, o, none⟩) l.length (cAt l) := by rw [hl]; exact hC.congr hlf
  have hsz : Sized l := fun i hi => by
    obtain ⟨-, -, -, -, hs, -⟩ := hcols i hi
    exact hs
  have HCL := Lib.hid (hcols.low hb0)
  have HSZ := Lib.hid hsz
  have HLF : Hid (∀ i, i < n → f i = cAt l i) := Lib.hid fun i hi => (hlf i hi).symm
  have HX := Lib.hid ((cell2_new w (.string nm) (.slice (some ⟨c, o, none⟩) n cc) 25).low (below_alloc _ (.cells #[.string ⟨#[]⟩, .slice none 0 0] 25)))
  have hy := cell2_new (w.alloc (.cells #[.string nm, .slice (some ⟨c, o, none⟩) n cc] 25)) (.string ⟨#[]⟩) (.slice none 0 0) 25
  rw [size_alloc] at hy
  have HY := Lib.hid hy
  have HB0 := Lib.hid hb0
  have hown0 : ∀ W : World, W.ownsRow W.heap.size 62 4 (.slice none 0 0) 0 (ccells []) := fun W => ⟨rfl, Or.inl ⟨rfl, rfl⟩⟩
  have HO := Lib.hid hown0
  clear hC hb0 hown0 hcols hsz hlf hy
  go_enter Try.func32, Try.ntmps32
  go_upto_region 1 with (fail)
  generalize World.alloc _ _ = W0 at HCL HX HY HB0 ⊢
  obtain ⟨hxl, x0, x1, xf⟩ := HX.out
  have hyl := HY.out.lt
  go_upto_region 2 with (at_builtin; refine wpList_append_cols rfl _ (.tmp 4) rfl W0.heap.size _ 0 [] rfl (HO.out _) ⟨c, o, none⟩ l cc n rfl hl HCL.out (by omega) (Nat.le_refl _) ?_; intro v2 w2 hown2 hgr2; (have hb2 := grown_below (Below.refl W0.heap.size W0) (Nat.le_refl _) hgr2 (fun k hk => by cases hk)); rw [Nat.zero_add, List.nil_append] at hown2; obtain ⟨p2, c2, hv2⟩ := own_ex hown2; subst hv2; (have HC2 : Hid (COwn w2 (w.heap.size + 2) p2 n c2 f) := Lib.hid ⟨l, owns_base (by rw [hl] at hown2; exact hown2) (by omega), HSZ.out, fun i hi => (HLF.out i hi).symm⟩); (have HX2 := Lib.hid (HX.out.low hb2)); (have HY2 := Lib.hid (HY.out.low hb2)); (have HB2 := Lib.hid (below_next HB0.out hb2)); clear hown2 hgr2 hb2 hxl x0 x1 xf; obtain ⟨hxl, x0, x1, xf⟩ := HX2.out)
  have HX3 := Lib.hid (cell2_st1 HX2.out (.slice p2 n c2))
  have HY3 : Hid (Cell2 (w2.setCell ⟨w.heap.size, 1, none⟩ (.slice p2 n c2)) (w.heap.size + 1) (.string ⟨#[]⟩) (.slice none 0 0)) := Lib.hid (cell2_far HY2.out (by omega) _)
  have HC3 := Lib.hid (HC2.out.set (b := w.heap.size) (o := 1) (by omega) (.slice p2 n c2))
  have HB3 : Hid (Below w.heap.size w (w2.setCell ⟨w.heap.size, 1, none⟩ (.slice p2 n c2))) := Lib.hid (HB2.out.setCell (by exact Nat.le_refl _) _)
  clear HX2 HY2 HC2 HB2 hxl x0 x1 xf hyl
  generalize World.setCell _ _ _ = W3 at HX3 HY3 HC3 HB3 ⊢
  obtain ⟨hxl, x0, x1, xf⟩ := HX3.out
  obtain ⟨hyl, y0, y1, yf⟩ := HY3.out
  have HS := Lib.hid (cell2_put W3 HY3.out (.string nm) (.slice p2 n c2))
  go_wp2
  obtain ⟨-, s0, s1, -⟩ := HS.out
  exact bodyPost_ret (v := .agg #[.string nm, .slice p2 n c2]) (by simp [results, Try.results32, go_sem, s0, s1]) rfl
    ⟨p2, c2, rfl, ((HC3.out.set (b := w.heap.size + 1) (o := 0) (by omega) (.string nm)).set (b := w.heap.size + 1) (o := 1) (by omega) (.slice p2 n c2)).base (by omega), (HB3.out.setCell (by exact Nat.le_succ _) _).setCell (by exact Nat.le_succ _) _⟩
/-- What a copy of rows gives. -/
def CloneRPost (R : List TRow) (w : World) (e : Ending) (w' : World) : Prop := ∃ (p : Option Addr) (c : Nat) (G : List GRow), e = .returned (.slice p R.length c) ∧ TOwn w' w.heap.size (.slice p R.length c) G ∧ tabR G = R ∧ Below w.heap.size w w'
/-- What a copy of a table gives. -/
def CloneTPost (nm : ByteArray) (n : Nat) (f : Nat → Col) (nx : Int) (R : List TRow) (w : World) (e : Ending) (w' : World) : Prop :=
  ∃ (p2 : Option Addr) (c2 : Nat) (pr : Option Addr) (cr : Nat), e = .returned (.agg #[.string nm, .slice p2 n c2, .int .i64 nx, .slice pr R.length cr]) ∧ TabOwn w.heap.size w' ⟨nm, p2, n, c2, f, nx, pr, cr, R⟩ ∧ Below w.heap.size w w'
end Go.Proofs.Ytgaihglploedaaa
/-
  Package table: New.
-/
namespace Go.Proofs.Ytgaihglploedaaa
set_option maxRecDepth 100000
open Go.RowKit
variable {ls : List Nat}

set_option maxHeartbeats 1000000 in
theorem tnew_any (nm : ByteArray) (p : Option Addr) (n cap : Nat) (f : Nat → Col) (w : World) (hnm : nm.size ≤ 9223372036854775807) (hn : n ≤ 9223372036854775807) (hC : ColsAt w p n f) :
    Calls Try.prog 18 #[schV nm p n cap] w (TNewPost nm n f w) := by
  unfold schV TNewPost
  have hb0 : Below w.heap.size w ((w.alloc (.cells #[.string nm, .slice p n cap] 25)).alloc (.cells #[.string ⟨#[]⟩, .slice none 0 0, .int .i64 0, .slice none 0 0] 29)) := below_new (below_new (Below.refl _ _) _) _
  have HC := Lib.hid (hC.low hb0)
  have HX := Lib.hid ((cell2_new w (.string nm) (.slice p n cap) 25).low (below_alloc _ (.cells #[.string ⟨#[]⟩, .slice none 0 0, .int .i64 0, .slice none 0 0] 29)))
  have HY := Lib.hid ((cell4_new (w.alloc (.cells #[.string nm, .slice p n cap] 25)) (.string ⟨#[]⟩) (.slice none 0 0) (.int .i64 0) (.slice none 0 0) 29).at (size_alloc _ _))
  have HB0 := Lib.hid hb0
  clear hC hb0
  go_enter Try.func18, Try.ntmps18
  go_wp2_with fail
  refine (svalid_any nm p n cap f _ hnm hn HC.out).mono ?_
  rintro e w1 ⟨rfl, hb1⟩
  have HX1 := Lib.hid (HX.out.low hb1)
  have HY1 := Lib.hid (HY.out.low hb1)
  have HC1 := Lib.hid (HC.out.low hb1)
  have HB1 := Lib.hid (below_next HB0.out hb1)
  obtain ⟨hxl, x0, x1, xf⟩ := HX1.out
  obtain ⟨hyl, y0, y1, y2, y3, yf⟩ := HY1.out
  clear HC HX HY HB0 hb1
  cases hso : schemaOK nm n f
  · have HSO := Lib.hid hso
    have HYS := Lib.hid (cell4_put w1 HY1.out (.string ⟨#[]⟩) (.slice none 0 0) (.int .i64 0) (.slice none 0 0))
    go_wp2
    obtain ⟨-, s0, s1, s2, s3, -⟩ := HYS.out
    exact bodyPost_ret (v := .tuple #[zeroTab.v, .int .i64 17]) (by simp [results, Try.results18, go_sem, s0, s1, s2, s3, Tab.v, zeroTab]) rfl
      ⟨zeroTab, 17, rfl, zeroTab_at _, rfl, (((HB1.out.setCell (by exact Nat.le_succ _) _).setCell (by exact Nat.le_succ _) _).setCell (by exact Nat.le_succ _) _).setCell (by exact Nat.le_succ _) _, .inr ⟨HSO.out, rfl, rfl, rfl, rfl⟩⟩
  · have HSO := Lib.hid hso
    obtain ⟨hn1, hn6⟩ := schemaOK_range hso
    have hZ : w.heap.size + 1 < w1.heap.size := hyl
    clear hso
    go_wp2_with fail
    refine (clonesch_any nm p n cap f _ (by omega) (by omega) HC1.out).mono ?_
    rintro e w2 ⟨p2, c2, rfl, hco, hb2⟩
    have HCO := Lib.hid hco
    have HY2 := Lib.hid (HY1.out.low hb2)
    have HB2 := Lib.hid (below_next HB1.out hb2)
    clear hco hb2 x0 x1 xf y0 y1 y2 y3 yf hxl hyl HX1 HC1 HB1
    obtain ⟨yl2, t0, t1, t2, t3, tf⟩ := HY2.out
    have HYS := Lib.hid (cell4_put w2 HY2.out (.string nm) (.slice p2 n c2) (.int .i64 1) (.slice none 0 0))
    go_wp2
    obtain ⟨-, s0, s1, s2, s3, -⟩ := HYS.out
    exact bodyPost_ret (v := .tuple #[Tab.v ⟨nm, p2, n, c2, f, 1, none, 0, []⟩, .int .i64 0]) (by simp [results, Try.results18, go_sem, s0, s1, s2, s3, Tab.v]) rfl
      ⟨⟨nm, p2, n, c2, f, 1, none, 0, []⟩, 0, rfl, ⟨hnm, hn, ((((HCO.out.set (b := w.heap.size + 1) (by omega) _).set (b := w.heap.size + 1) (by omega) _).set (b := w.heap.size + 1) (by omega) _).set (b := w.heap.size + 1) (by omega) _).cols, TRowsAt.nil _ _, Nat.zero_le _, fun r hr => absurd hr (List.not_mem_nil), by show (1 : Int) ≤ 9223372036854775807; decide⟩, rfl,
        (((HB2.out.setCell (by exact Nat.le_succ _) _).setCell (by exact Nat.le_succ _) _).setCell (by exact Nat.le_succ _) _).setCell (by exact Nat.le_succ _) _, .inl ⟨HSO.out, rfl, rfl, rfl, fun _ _ => rfl, rfl⟩⟩
end Go.Proofs.Ytgaihglploedaaa
