/-
  Several texts in one.
-/
import Derived.Test.YtgaihglploedaaaDoorPk08
import Derived.Test.YtgaihglploedaaaDoorPk14
import Derived.Test.YtgaihglploedaaaDoorPk15
import Derived.Test.YtgaihglploedaaaDoorPk02
import Derived.Deep.RegionHeld3
import Derived.Deep.CutRange
import Derived.Test.YtgaihglploedaaaDoorPk12
/-
  THE STATEMENT TupleFits, as a walk.
-/
namespace Go.Proofs.YtgaihglploedaaaDoor
set_option maxRecDepth 100000
open Go.RowKit
variable {ls : List Nat}

/-- What the program's Fits does. -/
def FitsDoes : Prop := ∀ (nm : ByteArray) (p : Option Addr) (n cap : Nat) (f : Nat → Col) (q : Option Addr) (l : List Val) (cq : Nat) (w : World), n ≤ 9223372036854775807 → ColsAt w p n f → RowAt w q l → ValsSized l →
    Calls Tryd.prog 15 #[.agg #[.string nm, .slice p n cap], .slice q l.length cq] w fun e w' => e = .returned (.int .i64 (fitsRow f n l)) ∧ Below w.heap.size w w'
theorem rfits_agg (nm : ByteArray) (p : Option Addr) (n cap : Nat) (f : Nat → Col) (q : Option Addr) (l : List Val) (cq : Nat) (w : World) (hn : n ≤ 9223372036854775807) (hC : ColsAt w p n f) (hR : RowAt w q l) (hS : ValsSized l) :
    Calls Tryd.prog 18 #[.agg #[.string nm, .slice p n cap], .slice q l.length cq] w fun e w' => e = .returned (.int .i64 (fitsRow f n l)) ∧ Below w.heap.size w w' := by
  have := rrowfits_any nm p n cap f q l cq w hn hC hR hS
  unfold schV at this
  exact this
theorem schemaOK_ty {nm : ByteArray} {n : Nat} {f : Nat → Col} (h : schemaOK nm n f = true) (i : Nat) (hi : i < n) : 1 ≤ (f i).ty ∧ (f i).ty ≤ 3 := by
  have hg : Good f i := Classical.byContradiction fun hc => by rw [schemaOK_bad hi hc] at h; cases h
  have h1 := hg.1
  unfold colOK tyOK at h1
  simp at h1
  omega
theorem cell_apart {u : World} {g a c : Nat} {x : Value} (h : a ≠ c) : (u.setCell ⟨g, a, none⟩ x).cell? ⟨g, c, none⟩ = u.cell? ⟨g, c, none⟩ := World.cell?_setCell_other _ _ _ _ (by intro e; exact h (Addr.mk.inj e).2.1)
theorem vAt_set {l : List Val} {r i : Nat} {x : Val} (hr : r < l.length) : vAt (l.set r x) i = if i = r then x else vAt l i := by
  unfold vAt
  rw [List.getD, List.getElem?_set]
  by_cases h : r = i
  · subst h; rw [if_pos rfl, if_pos rfl, if_pos hr]; rfl
  · rw [if_neg h, if_neg (fun e => h e.symm)]; rfl
theorem RowAt.put {u : World} {g r : Nat} {l : List Val} (h : RowAt u (some ⟨g, 0, none⟩) l) (hr : r < l.length) (x : Val) :
    RowAt (((u.setCell ⟨g, r * 3, none⟩ (.int .i64 x.1)).setCell ⟨g, r * 3 + 1, none⟩ (.int .i64 x.2.1)).setCell ⟨g, r * 3 + 2, none⟩ (.string x.2.2)) (some ⟨g, 0, none⟩) (l.set r x) := by
  intro i hi
  rw [List.length_set] at hi
  obtain ⟨c, o, hp, hc, h0, h1, h2⟩ := h i hi
  obtain ⟨rfl, rfl⟩ : g = c ∧ 0 = o := by injection hp with hp; injection hp with e1 e2; exact ⟨e1, e2⟩
  rw [Nat.zero_add] at h0 h1 h2
  refine ⟨g, 0, rfl, by rw [set_size, set_size, set_size]; exact hc, ?_⟩
  rw [Nat.zero_add, vAt_set hr]
  by_cases hir : i = r
  · subst hir
    rw [if_pos rfl]
    refine ⟨by rw [cell_apart (by omega), cell_apart (by omega)]; exact World.cell?_setCell_same _ _ _ h0, by rw [cell_apart (by omega)]; exact World.cell?_setCell_same _ _ _ (by rw [cell_apart (by omega)]; exact h1), World.cell?_setCell_same _ _ _ (by rw [cell_apart (by omega), cell_apart (by omega)]; exact h2)⟩
  · rw [if_neg hir]
    exact ⟨by rw [cell_apart (by omega), cell_apart (by omega), cell_apart (by omega)]; exact h0, by rw [cell_apart (by omega), cell_apart (by omega), cell_apart (by omega)]; exact h1, by rw [cell_apart (by omega), cell_apart (by omega), cell_apart (by omega)]; exact h2⟩
theorem RowAt.tail {u : World} {g : Nat} {l : List Val} (h : RowAt u (some ⟨g, 0, none⟩) l) : RowAt u (some ⟨g, 3, none⟩) (l.drop 1) := by
  intro i hi
  rw [List.length_drop] at hi
  obtain ⟨c, o, hp, hc, h0, h1, h2⟩ := h (i + 1) (by omega)
  obtain ⟨rfl, rfl⟩ : g = c ∧ 0 = o := by injection hp with hp; injection hp with e1 e2; exact ⟨e1, e2⟩
  have hv : vAt (l.drop 1) i = vAt l (i + 1) := by unfold vAt; rw [List.getD, List.getElem?_drop, Nat.add_comm 1 i]; rfl
  rw [hv]
  have e0 : 0 + (i + 1) * 3 = 3 + i * 3 := by omega
  rw [e0] at h0 h1 h2
  exact ⟨g, 3, rfl, hc, h0, h1, h2⟩
theorem own3_block {u : World} {base g n c : Nat} {e : TypeId} {xs : List Value} (h : u.ownsRow base e 3 (.slice (some ⟨g, 0, none⟩) n c) n xs) (o : Nat) : u.frozen? ⟨g, o, none⟩ = false := by
  rcases h.2 with ⟨h1, -⟩ | ⟨g', cap, cur, h1, -, hh, -⟩
  · cases h1
  · injection h1 with h1 h2 h3
    injection h1 with h1
    injection h1 with h1
    subst h1
    exact Joins.unfrozen_of_block hh o
theorem FitsAll.sized {f : Nat → Col} {l : List Val} (h : FitsAll f l) : ValsSized l := fun i hi => Nat.le_trans (h i hi).2 (by decide)
theorem ValsSized.set {l : List Val} (h : ValsSized l) {r : Nat} (hr : r < l.length) {x : Val} (hx : x.2.2.size ≤ 9223372036854775807) : ValsSized (l.set r x) := fun i hi => by
  rw [List.length_set] at hi
  rw [vAt_set hr]
  split
  · exact hx
  · exact h i hi
theorem ValsSized.tail {l : List Val} (h : ValsSized l) : ValsSized (l.drop 1) := fun i hi => by
  rw [List.length_drop] at hi
  have hv : vAt (l.drop 1) i = vAt l (i + 1) := by unfold vAt; rw [List.getD, List.getElem?_drop, Nat.add_comm 1 i]; rfl
  rw [hv]
  exact h (i + 1) (by omega)

/-- The boxes of the two schemas, and the columns of the tape's. -/
structure TF (ls : List Nat) (w u : World) (b X Y : Nat) (m0 : ByteArray) (a0 : Option Addr) (n0 c0 : Nat) (nS : ByteArray) (gS oS cS : Nat) (lS : List Col) : Prop where
  x : Cell2 u X (.string m0) (.slice a0 n0 c0)
  y : Cell2 u Y (.string nS) (.slice (some ⟨gS, oS, none⟩) lS.length cS)
  cols : ColsAt u (some ⟨gS, oS, none⟩) lS.length (cAt lS)
  tape : TapeAt u b
  env : Env ls u
  low' : Below w.heap.size w u
section
variable {w u v : World} {b X Y n0 c0 gS oS cS : Nat} {m0 nS : ByteArray} {a0 : Option Addr} {lS : List Col}
theorem TF.next (h : TF ls w u b X Y m0 a0 n0 c0 nS gS oS cS lS) (hs : StepT b u v) (ht : TapeAt v b) (h8 : 3 ≤ b) (hw : w.heap.size ≤ b) (hX : X ≠ b) (hY : Y ≠ b) (hg : gS ≠ b) : TF ls w v b X Y m0 a0 n0 c0 nS gS oS cS lS :=
  ⟨h.x.step hs hX, h.y.step hs hY, h.cols.step hs (fun q hq => by cases hq; exact hg), ht, h.env.step hs h8, h.low'.trans (hs.below hw h.low'.size)⟩
theorem TF.low (h : TF ls w u b X Y m0 a0 n0 c0 nS gS oS cS lS) (hb : Below u.heap.size u v) : TF ls w v b X Y m0 a0 n0 c0 nS gS oS cS lS :=
  ⟨h.x.low hb, h.y.low hb, h.cols.low hb, h.tape.below hb, h.env.low hb, below_next h.low' hb⟩
end
theorem own3_shape {u : World} {base n : Nat} {v : Value} {l : List Val} (h : u.ownsRow base 34 3 v n (vcells l)) (hn : 0 < n) : ∃ g c, v = .slice (some ⟨g, 0, none⟩) n c ∧ base ≤ g := by
  rcases h.2 with ⟨-, h0⟩ | ⟨g, c, cur, he, hg, -⟩
  · omega
  · exact ⟨g, c, he, hg⟩

theorem TF.put {w u : World} {b X Y n0 c0 gS oS cS V o : Nat} {m0 nS : ByteArray} {a0 : Option Addr} {lS : List Col} (h : TF ls w u b X Y m0 a0 n0 c0 nS gS oS cS lS) (hX : X ≠ V) (hY : Y ≠ V) (hg : gS ≠ V) (hb : b < V) (hw : w.heap.size ≤ V) (h8 : 3 ≤ b) (y : Value) : TF ls w (u.setCell ⟨V, o, none⟩ y) b X Y m0 a0 n0 c0 nS gS oS cS lS :=
  ⟨h.x.far hX _, h.y.far hY _, h.cols.set (fun q hq => by cases hq; exact hg) _, h.tape.setCell (show b < V from hb) _, h.env.keep (by rw [set_size]; exact Nat.le_refl _) (fun k hk => Below.heap_setCell _ _ _ _ (by show k ≠ V; omega)), h.low'.setCell (by exact hw) _⟩
theorem FitsDoes.n (hF : FitsDoes) (nm : ByteArray) (p : Option Addr) (n cap : Nat) (f : Nat → Col) (q : Option Addr) (l : List Val) (k cq : Nat) (w : World) (hk : l.length = k) (hn : n ≤ 9223372036854775807) (hS : ValsSized l) (hC : ColsAt w p n f) (hR : RowAt w q l) :
    Calls Tryd.prog 15 #[.agg #[.string nm, .slice p n cap], .slice q k cq] w fun e w' => e = .returned (.int .i64 (fitsRow f n l)) ∧ Below w.heap.size w w' := by
  subst hk
  exact hF nm p n cap f q l cq w hn hC hR hS
theorem rfits_n (nm : ByteArray) (p : Option Addr) (n cap : Nat) (f : Nat → Col) (q : Option Addr) (l : List Val) (k cq : Nat) (w : World) (hk : l.length = k) (hn : n ≤ 9223372036854775807) (hS : ValsSized l) (hC : ColsAt w p n f) (hR : RowAt w q l) :
    Calls Tryd.prog 18 #[.agg #[.string nm, .slice p n cap], .slice q k cq] w fun e w' => e = .returned (.int .i64 (fitsRow f n l)) ∧ Below w.heap.size w w' := by
  subst hk
  exact rfits_agg nm p n cap f q l cq w hn hC hR hS
/-- What the last region leaves as it is. -/
structure R8 (w u : World) (gS oS g7 : Nat) (pt : Option Addr) (lS : List Col) (lm : List Val) (a0 : Option Addr) (n0 : Nat) (f0 : Nat → Col) (q0 : Option Addr) (l0 : List Val) : Prop where
  cols : ColsAt u (some ⟨gS, oS, none⟩) lS.length (cAt lS)
  row : RowAt u (some ⟨g7, 0, none⟩) lm
  tail : RowAt u pt (lm.drop 1)
  c0 : ColsAt u a0 n0 f0
  r0 : RowAt u q0 l0
  low' : Below w.heap.size w u
theorem keep8 {w u v : World} {X Y n0 c0 gS oS cS g7 : Nat} {pt : Option Addr} {m0 nS : ByteArray} {a0 q0 : Option Addr} {lS : List Col} {lm l0 : List Val} {f0 : Nat → Col} (hb : Below u.heap.size u v)
    (h : u.cell? ⟨X, 0, none⟩ = some (.string m0) ∧ u.cell? ⟨X, 1, none⟩ = some (.slice a0 n0 c0) ∧ u.cell? ⟨Y, 0, none⟩ = some (.string nS) ∧ u.cell? ⟨Y, 1, none⟩ = some (.slice (some ⟨gS, oS, none⟩) lS.length cS) ∧ X < u.heap.size ∧ Y < u.heap.size ∧ R8 w u gS oS g7 pt lS lm a0 n0 f0 q0 l0) :
    v.cell? ⟨X, 0, none⟩ = some (.string m0) ∧ v.cell? ⟨X, 1, none⟩ = some (.slice a0 n0 c0) ∧ v.cell? ⟨Y, 0, none⟩ = some (.string nS) ∧ v.cell? ⟨Y, 1, none⟩ = some (.slice (some ⟨gS, oS, none⟩) lS.length cS) ∧ X < v.heap.size ∧ Y < v.heap.size ∧ R8 w v gS oS g7 pt lS lm a0 n0 f0 q0 l0 := by
  obtain ⟨h0, h1, h2, h3, hx, hy, hc, hr, ht, k0, k1, hl⟩ := h
  exact ⟨by rw [hb.cell (by exact hx)]; exact h0, by rw [hb.cell (by exact hx)]; exact h1, by rw [hb.cell (by exact hy)]; exact h2, by rw [hb.cell (by exact hy)]; exact h3, Nat.lt_of_lt_of_le hx hb.size, Nat.lt_of_lt_of_le hy hb.size, hc.low hb, hr.low hb, ht.low hb, k0.low hb, k1.low hb, below_next hl hb⟩

set_option maxRecDepth 100000 in
set_option maxHeartbeats 1000000 in
theorem tfits_walk (hT : TupleDoes) (hF : FitsDoes) (w : World) (m0 : ByteArray) (a0 : Option Addr) (n0 c0 : Nat) (f0 : Nat → Col) (hn0 : n0 ≤ 9223372036854775807) (hC0 : ColsAt w a0 n0 f0) (q0 : Option Addr) (l0 : List Val) (cq0 : Nat) (hR0 : RowAt w q0 l0) (hS0 : ValsSized l0)
    (p : Option Addr) (len cap : Nat) (hl : len ≤ cap) (hm : len ≤ 9223372036854775807) (h : IntsAt w p len) (hE : Env ls w) (hlw : 1 ∈ ls) (hln : 0 ∈ ls) :
    Calls Tryd.prog 3 #[schV m0 a0 n0 c0, .slice q0 l0.length cq0, .slice p len cap] w fun e w' => e = .returned (.bool true) ∧ Below w.heap.size w w' := by
  unfold schV
  have hz8 := hE.size
  have hbx : Below w.heap.size w (w.alloc (.cells #[.string m0, .slice a0 n0 c0] 24)) := below_new (Below.refl _ _) _
  have HI := Lib.hid (h.low hbx)
  have HE := Lib.hid (hE.low hbx)
  have HX := Lib.hid (cell2_new w (.string m0) (.slice a0 n0 c0) 24)
  have HC0 := Lib.hid (hC0.low hbx)
  have HR0 := Lib.hid (hR0.low hbx)
  have HB := Lib.hid hbx
  have HS0 := Lib.hid hS0
  have HCW := Lib.hid hC0
  have HRW := Lib.hid hR0
  clear h hbx hE hC0 hR0 hS0
  go_enter Tryd.func3, Tryd.ntmps3
  go_wp2_with fail
  refine (new_any _ p len cap hl hm HI.out).mono ?_
  rintro e w1 ⟨b, rfl, hb0, ht, hb1⟩
  rw [size_alloc] at hb0
  have HX1 := Lib.hid (HX.out.low hb1)
  have HC1 := Lib.hid (HC0.out.low hb1)
  have HR1 := Lib.hid (HR0.out.low hb1)
  have HE1 := Lib.hid (HE.out.low hb1)
  have HB1 := Lib.hid (below_next HB.out hb1)
  have h8b : 3 ≤ b := by omega
  have hbw : b ≠ 1 := by omega
  have hWb : w.heap.size ≤ b := by omega
  have hbB : b < w1.heap.size := ht.lt
  clear HI HE HX HC0 HR0 HB hb1
  go_wp2_with fail
  refine (anyschema_any b _ h8b ht HE1.out hln).mono ?_
  rintro e w2 ⟨i, pS, lS, cS, rfl, hi8, hl1, hl5, hcS, hok, hpS, ht2, hs2⟩
  obtain ⟨gS, oS, rfl, -⟩ := hcS 0 (by omega)
  have hgS : w1.heap.size ≤ gS := hpS _ rfl
  have hsz12 : w1.heap.size ≤ w2.heap.size := hs2.size
  have hgz : gS < w2.heap.size := by obtain ⟨c, o, he, hc, -⟩ := hcS 0 (by omega); injection he with he; injection he with e1 e2; omega
  have hXb : w.heap.size ≠ b := by omega
  have hty := schemaOK_ty hok
  have HB2 := Lib.hid (HB1.out.trans (hs2.below hWb HB1.out.size))
  have HX2 := Lib.hid (HX1.out.step hs2 hXb)
  have HE2 := Lib.hid (HE1.out.step hs2 h8b)
  have hYb : w2.heap.size ≠ b := by omega
  have hgb : gS ≠ b := by omega
  have HF3 := Lib.hid (TF.mk (HX2.out.low (below_alloc _ _)) (cell2_new w2 (.string (nameS i)) (.slice (some ⟨gS, oS, none⟩) lS.length cS) 24) (hcS.low (below_alloc _ _)) (ht2.alloc _) (HE2.out.alloc _) (below_new HB2.out _) : TF ls w (w2.alloc (.cells #[.string (nameS i), .slice (some ⟨gS, oS, none⟩) lS.length cS] 24)) b w.heap.size w2.heap.size m0 a0 n0 c0 (nameS i) gS oS cS lS)
  unfold schV
  clear hpS hok ht hs2 ht2 hcS HX1 HX2 HE1 HE2 HB1 HB2 HC1 HR1
  go_wp2_with fail
  refine (row_any b _ h8b HF3.out.tape HF3.out.env hlw (nameS i) ⟨gS, oS, none⟩ lS.length cS (cAt lS) (by omega) HF3.out.cols hgb (by rw [size_alloc]; exact Nat.lt_succ_of_lt hgz) hty).mono ?_
  rintro e w4 ⟨v1, l1, rfl, hown1, hlen1, hfa1, ht4, hs4⟩
  have HF4 := Lib.hid (HF3.out.next hs4 ht4 h8b hWb hXb hYb hgb)
  obtain ⟨hv1, hr1, hnil1⟩ := owned_shape hown1
  generalize rowP v1 = p1 at hv1 hr1 hnil1
  generalize rowC v1 = c1 at hv1 hnil1
  subst hv1
  have HR4 := Lib.hid hr1
  have HNIL := Lib.hid hnil1
  have HFA := Lib.hid hfa1
  have hfit : fitsRow (cAt lS) lS.length l1 = 0 := fitsRow_ok hlen1 (fun j hj => (hfa1 j (by omega)).1)
  have hl15 : l1.length ≤ 5 := by omega
  have hl11 : 1 ≤ l1.length := by omega
  clear HF3 hs4 ht4 hr1 hnil1 hfa1 hown1 hlen1 hty
  have hYz := HF4.out.y.lt
  obtain ⟨-, y0, y1, yf⟩ := HF4.out.y
  go_wp2_with fail
  refine (hF (nameS i) (some ⟨gS, oS, none⟩) lS.length cS (cAt lS) p1 l1 c1 _ (by omega) HF4.out.cols HR4.out HFA.out.sized).mono ?_
  rintro e w5 ⟨rfl, hb⟩
  rw [hfit]
  have HF5 := Lib.hid (HF4.out.low hb)
  have HR5 := Lib.hid (HR4.out.low hb)
  clear hb HF4 HR4 y0 y1 yf hYz
  have HN := Lib.hid (owns_empty w5)
  have HR6 := Lib.hid (HR5.out.low (below_alloc w5 (.cells #[] 34)))
  have HZ : Hid (w5.heap.size ≤ (w5.alloc (.cells #[] 34)).heap.size) := Lib.hid (below_alloc w5 _).size
  have HLo : Hid (Below w5.heap.size w5 (w5.alloc (.cells #[] 34))) := Lib.hid (below_alloc w5 _)
  have hb5 : b < w5.heap.size := HF5.out.tape.lt
  have hY5 : w2.heap.size < w5.heap.size := HF5.out.y.lt
  go_wp2_with (at_builtin; refine wpList_append_vals rfl (.tmp 22) (.tmp 23) rfl w5.heap.size _ 0 [] rfl HN.out p1 l1 c1 rfl HR6.out HNIL.out (by omega) HZ.out ?_; intro v7 w7 hown7 hgr7; (have HL7 := Lib.hid (grown_below HLo.out HZ.out hgr7 (owns_block HN.out))); rw [Nat.zero_add, List.nil_append] at hown7; (obtain ⟨g7, c7, rfl, hg7⟩ := own3_shape hown7 hl11); (have HO7 := Lib.hid hown7); clear hown7 hgr7)
  have HF7 := Lib.hid (HF5.out.low HL7.out)
  clear HF5 HR5 HN HR6 HZ HLo HL7
  refine (next_any b _ _ (by omega) (by omega) HF7.out.tape).mono ?_
  rintro e w8 ⟨r, rfl, hr0, hr1, ht8, hs8⟩
  obtain ⟨r, rfl⟩ := Int.eq_ofNat_of_zero_le hr0
  have hrl : r < l1.length := by omega
  have hrl' : (r : Int) < (l1.length : Int) := by omega
  have HF8 := Lib.hid (HF7.out.next hs8 ht8 h8b hWb hXb hYb hgb)
  have HO8 := Lib.hid (owns_step HO7.out hb5 hs8)
  clear HF7 HO7 hs8 ht8
  go_wp2_with fail
  refine (odd_any b _ hbw HF8.out.tape (HF8.out.env.words hlw)).mono ?_
  rintro e w9 ⟨ko, no, so, rfl, ho, ht9, hs9⟩
  have HF9 := Lib.hid (HF8.out.next hs9 ht9 h8b hWb hXb hYb hgb)
  have HO9 := Lib.hid (owns_step HO8.out hb5 hs9)
  have HSO := Lib.hid (show so.size ≤ 9223372036854775807 from Nat.le_trans ho.2.2.2.2 (by decide))
  clear HF8 HO8 hs9 ht9 ho
  have hrow9 : RowAt w9 (some ⟨g7, 0, none⟩) l1 := (owned_shape HO9.out).2.1
  have HRW9 := Lib.hid hrow9
  have hf9 := own3_block HO9.out
  have hf0 := hf9 (r * 3)
  have hf1 := hf9 (r * 3 + 1)
  have hf2 := hf9 (r * 3 + 2)
  obtain ⟨c9, o9, he9, hz9, v0, v1, v2⟩ := hrow9 r hrl
  obtain ⟨rfl, rfl⟩ : g7 = c9 ∧ 0 = o9 := by injection he9 with he9; injection he9 with e1 e2; exact ⟨e1, e2⟩
  rw [Nat.zero_add] at v0 v1 v2
  have HM := Lib.hid (HRW9.out.put hrl (ko, no, so))
  clear he9 hf9
  go_wp2_with fail
  have h3 := HF9.out
  have h3 := h3.put (V := g7) (o := r * 3) (by omega) (by omega) (by omega) (by omega) (by omega) h8b (.int .i64 ko)
  have h3 := h3.put (V := g7) (o := r * 3 + 1) (by omega) (by omega) (by omega) (by omega) (by omega) h8b (.int .i64 no)
  have h3 := h3.put (V := g7) (o := r * 3 + 2) (by omega) (by omega) (by omega) (by omega) (by omega) h8b (.string so)
  have HF10 := Lib.hid h3
  have HSM := Lib.hid (HFA.out.sized.set hrl (x := (ko, no, so)) HSO.out)
  have hlm : (l1.set r (ko, no, so)).length = l1.length := List.length_set
  have hcap := (HO9.out).2
  have hlc : l1.length ≤ c7 := by
    rcases hcap with ⟨h0, -⟩ | ⟨g', cap', cur, he, -, -, hc, -⟩
    · cases h0
    · injection he with _ _ e3; omega
  clear h3 hcap HF9 HO9 HRW9 hrow9 hf0 hf1 hf2 hz9 v0 v1 v2 hfit HNIL hrl' hr0 hr1
  generalize ((w9.setCell ⟨g7, r * 3, none⟩ (.int .i64 ko)).setCell ⟨g7, r * 3 + 1, none⟩ (.int .i64 no)).setCell ⟨g7, r * 3 + 2, none⟩ (.string so) = W10 at HF10 HM ⊢
  generalize l1.set r (ko, no, so) = lm at HM HSM hlm
  have HST := Lib.hid HSM.out.tail
  have hlt9 : (lm.drop 1).length = l1.length - 1 := by rw [List.length_drop, hlm]
  have hl9 : lS.length ≤ 9223372036854775807 := by omega
  have h1l : (1 : Int) ≤ (l1.length : Int) := by omega
  have h1c : (1 : Int) ≤ (c7 : Int) := by omega
  clear hrl HFA HSO
  by_cases hc1 : c7 = 1
  · have hl1' : l1.length = 1 := by omega
    have HLL := Lib.hid hl1'
    have hlt0 : (lm.drop 1).length = 0 := by rw [hlt9]; omega
    clear hl1'
    subst hc1
    have HR8 := Lib.hid (R8.mk (g7 := g7) (pt := (some ⟨g7, 0, none⟩)) HF10.out.cols HM.out (fun i hi => by have := HLL.out; omega) (HCW.out.low HF10.out.low') (HRW.out.low HF10.out.low') HF10.out.low' : R8 w W10 gS oS g7 (some ⟨g7, 0, none⟩) lS lm a0 n0 f0 q0 l0)
    obtain ⟨xz, x0, x1, -⟩ := HF10.out.x
    obtain ⟨yz, y0, y1, -⟩ := HF10.out.y
    clear HF10 HM
    go_region_held3 (fun u => u.cell? ⟨w.heap.size, 0, none⟩ = some (.string m0) ∧ u.cell? ⟨w.heap.size, 1, none⟩ = some (.slice a0 n0 c0) ∧ u.cell? ⟨w2.heap.size, 0, none⟩ = some (.string (nameS i)) ∧ u.cell? ⟨w2.heap.size, 1, none⟩ = some (.slice (some ⟨gS, oS, none⟩) lS.length cS) ∧ w.heap.size < u.heap.size ∧ w2.heap.size < u.heap.size ∧ R8 w u gS oS g7 (some ⟨g7, 0, none⟩) lS lm a0 n0 f0 q0 l0)
        (first
          | exact ⟨x0, x1, y0, y1, xz, yz, R8.mk HR8.out.cols HR8.out.row HR8.out.tail HR8.out.c0 HR8.out.r0 HR8.out.low'.drew⟩
          | with_reducible exact keep8 hbq (by assumption))
        (first
          | (go_at_call 15; with_reducible refine (hF.n m0 a0 n0 c0 f0 q0 l0 l0.length cq0 _ rfl hn0 HS0.out ?_ ?_).mono ?_; (go_split_ands; exact R8.c0 (by assumption)); (go_split_ands; exact R8.r0 (by assumption)); rintro e wq ⟨rfl, hbq⟩)
          | (go_at_call 15; with_reducible refine (hF.n (nameS i) (some ⟨gS, oS, none⟩) lS.length cS (cAt lS) (some ⟨g7, 0, none⟩) lm l1.length 1 _ hlm hl9 HSM.out ?_ ?_).mono ?_; (go_split_ands; exact R8.cols (by assumption)); (go_split_ands; exact R8.row (by assumption)); rintro e wq ⟨rfl, hbq⟩)
          | (go_at_call 15; with_reducible refine (hF.n (nameS i) (some ⟨gS, oS, none⟩) lS.length cS (cAt lS) (some ⟨g7, 0, none⟩) (lm.drop 1) 0 0 _ hlt0 hl9 HST.out ?_ ?_).mono ?_; (go_split_ands; exact R8.cols (by assumption)); (go_split_ands; exact R8.tail (by assumption)); rintro e wq ⟨rfl, hbq⟩)
          | (go_at_call 15; with_reducible refine (hF.n (nameS i) (some ⟨gS, oS, none⟩) lS.length cS (cAt lS) q0 l0 l0.length cq0 _ rfl hl9 HS0.out ?_ ?_).mono ?_; (go_split_ands; exact R8.cols (by assumption)); (go_split_ands; exact R8.r0 (by assumption)); rintro e wq ⟨rfl, hbq⟩)
          | (go_at_call 18; with_reducible refine (rfits_n m0 a0 n0 c0 f0 q0 l0 l0.length cq0 _ rfl hn0 HS0.out ?_ ?_).mono ?_; (go_split_ands; exact R8.c0 (by assumption)); (go_split_ands; exact R8.r0 (by assumption)); rintro e wq ⟨rfl, hbq⟩)
          | (go_at_call 18; with_reducible refine (rfits_n (nameS i) (some ⟨gS, oS, none⟩) lS.length cS (cAt lS) (some ⟨g7, 0, none⟩) lm l1.length 1 _ hlm hl9 HSM.out ?_ ?_).mono ?_; (go_split_ands; exact R8.cols (by assumption)); (go_split_ands; exact R8.row (by assumption)); rintro e wq ⟨rfl, hbq⟩)
          | (go_at_call 18; with_reducible refine (rfits_n (nameS i) (some ⟨gS, oS, none⟩) lS.length cS (cAt lS) (some ⟨g7, 0, none⟩) (lm.drop 1) 0 0 _ hlt0 hl9 HST.out ?_ ?_).mono ?_; (go_split_ands; exact R8.cols (by assumption)); (go_split_ands; exact R8.tail (by assumption)); rintro e wq ⟨rfl, hbq⟩)
          | (go_at_call 18; with_reducible refine (rfits_n (nameS i) (some ⟨gS, oS, none⟩) lS.length cS (cAt lS) q0 l0 l0.length cq0 _ rfl hl9 HS0.out ?_ ?_).mono ?_; (go_split_ands; exact R8.cols (by assumption)); (go_split_ands; exact R8.r0 (by assumption)); rintro e wq ⟨rfl, hbq⟩)
          | (go_at_call 19; refine (known5_any hT _).mono ?_; rintro e wq ⟨rfl, hbq⟩))
    rename_i hHeld
    obtain ⟨-, -, -, -, -, -, hR9⟩ := hHeld
    clear xz x0 x1 yz y0 y1 HR8 hbq
    go_wp2
    go_ret
    exact ⟨rfl, hR9.low'⟩
  · have HR8 := Lib.hid (R8.mk (g7 := g7) (pt := (some ⟨g7, 3, none⟩)) HF10.out.cols HM.out HM.out.tail (HCW.out.low HF10.out.low') (HRW.out.low HF10.out.low') HF10.out.low' : R8 w W10 gS oS g7 (some ⟨g7, 3, none⟩) lS lm a0 n0 f0 q0 l0)
    obtain ⟨xz, x0, x1, -⟩ := HF10.out.x
    obtain ⟨yz, y0, y1, -⟩ := HF10.out.y
    clear HF10 HM
    go_region_held3 (fun u => u.cell? ⟨w.heap.size, 0, none⟩ = some (.string m0) ∧ u.cell? ⟨w.heap.size, 1, none⟩ = some (.slice a0 n0 c0) ∧ u.cell? ⟨w2.heap.size, 0, none⟩ = some (.string (nameS i)) ∧ u.cell? ⟨w2.heap.size, 1, none⟩ = some (.slice (some ⟨gS, oS, none⟩) lS.length cS) ∧ w.heap.size < u.heap.size ∧ w2.heap.size < u.heap.size ∧ R8 w u gS oS g7 (some ⟨g7, 3, none⟩) lS lm a0 n0 f0 q0 l0)
        (first
          | exact ⟨x0, x1, y0, y1, xz, yz, R8.mk HR8.out.cols HR8.out.row HR8.out.tail HR8.out.c0 HR8.out.r0 HR8.out.low'.drew⟩
          | with_reducible exact keep8 hbq (by assumption))
        (first
          | (go_at_call 15; with_reducible refine (hF.n m0 a0 n0 c0 f0 q0 l0 l0.length cq0 _ rfl hn0 HS0.out ?_ ?_).mono ?_; (go_split_ands; exact R8.c0 (by assumption)); (go_split_ands; exact R8.r0 (by assumption)); rintro e wq ⟨rfl, hbq⟩)
          | (go_at_call 15; with_reducible refine (hF.n (nameS i) (some ⟨gS, oS, none⟩) lS.length cS (cAt lS) (some ⟨g7, 0, none⟩) lm l1.length c7 _ hlm hl9 HSM.out ?_ ?_).mono ?_; (go_split_ands; exact R8.cols (by assumption)); (go_split_ands; exact R8.row (by assumption)); rintro e wq ⟨rfl, hbq⟩)
          | (go_at_call 15; with_reducible refine (hF.n (nameS i) (some ⟨gS, oS, none⟩) lS.length cS (cAt lS) (some ⟨g7, 3, none⟩) (lm.drop 1) (l1.length - 1) (c7 - 1) _ hlt9 hl9 HST.out ?_ ?_).mono ?_; (go_split_ands; exact R8.cols (by assumption)); (go_split_ands; exact R8.tail (by assumption)); rintro e wq ⟨rfl, hbq⟩)
          | (go_at_call 15; with_reducible refine (hF.n (nameS i) (some ⟨gS, oS, none⟩) lS.length cS (cAt lS) q0 l0 l0.length cq0 _ rfl hl9 HS0.out ?_ ?_).mono ?_; (go_split_ands; exact R8.cols (by assumption)); (go_split_ands; exact R8.r0 (by assumption)); rintro e wq ⟨rfl, hbq⟩)
          | (go_at_call 18; with_reducible refine (rfits_n m0 a0 n0 c0 f0 q0 l0 l0.length cq0 _ rfl hn0 HS0.out ?_ ?_).mono ?_; (go_split_ands; exact R8.c0 (by assumption)); (go_split_ands; exact R8.r0 (by assumption)); rintro e wq ⟨rfl, hbq⟩)
          | (go_at_call 18; with_reducible refine (rfits_n (nameS i) (some ⟨gS, oS, none⟩) lS.length cS (cAt lS) (some ⟨g7, 0, none⟩) lm l1.length c7 _ hlm hl9 HSM.out ?_ ?_).mono ?_; (go_split_ands; exact R8.cols (by assumption)); (go_split_ands; exact R8.row (by assumption)); rintro e wq ⟨rfl, hbq⟩)
          | (go_at_call 18; with_reducible refine (rfits_n (nameS i) (some ⟨gS, oS, none⟩) lS.length cS (cAt lS) (some ⟨g7, 3, none⟩) (lm.drop 1) (l1.length - 1) (c7 - 1) _ hlt9 hl9 HST.out ?_ ?_).mono ?_; (go_split_ands; exact R8.cols (by assumption)); (go_split_ands; exact R8.tail (by assumption)); rintro e wq ⟨rfl, hbq⟩)
          | (go_at_call 18; with_reducible refine (rfits_n (nameS i) (some ⟨gS, oS, none⟩) lS.length cS (cAt lS) q0 l0 l0.length cq0 _ rfl hl9 HS0.out ?_ ?_).mono ?_; (go_split_ands; exact R8.cols (by assumption)); (go_split_ands; exact R8.r0 (by assumption)); rintro e wq ⟨rfl, hbq⟩)
          | (go_at_call 19; refine (known5_any hT _).mono ?_; rintro e wq ⟨rfl, hbq⟩))
    rename_i hHeld
    obtain ⟨-, -, -, -, -, -, hR9⟩ := hHeld
    clear xz x0 x1 yz y0 y1 HR8 hbq
    go_wp2
    go_ret
    exact ⟨rfl, hR9.low'⟩
end Go.Proofs.YtgaihglploedaaaDoor
/-
  Fits of package tuple.
-/
namespace Go.Proofs.YtgaihglploedaaaDoor
set_option maxRecDepth 100000
open Go.RowKit
variable {ls : List Nat}

set_option maxRecDepth 100000 in
set_option maxHeartbeats 2000000 in
theorem rowfits_any (nm : ByteArray) (p : Option Addr) (n cap : Nat) (f : Nat → Col) (q : Option Addr) (l : List Val) (cq : Nat) (w : World) (hn : n ≤ 9223372036854775807) (hC : ColsAt w p n f) (hR : RowAt w q l) (hS : ValsSized l) :
    Calls Tryd.prog 15 #[schV nm p n cap, .slice q l.length cq] w fun e w' => e = .returned (.int .i64 (fitsRow f n l)) ∧ Below w.heap.size w w' := by
  unfold schV
  have HC := Lib.hid (hC.low (below_alloc w (.cells #[.string nm, .slice p n cap] 24)))
  have HR := Lib.hid (hR.low (below_alloc w (.cells #[.string nm, .slice p n cap] 24)))
  have HB := Lib.hid (below_alloc w (.cells #[.string nm, .slice p n cap] 24))
  have HX := Lib.hid (cell2_new w (.string nm) (.slice p n cap) 24)
  have HS := Lib.hid hS
  clear hC hR hS
  by_cases hln : l.length = n
  · have hlI : ((l.length : Int) != (n : Int)) = false := by simp [hln]
    have HLN := Lib.hid hln
    have hle : l.length ≤ n := by omega
    have hge : n ≤ l.length := by omega
    clear hln
    go_enter Tryd.func15, Tryd.ntmps15
    go_wp2_with fail
    go_loopw [17] (fun i v => ∃ k : Nat, k ≤ n ∧ i = .int .i64 k ∧ (∀ j, j < k → fitE f l j = 0) ∧ ColsAt v p n f ∧ RowAt v q l ∧ Cell2 v w.heap.size (.string nm) (.slice p n cap) ∧ Below w.heap.size w v) (fun i _ => n - (intOf i).toNat)
    case atStart => exact ⟨0, Nat.zero_le _, rfl, fun j hj => by omega, HC.out, HR.out, HX.out, HB.out⟩
    clear HC HR HX HB
    case round =>
      obtain ⟨k, hk, rfl, heq, hc0, hr0, hx0, hb0⟩ := hrel
      have HEQ := Lib.hid heq
      have HC := Lib.hid hc0
      have HR := Lib.hid hr0
      have HX := Lib.hid hx0
      have HB := Lib.hid hb0
      clear heq hb0 hx0
      by_cases hlt : k < n
      · have hlt' : decide ((k : Int) < n) = true := decide_eq_true (by omega)
        have hkl : k < l.length := by omega
        have hkI : (k : Int) < (l.length : Int) := by omega
        obtain ⟨c, o, rfl, hc, hsz, c0, c1, c2, c3⟩ := hc0 k hlt
        obtain ⟨c', o', rfl, hc', r0, r1, r2⟩ := hr0 k hkl
        clear hc0 hr0
        go_wp2_with fail
        have hb1 := below_alloc wr (.cells #[.string (f k).nm, .int .i64 (f k).ty, .bool (f k).nn, .bool (f k).key] 75)
        have HC1 := Lib.hid (HC.out.low hb1)
        have HR1 := Lib.hid (HR.out.low hb1)
        have HX1 := Lib.hid (HX.out.low hb1)
        have HB1 := Lib.hid (below_next HB.out hb1)
        obtain ⟨xz, x0, x1, x2, x3⟩ := ColBox.new wr (f k) 75
        have r0' : (wr.alloc (.cells #[.string (f k).nm, .int .i64 (f k).ty, .bool (f k).nn, .bool (f k).key] 75)).cell? ⟨c', o' + k * 3, none⟩ = some (.int .i64 (vAt l k).1) := by rw [hb1.cell (by exact hc')]; exact r0
        have r1' : (wr.alloc (.cells #[.string (f k).nm, .int .i64 (f k).ty, .bool (f k).nn, .bool (f k).key] 75)).cell? ⟨c', o' + k * 3 + 1, none⟩ = some (.int .i64 (vAt l k).2.1) := by rw [hb1.cell (by exact hc')]; exact r1
        have r2' : (wr.alloc (.cells #[.string (f k).nm, .int .i64 (f k).ty, .bool (f k).nn, .bool (f k).key] 75)).cell? ⟨c', o' + k * 3 + 2, none⟩ = some (.string (vAt l k).2.2) := by rw [hb1.cell (by exact hc')]; exact r2
        have hc2' := Nat.lt_of_lt_of_le hc' hb1.size
        clear HC HR HX HB hb1 c0 c1 c2 c3 r0 r1 r2 hc hc'
        generalize wr.alloc _ = W1 at HC1 HR1 HX1 HB1 xz x0 x1 x2 x3 r0' r1' r2' hc2' ⊢
        generalize wr.heap.size = X at xz x0 x1 x2 x3 ⊢
        go_region_held3 (fun u => u.cell? ⟨X, 0, none⟩ = some (.string (f k).nm) ∧ u.cell? ⟨X, 1, none⟩ = some (.int .i64 (f k).ty) ∧ u.cell? ⟨X, 2, none⟩ = some (.bool (f k).nn) ∧ u.cell? ⟨X, 3, none⟩ = some (.bool (f k).key) ∧ u.cell? ⟨c', o' + k * 3, none⟩ = some (.int .i64 (vAt l k).1) ∧ u.cell? ⟨c', o' + k * 3 + 1, none⟩ = some (.int .i64 (vAt l k).2.1) ∧ u.cell? ⟨c', o' + k * 3 + 2, none⟩ = some (.string (vAt l k).2.2) ∧ X < u.heap.size ∧ c' < u.heap.size ∧ ColsAt u (some ⟨c, o, none⟩) n f ∧ RowAt u (some ⟨c', o', none⟩) l ∧ Cell2 u w.heap.size (.string nm) (.slice (some ⟨c, o, none⟩) n cap) ∧ Below w.heap.size w u)
          (first
            | exact ⟨x0, x1, x2, x3, r0', r1', r2', xz, hc2', HC1.out, HR1.out, ⟨HX1.out.lt, HX1.out.c0, HX1.out.c1, HX1.out.fz⟩, HB1.out.drew⟩
            | exact keepRF hbq (by assumption))
          (first
            | (go_at_call 56; refine (fits_any (f k) _ _ _ _ (HS.out k hkl)).mono ?_; rintro e wq ⟨rfl, hbq⟩))
        rename_i hHeld
        obtain ⟨-, -, -, -, -, -, -, -, -, hc5, hr5, hx5, hb5⟩ := hHeld
        clear xz x0 x1 x2 x3 r0' r1' r2' hc2' HC1 HR1 HX1 HB1 hbq
        cases hz : (fitE f l k != 0)
        · have hz' : (fitsE (f k).ty (f k).nn (vAt l k).1 (vAt l k).2.1 (vAt l k).2.2 != 0) = false := hz
          have HZ : Hid (fitE f l k = 0) := Lib.hid (by simpa using hz)
          go_wp2
          go_roundw
          case rel => exact ⟨k + 1, by omega, by go_num, fun j hj => by
            by_cases hjk : j = k
            · subst hjk; exact HZ.out
            · exact HEQ.out j (by omega), hc5, hr5, hx5, hb5⟩
          case measure => simp [intOf]; omega
        · have hz' : (fitsE (f k).ty (f k).nn (vAt l k).1 (vAt l k).2.1 (vAt l k).2.2 != 0) = true := hz
          have HZ : Hid (¬ fitE f l k = 0) := Lib.hid (bne_iff_ne.1 hz)
          have HB5 := Lib.hid hb5
          go_wp2
          go_ret
          exact ⟨ret_int (fitsRow_hit HLN.out hlt HZ.out HEQ.out).symm, HB5.out⟩
      · have hlt' : decide ((k : Int) < n) = false := decide_eq_false (by omega)
        obtain rfl : k = n := by omega
        clear hc0 hr0
        go_wp2
        go_ret
        exact ⟨ret_int (fitsRow_ok HLN.out HEQ.out).symm, HB.out⟩
  · have hlI : ((l.length : Int) != (n : Int)) = true := bne_iff_ne.2 (by omega)
    have HLN := Lib.hid hln
    clear hln
    go_enter Tryd.func15, Tryd.ntmps15
    go_wp2
    go_ret
    exact ⟨ret_int (fitsRow_len HLN.out).symm, HB.out⟩
theorem fits_does : FitsDoes := by
  intro nm p n cap f q l cq w hn hC hR hS
  have := rowfits_any nm p n cap f q l cq w hn hC hR hS
  unfold schV at this
  exact this
end Go.Proofs.YtgaihglploedaaaDoor
