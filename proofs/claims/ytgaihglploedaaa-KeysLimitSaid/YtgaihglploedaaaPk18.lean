/-
  Several texts in one.
-/
import Derived.Test.YtgaihglploedaaaPk08
import Derived.Test.YtgaihglploedaaaPk11
import Derived.Test.YtgaihglploedaaaPk17
import Derived.Test.YtgaihglploedaaaPk02
import Derived.Deep.RegionHeld3
import Derived.Deep.CutRange
import Derived.Test.YtgaihglploedaaaPk09
import Derived.Test.YtgaihglploedaaaPk15
import Derived.Test.YtgaihglploedaaaPk12
import Derived.Test.YtgaihglploedaaaPk13
import Derived.Test.YtgaihglploedaaaPk14
/-
  THE STATEMENT TupleFits, as a walk.
-/
namespace Go.Proofs.Ytgaihglploedaaa
set_option maxRecDepth 100000
open Go.RowKit
variable {ls : List Nat}

/-- What the program's Fits does. -/
def FitsDoes : Prop := ∀ (nm : ByteArray) (p : Option Addr) (n cap : Nat) (f : Nat → Col) (q : Option Addr) (l : List Val) (cq : Nat) (w : World), n ≤ 9223372036854775807 → ColsAt w p n f → RowAt w q l → ValsSized l →
    Calls Try.prog 30 #[.agg #[.string nm, .slice p n cap], .slice q l.length cq] w fun e w' => e = .returned (.int .i64 (fitsRow f n l)) ∧ Below w.heap.size w w'
theorem schemaOK_ty {nm : ByteArray} {n : Nat} {f : Nat → Col} (h : schemaOK nm n f = true) (i : Nat) (hi : i < n) : 1 ≤ (f i).ty ∧ (f i).ty ≤ 3 := by
  have hg : Good f i := Classical.byContradiction fun hc => by rw [schemaOK_bad hi hc] at h; cases h
  have h1 := hg.1
  unfold colOK tyOK at h1
  simp at h1
  omega
theorem cell_apart {u : World} {g a c : Nat} {x : Value} (h : a ≠ c) : (u.setCell ⟨g, a, none⟩ x).cell? ⟨g, c, none⟩ = u.cell? ⟨g, c, none⟩ := World.cell?_setCell_other _ _ _ _ (by intro e; exact h (Addr.mk.inj e).2.1)
theorem vAt_set {l : List Val} {r i : Nat} {x : Val} (hr : r < l.length) : vAt (l.set r x) i = if i = r then x else vAt l i := by
  unfold vAt
  rw [List.getD, List.getElem?_set]
  by_cases h : r = i
  · subst h; rw [if_pos rfl, if_pos rfl, if_pos hr]; rfl
  · rw [if_neg h, if_neg (fun e => h e.symm)]; rfl
theorem RowAt.put {u : World} {g r : Nat} {l : List Val} (h : RowAt u (some ⟨g, 0, none⟩) l) (hr : r < l.length) (x : Val) :
    RowAt (((u.setCell ⟨g, r * 3, none⟩ (.int .i64 x.1)).setCell ⟨g, r * 3 + 1, none⟩ (.int .i64 x.2.1)).setCell ⟨g, r * 3 + 2, none⟩ (.string x.2.2)) (some ⟨g, 0, none⟩) (l.set r x) := by
  intro i hi
  rw [List.length_set] at hi
  obtain ⟨c, o, hp, hc, h0, h1, h2⟩ := h i hi
  obtain ⟨rfl, rfl⟩ : g = c ∧ 0 = o := by injection hp with hp; injection hp with e1 e2; exact ⟨e1, e2⟩
  rw [Nat.zero_add] at h0 h1 h2
  refine ⟨g, 0, rfl, by rw [set_size, set_size, set_size]; exact hc, ?_⟩
  rw [Nat.zero_add, vAt_set hr]
  by_cases hir : i = r
  · subst hir
    rw [if_pos rfl]
    refine ⟨by rw [cell_apart (by omega), cell_apart (by omega)]; exact World.cell?_setCell_same _ _ _ h0, by rw [cell_apart (by omega)]; exact World.cell?_setCell_same _ _ _ (by rw [cell_apart (by omega)]; exact h1), World.cell?_setCell_same _ _ _ (by rw [cell_apart (by omega), cell_apart (by omega)]; exact h2)⟩
  · rw [if_neg hir]
    exact ⟨by rw [cell_apart (by omega), cell_apart (by omega), cell_apart (by omega)]; exact h0, by rw [cell_apart (by omega), cell_apart (by omega), cell_apart (by omega)]; exact h1, by rw [cell_apart (by omega), cell_apart (by omega), cell_apart (by omega)]; exact h2⟩
theorem RowAt.tail {u : World} {g : Nat} {l : List Val} (h : RowAt u (some ⟨g, 0, none⟩) l) : RowAt u (some ⟨g, 3, none⟩) (l.drop 1) := by
  intro i hi
  rw [List.length_drop] at hi
  obtain ⟨c, o, hp, hc, h0, h1, h2⟩ := h (i + 1) (by omega)
  obtain ⟨rfl, rfl⟩ : g = c ∧ 0 = o := by injection hp with hp; injection hp with e1 e2; exact ⟨e1, e2⟩
  have hv : vAt (l.drop 1) i = vAt l (i + 1) := by unfold vAt; rw [List.getD, List.getElem?_drop, Nat.add_comm 1 i]; rfl
  rw [hv]
  have e0 : 0 + (i + 1) * 3 = 3 + i * 3 := by omega
  rw [e0] at h0 h1 h2
  exact ⟨g, 3, rfl, hc, h0, h1, h2⟩
theorem own3_block {u : World} {base g n c : Nat} {e : TypeId} {xs : List Value} (h : u.ownsRow base e 3 (.slice (some ⟨g, 0, none⟩) n c) n xs) (o : Nat) : u.frozen? ⟨g, o, none⟩ = false := by
  rcases h.2 with ⟨h1, -⟩ | ⟨g', cap, cur, h1, -, hh, -⟩
  · cases h1
  · injection h1 with h1 h2 h3
    injection h1 with h1
    injection h1 with h1
    subst h1
    exact Joins.unfrozen_of_block hh o
theorem ValsSized.set {l : List Val} (h : ValsSized l) {r : Nat} (hr : r < l.length) {x : Val} (hx : x.2.2.size ≤ 9223372036854775807) : ValsSized (l.set r x) := fun i hi => by
  rw [List.length_set] at hi
  rw [vAt_set hr]
  split
  · exact hx
  · exact h i hi
theorem ValsSized.tail {l : List Val} (h : ValsSized l) : ValsSized (l.drop 1) := fun i hi => by
  rw [List.length_drop] at hi
  have hv : vAt (l.drop 1) i = vAt l (i + 1) := by unfold vAt; rw [List.getD, List.getElem?_drop, Nat.add_comm 1 i]; rfl
  rw [hv]
  exact h (i + 1) (by omega)

/-- The boxes of the two schemas, and the columns of the tape's. -/
structure TF (ls : List Nat) (w u : World) (b X Y : Nat) (m0 : ByteArray) (a0 : Option Addr) (n0 c0 : Nat) (nS : ByteArray) (gS oS cS : Nat) (lS : List Col) : Prop where
  x : Cell2 u X (.string m0) (.slice a0 n0 c0)
  y : Cell2 u Y (.string nS) (.slice (some ⟨gS, oS, none⟩) lS.length cS)
  cols : ColsAt u (some ⟨gS, oS, none⟩) lS.length (cAt lS)
  tape : TapeAt u b
  env : Env ls u
  low' : Below w.heap.size w u
section
variable {w u v : World} {b X Y n0 c0 gS oS cS : Nat} {m0 nS : ByteArray} {a0 : Option Addr} {lS : List Col}
theorem TF.next (h : TF ls w u b X Y m0 a0 n0 c0 nS gS oS cS lS) (hs : StepT b u v) (ht : TapeAt v b) (h8 : 0 ≤ b) (hw : w.heap.size ≤ b) (hX : X ≠ b) (hY : Y ≠ b) (hg : gS ≠ b) : TF ls w v b X Y m0 a0 n0 c0 nS gS oS cS lS :=
  ⟨h.x.step hs hX, h.y.step hs hY, h.cols.step hs (fun q hq => by cases hq; exact hg), ht, h.env.step hs h8, h.low'.trans (hs.below hw h.low'.size)⟩
theorem TF.low (h : TF ls w u b X Y m0 a0 n0 c0 nS gS oS cS lS) (hb : Below u.heap.size u v) : TF ls w v b X Y m0 a0 n0 c0 nS gS oS cS lS :=
  ⟨h.x.low hb, h.y.low hb, h.cols.low hb, h.tape.below hb, h.env.low hb, below_next h.low' hb⟩
end
theorem own3_shape {u : World} {base n : Nat} {v : Value} {l : List Val} (h : u.ownsRow base 31 3 v n (vcells l)) (hn : 0 < n) : ∃ g c, v = .slice (some ⟨g, 0, none⟩) n c ∧ base ≤ g := by
  rcases h.2 with ⟨-, h0⟩ | ⟨g, c, cur, he, hg, -⟩
  · omega
  · exact ⟨g, c, he, hg⟩

theorem TF.put {w u : World} {b X Y n0 c0 gS oS cS V o : Nat} {m0 nS : ByteArray} {a0 : Option Addr} {lS : List Col} (h : TF ls w u b X Y m0 a0 n0 c0 nS gS oS cS lS) (hX : X ≠ V) (hY : Y ≠ V) (hg : gS ≠ V) (hb : b < V) (hw : w.heap.size ≤ V) (h8 : 0 ≤ b) (y : Value) : TF ls w (u.setCell ⟨V, o, none⟩ y) b X Y m0 a0 n0 c0 nS gS oS cS lS :=
  ⟨h.x.far hX _, h.y.far hY _, h.cols.set (fun q hq => by cases hq; exact hg) _, h.tape.setCell (show b < V from hb) _, h.env.keep (by rw [set_size]; exact Nat.le_refl _) (fun k hk => Below.heap_setCell _ _ _ _ (by show k ≠ V; omega)), h.low'.setCell (by exact hw) _⟩
theorem FitsDoes.n (hF : FitsDoes) (nm : ByteArray) (p : Option Addr) (n cap : Nat) (f : Nat → Col) (q : Option Addr) (l : List Val) (k cq : Nat) (w : World) (hk : l.length = k) (hn : n ≤ 9223372036854775807) (hS : ValsSized l) (hC : ColsAt w p n f) (hR : RowAt w q l) :
    Calls Try.prog 30 #[.agg #[.string nm, .slice p n cap], .slice q k cq] w fun e w' => e = .returned (.int .i64 (fitsRow f n l)) ∧ Below w.heap.size w w' := by
  subst hk
  exact hF nm p n cap f q l cq w hn hC hR hS
/-- What the last region leaves as it is. -/
structure R8 (w u : World) (gS oS g7 : Nat) (pt : Option Addr) (lS : List Col) (lm : List Val) (a0 : Option Addr) (n0 : Nat) (f0 : Nat → Col) (q0 : Option Addr) (l0 : List Val) : Prop where
  cols : ColsAt u (some ⟨gS, oS, none⟩) lS.length (cAt lS)
  row : RowAt u (some ⟨g7, 0, none⟩) lm
  tail : RowAt u pt (lm.drop 1)
  c0 : ColsAt u a0 n0 f0
  r0 : RowAt u q0 l0
  low' : Below w.heap.size w u
theorem keep8 {w u v : World} {X Y n0 c0 gS oS cS g7 : Nat} {pt : Option Addr} {m0 nS : ByteArray} {a0 q0 : Option Addr} {lS : List Col} {lm l0 : List Val} {f0 : Nat → Col} (hb : Below u.heap.size u v)
    (h : u.cell? ⟨X, 0, none⟩ = some (.string m0) ∧ u.cell? ⟨X, 1, none⟩ = some (.slice a0 n0 c0) ∧ u.cell? ⟨Y, 0, none⟩ = some (.string nS) ∧ u.cell? ⟨Y, 1, none⟩ = some (.slice (some ⟨gS, oS, none⟩) lS.length cS) ∧ X < u.heap.size ∧ Y < u.heap.size ∧ R8 w u gS oS g7 pt lS lm a0 n0 f0 q0 l0) :
    v.cell? ⟨X, 0, none⟩ = some (.string m0) ∧ v.cell? ⟨X, 1, none⟩ = some (.slice a0 n0 c0) ∧ v.cell? ⟨Y, 0, none⟩ = some (.string nS) ∧ v.cell? ⟨Y, 1, none⟩ = some (.slice (some ⟨gS, oS, none⟩) lS.length cS) ∧ X < v.heap.size ∧ Y < v.heap.size ∧ R8 w v gS oS g7 pt lS lm a0 n0 f0 q0 l0 := by
  obtain ⟨h0, h1, h2, h3, hx, hy, hc, hr, ht, k0, k1, hl⟩ := h
  exact ⟨by rw [hb.cell (by exact hx)]; exact h0, by rw [hb.cell (by exact hx)]; exact h1, by rw [hb.cell (by exact hy)]; exact h2, by rw [hb.cell (by exact hy)]; exact h3, Nat.lt_of_lt_of_le hx hb.size, Nat.lt_of_lt_of_le hy hb.size, hc.low hb, hr.low hb, ht.low hb, k0.low hb, k1.low hb, below_next hl hb⟩

end Go.Proofs.Ytgaihglploedaaa
/-
  Fits of package tuple.
-/
namespace Go.Proofs.Ytgaihglploedaaa
set_option maxRecDepth 100000
open Go.RowKit
variable {ls : List Nat}

set_option maxRecDepth 100000 in
set_option maxHeartbeats 2000000 in
theorem rowfits_any (nm : ByteArray) (p : Option Addr) (n cap : Nat) (f : Nat → Col) (q : Option Addr) (l : List Val) (cq : Nat) (w : World) (hn : n ≤ 9223372036854775807) (hC : ColsAt w p n f) (hR : RowAt w q l) (hS : ValsSized l) :
    Calls Try.prog 30 #[schV nm p n cap, .slice q l.length cq] w fun e w' => e = .returned (.int .i64 (fitsRow f n l)) ∧ Below w.heap.size w w' := by
  unfold schV
  have HC := Lib.hid (hC.low (below_alloc w (.cells #[.string nm, .slice p n cap] 25)))
  have HR := Lib.hid (hR.low (below_alloc w (.cells #[.string nm, .slice p n cap] 25)))
  have HB := Lib.hid (below_alloc w (.cells #[.string nm, .slice p n cap] 25))
  have HX := Lib.hid (cell2_new w (.string nm) (.slice p n cap) 25)
  have HS := Lib.hid hS
  clear hC hR hS
  by_cases hln : l.length = n
  · have hlI : ((l.length : Int) != (n : Int)) = false := by simp [hln]
    have HLN := Lib.hid hln
    have hle : l.length ≤ n := by omega
    have hge : n ≤ l.length := by omega
    clear hln
    go_enter Try.func30, Try.ntmps30
    go_wp2_with fail
    go_loopw [17] (fun i v => ∃ k : Nat, k ≤ n ∧ i = .int .i64 k ∧ (∀ j, j < k → fitE f l j = 0) ∧ ColsAt v p n f ∧ RowAt v q l ∧ Cell2 v w.heap.size (.string nm) (.slice p n cap) ∧ Below w.heap.size w v) (fun i _ => n - (intOf i).toNat)
    case atStart => exact ⟨0, Nat.zero_le _, rfl, fun j hj => by omega, HC.out, HR.out, HX.out, HB.out⟩
    clear HC HR HX HB
    case round =>
      obtain ⟨k, hk, rfl, heq, hc0, hr0, hx0, hb0⟩ := hrel
      have HEQ := Lib.hid heq
      have HC := Lib.hid hc0
      have HR := Lib.hid hr0
      have HX := Lib.hid hx0
      have HB := Lib.hid hb0
      clear heq hb0 hx0
      by_cases hlt : k < n
      · have hlt' : decide ((k : Int) < n) = true := decide_eq_true (by omega)
        have hkl : k < l.length := by omega
        have hkI : (k : Int) < (l.length : Int) := by omega
        obtain ⟨c, o, rfl, hc, hsz, c0, c1, c2, c3⟩ := hc0 k hlt
        obtain ⟨c', o', rfl, hc', r0, r1, r2⟩ := hr0 k hkl
        clear hc0 hr0
        go_wp2_with fail
        have hb1 := below_alloc wr (.cells #[.string (f k).nm, .int .i64 (f k).ty, .bool (f k).nn, .bool (f k).key] 62)
        have HC1 := Lib.hid (HC.out.low hb1)
        have HR1 := Lib.hid (HR.out.low hb1)
        have HX1 := Lib.hid (HX.out.low hb1)
        have HB1 := Lib.hid (below_next HB.out hb1)
        obtain ⟨xz, x0, x1, x2, x3⟩ := ColBox.new wr (f k) 62
        have r0' : (wr.alloc (.cells #[.string (f k).nm, .int .i64 (f k).ty, .bool (f k).nn, .bool (f k).key] 62)).cell? ⟨c', o' + k * 3, none⟩ = some (.int .i64 (vAt l k).1) := by rw [hb1.cell (by exact hc')]; exact r0
        have r1' : (wr.alloc (.cells #[.string (f k).nm, .int .i64 (f k).ty, .bool (f k).nn, .bool (f k).key] 62)).cell? ⟨c', o' + k * 3 + 1, none⟩ = some (.int .i64 (vAt l k).2.1) := by rw [hb1.cell (by exact hc')]; exact r1
        have r2' : (wr.alloc (.cells #[.string (f k).nm, .int .i64 (f k).ty, .bool (f k).nn, .bool (f k).key] 62)).cell? ⟨c', o' + k * 3 + 2, none⟩ = some (.string (vAt l k).2.2) := by rw [hb1.cell (by exact hc')]; exact r2
        have hc2' := Nat.lt_of_lt_of_le hc' hb1.size
        clear HC HR HX HB hb1 c0 c1 c2 c3 r0 r1 r2 hc hc'
        generalize wr.alloc _ = W1 at HC1 HR1 HX1 HB1 xz x0 x1 x2 x3 r0' r1' r2' hc2' ⊢
        generalize wr.heap.size = X at xz x0 x1 x2 x3 ⊢
        go_region_held3 (fun u => u.cell? ⟨X, 0, none⟩ = some (.string (f k).nm) ∧ u.cell? ⟨X, 1, none⟩ = some (.int .i64 (f k).ty) ∧ u.cell? ⟨X, 2, none⟩ = some (.bool (f k).nn) ∧ u.cell? ⟨X, 3, none⟩ = some (.bool (f k).key) ∧ u.cell? ⟨c', o' + k * 3, none⟩ = some (.int .i64 (vAt l k).1) ∧ u.cell? ⟨c', o' + k * 3 + 1, none⟩ = some (.int .i64 (vAt l k).2.1) ∧ u.cell? ⟨c', o' + k * 3 + 2, none⟩ = some (.string (vAt l k).2.2) ∧ X < u.heap.size ∧ c' < u.heap.size ∧ ColsAt u (some ⟨c, o, none⟩) n f ∧ RowAt u (some ⟨c', o', none⟩) l ∧ Cell2 u w.heap.size (.string nm) (.slice (some ⟨c, o, none⟩) n cap) ∧ Below w.heap.size w u)
          (first
            | exact ⟨x0, x1, x2, x3, r0', r1', r2', xz, hc2', HC1.out, HR1.out, ⟨HX1.out.lt, HX1.out.c0, HX1.out.c1, HX1.out.fz⟩, HB1.out.drew⟩
            | exact keepRF hbq (by assumption))
          (first
            | (go_at_call 40; refine (fits_any (f k) _ _ _ _ (HS.out k hkl)).mono ?_; rintro e wq ⟨rfl, hbq⟩))
        rename_i hHeld
        obtain ⟨-, -, -, -, -, -, -, -, -, hc5, hr5, hx5, hb5⟩ := hHeld
        clear xz x0 x1 x2 x3 r0' r1' r2' hc2' HC1 HR1 HX1 HB1 hbq
        cases hz : (fitE f l k != 0)
        · have hz' : (fitsE (f k).ty (f k).nn (vAt l k).1 (vAt l k).2.1 (vAt l k).2.2 != 0) = false := hz
          have HZ : Hid (fitE f l k = 0) := Lib.hid (by simpa using hz)
          go_wp2
          go_roundw
          case rel => exact ⟨k + 1, by omega, by go_num, fun j hj => by
            by_cases hjk : j = k
            · subst hjk; exact HZ.out
            · exact HEQ.out j (by omega), hc5, hr5, hx5, hb5⟩
          case measure => simp [intOf]; omega
        · have hz' : (fitsE (f k).ty (f k).nn (vAt l k).1 (vAt l k).2.1 (vAt l k).2.2 != 0) = true := hz
          have HZ : Hid (¬ fitE f l k = 0) := Lib.hid (bne_iff_ne.1 hz)
          have HB5 := Lib.hid hb5
          go_wp2
          go_ret
          exact ⟨ret_int (fitsRow_hit HLN.out hlt HZ.out HEQ.out).symm, HB5.out⟩
      · have hlt' : decide ((k : Int) < n) = false := decide_eq_false (by omega)
        obtain rfl : k = n := by omega
        clear hc0 hr0
        go_wp2
        go_ret
        exact ⟨ret_int (fitsRow_ok HLN.out HEQ.out).symm, HB.out⟩
  · have hlI : ((l.length : Int) != (n : Int)) = true := bne_iff_ne.2 (by omega)
    have HLN := Lib.hid hln
    clear hln
    go_enter Try.func30, Try.ntmps30
    go_wp2
    go_ret
    exact ⟨ret_int (fitsRow_len HLN.out).symm, HB.out⟩
theorem fits_does : FitsDoes := by
  intro nm p n cap f q l cq w hn hC hR hS
  have := rowfits_any nm p n cap f q l cq w hn hC hR hS
  unfold schV at this
  exact this
end Go.Proofs.Ytgaihglploedaaa
/-
  Package table: Valid.
-/
namespace Go.Proofs.Ytgaihglploedaaa
set_option maxRecDepth 100000
open Go.RowKit
variable {ls : List Nat}

theorem row_hi {f : Nat → Col} {n : Nat} {nx : Int} {R : List TRow} {i : Nat} (h : nx ≤ (tAt R i).1) : ¬ RowOK f n nx R i := fun hc => by have := hc.2.1; omega
theorem row_fit {f : Nat → Col} {n : Nat} {nx : Int} {R : List TRow} {i : Nat} (h : ¬ fitsRow f n (tAt R i).2 = 0) : ¬ RowOK f n nx R i := fun hc => h hc.2.2.2
theorem rowfits6_any (nm : ByteArray) (p : Option Addr) (n cap : Nat) (f : Nat → Col) (q : Option Addr) (l : List Val) (cq : Nat) (w : World) (hn : n ≤ 9223372036854775807) (hC : ColsAt w p n f) (hR : RowAt w q l) (hS : ValsSized l) :
    Calls Try.prog 30 #[.agg #[.string nm, .slice p n cap], .slice q l.length cq] w fun e w' => e = .returned (.int .i64 (fitsRow f n l)) ∧ Below w.heap.size w w' := by
  have := rowfits_any nm p n cap f q l cq w hn hC hR hS
  unfold schV at this
  exact this
def nextOK (nx : Int) : Bool := decide (1 ≤ nx ∧ nx ≤ 2147483648)
set_option maxHeartbeats 400000 in
theorem validnext_any (nx : Int) (w : World) (hn : nx ≤ 9223372036854775807) :
    Calls Try.prog 15 #[.int .i64 nx] w fun e w' => e = .returned (.bool (nextOK nx)) ∧ Below w.heap.size w w' := by
  by_cases h1 : 1 ≤ nx
  · have g1 : decide (1 ≤ nx) = true := decide_eq_true h1
    have hw : IntKind.i64.wrap (nx - 1) = nx - 1 := i64w (by omega) (by omega)
    have hr : decide (nx - 1 ≤ 2147483647) = nextOK nx := by unfold nextOK; rw [decide_eq_decide]; omega
    go_enter Try.func15, Try.ntmps15
    go_wp2
    go_ret
    exact ⟨rfl, Below.refl _ _⟩
  · have g1 : decide (1 ≤ nx) = false := decide_eq_false h1
    have hr : nextOK nx = false := decide_eq_false (fun h => h1 h.1)
    go_enter Try.func15, Try.ntmps15
    go_wp2
    go_ret
    exact ⟨rfl, Below.refl _ _⟩
/-- The rows up to k are right. -/
def rowsOK (f : Nat → Col) (n : Nat) (nx : Int) (R : List TRow) : Bool := decide (∀ i, i < R.length → RowOK f n nx R i)
/-- The number of the row before row k. -/
def befR (R : List TRow) (k : Nat) : Int := if k = 0 then 0 else (tAt R (k - 1)).1
theorem befR_succ (R : List TRow) (k : Nat) : befR R (k + 1) = (tAt R k).1 := by unfold befR; rw [if_neg (by omega), Nat.add_sub_cancel]
theorem row_not_bef {f : Nat → Col} {n : Nat} {nx : Int} {R : List TRow} {k : Nat} (h : (tAt R k).1 ≤ befR R k) : ¬ RowOK f n nx R k := by
  intro hc
  unfold befR at h
  split at h
  · have := hc.1; omega
  · have := hc.2.2.1 (by omega); omega
theorem row_yes {f : Nat → Col} {n : Nat} {nx : Int} {R : List TRow} {k : Nat} (hp : ∀ j, j < k → RowOK f n nx R j) (h1 : ¬ (tAt R k).1 ≤ befR R k) (h2 : ¬ nx ≤ (tAt R k).1) (h3 : fitsRow f n (tAt R k).2 = 0) : RowOK f n nx R k := by
  unfold befR at h1
  split at h1
  · exact ⟨by omega, by omega, fun h => by omega, h3⟩
  · have := (hp (k - 1) (by omega)).1
    exact ⟨by omega, by omega, fun h => by omega, h3⟩
theorem rowsOK_no {f : Nat → Col} {n : Nat} {nx : Int} {R : List TRow} {k : Nat} (hk : k < R.length) (h : ¬ RowOK f n nx R k) : rowsOK f n nx R = false := decide_eq_false fun hc => h (hc k hk)
theorem rowsOK_yes {f : Nat → Col} {n : Nat} {nx : Int} {R : List TRow} (h : ∀ i, i < R.length → RowOK f n nx R i) : rowsOK f n nx R = true := decide_eq_true h
set_option maxHeartbeats 2000000 in
theorem validrows_any (T : Tab) (w : World) (hT : TabAt w T) :
    Calls Try.prog 16 #[T.v] w fun e w' => e = .returned (.bool (rowsOK T.f T.n T.nx T.R)) ∧ Below w.heap.size w w' := by
  obtain ⟨nm, pc, n, cc, f, nx, pr, cr, R⟩ := T
  obtain ⟨hnm, hn, hC, hR, hl, hz⟩ := hT
  unfold Tab.v
  dsimp only at *
  have HR := Lib.hid hR
  have HZ := Lib.hid hz
  have hb0 : Below w.heap.size w (w.alloc (.cells #[.string nm, .slice pc n cc, .int .i64 nx, .slice pr R.length cr] 29)) := below_new (Below.refl _ _) _
  have HC := Lib.hid (hC.low hb0)
  have HX := Lib.hid (cell4_new w (.string nm) (.slice pc n cc) (.int .i64 nx) (.slice pr R.length cr) 29)
  have HB0 := Lib.hid hb0
  clear hC hR hz hb0
  go_enter Try.func16, Try.ntmps16
  go_wp2_with fail
  go_loopw [3, 9] (fun bv i v => ∃ k : Nat, k ≤ R.length ∧ i = .int .i64 k ∧ bv = .int .i64 (befR R k) ∧ (∀ j, j < k → RowOK f n nx R j) ∧ Cell4 v w.heap.size (.string nm) (.slice pc n cc) (.int .i64 nx) (.slice pr R.length cr) ∧ ColsAt v pc n f ∧ Below w.heap.size w v) (fun _ i _ => R.length - (intOf i).toNat)
  case atStart => exact ⟨0, Nat.zero_le _, rfl, rfl, fun j hj => by omega, HX.out, HC.out, HB0.out⟩
  clear HX HC HB0
  case round =>
    obtain ⟨k, hk, rfl, rfl, hok, hx, hc, hb⟩ := hrel
    have HOK := Lib.hid hok
    have HX := Lib.hid hx
    have HC := Lib.hid hc
    have HB := Lib.hid hb
    clear hok hx hc hb
    by_cases hlt : k < R.length
    · have hlt' : decide ((k : Int) < R.length) = true := decide_eq_true (by omega)
      obtain ⟨c, o, q, cp, rfl, hc, h0, h1, hr, hs, hqn⟩ := HR.out.low HB.out k hlt
      have HQ := Lib.hid hr
      clear hr hqn
      have hbn := below_alloc wr (.cells #[.int .i64 (tAt R k).1, .slice q (tAt R k).2.length cp] 34)
      have HX2 := Lib.hid (HX.out.low hbn)
      have HC2 := Lib.hid (HC.out.low hbn)
      have HB2 := Lib.hid (below_next HB.out hbn)
      have HQ2 := Lib.hid (HQ.out.low hbn)
      obtain ⟨hxl, x0, x1, x2, x3, -⟩ := HX2.out
      obtain ⟨hxl9, y0, y1, y2, y3, -⟩ := HX.out
      have HR0 := Lib.hid (row2_new wr (.int .i64 (tAt R k).1) (.slice q (tAt R k).2.length cp) 34)
      clear HX HC HB HQ hbn
      by_cases h1 : (tAt R k).1 ≤ befR R k
      · have e1 : decide ((tAt R k).1 ≤ befR R k) = true := decide_eq_true h1
        have HV := Lib.hid (rowsOK_no hlt (row_not_bef (f := f) (n := n) (nx := nx) h1))
        go_wp2
        go_ret
        exact ⟨ret_b HV.out.symm, HB2.out⟩
      · have e1 : decide ((tAt R k).1 ≤ befR R k) = false := decide_eq_false h1
        by_cases h2 : nx ≤ (tAt R k).1
        · have e2 : decide (nx ≤ (tAt R k).1) = true := decide_eq_true h2
          have HV := Lib.hid (rowsOK_no hlt (row_hi (f := f) (n := n) (nx := nx) h2))
          go_wp2
          go_ret
          exact ⟨ret_b HV.out.symm, HB2.out⟩
        · have e2 : decide (nx ≤ (tAt R k).1) = false := decide_eq_false h2
          go_wp2_with fail
          refine (rowfits6_any nm pc n cc f q (tAt R k).2 cp _ hn HC2.out HQ2.out (HZ.out _ (tAt_mem hlt))).mono ?_
          rintro e w3 ⟨rfl, hb3⟩
          have r4 : w3.cell? ⟨wr.heap.size, 0, none⟩ = some (.int .i64 (tAt R k).1) := by rw [hb3.cell (by simp)]; exact HR0.out.1
          have HX3 := Lib.hid (HX2.out.low hb3)
          have HC3 := Lib.hid (HC2.out.low hb3)
          have HB3 := Lib.hid (below_next HB2.out hb3)
          clear hb3 HX2 HC2 HB2 HR0 hxl x0 x1 x2 x3 hxl9 y0 y1 y2 y3 h0 hc
          cases hz : (fitsRow f n (tAt R k).2 != 0)
          · have HROW : Hid (RowOK f n nx R k) := Lib.hid (row_yes HOK.out (by omega) (by omega) (by simpa using hz))
            go_wp2
            go_roundw
            case rel => exact ⟨k + 1, by omega, by go_num, by rw [befR_succ], all_succ HOK.out HROW.out, HX3.out, HC3.out, HB3.out⟩
            case measure => simp [intOf]; omega
          · have HV := Lib.hid (rowsOK_no hlt (row_fit (f := f) (n := n) (nx := nx) (bne_iff_ne.1 hz)))
            go_wp2
            go_ret
            exact ⟨ret_b HV.out.symm, HB3.out⟩
    · have hlt' : decide ((k : Int) < R.length) = false := decide_eq_false (by omega)
      obtain rfl : k = R.length := by omega
      have HV := Lib.hid (rowsOK_yes HOK.out)
      go_wp2
      go_ret
      exact ⟨ret_b HV.out.symm, HB.out⟩
theorem svalid6_eq {nm : ByteArray} {p : Option Addr} {n cap : Nat} {f : Nat → Col} {w : World} {b : Bool} (hs : nm.size ≤ 9223372036854775807) (hn : n ≤ 9223372036854775807) (hC : ColsAt w p n f) (h : schemaOK nm n f = b) :
    Calls Try.prog 14 #[.agg #[.string nm, .slice p n cap]] w fun e w' => e = .returned (.bool b) ∧ Below w.heap.size w w' := by
  subst h; exact svalid_any nm p n cap f w hs hn hC
theorem validnext_eq {nx : Int} {b : Bool} (hn : nx ≤ 9223372036854775807) (h : nextOK nx = b) (w : World) :
    Calls Try.prog 15 #[.int .i64 nx] w fun e w' => e = .returned (.bool b) ∧ Below w.heap.size w w' := by
  subst h; exact validnext_any nx w hn
theorem valid_is {nm : ByteArray} {n : Nat} {f : Nat → Col} {nx : Int} {R : List TRow} {a b c d e : Bool} (h1 : schemaOK nm n f = a) (h2 : nextOK nx = b) (h3 : decide ((R.length : Int) ≤ 100) = c) (h4 : rowsOK f n nx R = d) (h5 : dupR (findKey f n) R = e) : validT nm n f nx R = (a && b && c && d && !e) := by
  subst h1 h2 h3 h4 h5
  unfold validT nextOK rowsOK
  have : decide (R.length ≤ 100 ∧ 1 ≤ nx ∧ nx ≤ 2147483648) = (decide (1 ≤ nx ∧ nx ≤ 2147483648) && decide ((R.length : Int) ≤ 100)) := by
    rw [← Bool.decide_and, decide_eq_decide]
    omega
  rw [this]
  simp only [Bool.and_assoc]
set_option maxHeartbeats 2000000 in
theorem tvalid_any (T : Tab) (w : World) (hT : TabAt w T) :
    Calls Try.prog 8 #[T.v] w fun e w' => e = .returned (.bool T.valid) ∧ Below w.heap.size w w' := by
  have hnx := hT.nxr
  obtain ⟨nm, pc, n, cc, f, nx, pr, cr, R⟩ := T
  obtain ⟨hnm, hn, hC, -⟩ := id hT
  have hvr : ∀ v (b : Bool), rowsOK f n nx R = b → TabAt v ⟨nm, pc, n, cc, f, nx, pr, cr, R⟩ → Calls Try.prog 16 #[Tab.v ⟨nm, pc, n, cc, f, nx, pr, cr, R⟩] v fun e w' => e = .returned (.bool b) ∧ Below v.heap.size v w' := by
    intro v b h hv
    subst h
    exact validrows_any ⟨nm, pc, n, cc, f, nx, pr, cr, R⟩ v hv
  have hdp := fun v (hv : TabAt v ⟨nm, pc, n, cc, f, nx, pr, cr, R⟩) => dup_any ⟨nm, pc, n, cc, f, nx, pr, cr, R⟩ v hv
  unfold Tab.v at hvr
  unfold Tab.v Tab.key at hdp
  unfold Tab.v Tab.valid
  dsimp only at hnm hn hC hnx hvr hdp ⊢
  have hb0 : Below w.heap.size w (w.alloc (.cells #[.string nm, .slice pc n cc, .int .i64 nx, .slice pr R.length cr] 29)) := below_new (Below.refl _ _) _
  have HT := Lib.hid (hT.low hb0)
  have HC := Lib.hid (hC.low hb0)
  have HB := Lib.hid hb0
  have HX := Lib.hid (cell4_new w (.string nm) (.slice pc n cc) (.int .i64 nx) (.slice pr R.length cr) 29)
  obtain ⟨hxl, x0, x1, x2, x3, -⟩ := HX.out
  have HVR := Lib.hid hvr
  have HDP := Lib.hid hdp
  clear hT hC hb0 hvr hdp
  obtain ⟨e5, h5⟩ : ∃ e, dupR (findKey f n) R = e := ⟨_, rfl⟩
  go_enter Try.func8, Try.ntmps8
  go_wp2_with fail
  refine (svalid_any nm pc n cc f _ hnm hn HC.out).mono ?_
  rintro e w1 ⟨rfl, hb⟩
  have HX1 := Lib.hid (HX.out.low hb)
  have HT1 := Lib.hid (HT.out.low hb)
  have HB1 := Lib.hid (below_next HB.out hb)
  clear hb HX HT HB x0 x1 x2 x3 hxl
  obtain ⟨hxl, x0, x1, x2, x3, -⟩ := HX1.out
  cases h1 : schemaOK nm n f
  · have HV := Lib.hid (validT_schema (nx := nx) (R := R) h1)
    go_wp2
    go_ret
    exact ⟨ret_b HV.out.symm, HB1.out⟩
  · go_wp2_with fail
    refine (validnext_any nx _ hnx).mono ?_
    rintro e w2 ⟨rfl, hb⟩
    have HX2 := Lib.hid (HX1.out.low hb)
    have HT2 := Lib.hid (HT1.out.low hb)
    have HB2 := Lib.hid (below_next HB1.out hb)
    clear hb HX1 HT1 HB1 x0 x1 x2 x3 hxl
    obtain ⟨hxl, x0, x1, x2, x3, -⟩ := HX2.out
    cases h2 : nextOK nx
    · have HV := Lib.hid (valid_is h1 h2 rfl rfl h5)
      go_wp2
      go_ret
      exact ⟨ret_b HV.out.symm, HB2.out⟩
    · cases h3 : decide ((R.length : Int) ≤ 100)
      · have HV := Lib.hid (valid_is h1 h2 h3 rfl h5)
        go_wp2
        go_ret
        exact ⟨ret_b HV.out.symm, HB2.out⟩
      · go_wp2_with fail
        refine (HVR.out _ _ rfl HT2.out).mono ?_
        rintro e w3 ⟨rfl, hb⟩
        have HX3 := Lib.hid (HX2.out.low hb)
        have HT3 := Lib.hid (HT2.out.low hb)
        have HB3 := Lib.hid (below_next HB2.out hb)
        clear hb HX2 HT2 HB2 x0 x1 x2 x3 hxl
        obtain ⟨hxl, x0, x1, x2, x3, -⟩ := HX3.out
        cases h4 : rowsOK f n nx R
        · have HV := Lib.hid (valid_is h1 h2 h3 h4 h5)
          go_wp2
          go_ret
          exact ⟨ret_b HV.out.symm, HB3.out⟩
        · have HV := Lib.hid (valid_is h1 h2 h3 h4 h5)
          go_wp2_with fail
          refine (HDP.out _ HT3.out).mono ?_
          rintro e w4 ⟨rfl, hb⟩
          have HB4 := Lib.hid (below_next HB3.out hb)
          clear hb
          go_wp2
          go_ret
          exact ⟨ret_b HV.out.symm, HB4.out⟩
end Go.Proofs.Ytgaihglploedaaa
/-
  Package keys: validWidths, fits, hasRoom.
-/
namespace Go.Proofs.Ytgaihglploedaaa
set_option maxRecDepth 100000
open Go.RowKit
variable {ls : List Nat}

theorem widthsB_upd {n : Nat} {I : List (List Val)} {U : List PRow} {k : Nat} (hk : k < U.length) (h : (pAt U k).2.2.length ≠ n) : widthsB n I U = false := by
  unfold widthsB; rw [decide_eq_false (p := ∀ i, i < U.length → (pAt U i).2.2.length = n) (fun hc => h (hc k hk))]; rfl
theorem widthsB_ins {n : Nat} {I : List (List Val)} {U : List PRow} {k : Nat} (hk : k < I.length) (h : (rAt I k).length ≠ n) : widthsB n I U = false := by
  unfold widthsB; rw [decide_eq_false (p := ∀ i, i < I.length → (rAt I i).length = n) (fun hc => h (hc k hk)), Bool.and_false]
theorem widthsB_yes {n : Nat} {I : List (List Val)} {U : List PRow} (h : ∀ i, i < U.length → (pAt U i).2.2.length = n) (h2 : ∀ i, i < I.length → (rAt I i).length = n) : widthsB n I U = true := by
  unfold widthsB; rw [decide_eq_true h, decide_eq_true h2]; rfl
/-- The box of a change, and what else is as it was. -/
structure CBox (w : World) (X : Nat) (C : Chg) (v : World) : Prop where
  box : Cell3 v X (.slice C.pi C.I.length C.ci) (.slice C.pd C.D.length C.cd) (.slice C.pu C.U.length C.cu)
  bel : Below w.heap.size w v
theorem CBox.low {w u v : World} {X : Nat} {C : Chg} (h : CBox w X C u) (hb : Below u.heap.size u v) : CBox w X C v := ⟨h.box.low hb, below_next h.bel hb⟩
set_option maxHeartbeats 1000000 in
theorem widths_any (n : Nat) (C : Chg) (w : World) (_hn : n ≤ 9223372036854775807) (hC : ChgAt w C) :
    Calls Try.prog 34 #[.int .i64 n, C.v] w fun e w' => e = .returned (.bool (widthsB n C.I C.U)) ∧ Below w.heap.size w w' := by
  have HCB : Hid (CBox w w.heap.size C (w.alloc (.cells #[.slice C.pi C.I.length C.ci, .slice C.pd C.D.length C.cd, .slice C.pu C.U.length C.cu] 46))) := Lib.hid ⟨cell3_new _ _ _ _ _, below_alloc _ _⟩
  obtain ⟨pi, ci, I, pd, cd, D, pu, cu, U⟩ := C
  unfold Chg.v
  dsimp only at *
  have HC := Lib.hid hC
  have hI63 := hC.inl
  have hU63 := hC.ul
  dsimp only at hI63 hU63
  clear hC
  go_enter Try.func34, Try.ntmps34
  go_upto_region 1 with (fail)
  generalize World.alloc _ _ = W0 at HCB ⊢
  obtain ⟨hyl, y0, y1, y2, -⟩ := HCB.out.box
  dsimp only at y0 y1 y2
  go_wp2_with fail
  go_loopw [12] (fun i v => ∃ k : Nat, k ≤ U.length ∧ i = .int .i64 k ∧ (∀ j, j < k → (pAt U j).2.2.length = n) ∧ CBox w w.heap.size ⟨pi, ci, I, pd, cd, D, pu, cu, U⟩ v) (fun i _ => U.length - (intOf i).toNat)
  case atStart => exact ⟨0, Nat.zero_le _, rfl, fun j hj => by omega, HCB.out⟩
  clear HCB hyl y0 y1 y2
  case round =>
    obtain ⟨k, hk, rfl, ha, hb⟩ := hrel
    have HA := Lib.hid ha
    have HB := Lib.hid hb
    clear ha hb
    by_cases hlt : k < U.length
    · have hlt' : decide ((k : Int) < U.length) = true := decide_eq_true (by omega)
      obtain ⟨c, o, q, cq, r, cr, hp, hc, h0, h1, h2, -⟩ := (HC.out.low HB.out.bel).upd k hlt
      dsimp only at hp h0 h1 h2
      subst hp
      have HB2 := Lib.hid (HB.out.low (below_alloc _ (.cells #[.int .i64 (pAt U k).1, .slice q (pAt U k).2.1.length cq, .slice r (pAt U k).2.2.length cr] 48)))
      by_cases he : (pAt U k).2.2.length = n
      · have he' : (((pAt U k).2.2.length : Int) != (n : Int)) = false := bne_eq_false_iff_eq.2 (by omega)
        have HE := Lib.hid he
        clear he
        go_wp2
        go_roundw
        case rel => exact ⟨k + 1, by omega, by go_num, all_succ HA.out HE.out, HB2.out⟩
        case measure => simp [intOf]; omega
      · have he' : (((pAt U k).2.2.length : Int) != (n : Int)) = true := bne_iff_ne.2 (by omega)
        have HV := Lib.hid (widthsB_upd (I := I) hlt he)
        go_wp2
        go_ret
        exact ⟨ret_b HV.out.symm, HB2.out.bel⟩
    · have hlt' : decide ((k : Int) < U.length) = false := decide_eq_false (by omega)
      obtain rfl : k = U.length := by omega
      obtain ⟨hyl, y0, y1, y2, -⟩ := HB.out.box
      dsimp only at y0 y1 y2
      go_wp2_with fail
      go_loopw [25] (fun i v => ∃ k : Nat, k ≤ I.length ∧ i = .int .i64 k ∧ (∀ j, j < k → (rAt I j).length = n) ∧ CBox w w.heap.size ⟨pi, ci, I, pd, cd, D, pu, cu, U⟩ v) (fun i _ => I.length - (intOf i).toNat)
      case atStart => exact ⟨0, Nat.zero_le _, rfl, fun j hj => by omega, HB.out⟩
      clear HB hyl y0 y1 y2
      case round =>
        obtain ⟨k, hk, rfl, ha, hb⟩ := hrel
        have HA2 := Lib.hid ha
        have HB := Lib.hid hb
        clear ha hb
        by_cases hlt : k < I.length
        · have hlt' : decide ((k : Int) < I.length) = true := decide_eq_true (by omega)
          obtain ⟨c, o, q, cq, hp, hc, h0, -⟩ := (HC.out.low HB.out.bel).ins k hlt
          dsimp only at hp h0
          subst hp
          by_cases he : (rAt I k).length = n
          · have he' : (((rAt I k).length : Int) != (n : Int)) = false := bne_eq_false_iff_eq.2 (by omega)
            have HE := Lib.hid he
            clear he
            go_wp2
            go_roundw
            case rel => exact ⟨k + 1, by omega, by go_num, all_succ HA2.out HE.out, HB.out⟩
            case measure => simp [intOf]; omega
          · have he' : (((rAt I k).length : Int) != (n : Int)) = true := bne_iff_ne.2 (by omega)
            have HV := Lib.hid (widthsB_ins (U := U) hlt he)
            go_wp2
            go_ret
            exact ⟨ret_b HV.out.symm, HB.out.bel⟩
        · have hlt' : decide ((k : Int) < I.length) = false := decide_eq_false (by omega)
          obtain rfl : k = I.length := by omega
          have HV := Lib.hid (widthsB_yes HA.out HA2.out)
          go_wp2
          go_ret
          exact ⟨ret_b HV.out.symm, HB.out.bel⟩
/-- The first error of Fits of a change. -/
def fitsC (f : Nat → Col) (n : Nat) (I : List (List Val)) (U : List PRow) : Int := if fitsL f n (U.map (·.2.2)) ≠ 0 then fitsL f n (U.map (·.2.2)) else fitsL f n I
theorem fitsC_upd {f : Nat → Col} {n : Nat} {I : List (List Val)} {U : List PRow} {k : Nat} (hk : k < U.length) (h1 : ∀ j, j < k → fitsRow f n (pAt U j).2.2 = 0) (hz : fitsRow f n (pAt U k).2.2 ≠ 0) : fitsC f n I U = fitsRow f n (pAt U k).2.2 := by
  have h2 : fitsL f n (U.map (·.2.2)) = fitsRow f n (pAt U k).2.2 := by
    rw [← rAt_map hk]
    exact fitsL_hit (by rw [List.length_map]; exact hk) (fun j hj => by rw [rAt_map (by omega)]; exact h1 j hj) (by rw [rAt_map hk]; exact hz)
  unfold fitsC
  rw [h2, if_pos hz]
theorem fitsU_zero {f : Nat → Col} {n : Nat} {U : List PRow} (h0 : ∀ j, j < U.length → fitsRow f n (pAt U j).2.2 = 0) : fitsL f n (U.map (·.2.2)) = 0 := fitsL_zero fun j hj => by
    rw [List.length_map] at hj
    rw [rAt_map hj]; exact h0 j hj
theorem fitsC_ins {f : Nat → Col} {n : Nat} {I : List (List Val)} {U : List PRow} (h0 : ∀ j, j < U.length → fitsRow f n (pAt U j).2.2 = 0) {k : Nat} (hk : k < I.length) (h1 : ∀ j, j < k → fitsRow f n (rAt I j) = 0) (hz : fitsRow f n (rAt I k) ≠ 0) : fitsC f n I U = fitsRow f n (rAt I k) := by
  unfold fitsC
  rw [fitsU_zero h0, if_neg (by simp), fitsL_hit hk h1 hz]
theorem fitsC_yes {f : Nat → Col} {n : Nat} {I : List (List Val)} {U : List PRow} (h0 : ∀ j, j < U.length → fitsRow f n (pAt U j).2.2 = 0) (h1 : ∀ j, j < I.length → fitsRow f n (rAt I j) = 0) : fitsC f n I U = 0 := by
  unfold fitsC
  rw [fitsU_zero h0, if_neg (by simp), fitsL_zero h1]
theorem fitsC_parts {f : Nat → Col} {n : Nat} {I : List (List Val)} {U : List PRow} (h : fitsC f n I U = 0) : (∀ u ∈ U, fitsRow f n u.2.2 = 0) ∧ ∀ l ∈ I, fitsRow f n l = 0 := by
  have hL : ∀ L : List (List Val), fitsL f n L = 0 → ∀ l ∈ L, fitsRow f n l = 0 := by
    intro L
    induction L with
    | nil => intro _ l hl; cases hl
    | cons x L ih =>
      intro h0 l hl
      have h0 : (if fitsRow f n x = 0 then fitsL f n L else fitsRow f n x) = 0 := h0
      by_cases hx : fitsRow f n x = 0
      · rw [if_pos hx] at h0
        rcases List.mem_cons.1 hl with rfl | hl
        · exact hx
        · exact ih h0 l hl
      · rw [if_neg hx] at h0; exact absurd h0 hx
  unfold fitsC at h
  by_cases hu : fitsL f n (U.map (·.2.2)) = 0
  · rw [if_neg (by simpa using hu)] at h
    exact ⟨fun u hu' => hL _ hu _ (List.mem_map.2 ⟨u, hu', rfl⟩), hL _ h⟩
  · rw [if_pos hu] at h; exact absurd h hu
/-- The boxes of fits. -/
structure FitB (w : World) (nm : ByteArray) (pc : Option Addr) (n cc : Nat) (f : Nat → Col) (C : Chg) (v : World) : Prop where
  sch : v.cell? ⟨w.heap.size, 0, none⟩ = some (.string nm) ∧ v.cell? ⟨w.heap.size, 1, none⟩ = some (.slice pc n cc) ∧ w.heap.size < v.heap.size
  box : CBox w (w.heap.size + 1) C v
  cols : ColsAt v pc n f
  chg : ChgAt v C
theorem FitB.low {w u v : World} {nm : ByteArray} {pc : Option Addr} {n cc : Nat} {f : Nat → Col} {C : Chg} (h : FitB w nm pc n cc f C u) (hb : Below u.heap.size u v) : FitB w nm pc n cc f C v :=
  ⟨keepCT hb h.sch, h.box.low hb, h.cols.low hb, h.chg.low hb⟩
set_option maxHeartbeats 1000000 in
theorem kfits_any (nm : ByteArray) (pc : Option Addr) (n cc : Nat) (f : Nat → Col) (C : Chg) (w : World) (hn : n ≤ 9223372036854775807) (hcol : ColsAt w pc n f) (hC : ChgAt w C) :
    Calls Try.prog 23 #[.agg #[.string nm, .slice pc n cc], C.v] w fun e w' => e = .returned (.int .i64 (fitsC f n C.I C.U)) ∧ Below w.heap.size w w' := by
  have hb0 : Below w.heap.size w ((w.alloc (.cells #[.string nm, .slice pc n cc] 25)).alloc (.cells #[.slice C.pi C.I.length C.ci, .slice C.pd C.D.length C.cd, .slice C.pu C.U.length C.cu] 46)) := below_new (below_new (Below.refl _ _) _) _
  have HF : Hid (FitB w nm pc n cc f C ((w.alloc (.cells #[.string nm, .slice pc n cc] 25)).alloc (.cells #[.slice C.pi C.I.length C.ci, .slice C.pd C.D.length C.cd, .slice C.pu C.U.length C.cu] 46))) :=
    Lib.hid ⟨keepCT (below_alloc _ _) ⟨(row2_new w (.string nm) (.slice pc n cc) 25).1, (row2_new w (.string nm) (.slice pc n cc) 25).2, by rw [size_alloc]; omega⟩, ⟨(cell3_new (w.alloc _) _ _ _ _).at (size_alloc _ _), hb0⟩, hcol.low hb0, hC.low hb0⟩
  have hI63 := hC.inl
  have hU63 := hC.ul
  obtain ⟨pi, ci, I, pd, cd, D, pu, cu, U⟩ := C
  unfold Chg.v
  dsimp only at *
  clear hC hcol hb0
  go_enter Try.func23, Try.ntmps23
  go_upto_region 1 with (fail)
  generalize World.alloc _ _ = W0 at HF ⊢
  obtain ⟨hyl, y0, y1, y2, -⟩ := HF.out.box.box
  dsimp only at y0 y1 y2
  go_wp2_with fail
  go_loopw [14] (fun i v => ∃ k : Nat, k ≤ U.length ∧ i = .int .i64 k ∧ (∀ j, j < k → fitsRow f n (pAt U j).2.2 = 0) ∧ FitB w nm pc n cc f ⟨pi, ci, I, pd, cd, D, pu, cu, U⟩ v) (fun i _ => U.length - (intOf i).toNat)
  case atStart => exact ⟨0, Nat.zero_le _, rfl, fun j hj => by omega, HF.out⟩
  clear HF hyl y0 y1 y2
  case round =>
    obtain ⟨k, hk, rfl, ha, hb⟩ := hrel
    have HA := Lib.hid ha
    have HB := Lib.hid hb
    clear ha hb
    by_cases hlt : k < U.length
    · have hlt' : decide ((k : Int) < U.length) = true := decide_eq_true (by omega)
      obtain ⟨c, o, q, cq, r, cr, hp, hc, h0, h1, h2, -, hr, -⟩ := HB.out.chg.upd k hlt
      dsimp only at hp h0 h1 h2 hr
      subst hp
      have hbn := below_alloc wr (.cells #[.int .i64 (pAt U k).1, .slice q (pAt U k).2.1.length cq, .slice r (pAt U k).2.2.length cr] 48)
      have HB2 := Lib.hid (HB.out.low hbn)
      have HR := Lib.hid (hr.low hbn)
      have HS : Hid (ValsSized (pAt U k).2.2) := Lib.hid (HB.out.chg.usz _ (pAt_mem hlt))
      have HP := Lib.hid (cell3_new wr (.int .i64 (pAt U k).1) (.slice q (pAt U k).2.1.length cq) (.slice r (pAt U k).2.2.length cr) 48)
      clear hbn hr HB
      go_upto_region 4 with (fail)
      clear h0 h1 h2 hc
      generalize World.alloc _ _ = W2 at HB2 HR HP ⊢
      generalize wr.heap.size = X at HP ⊢
      obtain ⟨s0, s1, sl⟩ := HB2.out.sch
      obtain ⟨pl, p0, p1, p2, -⟩ := HP.out
      go_wp2_with fail
      refine (rowfits6_any nm pc n cc f r (pAt U k).2.2 cr _ hn HB2.out.cols HR.out HS.out).mono ?_
      rintro e w3 ⟨rfl, hb3⟩
      have HB3 := Lib.hid (HB2.out.low hb3)
      clear HB2 HR HS hb3 s0 s1 sl HP pl p0 p1 p2
      cases hz : (fitsRow f n (pAt U k).2.2 != 0)
      · have HE := Lib.hid (bne_eq_false_iff_eq.1 hz)
        go_wp2
        go_roundw
        case rel => exact ⟨k + 1, by omega, by go_num, all_succ HA.out HE.out, HB3.out⟩
        case measure => simp [intOf]; omega
      · have HE := Lib.hid (fitsC_upd (I := I) hlt HA.out (bne_iff_ne.1 hz))
        go_wp2
        go_ret
        exact ⟨ret_int HE.out.symm, HB3.out.box.bel⟩
    · have hlt' : decide ((k : Int) < U.length) = false := decide_eq_false (by omega)
      obtain rfl : k = U.length := by omega
      obtain ⟨hyl, y0, y1, y2, -⟩ := HB.out.box.box
      dsimp only at y0 y1 y2
      go_wp2_with fail
      go_loopw [29] (fun i v => ∃ k : Nat, k ≤ I.length ∧ i = .int .i64 k ∧ (∀ j, j < k → fitsRow f n (rAt I j) = 0) ∧ FitB w nm pc n cc f ⟨pi, ci, I, pd, cd, D, pu, cu, U⟩ v) (fun i _ => I.length - (intOf i).toNat)
      case atStart => exact ⟨0, Nat.zero_le _, rfl, fun j hj => by omega, HB.out⟩
      clear HB hyl y0 y1 y2
      case round =>
        obtain ⟨k, hk, rfl, ha, hb⟩ := hrel
        have HA2 := Lib.hid ha
        have HB := Lib.hid hb
        clear ha hb
        by_cases hlt : k < I.length
        · have hlt' : decide ((k : Int) < I.length) = true := decide_eq_true (by omega)
          obtain ⟨c, o, q, cq, hp, hc, h0, hr, -⟩ := HB.out.chg.ins k hlt
          dsimp only at hp h0 hr
          subst hp
          have HR := Lib.hid hr
          have HS : Hid (ValsSized (rAt I k)) := Lib.hid (HB.out.chg.isz _ (by rw [rAt_get hlt]; exact List.getElem_mem hlt))
          obtain ⟨s0, s1, sl⟩ := HB.out.sch
          clear hr
          go_wp2_with fail
          refine (rowfits6_any nm pc n cc f q (rAt I k) cq _ hn HB.out.cols HR.out HS.out).mono ?_
          rintro e w3 ⟨rfl, hb3⟩
          have HB3 := Lib.hid (HB.out.low hb3)
          clear HB HR HS hb3 s0 s1 sl h0 hc
          cases hz : (fitsRow f n (rAt I k) != 0)
          · have HE := Lib.hid (bne_eq_false_iff_eq.1 hz)
            go_wp2
            go_roundw
            case rel => exact ⟨k + 1, by omega, by go_num, all_succ HA2.out HE.out, HB3.out⟩
            case measure => simp [intOf]; omega
          · have HE := Lib.hid (fitsC_ins HA.out hlt HA2.out (bne_iff_ne.1 hz))
            go_wp2
            go_ret
            exact ⟨ret_int HE.out.symm, HB3.out.box.bel⟩
        · have hlt' : decide ((k : Int) < I.length) = false := decide_eq_false (by omega)
          obtain rfl : k = I.length := by omega
          have HV := Lib.hid (fitsC_yes HA.out HA2.out)
          go_wp2
          go_ret
          exact ⟨ret_int HV.out.symm, HB.out.box.bel⟩
/-- Is there room, and are there numbers? -/
def roomB (nx : Int) (R : List TRow) (I : List (List Val)) (D : List Int) : Bool := decide ((R.length : Int) - D.length + I.length ≤ 100 ∧ (I.length : Int) ≤ 2147483648 - nx)
set_option maxHeartbeats 1000000 in
theorem room_any (T : Tab) (C : Chg) (w : World) (hR : T.R.length ≤ 100) (hD : C.D.length ≤ 100) (hI : C.I.length ≤ 1000) (h1 : 1 ≤ T.nx) (h2 : T.nx ≤ 2147483648) :
    Calls Try.prog 24 #[T.v, C.v] w fun e w' => e = .returned (.bool (roomB T.nx T.R C.I C.D)) ∧ Below w.heap.size w w' := by
  obtain ⟨nm, pc, n, cc, f, nx, pr, cr, R⟩ := T
  obtain ⟨pi, ci, I, pd, cd, D, pu, cu, U⟩ := C
  unfold Tab.v Chg.v
  dsimp only at *
  have e1 : IntKind.i64.wrap ((R.length : Int) - D.length) = (R.length : Int) - D.length := i64w (by omega) (by omega)
  have e2 : IntKind.i64.wrap (100 - ((R.length : Int) - D.length)) = 100 - ((R.length : Int) - D.length) := i64w (by omega) (by omega)
  have e3 : IntKind.i64.wrap (nx - 1) = nx - 1 := i64w (by omega) (by omega)
  have e4 : IntKind.i64.wrap (2147483647 - (nx - 1)) = 2147483647 - (nx - 1) := i64w (by omega) (by omega)
  have er : decide ((I.length : Int) ≤ min (100 - ((R.length : Int) - D.length)) (2147483647 - (nx - 1))) = roomB nx R I D := by
    unfold roomB
    rw [decide_eq_decide]
    omega
  have HER := Lib.hid er
  clear er
  go_enter Try.func24, Try.ntmps24
  go_wp2
  go_ret
  exact ⟨ret_b HER.out, below_new (below_new (Below.refl _ _) _) _⟩
end Go.Proofs.Ytgaihglploedaaa
