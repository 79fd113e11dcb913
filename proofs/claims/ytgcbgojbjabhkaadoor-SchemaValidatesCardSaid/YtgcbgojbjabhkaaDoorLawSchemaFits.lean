/-
  THE STATEMENT SchemaFits, as a walk.
-/
import Derived.Test.YtgcbgojbjabhkaaDoorLists
import Derived.Test.YtgcbgojbjabhkaaDoorKnownSchema
import Derived.Deep.RegionHeld3
import Derived.Deep.CutRange
namespace Go.Proofs.YtgcbgojbjabhkaaDoor
open Go.RowKit
variable {ls : List Nat}

/-- A box with a column. -/
def ColBox (u : World) (X : Nat) (c : Col) : Prop :=
  X < u.heap.size ∧ u.cell? ⟨X, 0, none⟩ = some (.string c.nm) ∧ u.cell? ⟨X, 1, none⟩ = some (.int .i64 c.ty) ∧ u.cell? ⟨X, 2, none⟩ = some (.bool c.nn) ∧ u.cell? ⟨X, 3, none⟩ = some (.bool c.key)
theorem ColBox.low {u v : World} {X : Nat} {c : Col} (h : ColBox u X c) (hb : Below u.heap.size u v) : ColBox v X c :=
  ⟨Nat.lt_of_lt_of_le h.1 hb.size, by rw [hb.cell (by exact h.1)]; exact h.2.1, by rw [hb.cell (by exact h.1)]; exact h.2.2.1, by rw [hb.cell (by exact h.1)]; exact h.2.2.2.1, by rw [hb.cell (by exact h.1)]; exact h.2.2.2.2⟩
theorem ColBox.new (u : World) (c : Col) (t : TypeId) : ColBox (u.alloc (.cells #[.string c.nm, .int .i64 c.ty, .bool c.nn, .bool c.key] t)) u.heap.size c := by
  refine ⟨by simp, ?_, ?_, ?_, ?_⟩
  all_goals go_simp
theorem ColBox.step {u v : World} {X b : Nat} {c : Col} (h : ColBox u X c) (hs : StepT b u v) (hn : X ≠ b) : ColBox v X c :=
  ⟨Nat.lt_of_lt_of_le h.1 hs.size, by rw [hs.cell (by exact h.1) (by exact hn)]; exact h.2.1, by rw [hs.cell (by exact h.1) (by exact hn)]; exact h.2.2.1, by rw [hs.cell (by exact h.1) (by exact hn)]; exact h.2.2.2.1, by rw [hs.cell (by exact h.1) (by exact hn)]; exact h.2.2.2.2⟩
theorem BoxAt.step {u v : World} {X b : Nat} {x : Int × Int × ByteArray} (h : BoxAt u X x) (hs : StepT b u v) (hn : X ≠ b) : BoxAt v X x :=
  ⟨Nat.lt_of_lt_of_le h.1 hs.size, by rw [hs.cell (by exact h.1) (by exact hn)]; exact h.2.1, by rw [hs.cell (by exact h.1) (by exact hn)]; exact h.2.2.1, by rw [hs.cell (by exact h.1) (by exact hn)]; exact h.2.2.2⟩
theorem ColsAt.step {u v : World} {b n : Nat} {p : Option Addr} {f : Nat → Col} (h : ColsAt u p n f) (hs : StepT b u v) (hn : ∀ q, p = some q → q.block ≠ b) : ColsAt v p n f := by
  intro i hi
  obtain ⟨c, o, hp, hc, hsz, h0, h1, h2, h3⟩ := h i hi
  have hne := hn _ hp
  have hk := hs.block c hc hne
  exact ⟨c, o, hp, Nat.lt_of_lt_of_le hc hs.size, hsz, by rw [World.cell?_of_block (w := u) hk]; exact h0, by rw [World.cell?_of_block (w := u) hk]; exact h1, by rw [World.cell?_of_block (w := u) hk]; exact h2, by rw [World.cell?_of_block (w := u) hk]; exact h3⟩

theorem ColsAt.at0 {u : World} {L n i : Nat} {f : Nat → Col} (h : ColsAt u (some ⟨L, 0, none⟩) n f) (hi : i < n) : L < u.heap.size ∧ (f i).nm.size ≤ 9223372036854775807
    ∧ u.cell? ⟨L, i * 4, none⟩ = some (.string (f i).nm) ∧ u.cell? ⟨L, i * 4 + 1, none⟩ = some (.int .i64 (f i).ty) ∧ u.cell? ⟨L, i * 4 + 2, none⟩ = some (.bool (f i).nn) ∧ u.cell? ⟨L, i * 4 + 3, none⟩ = some (.bool (f i).key) := by
  obtain ⟨c, o, hp, hc, hs, h0, h1, h2, h3⟩ := h i hi
  cases hp
  rw [Nat.zero_add] at h0 h1 h2 h3
  exact ⟨hc, hs, h0, h1, h2, h3⟩
/-- Two columns, one from outside, one with a type and a rule only. -/
def two (c : Col) (r : Int) (q : Bool) : Nat → Col := fun i => match i with | 0 => c | _ => ⟨⟨#[]⟩, r, q, false⟩
theorem two_new (w : World) (c : Col) (r : Int) (q : Bool) (t : TypeId) (hc : c.nm.size ≤ 9223372036854775807) :
    ColsAt (w.alloc (.cells #[.string c.nm, .int .i64 c.ty, .bool c.nn, .bool c.key, .string ⟨#[]⟩, (.int .i64 r), .bool q, .bool false] t)) (some ⟨w.heap.size, 0, none⟩) 2 (two c r q) := by
  intro i hi
  obtain rfl | rfl : i = 0 ∨ i = 1 := by omega
  · refine ⟨w.heap.size, 0, rfl, by simp, hc, ?_, ?_, ?_, ?_⟩
    all_goals simp only [two]; go_simp
  · refine ⟨w.heap.size, 0, rfl, by simp, by simp only [two]; decide, ?_, ?_, ?_, ?_⟩
    all_goals simp only [two]; go_simp
theorem list5f {W wq : World} {t : TypeId} {a0 b0 a1 b1 a2 b2 a3 b3 a4 b4 : Int} {c0 c1 c2 c3 c4 : ByteArray}
    (h : wq.alloc (.cells #[.int .i64 a0, .int .i64 b0, .string c0, .int .i64 a1, .int .i64 b1, .string c1, .int .i64 a2, .int .i64 b2, .string c2, .int .i64 a3, .int .i64 b3, .string c3, .int .i64 a4, .int .i64 b4, .string c4] t) = W)
    (f0 : Fair (a0, b0, c0)) (f1 : Fair (a1, b1, c1)) (f2 : Fair (a2, b2, c2)) (f3 : Fair (a3, b3, c3)) (f4 : Fair (a4, b4, c4)) :
    ∃ V, ListAt W wq.heap.size 5 V ∧ ∀ i, Fair (V i) := by
  subst h
  refine ⟨fun i => match i with | 0 => (a0, b0, c0) | 1 => (a1, b1, c1) | 2 => (a2, b2, c2) | 3 => (a3, b3, c3) | _ => (a4, b4, c4), ⟨by simp, fun i hi => ?_⟩, fun i => ?_⟩
  · have hi' : i = 0 ∨ i = 1 ∨ i = 2 ∨ i = 3 ∨ i = 4 := by omega
    rcases hi' with rfl | rfl | rfl | rfl | rfl
    all_goals
      refine ⟨?_, ?_, ?_⟩
      all_goals go_simp
  · match i with
    | 0 => exact f0
    | 1 => exact f1
    | 2 => exact f2
    | 3 => exact f3
    | _ + 4 => exact f4

theorem keepF2 {X Y b : Nat} {W u v : World} {c : Col} {y : Int × Int × ByteArray} (hs : StepT b u v) (ht : TapeAt v b) (h8 : 4 ≤ b) (hX : X ≠ b) (hY : Y ≠ b) (hW : W.heap.size ≤ b)
    (h : u.cell? ⟨X, 0, none⟩ = some (.string c.nm) ∧ u.cell? ⟨X, 1, none⟩ = some (.int .i64 c.ty) ∧ u.cell? ⟨X, 2, none⟩ = some (.bool c.nn) ∧ u.cell? ⟨X, 3, none⟩ = some (.bool c.key) ∧ X < u.heap.size ∧ BoxAt u Y y ∧ TapeAt u b ∧ Env ls u ∧ Below W.heap.size W u) :
    v.cell? ⟨X, 0, none⟩ = some (.string c.nm) ∧ v.cell? ⟨X, 1, none⟩ = some (.int .i64 c.ty) ∧ v.cell? ⟨X, 2, none⟩ = some (.bool c.nn) ∧ v.cell? ⟨X, 3, none⟩ = some (.bool c.key) ∧ X < v.heap.size ∧ BoxAt v Y y ∧ TapeAt v b ∧ Env ls v ∧ Below W.heap.size W v := by
  obtain ⟨h0, h1, h2, h3, hz, hy, _, hE, hB⟩ := h
  obtain ⟨kz, k0, k1, k2, k3⟩ := ColBox.step (c := c) ⟨hz, h0, h1, h2, h3⟩ hs hX
  exact ⟨k0, k1, k2, k3, kz, hy.step hs hY, ht, hE.step hs h8, hB.trans (hs.below hW hB.size)⟩
theorem keepF2a {X Y b : Nat} {W u : World} {c : Col} {y : Int × Int × ByteArray} {o : Obj} (h8 : 4 ≤ b) (hX : X ≠ b) (hY : Y ≠ b) (hW : W.heap.size ≤ b)
    (h : u.cell? ⟨X, 0, none⟩ = some (.string c.nm) ∧ u.cell? ⟨X, 1, none⟩ = some (.int .i64 c.ty) ∧ u.cell? ⟨X, 2, none⟩ = some (.bool c.nn) ∧ u.cell? ⟨X, 3, none⟩ = some (.bool c.key) ∧ X < u.heap.size ∧ BoxAt u Y y ∧ TapeAt u b ∧ Env ls u ∧ Below W.heap.size W u) :
    (u.alloc o).cell? ⟨X, 0, none⟩ = some (.string c.nm) ∧ (u.alloc o).cell? ⟨X, 1, none⟩ = some (.int .i64 c.ty) ∧ (u.alloc o).cell? ⟨X, 2, none⟩ = some (.bool c.nn) ∧ (u.alloc o).cell? ⟨X, 3, none⟩ = some (.bool c.key) ∧ X < (u.alloc o).heap.size ∧ BoxAt (u.alloc o) Y y ∧ TapeAt (u.alloc o) b ∧ Env ls (u.alloc o) ∧ Below W.heap.size W (u.alloc o) :=
  keepF2 ((StepT.refl b u).alloc o) (h.2.2.2.2.2.2.1.alloc o) h8 hX hY hW h
theorem keepF5 {X Y L b n : Nat} {W u v : World} {c : Col} {y : Int × Int × ByteArray} {f : Nat → Col} (hs : StepT b u v) (ht : TapeAt v b) (h8 : 4 ≤ b) (hX : X ≠ b) (hY : Y ≠ b) (hL : L ≠ b) (hW : W.heap.size ≤ b)
    (h : u.cell? ⟨Y, 0, none⟩ = some (.int .i64 y.1) ∧ u.cell? ⟨Y, 1, none⟩ = some (.int .i64 y.2.1) ∧ u.cell? ⟨Y, 2, none⟩ = some (.string y.2.2) ∧ Y < u.heap.size ∧ u.cell? ⟨X, 1, none⟩ = some (.int .i64 c.ty) ∧ X < u.heap.size ∧ ColBox u X c ∧ ColsAt u (some ⟨L, 0, none⟩) n f ∧ TapeAt u b ∧ Env ls u ∧ Below W.heap.size W u) :
    v.cell? ⟨Y, 0, none⟩ = some (.int .i64 y.1) ∧ v.cell? ⟨Y, 1, none⟩ = some (.int .i64 y.2.1) ∧ v.cell? ⟨Y, 2, none⟩ = some (.string y.2.2) ∧ Y < v.heap.size ∧ v.cell? ⟨X, 1, none⟩ = some (.int .i64 c.ty) ∧ X < v.heap.size ∧ ColBox v X c ∧ ColsAt v (some ⟨L, 0, none⟩) n f ∧ TapeAt v b ∧ Env ls v ∧ Below W.heap.size W v := by
  obtain ⟨h0, h1, h2, hz, hx, hxz, hxb, hc, _, hE, hB⟩ := h
  obtain ⟨kz, k0, k1, k2⟩ := BoxAt.step (x := y) ⟨hz, h0, h1, h2⟩ hs hY
  have hxb' := hxb.step hs hX
  exact ⟨k0, k1, k2, kz, hxb'.2.2.1, hxb'.1, hxb', hc.step hs (fun q hq => by cases hq; exact hL), ht, hE.step hs h8, hB.trans (hs.below hW hB.size)⟩
theorem keepF5a {X Y L b n : Nat} {W u : World} {c : Col} {y : Int × Int × ByteArray} {f : Nat → Col} {o : Obj} (h8 : 4 ≤ b) (hX : X ≠ b) (hY : Y ≠ b) (hL : L ≠ b) (hW : W.heap.size ≤ b)
    (h : u.cell? ⟨Y, 0, none⟩ = some (.int .i64 y.1) ∧ u.cell? ⟨Y, 1, none⟩ = some (.int .i64 y.2.1) ∧ u.cell? ⟨Y, 2, none⟩ = some (.string y.2.2) ∧ Y < u.heap.size ∧ u.cell? ⟨X, 1, none⟩ = some (.int .i64 c.ty) ∧ X < u.heap.size ∧ ColBox u X c ∧ ColsAt u (some ⟨L, 0, none⟩) n f ∧ TapeAt u b ∧ Env ls u ∧ Below W.heap.size W u) :
    (u.alloc o).cell? ⟨Y, 0, none⟩ = some (.int .i64 y.1) ∧ (u.alloc o).cell? ⟨Y, 1, none⟩ = some (.int .i64 y.2.1) ∧ (u.alloc o).cell? ⟨Y, 2, none⟩ = some (.string y.2.2) ∧ Y < (u.alloc o).heap.size ∧ (u.alloc o).cell? ⟨X, 1, none⟩ = some (.int .i64 c.ty) ∧ X < (u.alloc o).heap.size ∧ ColBox (u.alloc o) X c ∧ ColsAt (u.alloc o) (some ⟨L, 0, none⟩) n f ∧ TapeAt (u.alloc o) b ∧ Env ls (u.alloc o) ∧ Below W.heap.size W (u.alloc o) :=
  keepF5 ((StepT.refl b u).alloc o) (h.2.2.2.2.2.2.2.2.1.alloc o) h8 hX hY hL hW h
/-- What the inner loop leaves as it is. -/
structure RestF (ls : List Nat) (W : World) (b L2 L Y X : Nat) (V : Nat → Int × Int × ByteArray) (f : Nat → Col) (y : Int × Int × ByteArray) (c : Col) (u : World) : Prop where
  list : ListAt u L2 5 V
  cols : ColsAt u (some ⟨L, 0, none⟩) 2 f
  val : BoxAt u Y y
  col : ColBox u X c
  tape : TapeAt u b
  env : Env ls u
  low : Below W.heap.size W u
theorem RestF.keep {W : World} {b L2 L Y X : Nat} {V : Nat → Int × Int × ByteArray} {f : Nat → Col} {y : Int × Int × ByteArray} {c : Col} {u v : World} (h : RestF ls W b L2 L Y X V f y c u) (hb : Below u.heap.size u v) : RestF ls W b L2 L Y X V f y c v :=
  ⟨h.list.low hb, h.cols.low hb, h.val.low hb, h.col.low hb, h.tape.below hb, h.env.low hb, h.low.trans (hb.mono h.low.size)⟩
theorem RestF.drew {W : World} {b L2 L Y X : Nat} {V : Nat → Int × Int × ByteArray} {f : Nat → Col} {y : Int × Int × ByteArray} {c : Col} {u : World} (h : RestF ls W b L2 L Y X V f y c u) : RestF ls W b L2 L Y X V f y c u.drew :=
  ⟨h.list, h.cols, h.val, h.col, h.tape, h.env.drew, h.low.drew⟩
theorem keepF8 {W : World} {b L2 L Y X Z : Nat} {V : Nat → Int × Int × ByteArray} {f : Nat → Col} {y z : Int × Int × ByteArray} {c : Col} {u v : World} (hb : Below u.heap.size u v)
    (h : u.cell? ⟨X, 0, none⟩ = some (.string c.nm) ∧ u.cell? ⟨X, 1, none⟩ = some (.int .i64 c.ty) ∧ u.cell? ⟨X, 2, none⟩ = some (.bool c.nn) ∧ u.cell? ⟨X, 3, none⟩ = some (.bool c.key) ∧ u.cell? ⟨Z, 0, none⟩ = some (.int .i64 z.1) ∧ u.cell? ⟨Z, 1, none⟩ = some (.int .i64 z.2.1) ∧ u.cell? ⟨Z, 2, none⟩ = some (.string z.2.2) ∧ X < u.heap.size ∧ Z < u.heap.size ∧ RestF ls W b L2 L Y X V f y c u) :
    v.cell? ⟨X, 0, none⟩ = some (.string c.nm) ∧ v.cell? ⟨X, 1, none⟩ = some (.int .i64 c.ty) ∧ v.cell? ⟨X, 2, none⟩ = some (.bool c.nn) ∧ v.cell? ⟨X, 3, none⟩ = some (.bool c.key) ∧ v.cell? ⟨Z, 0, none⟩ = some (.int .i64 z.1) ∧ v.cell? ⟨Z, 1, none⟩ = some (.int .i64 z.2.1) ∧ v.cell? ⟨Z, 2, none⟩ = some (.string z.2.2) ∧ X < v.heap.size ∧ Z < v.heap.size ∧ RestF ls W b L2 L Y X V f y c v := by
  obtain ⟨h0, h1, h2, h3, z0, z1, z2, hx, hz, hr⟩ := h
  obtain ⟨kx, k0, k1, k2, k3⟩ := ColBox.low (c := c) ⟨hx, h0, h1, h2, h3⟩ hb
  obtain ⟨kz, l0, l1, l2⟩ := BoxAt.low (x := z) ⟨hz, z0, z1, z2⟩ hb
  exact ⟨k0, k1, k2, k3, l0, l1, l2, kx, kz, hr.keep hb⟩

set_option maxRecDepth 100000 in
set_option maxHeartbeats 4000000 in
theorem fits_walk (w : World) (c : Col) (hc : c.nm.size ≤ 9223372036854775807) (k0 n0 : Int) (s0 : ByteArray) (hn0 : -9223372036854775808 ≤ n0) (hn0' : n0 ≤ 9223372036854775807) (hs0 : s0.size ≤ 9223372036854775807)
    (p : Option Addr) (len cap : Nat) (hl : len ≤ cap) (hm : len ≤ 9223372036854775807) (h : IntsAt w p len) (hE : Env ls w) (hlw : 2 ∈ ls) (hlk : 1 ∈ ls) :
    Calls Tryd.prog 5 #[colV c, .agg #[.int .i64 k0, .int .i64 n0, .string s0], .slice p len cap] w fun e w' => e = .returned (.bool true) ∧ Below w.heap.size w w' := by
  unfold colV
  have hz8 := hE.size
  have hbx : Below w.heap.size w ((w.alloc (.cells #[.string c.nm, .int .i64 c.ty, .bool c.nn, .bool c.key] 42)).alloc (.cells #[.int .i64 k0, .int .i64 n0, .string s0] 45)) := below_new (below_new (Below.refl _ _) _) _
  have HI := Lib.hid (h.low hbx)
  have HE := Lib.hid (hE.low hbx)
  have HX := Lib.hid ((ColBox.new w c 42).low (below_alloc _ (.cells #[.int .i64 k0, .int .i64 n0, .string s0] 45)))
  have HY0 := BoxAt.new (w.alloc (.cells #[.string c.nm, .int .i64 c.ty, .bool c.nn, .bool c.key] 42)) (k0, n0, s0) 45
  rw [size_alloc] at HY0
  have HY := Lib.hid HY0
  have HB := Lib.hid hbx
  clear h HY0 hbx hE
  go_enter Tryd.func5, Tryd.ntmps5
  go_wp2_with fail
  refine (new_any _ p len cap hl hm HI.out).mono ?_
  rintro e w1 ⟨b, rfl, hb0, ht, hb1⟩
  rw [size_alloc, size_alloc] at hb0
  obtain ⟨x_, x0, x1, x2, x3⟩ := HX.out.low hb1
  have HY1 := Lib.hid (HY.out.low hb1)
  have hE1 := HE.out.low hb1
  have hB1 := below_next HB.out hb1
  have h8b : 4 ≤ b := by omega
  have hbw : b ≠ 2 := by omega
  have hXb : w.heap.size ≠ b := by omega
  have hYb : w.heap.size + 1 ≠ b := by omega
  have hWb : w.heap.size ≤ b := by omega
  clear HI HE HX HY HB hb1
  go_wp2_with fail
  have HT := Lib.hid ht
  clear ht
  go_region_held3 (fun u => u.cell? ⟨w.heap.size, 0, none⟩ = some (.string c.nm) ∧ u.cell? ⟨w.heap.size, 1, none⟩ = some (.int .i64 c.ty) ∧ u.cell? ⟨w.heap.size, 2, none⟩ = some (.bool c.nn) ∧ u.cell? ⟨w.heap.size, 3, none⟩ = some (.bool c.key) ∧ w.heap.size < u.heap.size ∧ BoxAt u (w.heap.size + 1) (k0, n0, s0) ∧ TapeAt u b ∧ Env ls u ∧ Below w.heap.size w u)
    (first
      | exact ⟨x0, x1, x2, x3, x_, HY1.out, HT.out, hE1.drew, hB1.drew⟩
      | exact keepF2 hsq htq h8b hXb hYb hWb (by assumption)
      | exact keepF2a h8b hXb hYb hWb (by assumption))
    (first
      | (go_at_call 22; refine (next_any b _ _ (by omega) (by omega) ?_).mono ?_; (go_split_ands; assumption); rintro e wq ⟨r, rfl, hr0, hr1, htq, hsq⟩)
      | (go_at_call 23; refine (tbool_any b _ _ (by omega) (by omega) ?_).mono ?_; (go_split_ands; assumption); rintro e wq ⟨q, rfl, htq, hsq⟩))
  rename_i hHeld
  obtain ⟨-, -, -, -, -, hY2, hT2, hE2, hB2⟩ := hHeld
  have hbq : b < wq.heap.size := htq.lt
  clear x_ x0 x1 x2 x3 HY1 hE1 hB1 HT hsq htq hr0 hr1 hXb
  generalize hty : IntKind.i64.wrap (1 + r) = ty at hY2 hT2 hE2 hB2 ⊢
  clear hty
  have hC2 := two_new wq c ty q 42 hc
  have hLb : wq.heap.size ≠ b := by omega
  have hF : ∀ i, (two c ty q i).nm.size ≤ 9223372036854775807 := fun i => by
    match i with
    | 0 => exact hc
    | _ + 1 => exact (by decide : (⟨#[]⟩ : ByteArray).size ≤ 9223372036854775807)
  have HF := Lib.hid hF
  generalize two c ty q = f at hC2 HF ⊢
  generalize wq.alloc _ = W5 at hY2 hT2 hE2 hB2 hC2 ⊢
  generalize wq.heap.size = L at hC2 hLb ⊢
  clear hbq hF
  go_wp2
  go_loopw [23] (fun i v => ∃ k : Nat, k ≤ 2 ∧ i = .int .i64 k ∧ ColsAt v (some ⟨L, 0, none⟩) 2 f ∧ BoxAt v (w.heap.size + 1) (k0, n0, s0) ∧ TapeAt v b ∧ Env ls v ∧ Below w.heap.size w v) (fun i _ => 2 - (intOf i).toNat)
  case atStart => exact ⟨0, by omega, rfl, hC2, hY2, hT2, hE2, hB2⟩
  clear hC2 hY2 hT2 hE2 hB2
  case round =>
    obtain ⟨k, hk, rfl, hC, hY, hT, hE, hB⟩ := hrel
    by_cases hlt : k < 2
    · obtain ⟨hLz, hnm, h0, h1, h2, h3⟩ := hC.at0 hlt
      go_wp2_with fail
      have hb1 := low_alloc wr (.cells #[.string (f k).nm, .int .i64 (f k).ty, .bool (f k).nn, .bool (f k).key] 42)
      have hE1 := hE.low hb1
      have hC1 := hC.low hb1
      have hX1 := ColBox.new wr (f k) 42
      obtain ⟨yz, y0, y1, y2⟩ := hY.low hb1
      have hT1 := hT.below hb1
      have hB1 := below_next hB hb1
      have hXb : wr.heap.size ≠ b := by have := hT.lt; omega
      clear hE hC hB hY hT h0 h1 h2 h3 hb1 hLz
      generalize wr.alloc _ = Wx at hE1 hC1 hX1 yz y0 y1 y2 hT1 hB1 ⊢
      generalize wr.heap.size = X at hX1 hXb ⊢
      have x1 := hX1.2.2.1
      have x_ := hX1.1
      have HX1 := Lib.hid hX1
      have HC1 := Lib.hid hC1
      have HT1 := Lib.hid hT1
      clear hX1 hC1 hT1
      go_region_held3 (fun u => u.cell? ⟨w.heap.size + 1, 0, none⟩ = some (.int .i64 k0) ∧ u.cell? ⟨w.heap.size + 1, 1, none⟩ = some (.int .i64 n0) ∧ u.cell? ⟨w.heap.size + 1, 2, none⟩ = some (.string s0) ∧ w.heap.size + 1 < u.heap.size ∧ u.cell? ⟨X, 1, none⟩ = some (.int .i64 (f k).ty) ∧ X < u.heap.size ∧ ColBox u X (f k) ∧ ColsAt u (some ⟨L, 0, none⟩) 2 f ∧ TapeAt u b ∧ Env ls u ∧ Below w.heap.size w u)
        (first
          | exact ⟨y0, y1, y2, yz, x1, x_, HX1.out, HC1.out, HT1.out, hE1.drew, hB1.drew⟩
          | exact keepF5 (y := (k0, n0, s0)) hsq htq h8b hXb hYb hLb hWb (by assumption)
          | exact keepF5a (y := (k0, n0, s0)) h8b hXb hYb hLb hWb (by assumption))
        (first
          | (go_at_call 24; refine (value_any b _ hbw ?_ ?_).mono ?_; (go_split_ands; assumption); (go_split_ands; exact Env.words (by assumption) hlw); rintro e wq ⟨k1, n1, s1, rfl, hv1, -, htq, hsq⟩)
          | (go_at_call 25; refine (odd_any b _ hbw ?_ ?_).mono ?_; (go_split_ands; assumption); (go_split_ands; exact Env.words (by assumption) hlw); rintro e wq ⟨ko, no, so, rfl, ho, htq, hsq⟩)
          | (go_at_call 26; refine (typed_any b _ _ hbw ?_ ?_).mono ?_; (go_split_ands; assumption); (go_split_ands; exact Env.words (by assumption) hlw); rintro e wq ⟨k2, n2, s2, rfl, hv2, -, htq, hsq⟩))
      rename_i hHeld
      obtain ⟨hv0, hv1', hv2', hvz, -, -, hX2, hC2, hT2, hE2, hB2⟩ := hHeld
      have fv1 : Fair (k1, n1, s1) := ⟨hv1.odd.2.2.1, hv1.odd.2.2.2.1, by have := hv1.short; show s1.size ≤ _; omega⟩
      have fv2 : Fair (k2, n2, s2) := ⟨hv2.odd.2.2.1, hv2.odd.2.2.2.1, by have := hv2.short; show s2.size ≤ _; omega⟩
      have fo : Fair (ko, no, so) := ⟨ho.2.2.1, ho.2.2.2.1, by have := ho.2.2.2.2; show so.size ≤ _; omega⟩
      have hY2 : BoxAt _ (w.heap.size + 1) (k0, n0, s0) := ⟨hvz, hv0, hv1', hv2'⟩
      clear hv1 hv2 ho hv0 hv1' hv2' hvz y0 y1 y2 yz x1 x_ HX1 HC1 HT1 hE1 hB1 hsq htq hXb
      generalize hW : wq.alloc _ = W6 at hX2 hC2 hT2 hE2 hB2 hY2 ⊢
      obtain ⟨V, hV, hVF⟩ := list5f hW (fair_mk hn0 hn0' hs0) fv1 fo (fair_mk (by decide) (by decide) (by decide)) fv2
      clear hW fv1 fv2 fo
      generalize wq.heap.size = L2 at hV ⊢
      have HVF := Lib.hid hVF
      have HR : RestF ls w b L2 L (w.heap.size + 1) X V f (k0, n0, s0) (f k) W6 := ⟨hV, hC2, hY2, hX2, hT2, hE2, hB2⟩
      clear hVF hV hC2 hY2 hX2 hT2 hE2 hB2
      go_wp2
      go_loopw [39] (fun i v => ∃ d : Nat, d ≤ 5 ∧ i = .int .i64 d ∧ RestF ls w b L2 L (w.heap.size + 1) X V f (k0, n0, s0) (f k) v) (fun i _ => 5 - (intOf i).toNat)
      case atStart => exact ⟨0, by omega, rfl, HR⟩
      clear HR
      case round =>
        obtain ⟨d, hd, rfl, hR⟩ := hrel
        by_cases hdlt : d < 5
        · obtain ⟨v0, v1, v2⟩ := hR.list.2 d hdlt
          have hVz := hR.list.1
          go_wp2_with fail
          have hb2 := low_alloc wr (.cells #[.int .i64 (V d).1, .int .i64 (V d).2.1, .string (V d).2.2] 45)
          have hR1 := hR.keep hb2
          obtain ⟨zz, z0, z1, z2⟩ := BoxAt.new wr (V d) 45
          obtain ⟨xz, x0, x1, x2, x3⟩ := hR1.col
          clear hR v0 v1 v2 hVz hb2
          generalize wr.alloc _ = Wz at hR1 zz z0 z1 z2 xz x0 x1 x2 x3 ⊢
          generalize wr.heap.size = Z at zz z0 z1 z2 ⊢
          have HR1 := Lib.hid hR1
          clear hR1
          go_region_held3 (fun u => u.cell? ⟨X, 0, none⟩ = some (.string (f k).nm) ∧ u.cell? ⟨X, 1, none⟩ = some (.int .i64 (f k).ty) ∧ u.cell? ⟨X, 2, none⟩ = some (.bool (f k).nn) ∧ u.cell? ⟨X, 3, none⟩ = some (.bool (f k).key) ∧ u.cell? ⟨Z, 0, none⟩ = some (.int .i64 (V d).1) ∧ u.cell? ⟨Z, 1, none⟩ = some (.int .i64 (V d).2.1) ∧ u.cell? ⟨Z, 2, none⟩ = some (.string (V d).2.2) ∧ X < u.heap.size ∧ Z < u.heap.size ∧ RestF ls w b L2 L (w.heap.size + 1) X V f (k0, n0, s0) (f k) u)
            (first
              | exact ⟨x0, x1, x2, x3, z0, z1, z2, xz, zz, HR1.out.drew⟩
              | exact keepF8 hbq (by assumption))
            (first
              | (go_at_call 27; refine (fits_any (f k) _ _ _ _ (HVF.out d).2.2).mono ?_; rintro e wq ⟨rfl, hbq⟩)
              | (go_at_call 28; refine (rfits_any (f k) _ _ _ _ (HVF.out d).2.2).mono ?_; rintro e wq ⟨rfl, hbq⟩))
          rename_i hHeld
          obtain ⟨-, -, -, -, -, -, -, -, -, hR2⟩ := hHeld
          clear zz z0 z1 z2 xz x0 x1 x2 x3 HR1 hbq
          go_wp2
          go_roundw
          case rel => exact ⟨d + 1, by omega, by go_num, hR2⟩
          case measure => simp [intOf]; omega
        · obtain ⟨-, hC, hY, -, hT, hE, hB⟩ := hR
          go_wp2
          go_roundw
          case rel => exact ⟨k + 1, by omega, by go_num, hC, hY, hT, hE, hB⟩
          case measure => simp [intOf]; omega
    · clear hC hY hT
      go_wp2_with fail
      refine (known_any _ hE hlk).mono ?_
      rintro e w5 ⟨rfl, hb5⟩
      have HB5 := Lib.hid (below_next hB hb5)
      go_wp2
      go_ret
      exact ⟨rfl, HB5.out⟩
end Go.Proofs.YtgcbgojbjabhkaaDoor
