/-
  THE STATEMENT ValueOrders, as a walk.
-/
import Derived.Test.YtlknbdefaobamaaDoorOrder
import Derived.Test.YtlknbdefaobamaaDoorOdd
import Derived.Test.YtlknbdefaobamaaDoorKnown
namespace Go.Proofs.YtlknbdefaobamaaDoor
open Go.RowKit

/-- A slice of n values that the call has made: its block, and what its cells hold. -/
def ListAt (u : World) (L n : Nat) (V : Nat → Int × Int × ByteArray) : Prop :=
  L < u.heap.size ∧ ∀ i, i < n → u.cell? ⟨L, i * 3, none⟩ = some (.int .i64 (V i).1) ∧ u.cell? ⟨L, i * 3 + 1, none⟩ = some (.int .i64 (V i).2.1) ∧ u.cell? ⟨L, i * 3 + 2, none⟩ = some (.string (V i).2.2)
theorem ListAt.low {u v : World} {L n : Nat} {V : Nat → Int × Int × ByteArray} (h : ListAt u L n V) (hb : Below u.heap.size u v) : ListAt v L n V :=
  ⟨Nat.lt_of_lt_of_le h.1 hb.size, fun i hi => ⟨by rw [hb.cell (by exact h.1)]; exact (h.2 i hi).1, by rw [hb.cell (by exact h.1)]; exact (h.2 i hi).2.1, by rw [hb.cell (by exact h.1)]; exact (h.2 i hi).2.2⟩⟩

/-- A box with one value. -/
def BoxAt (u : World) (X : Nat) (v : Int × Int × ByteArray) : Prop :=
  X < u.heap.size ∧ u.cell? ⟨X, 0, none⟩ = some (.int .i64 v.1) ∧ u.cell? ⟨X, 1, none⟩ = some (.int .i64 v.2.1) ∧ u.cell? ⟨X, 2, none⟩ = some (.string v.2.2)
theorem BoxAt.low {u v : World} {X : Nat} {x : Int × Int × ByteArray} (h : BoxAt u X x) (hb : Below u.heap.size u v) : BoxAt v X x :=
  ⟨Nat.lt_of_lt_of_le h.1 hb.size, by rw [hb.cell (by exact h.1)]; exact h.2.1, by rw [hb.cell (by exact h.1)]; exact h.2.2.1, by rw [hb.cell (by exact h.1)]; exact h.2.2.2⟩
theorem BoxAt.new (u : World) (v : Int × Int × ByteArray) (t : TypeId) : BoxAt (u.alloc (.cells #[.int .i64 v.1, .int .i64 v.2.1, .string v.2.2] t)) u.heap.size v := by
  refine ⟨by simp, ?_, ?_, ?_⟩
  all_goals go_simp
theorem low_alloc (u : World) (o : Obj) : Below u.heap.size u (u.alloc o) := (Below.refl _ _).alloc (Nat.le_refl _) _

/-- What the innermost round leans on. -/
def Three (w u : World) (L : Nat) (V : Nat → Int × Int × ByteArray) (X Y Z c d g : Nat) : Prop :=
  Env u ∧ ListAt u L 5 V ∧ BoxAt u X (V c) ∧ BoxAt u Y (V d) ∧ BoxAt u Z (V g) ∧ Below w.heap.size w u
theorem Three.low {w u v : World} {L : Nat} {V : Nat → Int × Int × ByteArray} {X Y Z c d g : Nat} (h : Three w u L V X Y Z c d g) (hb : Below u.heap.size u v) : Three w v L V X Y Z c d g :=
  ⟨h.1.low hb, h.2.1.low hb, h.2.2.1.low hb, h.2.2.2.1.low hb, h.2.2.2.2.1.low hb, Below.next h.2.2.2.2.2 hb⟩

theorem keepL {B B' A L m : Nat} {W u v : World} {V : Nat → Int × Int × ByteArray} {x y z x' y' z' : Value} (hb : Below u.heap.size u v)
    (h : u.cell? ⟨B, 0, none⟩ = some x ∧ u.cell? ⟨B, 1, none⟩ = some y ∧ u.cell? ⟨B, 2, none⟩ = some z ∧ u.cell? ⟨B', 0, none⟩ = some x' ∧ u.cell? ⟨B', 1, none⟩ = some y' ∧ u.cell? ⟨B', 2, none⟩ = some z' ∧ B < u.heap.size ∧ B' < u.heap.size ∧ Env u ∧ ListAt u L m V ∧ Below A W u ∧ A ≤ u.heap.size) :
    v.cell? ⟨B, 0, none⟩ = some x ∧ v.cell? ⟨B, 1, none⟩ = some y ∧ v.cell? ⟨B, 2, none⟩ = some z ∧ v.cell? ⟨B', 0, none⟩ = some x' ∧ v.cell? ⟨B', 1, none⟩ = some y' ∧ v.cell? ⟨B', 2, none⟩ = some z' ∧ B < v.heap.size ∧ B' < v.heap.size ∧ Env v ∧ ListAt v L m V ∧ Below A W v ∧ A ≤ v.heap.size := by
  obtain ⟨h0, h1, h2, h0', h1', h2', hz, hz', hE, hL, hB, hA⟩ := h
  have := hb.size
  exact ⟨by rw [hb.cell (by exact hz)]; exact h0, by rw [hb.cell (by exact hz)]; exact h1, by rw [hb.cell (by exact hz)]; exact h2, by rw [hb.cell (by exact hz')]; exact h0', by rw [hb.cell (by exact hz')]; exact h1', by rw [hb.cell (by exact hz')]; exact h2', by omega, by omega, hE.low hb, hL.low hb, hB.trans (hb.mono hA), by omega⟩

theorem keepS {R b : Nat} {W u v : World} {x y z : Value} (hs : StepT b u v) (ht : TapeAt v b) (h8 : 8 ≤ b) (hR : R < b) (hW : W.heap.size ≤ b)
    (h : u.cell? ⟨R, 0, none⟩ = some x ∧ u.cell? ⟨R, 1, none⟩ = some y ∧ u.cell? ⟨R, 2, none⟩ = some z ∧ TapeAt u b ∧ Env u ∧ Below W.heap.size W u ∧ R < u.heap.size) :
    v.cell? ⟨R, 0, none⟩ = some x ∧ v.cell? ⟨R, 1, none⟩ = some y ∧ v.cell? ⟨R, 2, none⟩ = some z ∧ TapeAt v b ∧ Env v ∧ Below W.heap.size W v ∧ R < v.heap.size := by
  obtain ⟨h0, h1, h2, _, hE, hB, hz⟩ := h
  have hn : R ≠ b := by omega
  exact ⟨by rw [hs.cell (by exact hz) (by exact hn)]; exact h0, by rw [hs.cell (by exact hz) (by exact hn)]; exact h1, by rw [hs.cell (by exact hz) (by exact hn)]; exact h2, ht, hE.step hs h8, hB.trans (hs.below hW hB.size), Nat.lt_of_lt_of_le hz hs.size⟩
theorem keepA {R b : Nat} {W u : World} {x y z : Value} {o : Obj} (h8 : 8 ≤ b) (hR : R < b) (hW : W.heap.size ≤ b)
    (h : u.cell? ⟨R, 0, none⟩ = some x ∧ u.cell? ⟨R, 1, none⟩ = some y ∧ u.cell? ⟨R, 2, none⟩ = some z ∧ TapeAt u b ∧ Env u ∧ Below W.heap.size W u ∧ R < u.heap.size) :
    (u.alloc o).cell? ⟨R, 0, none⟩ = some x ∧ (u.alloc o).cell? ⟨R, 1, none⟩ = some y ∧ (u.alloc o).cell? ⟨R, 2, none⟩ = some z ∧ TapeAt (u.alloc o) b ∧ Env (u.alloc o) ∧ Below W.heap.size W (u.alloc o) ∧ R < (u.alloc o).heap.size :=
  keepS ((StepT.refl b u).alloc o) (h.2.2.2.1.alloc o) h8 hR hW h

theorem list5 {W wq : World} {t : TypeId} {a0 b0 a1 b1 a2 b2 a3 b3 a4 b4 : Int} {c0 c1 c2 c3 c4 : ByteArray}
    (h : wq.alloc (.cells #[.int .i64 a0, .int .i64 b0, .string c0, .int .i64 a1, .int .i64 b1, .string c1, .int .i64 a2, .int .i64 b2, .string c2, .int .i64 a3, .int .i64 b3, .string c3, .int .i64 a4, .int .i64 b4, .string c4] t) = W) :
    ∃ V, ListAt W wq.heap.size 5 V := by
  subst h
  refine ⟨fun i => match i with | 0 => (a0, b0, c0) | 1 => (a1, b1, c1) | 2 => (a2, b2, c2) | 3 => (a3, b3, c3) | _ => (a4, b4, c4), by simp, fun i hi => ?_⟩
  have hi' : i = 0 ∨ i = 1 ∨ i = 2 ∨ i = 3 ∨ i = 4 := by omega
  rcases hi' with rfl | rfl | rfl | rfl | rfl
  all_goals
    refine ⟨?_, ?_, ?_⟩
    all_goals go_simp

set_option maxRecDepth 100000 in
set_option maxHeartbeats 4000000 in
theorem orders_walk (w : World) (p : Option Addr) (len cap : Nat) (hl : len ≤ cap) (hm : len ≤ 9223372036854775807) (h : IntsAt w p len) (hE : Env w) (k0 n0 : Int) (s0 : ByteArray) :
    Calls Tryd.prog 5 #[.slice p len cap, .agg #[.int .i64 k0, .int .i64 n0, .string s0]] w fun e w' => e = .returned (.bool true) ∧ Below w.heap.size w w' := by
  have HI := Lib.hid h
  clear h
  have hz8 := hE.size
  have hI' : IntsAt (w.alloc (.cells #[.int .i64 k0, .int .i64 n0, .string s0] 23)) p len := fun i hi => by
    obtain ⟨c, o, z, hp, hc, hz, hz1⟩ := HI.out i hi
    exact ⟨c, o, z, hp, by simp; omega, by rw [World.cell?_of_block (w := w) (Below.heap_alloc _ _ _ hc)]; exact hz, hz1⟩
  have HI' := Lib.hid hI'
  clear hI' HI
  go_enter Tryd.func5, Tryd.ntmps5
  go_wp2_with fail
  refine (new_any _ p len cap hl hm HI'.out).mono ?_
  rintro e w1 ⟨b, rfl, hb0, ht, hb1⟩
  have hb0' : w.heap.size < b := Nat.lt_of_lt_of_le (Nat.lt_succ_self _) (by simpa using hb0)
  have h8b : 8 ≤ b := by omega
  obtain ⟨a0, a1, a2, -, -, -, hz1⟩ := box3 hb1
  have hE1 : Env w1 := hE.low (Below.of_alloc hb1)
  have hB1 : Below w.heap.size w w1 := Below.of_alloc hb1
  have hbw : b ≠ 1 := by omega
  clear HI' hb1 hb0 hE
  go_wp2_with fail
  have HT := Lib.hid ht
  clear ht
  go_region_held3 (fun u => u.cell? ⟨w.heap.size, 0, none⟩ = some (.int .i64 k0) ∧ u.cell? ⟨w.heap.size, 1, none⟩ = some (.int .i64 n0) ∧ u.cell? ⟨w.heap.size, 2, none⟩ = some (.string s0) ∧ TapeAt u b ∧ Env u ∧ Below w.heap.size w u ∧ w.heap.size < u.heap.size)
    (first
      | exact ⟨a0, a1, a2, HT.out, hE1.drew, hB1.drew, hz1⟩
      | exact keepS hsq htq h8b hb0' (Nat.le_of_lt hb0') (by assumption)
      | exact keepA h8b hb0' (Nat.le_of_lt hb0') (by assumption))
    (first
      | (go_at_call 9; refine (value_any b _ hbw ?_ ?_).mono ?_; (go_split_ands; assumption); (go_split_ands; exact Env.words (by assumption)); rintro e wq ⟨k, n, s, rfl, hv, -, htq, hsq⟩)
      | (go_at_call 10; refine (odd_any b _ hbw ?_ ?_).mono ?_; (go_split_ands; assumption); (go_split_ands; exact Env.words (by assumption)); rintro e wq ⟨k, n, s, rfl, hv, htq, hsq⟩))
  rename_i hHeld
  obtain ⟨-, -, -, -, hE2, hB2, -⟩ := hHeld
  clear a0 a1 a2 hE1 hB1 HT hbw h8b hb0' hz1
  generalize hW : wq.alloc _ = W5 at hE2 hB2 ⊢
  obtain ⟨V, hV⟩ := list5 hW
  clear hW
  generalize wq.heap.size = L at hV ⊢
  clear hsq htq
  go_wp2
  go_loopw [8, 27] (fun _ i wr => ∃ c : Nat, c ≤ 5 ∧ i = .int .i64 c ∧ Env wr ∧ ListAt wr L 5 V ∧ Below w.heap.size w wr) (fun _ i _ => 5 - (intOf i).toNat)
  case atStart => exact ⟨0, by omega, rfl, hE2, hV, hB2⟩
  case round =>
    clear hE2 hB2 hV
    obtain ⟨c, hc, rfl, hE, hV, hB⟩ := hrel
    by_cases hlt : c < 5
    · have hz := hB.size
      have hVz := hV.1
      obtain ⟨v0, v1, v2⟩ := hV.2 c hlt
      have hdc : decide ((c : Int) < 5) = true := by simp; omega
      go_wp2
      have hE1 := hE.alloc (.cells #[.int .i64 (V c).1, .int .i64 (V c).2.1, .string (V c).2.2] 23)
      have hV1 := hV.low (low_alloc wr (.cells #[.int .i64 (V c).1, .int .i64 (V c).2.1, .string (V c).2.2] 23))
      have hX1 := BoxAt.new wr (V c) 23
      have hB1 := Below.next hB (low_alloc wr (.cells #[.int .i64 (V c).1, .int .i64 (V c).2.1, .string (V c).2.2] 23))
      clear hE hV hB v0 v1 v2
      generalize wr.alloc _ = Wx at hE1 hV1 hX1 hB1 ⊢
      generalize wr.heap.size = X at hX1 ⊢
      go_loopw [10, 12, 33] (fun _ _ i wr2 => ∃ d : Nat, d ≤ 5 ∧ i = .int .i64 d ∧ Env wr2 ∧ ListAt wr2 L 5 V ∧ BoxAt wr2 X (V c) ∧ Below w.heap.size w wr2) (fun _ _ i _ => 5 - (intOf i).toNat)
      case atStart => exact ⟨0, by omega, rfl, hE1, hV1, hX1, hB1⟩
      case round =>
        clear hE1 hB1 hV1 hX1
        obtain ⟨d, hd, rfl, hE, hV, hX, hB⟩ := hrel
        by_cases hlt2 : d < 5
        · have hz := hB.size
          have hVz := hV.1
          obtain ⟨v0, v1, v2⟩ := hV.2 d hlt2
          have hdd : decide ((d : Int) < 5) = true := by simp; omega
          go_wp2_with fail
          have hE1 := hE.alloc (.cells #[.int .i64 (V d).1, .int .i64 (V d).2.1, .string (V d).2.2] 23)
          have hb1 := low_alloc wr (.cells #[.int .i64 (V d).1, .int .i64 (V d).2.1, .string (V d).2.2] 23)
          have hV1 := hV.low hb1
          have hX1 := hX.low hb1
          have hY1 := BoxAt.new wr (V d) 23
          have hB1 := Below.next hB hb1
          clear hE hV hB hX v0 v1 v2 hb1
          generalize wr.alloc _ = Wx at hE1 hV1 hX1 hB1 hY1 ⊢
          generalize wr.heap.size = Y at hY1 ⊢
          obtain ⟨hxz, x0, x1, x2⟩ := hX1
          obtain ⟨hyz, y0, y1, y2⟩ := hY1
          have hq := eql_val (V c).1 (V c).2.1 (V c).2.2 (V d).1 (V d).2.1 (V d).2.2
          have bd1 := (cmpV_bd (V d).1 (V d).2.1 (V d).2.2 (V c).1 (V c).2.1 (V c).2.2).1
          have bd2 := (cmpV_bd (V d).1 (V d).2.1 (V d).2.2 (V c).1 (V c).2.1 (V c).2.2).2
          have hneg : (cmpV (V c).1 (V c).2.1 (V c).2.2 (V d).1 (V d).2.1 (V d).2.2 != - cmpV (V d).1 (V d).2.1 (V d).2.2 (V c).1 (V c).2.1 (V c).2.2) = false := by rw [← cmpV_neg]; simp
          have hsame2 := cmpV_same2 (V c).1 (V c).2.1 (V c).2.2 (V d).1 (V d).2.1 (V d).2.2
          have hsame := cmpV_same (V c).1 (V c).2.1 (V c).2.2 (V d).1 (V d).2.1 (V d).2.2
          have hzx : w.heap.size ≤ Wx.heap.size := hB1.size
          have hwr : IntKind.i64.wrap (- cmpV (V d).1 (V d).2.1 (V d).2.2 (V c).1 (V c).2.1 (V c).2.2) = - cmpV (V d).1 (V d).2.1 (V d).2.2 (V c).1 (V c).2.1 (V c).2.2 := IntWalk.i64_in _ (by omega)
          go_region_held3 (fun u => u.cell? ⟨X, 0, none⟩ = some (.int .i64 (V c).1) ∧ u.cell? ⟨X, 1, none⟩ = some (.int .i64 (V c).2.1) ∧ u.cell? ⟨X, 2, none⟩ = some (.string (V c).2.2) ∧ u.cell? ⟨Y, 0, none⟩ = some (.int .i64 (V d).1) ∧ u.cell? ⟨Y, 1, none⟩ = some (.int .i64 (V d).2.1) ∧ u.cell? ⟨Y, 2, none⟩ = some (.string (V d).2.2) ∧ X < u.heap.size ∧ Y < u.heap.size ∧ Env u ∧ ListAt u L 5 V ∧ Below w.heap.size w u ∧ w.heap.size ≤ u.heap.size)
            (first
              | exact ⟨x0, x1, x2, y0, y1, y2, hxz, hyz, hE1.drew, hV1, hB1.drew, hzx⟩
              | exact keepL hbq (by assumption))
            (first
              | (go_at_call 22; refine (compare_any _ _ _ _ _ _ _).mono ?_; rintro e wq ⟨rfl, hbq⟩))
          clear hwr hneg hsame hsame2 hq bd1 bd2 x0 x1 x2 y0 y1 y2 hE1 hV1 hB1 hxz hyz hzx
          rename_i hHeld
          obtain ⟨x0, x1, x2, y0, y1, y2, hxz, hyz, hE, hV, hB, -⟩ := hHeld
          have hX : BoxAt wq X (V c) := ⟨hxz, x0, x1, x2⟩
          have hY : BoxAt wq Y (V d) := ⟨hyz, y0, y1, y2⟩
          clear x0 x1 x2 y0 y1 y2 hxz hyz
          clear hbq
          generalize wq = Wy at hE hV hB hX hY ⊢
          go_wp2
          go_loopw [12, 57] (fun _ i wr3 => ∃ g : Nat, g ≤ 5 ∧ i = .int .i64 g ∧ Env wr3 ∧ ListAt wr3 L 5 V ∧ BoxAt wr3 X (V c) ∧ BoxAt wr3 Y (V d) ∧ Below w.heap.size w wr3) (fun _ i _ => 5 - (intOf i).toNat)
          case atStart => exact ⟨0, by omega, rfl, hE, hV, hX, hY, hB⟩
          case round =>
            clear hE hB hV hX hY
            obtain ⟨g, hg, rfl, hE, hV, hX, hY, hB⟩ := hrel
            by_cases hlt3 : g < 5
            · have hz := hB.size
              have hVz := hV.1
              obtain ⟨v0, v1, v2⟩ := hV.2 g hlt3
              have tr := @cmpV_trans (V c).1 (V c).2.1 (V c).2.2 (V d).1 (V d).2.1 (V d).2.2 (V g).1 (V g).2.1 (V g).2.2
              have TR := Lib.hid tr
              clear tr
              have hb1 := low_alloc wr (.cells #[.int .i64 (V g).1, .int .i64 (V g).2.1, .string (V g).2.2] 23)
              have hT : Three w (wr.alloc (.cells #[.int .i64 (V g).1, .int .i64 (V g).2.1, .string (V g).2.2] 23)) L V X Y wr.heap.size c d g :=
                ⟨hE.alloc _, hV.low hb1, hX.low hb1, hY.low hb1, BoxAt.new _ _ _, Below.next hB hb1⟩
              have HT := Lib.hid hT
              obtain ⟨hxz, x0, x1, x2⟩ := hX
              obtain ⟨hyz, y0, y1, y2⟩ := hY
              clear hT hb1 hE hV hB
              go_wp2_with fail
              refine (compare_any _ _ _ _ _ _ _).mono ?_
              rintro e wa ⟨rfl, hba⟩
              have hTa := HT.out.low hba
              clear x0 x1 x2 y0 y1 y2 v0 v1 v2 hxz hyz hVz hz hba HT
              generalize wr.heap.size = Z at hTa ⊢
              have HTa := Lib.hid hTa
              obtain ⟨hEa, hVa, ⟨_, x0, x1, x2⟩, ⟨_, y0, y1, y2⟩, ⟨_, z0, z1, z2⟩, hBa⟩ := hTa
              by_cases h1 : cmpV (V c).1 (V c).2.1 (V c).2.2 (V d).1 (V d).2.1 (V d).2.2 ≤ 0
              · go_wp2_with fail
                refine (compare_any _ _ _ _ _ _ _).mono ?_
                rintro e wb ⟨rfl, hbb⟩
                have hTb := HTa.out.low hbb
                clear x0 x1 x2 y0 y1 y2 z0 z1 z2 hEa hVa hBa hbb HTa
                have HTb := Lib.hid hTb
                obtain ⟨hEb, hVb, ⟨_, x0, x1, x2⟩, ⟨_, y0, y1, y2⟩, ⟨_, z0, z1, z2⟩, hBb⟩ := hTb
                by_cases h2 : cmpV (V d).1 (V d).2.1 (V d).2.2 (V g).1 (V g).2.1 (V g).2.2 ≤ 0
                · have h3 := TR.out h1 h2
                  go_wp2_with fail
                  refine (compare_any _ _ _ _ _ _ _).mono ?_
                  rintro e wd ⟨rfl, hbd⟩
                  have hTd := HTb.out.low hbd
                  clear x0 x1 x2 y0 y1 y2 z0 z1 z2 hEb hVb hBb hbd HTb
                  have HTd := Lib.hid hTd
                  clear hTd
                  go_wp2
                  go_roundw
                  case rel =>
                    obtain ⟨hE, hV, hX, hY, -, hB⟩ := HTd.out
                    exact ⟨g + 1, by omega, by go_num, hE, hV, hX, hY, hB⟩
                  case measure => simp [intOf]; omega
                · go_wp2
                  go_roundw
                  case rel =>
                    obtain ⟨hE, hV, hX, hY, -, hB⟩ := HTb.out
                    exact ⟨g + 1, by omega, by go_num, hE, hV, hX, hY, hB⟩
                  case measure => simp [intOf]; omega
              · go_wp2
                go_roundw
                case rel =>
                  obtain ⟨hE, hV, hX, hY, -, hB⟩ := HTa.out
                  exact ⟨g + 1, by omega, by go_num, hE, hV, hX, hY, hB⟩
                case measure => simp [intOf]; omega
            · go_wp2
              go_roundw
              case rel => exact ⟨d + 1, by omega, by go_num, hE, hV, hX, hB⟩
              case measure => simp [intOf]; omega
        · go_wp2
          go_roundw
          case rel => exact ⟨c + 1, by omega, by go_num, hE, hV, hB⟩
          case measure => simp [intOf]; omega
    · go_wp2_with (go_at_call 21; refine (known_any _ hE).mono ?_; rintro e wk ⟨rfl, hk⟩)
      go_ret
      exact ⟨rfl, Below.next hB hk⟩
end Go.Proofs.YtlknbdefaobamaaDoor
