/-
  THE REFERENCE's Sum.
-/
import Derived.Test.YtkimoioljcpcoaaArithRef
import Derived.Deep.RegionWith
namespace Go.Proofs.Ytkimoioljcpcoaa
open Go.RowKit

/-- A box of two cells that may be written. -/
structure Box2 (u : World) (X : Nat) (x y : Value) : Prop where
  lt : X < u.heap.size
  c0 : u.cell? ⟨X, 0, none⟩ = some x
  c1 : u.cell? ⟨X, 1, none⟩ = some y
  f0 : u.frozen? ⟨X, 0, none⟩ = false
  f1 : u.frozen? ⟨X, 1, none⟩ = false
theorem Box2.low {u v : World} {X : Nat} {x y : Value} (h : Box2 u X x y) (hb : Below u.heap.size u v) : Box2 v X x y :=
  ⟨Nat.lt_of_lt_of_le h.lt hb.size, by rw [hb.cell (by exact h.lt)]; exact h.c0, by rw [hb.cell (by exact h.lt)]; exact h.c1, by rw [hb.frozen (by exact h.lt)]; exact h.f0, by rw [hb.frozen (by exact h.lt)]; exact h.f1⟩
theorem Box2.drewN {u : World} {X : Nat} {x y : Value} (h : Box2 u X x y) (n : Nat) : Box2 (u.drewN n) X x y := ⟨h.lt, h.c0, h.c1, h.f0, h.f1⟩
theorem Box2.drew {u : World} {X : Nat} {x y : Value} (h : Box2 u X x y) : Box2 u.drew X x y := ⟨h.lt, h.c0, h.c1, h.f0, h.f1⟩
theorem Box2.made (u : World) (x y : Value) (t : TypeId) : Box2 (u.alloc (.cells #[x, y] t)) u.heap.size x y := by
  constructor
  · simp
  all_goals go_simp
theorem Box2.set {u : World} {X : Nat} {a b : Value} (h : Box2 u X a b) (x y : Value) : Box2 ((u.setCell ⟨X, 0, none⟩ x).setCell ⟨X, 1, none⟩ y) X x y := by
  obtain ⟨hl, c0, c1, f0, f1⟩ := h
  constructor
  · simpa [World.setCell] using hl
  · simp [go_sem, c0]
  · simp [go_sem, c1]
  · simp [go_sem, f0]
  · simp [go_sem, f1]

theorem NumsAt.low {u v : World} {p : Option Addr} {f : Nat → Int} {n : Nat} (h : NumsAt u p f n) (hb : Below u.heap.size u v) : NumsAt v p f n := fun i hi => by
  obtain ⟨c, o, hp, hc, h1⟩ := h i hi
  exact ⟨c, o, hp, by rw [hb.cell (World.block_lt_of_cell? u _ hc)]; exact hc, h1⟩

theorem rsum_next {w v v1 v2 : World} (h : Below w.heap.size w v) (h1 : Below v.heap.size v.drew v1) (h2 : Below v1.heap.size v1 v2) (x y : Value) :
    Below w.heap.size w ((v2.setCell ⟨w.heap.size, 0, none⟩ x).setCell ⟨w.heap.size, 1, none⟩ y) :=
  ((h.drew.trans ((onto (w := v.drew) h1 h2).mono h.size)).setCell (Nat.le_refl _) _).setCell (Nat.le_refl _) _
set_option maxHeartbeats 1000000 in
theorem rsum_any (p : Option Addr) (f : Nat → Int) (n cap : Nat) (w : World) (hn : n ≤ 17592186044416) (h : NumsAt w p f n) :
    Calls Try.prog 13 #[.slice p n cap] w fun e w' => e = .returned (.tuple #[.int .i64 (fitI (psum f n)), .bool (fitB (psum f n))]) ∧ Below w.heap.size w w' := by
  have HN := Lib.hid h
  clear h
  go_enter Try.func13, Try.ntmps13
  go_wp2_with fail
  have HB : Box2 (w.alloc (.cells #[.int .i64 0, .int .u64 0] 46)) w.heap.size (.int .i64 (wrapH (psum f 0))) (.int .u64 (lowU (psum f 0))) := by
    rw [show psum f 0 = 0 from rfl, show wrapH 0 = 0 by decide +kernel, show lowU 0 = 0 by decide +kernel]
    exact Box2.made w (.int .i64 0) (.int .u64 0) 46
  have HW : Below w.heap.size w (w.alloc (.cells #[.int .i64 0, .int .u64 0] 46)) := (Below.refl _ _).alloc (Nat.le_refl _) _
  go_loopw [9] (fun i v => ∃ k : Nat, k ≤ n ∧ i = .int .i64 k ∧ Box2 v w.heap.size (.int .i64 (wrapH (psum f k))) (.int .u64 (lowU (psum f k))) ∧ Below w.heap.size w v) (fun i _ => n - (intOf i).toNat)
  case atStart => exact ⟨0, Nat.zero_le _, rfl, HB, HW⟩
  case round =>
    obtain ⟨k, hk, rfl, hB, hW⟩ := hrel
    clear HB HW
    by_cases hlt : k < n
    · have ht : decide ((k : Int) < n) = true := decide_eq_true (by omega)
      obtain ⟨c, o, rfl, hcell, hf1, hf2⟩ := HN.out.low hW k hlt
      have HK := Lib.hid hB
      have HL := Lib.hid hW
      obtain ⟨hz, c0, c1, f0, f1⟩ := hB
      clear hW
      go_wp2_with fail
      go_region_with (first
        | (go_at_call 30; refine (of_any (f k) _ hf1 hf2).mono ?_; rintro e v1 ⟨rfl, hb1⟩; have K1 := Lib.hid (Box2.low (by first | exact HK.out | exact HK.out.drew | exact HK.out.drewN _) hb1); obtain ⟨z1, d0, d1, e0, e1⟩ := K1.out)
        | (go_at_call 29; refine (plus_any _ (psum f k) (f k)).mono ?_; rintro e v2 ⟨rfl, hb2⟩; have K2 := Lib.hid (Box2.low (by first | exact K1.out | exact K1.out.drew | exact K1.out.drewN _) hb2); obtain ⟨z2, g0, g1, h0, h1⟩ := K2.out))
      all_goals
        have KB := Lib.hid (rsum_next HL.out hb1 hb2 (.int .i64 (wrapH (psum f k + f k))) (.int .u64 (lowU (psum f k + f k))))
        have KK := Lib.hid (K2.out.set (.int .i64 (wrapH (psum f k + f k))) (.int .u64 (lowU (psum f k + f k))))
        clear hcell c0 c1 f0 f1 d0 d1 e0 e1 g0 g1 h0 h1 z1 z2 hz
        go_wp2
        go_roundw
        case rel => exact ⟨k + 1, by omega, by go_num, KK.out, KB.out⟩
        case measure => simp [intOf]; omega
    · obtain rfl : k = n := by omega
      have ht : decide ((k : Int) < k) = false := decide_eq_false (by omega)
      have hb := psum_bound (fun i hi => (HN.out i hi).elim fun _ ⟨_, _, _, h1, h2⟩ => ⟨h1, h2⟩) k (Nat.le_refl _)
      have hr : -170141183460469231731687303715884105728 ≤ psum f k ∧ psum f k < 170141183460469231731687303715884105728 := by omega
      have HL := Lib.hid hW
      obtain ⟨hz, c0, c1, f0, f1⟩ := hB
      clear hW hb
      go_wp2_with fail
      refine (narrow_any _ (psum f k) hr.1 hr.2).mono ?_
      rintro e w2 ⟨rfl, h2⟩
      go_wp2
      go_ret2
      exact ⟨rfl, onto HL.out h2⟩
end Go.Proofs.Ytkimoioljcpcoaa
