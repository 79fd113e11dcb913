/-
  Several texts in one.
-/
import Derived.Test.YtlnbpobipmejfaaGreatDoorPk02
import Derived.Lib.Strings
import Derived.Below
import Derived.Lib.Itoa
import Derived.Lib.Replace
import Derived.Lib.Bytealg
import Derived.Lib.Small
import Derived.Test.YtlnbpobipmejfaaGreatDoorPk01
import Derived.StillTailTactics
/-
  Slices and boxes of values that a call has made, and that they stay.
-/
namespace Go.Proofs.YtlnbpobipmejfaaGreatDoor
set_option maxRecDepth 100000
open Go.RowKit
variable {ls : List Nat}

/-- A slice of n values that the call has made: its block, and what its cells hold. -/
def ListAt (u : World) (L n : Nat) (V : Nat → Int × Int × ByteArray) : Prop :=
  L < u.heap.size ∧ ∀ i, i < n → u.cell? ⟨L, i * 3, none⟩ = some (.int .i64 (V i).1) ∧ u.cell? ⟨L, i * 3 + 1, none⟩ = some (.int .i64 (V i).2.1) ∧ u.cell? ⟨L, i * 3 + 2, none⟩ = some (.string (V i).2.2)
theorem ListAt.low {u v : World} {L n : Nat} {V : Nat → Int × Int × ByteArray} (h : ListAt u L n V) (hb : Below u.heap.size u v) : ListAt v L n V :=
  ⟨Nat.lt_of_lt_of_le h.1 hb.size, fun i hi => ⟨by rw [hb.cell (by exact h.1)]; exact (h.2 i hi).1, by rw [hb.cell (by exact h.1)]; exact (h.2 i hi).2.1, by rw [hb.cell (by exact h.1)]; exact (h.2 i hi).2.2⟩⟩

/-- A box with one value. -/
def BoxAt (u : World) (X : Nat) (v : Int × Int × ByteArray) : Prop :=
  X < u.heap.size ∧ u.cell? ⟨X, 0, none⟩ = some (.int .i64 v.1) ∧ u.cell? ⟨X, 1, none⟩ = some (.int .i64 v.2.1) ∧ u.cell? ⟨X, 2, none⟩ = some (.string v.2.2)
theorem BoxAt.low {u v : World} {X : Nat} {x : Int × Int × ByteArray} (h : BoxAt u X x) (hb : Below u.heap.size u v) : BoxAt v X x :=
  ⟨Nat.lt_of_lt_of_le h.1 hb.size, by rw [hb.cell (by exact h.1)]; exact h.2.1, by rw [hb.cell (by exact h.1)]; exact h.2.2.1, by rw [hb.cell (by exact h.1)]; exact h.2.2.2⟩
theorem BoxAt.new (u : World) (v : Int × Int × ByteArray) (t : TypeId) : BoxAt (u.alloc (.cells #[.int .i64 v.1, .int .i64 v.2.1, .string v.2.2] t)) u.heap.size v := by
  refine ⟨by simp, ?_, ?_, ?_⟩
  all_goals go_simp
theorem low_alloc (u : World) (o : Obj) : Below u.heap.size u (u.alloc o) := (Below.refl _ _).alloc (Nat.le_refl _) _

theorem keepX {B A L m : Nat} {W u v : World} {V : Nat → Int × Int × ByteArray} {x y z : Value} (hb : Below u.heap.size u v)
    (h : u.cell? ⟨B, 0, none⟩ = some x ∧ u.cell? ⟨B, 1, none⟩ = some y ∧ u.cell? ⟨B, 2, none⟩ = some z ∧ B < u.heap.size ∧ Env ls u ∧ ListAt u L m V ∧ Below A W u ∧ A ≤ u.heap.size) :
    v.cell? ⟨B, 0, none⟩ = some x ∧ v.cell? ⟨B, 1, none⟩ = some y ∧ v.cell? ⟨B, 2, none⟩ = some z ∧ B < v.heap.size ∧ Env ls v ∧ ListAt v L m V ∧ Below A W v ∧ A ≤ v.heap.size := by
  obtain ⟨h0, h1, h2, hz, hE, hL, hB, hA⟩ := h
  have := hb.size
  exact ⟨by rw [hb.cell (by exact hz)]; exact h0, by rw [hb.cell (by exact hz)]; exact h1, by rw [hb.cell (by exact hz)]; exact h2, by omega, hE.low hb, hL.low hb, hB.trans (hb.mono hA), by omega⟩

theorem keepL {B B' A L m : Nat} {W u v : World} {V : Nat → Int × Int × ByteArray} {x y z x' y' z' : Value} (hb : Below u.heap.size u v)
    (h : u.cell? ⟨B, 0, none⟩ = some x ∧ u.cell? ⟨B, 1, none⟩ = some y ∧ u.cell? ⟨B, 2, none⟩ = some z ∧ u.cell? ⟨B', 0, none⟩ = some x' ∧ u.cell? ⟨B', 1, none⟩ = some y' ∧ u.cell? ⟨B', 2, none⟩ = some z' ∧ B < u.heap.size ∧ B' < u.heap.size ∧ Env ls u ∧ ListAt u L m V ∧ Below A W u ∧ A ≤ u.heap.size) :
    v.cell? ⟨B, 0, none⟩ = some x ∧ v.cell? ⟨B, 1, none⟩ = some y ∧ v.cell? ⟨B, 2, none⟩ = some z ∧ v.cell? ⟨B', 0, none⟩ = some x' ∧ v.cell? ⟨B', 1, none⟩ = some y' ∧ v.cell? ⟨B', 2, none⟩ = some z' ∧ B < v.heap.size ∧ B' < v.heap.size ∧ Env ls v ∧ ListAt v L m V ∧ Below A W v ∧ A ≤ v.heap.size := by
  obtain ⟨h0, h1, h2, h0', h1', h2', hz, hz', hE, hL, hB, hA⟩ := h
  have := hb.size
  exact ⟨by rw [hb.cell (by exact hz)]; exact h0, by rw [hb.cell (by exact hz)]; exact h1, by rw [hb.cell (by exact hz)]; exact h2, by rw [hb.cell (by exact hz')]; exact h0', by rw [hb.cell (by exact hz')]; exact h1', by rw [hb.cell (by exact hz')]; exact h2', by omega, by omega, hE.low hb, hL.low hb, hB.trans (hb.mono hA), by omega⟩

theorem keepS {R b : Nat} {W u v : World} {x y z : Value} (hs : StepT b u v) (ht : TapeAt v b) (h8 : 2 ≤ b) (hR : R < b) (hW : W.heap.size ≤ b)
    (h : u.cell? ⟨R, 0, none⟩ = some x ∧ u.cell? ⟨R, 1, none⟩ = some y ∧ u.cell? ⟨R, 2, none⟩ = some z ∧ TapeAt u b ∧ Env ls u ∧ Below W.heap.size W u ∧ R < u.heap.size) :
    v.cell? ⟨R, 0, none⟩ = some x ∧ v.cell? ⟨R, 1, none⟩ = some y ∧ v.cell? ⟨R, 2, none⟩ = some z ∧ TapeAt v b ∧ Env ls v ∧ Below W.heap.size W v ∧ R < v.heap.size := by
  obtain ⟨h0, h1, h2, _, hE, hB, hz⟩ := h
  have hn : R ≠ b := by omega
  exact ⟨by rw [hs.cell (by exact hz) (by exact hn)]; exact h0, by rw [hs.cell (by exact hz) (by exact hn)]; exact h1, by rw [hs.cell (by exact hz) (by exact hn)]; exact h2, ht, hE.step hs h8, hB.trans (hs.below hW hB.size), Nat.lt_of_lt_of_le hz hs.size⟩
theorem keepA {R b : Nat} {W u : World} {x y z : Value} {o : Obj} (h8 : 2 ≤ b) (hR : R < b) (hW : W.heap.size ≤ b)
    (h : u.cell? ⟨R, 0, none⟩ = some x ∧ u.cell? ⟨R, 1, none⟩ = some y ∧ u.cell? ⟨R, 2, none⟩ = some z ∧ TapeAt u b ∧ Env ls u ∧ Below W.heap.size W u ∧ R < u.heap.size) :
    (u.alloc o).cell? ⟨R, 0, none⟩ = some x ∧ (u.alloc o).cell? ⟨R, 1, none⟩ = some y ∧ (u.alloc o).cell? ⟨R, 2, none⟩ = some z ∧ TapeAt (u.alloc o) b ∧ Env ls (u.alloc o) ∧ Below W.heap.size W (u.alloc o) ∧ R < (u.alloc o).heap.size :=
  keepS ((StepT.refl b u).alloc o) (h.2.2.2.1.alloc o) h8 hR hW h

theorem keepS6 {R R' b : Nat} {W u v : World} {x y z x' y' z' : Value} (hs : StepT b u v) (ht : TapeAt v b) (h8 : 2 ≤ b) (hR : R < b) (hR' : R' < b) (hW : W.heap.size ≤ b)
    (h : u.cell? ⟨R, 0, none⟩ = some x ∧ u.cell? ⟨R, 1, none⟩ = some y ∧ u.cell? ⟨R, 2, none⟩ = some z ∧ u.cell? ⟨R', 0, none⟩ = some x' ∧ u.cell? ⟨R', 1, none⟩ = some y' ∧ u.cell? ⟨R', 2, none⟩ = some z' ∧ TapeAt u b ∧ Env ls u ∧ Below W.heap.size W u ∧ R < u.heap.size ∧ R' < u.heap.size) :
    v.cell? ⟨R, 0, none⟩ = some x ∧ v.cell? ⟨R, 1, none⟩ = some y ∧ v.cell? ⟨R, 2, none⟩ = some z ∧ v.cell? ⟨R', 0, none⟩ = some x' ∧ v.cell? ⟨R', 1, none⟩ = some y' ∧ v.cell? ⟨R', 2, none⟩ = some z' ∧ TapeAt v b ∧ Env ls v ∧ Below W.heap.size W v ∧ R < v.heap.size ∧ R' < v.heap.size := by
  obtain ⟨h0, h1, h2, h0', h1', h2', _, hE, hB, hz, hz'⟩ := h
  have hn : R ≠ b := by omega
  have hn' : R' ≠ b := by omega
  exact ⟨by rw [hs.cell (by exact hz) (by exact hn)]; exact h0, by rw [hs.cell (by exact hz) (by exact hn)]; exact h1, by rw [hs.cell (by exact hz) (by exact hn)]; exact h2,
    by rw [hs.cell (by exact hz') (by exact hn')]; exact h0', by rw [hs.cell (by exact hz') (by exact hn')]; exact h1', by rw [hs.cell (by exact hz') (by exact hn')]; exact h2', ht, hE.step hs h8, hB.trans (hs.below hW hB.size), Nat.lt_of_lt_of_le hz hs.size, Nat.lt_of_lt_of_le hz' hs.size⟩
theorem keepA6 {R R' b : Nat} {W u : World} {x y z x' y' z' : Value} {o : Obj} (h8 : 2 ≤ b) (hR : R < b) (hR' : R' < b) (hW : W.heap.size ≤ b)
    (h : u.cell? ⟨R, 0, none⟩ = some x ∧ u.cell? ⟨R, 1, none⟩ = some y ∧ u.cell? ⟨R, 2, none⟩ = some z ∧ u.cell? ⟨R', 0, none⟩ = some x' ∧ u.cell? ⟨R', 1, none⟩ = some y' ∧ u.cell? ⟨R', 2, none⟩ = some z' ∧ TapeAt u b ∧ Env ls u ∧ Below W.heap.size W u ∧ R < u.heap.size ∧ R' < u.heap.size) :
    (u.alloc o).cell? ⟨R, 0, none⟩ = some x ∧ (u.alloc o).cell? ⟨R, 1, none⟩ = some y ∧ (u.alloc o).cell? ⟨R, 2, none⟩ = some z ∧ (u.alloc o).cell? ⟨R', 0, none⟩ = some x' ∧ (u.alloc o).cell? ⟨R', 1, none⟩ = some y' ∧ (u.alloc o).cell? ⟨R', 2, none⟩ = some z' ∧ TapeAt (u.alloc o) b ∧ Env ls (u.alloc o) ∧ Below W.heap.size W (u.alloc o) ∧ R < (u.alloc o).heap.size ∧ R' < (u.alloc o).heap.size :=
  keepS6 ((StepT.refl b u).alloc o) (h.2.2.2.2.2.2.1.alloc o) h8 hR hR' hW h

theorem keepZ6 {R R' b : Nat} {W u v : World} {x y z x' y' z' : Value} (hb : Below u.heap.size u v) (h8 : 2 ≤ b) (hR : R < b) (hR' : R' < b) (hW : W.heap.size ≤ b)
    (h : u.cell? ⟨R, 0, none⟩ = some x ∧ u.cell? ⟨R, 1, none⟩ = some y ∧ u.cell? ⟨R, 2, none⟩ = some z ∧ u.cell? ⟨R', 0, none⟩ = some x' ∧ u.cell? ⟨R', 1, none⟩ = some y' ∧ u.cell? ⟨R', 2, none⟩ = some z' ∧ TapeAt u b ∧ Env ls u ∧ Below W.heap.size W u ∧ R < u.heap.size ∧ R' < u.heap.size) :
    v.cell? ⟨R, 0, none⟩ = some x ∧ v.cell? ⟨R, 1, none⟩ = some y ∧ v.cell? ⟨R, 2, none⟩ = some z ∧ v.cell? ⟨R', 0, none⟩ = some x' ∧ v.cell? ⟨R', 1, none⟩ = some y' ∧ v.cell? ⟨R', 2, none⟩ = some z' ∧ TapeAt v b ∧ Env ls v ∧ Below W.heap.size W v ∧ R < v.heap.size ∧ R' < v.heap.size :=
  keepS6 (StepT.of_below hb) (h.2.2.2.2.2.2.1.below hb) h8 hR hR' hW h

theorem IntsAt.low {u v : World} {p : Option Addr} {n : Nat} (h : IntsAt u p n) (hb : Below u.heap.size u v) : IntsAt v p n := fun i hi => by
  obtain ⟨c, o, z, hp, hc, hz, hz1⟩ := h i hi
  exact ⟨c, o, z, hp, Nat.lt_of_lt_of_le hc hb.size, by rw [hb.cell (by exact hc)]; exact hz, hz1⟩

/-- A value whose number is an int64 and whose text is a text of Go. -/
def Fair (v : Int × Int × ByteArray) : Prop := -9223372036854775808 ≤ v.2.1 ∧ v.2.1 ≤ 9223372036854775807 ∧ v.2.2.size ≤ 9223372036854775807

theorem fair_mk {k n : Int} {s : ByteArray} (h1 : -9223372036854775808 ≤ n) (h2 : n ≤ 9223372036854775807) (h3 : s.size ≤ 9223372036854775807) : Fair (k, n, s) := ⟨h1, h2, h3⟩

end Go.Proofs.YtlnbpobipmejfaaGreatDoor
/-
  THE PLAIN FUNCTIONS: what Valid, Format, Compare compute, on kinds, numbers and bytes. No program.
-/
namespace Go.Proofs.YtlnbpobipmejfaaGreatDoor
set_option maxRecDepth 100000
open Go

def byteOK (c : UInt8) : Bool := 32 ≤ c && c ≤ 126
def textOK (l : List UInt8) : Bool := decide (l.length ≤ 64) && l.all byteOK
/-- Is a value valid? -/
def validB (k n : Int) (s : ByteArray) : Bool :=
  if k = 0 then n == 0 && s.toList.isEmpty else if k = 1 then s.toList.isEmpty else if k = 2 then (n == 0 || n == 1) && s.toList.isEmpty else if k = 3 then n == 0 && textOK s.data.toList else false
theorem textOK_len {l : List UInt8} (h : textOK l = true) : l.length ≤ 64 := by
  unfold textOK at h; simp at h; exact h.1
theorem textOK_long {l : List UInt8} (h : 64 < l.length) : textOK l = false := by
  unfold textOK; simp; intro h1; omega
theorem all_take_succ (l : List UInt8) (k : Nat) (h : k < l.length) (p : UInt8 → Bool) : (l.take (k + 1)).all p = ((l.take k).all p && p l[k]) := by
  rw [List.take_succ_eq_append_getElem h, List.all_append]; simp
theorem textOK_bad {l : List UInt8} {k : Nat} (h : k < l.length) (hb : byteOK l[k] = false) : textOK l = false := by
  unfold textOK
  have : l.all byteOK = false := by
    rw [List.all_eq_false]; exact ⟨l[k], List.getElem_mem h, by simp [hb]⟩
  simp [this]
theorem textOK_all {l : List UInt8} (hl : l.length ≤ 64) (h : (l.take l.length).all byteOK = true) : textOK l = true := by
  unfold textOK; rw [List.take_length] at h; simp [hl, h]
theorem byteOK_iff (c : UInt8) : byteOK c = true ↔ 32 ≤ (c.toNat : Int) ∧ (c.toNat : Int) ≤ 126 := by
  unfold byteOK; simp [UInt8.le_iff_toNat_le]; omega
theorem byteOK_false {c : UInt8} (h : (c.toNat : Int) < 32 ∨ 126 < (c.toNat : Int)) : byteOK c = false := by
  rw [Bool.eq_false_iff]; intro hc; have := (byteOK_iff c).1 hc; omega
theorem byteOK_true {c : UInt8} (h : 32 ≤ (c.toNat : Int)) (h2 : (c.toNat : Int) ≤ 126) : byteOK c = true := (byteOK_iff c).2 ⟨h, h2⟩
theorem no_bytes : (⟨#[]⟩ : ByteArray).toList = [] := by
  unfold ByteArray.toList ByteArray.toList.loop; rfl
theorem textOK_at {s : ByteArray} {k : Nat} (h : k < s.size) (hb : (s[k].toNat : Int) < 32 ∨ 126 < (s[k].toNat : Int)) : textOK s.data.toList = false :=
  textOK_bad (k := k) (by simpa using h) (byteOK_false (show ((s.data.toList[k]'(by simpa using h)).toNat : Int) < 32 ∨ _ from hb))
theorem allOK_succ {s : ByteArray} {k : Nat} (h : k < s.size) (ha : (s.data.toList.take k).all byteOK = true) (h1 : 32 ≤ (s[k].toNat : Int)) (h2 : (s[k].toNat : Int) ≤ 126) : (s.data.toList.take (k + 1)).all byteOK = true := by
  rw [all_take_succ _ _ (by simpa using h), ha]
  show (true && byteOK s[k]) = true
  rw [byteOK_true h1 h2]; rfl
theorem textOK_end {s : ByteArray} {k : Nat} (hk : k ≤ s.size) (h : ¬ k < s.size) (hl : s.size ≤ 64) (ha : (s.data.toList.take k).all byteOK = true) : textOK s.data.toList = true := by
  obtain rfl : k = s.size := by omega
  exact textOK_all (by simpa using hl) (by simpa using ha)
end Go.Proofs.YtlnbpobipmejfaaGreatDoor
/-
  Compare, of the program and of the reference.
-/
namespace Go.Proofs.YtlnbpobipmejfaaGreatDoor
set_option maxRecDepth 100000
open Go.RowKit

def orI (x y z : Int) : Int := if x = 0 then (if y = 0 then z else y) else x
/-- The order of values: by kind, then number, then text. -/
def cmpV (k n : Int) (s : ByteArray) (k' n' : Int) (s' : ByteArray) : Int :=
  orI (Lib.compareInt k k') (Lib.compareInt n n') (Lib.compareBytes s.data.toList s'.data.toList)

theorem ret_i {a b : Int} (h : a = b) : Ending.returned (.int .i64 a) = .returned (.int .i64 b) := by rw [h]

set_option maxHeartbeats 400000 in
theorem nan64_any (x : Int) (w : World) :
    Calls Tryz.prog 118 #[.int .i64 x] w fun e w' => e = .returned (.bool false) ∧ w' = w := by
  go_enter Tryz.func118, Tryz.ntmps118
  go_wp2
  all_goals
    go_ret
    exact ⟨by simp, rfl⟩

set_option maxHeartbeats 400000 in
theorem cmp64_any (x y : Int) (w : World) :
    Calls Tryz.prog 110 #[.int .i64 x, .int .i64 y] w fun e w' => e = .returned (.int .i64 (Lib.compareInt x y)) ∧ w' = w := by
  go_enter Tryz.func110, Tryz.ntmps110
  go_wp2_with (go_at_call 118; refine (nan64_any _ _).mono ?_; rintro e w' ⟨rfl, rfl⟩)
  all_goals
    go_ret
    refine ⟨ret_i ?_, rfl⟩
    unfold Lib.compareInt
    simp_all
    try omega

set_option maxHeartbeats 400000 in
theorem or3_any (a : Nat) (cap : Nat) (x y z : Int) (w : World) (h0 : w.cell? ⟨a, 0, none⟩ = some (.int .i64 x)) (h1 : w.cell? ⟨a, 1, none⟩ = some (.int .i64 y)) (h2 : w.cell? ⟨a, 2, none⟩ = some (.int .i64 z)) :
    Calls Tryz.prog 108 #[.slice (some ⟨a, 0, none⟩) 3 cap] w fun e w' => e = .returned (.int .i64 (orI x y z)) ∧ w' = w := by
  go_enter Tryz.func108, Tryz.ntmps108
  go_wp2
  go_loop [5, 8] (fun _ i => ∃ k : Nat, k ≤ 3 ∧ i = .int .i64 k ∧ (0 < k → x = 0) ∧ (1 < k → y = 0) ∧ (2 < k → z = 0)) (fun _ i => 3 - (intOf i).toNat)
  case atStart => exact ⟨0, by omega, rfl, by omega, by omega, by omega⟩
  case round =>
    obtain ⟨k, hk, rfl, ha⟩ := hrel
    have HA := Lib.hid ha
    clear ha
    have hk4 : k = 0 ∨ k = 1 ∨ k = 2 ∨ k = 3 := by omega
    rcases hk4 with rfl | rfl | rfl | rfl
    · go_wp2
      all_goals first
        | (go_ret; exact ⟨ret_i (by simp_all [orI]), rfl⟩)
        | exact ⟨⟨1, by omega, rfl, by simp_all, by omega, by omega⟩, by simp [intOf]⟩
    · have hx := HA.out.1 (by omega)
      have HX := Lib.hid hx
      clear hx HA
      go_wp2
      all_goals first
        | (go_ret; exact ⟨ret_i (by have := HX.out; simp_all [orI]), rfl⟩)
        | exact ⟨⟨2, by omega, rfl, fun _ => HX.out, by simp_all, by omega⟩, by simp [intOf]⟩
    · have hx := HA.out.1 (by omega)
      have hy := HA.out.2.1 (by omega)
      have HX := Lib.hid hx
      have HY := Lib.hid hy
      clear hx hy HA
      go_wp2
      all_goals first
        | (go_ret; exact ⟨ret_i (by have := HX.out; have := HY.out; simp_all [orI]), rfl⟩)
        | exact ⟨⟨3, by omega, rfl, fun _ => HX.out, fun _ => HY.out, by simp_all⟩, by simp [intOf]⟩
    · go_wp2
      go_ret
      obtain ⟨hx, hy, hz⟩ := HA.out
      exact ⟨ret_i (by simp [orI, hx, hy, hz]), rfl⟩

theorem two_boxes (w : World) (x y z x' y' z' : Value) (t : TypeId) :
    ∃ W, W = (w.alloc (.cells #[x, y, z] t)).alloc (.cells #[x', y', z'] t) ∧ Below w.heap.size w W ∧ W.heap.size = w.heap.size + 2 ∧ W.cell? ⟨w.heap.size, 0, none⟩ = some x ∧ W.cell? ⟨w.heap.size, 1, none⟩ = some y ∧ W.cell? ⟨w.heap.size, 2, none⟩ = some z
      ∧ W.cell? ⟨w.heap.size + 1, 0, none⟩ = some x' ∧ W.cell? ⟨w.heap.size + 1, 1, none⟩ = some y' ∧ W.cell? ⟨w.heap.size + 1, 2, none⟩ = some z' := by
  refine ⟨_, rfl, ((Below.refl _ _).alloc (Nat.le_refl _) _).alloc (by simp) _, by simp, ?_, ?_, ?_, ?_, ?_, ?_⟩
  all_goals go_simp

set_option maxRecDepth 100000 in
set_option maxHeartbeats 400000 in
theorem compare_any (k n : Int) (s : ByteArray) (k' n' : Int) (s' : ByteArray) (w : World) :
    Calls Tryz.prog 92 #[.agg #[.int .i64 k, .int .i64 n, .string s], .agg #[.int .i64 k', .int .i64 n', .string s']] w fun e w' => e = .returned (.int .i64 (cmpV k n s k' n' s')) ∧ Below w.heap.size w w' := by
  obtain ⟨W, hW, hb, hz, c0, c1, c2, d0, d1, d2⟩ := two_boxes w (.int .i64 k) (.int .i64 n) (.string s) (.int .i64 k') (.int .i64 n') (.string s') 55
  have HZ := Lib.hid hz
  clear hz
  go_enter Tryz.func92, Tryz.ntmps92
  have HW := Lib.hid hW
  clear hW
  go_wp2_with fail
  rw [← HW.out]
  clear HW
  go_still_tail 15, (by kernel_rfl)
  still_call (Tryz.cmp_Compare_int _ _ _)
  repeat still_step
  still_call (cmp64_any _ _ _)
  repeat still_step
  still_call (Tryz.strings_Compare _ _ _)
  try refine wpStill_nil ?_
  have hz := HZ.out
  clear c0 c1 c2 d0 d1 d2 HZ
  have hb' : Below w.heap.size w W.drew := hb.drew
  have hz' : W.drew.heap.size = w.heap.size + 2 := hz
  change wpList _ _ _ _ _ W.drew
  generalize W.drew = W2 at hb' hz'
  clear hb hz W
  go_wp2_with fail
  refine (or3_any (w.heap.size + 2) 3 (Lib.compareInt k k') (Lib.compareInt n n') (Lib.compareBytes s.data.toList s'.data.toList) _ ?_ ?_ ?_).mono ?_
  · rw [← hz']; go_simp
  · rw [← hz']; go_simp
  · rw [← hz']; go_simp
  rintro e w3 ⟨rfl, rfl⟩
  go_wp2
  go_ret
  exact ⟨rfl, hb'.alloc (by omega) _⟩

set_option maxHeartbeats 400000 in
theorem rcompare_any (k n : Int) (s : ByteArray) (k' n' : Int) (s' : ByteArray) (w : World) :
    Calls Tryz.prog 52 #[.agg #[.int .i64 k, .int .i64 n, .string s], .agg #[.int .i64 k', .int .i64 n', .string s']] w fun e w' => e = .returned (.int .i64 (cmpV k n s k' n' s')) ∧ Below w.heap.size w w' := by
  go_enter Tryz.func52, Tryz.ntmps52
  go_wp2_with (go_at_call 75; refine (Tryz.strings_Compare _ _ _).mono ?_; rintro e w' ⟨rfl, rfl⟩)
  all_goals
    go_ret
    refine ⟨ret_i ?_, ((Below.refl _ _).alloc (Nat.le_refl _) _).alloc (by simp) _⟩
  all_goals
    simp only [bne_iff_ne, ne_eq, bne_eq_false_iff_eq] at *
    unfold cmpV orI Lib.compareInt
    (repeat' split) <;> first | rfl | omega
end Go.Proofs.YtlnbpobipmejfaaGreatDoor
/-
  Equality of values.
-/
namespace Go.Proofs.YtlnbpobipmejfaaGreatDoor
set_option maxRecDepth 100000
open Go.RowKit

/-- Are two values the same? -/
def sameV (k n : Int) (s : ByteArray) (k' n' : Int) (s' : ByteArray) : Bool := decide (k = k' ∧ n = n' ∧ s = s')
theorem sameV_iff {k n : Int} {s : ByteArray} {k' n' : Int} {s' : ByteArray} : sameV k n s k' n' s' = true ↔ k = k' ∧ n = n' ∧ s = s' := by unfold sameV; simp

theorem eql_val (k n : Int) (s : ByteArray) (k' n' : Int) (s' : ByteArray) (w : World) :
    (binOp .eql 55 (.agg #[.int .i64 k, .int .i64 n, .string s]) (.agg #[.int .i64 k', .int .i64 n', .string s'])).run Tryz.prog w = .ok (.bool (sameV k n s k' n' s')) w := by
  go_simp
  unfold sameV
  by_cases h1 : k = k'
  · by_cases h2 : n = n'
    · by_cases h3 : s = s'
      · simp [h1, h2, h3]
      · have h4 : ¬ s.toList = s'.toList := fun h => h3 (WideShapes.bytes_inj (by rw [ByteArray.toList_eq, ByteArray.toList_eq] at h; exact h))
        simp [h1, h2, h3, h4]
    · simp [h1, h2]
  · simp [h1]

set_option maxHeartbeats 400000 in
theorem same_any (k n : Int) (s : ByteArray) (k' n' : Int) (s' : ByteArray) (w : World) :
    Calls Tryz.prog 40 #[.agg #[.int .i64 k, .int .i64 n, .string s], .agg #[.int .i64 k', .int .i64 n', .string s']] w fun e w' => e = .returned (.bool (sameV k n s k' n' s')) ∧ Below w.heap.size w w' := by
  have hq := eql_val k n s k' n' s'
  go_enter Tryz.func40, Tryz.ntmps40
  go_wp2
  go_ret
  exact ⟨rfl, ((Below.refl _ _).alloc (Nat.le_refl _) _).alloc (by simp) _⟩
end Go.Proofs.YtlnbpobipmejfaaGreatDoor
