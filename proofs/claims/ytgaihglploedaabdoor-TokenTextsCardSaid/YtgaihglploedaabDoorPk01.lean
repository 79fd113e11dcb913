/-
  Several texts in one.
-/
import Derived.Test.YtgaihglploedaabDoorProg
import Derived.WalkKit
import Derived.WalkSpells
import Derived.WalkLawsBesides
import Derived.Deep.QuietTactic
import Derived.BigQuiet
import Derived.Lib.Hide
/-
  THE TAPE OF THE STATEMENTS' HELPER PACKAGE: what New, Mod, Next, Bool, Word, Number, Typed, Value do.
-/
namespace Go.Proofs.YtgaihglploedaabDoor
set_option maxRecDepth 100000
open Go.RowKit

/-- All but block b is as it was, and no block has gone. -/
structure StepT (b : Nat) (w w' : World) : Prop where
  os : w'.os = w.os
  tape : w'.tape = w.tape
  output : w'.output = w.output
  size : w.heap.size ≤ w'.heap.size
  block : ∀ k, k < w.heap.size → k ≠ b → w'.heap[k]? = w.heap[k]?

theorem StepT.refl (b : Nat) (w : World) : StepT b w w := ⟨rfl, rfl, rfl, Nat.le_refl _, fun _ _ _ => rfl⟩
theorem StepT.trans {b : Nat} {u v w : World} (h : StepT b u v) (k : StepT b v w) : StepT b u w :=
  ⟨k.os.trans h.os, k.tape.trans h.tape, k.output.trans h.output, Nat.le_trans h.size k.size, fun i hi hb => (k.block i (Nat.lt_of_lt_of_le hi h.size) hb).trans (h.block i hi hb)⟩

/-- Block b holds a tape: a slice of ints that lies elsewhere, and a place in it. -/
def TapeAt (w : World) (b : Nat) : Prop :=
  ∃ (p : Option Addr) (len cap k : Nat), k ≤ len ∧ len ≤ 500 ∧ w.cell? ⟨b, 0, none⟩ = some (.slice p len cap) ∧ w.cell? ⟨b, 1, none⟩ = some (.int .i64 k) ∧ w.frozen? ⟨b, 1, none⟩ = false ∧ b < w.heap.size
    ∧ ∀ i, i < len → ∃ (c o : Nat) (z : Int), p = some ⟨c, o, none⟩ ∧ c < b ∧ w.cell? ⟨c, o + i, none⟩ = some (.int .i64 z) ∧ -9223372036854775808 ≤ z ∧ z ≤ 9223372036854775807

theorem tmod_range (v n : Int) (hn : 1 ≤ n) : -n < v.tmod n ∧ v.tmod n < n := by
  have h1 := Int.tmod_lt_of_pos v (by omega : 0 < n)
  have h2 := Int.tmod_lt_of_pos (-v) (by omega : 0 < n)
  rw [Int.neg_tmod] at h2
  omega

/-- What Mod computes. -/
def modI (v n : Int) : Int := if v.tmod n < 0 then v.tmod n + n else v.tmod n
theorem modI_range (v n : Int) (hn : 1 ≤ n) : 0 ≤ modI v n ∧ modI v n < n := by
  have := tmod_range v n hn
  unfold modI
  split <;> omega
theorem modI_neg {v n : Int} (h : v.tmod n < 0) : v.tmod n + n = modI v n := by unfold modI; rw [if_pos h]
theorem modI_pos {v n : Int} (h : 0 ≤ v.tmod n) : v.tmod n = modI v n := by unfold modI; rw [if_neg (by omega)]
theorem ret_int {k : IntKind} {a b : Int} (h : a = b) : Ending.returned (.int k a) = .returned (.int k b) := by rw [h]

set_option maxHeartbeats 400000 in
theorem mod_any (v n : Int) (w : World) (hn : 1 ≤ n) (hn2 : n ≤ 100000) :
    Calls Tryd.prog 5 #[.int .i64 v, .int .i64 n] w fun e w' => e = .returned (.int .i64 (modI v n)) ∧ w' = w := by
  have hm := tmod_range v n hn
  go_enter Tryd.func5, Tryd.ntmps5
  go_wp2
  all_goals go_ret
  · exact ⟨ret_int (modI_neg (by assumption)), rfl⟩
  · exact ⟨ret_int (modI_pos (by assumption)), rfl⟩

/-- A draw turns no block; a store into block b turns no other. -/
theorem StepT.drewN {b : Nat} {u v : World} (h : StepT b u v) (n : Nat) : StepT b u (v.drewN n) := ⟨h.os, h.tape, h.output, h.size, h.block⟩
theorem StepT.setCell {b : Nat} {u v : World} (h : StepT b u v) (o : Nat) (f : Option Nat) (x : Value) : StepT b u (v.setCell ⟨b, o, f⟩ x) :=
  h.trans ⟨rfl, rfl, rfl, by simp [World.setCell], fun _ _ hb => Below.heap_setCell _ _ _ _ hb⟩
theorem StepT.below {b : Nat} {u v : World} (h : StepT b u v) {B : Nat} (hB : B ≤ b) (hB' : B ≤ u.heap.size) : Below B u v :=
  ⟨h.os, h.tape, h.output, h.size, fun k hk => h.block k (by omega) (by omega)⟩
theorem StepT.of_below {b : Nat} {u v : World} (h : Below u.heap.size u v) : StepT b u v := ⟨h.os, h.tape, h.output, h.size, fun k hk _ => h.block k hk⟩
theorem StepT.cell {b : Nat} {u v : World} (h : StepT b u v) {p : Addr} (hp : p.block < u.heap.size) (hb : p.block ≠ b) : v.cell? p = u.cell? p := World.cell?_of_block (w := u) (h.block p.block hp hb)
theorem StepT.frozen {b : Nat} {u v : World} (h : StepT b u v) {p : Addr} (hp : p.block < u.heap.size) (hb : p.block ≠ b) : v.frozen? p = u.frozen? p := World.frozen?_of_block (w := u) (h.block p.block hp hb)
/-- A tape stays where no block up to its own is turned. -/
theorem TapeAt.keep {b : Nat} {u v : World} (h : TapeAt u b) (hb : ∀ k, k ≤ b → v.heap[k]? = u.heap[k]?) (hz : u.heap.size ≤ v.heap.size) : TapeAt v b := by
  obtain ⟨p, len, cap, k, hk, hl, h0, h1, hf, hs, hc⟩ := h
  refine ⟨p, len, cap, k, hk, hl, by rw [World.cell?_of_block (w := u) (hb b (Nat.le_refl _))]; exact h0, by rw [World.cell?_of_block (w := u) (hb b (Nat.le_refl _))]; exact h1, by rw [World.frozen?_of_block (w := u) (hb b (Nat.le_refl _))]; exact hf, Nat.lt_of_lt_of_le hs hz, fun i hi => ?_⟩
  obtain ⟨c, o, z, hp, hcb, hz, hz1⟩ := hc i hi
  exact ⟨c, o, z, hp, hcb, by rw [World.cell?_of_block (w := u) (hb c (Nat.le_of_lt hcb))]; exact hz, hz1⟩
theorem TapeAt.lt {w : World} {b : Nat} (h : TapeAt w b) : b < w.heap.size := by
  obtain ⟨p, len, cap, k, hk, hl, h0, h1, hf, hs, hc⟩ := h
  exact hs
theorem TapeAt.below {b : Nat} {u v : World} (h : TapeAt u b) (hb : Below u.heap.size u v) : TapeAt v b :=
  h.keep (fun k hk => hb.block k (Nat.lt_of_le_of_lt hk h.lt)) hb.size
theorem TapeAt.setCell {b : Nat} {u : World} (h : TapeAt u b) {p : Addr} (hp : b < p.block) (x : Value) : TapeAt (u.setCell p x) b :=
  h.keep (fun k hk => Below.heap_setCell _ _ _ _ (by omega)) (by simp [World.setCell])
theorem TapeAt.drewN {b : Nat} {w : World} (h : TapeAt w b) (n : Nat) : TapeAt (w.drewN n) b := h
/-- The place moves on by one. -/
theorem TapeAt.moved {b : Nat} {w : World} {p : Option Addr} {len cap k : Nat} (hk : k < len) (hl : len ≤ 500) (h0 : w.cell? ⟨b, 0, none⟩ = some (.slice p len cap)) (h1 : w.cell? ⟨b, 1, none⟩ = some (.int .i64 k)) (hf : w.frozen? ⟨b, 1, none⟩ = false) (hb : b < w.heap.size)
    (hc : ∀ i, i < len → ∃ (c o : Nat) (z : Int), p = some ⟨c, o, none⟩ ∧ c < b ∧ w.cell? ⟨c, o + i, none⟩ = some (.int .i64 z) ∧ -9223372036854775808 ≤ z ∧ z ≤ 9223372036854775807) :
    TapeAt (w.setCell ⟨b, 1, none⟩ (.int .i64 ((k : Int) + 1))) b := by
  refine ⟨p, len, cap, k + 1, by omega, hl, ?_, ?_, ?_, by simpa [World.setCell] using hb, fun i hi => ?_⟩
  · go_simp
  · go_simp
  · go_simp
  · obtain ⟨c, o, z, hp, hcb, hz, hz1⟩ := hc i hi
    refine ⟨c, o, z, hp, hcb, ?_, hz1⟩
    rw [World.cell?_of_block (w := w) (Below.heap_setCell _ _ _ _ (show c ≠ b by omega))]; exact hz

/-- What one step of the tape leaves. -/
def NextPost (b : Nat) (n : Int) (w : World) (e : Ending) (w' : World) : Prop := ∃ r : Int, e = .returned (.int .i64 r) ∧ 0 ≤ r ∧ r < n ∧ TapeAt w' b ∧ StepT b w w'

set_option maxHeartbeats 400000 in
theorem next_any (b : Nat) (n : Int) (w : World) (hn : 1 ≤ n) (hn2 : n ≤ 100000) (ht : TapeAt w b) :
    Calls Tryd.prog 10 #[.pointer (some ⟨b, 0, none⟩), .int .i64 n] w (NextPost b n w) := by
  have ht' := ht
  obtain ⟨p, len, cap, k, hk, hl, h0, h1, hf, hb, hc⟩ := ht
  by_cases hlt : k < len
  · have HT := Lib.hid (TapeAt.moved hlt hl h0 h1 hf hb hc)
    obtain ⟨c, o, z, rfl, hcb, hz, hz1, hz2⟩ := hc k hlt
    clear hc ht'
    go_enter Tryd.func10, Tryd.ntmps10
    go_wp2
    go_quiet (fail)
    go_wp2
    go_quiet ((go_at_call 5; exact Calls.quiet_of_same (mod_any _ _ _ hn hn2)))
    go_wp2
    go_ret
    exact ⟨_, rfl, (modI_range _ _ hn).1, (modI_range _ _ hn).2, HT.out, (((StepT.refl _ _).drewN _).setCell _ _ _).drewN _⟩
  · have HT := Lib.hid ht'
    clear ht' hc
    go_enter Tryd.func10, Tryd.ntmps10
    go_wp2
    go_quiet (fail)
    go_wp2
    go_ret
    exact ⟨0, rfl, by omega, by omega, HT.out, (StepT.refl _ _).drewN _⟩

/-- What Bool leaves: any answer. -/
def BoolPost (b : Nat) (w : World) (e : Ending) (w' : World) : Prop := ∃ r : Bool, e = .returned (.bool r) ∧ TapeAt w' b ∧ StepT b w w'


/-- The numbers that Number gives. -/
def IsNum (n : Int) : Prop := (9223372036854775805 ≤ n ∧ n ≤ 9223372036854775807) ∨ (-9223372036854775808 ≤ n ∧ n ≤ -9223372036854775806) ∨ (-8 ≤ n ∧ n ≤ 8)
def NumPost (b : Nat) (w : World) (e : Ending) (w' : World) : Prop := ∃ n : Int, e = .returned (.int .i64 n) ∧ IsNum n ∧ TapeAt w' b ∧ StepT b w w'

theorem StepT.alloc {b : Nat} {u v : World} (h : StepT b u v) (o : Obj) : StepT b u (v.alloc o) := h.trans (StepT.of_below ((Below.refl _ _).alloc (Nat.le_refl _) _))
theorem TapeAt.alloc {b : Nat} {w : World} (h : TapeAt w b) (o : Obj) : TapeAt (w.alloc o) b := h.below ((Below.refl _ _).alloc (Nat.le_refl _) _)
/-- What is known of a new block of three cells, behind a step of the tape. -/
theorem new3 {b : Nat} {w w' : World} {x y z : Value} {t : TypeId} (hs : StepT b (w.alloc (.cells #[x, y, z] t)) w') (hb : b < w.heap.size) :
    w'.cell? ⟨w.heap.size, 0, none⟩ = some x ∧ w'.cell? ⟨w.heap.size, 1, none⟩ = some y ∧ w'.cell? ⟨w.heap.size, 2, none⟩ = some z
    ∧ w'.frozen? ⟨w.heap.size, 0, none⟩ = false ∧ w'.frozen? ⟨w.heap.size, 1, none⟩ = false ∧ w'.frozen? ⟨w.heap.size, 2, none⟩ = false ∧ w.heap.size < w'.heap.size := by
  have hz := hs.size
  have hz' : (w.alloc (.cells #[x, y, z] t)).heap.size = w.heap.size + 1 := by simp
  rw [hz'] at hz
  refine ⟨?_, ?_, ?_, ?_, ?_, ?_, by omega⟩
  all_goals (first | rw [hs.cell (by rw [hz']; exact Nat.lt_succ_self _) (by show w.heap.size ≠ b; omega)] | rw [hs.frozen (by rw [hz']; exact Nat.lt_succ_self _) (by show w.heap.size ≠ b; omega)])
  all_goals go_simp
theorem StepT.set2 {b : Nat} {u v : World} (h : StepT b u v) {B : Nat} (hB : u.heap.size ≤ B) (o : Nat) (f : Option Nat) (y : Value) : StepT b u (v.setCell ⟨B, o, f⟩ y) :=
  ⟨h.os, h.tape, h.output, by simpa [World.setCell] using h.size, fun k hk hb => by
    rw [Below.heap_setCell _ _ _ _ (show k ≠ B by omega)]; exact h.block k hk hb⟩
theorem StepT.of_alloc {b : Nat} {u v : World} {o : Obj} (h : StepT b (u.alloc o) v) : StepT b u v := ((StepT.refl b u).trans (StepT.of_below ((Below.refl _ _).alloc (Nat.le_refl _) _))).trans h
end Go.Proofs.YtgaihglploedaabDoor
/-
  THE VALUES OF THE TAPE: Typed, Value, New.
-/
namespace Go.Proofs.YtgaihglploedaabDoor
set_option maxRecDepth 100000
open Go.RowKit

/-- An argument that is a slice of ints. -/
def IntsAt (w : World) (p : Option Addr) (len : Nat) : Prop :=
  ∀ i, i < len → ∃ (c o : Nat) (z : Int), p = some ⟨c, o, none⟩ ∧ c < w.heap.size ∧ w.cell? ⟨c, o + i, none⟩ = some (.int .i64 z) ∧ -9223372036854775808 ≤ z ∧ z ≤ 9223372036854775807

def NewPost (w : World) (e : Ending) (w' : World) : Prop := ∃ b : Nat, e = .returned (.pointer (some ⟨b, 0, none⟩)) ∧ w.heap.size ≤ b ∧ TapeAt w' b ∧ Below w.heap.size w w'

theorem tape_new {w : World} {p : Option Addr} {len cap : Nat} (hl : len ≤ 500) (h : IntsAt w p len) :
    TapeAt (w.alloc (.cells #[.slice p len cap, .int .i64 0] 43)) w.heap.size := by
  refine ⟨p, len, cap, 0, Nat.zero_le _, hl, ?_, ?_, ?_, by simp, fun i hi => ?_⟩
  · go_simp
  · go_simp
  · go_simp
  · obtain ⟨c, o, z, hp, hc, hz, hz1⟩ := h i hi
    exact ⟨c, o, z, hp, hc, by rw [World.cell?_of_block (w := w) (Below.heap_alloc _ _ _ hc)]; exact hz, hz1⟩

set_option maxHeartbeats 400000 in
theorem new_any (w : World) (p : Option Addr) (len cap : Nat) (hl : len ≤ cap) (hm : len ≤ 9223372036854775807) (h : IntsAt w p len) :
    Calls Tryd.prog 9 #[.slice p len cap] w (NewPost w) := by
  by_cases hc : 500 < len
  · obtain ⟨c, o, z, rfl, -⟩ := h 0 (by omega)
    have HI := Lib.hid h
    clear h
    go_enter Tryd.func9, Tryd.ntmps9
    go_wp2
    go_ret
    exact ⟨_, rfl, Nat.le_refl _, tape_new (Nat.le_refl _) (fun i hi => HI.out i (by omega)), (Below.refl _ _).alloc (Nat.le_refl _) _⟩
  · go_enter Tryd.func9, Tryd.ntmps9
    go_wp2
    go_ret
    exact ⟨_, rfl, Nat.le_refl _, tape_new (by omega) h, (Below.refl _ _).alloc (Nat.le_refl _) _⟩
end Go.Proofs.YtgaihglploedaabDoor
