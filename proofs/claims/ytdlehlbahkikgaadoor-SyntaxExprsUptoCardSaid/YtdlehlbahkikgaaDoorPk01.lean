/-
  Several texts in one.
-/
import Derived.Test.YtdlehlbahkikgaaDoorProg
import Derived.WalkKit
import Derived.WalkSpells
import Derived.WalkLawsBesides
import Derived.Deep.QuietTactic
import Derived.BigQuiet
import Derived.Lib.Hide
/-
  THE TAPE OF THE STATEMENTS' HELPER PACKAGE: what New, Mod, Next, Bool, Word, Number, Typed, Value do.
-/
namespace Go.Proofs.YtdlehlbahkikgaaDoor
set_option maxRecDepth 100000
open Go.RowKit

/-- All but block b is as it was, and no block has gone. -/
structure StepT (b : Nat) (w w' : World) : Prop where
  os : w'.os = w.os
  tape : w'.tape = w.tape
  output : w'.output = w.output
  size : w.heap.size ≤ w'.heap.size
  block : ∀ k, k < w.heap.size → k ≠ b → w'.heap[k]? = w.heap[k]?

theorem StepT.refl (b : Nat) (w : World) : StepT b w w := ⟨rfl, rfl, rfl, Nat.le_refl _, fun _ _ _ => rfl⟩
theorem StepT.trans {b : Nat} {u v w : World} (h : StepT b u v) (k : StepT b v w) : StepT b u w :=
  ⟨k.os.trans h.os, k.tape.trans h.tape, k.output.trans h.output, Nat.le_trans h.size k.size, fun i hi hb => (k.block i (Nat.lt_of_lt_of_le hi h.size) hb).trans (h.block i hi hb)⟩

/-- Block b holds a tape: a slice of ints that lies elsewhere, and a place in it. -/
def TapeAt (w : World) (b : Nat) : Prop :=
  ∃ (p : Option Addr) (len cap k : Nat), k ≤ len ∧ len ≤ 500 ∧ w.cell? ⟨b, 0, none⟩ = some (.slice p len cap) ∧ w.cell? ⟨b, 1, none⟩ = some (.int .i64 k) ∧ w.frozen? ⟨b, 1, none⟩ = false ∧ b < w.heap.size
    ∧ ∀ i, i < len → ∃ (c o : Nat) (z : Int), p = some ⟨c, o, none⟩ ∧ c < b ∧ w.cell? ⟨c, o + i, none⟩ = some (.int .i64 z) ∧ -9223372036854775808 ≤ z ∧ z ≤ 9223372036854775807

theorem tmod_range (v n : Int) (hn : 1 ≤ n) : -n < v.tmod n ∧ v.tmod n < n := by
  have h1 := Int.tmod_lt_of_pos v (by omega : 0 < n)
  have h2 := Int.tmod_lt_of_pos (-v) (by omega : 0 < n)
  rw [Int.neg_tmod] at h2
  omega

/-- What Mod computes. -/
def modI (v n : Int) : Int := if v.tmod n < 0 then v.tmod n + n else v.tmod n
theorem modI_range (v n : Int) (hn : 1 ≤ n) : 0 ≤ modI v n ∧ modI v n < n := by
  have := tmod_range v n hn
  unfold modI
  split <;> omega
theorem modI_neg {v n : Int} (h : v.tmod n < 0) : v.tmod n + n = modI v n := by unfold modI; rw [if_pos h]
theorem modI_pos {v n : Int} (h : 0 ≤ v.tmod n) : v.tmod n = modI v n := by unfold modI; rw [if_neg (by omega)]
theorem ret_int {k : IntKind} {a b : Int} (h : a = b) : Ending.returned (.int k a) = .returned (.int k b) := by rw [h]

set_option maxHeartbeats 400000 in
theorem mod_any (v n : Int) (w : World) (hn : 1 ≤ n) (hn2 : n ≤ 100000) :
    Calls Tryd.prog 37 #[.int .i64 v, .int .i64 n] w fun e w' => e = .returned (.int .i64 (modI v n)) ∧ w' = w := by
  have hm := tmod_range v n hn
  go_enter Tryd.func37, Tryd.ntmps37
  go_wp2
  all_goals go_ret
  · exact ⟨ret_int (modI_neg (by assumption)), rfl⟩
  · exact ⟨ret_int (modI_pos (by assumption)), rfl⟩

/-- A draw turns no block; a store into block b turns no other. -/
theorem StepT.drewN {b : Nat} {u v : World} (h : StepT b u v) (n : Nat) : StepT b u (v.drewN n) := ⟨h.os, h.tape, h.output, h.size, h.block⟩
theorem StepT.setCell {b : Nat} {u v : World} (h : StepT b u v) (o : Nat) (f : Option Nat) (x : Value) : StepT b u (v.setCell ⟨b, o, f⟩ x) :=
  h.trans ⟨rfl, rfl, rfl, by simp [World.setCell], fun _ _ hb => Below.heap_setCell _ _ _ _ hb⟩
theorem StepT.below {b : Nat} {u v : World} (h : StepT b u v) {B : Nat} (hB : B ≤ b) (hB' : B ≤ u.heap.size) : Below B u v :=
  ⟨h.os, h.tape, h.output, h.size, fun k hk => h.block k (by omega) (by omega)⟩
theorem StepT.of_below {b : Nat} {u v : World} (h : Below u.heap.size u v) : StepT b u v := ⟨h.os, h.tape, h.output, h.size, fun k hk _ => h.block k hk⟩
theorem StepT.cell {b : Nat} {u v : World} (h : StepT b u v) {p : Addr} (hp : p.block < u.heap.size) (hb : p.block ≠ b) : v.cell? p = u.cell? p := World.cell?_of_block (w := u) (h.block p.block hp hb)
theorem StepT.frozen {b : Nat} {u v : World} (h : StepT b u v) {p : Addr} (hp : p.block < u.heap.size) (hb : p.block ≠ b) : v.frozen? p = u.frozen? p := World.frozen?_of_block (w := u) (h.block p.block hp hb)
/-- A tape stays where no block up to its own is turned. -/
theorem TapeAt.keep {b : Nat} {u v : World} (h : TapeAt u b) (hb : ∀ k, k ≤ b → v.heap[k]? = u.heap[k]?) (hz : u.heap.size ≤ v.heap.size) : TapeAt v b := by
  obtain ⟨p, len, cap, k, hk, hl, h0, h1, hf, hs, hc⟩ := h
  refine ⟨p, len, cap, k, hk, hl, by rw [World.cell?_of_block (w := u) (hb b (Nat.le_refl _))]; exact h0, by rw [World.cell?_of_block (w := u) (hb b (Nat.le_refl _))]; exact h1, by rw [World.frozen?_of_block (w := u) (hb b (Nat.le_refl _))]; exact hf, Nat.lt_of_lt_of_le hs hz, fun i hi => ?_⟩
  obtain ⟨c, o, z, hp, hcb, hz, hz1⟩ := hc i hi
  exact ⟨c, o, z, hp, hcb, by rw [World.cell?_of_block (w := u) (hb c (Nat.le_of_lt hcb))]; exact hz, hz1⟩
theorem TapeAt.lt {w : World} {b : Nat} (h : TapeAt w b) : b < w.heap.size := by
  obtain ⟨p, len, cap, k, hk, hl, h0, h1, hf, hs, hc⟩ := h
  exact hs
theorem TapeAt.below {b : Nat} {u v : World} (h : TapeAt u b) (hb : Below u.heap.size u v) : TapeAt v b :=
  h.keep (fun k hk => hb.block k (Nat.lt_of_le_of_lt hk h.lt)) hb.size
theorem TapeAt.setCell {b : Nat} {u : World} (h : TapeAt u b) {p : Addr} (hp : b < p.block) (x : Value) : TapeAt (u.setCell p x) b :=
  h.keep (fun k hk => Below.heap_setCell _ _ _ _ (by omega)) (by simp [World.setCell])
theorem TapeAt.drewN {b : Nat} {w : World} (h : TapeAt w b) (n : Nat) : TapeAt (w.drewN n) b := h
/-- The place moves on by one. -/
theorem TapeAt.moved {b : Nat} {w : World} {p : Option Addr} {len cap k : Nat} (hk : k < len) (hl : len ≤ 500) (h0 : w.cell? ⟨b, 0, none⟩ = some (.slice p len cap)) (h1 : w.cell? ⟨b, 1, none⟩ = some (.int .i64 k)) (hf : w.frozen? ⟨b, 1, none⟩ = false) (hb : b < w.heap.size)
    (hc : ∀ i, i < len → ∃ (c o : Nat) (z : Int), p = some ⟨c, o, none⟩ ∧ c < b ∧ w.cell? ⟨c, o + i, none⟩ = some (.int .i64 z) ∧ -9223372036854775808 ≤ z ∧ z ≤ 9223372036854775807) :
    TapeAt (w.setCell ⟨b, 1, none⟩ (.int .i64 ((k : Int) + 1))) b := by
  refine ⟨p, len, cap, k + 1, by omega, hl, ?_, ?_, ?_, by simpa [World.setCell] using hb, fun i hi => ?_⟩
  · go_simp
  · go_simp
  · go_simp
  · obtain ⟨c, o, z, hp, hcb, hz, hz1⟩ := hc i hi
    refine ⟨c, o, z, hp, hcb, ?_, hz1⟩
    rw [World.cell?_of_block (w := w) (Below.heap_setCell _ _ _ _ (show c ≠ b by omega))]; exact hz

/-- What one step of the tape leaves. -/
def NextPost (b : Nat) (n : Int) (w : World) (e : Ending) (w' : World) : Prop := ∃ r : Int, e = .returned (.int .i64 r) ∧ 0 ≤ r ∧ r < n ∧ TapeAt w' b ∧ StepT b w w'

set_option maxHeartbeats 400000 in
theorem next_any (b : Nat) (n : Int) (w : World) (hn : 1 ≤ n) (hn2 : n ≤ 100000) (ht : TapeAt w b) :
    Calls Tryd.prog 13 #[.pointer (some ⟨b, 0, none⟩), .int .i64 n] w (NextPost b n w) := by
  have ht' := ht
  obtain ⟨p, len, cap, k, hk, hl, h0, h1, hf, hb, hc⟩ := ht
  by_cases hlt : k < len
  · have HT := Lib.hid (TapeAt.moved hlt hl h0 h1 hf hb hc)
    obtain ⟨c, o, z, rfl, hcb, hz, hz1, hz2⟩ := hc k hlt
    clear hc ht'
    go_enter Tryd.func13, Tryd.ntmps13
    go_wp2
    go_quiet (fail)
    go_wp2
    go_quiet ((go_at_call 37; exact Calls.quiet_of_same (mod_any _ _ _ hn hn2)))
    go_wp2
    go_ret
    exact ⟨_, rfl, (modI_range _ _ hn).1, (modI_range _ _ hn).2, HT.out, (((StepT.refl _ _).drewN _).setCell _ _ _).drewN _⟩
  · have HT := Lib.hid ht'
    clear ht' hc
    go_enter Tryd.func13, Tryd.ntmps13
    go_wp2
    go_quiet (fail)
    go_wp2
    go_ret
    exact ⟨0, rfl, by omega, by omega, HT.out, (StepT.refl _ _).drewN _⟩

/-- What Bool leaves: any answer. -/
def BoolPost (b : Nat) (w : World) (e : Ending) (w' : World) : Prop := ∃ r : Bool, e = .returned (.bool r) ∧ TapeAt w' b ∧ StepT b w w'

set_option maxHeartbeats 400000 in
theorem tbool_any (b : Nat) (n : Int) (w : World) (hn : 1 ≤ n) (hn2 : n ≤ 100000) (ht : TapeAt w b) :
    Calls Tryd.prog 14 #[.pointer (some ⟨b, 0, none⟩), .int .i64 n] w (BoolPost b w) := by
  go_enter Tryd.func14, Tryd.ntmps14
  go_wp2_with (go_at_call 13; refine (next_any b _ _ hn hn2 ht).mono ?_; rintro e w' ⟨r, rfl, hr0, hr1, ht1, hs1⟩)
  go_ret
  exact ⟨_, rfl, ht1, hs1⟩

/-- The table of texts is in its place. -/
def WordsAt (w : World) : Prop := 3 < w.heap.size ∧ w.cell? ⟨3, 0, none⟩ = some (.string ⟨#[]⟩) ∧ w.cell? ⟨3, 1, none⟩ = some (.string ⟨#[97]⟩) ∧ w.cell? ⟨3, 2, none⟩ = some (.string ⟨#[98]⟩)
    ∧ w.cell? ⟨3, 3, none⟩ = some (.string ⟨#[105, 116, 39, 115]⟩) ∧ w.cell? ⟨3, 4, none⟩ = some (.string ⟨#[90, 32, 122]⟩) ∧ w.cell? ⟨3, 5, none⟩ = some (.string ⟨#[126]⟩)
theorem WordsAt.step {b : Nat} {w w' : World} (h : WordsAt w) (hs : StepT b w w') (hb : b ≠ 3) : WordsAt w' := by
  obtain ⟨hz, h0, h1, h2, h3, h4, h5⟩ := h
  refine ⟨Nat.lt_of_lt_of_le hz hs.size, ?_, ?_, ?_, ?_, ?_, ?_⟩
  all_goals rw [hs.cell (by exact hz) (by exact fun e => hb e.symm)]; assumption
theorem WordsAt.below {w w' : World} (h : WordsAt w) (hs : Below w.heap.size w w') : WordsAt w' := by
  obtain ⟨hz, h0, h1, h2, h3, h4, h5⟩ := h
  refine ⟨Nat.lt_of_lt_of_le hz hs.size, ?_, ?_, ?_, ?_, ?_, ?_⟩
  all_goals rw [hs.cell (by exact hz)]; assumption

/-- The texts of the table. -/
def IsWord (s : ByteArray) : Prop := s = ⟨#[]⟩ ∨ s = ⟨#[97]⟩ ∨ s = ⟨#[98]⟩ ∨ s = ⟨#[105, 116, 39, 115]⟩ ∨ s = ⟨#[90, 32, 122]⟩ ∨ s = ⟨#[126]⟩
def WordPost (b : Nat) (w : World) (e : Ending) (w' : World) : Prop := ∃ s : ByteArray, e = .returned (.string s) ∧ IsWord s ∧ TapeAt w' b ∧ StepT b w w'

set_option maxHeartbeats 400000 in
theorem word_any (b : Nat) (w : World) (hb : b ≠ 3) (ht : TapeAt w b) (hw : WordsAt w) :
    Calls Tryd.prog 56 #[.pointer (some ⟨b, 0, none⟩)] w (WordPost b w) := by
  go_enter Tryd.func56, Tryd.ntmps56
  go_wp2_with fail
  refine (next_any b _ _ (by omega) (by omega) ht).mono ?_
  rintro e w' ⟨r, rfl, hr0, hr1, ht1, hs1⟩
  obtain ⟨hz, h0, h1, h2, h3, h4, h5⟩ := hw.step hs1 hb
  have hr : r = 0 ∨ r = 1 ∨ r = 2 ∨ r = 3 ∨ r = 4 ∨ r = 5 := by omega
  clear hr0 hr1
  rcases hr with rfl | rfl | rfl | rfl | rfl | rfl
  all_goals
    go_wp2
    go_ret
    exact ⟨_, rfl, by unfold IsWord; simp, ht1, hs1⟩

/-- The numbers that Number gives. -/
def IsNum (n : Int) : Prop := (9223372036854775805 ≤ n ∧ n ≤ 9223372036854775807) ∨ (-9223372036854775808 ≤ n ∧ n ≤ -9223372036854775806) ∨ (-8 ≤ n ∧ n ≤ 8)
def NumPost (b : Nat) (w : World) (e : Ending) (w' : World) : Prop := ∃ n : Int, e = .returned (.int .i64 n) ∧ IsNum n ∧ TapeAt w' b ∧ StepT b w w'

set_option maxHeartbeats 400000 in
theorem number_any (b : Nat) (w : World) (ht : TapeAt w b) :
    Calls Tryd.prog 55 #[.pointer (some ⟨b, 0, none⟩)] w (NumPost b w) := by
  go_enter Tryd.func55, Tryd.ntmps55
  go_wp2_with fail
  refine (next_any b _ _ (by omega) (by omega) ht).mono ?_
  rintro e w' ⟨r, rfl, hr0, hr1, ht1, hs1⟩
  go_wp2_with (go_at_call 13; refine (next_any b _ _ (by omega) (by omega) ht1).mono ?_; rintro e w2 ⟨q, rfl, hq0, hq1, ht2, hs2⟩)
  all_goals
    go_ret
    exact ⟨_, rfl, by unfold IsNum; omega, ht2, hs1.trans hs2⟩

theorem StepT.alloc {b : Nat} {u v : World} (h : StepT b u v) (o : Obj) : StepT b u (v.alloc o) := h.trans (StepT.of_below ((Below.refl _ _).alloc (Nat.le_refl _) _))
theorem TapeAt.alloc {b : Nat} {w : World} (h : TapeAt w b) (o : Obj) : TapeAt (w.alloc o) b := h.below ((Below.refl _ _).alloc (Nat.le_refl _) _)
theorem WordsAt.alloc {w : World} (h : WordsAt w) (o : Obj) : WordsAt (w.alloc o) := h.below ((Below.refl _ _).alloc (Nat.le_refl _) _)

/-- The valid values that the tape gives, by kind. -/
def IsVal (k n : Int) (s : ByteArray) : Prop := (k = 0 ∧ n = 0 ∧ s = ⟨#[]⟩) ∨ (k = 1 ∧ IsNum n ∧ s = ⟨#[]⟩) ∨ (k = 2 ∧ 0 ≤ n ∧ n ≤ 1 ∧ s = ⟨#[]⟩) ∨ (k = 3 ∧ n = 0 ∧ IsWord s)
def ValPost (b : Nat) (kind : Int) (w : World) (e : Ending) (w' : World) : Prop := ∃ (k n : Int) (s : ByteArray), e = .returned (.agg #[.int .i64 k, .int .i64 n, .string s]) ∧ IsVal k n s ∧ (1 ≤ kind → kind ≤ 3 → k = kind) ∧ TapeAt w' b ∧ StepT b w w'

/-- What is known of a new block of three cells, behind a step of the tape. -/
theorem new3 {b : Nat} {w w' : World} {x y z : Value} {t : TypeId} (hs : StepT b (w.alloc (.cells #[x, y, z] t)) w') (hb : b < w.heap.size) :
    w'.cell? ⟨w.heap.size, 0, none⟩ = some x ∧ w'.cell? ⟨w.heap.size, 1, none⟩ = some y ∧ w'.cell? ⟨w.heap.size, 2, none⟩ = some z
    ∧ w'.frozen? ⟨w.heap.size, 0, none⟩ = false ∧ w'.frozen? ⟨w.heap.size, 1, none⟩ = false ∧ w'.frozen? ⟨w.heap.size, 2, none⟩ = false ∧ w.heap.size < w'.heap.size := by
  have hz := hs.size
  have hz' : (w.alloc (.cells #[x, y, z] t)).heap.size = w.heap.size + 1 := by simp
  rw [hz'] at hz
  refine ⟨?_, ?_, ?_, ?_, ?_, ?_, by omega⟩
  all_goals (first | rw [hs.cell (by rw [hz']; exact Nat.lt_succ_self _) (by show w.heap.size ≠ b; omega)] | rw [hs.frozen (by rw [hz']; exact Nat.lt_succ_self _) (by show w.heap.size ≠ b; omega)])
  all_goals go_simp
theorem StepT.set2 {b : Nat} {u v : World} (h : StepT b u v) {B : Nat} (hB : u.heap.size ≤ B) (o : Nat) (f : Option Nat) (y : Value) : StepT b u (v.setCell ⟨B, o, f⟩ y) :=
  ⟨h.os, h.tape, h.output, by simpa [World.setCell] using h.size, fun k hk hb => by
    rw [Below.heap_setCell _ _ _ _ (show k ≠ B by omega)]; exact h.block k hk hb⟩
theorem StepT.of_alloc {b : Nat} {u v : World} {o : Obj} (h : StepT b (u.alloc o) v) : StepT b u v := ((StepT.refl b u).trans (StepT.of_below ((Below.refl _ _).alloc (Nat.le_refl _) _))).trans h
set_option maxHeartbeats 400000 in
theorem typed_num (b : Nat) (w : World) (ht : TapeAt w b) :
    Calls Tryd.prog 38 #[.pointer (some ⟨b, 0, none⟩), .int .i64 1] w (ValPost b 1 w) := by
  have hlt := ht.lt
  go_enter Tryd.func38, Tryd.ntmps38
  go_wp2_with fail
  refine (number_any b _ (ht.alloc _)).mono ?_
  rintro e w' ⟨n, rfl, hn, ht1, hs1⟩
  obtain ⟨c0, c1, c2, f0, f1, f2, hz⟩ := new3 hs1 hlt
  go_wp2
  exact bodyPost_ret (v := .agg #[.int .i64 1, .int .i64 n, .string ⟨#[]⟩]) (by simp [results, Tryd.results38, go_sem, c0, c1, c2]) rfl
    ⟨_, _, _, rfl, Or.inr (Or.inl ⟨rfl, hn, rfl⟩), fun _ _ => rfl, ((ht1.setCell (by exact hlt) _).setCell (by exact hlt) _).setCell (by exact hlt) _, ((hs1.of_alloc.set2 (Nat.le_refl _) _ _ _).set2 (Nat.le_refl _) _ _ _).set2 (Nat.le_refl _) _ _ _⟩
end Go.Proofs.YtdlehlbahkikgaaDoor
/-
  THE VALUES OF THE TAPE: Typed, Value, New.
-/
namespace Go.Proofs.YtdlehlbahkikgaaDoor
set_option maxRecDepth 100000
open Go.RowKit

set_option maxHeartbeats 400000 in
theorem typed_bool (b : Nat) (w : World) (ht : TapeAt w b) :
    Calls Tryd.prog 38 #[.pointer (some ⟨b, 0, none⟩), .int .i64 2] w (ValPost b 2 w) := by
  have hlt := ht.lt
  go_enter Tryd.func38, Tryd.ntmps38
  go_wp2_with fail
  refine (next_any b _ _ (by omega) (by omega) (ht.alloc _)).mono ?_
  rintro e w' ⟨n, rfl, hn0, hn1, ht1, hs1⟩
  obtain ⟨c0, c1, c2, f0, f1, f2, hz⟩ := new3 hs1 hlt
  go_wp2
  exact bodyPost_ret (v := .agg #[.int .i64 2, .int .i64 n, .string ⟨#[]⟩]) (by simp [results, Tryd.results38, go_sem, c0, c1, c2]) rfl
    ⟨_, _, _, rfl, Or.inr (Or.inr (Or.inl ⟨rfl, hn0, by omega, rfl⟩)), fun _ _ => rfl, ((ht1.setCell (by exact hlt) _).setCell (by exact hlt) _).setCell (by exact hlt) _, ((hs1.of_alloc.set2 (Nat.le_refl _) _ _ _).set2 (Nat.le_refl _) _ _ _).set2 (Nat.le_refl _) _ _ _⟩

set_option maxHeartbeats 400000 in
theorem typed_text (b : Nat) (w : World) (hb : b ≠ 3) (ht : TapeAt w b) (hw : WordsAt w) :
    Calls Tryd.prog 38 #[.pointer (some ⟨b, 0, none⟩), .int .i64 3] w (ValPost b 3 w) := by
  have hlt := ht.lt
  go_enter Tryd.func38, Tryd.ntmps38
  go_wp2_with fail
  refine (word_any b _ hb (ht.alloc _) (hw.alloc _)).mono ?_
  rintro e w' ⟨n, rfl, hn, ht1, hs1⟩
  obtain ⟨c0, c1, c2, f0, f1, f2, hz⟩ := new3 hs1 hlt
  go_wp2
  exact bodyPost_ret (v := .agg #[.int .i64 3, .int .i64 0, .string n]) (by simp [results, Tryd.results38, go_sem, c0, c1, c2]) rfl
    ⟨_, _, _, rfl, Or.inr (Or.inr (Or.inr ⟨rfl, rfl, hn⟩)), fun _ _ => rfl, ((ht1.setCell (by exact hlt) _).setCell (by exact hlt) _).setCell (by exact hlt) _, ((hs1.of_alloc.set2 (Nat.le_refl _) _ _ _).set2 (Nat.le_refl _) _ _ _).set2 (Nat.le_refl _) _ _ _⟩

set_option maxHeartbeats 400000 in
theorem typed_null (b : Nat) (kind : Int) (w : World) (hk : kind < 1 ∨ 3 < kind) (ht : TapeAt w b) :
    Calls Tryd.prog 38 #[.pointer (some ⟨b, 0, none⟩), .int .i64 kind] w (ValPost b kind w) := by
  have hlt := ht.lt
  have h1 : (kind == 1) = false := beq_eq_false_iff_ne.2 (by omega)
  have h2 : (kind == 2) = false := beq_eq_false_iff_ne.2 (by omega)
  have h3 : (kind == 3) = false := beq_eq_false_iff_ne.2 (by omega)
  go_enter Tryd.func38, Tryd.ntmps38
  go_wp2
  exact bodyPost_ret (v := .agg #[.int .i64 0, .int .i64 0, .string ⟨#[]⟩]) (by simp [results, Tryd.results38, go_sem]) rfl
    ⟨_, _, _, rfl, Or.inl ⟨rfl, rfl, rfl⟩, fun _ _ => by omega, ht.alloc _, (StepT.refl _ _).alloc _⟩

theorem typed_any (b : Nat) (kind : Int) (w : World) (hb : b ≠ 3) (ht : TapeAt w b) (hw : WordsAt w) :
    Calls Tryd.prog 38 #[.pointer (some ⟨b, 0, none⟩), .int .i64 kind] w (ValPost b kind w) := by
  have h : kind = 1 ∨ kind = 2 ∨ kind = 3 ∨ (kind < 1 ∨ 3 < kind) := by omega
  rcases h with rfl | rfl | rfl | h
  · exact typed_num b w ht
  · exact typed_bool b w ht
  · exact typed_text b w hb ht hw
  · exact typed_null b kind w h ht

set_option maxHeartbeats 400000 in
theorem value_any (b : Nat) (w : World) (hb : b ≠ 3) (ht : TapeAt w b) (hw : WordsAt w) :
    Calls Tryd.prog 17 #[.pointer (some ⟨b, 0, none⟩)] w (ValPost b 0 w) := by
  have hlt := ht.lt
  go_enter Tryd.func17, Tryd.ntmps17
  go_wp2_with fail
  refine (next_any b _ _ (by omega) (by omega) (ht.alloc _)).mono ?_
  rintro e w' ⟨r, rfl, hn0, hn1, ht1, hs1⟩
  go_wp2_with fail
  refine (typed_any b r _ hb ht1 ((hw.alloc _).step hs1 hb)).mono ?_
  rintro e w2 ⟨k, n, s, rfl, hv, hk, ht2, hs2⟩
  obtain ⟨c0, c1, c2, f0, f1, f2, hz⟩ := new3 (hs1.trans hs2) hlt
  go_wp2
  exact bodyPost_ret (v := .agg #[.int .i64 k, .int .i64 n, .string s]) (by simp [results, Tryd.results17, go_sem, c0, c1, c2]) rfl
    ⟨_, _, _, rfl, hv, fun h => by omega, ((ht2.setCell (by exact hlt) _).setCell (by exact hlt) _).setCell (by exact hlt) _, (((hs1.trans hs2).of_alloc.set2 (Nat.le_refl _) _ _ _).set2 (Nat.le_refl _) _ _ _).set2 (Nat.le_refl _) _ _ _⟩

/-- An argument that is a slice of ints. -/
def IntsAt (w : World) (p : Option Addr) (len : Nat) : Prop :=
  ∀ i, i < len → ∃ (c o : Nat) (z : Int), p = some ⟨c, o, none⟩ ∧ c < w.heap.size ∧ w.cell? ⟨c, o + i, none⟩ = some (.int .i64 z) ∧ -9223372036854775808 ≤ z ∧ z ≤ 9223372036854775807

def NewPost (w : World) (e : Ending) (w' : World) : Prop := ∃ b : Nat, e = .returned (.pointer (some ⟨b, 0, none⟩)) ∧ w.heap.size ≤ b ∧ TapeAt w' b ∧ Below w.heap.size w w'

theorem tape_new {w : World} {p : Option Addr} {len cap : Nat} (hl : len ≤ 500) (h : IntsAt w p len) :
    TapeAt (w.alloc (.cells #[.slice p len cap, .int .i64 0] 41)) w.heap.size := by
  refine ⟨p, len, cap, 0, Nat.zero_le _, hl, ?_, ?_, ?_, by simp, fun i hi => ?_⟩
  · go_simp
  · go_simp
  · go_simp
  · obtain ⟨c, o, z, hp, hc, hz, hz1⟩ := h i hi
    exact ⟨c, o, z, hp, hc, by rw [World.cell?_of_block (w := w) (Below.heap_alloc _ _ _ hc)]; exact hz, hz1⟩

set_option maxHeartbeats 400000 in
theorem new_any (w : World) (p : Option Addr) (len cap : Nat) (hl : len ≤ cap) (hm : len ≤ 9223372036854775807) (h : IntsAt w p len) :
    Calls Tryd.prog 5 #[.slice p len cap] w (NewPost w) := by
  by_cases hc : 500 < len
  · obtain ⟨c, o, z, rfl, -⟩ := h 0 (by omega)
    have HI := Lib.hid h
    clear h
    go_enter Tryd.func5, Tryd.ntmps5
    go_wp2
    go_ret
    exact ⟨_, rfl, Nat.le_refl _, tape_new (Nat.le_refl _) (fun i hi => HI.out i (by omega)), (Below.refl _ _).alloc (Nat.le_refl _) _⟩
  · go_enter Tryd.func5, Tryd.ntmps5
    go_wp2
    go_ret
    exact ⟨_, rfl, Nat.le_refl _, tape_new (by omega) h, (Below.refl _ _).alloc (Nat.le_refl _) _⟩
end Go.Proofs.YtdlehlbahkikgaaDoor
/-
  No contract of the shelf serves this program.
-/

/-
  WHAT HOLDS OF THE PACKAGE-LEVEL VARIABLES while a statement runs, and that it stays.
-/
namespace Go.Proofs.YtdlehlbahkikgaaDoor
set_option maxRecDepth 100000
open Go.RowKit
variable {ls : List Nat}

/-- The tables of the logic. -/
def andL : List (List Int) := [[0, 0, 0], [0, 1, 1], [0, 1, 2]]
def orL : List (List Int) := [[0, 1, 2], [1, 1, 2], [2, 2, 2]]
/-- The names of columns. -/
def nameL : List (List UInt8) := [[105, 100], [110], [109], [98], [115], [120], [97, 49, 95], [97, 98, 99, 100, 101, 102, 103, 104, 105, 106, 107, 108]]
def nameS (i : Nat) : ByteArray := ⟨(nameL.getD i []).toArray⟩
def NamesAt (w : World) : Prop := ∀ i, i < 8 → w.cell? ⟨0, i, none⟩ = some (.string (nameS i))
/-- The fields that the kinds of expressions use, as bits. -/
def useL : List Int := [0, 4, 24, 32, 32, 33, 34, 32, 64, 64, 64, 64, 64]
/-- The precedences of the operators, with those of their arguments. -/
def operL : List (List Int) := [[0, 0, 0, 0], [1, 1, 2, 0], [2, 2, 3, 0], [4, 5, 5, 0], [4, 5, 5, 0], [4, 5, 5, 0], [4, 5, 5, 0], [4, 5, 5, 0], [4, 5, 5, 0], [5, 5, 6, 0], [5, 5, 6, 0], [6, 6, 7, 0], [6, 6, 7, 0], [6, 6, 7, 0]]
/-- The variables of the program hold what its text lays. -/
structure Env (ls : List Nat) (w : World) : Prop where
  size : 4 ≤ w.heap.size
  words : 3 ∈ ls → WordsAt w
  names : 0 ∈ ls → NamesAt w
  uses : 2 ∈ ls → ∀ i, i < 13 → w.cell? ⟨2, i, none⟩ = some (.int .i64 (useL.getD i 0))
  opers : 1 ∈ ls → ∀ i j, i < 14 → j < 4 → w.cell? ⟨1, i * 4 + j, none⟩ = some (.int .i64 ((operL.getD i []).getD j 0))


theorem Env.keep {w w' : World} (h : Env ls w) (hz : w.heap.size ≤ w'.heap.size) (hk : ∀ k, k < 4 → w'.heap[k]? = w.heap[k]?) : Env ls w' := by
  have hc : ∀ (b o : Nat), b < 4 → w'.cell? ⟨b, o, none⟩ = w.cell? ⟨b, o, none⟩ := fun b o hb => World.cell?_of_block (w := w) (hk b hb)
  constructor
  · exact Nat.le_trans h.size hz
  · intro hm
    obtain ⟨a, h0, h1, h2, h3, h4, h5⟩ := h.words hm
    refine ⟨by have := h.size; omega, ?_, ?_, ?_, ?_, ?_, ?_⟩
    all_goals rw [hc _ _ (by decide)]; assumption
  · intro hm i hi; rw [hc _ _ (by decide)]; exact h.names hm i hi
  · intro hm i hi; rw [hc _ _ (by decide)]; exact h.uses hm i hi
  · intro hm i j hi hj; rw [hc _ _ (by decide)]; exact h.opers hm i j hi hj
theorem Env.below {w w' : World} {B : Nat} (h : Env ls w) (hb : Below B w w') (hB : 4 ≤ B) : Env ls w' := h.keep hb.size (fun k hk => hb.block k (by omega))
theorem Env.low {w w' : World} (h : Env ls w) (hb : Below w.heap.size w w') : Env ls w' := h.below hb h.size
theorem Env.step {w w' : World} {b : Nat} (h : Env ls w) (hs : StepT b w w') (hb : 4 ≤ b) : Env ls w' := h.keep hs.size (fun k hk => hs.block k (by have := h.size; omega) (by omega))
theorem Env.alloc {w : World} (h : Env ls w) (o : Obj) : Env ls (w.alloc o) := h.low ((Below.refl _ _).alloc (Nat.le_refl _) _)
theorem Env.drewN {w : World} (h : Env ls w) (n : Nat) : Env ls (w.drewN n) := h.keep (Nat.le_refl _) (fun _ _ => rfl)


/-- What is known of a new block of three cells, behind a call that turns nothing. -/
theorem box3 {w w' : World} {x y z : Value} {t : TypeId} (hb : Below (w.alloc (.cells #[x, y, z] t)).heap.size (w.alloc (.cells #[x, y, z] t)) w') :
    w'.cell? ⟨w.heap.size, 0, none⟩ = some x ∧ w'.cell? ⟨w.heap.size, 1, none⟩ = some y ∧ w'.cell? ⟨w.heap.size, 2, none⟩ = some z
    ∧ w'.frozen? ⟨w.heap.size, 0, none⟩ = false ∧ w'.frozen? ⟨w.heap.size, 1, none⟩ = false ∧ w'.frozen? ⟨w.heap.size, 2, none⟩ = false ∧ w.heap.size < w'.heap.size := by
  have hz := hb.size
  have hz' : (w.alloc (.cells #[x, y, z] t)).heap.size = w.heap.size + 1 := by simp
  rw [hz'] at hz
  refine ⟨?_, ?_, ?_, ?_, ?_, ?_, by omega⟩
  all_goals (first | rw [hb.cell (by rw [hz']; exact Nat.lt_succ_self _)] | rw [hb.frozen (by rw [hz']; exact Nat.lt_succ_self _)])
  all_goals go_simp
theorem Below.of_alloc {w w' : World} {o : Obj} (hb : Below (w.alloc o).heap.size (w.alloc o) w') : Below w.heap.size w w' :=
  Below.trans ((Below.refl _ _).alloc (Nat.le_refl _) _) (hb.mono (by simp))
theorem Below.next {w w' w2 : World} (h : Below w.heap.size w w') (k : Below w'.heap.size w' w2) : Below w.heap.size w w2 := h.trans (k.mono h.size)
theorem boxes2 {w w' : World} {x y z x' y' z' : Value} {t t' : TypeId} (hb : Below ((w.alloc (.cells #[x, y, z] t)).alloc (.cells #[x', y', z'] t')).heap.size ((w.alloc (.cells #[x, y, z] t)).alloc (.cells #[x', y', z'] t')) w') :
    (w'.cell? ⟨w.heap.size, 0, none⟩ = some x ∧ w'.cell? ⟨w.heap.size, 1, none⟩ = some y ∧ w'.cell? ⟨w.heap.size, 2, none⟩ = some z)
    ∧ (w'.frozen? ⟨w.heap.size, 0, none⟩ = false ∧ w'.frozen? ⟨w.heap.size, 1, none⟩ = false ∧ w'.frozen? ⟨w.heap.size, 2, none⟩ = false)
    ∧ (w'.cell? ⟨w.heap.size + 1, 0, none⟩ = some x' ∧ w'.cell? ⟨w.heap.size + 1, 1, none⟩ = some y' ∧ w'.cell? ⟨w.heap.size + 1, 2, none⟩ = some z') ∧ w.heap.size + 1 < w'.heap.size ∧ Below w.heap.size w w' := by
  have hz := hb.size
  have hz' : ((w.alloc (.cells #[x, y, z] t)).alloc (.cells #[x', y', z'] t')).heap.size = w.heap.size + 2 := by simp
  rw [hz'] at hz
  refine ⟨⟨?_, ?_, ?_⟩, ⟨?_, ?_, ?_⟩, ⟨?_, ?_, ?_⟩, by omega, Below.of_alloc (Below.of_alloc hb)⟩
  all_goals (first | rw [hb.cell (by rw [hz']; exact Nat.lt_add_of_pos_right (by decide))] | rw [hb.frozen (by rw [hz']; exact Nat.lt_add_of_pos_right (by decide))] | rw [hb.cell (by rw [hz']; exact Nat.lt_succ_self _)])
  all_goals go_simp
theorem Below.set_new {w w' : World} (h : Below w.heap.size w w') {a : Addr} (ha : w.heap.size ≤ a.block) (x : Value) : Below w.heap.size w (w'.setCell a x) := h.setCell ha x

/-- What a region may lean on while calls make memory: a box of three cells, the variables, and that nothing old is turned. -/
theorem keep3 {B A : Nat} {W u v : World} {x y z : Value} (hb : Below u.heap.size u v)
    (h : u.cell? ⟨B, 0, none⟩ = some x ∧ u.cell? ⟨B, 1, none⟩ = some y ∧ u.cell? ⟨B, 2, none⟩ = some z ∧ B < u.heap.size ∧ Env ls u ∧ Below A W u ∧ A ≤ u.heap.size) :
    v.cell? ⟨B, 0, none⟩ = some x ∧ v.cell? ⟨B, 1, none⟩ = some y ∧ v.cell? ⟨B, 2, none⟩ = some z ∧ B < v.heap.size ∧ Env ls v ∧ Below A W v ∧ A ≤ v.heap.size := by
  obtain ⟨h0, h1, h2, hz, hE, hB, hA⟩ := h
  have := hb.size
  exact ⟨by rw [hb.cell (by exact hz)]; exact h0, by rw [hb.cell (by exact hz)]; exact h1, by rw [hb.cell (by exact hz)]; exact h2, by omega, hE.low hb, hB.trans (hb.mono hA), by omega⟩
theorem keep6 {B B' A : Nat} {W u v : World} {x y z x' y' z' : Value} (hb : Below u.heap.size u v)
    (h : u.cell? ⟨B, 0, none⟩ = some x ∧ u.cell? ⟨B, 1, none⟩ = some y ∧ u.cell? ⟨B, 2, none⟩ = some z ∧ u.cell? ⟨B', 0, none⟩ = some x' ∧ u.cell? ⟨B', 1, none⟩ = some y' ∧ u.cell? ⟨B', 2, none⟩ = some z' ∧ B < u.heap.size ∧ B' < u.heap.size ∧ Env ls u ∧ Below A W u ∧ A ≤ u.heap.size) :
    v.cell? ⟨B, 0, none⟩ = some x ∧ v.cell? ⟨B, 1, none⟩ = some y ∧ v.cell? ⟨B, 2, none⟩ = some z ∧ v.cell? ⟨B', 0, none⟩ = some x' ∧ v.cell? ⟨B', 1, none⟩ = some y' ∧ v.cell? ⟨B', 2, none⟩ = some z' ∧ B < v.heap.size ∧ B' < v.heap.size ∧ Env ls v ∧ Below A W v ∧ A ≤ v.heap.size := by
  obtain ⟨h0, h1, h2, h0', h1', h2', hz, hz', hE, hB, hA⟩ := h
  have := hb.size
  exact ⟨by rw [hb.cell (by exact hz)]; exact h0, by rw [hb.cell (by exact hz)]; exact h1, by rw [hb.cell (by exact hz)]; exact h2, by rw [hb.cell (by exact hz')]; exact h0', by rw [hb.cell (by exact hz')]; exact h1', by rw [hb.cell (by exact hz')]; exact h2', by omega, by omega, hE.low hb, hB.trans (hb.mono hA), by omega⟩
theorem Env.drew {w : World} (h : Env ls w) : Env ls w.drew := h.keep (Nat.le_refl _) (fun _ _ => rfl)
end Go.Proofs.YtdlehlbahkikgaaDoor
