/-
  THE VALUES OF THE TAPE: Typed, Value, New.
-/
import Derived.Test.YtlgagibmndbimaaDoorTape
namespace Go.Proofs.YtlgagibmndbimaaDoor
open Go.RowKit

set_option maxHeartbeats 400000 in
theorem typed_bool (b : Nat) (w : World) (ht : TapeAt w b) :
    Calls Tryd.prog 28 #[.pointer (some ⟨b, 0, none⟩), .int .i64 2] w (ValPost b 2 w) := by
  have hlt := ht.lt
  go_enter Tryd.func28, Tryd.ntmps28
  go_wp2_with fail
  refine (next_any b _ _ (by omega) (by omega) (ht.alloc _)).mono ?_
  rintro e w' ⟨n, rfl, hn0, hn1, ht1, hs1⟩
  obtain ⟨c0, c1, c2, f0, f1, f2, hz⟩ := new3 hs1 hlt
  go_wp2
  exact bodyPost_ret (v := .agg #[.int .i64 2, .int .i64 n, .string ⟨#[]⟩]) (by simp [results, Tryd.results28, go_sem, c0, c1, c2]) rfl
    ⟨_, _, _, rfl, Or.inr (Or.inr (Or.inl ⟨rfl, hn0, by omega, rfl⟩)), fun _ _ => rfl, ((ht1.setCell (by exact hlt) _).setCell (by exact hlt) _).setCell (by exact hlt) _, ((hs1.of_alloc.set2 (Nat.le_refl _) _ _ _).set2 (Nat.le_refl _) _ _ _).set2 (Nat.le_refl _) _ _ _⟩

set_option maxHeartbeats 400000 in
theorem typed_text (b : Nat) (w : World) (hb : b ≠ 1) (ht : TapeAt w b) (hw : WordsAt w) :
    Calls Tryd.prog 28 #[.pointer (some ⟨b, 0, none⟩), .int .i64 3] w (ValPost b 3 w) := by
  have hlt := ht.lt
  go_enter Tryd.func28, Tryd.ntmps28
  go_wp2_with fail
  refine (word_any b _ hb (ht.alloc _) (hw.alloc _)).mono ?_
  rintro e w' ⟨n, rfl, hn, ht1, hs1⟩
  obtain ⟨c0, c1, c2, f0, f1, f2, hz⟩ := new3 hs1 hlt
  go_wp2
  exact bodyPost_ret (v := .agg #[.int .i64 3, .int .i64 0, .string n]) (by simp [results, Tryd.results28, go_sem, c0, c1, c2]) rfl
    ⟨_, _, _, rfl, Or.inr (Or.inr (Or.inr ⟨rfl, rfl, hn⟩)), fun _ _ => rfl, ((ht1.setCell (by exact hlt) _).setCell (by exact hlt) _).setCell (by exact hlt) _, ((hs1.of_alloc.set2 (Nat.le_refl _) _ _ _).set2 (Nat.le_refl _) _ _ _).set2 (Nat.le_refl _) _ _ _⟩

set_option maxHeartbeats 400000 in
theorem typed_null (b : Nat) (kind : Int) (w : World) (hk : kind < 1 ∨ 3 < kind) (ht : TapeAt w b) :
    Calls Tryd.prog 28 #[.pointer (some ⟨b, 0, none⟩), .int .i64 kind] w (ValPost b kind w) := by
  have hlt := ht.lt
  have h1 : (kind == 1) = false := beq_eq_false_iff_ne.2 (by omega)
  have h2 : (kind == 2) = false := beq_eq_false_iff_ne.2 (by omega)
  have h3 : (kind == 3) = false := beq_eq_false_iff_ne.2 (by omega)
  go_enter Tryd.func28, Tryd.ntmps28
  go_wp2
  exact bodyPost_ret (v := .agg #[.int .i64 0, .int .i64 0, .string ⟨#[]⟩]) (by simp [results, Tryd.results28, go_sem]) rfl
    ⟨_, _, _, rfl, Or.inl ⟨rfl, rfl, rfl⟩, fun _ _ => by omega, ht.alloc _, (StepT.refl _ _).alloc _⟩

theorem typed_any (b : Nat) (kind : Int) (w : World) (hb : b ≠ 1) (ht : TapeAt w b) (hw : WordsAt w) :
    Calls Tryd.prog 28 #[.pointer (some ⟨b, 0, none⟩), .int .i64 kind] w (ValPost b kind w) := by
  have h : kind = 1 ∨ kind = 2 ∨ kind = 3 ∨ (kind < 1 ∨ 3 < kind) := by omega
  rcases h with rfl | rfl | rfl | h
  · exact typed_num b w ht
  · exact typed_bool b w ht
  · exact typed_text b w hb ht hw
  · exact typed_null b kind w h ht

set_option maxHeartbeats 400000 in
theorem value_any (b : Nat) (w : World) (hb : b ≠ 1) (ht : TapeAt w b) (hw : WordsAt w) :
    Calls Tryd.prog 31 #[.pointer (some ⟨b, 0, none⟩)] w (ValPost b 0 w) := by
  have hlt := ht.lt
  go_enter Tryd.func31, Tryd.ntmps31
  go_wp2_with fail
  refine (next_any b _ _ (by omega) (by omega) (ht.alloc _)).mono ?_
  rintro e w' ⟨r, rfl, hn0, hn1, ht1, hs1⟩
  go_wp2_with fail
  refine (typed_any b r _ hb ht1 ((hw.alloc _).step hs1 hb)).mono ?_
  rintro e w2 ⟨k, n, s, rfl, hv, hk, ht2, hs2⟩
  obtain ⟨c0, c1, c2, f0, f1, f2, hz⟩ := new3 (hs1.trans hs2) hlt
  go_wp2
  exact bodyPost_ret (v := .agg #[.int .i64 k, .int .i64 n, .string s]) (by simp [results, Tryd.results31, go_sem, c0, c1, c2]) rfl
    ⟨_, _, _, rfl, hv, fun h => by omega, ((ht2.setCell (by exact hlt) _).setCell (by exact hlt) _).setCell (by exact hlt) _, (((hs1.trans hs2).of_alloc.set2 (Nat.le_refl _) _ _ _).set2 (Nat.le_refl _) _ _ _).set2 (Nat.le_refl _) _ _ _⟩

/-- An argument that is a slice of ints. -/
def IntsAt (w : World) (p : Option Addr) (len : Nat) : Prop :=
  ∀ i, i < len → ∃ (c o : Nat) (z : Int), p = some ⟨c, o, none⟩ ∧ c < w.heap.size ∧ w.cell? ⟨c, o + i, none⟩ = some (.int .i64 z) ∧ -9223372036854775808 ≤ z ∧ z ≤ 9223372036854775807

def NewPost (w : World) (e : Ending) (w' : World) : Prop := ∃ b : Nat, e = .returned (.pointer (some ⟨b, 0, none⟩)) ∧ w.heap.size ≤ b ∧ TapeAt w' b ∧ Below w.heap.size w w'

theorem tape_new {w : World} {p : Option Addr} {len cap : Nat} (hl : len ≤ 500) (h : IntsAt w p len) :
    TapeAt (w.alloc (.cells #[.slice p len cap, .int .i64 0] 50)) w.heap.size := by
  refine ⟨p, len, cap, 0, Nat.zero_le _, hl, ?_, ?_, ?_, by simp, fun i hi => ?_⟩
  · go_simp
  · go_simp
  · go_simp
  · obtain ⟨c, o, z, hp, hc, hz, hz1⟩ := h i hi
    exact ⟨c, o, z, hp, hc, by rw [World.cell?_of_block (w := w) (Below.heap_alloc _ _ _ hc)]; exact hz, hz1⟩

set_option maxHeartbeats 400000 in
theorem new_any (w : World) (p : Option Addr) (len cap : Nat) (hl : len ≤ cap) (hm : len ≤ 9223372036854775807) (h : IntsAt w p len) :
    Calls Tryd.prog 7 #[.slice p len cap] w (NewPost w) := by
  by_cases hc : 500 < len
  · obtain ⟨c, o, z, rfl, -⟩ := h 0 (by omega)
    have HI := Lib.hid h
    clear h
    go_enter Tryd.func7, Tryd.ntmps7
    go_wp2
    go_ret
    exact ⟨_, rfl, Nat.le_refl _, tape_new (Nat.le_refl _) (fun i hi => HI.out i (by omega)), (Below.refl _ _).alloc (Nat.le_refl _) _⟩
  · go_enter Tryd.func7, Tryd.ntmps7
    go_wp2
    go_ret
    exact ⟨_, rfl, Nat.le_refl _, tape_new (by omega) h, (Below.refl _ _).alloc (Nat.le_refl _) _⟩
end Go.Proofs.YtlgagibmndbimaaDoor
