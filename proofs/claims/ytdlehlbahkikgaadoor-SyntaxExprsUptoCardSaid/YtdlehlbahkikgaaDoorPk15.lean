/-
  Several texts in one.
-/
import Derived.Test.YtdlehlbahkikgaaDoorPk04
import Derived.Test.YtdlehlbahkikgaaDoorPk14
import Derived.Test.YtdlehlbahkikgaaDoorPk05
import Derived.Test.YtdlehlbahkikgaaDoorPk13
/-
  Valid of schemas, of the program and of the reference.
-/
namespace Go.Proofs.YtdlehlbahkikgaaDoor
set_option maxRecDepth 100000
open Go.RowKit
variable {ls : List Nat}

theorem validName_eq {s : ByteArray} {b : Bool} (hs : s.size ≤ 9223372036854775807) (h : nameOK s = b) (w : World) : Calls Tryd.prog 31 #[.string s] w fun e w' => e = .returned (.bool b) ∧ Below w.heap.size w w' := by
  subst h; exact validName_any s w hs
theorem rvalidName_eq {s : ByteArray} {b : Bool} (hs : s.size ≤ 9223372036854775807) (h : nameOK s = b) (w : World) : Calls Tryd.prog 44 #[.string s] w fun e w' => e = .returned (.bool b) ∧ w = w' := by
  subst h; exact rvalidName_any s w hs
end Go.Proofs.YtdlehlbahkikgaaDoor
/-
  Valid of schemas, of the reference.
-/
namespace Go.Proofs.YtdlehlbahkikgaaDoor
set_option maxRecDepth 100000
open Go.RowKit
variable {ls : List Nat}

theorem rvname_eq {s : ByteArray} {b : Bool} (hs : s.size ≤ 9223372036854775807) (h : nameOK s = b) (w : World) : Calls Tryd.prog 44 #[.string s] w fun e w' => e = .returned (.bool b) ∧ w' = w := (rvalidName_eq hs h w).mono fun _ _ he => ⟨he.1, he.2.symm⟩
theorem keysN_succ (f : Nat → Col) (k : Nat) : keysN f (k + 1) = keysN f k + if (f k).key then 1 else 0 := rfl
theorem keys_yes {f : Nat → Col} {k : Nat} (h : (f k).key = true) : ((keysN f k : Nat) : Int) + 1 = ((keysN f (k + 1) : Nat) : Int) := by rw [keysN_succ, h]; simp
theorem keys_no {f : Nat → Col} {k : Nat} (h : (f k).key = false) : ((keysN f k : Nat) : Int) = ((keysN f (k + 1) : Nat) : Int) := by rw [keysN_succ, h]; simp

end Go.Proofs.YtdlehlbahkikgaaDoor
/-
  Tables: Valid and New of the reference.
-/
namespace Go.Proofs.YtdlehlbahkikgaaDoor
set_option maxRecDepth 100000
open Go.RowKit
variable {ls : List Nat}

end Go.Proofs.YtdlehlbahkikgaaDoor
/-
  Tables: New of the reference.
-/
namespace Go.Proofs.YtdlehlbahkikgaaDoor
set_option maxRecDepth 100000
open Go.RowKit
variable {ls : List Nat}

/-- What New gives. -/
def TNewPost (nm : ByteArray) (n : Nat) (f : Nat → Col) (w : World) (e : Ending) (w' : World) : Prop := ∃ (T : Tab) (er : Int), e = .returned (.tuple #[T.v, .int .i64 er]) ∧ TabAt w' T ∧ T.R = [] ∧ Below w.heap.size w w' ∧
  ((schemaOK nm n f = true ∧ er = 0 ∧ T.nm = nm ∧ T.n = n ∧ (∀ i, i < n → T.f i = f i) ∧ T.nx = 1) ∨ (schemaOK nm n f = false ∧ er = 17 ∧ T.nm = ⟨#[]⟩ ∧ T.n = 0 ∧ T.nx = 0))
theorem schemaOK_range {nm : ByteArray} {n : Nat} {f : Nat → Col} (h : schemaOK nm n f = true) : 1 ≤ n ∧ n ≤ 6 := by
  unfold schemaOK at h
  simp only [Bool.and_eq_true, decide_eq_true_eq] at h
  exact h.1.2
theorem ColsAt.ptr {w : World} {p : Option Addr} {n : Nat} {f : Nat → Col} (h : ColsAt w p n f) (hn : 0 < n) : ∃ c o, p = some ⟨c, o, none⟩ ∧ c < w.heap.size := by
  obtain ⟨c, o, hp, hc, -⟩ := h 0 hn
  exact ⟨c, o, hp, hc⟩
theorem Cell4.far {u : World} {X Y : Nat} {a b c d : Value} (h : Cell4 u X a b c d) (hn : X ≠ Y) {o : Nat} (v : Value) : Cell4 (u.setCell ⟨Y, o, none⟩ v) X a b c d := by
  have hb : ∀ o', (u.setCell ⟨Y, o, none⟩ v).cell? ⟨X, o', none⟩ = u.cell? ⟨X, o', none⟩ := fun o' => World.cell?_of_block (w := u) (Below.heap_setCell _ _ _ _ hn)
  exact ⟨by simpa [World.setCell] using h.lt, by rw [hb]; exact h.c0, by rw [hb]; exact h.c1, by rw [hb]; exact h.c2, by rw [hb]; exact h.c3, fun o' => by rw [World.frozen?_setCell]; exact h.fz o'⟩
theorem Cell4.set2 {u : World} {X : Nat} {a b c d : Value} (h : Cell4 u X a b c d) (y : Value) : Cell4 (u.setCell ⟨X, 2, none⟩ y) X a b y d := by
  obtain ⟨hl, c0, c1, c2, c3, fz⟩ := h
  refine ⟨by simpa [World.setCell] using hl, ?_, ?_, ?_, ?_, fun o => ?_⟩
  · go_simp
  · go_simp
  · go_simp
  · go_simp
  · rw [World.frozen?_setCell]; exact fz o
theorem Cell4.set3 {u : World} {X : Nat} {a b c d : Value} (h : Cell4 u X a b c d) (y : Value) : Cell4 (u.setCell ⟨X, 3, none⟩ y) X a b c y := by
  obtain ⟨hl, c0, c1, c2, c3, fz⟩ := h
  refine ⟨by simpa [World.setCell] using hl, ?_, ?_, ?_, ?_, fun o => ?_⟩
  · go_simp
  · go_simp
  · go_simp
  · go_simp
  · rw [World.frozen?_setCell]; exact fz o
theorem cell4_put (u : World) {X : Nat} {a b c d : Value} (h : Cell4 u X a b c d) (x y z t : Value) : Cell4 ((((u.setCell ⟨X, 0, none⟩ x).setCell ⟨X, 1, none⟩ y).setCell ⟨X, 2, none⟩ z).setCell ⟨X, 3, none⟩ t) X x y z t := by
  obtain ⟨hl, c0, c1, c2, c3, fz⟩ := h
  refine ⟨by simpa [World.setCell] using hl, ?_, ?_, ?_, ?_, fun o => ?_⟩
  · go_simp
  · go_simp
  · go_simp
  · go_simp
  · rw [World.frozen?_setCell, World.frozen?_setCell, World.frozen?_setCell, World.frozen?_setCell]; exact fz o
def zeroTab : Tab := ⟨⟨#[]⟩, none, 0, 0, fun _ => default, 0, none, 0, []⟩
theorem zeroTab_at (w : World) : TabAt w zeroTab := ⟨by decide, by decide, (fun i hi => absurd hi (Nat.not_lt_zero _)), TRowsAt.nil _ _, by decide, fun r hr => absurd hr (List.not_mem_nil), by decide⟩
end Go.Proofs.YtdlehlbahkikgaaDoor
