/-
  WHAT HOLDS OF THE PACKAGE-LEVEL VARIABLES while a statement runs, and that it stays.
-/
import Derived.Test.YtlgagibmndbimaaDoorVals
import Derived.Test.YtlgagibmndbimaaDoorShelf
namespace Go.Proofs.YtlgagibmndbimaaDoor
open Go.RowKit
variable {ls : List Nat}

/-- The tables of the logic. -/
def andL : List (List Int) := [[0, 0, 0], [0, 1, 1], [0, 1, 2]]
def orL : List (List Int) := [[0, 1, 2], [1, 1, 2], [2, 2, 2]]
/-- The names of columns. -/
def nameL : List (List UInt8) := [[105, 100], [110], [109], [98], [115], [120], [97, 49, 95], [97, 98, 99, 100, 101, 102, 103, 104, 105, 106, 107, 108]]
def nameS (i : Nat) : ByteArray := ⟨(nameL.getD i []).toArray⟩
def NamesAt (w : World) : Prop := ∀ i, i < 8 → w.cell? ⟨0, i, none⟩ = some (.string (nameS i))
/-- The variables of the program hold what its text lays. -/
structure Env (ls : List Nat) (w : World) : Prop where
  size : 3 ≤ w.heap.size
  words : 1 ∈ ls → WordsAt w
  maxlen : ∃ m, w.cell? ⟨2, 0, none⟩ = some (.int .i64 m)
  names : 0 ∈ ls → NamesAt w


theorem Env.keep {w w' : World} (h : Env ls w) (hz : w.heap.size ≤ w'.heap.size) (hk : ∀ k, k < 3 → w'.heap[k]? = w.heap[k]?) : Env ls w' := by
  have hc : ∀ (b o : Nat), b < 3 → w'.cell? ⟨b, o, none⟩ = w.cell? ⟨b, o, none⟩ := fun b o hb => World.cell?_of_block (w := w) (hk b hb)
  constructor
  · exact Nat.le_trans h.size hz
  · intro hm
    obtain ⟨a, h0, h1, h2, h3, h4, h5⟩ := h.words hm
    refine ⟨by have := h.size; omega, ?_, ?_, ?_, ?_, ?_, ?_⟩
    all_goals rw [hc _ _ (by decide)]; assumption
  · obtain ⟨m, hm⟩ := h.maxlen
    exact ⟨m, by rw [hc _ _ (by decide)]; exact hm⟩
  · intro hm i hi; rw [hc _ _ (by decide)]; exact h.names hm i hi
theorem Env.below {w w' : World} {B : Nat} (h : Env ls w) (hb : Below B w w') (hB : 3 ≤ B) : Env ls w' := h.keep hb.size (fun k hk => hb.block k (by omega))
theorem Env.low {w w' : World} (h : Env ls w) (hb : Below w.heap.size w w') : Env ls w' := h.below hb h.size
theorem Env.step {w w' : World} {b : Nat} (h : Env ls w) (hs : StepT b w w') (hb : 3 ≤ b) : Env ls w' := h.keep hs.size (fun k hk => hs.block k (by have := h.size; omega) (by omega))
theorem Env.alloc {w : World} (h : Env ls w) (o : Obj) : Env ls (w.alloc o) := h.low ((Below.refl _ _).alloc (Nat.le_refl _) _)
theorem Env.drewN {w : World} (h : Env ls w) (n : Nat) : Env ls (w.drewN n) := h.keep (Nat.le_refl _) (fun _ _ => rfl)


/-- What is known of a new block of three cells, behind a call that turns nothing. -/
theorem box3 {w w' : World} {x y z : Value} {t : TypeId} (hb : Below (w.alloc (.cells #[x, y, z] t)).heap.size (w.alloc (.cells #[x, y, z] t)) w') :
    w'.cell? ⟨w.heap.size, 0, none⟩ = some x ∧ w'.cell? ⟨w.heap.size, 1, none⟩ = some y ∧ w'.cell? ⟨w.heap.size, 2, none⟩ = some z
    ∧ w'.frozen? ⟨w.heap.size, 0, none⟩ = false ∧ w'.frozen? ⟨w.heap.size, 1, none⟩ = false ∧ w'.frozen? ⟨w.heap.size, 2, none⟩ = false ∧ w.heap.size < w'.heap.size := by
  have hz := hb.size
  have hz' : (w.alloc (.cells #[x, y, z] t)).heap.size = w.heap.size + 1 := by simp
  rw [hz'] at hz
  refine ⟨?_, ?_, ?_, ?_, ?_, ?_, by omega⟩
  all_goals (first | rw [hb.cell (by rw [hz']; exact Nat.lt_succ_self _)] | rw [hb.frozen (by rw [hz']; exact Nat.lt_succ_self _)])
  all_goals go_simp
theorem Below.of_alloc {w w' : World} {o : Obj} (hb : Below (w.alloc o).heap.size (w.alloc o) w') : Below w.heap.size w w' :=
  Below.trans ((Below.refl _ _).alloc (Nat.le_refl _) _) (hb.mono (by simp))
theorem Below.next {w w' w2 : World} (h : Below w.heap.size w w') (k : Below w'.heap.size w' w2) : Below w.heap.size w w2 := h.trans (k.mono h.size)
theorem boxes2 {w w' : World} {x y z x' y' z' : Value} {t t' : TypeId} (hb : Below ((w.alloc (.cells #[x, y, z] t)).alloc (.cells #[x', y', z'] t')).heap.size ((w.alloc (.cells #[x, y, z] t)).alloc (.cells #[x', y', z'] t')) w') :
    (w'.cell? ⟨w.heap.size, 0, none⟩ = some x ∧ w'.cell? ⟨w.heap.size, 1, none⟩ = some y ∧ w'.cell? ⟨w.heap.size, 2, none⟩ = some z)
    ∧ (w'.frozen? ⟨w.heap.size, 0, none⟩ = false ∧ w'.frozen? ⟨w.heap.size, 1, none⟩ = false ∧ w'.frozen? ⟨w.heap.size, 2, none⟩ = false)
    ∧ (w'.cell? ⟨w.heap.size + 1, 0, none⟩ = some x' ∧ w'.cell? ⟨w.heap.size + 1, 1, none⟩ = some y' ∧ w'.cell? ⟨w.heap.size + 1, 2, none⟩ = some z') ∧ w.heap.size + 1 < w'.heap.size ∧ Below w.heap.size w w' := by
  have hz := hb.size
  have hz' : ((w.alloc (.cells #[x, y, z] t)).alloc (.cells #[x', y', z'] t')).heap.size = w.heap.size + 2 := by simp
  rw [hz'] at hz
  refine ⟨⟨?_, ?_, ?_⟩, ⟨?_, ?_, ?_⟩, ⟨?_, ?_, ?_⟩, by omega, Below.of_alloc (Below.of_alloc hb)⟩
  all_goals (first | rw [hb.cell (by rw [hz']; exact Nat.lt_add_of_pos_right (by decide))] | rw [hb.frozen (by rw [hz']; exact Nat.lt_add_of_pos_right (by decide))] | rw [hb.cell (by rw [hz']; exact Nat.lt_succ_self _)])
  all_goals go_simp
theorem Below.set_new {w w' : World} (h : Below w.heap.size w w') {a : Addr} (ha : w.heap.size ≤ a.block) (x : Value) : Below w.heap.size w (w'.setCell a x) := h.setCell ha x

/-- What a region may lean on while calls make memory: a box of three cells, the variables, and that nothing old is turned. -/
theorem keep3 {B A : Nat} {W u v : World} {x y z : Value} (hb : Below u.heap.size u v)
    (h : u.cell? ⟨B, 0, none⟩ = some x ∧ u.cell? ⟨B, 1, none⟩ = some y ∧ u.cell? ⟨B, 2, none⟩ = some z ∧ B < u.heap.size ∧ Env ls u ∧ Below A W u ∧ A ≤ u.heap.size) :
    v.cell? ⟨B, 0, none⟩ = some x ∧ v.cell? ⟨B, 1, none⟩ = some y ∧ v.cell? ⟨B, 2, none⟩ = some z ∧ B < v.heap.size ∧ Env ls v ∧ Below A W v ∧ A ≤ v.heap.size := by
  obtain ⟨h0, h1, h2, hz, hE, hB, hA⟩ := h
  have := hb.size
  exact ⟨by rw [hb.cell (by exact hz)]; exact h0, by rw [hb.cell (by exact hz)]; exact h1, by rw [hb.cell (by exact hz)]; exact h2, by omega, hE.low hb, hB.trans (hb.mono hA), by omega⟩
theorem keep6 {B B' A : Nat} {W u v : World} {x y z x' y' z' : Value} (hb : Below u.heap.size u v)
    (h : u.cell? ⟨B, 0, none⟩ = some x ∧ u.cell? ⟨B, 1, none⟩ = some y ∧ u.cell? ⟨B, 2, none⟩ = some z ∧ u.cell? ⟨B', 0, none⟩ = some x' ∧ u.cell? ⟨B', 1, none⟩ = some y' ∧ u.cell? ⟨B', 2, none⟩ = some z' ∧ B < u.heap.size ∧ B' < u.heap.size ∧ Env ls u ∧ Below A W u ∧ A ≤ u.heap.size) :
    v.cell? ⟨B, 0, none⟩ = some x ∧ v.cell? ⟨B, 1, none⟩ = some y ∧ v.cell? ⟨B, 2, none⟩ = some z ∧ v.cell? ⟨B', 0, none⟩ = some x' ∧ v.cell? ⟨B', 1, none⟩ = some y' ∧ v.cell? ⟨B', 2, none⟩ = some z' ∧ B < v.heap.size ∧ B' < v.heap.size ∧ Env ls v ∧ Below A W v ∧ A ≤ v.heap.size := by
  obtain ⟨h0, h1, h2, h0', h1', h2', hz, hz', hE, hB, hA⟩ := h
  have := hb.size
  exact ⟨by rw [hb.cell (by exact hz)]; exact h0, by rw [hb.cell (by exact hz)]; exact h1, by rw [hb.cell (by exact hz)]; exact h2, by rw [hb.cell (by exact hz')]; exact h0', by rw [hb.cell (by exact hz')]; exact h1', by rw [hb.cell (by exact hz')]; exact h2', by omega, by omega, hE.low hb, hB.trans (hb.mono hA), by omega⟩
theorem Env.drew {w : World} (h : Env ls w) : Env ls w.drew := h.keep (Nat.le_refl _) (fun _ _ => rfl)
end Go.Proofs.YtlgagibmndbimaaDoor
