/-
  Several texts in one.
-/
import Derived.Test.YtgaihglploedaaaPk01
import Derived.Lib.SmallJoins
import Derived.Deep.Slices
import Derived.Test.YtgaihglploedaaaProg
import Derived.RegionTactic
import Derived.Deep.RegionWith
import Derived.Laws.BytesArg
import Derived.OpenShut
/-
  Arguments, opened: lists of numbers, values, texts.
-/
namespace Go.Proofs.Ytgaihglploedaaa
set_option maxRecDepth 100000
open Go.ChangeShapes Go.WideShapes Go.ChangeAt Go.RowKit

section
variable {H : Type} {enc : TypeId × Value → H} {W : World} {v : Value} {d : DataW H} {p : List MemPlace}
/-- An argument of type []int: what the tape's helpers ask. -/
theorem open_tape (hv : ∃ b, Value.okWide Try.prog W .any b 42 v) (h : DataW.Trod enc Try.prog W 0 (fun _ => true) true 42 v d p) :
    ∃ (a : Option Addr) (len cap : Nat), v = .slice a len cap ∧ len ≤ cap ∧ len ≤ 9223372036854775807 ∧ IntsAt W a len := by
  obtain ⟨b, hv⟩ := hv
  obtain ⟨a0, len, cap, rfl⟩ := okWide_slice Try.underlying42 hv
  obtain ⟨fuel, hf⟩ := h
  rcases open_ints Try.underlying42 Try.underlying3 (by kernel_rfl) hf with ⟨hcs, hx⟩ | ⟨a, len', cap', zs, hcs, _, hl, hm, hz, hx, hcell, hwz⟩
  · simp only [Value.cells, List.cons.injEq, and_true, Value.slice.injEq] at hcs
    obtain ⟨rfl, rfl, rfl⟩ := hcs
    exact ⟨none, 0, 0, rfl, Nat.le_refl _, by decide, fun i hi => by omega⟩
  · simp only [Value.cells, List.cons.injEq, and_true, Value.slice.injEq] at hcs
    obtain ⟨rfl, rfl, rfl⟩ := hcs
    refine ⟨some a, len, cap, rfl, hl, by unfold maxLen at hm; omega, fun i hi => ?_⟩
    rw [if_pos rfl] at hz
    obtain ⟨c, o, rfl, hc⟩ := ints_at hcell (by omega)
    have hi' : i < zs.length := by omega
    have hci := hc i hi'
    have hw := hwz (zs.getD i 0) (by rw [List.getD, List.getElem?_eq_getElem hi']; exact List.getElem_mem hi')
    exact ⟨c, o, _, rfl, World.block_lt_of_cell? W _ hci, hci, (bounds_i64 hw).1, (bounds_i64 hw).2⟩
/-- An argument that is a value. -/
theorem open_val (hv : ∃ b, Value.okWide Try.prog W .any b 31 v) (h : DataW.Trod enc Try.prog W 0 (fun _ => true) true 31 v d p) :
    ∃ (k n : Int) (s : ByteArray), v = .agg #[.int .i64 k, .int .i64 n, .string s] ∧ -9223372036854775808 ≤ k ∧ k ≤ 9223372036854775807 ∧ -9223372036854775808 ≤ n ∧ n ≤ 9223372036854775807 ∧ s.size ≤ 9223372036854775807 := by
  obtain ⟨b, hv⟩ := hv
  obtain ⟨c0, c1, c2, y0, y1, y2, m, rfl, rfl, rfl, hy0, hy1, hy2⟩ := Joins.open_agg3 Try.underlying31 (by kernel_rfl) (by kernel_rfl) hv h
  obtain ⟨k, e0, rfl, wk⟩ := DataW.trod_int Try.underlying3 hy0
  obtain ⟨n, e1, rfl, wn⟩ := DataW.trod_int Try.underlying2 hy1
  obtain ⟨s, e2, rfl, ws⟩ := DataW.trod_string Try.underlying9 hy2
  simp only [List.cons.injEq, and_true] at e0 e1 e2
  subst e0 e1 e2
  exact ⟨k, n, s, rfl, (bounds_i64 wk).1, (bounds_i64 wk).2, (bounds_i64 wn).1, (bounds_i64 wn).2, ws⟩
end
end Go.Proofs.Ytgaihglploedaaa
/-
  No contract of the shelf serves this program.
-/

/-
  WHAT HOLDS OF THE PACKAGE-LEVEL VARIABLES while a statement runs, and that it stays.
-/
namespace Go.Proofs.Ytgaihglploedaaa
set_option maxRecDepth 100000
open Go.RowKit
variable {ls : List Nat}

/-- The tables of the logic. -/
def andL : List (List Int) := [[0, 0, 0], [0, 1, 1], [0, 1, 2]]
def orL : List (List Int) := [[0, 1, 2], [1, 1, 2], [2, 2, 2]]
/-- The variables of the program hold what its text lays. -/
structure Env (ls : List Nat) (w : World) : Prop where
  size : 0 ≤ w.heap.size


theorem Env.keep {w w' : World} (h : Env ls w) (hz : w.heap.size ≤ w'.heap.size) (hk : ∀ k, k < 0 → w'.heap[k]? = w.heap[k]?) : Env ls w' := by
  have hc : ∀ (b o : Nat), b < 0 → w'.cell? ⟨b, o, none⟩ = w.cell? ⟨b, o, none⟩ := fun b o hb => World.cell?_of_block (w := w) (hk b hb)
  constructor
  · exact Nat.le_trans h.size hz
theorem Env.below {w w' : World} {B : Nat} (h : Env ls w) (hb : Below B w w') (hB : 0 ≤ B) : Env ls w' := h.keep hb.size (fun k hk => hb.block k (by omega))
theorem Env.low {w w' : World} (h : Env ls w) (hb : Below w.heap.size w w') : Env ls w' := h.below hb h.size
theorem Env.step {w w' : World} {b : Nat} (h : Env ls w) (hs : StepT b w w') (hb : 0 ≤ b) : Env ls w' := h.keep hs.size (fun k hk => hs.block k (by have := h.size; omega) (by omega))
theorem Env.alloc {w : World} (h : Env ls w) (o : Obj) : Env ls (w.alloc o) := h.low ((Below.refl _ _).alloc (Nat.le_refl _) _)
theorem Env.drewN {w : World} (h : Env ls w) (n : Nat) : Env ls (w.drewN n) := h.keep (Nat.le_refl _) (fun _ _ => rfl)


/-- What is known of a new block of three cells, behind a call that turns nothing. -/
theorem box3 {w w' : World} {x y z : Value} {t : TypeId} (hb : Below (w.alloc (.cells #[x, y, z] t)).heap.size (w.alloc (.cells #[x, y, z] t)) w') :
    w'.cell? ⟨w.heap.size, 0, none⟩ = some x ∧ w'.cell? ⟨w.heap.size, 1, none⟩ = some y ∧ w'.cell? ⟨w.heap.size, 2, none⟩ = some z
    ∧ w'.frozen? ⟨w.heap.size, 0, none⟩ = false ∧ w'.frozen? ⟨w.heap.size, 1, none⟩ = false ∧ w'.frozen? ⟨w.heap.size, 2, none⟩ = false ∧ w.heap.size < w'.heap.size := by
  have hz := hb.size
  have hz' : (w.alloc (.cells #[x, y, z] t)).heap.size = w.heap.size + 1 := by simp
  rw [hz'] at hz
  refine ⟨?_, ?_, ?_, ?_, ?_, ?_, by omega⟩
  all_goals (first | rw [hb.cell (by rw [hz']; exact Nat.lt_succ_self _)] | rw [hb.frozen (by rw [hz']; exact Nat.lt_succ_self _)])
  all_goals go_simp
theorem Below.of_alloc {w w' : World} {o : Obj} (hb : Below (w.alloc o).heap.size (w.alloc o) w') : Below w.heap.size w w' :=
  Below.trans ((Below.refl _ _).alloc (Nat.le_refl _) _) (hb.mono (by simp))
theorem Below.next {w w' w2 : World} (h : Below w.heap.size w w') (k : Below w'.heap.size w' w2) : Below w.heap.size w w2 := h.trans (k.mono h.size)
theorem boxes2 {w w' : World} {x y z x' y' z' : Value} {t t' : TypeId} (hb : Below ((w.alloc (.cells #[x, y, z] t)).alloc (.cells #[x', y', z'] t')).heap.size ((w.alloc (.cells #[x, y, z] t)).alloc (.cells #[x', y', z'] t')) w') :
    (w'.cell? ⟨w.heap.size, 0, none⟩ = some x ∧ w'.cell? ⟨w.heap.size, 1, none⟩ = some y ∧ w'.cell? ⟨w.heap.size, 2, none⟩ = some z)
    ∧ (w'.frozen? ⟨w.heap.size, 0, none⟩ = false ∧ w'.frozen? ⟨w.heap.size, 1, none⟩ = false ∧ w'.frozen? ⟨w.heap.size, 2, none⟩ = false)
    ∧ (w'.cell? ⟨w.heap.size + 1, 0, none⟩ = some x' ∧ w'.cell? ⟨w.heap.size + 1, 1, none⟩ = some y' ∧ w'.cell? ⟨w.heap.size + 1, 2, none⟩ = some z') ∧ w.heap.size + 1 < w'.heap.size ∧ Below w.heap.size w w' := by
  have hz := hb.size
  have hz' : ((w.alloc (.cells #[x, y, z] t)).alloc (.cells #[x', y', z'] t')).heap.size = w.heap.size + 2 := by simp
  rw [hz'] at hz
  refine ⟨⟨?_, ?_, ?_⟩, ⟨?_, ?_, ?_⟩, ⟨?_, ?_, ?_⟩, by omega, Below.of_alloc (Below.of_alloc hb)⟩
  all_goals (first | rw [hb.cell (by rw [hz']; exact Nat.lt_add_of_pos_right (by decide))] | rw [hb.frozen (by rw [hz']; exact Nat.lt_add_of_pos_right (by decide))] | rw [hb.cell (by rw [hz']; exact Nat.lt_succ_self _)])
  all_goals go_simp
theorem Below.set_new {w w' : World} (h : Below w.heap.size w w') {a : Addr} (ha : w.heap.size ≤ a.block) (x : Value) : Below w.heap.size w (w'.setCell a x) := h.setCell ha x

/-- What a region may lean on while calls make memory: a box of three cells, the variables, and that nothing old is turned. -/
theorem keep3 {B A : Nat} {W u v : World} {x y z : Value} (hb : Below u.heap.size u v)
    (h : u.cell? ⟨B, 0, none⟩ = some x ∧ u.cell? ⟨B, 1, none⟩ = some y ∧ u.cell? ⟨B, 2, none⟩ = some z ∧ B < u.heap.size ∧ Env ls u ∧ Below A W u ∧ A ≤ u.heap.size) :
    v.cell? ⟨B, 0, none⟩ = some x ∧ v.cell? ⟨B, 1, none⟩ = some y ∧ v.cell? ⟨B, 2, none⟩ = some z ∧ B < v.heap.size ∧ Env ls v ∧ Below A W v ∧ A ≤ v.heap.size := by
  obtain ⟨h0, h1, h2, hz, hE, hB, hA⟩ := h
  have := hb.size
  exact ⟨by rw [hb.cell (by exact hz)]; exact h0, by rw [hb.cell (by exact hz)]; exact h1, by rw [hb.cell (by exact hz)]; exact h2, by omega, hE.low hb, hB.trans (hb.mono hA), by omega⟩
theorem keep6 {B B' A : Nat} {W u v : World} {x y z x' y' z' : Value} (hb : Below u.heap.size u v)
    (h : u.cell? ⟨B, 0, none⟩ = some x ∧ u.cell? ⟨B, 1, none⟩ = some y ∧ u.cell? ⟨B, 2, none⟩ = some z ∧ u.cell? ⟨B', 0, none⟩ = some x' ∧ u.cell? ⟨B', 1, none⟩ = some y' ∧ u.cell? ⟨B', 2, none⟩ = some z' ∧ B < u.heap.size ∧ B' < u.heap.size ∧ Env ls u ∧ Below A W u ∧ A ≤ u.heap.size) :
    v.cell? ⟨B, 0, none⟩ = some x ∧ v.cell? ⟨B, 1, none⟩ = some y ∧ v.cell? ⟨B, 2, none⟩ = some z ∧ v.cell? ⟨B', 0, none⟩ = some x' ∧ v.cell? ⟨B', 1, none⟩ = some y' ∧ v.cell? ⟨B', 2, none⟩ = some z' ∧ B < v.heap.size ∧ B' < v.heap.size ∧ Env ls v ∧ Below A W v ∧ A ≤ v.heap.size := by
  obtain ⟨h0, h1, h2, h0', h1', h2', hz, hz', hE, hB, hA⟩ := h
  have := hb.size
  exact ⟨by rw [hb.cell (by exact hz)]; exact h0, by rw [hb.cell (by exact hz)]; exact h1, by rw [hb.cell (by exact hz)]; exact h2, by rw [hb.cell (by exact hz')]; exact h0', by rw [hb.cell (by exact hz')]; exact h1', by rw [hb.cell (by exact hz')]; exact h2', by omega, by omega, hE.low hb, hB.trans (hb.mono hA), by omega⟩
theorem Env.drew {w : World} (h : Env ls w) : Env ls w.drew := h.keep (Nat.le_refl _) (fun _ _ => rfl)
end Go.Proofs.Ytgaihglploedaaa
/-
  Odd values: any kind, any number, a short text.
-/
namespace Go.Proofs.Ytgaihglploedaaa
set_option maxRecDepth 100000
open Go.RowKit

/-- What Odd gives. -/
def IsOdd (k n : Int) (s : ByteArray) : Prop := -9223372036854775808 ≤ k ∧ k ≤ 9223372036854775807 ∧ -9223372036854775808 ≤ n ∧ n ≤ 9223372036854775807 ∧ s.size ≤ 100
def OddPost (b : Nat) (w : World) (e : Ending) (w' : World) : Prop := ∃ (k n : Int) (s : ByteArray), e = .returned (.agg #[.int .i64 k, .int .i64 n, .string s]) ∧ IsOdd k n s ∧ TapeAt w' b ∧ StepT b w w'

/-- The call's two boxes: R for the result, V for the value that is made. -/
structure OddAt (w u : World) (b R V : Nat) (k n : Int) (s : ByteArray) : Prop where
  tape : TapeAt u b
  step : StepT b w u
  bR : b < R
  wR : w.heap.size ≤ R
  RV : R < V
  vz : V < u.heap.size
  r0 : ∃ x, u.cell? ⟨R, 0, none⟩ = some (.int .i64 x)
  r1 : ∃ x, u.cell? ⟨R, 1, none⟩ = some (.int .i64 x)
  r2 : ∃ x, u.cell? ⟨R, 2, none⟩ = some (.string x)
  v0 : u.cell? ⟨V, 0, none⟩ = some (.int .i64 k)
  v1 : u.cell? ⟨V, 1, none⟩ = some (.int .i64 n)
  v2 : u.cell? ⟨V, 2, none⟩ = some (.string s)
  fz : ∀ o, u.frozen? ⟨R, o, none⟩ = false ∧ u.frozen? ⟨V, o, none⟩ = false

theorem OddAt.next {w u u' : World} {b R V : Nat} {k n : Int} {s : ByteArray} (h : OddAt w u b R V k n s) (hs : StepT b u u') (ht : TapeAt u' b) : OddAt w u' b R V k n s := by
  have hb := h.bR
  have hV := h.RV
  have hz := h.vz
  have hc : ∀ B o, b < B → B ≤ V → u'.cell? ⟨B, o, none⟩ = u.cell? ⟨B, o, none⟩ := fun B o h1 h2 => hs.cell (by show B < _; omega) (by show B ≠ b; omega)
  have hf : ∀ B o, b < B → B ≤ V → u'.frozen? ⟨B, o, none⟩ = u.frozen? ⟨B, o, none⟩ := fun B o h1 h2 => hs.frozen (by show B < _; omega) (by show B ≠ b; omega)
  refine ⟨ht, h.step.trans hs, hb, h.wR, hV, Nat.lt_of_lt_of_le hz hs.size, ?_, ?_, ?_, ?_, ?_, ?_, fun o => ⟨?_, ?_⟩⟩
  · rw [hc _ _ hb (by omega)]; exact h.r0
  · rw [hc _ _ hb (by omega)]; exact h.r1
  · rw [hc _ _ hb (by omega)]; exact h.r2
  · rw [hc _ _ (by omega) (Nat.le_refl _)]; exact h.v0
  · rw [hc _ _ (by omega) (Nat.le_refl _)]; exact h.v1
  · rw [hc _ _ (by omega) (Nat.le_refl _)]; exact h.v2
  · rw [hf _ _ hb (by omega)]; exact (h.fz o).1
  · rw [hf _ _ (by omega) (Nat.le_refl _)]; exact (h.fz o).2

theorem OddAt.made {w w1 : World} {b : Nat} {k n : Int} {s : ByteArray} (hlt : b < w.heap.size) (ht : TapeAt w1 b)
    (hs : StepT b (w.alloc (.cells #[.int .i64 0, .int .i64 0, .string ⟨#[]⟩] 31)) w1) :
    OddAt w (w1.alloc (.cells #[.int .i64 k, .int .i64 n, .string s] 31)) b w.heap.size w1.heap.size k n s := by
  obtain ⟨a0, a1, a2, g0, g1, g2, hza⟩ := new3 hs hlt
  have hc : ∀ o, (w1.alloc (.cells #[.int .i64 k, .int .i64 n, .string s] 31)).cell? ⟨w.heap.size, o, none⟩ = w1.cell? ⟨w.heap.size, o, none⟩ := fun o =>
    World.cell?_of_block (w := w1) (Below.heap_alloc _ _ _ hza)
  have hf : ∀ o, (w1.alloc (.cells #[.int .i64 k, .int .i64 n, .string s] 31)).frozen? ⟨w.heap.size, o, none⟩ = w1.frozen? ⟨w.heap.size, o, none⟩ := fun o =>
    World.frozen?_of_block (w := w1) (Below.heap_alloc _ _ _ hza)
  have hg : ∀ o, w1.frozen? ⟨w.heap.size, o, none⟩ = false := fun o => by
    rw [hs.frozen (by simp) (by show w.heap.size ≠ b; omega)]
    go_simp
  refine ⟨ht.alloc _, hs.of_alloc.alloc _, hlt, Nat.le_refl _, hza, by simp, ⟨0, by rw [hc]; exact a0⟩, ⟨0, by rw [hc]; exact a1⟩, ⟨⟨#[]⟩, by rw [hc]; exact a2⟩, ?_, ?_, ?_, fun o => ⟨by rw [hf]; exact hg o, ?_⟩⟩
  all_goals go_simp

theorem OddAt.done {w u : World} {b R V : Nat} {k n : Int} {s : ByteArray} (h : OddAt w u b R V k n s) (x y z : Value) :
    TapeAt (((u.setCell ⟨R, 0, none⟩ x).setCell ⟨R, 1, none⟩ y).setCell ⟨R, 2, none⟩ z) b ∧ StepT b w (((u.setCell ⟨R, 0, none⟩ x).setCell ⟨R, 1, none⟩ y).setCell ⟨R, 2, none⟩ z) :=
  ⟨((h.tape.setCell (by exact h.bR) _).setCell (by exact h.bR) _).setCell (by exact h.bR) _, ((h.step.set2 h.wR _ _ _).set2 h.wR _ _ _).set2 h.wR _ _ _⟩

theorem OddAt.set {w u : World} {b R V : Nat} {k n : Int} {s : ByteArray} (h : OddAt w u b R V k n s) (o : Nat) (x : Value) {k' n' : Int} {s' : ByteArray}
    (h0 : (u.setCell ⟨V, o, none⟩ x).cell? ⟨V, 0, none⟩ = some (.int .i64 k')) (h1 : (u.setCell ⟨V, o, none⟩ x).cell? ⟨V, 1, none⟩ = some (.int .i64 n')) (h2 : (u.setCell ⟨V, o, none⟩ x).cell? ⟨V, 2, none⟩ = some (.string s')) :
    OddAt w (u.setCell ⟨V, o, none⟩ x) b R V k' n' s' := by
  have hRV := h.RV
  have hc : ∀ o', (u.setCell ⟨V, o, none⟩ x).cell? ⟨R, o', none⟩ = u.cell? ⟨R, o', none⟩ := fun o' => World.cell?_of_block (w := u) (Below.heap_setCell _ _ _ _ (show R ≠ V by omega))
  refine ⟨h.tape.setCell (by have := h.bR; show b < V; omega) _, h.step.set2 (by have := h.wR; omega) _ _ _, h.bR, h.wR, hRV, by simpa [World.setCell] using h.vz, by rw [hc]; exact h.r0, by rw [hc]; exact h.r1, by rw [hc]; exact h.r2, h0, h1, h2, fun o' => ⟨?_, ?_⟩⟩
  · rw [World.frozen?_of_block (w := u) (Below.heap_setCell _ _ _ _ (show R ≠ V by omega))]; exact (h.fz o').1
  · rw [World.frozen?_setCell]; exact (h.fz o').2

/-- One byte made a text. -/
def oneB (z : Int) : ByteArray := strOfNums [z]
theorem one_size (z : Int) : (oneB z).size = 1 := rfl
theorem one_byte (z : Int) (W : World) : Sem.run Try.prog (convert 77 9 (.slice (some ⟨W.heap.size, 0, none⟩) 1 1)) (W.alloc (.cells #[.int .u8 z] 5)) = .ok (.string (oneB z)) (W.alloc (.cells #[.int .u8 z] 5)) := by
  refine run_convert_bytes_arg _ 77 5 Try.underlying77 Try.underlying5 W.heap.size 0 1 1 [z] rfl (fun i hi => ?_) 9 Try.underlying9
  obtain rfl : i = 0 := by omega
  show (W.alloc _).cell? ⟨W.heap.size, 0, none⟩ = _
  go_simp

end Go.Proofs.Ytgaihglploedaaa
