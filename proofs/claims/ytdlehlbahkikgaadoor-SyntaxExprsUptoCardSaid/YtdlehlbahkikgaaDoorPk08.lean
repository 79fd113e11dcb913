/-
  Several texts in one.
-/
import Derived.Test.YtdlehlbahkikgaaDoorPk01
import Derived.RegionTactic
import Derived.Deep.RegionWith
import Derived.Laws.BytesArg
import Derived.OpenShut
import Derived.Test.YtdlehlbahkikgaaDoorPk02
import Derived.StillTailTactics
/-
  Odd values: any kind, any number, a short text.
-/
namespace Go.Proofs.YtdlehlbahkikgaaDoor
set_option maxRecDepth 100000
open Go.RowKit

/-- What Odd gives. -/
def IsOdd (k n : Int) (s : ByteArray) : Prop := -9223372036854775808 ≤ k ∧ k ≤ 9223372036854775807 ∧ -9223372036854775808 ≤ n ∧ n ≤ 9223372036854775807 ∧ s.size ≤ 100
def OddPost (b : Nat) (w : World) (e : Ending) (w' : World) : Prop := ∃ (k n : Int) (s : ByteArray), e = .returned (.agg #[.int .i64 k, .int .i64 n, .string s]) ∧ IsOdd k n s ∧ TapeAt w' b ∧ StepT b w w'

theorem IsVal.odd {k n : Int} {s : ByteArray} (h : IsVal k n s) : IsOdd k n s := by
  have hw : ∀ t, IsWord t → t.size ≤ 100 := by
    intro t ht
    rcases ht with rfl | rfl | rfl | rfl | rfl | rfl <;> decide
  unfold IsOdd
  rcases h with ⟨rfl, rfl, rfl⟩ | ⟨rfl, hn, rfl⟩ | ⟨rfl, h0, h1, rfl⟩ | ⟨rfl, rfl, hs⟩
  · decide
  · unfold IsNum at hn
    refine ⟨by decide, by decide, by omega, by omega, by decide⟩
  · refine ⟨by decide, by decide, by omega, by omega, by decide⟩
  · exact ⟨by decide, by decide, by decide, by decide, hw _ hs⟩

theorem IsVal.short {k n : Int} {s : ByteArray} (h : IsVal k n s) : s.size ≤ 64 := by
  have hw : ∀ t, IsWord t → t.size ≤ 64 := by
    intro t ht
    rcases ht with rfl | rfl | rfl | rfl | rfl | rfl <;> decide
  rcases h with ⟨-, -, rfl⟩ | ⟨-, -, rfl⟩ | ⟨-, -, -, rfl⟩ | ⟨-, -, hs⟩
  · decide
  · decide
  · decide
  · exact hw _ hs

/-- The call's two boxes: R for the result, V for the value that is made. -/
structure OddAt (w u : World) (b R V : Nat) (k n : Int) (s : ByteArray) : Prop where
  tape : TapeAt u b
  step : StepT b w u
  bR : b < R
  wR : w.heap.size ≤ R
  RV : R < V
  vz : V < u.heap.size
  r0 : ∃ x, u.cell? ⟨R, 0, none⟩ = some (.int .i64 x)
  r1 : ∃ x, u.cell? ⟨R, 1, none⟩ = some (.int .i64 x)
  r2 : ∃ x, u.cell? ⟨R, 2, none⟩ = some (.string x)
  v0 : u.cell? ⟨V, 0, none⟩ = some (.int .i64 k)
  v1 : u.cell? ⟨V, 1, none⟩ = some (.int .i64 n)
  v2 : u.cell? ⟨V, 2, none⟩ = some (.string s)
  fz : ∀ o, u.frozen? ⟨R, o, none⟩ = false ∧ u.frozen? ⟨V, o, none⟩ = false

theorem OddAt.next {w u u' : World} {b R V : Nat} {k n : Int} {s : ByteArray} (h : OddAt w u b R V k n s) (hs : StepT b u u') (ht : TapeAt u' b) : OddAt w u' b R V k n s := by
  have hb := h.bR
  have hV := h.RV
  have hz := h.vz
  have hc : ∀ B o, b < B → B ≤ V → u'.cell? ⟨B, o, none⟩ = u.cell? ⟨B, o, none⟩ := fun B o h1 h2 => hs.cell (by show B < _; omega) (by show B ≠ b; omega)
  have hf : ∀ B o, b < B → B ≤ V → u'.frozen? ⟨B, o, none⟩ = u.frozen? ⟨B, o, none⟩ := fun B o h1 h2 => hs.frozen (by show B < _; omega) (by show B ≠ b; omega)
  refine ⟨ht, h.step.trans hs, hb, h.wR, hV, Nat.lt_of_lt_of_le hz hs.size, ?_, ?_, ?_, ?_, ?_, ?_, fun o => ⟨?_, ?_⟩⟩
  · rw [hc _ _ hb (by omega)]; exact h.r0
  · rw [hc _ _ hb (by omega)]; exact h.r1
  · rw [hc _ _ hb (by omega)]; exact h.r2
  · rw [hc _ _ (by omega) (Nat.le_refl _)]; exact h.v0
  · rw [hc _ _ (by omega) (Nat.le_refl _)]; exact h.v1
  · rw [hc _ _ (by omega) (Nat.le_refl _)]; exact h.v2
  · rw [hf _ _ hb (by omega)]; exact (h.fz o).1
  · rw [hf _ _ (by omega) (Nat.le_refl _)]; exact (h.fz o).2

theorem OddAt.made {w w1 : World} {b : Nat} {k n : Int} {s : ByteArray} (hlt : b < w.heap.size) (ht : TapeAt w1 b)
    (hs : StepT b (w.alloc (.cells #[.int .i64 0, .int .i64 0, .string ⟨#[]⟩] 26)) w1) :
    OddAt w (w1.alloc (.cells #[.int .i64 k, .int .i64 n, .string s] 26)) b w.heap.size w1.heap.size k n s := by
  obtain ⟨a0, a1, a2, g0, g1, g2, hza⟩ := new3 hs hlt
  have hc : ∀ o, (w1.alloc (.cells #[.int .i64 k, .int .i64 n, .string s] 26)).cell? ⟨w.heap.size, o, none⟩ = w1.cell? ⟨w.heap.size, o, none⟩ := fun o =>
    World.cell?_of_block (w := w1) (Below.heap_alloc _ _ _ hza)
  have hf : ∀ o, (w1.alloc (.cells #[.int .i64 k, .int .i64 n, .string s] 26)).frozen? ⟨w.heap.size, o, none⟩ = w1.frozen? ⟨w.heap.size, o, none⟩ := fun o =>
    World.frozen?_of_block (w := w1) (Below.heap_alloc _ _ _ hza)
  have hg : ∀ o, w1.frozen? ⟨w.heap.size, o, none⟩ = false := fun o => by
    rw [hs.frozen (by simp) (by show w.heap.size ≠ b; omega)]
    go_simp
  refine ⟨ht.alloc _, hs.of_alloc.alloc _, hlt, Nat.le_refl _, hza, by simp, ⟨0, by rw [hc]; exact a0⟩, ⟨0, by rw [hc]; exact a1⟩, ⟨⟨#[]⟩, by rw [hc]; exact a2⟩, ?_, ?_, ?_, fun o => ⟨by rw [hf]; exact hg o, ?_⟩⟩
  all_goals go_simp

theorem OddAt.done {w u : World} {b R V : Nat} {k n : Int} {s : ByteArray} (h : OddAt w u b R V k n s) (x y z : Value) :
    TapeAt (((u.setCell ⟨R, 0, none⟩ x).setCell ⟨R, 1, none⟩ y).setCell ⟨R, 2, none⟩ z) b ∧ StepT b w (((u.setCell ⟨R, 0, none⟩ x).setCell ⟨R, 1, none⟩ y).setCell ⟨R, 2, none⟩ z) :=
  ⟨((h.tape.setCell (by exact h.bR) _).setCell (by exact h.bR) _).setCell (by exact h.bR) _, ((h.step.set2 h.wR _ _ _).set2 h.wR _ _ _).set2 h.wR _ _ _⟩

theorem OddAt.set {w u : World} {b R V : Nat} {k n : Int} {s : ByteArray} (h : OddAt w u b R V k n s) (o : Nat) (x : Value) {k' n' : Int} {s' : ByteArray}
    (h0 : (u.setCell ⟨V, o, none⟩ x).cell? ⟨V, 0, none⟩ = some (.int .i64 k')) (h1 : (u.setCell ⟨V, o, none⟩ x).cell? ⟨V, 1, none⟩ = some (.int .i64 n')) (h2 : (u.setCell ⟨V, o, none⟩ x).cell? ⟨V, 2, none⟩ = some (.string s')) :
    OddAt w (u.setCell ⟨V, o, none⟩ x) b R V k' n' s' := by
  have hRV := h.RV
  have hc : ∀ o', (u.setCell ⟨V, o, none⟩ x).cell? ⟨R, o', none⟩ = u.cell? ⟨R, o', none⟩ := fun o' => World.cell?_of_block (w := u) (Below.heap_setCell _ _ _ _ (show R ≠ V by omega))
  refine ⟨h.tape.setCell (by have := h.bR; show b < V; omega) _, h.step.set2 (by have := h.wR; omega) _ _ _, h.bR, h.wR, hRV, by simpa [World.setCell] using h.vz, by rw [hc]; exact h.r0, by rw [hc]; exact h.r1, by rw [hc]; exact h.r2, h0, h1, h2, fun o' => ⟨?_, ?_⟩⟩
  · rw [World.frozen?_of_block (w := u) (Below.heap_setCell _ _ _ _ (show R ≠ V by omega))]; exact (h.fz o').1
  · rw [World.frozen?_setCell]; exact (h.fz o').2

/-- One byte made a text. -/
def oneB (z : Int) : ByteArray := strOfNums [z]
theorem one_size (z : Int) : (oneB z).size = 1 := rfl
theorem one_byte (z : Int) (W : World) : Sem.run Tryd.prog (convert 67 9 (.slice (some ⟨W.heap.size, 0, none⟩) 1 1)) (W.alloc (.cells #[.int .u8 z] 5)) = .ok (.string (oneB z)) (W.alloc (.cells #[.int .u8 z] 5)) := by
  refine run_convert_bytes_arg _ 67 5 Tryd.underlying67 Tryd.underlying5 W.heap.size 0 1 1 [z] rfl (fun i hi => ?_) 9 Tryd.underlying9
  obtain rfl : i = 0 := by omega
  show (W.alloc _).cell? ⟨W.heap.size, 0, none⟩ = _
  go_simp

set_option maxRecDepth 100000 in
set_option maxHeartbeats 1000000 in
theorem odd_any (b : Nat) (w : World) (hb : b ≠ 3) (ht : TapeAt w b) (hw : WordsAt w) :
    Calls Tryd.prog 27 #[.pointer (some ⟨b, 0, none⟩)] w (OddPost b w) := by
  have hlt := ht.lt
  go_enter Tryd.func27, Tryd.ntmps27
  go_wp2_with fail
  refine (value_any b _ hb (ht.alloc _) (hw.alloc _)).mono ?_
  rintro e w1 ⟨k, n, s, rfl, hv, -, ht1, hs1⟩
  have hO := OddAt.made (k := k) (n := n) (s := s) hlt ht1 hs1
  have ho := hv.odd
  have hsz := hv.short
  clear hv
  go_wp2_with fail
  refine (next_any b _ _ (by omega) (by omega) hO.tape).mono ?_
  rintro e w2 ⟨r, rfl, hr0, hr1, ht2, hs2⟩
  have hO2 := hO.next hs2 ht2
  clear hO ht2 hs2 ht1 hs1 ht hw
  have HO := Lib.hid hO2
  obtain ⟨x0, r0⟩ := hO2.r0
  obtain ⟨x1, r1⟩ := hO2.r1
  obtain ⟨x2, r2⟩ := hO2.r2
  have v0 := hO2.v0
  have v1 := hO2.v1
  have v2 := hO2.v2
  have fr := fun o => (hO2.fz o).1
  have fv := fun o => (hO2.fz o).2
  have hRV := hO2.RV
  clear hO2
  have hr : r = 0 ∨ r = 1 ∨ r = 2 ∨ r = 3 ∨ r = 4 := by omega
  clear hr0 hr1
  rcases hr with rfl | rfl | rfl | rfl | rfl
  · go_wp2_with fail
    refine (next_any b _ _ (by omega) (by omega) HO.out.tape).mono ?_
    rintro e w3 ⟨q, rfl, hq0, hq1, ht3, hs3⟩
    have hO3 := HO.out.next hs3 ht3
    clear r0 r1 r2 v0 v1 v2 fr fv hs3 ht3
    have HO3 := Lib.hid hO3
    obtain ⟨x0, r0⟩ := hO3.r0
    obtain ⟨x1, r1⟩ := hO3.r1
    obtain ⟨x2, r2⟩ := hO3.r2
    have v0 := hO3.v0
    have v1 := hO3.v1
    have v2 := hO3.v2
    have fr := fun o => (hO3.fz o).1
    have fv := fun o => (hO3.fz o).2
    clear hO3
    go_wp2
    have hO4 := HO3.out.set 0 (.int .i64 (q - 2)) (k' := q - 2) (n' := n) (s' := s) (by go_simp) (by go_simp) (by go_simp)
    exact bodyPost_ret (v := .agg #[.int .i64 (q - 2), .int .i64 n, .string s]) (by simp [results, Tryd.results27, go_sem, r0, r1, r2]) rfl
      ⟨_, _, _, rfl, ⟨by omega, by omega, ho.2.2⟩, (hO4.done _ _ _).1, (hO4.done _ _ _).2⟩
  · go_wp2
    have hO4 := HO.out.set 1 (.int .i64 (wrap64 (n + 1))) (k' := k) (n' := wrap64 (n + 1)) (s' := s) (by go_simp) (by go_simp) (by go_simp)
    exact bodyPost_ret (v := .agg #[.int .i64 k, .int .i64 (wrap64 (n + 1)), .string s]) (by simp [results, Tryd.results27, go_sem, r0, r1, r2]) rfl
      ⟨_, _, _, rfl, ⟨ho.1, ho.2.1, (bounds_i64 (RowKit.wrap64_wf _)).1, (bounds_i64 (RowKit.wrap64_wf _)).2, ho.2.2.2.2⟩, (hO4.done _ _ _).1, (hO4.done _ _ _).2⟩
  · have HO' := Lib.hid (HO.out.next ((StepT.refl b _).drewN 1) HO.out.tape : OddAt w w2.drew b w.heap.size w1.heap.size k n s)
    have hcv := one_byte
    have h1 := one_size
    go_wp2_with fail
    go_region_with (go_at_call 13; refine (next_any b _ _ (by omega) (by omega) HO'.out.tape).mono ?_; rintro e w3 ⟨q, rfl, hq0, hq1, ht3, hs3⟩; have hO3 := HO'.out.next hs3 ht3; have u2 := hO3.v2; have uf := fun o => (hO3.fz o).2; have uz := hO3.vz; have HO3 := Lib.hid hO3; clear hO3 ht3 hs3)
    all_goals
      have hO3 := HO3.out
      clear HO3 HO' HO r0 r1 r2 v0 v1 v2 fr fv hcv h1 u2 uf uz
      have v0 := hO3.v0
      have v1 := hO3.v1
      have hO4 := hO3.set 2 (.string (s ++ oneB q)) (k' := k) (n' := n) (s' := s ++ oneB q) (by go_simp) (by go_simp) (by have := hO3.v2; go_simp)
      clear v0 v1 hO3
      have hO5 := hO4.next ((StepT.refl b _).alloc (.cells #[.int .u8 q] 5)) (hO4.tape.alloc _)
      clear hO4
      have HO5 := Lib.hid hO5
      obtain ⟨x0, r0⟩ := hO5.r0
      obtain ⟨x1, r1⟩ := hO5.r1
      obtain ⟨x2, r2⟩ := hO5.r2
      have v0 := hO5.v0
      have v1 := hO5.v1
      have v2 := hO5.v2
      have fr := fun o => (hO5.fz o).1
      clear hO5
      generalize (w3.setCell _ _).alloc _ = W5 at r0 r1 r2 v0 v1 v2 fr HO5 ⊢
      go_wp2
      exact bodyPost_ret (v := .agg #[.int .i64 k, .int .i64 n, .string (s ++ oneB q)]) (by simp [results, Tryd.results27, go_sem, r0, r1, r2]) rfl
        ⟨_, _, _, rfl, ⟨ho.1, ho.2.1, ho.2.2.1, ho.2.2.2.1, by rw [ByteArray.size_append, one_size]; omega⟩, (HO5.out.done _ _ _).1, (HO5.out.done _ _ _).2⟩
  · have hA := HO.out.set 0 (.int .i64 3) (k' := 3) (n' := n) (s' := s) (by go_simp) (by go_simp) (by go_simp)
    have hA0 := hA.v0
    have hA1 := hA.v1
    have hA2 := hA.v2
    have hB := hA.set 1 (.int .i64 0) (k' := 3) (n' := 0) (s' := s) (by go_simp) (by go_simp) (by go_simp)
    have hB0 := hB.v0
    have hB1 := hB.v1
    have hB2 := hB.v2
    have hC := hB.set 2 (.string ⟨#[]⟩) (k' := 3) (n' := 0) (s' := ⟨#[]⟩) (by go_simp) (by go_simp) (by go_simp)
    have HC := Lib.hid hC
    clear hA hA0 hA1 hA2 hB hB0 hB1 hB2 hC
    go_wp2_with fail
    refine (next_any b _ _ (by omega) (by omega) HC.out.tape).mono ?_
    rintro e w3 ⟨q, rfl, hq0, hq1, ht3, hs3⟩
    have hO3 := HC.out.next hs3 ht3
    have HO3 := Lib.hid hO3
    clear r0 r1 r2 v0 v1 v2 fr fv hs3 ht3 hO3 HC HO
    obtain ⟨q, rfl⟩ := Int.eq_ofNat_of_zero_le hq0
    go_wp2
    have hO3' := HO3.out
    go_loopw [4] (fun i wr => ∃ (c : Nat) (t : ByteArray), i = .int .i64 c ∧ t.size + c ≤ 67 ∧ OddAt w wr b w.heap.size w1.heap.size 3 0 t) (fun i _ => (intOf i).toNat)
    case atStart => exact ⟨60 + q, ⟨#[]⟩, by simp, by show 0 + (60 + q) ≤ 67; omega, hO3'⟩
    case round =>
      clear hO3'
      obtain ⟨c, t, rfl, hct, hO⟩ := hrel
      have HO := Lib.hid hO
      obtain ⟨x0, r0⟩ := hO.r0
      obtain ⟨x1, r1⟩ := hO.r1
      obtain ⟨x2, r2⟩ := hO.r2
      have v0 := hO.v0
      have v1 := hO.v1
      have v2 := hO.v2
      have fr := fun o => (hO.fz o).1
      have fv := fun o => (hO.fz o).2
      clear hO
      by_cases hc : 0 < c
      · obtain ⟨d, rfl⟩ : ∃ d, c = d + 1 := ⟨c - 1, by omega⟩
        have hO4 := HO.out.set 2 (.string (t ++ ⟨#[120]⟩)) (k' := 3) (n' := 0) (s' := t ++ ⟨#[120]⟩) (by go_simp) (by go_simp) (by go_simp)
        have HO4 := Lib.hid hO4
        clear hO4
        go_wp2
        go_roundw
        case rel => exact ⟨d, t ++ ⟨#[120]⟩, by go_num, by rw [ByteArray.size_append]; show t.size + 1 + d ≤ 67; omega, HO4.out⟩
        case measure => simp [intOf]
      · obtain rfl : c = 0 := by omega
        go_wp2
        exact bodyPost_ret (v := .agg #[.int .i64 3, .int .i64 0, .string t]) (by simp [results, Tryd.results27, go_sem, r0, r1, r2]) rfl
          ⟨_, _, _, rfl, ⟨by decide, by decide, by decide, by decide, by omega⟩, (HO.out.done _ _ _).1, (HO.out.done _ _ _).2⟩
  · go_wp2
    exact bodyPost_ret (v := .agg #[.int .i64 k, .int .i64 n, .string s]) (by simp [results, Tryd.results27, go_sem, r0, r1, r2]) rfl
      ⟨_, _, _, rfl, ho, (HO.out.done _ _ _).1, (HO.out.done _ _ _).2⟩
end Go.Proofs.YtdlehlbahkikgaaDoor
/-
  Slices and boxes of values that a call has made, and that they stay.
-/
namespace Go.Proofs.YtdlehlbahkikgaaDoor
set_option maxRecDepth 100000
open Go.RowKit
variable {ls : List Nat}

/-- A slice of n values that the call has made: its block, and what its cells hold. -/
def ListAt (u : World) (L n : Nat) (V : Nat → Int × Int × ByteArray) : Prop :=
  L < u.heap.size ∧ ∀ i, i < n → u.cell? ⟨L, i * 3, none⟩ = some (.int .i64 (V i).1) ∧ u.cell? ⟨L, i * 3 + 1, none⟩ = some (.int .i64 (V i).2.1) ∧ u.cell? ⟨L, i * 3 + 2, none⟩ = some (.string (V i).2.2)
theorem ListAt.low {u v : World} {L n : Nat} {V : Nat → Int × Int × ByteArray} (h : ListAt u L n V) (hb : Below u.heap.size u v) : ListAt v L n V :=
  ⟨Nat.lt_of_lt_of_le h.1 hb.size, fun i hi => ⟨by rw [hb.cell (by exact h.1)]; exact (h.2 i hi).1, by rw [hb.cell (by exact h.1)]; exact (h.2 i hi).2.1, by rw [hb.cell (by exact h.1)]; exact (h.2 i hi).2.2⟩⟩

/-- A box with one value. -/
def BoxAt (u : World) (X : Nat) (v : Int × Int × ByteArray) : Prop :=
  X < u.heap.size ∧ u.cell? ⟨X, 0, none⟩ = some (.int .i64 v.1) ∧ u.cell? ⟨X, 1, none⟩ = some (.int .i64 v.2.1) ∧ u.cell? ⟨X, 2, none⟩ = some (.string v.2.2)
theorem BoxAt.low {u v : World} {X : Nat} {x : Int × Int × ByteArray} (h : BoxAt u X x) (hb : Below u.heap.size u v) : BoxAt v X x :=
  ⟨Nat.lt_of_lt_of_le h.1 hb.size, by rw [hb.cell (by exact h.1)]; exact h.2.1, by rw [hb.cell (by exact h.1)]; exact h.2.2.1, by rw [hb.cell (by exact h.1)]; exact h.2.2.2⟩
theorem BoxAt.new (u : World) (v : Int × Int × ByteArray) (t : TypeId) : BoxAt (u.alloc (.cells #[.int .i64 v.1, .int .i64 v.2.1, .string v.2.2] t)) u.heap.size v := by
  refine ⟨by simp, ?_, ?_, ?_⟩
  all_goals go_simp
theorem low_alloc (u : World) (o : Obj) : Below u.heap.size u (u.alloc o) := (Below.refl _ _).alloc (Nat.le_refl _) _

theorem keepX {B A L m : Nat} {W u v : World} {V : Nat → Int × Int × ByteArray} {x y z : Value} (hb : Below u.heap.size u v)
    (h : u.cell? ⟨B, 0, none⟩ = some x ∧ u.cell? ⟨B, 1, none⟩ = some y ∧ u.cell? ⟨B, 2, none⟩ = some z ∧ B < u.heap.size ∧ Env ls u ∧ ListAt u L m V ∧ Below A W u ∧ A ≤ u.heap.size) :
    v.cell? ⟨B, 0, none⟩ = some x ∧ v.cell? ⟨B, 1, none⟩ = some y ∧ v.cell? ⟨B, 2, none⟩ = some z ∧ B < v.heap.size ∧ Env ls v ∧ ListAt v L m V ∧ Below A W v ∧ A ≤ v.heap.size := by
  obtain ⟨h0, h1, h2, hz, hE, hL, hB, hA⟩ := h
  have := hb.size
  exact ⟨by rw [hb.cell (by exact hz)]; exact h0, by rw [hb.cell (by exact hz)]; exact h1, by rw [hb.cell (by exact hz)]; exact h2, by omega, hE.low hb, hL.low hb, hB.trans (hb.mono hA), by omega⟩

theorem keepL {B B' A L m : Nat} {W u v : World} {V : Nat → Int × Int × ByteArray} {x y z x' y' z' : Value} (hb : Below u.heap.size u v)
    (h : u.cell? ⟨B, 0, none⟩ = some x ∧ u.cell? ⟨B, 1, none⟩ = some y ∧ u.cell? ⟨B, 2, none⟩ = some z ∧ u.cell? ⟨B', 0, none⟩ = some x' ∧ u.cell? ⟨B', 1, none⟩ = some y' ∧ u.cell? ⟨B', 2, none⟩ = some z' ∧ B < u.heap.size ∧ B' < u.heap.size ∧ Env ls u ∧ ListAt u L m V ∧ Below A W u ∧ A ≤ u.heap.size) :
    v.cell? ⟨B, 0, none⟩ = some x ∧ v.cell? ⟨B, 1, none⟩ = some y ∧ v.cell? ⟨B, 2, none⟩ = some z ∧ v.cell? ⟨B', 0, none⟩ = some x' ∧ v.cell? ⟨B', 1, none⟩ = some y' ∧ v.cell? ⟨B', 2, none⟩ = some z' ∧ B < v.heap.size ∧ B' < v.heap.size ∧ Env ls v ∧ ListAt v L m V ∧ Below A W v ∧ A ≤ v.heap.size := by
  obtain ⟨h0, h1, h2, h0', h1', h2', hz, hz', hE, hL, hB, hA⟩ := h
  have := hb.size
  exact ⟨by rw [hb.cell (by exact hz)]; exact h0, by rw [hb.cell (by exact hz)]; exact h1, by rw [hb.cell (by exact hz)]; exact h2, by rw [hb.cell (by exact hz')]; exact h0', by rw [hb.cell (by exact hz')]; exact h1', by rw [hb.cell (by exact hz')]; exact h2', by omega, by omega, hE.low hb, hL.low hb, hB.trans (hb.mono hA), by omega⟩

theorem keepS {R b : Nat} {W u v : World} {x y z : Value} (hs : StepT b u v) (ht : TapeAt v b) (h8 : 4 ≤ b) (hR : R < b) (hW : W.heap.size ≤ b)
    (h : u.cell? ⟨R, 0, none⟩ = some x ∧ u.cell? ⟨R, 1, none⟩ = some y ∧ u.cell? ⟨R, 2, none⟩ = some z ∧ TapeAt u b ∧ Env ls u ∧ Below W.heap.size W u ∧ R < u.heap.size) :
    v.cell? ⟨R, 0, none⟩ = some x ∧ v.cell? ⟨R, 1, none⟩ = some y ∧ v.cell? ⟨R, 2, none⟩ = some z ∧ TapeAt v b ∧ Env ls v ∧ Below W.heap.size W v ∧ R < v.heap.size := by
  obtain ⟨h0, h1, h2, _, hE, hB, hz⟩ := h
  have hn : R ≠ b := by omega
  exact ⟨by rw [hs.cell (by exact hz) (by exact hn)]; exact h0, by rw [hs.cell (by exact hz) (by exact hn)]; exact h1, by rw [hs.cell (by exact hz) (by exact hn)]; exact h2, ht, hE.step hs h8, hB.trans (hs.below hW hB.size), Nat.lt_of_lt_of_le hz hs.size⟩
theorem keepA {R b : Nat} {W u : World} {x y z : Value} {o : Obj} (h8 : 4 ≤ b) (hR : R < b) (hW : W.heap.size ≤ b)
    (h : u.cell? ⟨R, 0, none⟩ = some x ∧ u.cell? ⟨R, 1, none⟩ = some y ∧ u.cell? ⟨R, 2, none⟩ = some z ∧ TapeAt u b ∧ Env ls u ∧ Below W.heap.size W u ∧ R < u.heap.size) :
    (u.alloc o).cell? ⟨R, 0, none⟩ = some x ∧ (u.alloc o).cell? ⟨R, 1, none⟩ = some y ∧ (u.alloc o).cell? ⟨R, 2, none⟩ = some z ∧ TapeAt (u.alloc o) b ∧ Env ls (u.alloc o) ∧ Below W.heap.size W (u.alloc o) ∧ R < (u.alloc o).heap.size :=
  keepS ((StepT.refl b u).alloc o) (h.2.2.2.1.alloc o) h8 hR hW h

theorem keepS6 {R R' b : Nat} {W u v : World} {x y z x' y' z' : Value} (hs : StepT b u v) (ht : TapeAt v b) (h8 : 4 ≤ b) (hR : R < b) (hR' : R' < b) (hW : W.heap.size ≤ b)
    (h : u.cell? ⟨R, 0, none⟩ = some x ∧ u.cell? ⟨R, 1, none⟩ = some y ∧ u.cell? ⟨R, 2, none⟩ = some z ∧ u.cell? ⟨R', 0, none⟩ = some x' ∧ u.cell? ⟨R', 1, none⟩ = some y' ∧ u.cell? ⟨R', 2, none⟩ = some z' ∧ TapeAt u b ∧ Env ls u ∧ Below W.heap.size W u ∧ R < u.heap.size ∧ R' < u.heap.size) :
    v.cell? ⟨R, 0, none⟩ = some x ∧ v.cell? ⟨R, 1, none⟩ = some y ∧ v.cell? ⟨R, 2, none⟩ = some z ∧ v.cell? ⟨R', 0, none⟩ = some x' ∧ v.cell? ⟨R', 1, none⟩ = some y' ∧ v.cell? ⟨R', 2, none⟩ = some z' ∧ TapeAt v b ∧ Env ls v ∧ Below W.heap.size W v ∧ R < v.heap.size ∧ R' < v.heap.size := by
  obtain ⟨h0, h1, h2, h0', h1', h2', _, hE, hB, hz, hz'⟩ := h
  have hn : R ≠ b := by omega
  have hn' : R' ≠ b := by omega
  exact ⟨by rw [hs.cell (by exact hz) (by exact hn)]; exact h0, by rw [hs.cell (by exact hz) (by exact hn)]; exact h1, by rw [hs.cell (by exact hz) (by exact hn)]; exact h2,
    by rw [hs.cell (by exact hz') (by exact hn')]; exact h0', by rw [hs.cell (by exact hz') (by exact hn')]; exact h1', by rw [hs.cell (by exact hz') (by exact hn')]; exact h2', ht, hE.step hs h8, hB.trans (hs.below hW hB.size), Nat.lt_of_lt_of_le hz hs.size, Nat.lt_of_lt_of_le hz' hs.size⟩
theorem keepA6 {R R' b : Nat} {W u : World} {x y z x' y' z' : Value} {o : Obj} (h8 : 4 ≤ b) (hR : R < b) (hR' : R' < b) (hW : W.heap.size ≤ b)
    (h : u.cell? ⟨R, 0, none⟩ = some x ∧ u.cell? ⟨R, 1, none⟩ = some y ∧ u.cell? ⟨R, 2, none⟩ = some z ∧ u.cell? ⟨R', 0, none⟩ = some x' ∧ u.cell? ⟨R', 1, none⟩ = some y' ∧ u.cell? ⟨R', 2, none⟩ = some z' ∧ TapeAt u b ∧ Env ls u ∧ Below W.heap.size W u ∧ R < u.heap.size ∧ R' < u.heap.size) :
    (u.alloc o).cell? ⟨R, 0, none⟩ = some x ∧ (u.alloc o).cell? ⟨R, 1, none⟩ = some y ∧ (u.alloc o).cell? ⟨R, 2, none⟩ = some z ∧ (u.alloc o).cell? ⟨R', 0, none⟩ = some x' ∧ (u.alloc o).cell? ⟨R', 1, none⟩ = some y' ∧ (u.alloc o).cell? ⟨R', 2, none⟩ = some z' ∧ TapeAt (u.alloc o) b ∧ Env ls (u.alloc o) ∧ Below W.heap.size W (u.alloc o) ∧ R < (u.alloc o).heap.size ∧ R' < (u.alloc o).heap.size :=
  keepS6 ((StepT.refl b u).alloc o) (h.2.2.2.2.2.2.1.alloc o) h8 hR hR' hW h

theorem keepZ6 {R R' b : Nat} {W u v : World} {x y z x' y' z' : Value} (hb : Below u.heap.size u v) (h8 : 4 ≤ b) (hR : R < b) (hR' : R' < b) (hW : W.heap.size ≤ b)
    (h : u.cell? ⟨R, 0, none⟩ = some x ∧ u.cell? ⟨R, 1, none⟩ = some y ∧ u.cell? ⟨R, 2, none⟩ = some z ∧ u.cell? ⟨R', 0, none⟩ = some x' ∧ u.cell? ⟨R', 1, none⟩ = some y' ∧ u.cell? ⟨R', 2, none⟩ = some z' ∧ TapeAt u b ∧ Env ls u ∧ Below W.heap.size W u ∧ R < u.heap.size ∧ R' < u.heap.size) :
    v.cell? ⟨R, 0, none⟩ = some x ∧ v.cell? ⟨R, 1, none⟩ = some y ∧ v.cell? ⟨R, 2, none⟩ = some z ∧ v.cell? ⟨R', 0, none⟩ = some x' ∧ v.cell? ⟨R', 1, none⟩ = some y' ∧ v.cell? ⟨R', 2, none⟩ = some z' ∧ TapeAt v b ∧ Env ls v ∧ Below W.heap.size W v ∧ R < v.heap.size ∧ R' < v.heap.size :=
  keepS6 (StepT.of_below hb) (h.2.2.2.2.2.2.1.below hb) h8 hR hR' hW h

theorem IntsAt.low {u v : World} {p : Option Addr} {n : Nat} (h : IntsAt u p n) (hb : Below u.heap.size u v) : IntsAt v p n := fun i hi => by
  obtain ⟨c, o, z, hp, hc, hz, hz1⟩ := h i hi
  exact ⟨c, o, z, hp, Nat.lt_of_lt_of_le hc hb.size, by rw [hb.cell (by exact hc)]; exact hz, hz1⟩

/-- A value whose number is an int64 and whose text is a text of Go. -/
def Fair (v : Int × Int × ByteArray) : Prop := -9223372036854775808 ≤ v.2.1 ∧ v.2.1 ≤ 9223372036854775807 ∧ v.2.2.size ≤ 9223372036854775807

theorem fair_mk {k n : Int} {s : ByteArray} (h1 : -9223372036854775808 ≤ n) (h2 : n ≤ 9223372036854775807) (h3 : s.size ≤ 9223372036854775807) : Fair (k, n, s) := ⟨h1, h2, h3⟩

end Go.Proofs.YtdlehlbahkikgaaDoor
/-
  Compare, of the program and of the reference.
-/
namespace Go.Proofs.YtdlehlbahkikgaaDoor
set_option maxRecDepth 100000
open Go.RowKit

def orI (x y z : Int) : Int := if x = 0 then (if y = 0 then z else y) else x
/-- The order of values: by kind, then number, then text. -/
def cmpV (k n : Int) (s : ByteArray) (k' n' : Int) (s' : ByteArray) : Int :=
  orI (Lib.compareInt k k') (Lib.compareInt n n') (Lib.compareBytes s.data.toList s'.data.toList)

theorem ret_i {a b : Int} (h : a = b) : Ending.returned (.int .i64 a) = .returned (.int .i64 b) := by rw [h]

theorem two_boxes (w : World) (x y z x' y' z' : Value) (t : TypeId) :
    ∃ W, W = (w.alloc (.cells #[x, y, z] t)).alloc (.cells #[x', y', z'] t) ∧ Below w.heap.size w W ∧ W.heap.size = w.heap.size + 2 ∧ W.cell? ⟨w.heap.size, 0, none⟩ = some x ∧ W.cell? ⟨w.heap.size, 1, none⟩ = some y ∧ W.cell? ⟨w.heap.size, 2, none⟩ = some z
      ∧ W.cell? ⟨w.heap.size + 1, 0, none⟩ = some x' ∧ W.cell? ⟨w.heap.size + 1, 1, none⟩ = some y' ∧ W.cell? ⟨w.heap.size + 1, 2, none⟩ = some z' := by
  refine ⟨_, rfl, ((Below.refl _ _).alloc (Nat.le_refl _) _).alloc (by simp) _, by simp, ?_, ?_, ?_, ?_, ?_, ?_⟩
  all_goals go_simp

end Go.Proofs.YtdlehlbahkikgaaDoor
/-
  Equality of values.
-/
namespace Go.Proofs.YtdlehlbahkikgaaDoor
set_option maxRecDepth 100000
open Go.RowKit

/-- Are two values the same? -/
def sameV (k n : Int) (s : ByteArray) (k' n' : Int) (s' : ByteArray) : Bool := decide (k = k' ∧ n = n' ∧ s = s')
theorem sameV_iff {k n : Int} {s : ByteArray} {k' n' : Int} {s' : ByteArray} : sameV k n s k' n' s' = true ↔ k = k' ∧ n = n' ∧ s = s' := by unfold sameV; simp

theorem eql_val (k n : Int) (s : ByteArray) (k' n' : Int) (s' : ByteArray) (w : World) :
    (binOp .eql 26 (.agg #[.int .i64 k, .int .i64 n, .string s]) (.agg #[.int .i64 k', .int .i64 n', .string s'])).run Tryd.prog w = .ok (.bool (sameV k n s k' n' s')) w := by
  go_simp
  unfold sameV
  by_cases h1 : k = k'
  · by_cases h2 : n = n'
    · by_cases h3 : s = s'
      · simp [h1, h2, h3]
      · have h4 : ¬ s.toList = s'.toList := fun h => h3 (WideShapes.bytes_inj (by rw [ByteArray.toList_eq, ByteArray.toList_eq] at h; exact h))
        simp [h1, h2, h3, h4]
    · simp [h1, h2]
  · simp [h1]

end Go.Proofs.YtdlehlbahkikgaaDoor
