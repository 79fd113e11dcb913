/-
  Several texts in one.
-/
import Derived.Test.YtlpaphgmdcpmaaaGreatDoorPk08
import Derived.Test.YtlpaphgmdcpmaaaGreatDoorPk07
import Derived.Test.YtlpaphgmdcpmaaaGreatDoorPk04
import Derived.Test.YtlpaphgmdcpmaaaGreatDoorPk03
import Derived.Test.YtlpaphgmdcpmaaaGreatDoorPk05
/-
  The sanity check of the statements about tuples holds, if the program's functions do what the contracts say.
-/
namespace Go.Proofs.YtlpaphgmdcpmaaaGreatDoor
set_option maxRecDepth 100000
open Go.RowKit
variable {ls : List Nat}

end Go.Proofs.YtlpaphgmdcpmaaaGreatDoor
/-
  Facts about differences of bags; append of rows to a row of the call's own.
-/
namespace Go.Proofs.YtlpaphgmdcpmaaaGreatDoor
set_option maxRecDepth 100000
open Go.RowKit
variable {ls : List Nat}

theorem minR_nil_iff (A B : List (List Val)) : minR A B = [] ↔ ∀ r, A.count r ≤ B.count r := by
  constructor
  · intro h r
    have := minR_count A B r
    rw [h] at this
    simp at this
    omega
  · intro h
    rw [List.eq_nil_iff_forall_not_mem]
    intro r hr
    have h1 := List.count_pos_iff.2 hr
    have h2 := minR_count A B r
    have h3 := h r
    omega
theorem same_iff_minR (A B : List (List Val)) : srt A = srt B ↔ ((minR A B).length = 0 ∧ (minR B A).length = 0) := by
  rw [srt_eq_iff, List.perm_iff_count, List.length_eq_zero_iff, List.length_eq_zero_iff, minR_nil_iff, minR_nil_iff]
  exact ⟨fun h => ⟨fun r => Nat.le_of_eq (h r), fun r => Nat.le_of_eq (h r).symm⟩, fun h r => Nat.le_antisymm (h.1 r) (h.2 r)⟩
theorem minR_len (A B : List (List Val)) : A.length + (minR B A).length = B.length + (minR A B).length := by
  have h : (A ++ minR B A).Perm (B ++ minR A B) := List.perm_iff_count.2 fun r => by
    rw [List.count_append, List.count_append, minR_count, minR_count]
    omega
  simpa using h.length_eq
theorem minR_le (A B : List (List Val)) : (minR A B).length ≤ A.length := by
  have := (mrg_sub (srt A) (srt B)).length_le
  rw [srt_length] at this
  exact this
theorem Grid.rows2 {u : World} {base : Nat} {vo : Value} {G : List (Value × List Val)} (h : Grid u base vo G) : Rows2 u base vo G :=
  ⟨h.1, fun x hx => ⟨(h.2 x hx).1, by have := (h.2 x hx).2; omega⟩⟩
/-- Heads of rows. -/
def HeadsAt (u : World) (xs : List Value) (L : List (List Val)) : Prop :=
  xs.length = L.length ∧ ∀ i, i < L.length → ∃ (q : Option Addr) (cp : Nat), xs[i]? = some (.slice q (rAt L i).length cp) ∧ RowAt u q (rAt L i) ∧ (rAt L i).length * 32 ≤ 140737488355328 ∧ (q = none → rAt L i = [] ∧ cp = 0)
theorem HeadsAt.low {u v : World} {xs : List Value} {L : List (List Val)} (h : HeadsAt u xs L) (hb : Below u.heap.size u v) : HeadsAt v xs L :=
  ⟨h.1, fun i hi => by obtain ⟨q, cp, h0, h1, h2, h3⟩ := h.2 i hi; exact ⟨q, cp, h0, h1.low hb, h2, h3⟩⟩
theorem HeadsAt.one {u : World} {xs : List Value} {L : List (List Val)} (h : HeadsAt u xs L) : ∀ v ∈ xs, v.oneCell' = true := by
  intro v hv
  obtain ⟨i, hi, rfl⟩ := List.getElem_of_mem hv
  obtain ⟨q, cp, h0, -⟩ := h.2 i (h.1 ▸ hi)
  rw [List.getElem?_eq_getElem hi] at h0
  rw [Option.some.inj h0]
  rfl
theorem HeadsAt.nil (u : World) : HeadsAt u [] [] := ⟨rfl, fun i hi => by simp at hi⟩
theorem rAt_left {A B : List (List Val)} {i : Nat} (h : i < A.length) : rAt (A ++ B) i = rAt A i := by unfold rAt; rw [List.getD, List.getElem?_append_left h]; rfl
theorem rAt_right {A B : List (List Val)} {i : Nat} (h : A.length ≤ i) : rAt (A ++ B) i = rAt B (i - A.length) := by unfold rAt; rw [List.getD, List.getElem?_append_right h]; rfl
theorem HeadsAt.append {u : World} {xs ys : List Value} {A B : List (List Val)} (h : HeadsAt u xs A) (k : HeadsAt u ys B) : HeadsAt u (xs ++ ys) (A ++ B) := by
  refine ⟨by rw [List.length_append, List.length_append, h.1, k.1], fun i hi => ?_⟩
  rw [List.length_append] at hi
  by_cases hl : i < A.length
  · rw [rAt_left hl, List.getElem?_append_left (by rw [h.1]; exact hl)]
    exact h.2 i hl
  · rw [rAt_right (by omega), List.getElem?_append_right (by rw [h.1]; omega), h.1]
    exact k.2 (i - A.length) (by omega)
theorem Rows2.heads {u : World} {base : Nat} {vo : Value} {G : List (Value × List Val)} (h : Rows2 u base vo G) : HeadsAt u (G.map (·.1)) (G.map (·.2)) := by
  refine ⟨by rw [List.length_map, List.length_map], fun i hi => ?_⟩
  rw [List.length_map] at hi
  have hmem : gAt G i ∈ G := gAt_mem hi
  obtain ⟨hown, hlen⟩ := h.2 _ hmem
  obtain ⟨hv, hr, hn⟩ := owned_shape hown
  rw [gAt_row hi] at hv hr hn hlen
  refine ⟨_, _, ?_, hr, hlen, hn⟩
  rw [← hv, List.getElem?_map, List.getElem?_eq_getElem hi]
  simp [gAt, hi]
/-- The cells of a row of the call's own. -/
theorem own_src {u : World} {base n : Nat} {e : TypeId} {v : Value} {xs : List Value} (h : u.ownsRow base e 1 v n xs) :
    v = .slice (rowP v) n (rowC v) ∧ (∀ ad, rowP v = some ad → ∀ j x, xs[j]? = some x → u.cell? (ad.add j) = some x) ∧ (rowP v = none → n = 0 ∧ xs = [] ∧ rowC v = 0) := by
  have hl := h.1
  rcases h.2 with ⟨rfl, h0⟩ | ⟨g, cap', cur, rfl, hg, hh, hcap, hm, hcur, htake⟩
  · refine ⟨by rw [h0]; rfl, (fun ad h => by cases h), fun _ => ⟨h0, List.eq_nil_of_length_eq_zero (by omega), rfl⟩⟩
  · refine ⟨rfl, fun ad had j x hj => ?_, fun h => by cases h⟩
    obtain rfl := Option.some.inj had
    have hj' : cur.toList[j]? = some x := by
      rw [← htake, List.getElem?_take] at hj
      split at hj
      · exact hj
      · cases hj
    rw [show (⟨g, 0, none⟩ : Addr).add j = ⟨g, j, none⟩ from by simp [Addr.add]; omega]
    simp [World.cell?, hh]
    simpa using hj'
theorem rows_of_heads {u : World} {base n : Nat} {v : Value} {xs : List Value} {L : List (List Val)} (h : u.ownsRow base 70 1 v n xs) (hH : HeadsAt u xs L) : RowsAt u (rowP v) L := by
  intro i hi
  obtain ⟨q, cp, h0, h1, h2, h3⟩ := hH.2 i hi
  obtain ⟨-, hs, hn⟩ := own_src h
  rcases h.2 with ⟨rfl, hz⟩ | ⟨g, cap', cur, rfl, hg, hh, hcap, hm, hcur, htake⟩
  · have := hn rfl; rw [this.2.1] at h0; simp at h0
  · exact ⟨g, 0, q, cp, rfl, (Array.getElem?_eq_some_iff.1 hh).1, by have := hs _ rfl i _ h0; rw [show (⟨g, 0, none⟩ : Addr).add i = ⟨g, 0 + i, none⟩ from by simp [Addr.add]; omega] at this; exact this, h1, h2, h3⟩
theorem owns_none (w : World) : (w.alloc (.cells #[] 70)).ownsRow w.heap.size 70 1 (.slice (some ⟨w.heap.size, 0, none⟩) 0 0) 0 [] := by
  refine ⟨rfl, Or.inr ⟨w.heap.size, 0, #[], rfl, Nat.le_refl _, ?_, Nat.le_refl _, by decide, rfl, rfl⟩⟩
  show (w.heap.push _)[w.heap.size]? = _
  simp
/-- A list of rows in a row of the call's own. -/
structure BagAt (u : World) (base : Nat) (v : Value) (xs : List Value) (L : List (List Val)) : Prop where
  own : u.ownsRow base 70 1 v L.length xs
  heads : HeadsAt u xs L
theorem BagAt.low {u v : World} {base : Nat} {x : Value} {xs : List Value} {L : List (List Val)} (h : BagAt u base x xs L) (hb : Below u.heap.size u v) : BagAt v base x xs L := ⟨owns_below h.own hb, h.heads.low hb⟩
theorem BagAt.rows {u : World} {base : Nat} {x : Value} {xs : List Value} {L : List (List Val)} (h : BagAt u base x xs L) : RowsAt u (rowP x) L := rows_of_heads h.own h.heads
theorem BagAt.shape {u : World} {base : Nat} {x : Value} {xs : List Value} {L : List (List Val)} (h : BagAt u base x xs L) : ∃ p c, x = .slice p L.length c := ⟨_, _, (own_src h.own).1⟩
theorem Grid.bag {u : World} {base : Nat} {vo : Value} {G : List (Value × List Val)} (h : Grid u base vo G) : BagAt u base vo (G.map (·.1)) (G.map (·.2)) := ⟨by rw [List.length_map]; exact h.1, h.rows2.heads⟩
end Go.Proofs.YtlpaphgmdcpmaaaGreatDoor
/-
  Fits, of the program and of the reference.
-/
namespace Go.Proofs.YtlpaphgmdcpmaaaGreatDoor
set_option maxRecDepth 100000
open Go.RowKit
variable {ls : List Nat}

theorem four_three {w w' : World} {a b c d x y z : Value} {t t' : TypeId} (hb : Below ((w.alloc (.cells #[a, b, c, d] t)).alloc (.cells #[x, y, z] t')).heap.size ((w.alloc (.cells #[a, b, c, d] t)).alloc (.cells #[x, y, z] t')) w') :
    Cell4 w' w.heap.size a b c d ∧ Cell3 w' (w.heap.size + 1) x y z ∧ Below w.heap.size w w' :=
  ⟨((cell4_new _ _ _ _ _ _).low (below_alloc _ _)).low hb, ((cell3_new _ _ _ _ _).low hb).at (size_alloc _ _), Below.of_alloc (Below.of_alloc hb)⟩
theorem fitsE_bad {ty k n : Int} {nn : Bool} {s : ByteArray} (h : validB k n s = false) : fitsE ty nn k n s = 17 := by unfold fitsE; rw [h]; rfl
theorem fitsE_free {ty n : Int} {s : ByteArray} (h : validB 0 n s = true) : fitsE ty false 0 n s = 0 := by unfold fitsE; rw [h]; rfl
theorem fitsE_null {ty n : Int} {s : ByteArray} (h : validB 0 n s = true) : fitsE ty true 0 n s = 8 := by unfold fitsE; rw [h]; rfl
theorem fitsE_type {ty k n : Int} {nn : Bool} {s : ByteArray} (h : validB k n s = true) (h0 : ¬ k = 0) (ht : (k == ty) = false) : fitsE ty nn k n s = 5 := by
  unfold fitsE; rw [h, if_pos rfl, if_neg h0, if_neg (beq_eq_false_iff_ne.1 ht)]
theorem fitsE_ok {k n : Int} {nn : Bool} {s : ByteArray} (h : validB k n s = true) (h0 : ¬ k = 0) : fitsE k nn k n s = 0 := by
  unfold fitsE; rw [h, if_pos rfl, if_neg h0, if_pos rfl]
theorem val_eq {k n : Int} {s : ByteArray} {b : Bool} (hs : s.size ≤ 9223372036854775807) (h : validB k n s = b) (w : World) : Calls Tryz.prog 36 #[.agg #[.int .i64 k, .int .i64 n, .string s]] w fun e w' => e = .returned (.bool b) ∧ Below w.heap.size w w' := by
  subst h; exact valid_any k n s w hs
theorem rval_eq {k n : Int} {s : ByteArray} {b : Bool} (hs : s.size ≤ 9223372036854775807) (h : validB k n s = b) (w : World) : Calls Tryz.prog 55 #[.agg #[.int .i64 k, .int .i64 n, .string s]] w fun e w' => e = .returned (.bool b) ∧ Below w.heap.size w w' := by
  subst h; exact rvalid_any k n s w hs
end Go.Proofs.YtlpaphgmdcpmaaaGreatDoor
/-
  Boxes of columns; columns behind a call that turns one block.
-/
namespace Go.Proofs.YtlpaphgmdcpmaaaGreatDoor
set_option maxRecDepth 100000
open Go.RowKit
variable {ls : List Nat}

/-- A box with a column. -/
def ColBox (u : World) (X : Nat) (c : Col) : Prop :=
  X < u.heap.size ∧ u.cell? ⟨X, 0, none⟩ = some (.string c.nm) ∧ u.cell? ⟨X, 1, none⟩ = some (.int .i64 c.ty) ∧ u.cell? ⟨X, 2, none⟩ = some (.bool c.nn) ∧ u.cell? ⟨X, 3, none⟩ = some (.bool c.key)
theorem ColBox.low {u v : World} {X : Nat} {c : Col} (h : ColBox u X c) (hb : Below u.heap.size u v) : ColBox v X c :=
  ⟨Nat.lt_of_lt_of_le h.1 hb.size, by rw [hb.cell (by exact h.1)]; exact h.2.1, by rw [hb.cell (by exact h.1)]; exact h.2.2.1, by rw [hb.cell (by exact h.1)]; exact h.2.2.2.1, by rw [hb.cell (by exact h.1)]; exact h.2.2.2.2⟩
theorem ColBox.new (u : World) (c : Col) (t : TypeId) : ColBox (u.alloc (.cells #[.string c.nm, .int .i64 c.ty, .bool c.nn, .bool c.key] t)) u.heap.size c := by
  refine ⟨by simp, ?_, ?_, ?_, ?_⟩
  all_goals go_simp
theorem ColBox.step {u v : World} {X b : Nat} {c : Col} (h : ColBox u X c) (hs : StepT b u v) (hn : X ≠ b) : ColBox v X c :=
  ⟨Nat.lt_of_lt_of_le h.1 hs.size, by rw [hs.cell (by exact h.1) (by exact hn)]; exact h.2.1, by rw [hs.cell (by exact h.1) (by exact hn)]; exact h.2.2.1, by rw [hs.cell (by exact h.1) (by exact hn)]; exact h.2.2.2.1, by rw [hs.cell (by exact h.1) (by exact hn)]; exact h.2.2.2.2⟩
theorem BoxAt.step {u v : World} {X b : Nat} {x : Int × Int × ByteArray} (h : BoxAt u X x) (hs : StepT b u v) (hn : X ≠ b) : BoxAt v X x :=
  ⟨Nat.lt_of_lt_of_le h.1 hs.size, by rw [hs.cell (by exact h.1) (by exact hn)]; exact h.2.1, by rw [hs.cell (by exact h.1) (by exact hn)]; exact h.2.2.1, by rw [hs.cell (by exact h.1) (by exact hn)]; exact h.2.2.2⟩
theorem ColsAt.step {u v : World} {b n : Nat} {p : Option Addr} {f : Nat → Col} (h : ColsAt u p n f) (hs : StepT b u v) (hn : ∀ q, p = some q → q.block ≠ b) : ColsAt v p n f := by
  intro i hi
  obtain ⟨c, o, hp, hc, hsz, h0, h1, h2, h3⟩ := h i hi
  have hne := hn _ hp
  have hk := hs.block c hc hne
  exact ⟨c, o, hp, Nat.lt_of_lt_of_le hc hs.size, hsz, by rw [World.cell?_of_block (w := u) hk]; exact h0, by rw [World.cell?_of_block (w := u) hk]; exact h1, by rw [World.cell?_of_block (w := u) hk]; exact h2, by rw [World.cell?_of_block (w := u) hk]; exact h3⟩

theorem ColsAt.at0 {u : World} {L n i : Nat} {f : Nat → Col} (h : ColsAt u (some ⟨L, 0, none⟩) n f) (hi : i < n) : L < u.heap.size ∧ (f i).nm.size ≤ 9223372036854775807
    ∧ u.cell? ⟨L, i * 4, none⟩ = some (.string (f i).nm) ∧ u.cell? ⟨L, i * 4 + 1, none⟩ = some (.int .i64 (f i).ty) ∧ u.cell? ⟨L, i * 4 + 2, none⟩ = some (.bool (f i).nn) ∧ u.cell? ⟨L, i * 4 + 3, none⟩ = some (.bool (f i).key) := by
  obtain ⟨c, o, hp, hc, hs, h0, h1, h2, h3⟩ := h i hi
  cases hp
  rw [Nat.zero_add] at h0 h1 h2 h3
  exact ⟨hc, hs, h0, h1, h2, h3⟩
end Go.Proofs.YtlpaphgmdcpmaaaGreatDoor
