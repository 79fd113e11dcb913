/-
  Arguments opened: a column, a schema.
-/
import Derived.Test.YtlgagibmndbimaaDoorOpen
import Derived.Test.YtlgagibmndbimaaDoorCols
import Derived.Deep.Fields
namespace Go.Proofs.YtlgagibmndbimaaDoor
open Go.ChangeShapes Go.WideShapes Go.ChangeAt Go.RowKit

theorem list_four {l : List Value} (h : l.length = 4) : ∃ a b c d, l = [a, b, c, d] := by
  match l, h with
  | [a, b, c, d], _ => exact ⟨a, b, c, d, rfl⟩
theorem exists_fun {A : Type} [Inhabited A] {P : Nat → A → Prop} {n : Nat} (h : ∀ i, i < n → ∃ x, P i x) : ∃ f : Nat → A, ∀ i, i < n → P i (f i) :=
  ⟨fun i => if hi : i < n then (h i hi).choose else default, fun i hi => by simp only [dif_pos hi]; exact (h i hi).choose_spec⟩
section
variable {H : Type} {enc : TypeId × Value → H} {W : World} {v : Value} {d : DataW H} {p : List MemPlace}
/-- An argument that is a column. -/
theorem open_col (hv : ∃ b, Value.okWide Tryd.prog W .any b 55 v) (h : DataW.Trod enc Tryd.prog W 0 (fun _ => true) true 55 v d p) :
    ∃ c : Col, v = colV c ∧ c.nm.size ≤ 9223372036854775807 := by
  obtain ⟨b, hv⟩ := hv
  obtain ⟨c0, c1, c2, c3, y0, y1, y2, y3, m, rfl, rfl, rfl, hy0, hy1, hy2, hy3⟩ := Joins.open_agg4 Tryd.underlying55 (by kernel_rfl) (by kernel_rfl) hv h
  obtain ⟨s, e0, rfl, ws⟩ := DataW.trod_string Tryd.underlying9 hy0
  obtain ⟨k, e1, rfl, wk⟩ := DataW.trod_int Tryd.underlying3 hy1
  obtain ⟨n, e2, rfl⟩ := DataW.trod_bool Tryd.underlying4 hy2
  obtain ⟨q, e3, rfl⟩ := DataW.trod_bool Tryd.underlying4 hy3
  simp only [List.cons.injEq, and_true] at e0 e1 e2 e3
  subst e0 e1 e2 e3
  exact ⟨⟨s, k, n, q⟩, rfl, ws⟩
set_option maxRecDepth 100000 in
theorem open_cols {t : Nat} {v : Value} {y : DataW H × List MemPlace} (h : DataW.trod enc Tryd.prog W 0 (fun _ => true) true t 22 [v] = some y) :
    ∃ (a : Option Addr) (n cap : Nat) (f : Nat → Col), v = .slice a n cap ∧ n ≤ cap ∧ n ≤ 9223372036854775807 ∧ ColsAt W a n f := by
  have c4 : Tryd.prog.cellsOf 55 = 4 := by kernel_rfl
  rcases Deep.open_slice Tryd.underlying22 h with ⟨hcs, hx⟩ | ⟨a, len, cap, m, n, D, Pl, hcs, hb, hl, hm, hmm, hx, hi⟩
  · simp only [List.cons.injEq, and_true] at hcs
    subst hcs
    exact ⟨none, 0, 0, fun _ => default, rfl, Nat.le_refl _, by decide, fun i hi => by omega⟩
  · simp only [List.cons.injEq, and_true] at hcs
    subst hcs
    rw [if_pos rfl] at hmm
    have hone : ∀ i, i < len → ∃ x : Col, x.nm.size ≤ 9223372036854775807 ∧ W.cell? ((a.add (i * 4)).add 0) = some (.string x.nm) ∧ W.cell? ((a.add (i * 4)).add 1) = some (.int .i64 x.ty) ∧ W.cell? ((a.add (i * 4)).add 2) = some (.bool x.nn) ∧ W.cell? ((a.add (i * 4)).add 3) = some (.bool x.key) := by
      intro i hi'
      obtain ⟨cs', hc, ht'⟩ := hi i (by omega)
      rw [c4] at hc
      obtain ⟨_, hcl, hat⟩ := World.cells?_some hc
      obtain ⟨xs, m', _, _, _, hxl, hf⟩ := DataW.trod_struct Tryd.underlying55 ht'
      have ci : Tryd.prog.cellsOf 3 = 1 := by kernel_rfl
      have cj : Tryd.prog.cellsOf 4 = 1 := by kernel_rfl
      have ck : Tryd.prog.cellsOf 9 = 1 := by kernel_rfl
      obtain ⟨u0, u1, u2, u3, rfl⟩ := list_four hcl
      have h0 : DataW.trod enc Tryd.prog W 0 (fun _ => true) true m' 9 (([u0, u1, u2, u3].drop 0).take (Tryd.prog.cellsOf 9)) = xs[0]? := hf 0 _ rfl
      have h1 : DataW.trod enc Tryd.prog W 0 (fun _ => true) true m' 3 (([u0, u1, u2, u3].drop 1).take (Tryd.prog.cellsOf 3)) = xs[1]? := hf 1 _ rfl
      have h2 : DataW.trod enc Tryd.prog W 0 (fun _ => true) true m' 4 (([u0, u1, u2, u3].drop 2).take (Tryd.prog.cellsOf 4)) = xs[2]? := hf 2 _ rfl
      have h3 : DataW.trod enc Tryd.prog W 0 (fun _ => true) true m' 4 (([u0, u1, u2, u3].drop 3).take (Tryd.prog.cellsOf 4)) = xs[3]? := hf 3 _ rfl
      rw [ck] at h0
      rw [ci] at h1
      rw [cj] at h2 h3
      simp only [List.drop_zero, List.drop_succ_cons, List.take_succ_cons, List.take_zero] at h0 h1 h2 h3
      have hl4 : xs.length = 4 := hxl
      rw [List.getElem?_eq_getElem (by omega)] at h0 h1 h2 h3
      obtain ⟨s, e0, -, ws⟩ := DataW.trod_string Tryd.underlying9 h0
      obtain ⟨k, e1, -, -⟩ := DataW.trod_int Tryd.underlying3 h1
      obtain ⟨q, e2, -⟩ := DataW.trod_bool Tryd.underlying4 h2
      obtain ⟨r, e3, -⟩ := DataW.trod_bool Tryd.underlying4 h3
      simp only [List.cons.injEq, and_true] at e0 e1 e2 e3
      subst e0 e1 e2 e3
      exact ⟨⟨s, k, q, r⟩, ws, by rw [hat 0 (by omega)]; rfl, by rw [hat 1 (by omega)]; rfl, by rw [hat 2 (by omega)]; rfl, by rw [hat 3 (by omega)]; rfl⟩
    obtain ⟨f, hf⟩ := exists_fun hone
    obtain ⟨c, o, sp⟩ := a
    refine ⟨some ⟨c, o, sp⟩, len, cap, f, rfl, hl, by unfold maxLen at hm; omega, fun i hi' => ?_⟩
    have hsp : sp = none := by
      obtain ⟨-, h0, -⟩ := hf 0 (by omega)
      simpa [Addr.add] using World.cell?_spot h0
    subst hsp
    have ha : ∀ x y, ((⟨c, o, none⟩ : Addr).add x).add y = ⟨c, o + x + y, none⟩ := by
      intro x y
      unfold Addr.add
      split <;> split <;> simp_all
    obtain ⟨hs, h0, h1, h2, h3⟩ := hf i hi'
    rw [ha] at h0 h1 h2 h3
    exact ⟨c, o, rfl, World.block_lt_of_cell? W _ h0, hs, h0, h1, h2, h3⟩
/-- An argument that is a schema. -/
theorem open_schema (hv : ∃ b, Value.okWide Tryd.prog W .any b 24 v) (h : DataW.Trod enc Tryd.prog W 0 (fun _ => true) true 24 v d p) :
    ∃ (nm : ByteArray) (a : Option Addr) (n cap : Nat) (f : Nat → Col), v = schV nm a n cap ∧ nm.size ≤ 9223372036854775807 ∧ n ≤ cap ∧ n ≤ 9223372036854775807 ∧ ColsAt W a n f := by
  obtain ⟨b, hv⟩ := hv
  obtain ⟨c0, c1, y0, y1, m, rfl, rfl, rfl, hy0, hy1⟩ := Joins.open_agg2 Tryd.underlying24 (by kernel_rfl) (by kernel_rfl) hv h
  obtain ⟨s, e0, rfl, ws⟩ := DataW.trod_string Tryd.underlying9 hy0
  simp only [List.cons.injEq, and_true] at e0
  subst e0
  obtain ⟨a, n, cap, f, rfl, h1, h2, h3⟩ := open_cols hy1
  exact ⟨s, a, n, cap, f, rfl, ws, h1, h2, h3⟩
end
end Go.Proofs.YtlgagibmndbimaaDoor
