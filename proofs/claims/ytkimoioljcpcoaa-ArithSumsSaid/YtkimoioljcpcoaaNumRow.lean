/-
  LISTS OF NUMBERS THAT A CALL APPENDS TO, ONE BY ONE.
-/
import Derived.Test.YtkimoioljcpcoaaArithRsum
import Derived.Laws.AppendOwn
namespace Go.Proofs.Ytkimoioljcpcoaa
open Go.RowKit

theorem info_num : (Try.prog.info? 2).map (fun i => (i.zero, i.size, i.bytes)) = some (some (.int .i64 0), 1, 8) := by kernel_rfl

def nvals (g : Nat → Int) (n : Nat) : List Value := (List.range n).map fun i => .int .i64 (g i)
/-- A slice of the call's own that holds the first n numbers of g. -/
structure NumRow (w : World) (base : Nat) (v : Value) (n : Nat) (g : Nat → Int) : Prop where
  rng : ∀ i, i < n → -9223372036854775808 ≤ g i ∧ g i ≤ 9223372036854775807
  own : w.ownsRow base 2 1 v n (nvals g n)
theorem NumRow.nil (w : World) (base : Nat) (g : Nat → Int) : NumRow w base (.slice none 0 0) 0 g := ⟨fun i hi => by omega, World.ownsRow_nil _ _ _ _⟩
theorem NumRow.alloc {w : World} {base n : Nat} {v : Value} {g : Nat → Int} (h : NumRow w base v n g) (o : Obj) : NumRow (w.alloc o) base v n g := ⟨h.rng, h.own.alloc o⟩
theorem NumRow.block {w : World} {base n : Nat} {v : Value} {g : Nat → Int} (h : NumRow w base v n g) : ∀ k, v.ownBlock = some k → base ≤ k := fun k hk => (h.own.lt k hk).1
theorem NumRow.congr {w : World} {base n : Nat} {v : Value} {g g' : Nat → Int} (h : NumRow w base v n g) (he : ∀ i, i < n → g' i = g i) : NumRow w base v n g' := by
  refine ⟨fun i hi => by rw [he i hi]; exact h.rng i hi, ?_⟩
  have : nvals g' n = nvals g n := List.map_congr_left fun i hi => by rw [he i (List.mem_range.1 hi)]
  rw [this]; exact h.own
theorem NumRow.nums {w : World} {base n : Nat} {v : Value} {g : Nat → Int} (h : NumRow w base v n g) : ∃ p cap, v = .slice p n cap ∧ NumsAt w p g n := by
  obtain ⟨hr, ho⟩ := h
  rcases ho.2 with ⟨rfl, rfl⟩ | ⟨b, cap, cur, rfl, hb, hg, hc, hm, hs, ht⟩
  · exact ⟨none, 0, rfl, fun i hi => by omega⟩
  · refine ⟨_, cap, rfl, fun i hi => ⟨b, 0, rfl, ?_, hr i hi⟩⟩
    have := ho.cells (g := b) rfl i (.int .i64 (g i)) (by simp [nvals, hi])
    rw [show (⟨b, 0, none⟩ : Addr).add i = ⟨b, 0 + i, none⟩ by unfold Addr.add; split <;> simp_all] at this
    exact this

/-- append(v, z), v the call's own. -/
theorem wpList_append_num {w : World} {ops : Array Oper} {rest : List Oper} {o : Oper} {a : Act} {Q : Exit → Act → World → Prop} (hgd : o.guard = none) (s x : Operand)
    (ho : o.op = .call { callee := .builtin .append, args := #[s, x], argTypes := #[27, 27] })
    (base : Nat) (v : Value) (n : Nat) (g : Nat → Int) (hs : a.eval s = v) (hown : NumRow w base v n g) (b : Nat) (hx : a.eval x = .slice (some ⟨b, 0, none⟩) 1 1) (hc : w.cell? ⟨b, 0, none⟩ = some (.int .i64 (g n)))
    (hr : -9223372036854775808 ≤ g n ∧ g n ≤ 9223372036854775807) (hsum : (n + 1) * 8 ≤ 140737488355328) (hbase : base ≤ w.heap.size)
    (h : ∀ v' w', NumRow w' base v' (n + 1) g → w.grownBy w' v.ownBlock → wpList Try.prog ops Q rest (a.put o.dst v') w') : wpList Try.prog ops Q (o :: rest) a w := by
  obtain ⟨i0, hi, hz0, hz1, hz2⟩ := info_parts info_num
  refine wpList_append_own w hgd s x 27 ho base 2 i0 _ 1 8 Try.underlying27 hi hz0 hz1 hz2 rfl (by decide) v n (nvals g n) hs hown.own ⟨b, 0, none⟩ 1 1 [.int .i64 (g n)] hx rfl ?_ ?_ (by unfold maxLen; omega) hsum hbase ?_
  · intro j u hj
    have : j = 0 := by
      have := (List.getElem?_eq_some_iff.1 hj).1
      simp at this; omega
    subst this
    obtain rfl := Option.some.inj hj
    exact hc
  · intro u hu
    obtain rfl := List.mem_singleton.1 hu
    rfl
  · intro v' w' h1 h2 _
    refine h v' w' ⟨fun i hi => ?_, ?_⟩ h2
    · by_cases hin : i < n
      · exact hown.rng i hin
      · obtain rfl : i = n := by omega
        exact hr
    · have : nvals g (n + 1) = nvals g n ++ [.int .i64 (g n)] := by unfold nvals; rw [List.range_succ, List.map_append]; rfl
      rw [this]; exact h1
theorem num_below {B : Nat} {w u v : World} {row : Option Nat} (hB : Below B w u) (hz : B ≤ u.heap.size) (hg : u.grownBy v row) (hr : ∀ k, row = some k → B ≤ k) : Below B w v := hB.grown hg hz hr
end Go.Proofs.Ytkimoioljcpcoaa
