/-
  Several texts in one.
-/
import Derived.Test.YtlpaphgmdcpmaaaGreatDoorPk07
import Derived.Deep.RegionLaw
import Derived.Deep.AppendLies
import Derived.Lib.SmallJoins
import Derived.Deep.RegionHeld3
import Derived.Deep.QuietTactic
import Derived.BigQuiet
/-
  Sort of the reference.
-/
namespace Go.Proofs.YtlpaphgmdcpmaaaGreatDoor
set_option maxRecDepth 100000
open Go.RowKit
variable {ls : List Nat}

theorem InRow.base {u : World} {b b' : Nat} {x : Value × List Val} (h : InRow u b x) (hb : b' ≤ b) : InRow u b' x := ⟨owns_base h.1 hb, h.2⟩
end Go.Proofs.YtlpaphgmdcpmaaaGreatDoor
/-
  SameBag and Minus of the reference.
-/
namespace Go.Proofs.YtlpaphgmdcpmaaaGreatDoor
set_option maxRecDepth 100000
open Go.RowKit
variable {ls : List Nat}

theorem ext_rows {A B : List (List Val)} (hl : A.length = B.length) (h : ∀ i, i < A.length → rAt A i = rAt B i) : A = B := by
  apply List.ext_getElem hl
  intro i h1 h2
  have := h i h1
  rw [rAt_get h1, rAt_get h2] at this
  exact this
end Go.Proofs.YtlpaphgmdcpmaaaGreatDoor
/-
  Minus of the reference.
-/
namespace Go.Proofs.YtlpaphgmdcpmaaaGreatDoor
set_option maxRecDepth 100000
open Go.RowKit
variable {ls : List Nat}

theorem mrg_skip {t u : List Val} {x y : List (List Val)} (h : cmpRow u t < 0) : mrg (t :: x) (u :: y) = mrg (t :: x) y := by
  rw [mrg, mrg, List.dropWhile_cons, if_pos (by simpa using h)]
theorem mrg_hit {t u : List Val} {x y : List (List Val)} (h : cmpRow u t = 0) : mrg (t :: x) (u :: y) = mrg x y := by
  rw [mrg, List.dropWhile_cons, if_neg (by simp; omega)]
  simp only [if_pos h]
theorem mrg_keep {t u : List Val} {x y : List (List Val)} (h : ¬ cmpRow u t < 0) (h0 : ¬ cmpRow u t = 0) : mrg (t :: x) (u :: y) = t :: mrg x (u :: y) := by
  rw [mrg, List.dropWhile_cons, if_neg (by simpa using h)]
  simp only [if_neg h0]
theorem mrg_end {t : List Val} {x : List (List Val)} : mrg (t :: x) [] = t :: mrg x [] := by rw [mrg]; rfl

/-- The rows that are kept, and the two sorted lists. -/
structure MinAt (w w2 v : World) (vo : Value) (G : List (Value × List Val)) (px : Option Addr) (cx : Nat) (Gx : List (Value × List Val)) (py : Option Addr) (cy : Nat) (Gy : List (Value × List Val)) : Prop where
  own : v.ownsRow w2.heap.size 70 1 vo G.length (G.map (·.1))
  inn : ∀ z ∈ G, InRow v w.heap.size z
  x : Rows2 v w.heap.size (.slice px Gx.length cx) Gx
  y : Rows2 v w.heap.size (.slice py Gy.length cy) Gy
  xb : ∀ k, (Value.slice px Gx.length cx).ownBlock = some k → k < w2.heap.size
  yb : ∀ k, (Value.slice py Gy.length cy).ownBlock = some k → k < w2.heap.size
  low : Below w.heap.size w v
  sz : w2.heap.size ≤ v.heap.size
  ww : w.heap.size ≤ w2.heap.size
theorem MinAt.keep {w w2 u v : World} {vo : Value} {G : List (Value × List Val)} {px : Option Addr} {cx : Nat} {Gx : List (Value × List Val)} {py : Option Addr} {cy : Nat} {Gy : List (Value × List Val)} (h : MinAt w w2 u vo G px cx Gx py cy Gy) (hb : Below u.heap.size u v) : MinAt w w2 v vo G px cx Gx py cy Gy :=
  ⟨owns_below h.own hb, fun z hz => (h.inn z hz).low hb, h.x.low hb, h.y.low hb, h.xb, h.yb, below_next h.low hb, Nat.le_trans h.sz hb.size, h.ww⟩
theorem Rows2.beside {u v : World} {base B n : Nat} {vo vx : Value} {xs : List Value} {G : List (Value × List Val)} (h : Rows2 u base vx G) (ho : u.ownsRow B 70 1 vo n xs) (hg : u.grownBy v vo.ownBlock) (hx : ∀ k, vx.ownBlock = some k → k < B) : Rows2 v base vx G :=
  ⟨owns_keep h.1 fun k hk => hg.block k (owns_lt h.1 k hk) (fun e => by have := (ho.lt k e.symm).1; have := hx k hk; omega), fun z hz => (h.2 z hz).apart ho fun k hk hne => hg.block k hk (fun e => hne e.symm)⟩
theorem MinAt.add {w w2 v w8 : World} {vo v8 : Value} {G : List (Value × List Val)} {px : Option Addr} {cx : Nat} {Gx : List (Value × List Val)} {py : Option Addr} {cy : Nat} {Gy : List (Value × List Val)} {o : Obj} {z : Value × List Val} (h : MinAt w w2 v vo G px cx Gx py cy Gy) (hz : z ∈ Gx)
    (ho : w8.ownsRow w2.heap.size 70 1 v8 (G.length + 1) (G.map (·.1) ++ [z.1])) (hg : (v.alloc o).grownBy w8 vo.ownBlock) : MinAt w w2 w8 v8 (G ++ [z]) px cx Gx py cy Gy := by
  have h7 := h.keep (below_alloc v o)
  have hin : ∀ b q, InRow (v.alloc o) b q → InRow w8 b q := fun b q hq => hq.apart h7.own fun k hk hne => hg.block k hk (fun e => hne e.symm)
  refine ⟨by simpa using ho, fun q hq => ?_, h7.x.beside h7.own hg h.xb, h7.y.beside h7.own hg h.yb, h.xb, h.yb, ?_, Nat.le_trans h7.sz hg.size, h.ww⟩
  · rcases List.mem_append.1 hq with hq | hq
    · exact hin _ _ (h7.inn q hq)
    · obtain rfl := List.mem_singleton.1 hq
      exact hin _ _ (h7.x.2 q hz)
  · refine h7.low.grown hg h7.low.size (fun k hk => ?_)
    have := (h7.own.lt k hk).1
    have := h.ww
    omega
theorem one_news (v : World) (x : Value) : ∀ j u, ([x] : List Value)[j]? = some u → (v.alloc (.cells #[x] 70)).cell? ((⟨v.heap.size, 0, none⟩ : Addr).add j) = some u := by
  intro j u hj
  have : j = 0 := by have := (List.getElem?_eq_some_iff.1 hj).1; simp at this; omega
  subst this
  obtain rfl := Option.some.inj hj
  show (v.alloc _).cell? ⟨v.heap.size, 0, none⟩ = _
  go_simp
theorem gAt_mem {G : List (Value × List Val)} {i : Nat} (hi : i < G.length) : gAt G i ∈ G := by unfold gAt; rw [List.getD, List.getElem?_eq_getElem hi]; exact List.getElem_mem hi
theorem own_size {u : World} {base n size : Nat} {e : TypeId} {v : Value} {xs : List Value} (h : u.ownsRow base e size v n xs) : ∀ k, v.ownBlock = some k → k < u.heap.size := fun k hk => (h.lt k hk).2

end Go.Proofs.YtlpaphgmdcpmaaaGreatDoor
/-
  SameTuples of the world.
-/
namespace Go.Proofs.YtlpaphgmdcpmaaaGreatDoor
set_option maxRecDepth 100000
open Go.RowKit
variable {ls : List Nat}

theorem below_drewN {B : Nat} {a w : World} (h : Below B a w) (n : Nat) : Below B a (w.drewN n) := ⟨h.os, h.tape, h.output, h.size, h.block⟩
theorem neq_val (k n : Int) (s : ByteArray) (k' n' : Int) (s' : ByteArray) (w : World) :
    (binOp .neq 23 (.agg #[.int .i64 k, .int .i64 n, .string s]) (.agg #[.int .i64 k', .int .i64 n', .string s'])).run Tryz.prog w = .ok (.bool (!sameV k n s k' n' s')) w := by
  go_simp
  unfold sameV
  by_cases h1 : k = k'
  · by_cases h2 : n = n'
    · by_cases h3 : s = s'
      · simp [h1, h2, h3]
      · have h4 : ¬ s.toList = s'.toList := fun h => h3 (WideShapes.bytes_inj (by rw [ByteArray.toList_eq, ByteArray.toList_eq] at h; exact h))
        simp [h1, h2, h3, h4]
    · simp [h1, h2]
  · simp [h1]
theorem ext_vals {a b : List Val} (hl : a.length = b.length) (h : ∀ i, i < a.length → vAt a i = vAt b i) : a = b := by
  apply List.ext_getElem hl
  intro i h1 h2
  have := h i h1
  unfold vAt at this
  rw [List.getD, List.getD, List.getElem?_eq_getElem h1, List.getElem?_eq_getElem h2] at this
  exact this
theorem same_vals {x y : Val} : sameV x.1 x.2.1 x.2.2 y.1 y.2.1 y.2.2 = true ↔ x = y := by
  rw [sameV_iff]
  obtain ⟨a, b, c⟩ := x
  obtain ⟨a', b', c'⟩ := y
  simp

end Go.Proofs.YtlpaphgmdcpmaaaGreatDoor
