/-
  Several texts in one.
-/
import Derived.Test.YtlnbpobipmejfaaGreatDoorPk07
import Derived.Deep.QuietTactic
import Derived.BigQuiet
import Derived.Deep.RegionHeld3
import Derived.Test.YtlnbpobipmejfaaGreatDoorPk05
/-
  Minus of the reference.
-/
namespace Go.Proofs.YtlnbpobipmejfaaGreatDoor
set_option maxRecDepth 100000
open Go.RowKit
variable {ls : List Nat}

theorem mrg_skip {t u : List Val} {x y : List (List Val)} (h : cmpRow u t < 0) : mrg (t :: x) (u :: y) = mrg (t :: x) y := by
  rw [mrg, mrg, List.dropWhile_cons, if_pos (by simpa using h)]
theorem mrg_hit {t u : List Val} {x y : List (List Val)} (h : cmpRow u t = 0) : mrg (t :: x) (u :: y) = mrg x y := by
  rw [mrg, List.dropWhile_cons, if_neg (by simp; omega)]
  simp only [if_pos h]
theorem mrg_keep {t u : List Val} {x y : List (List Val)} (h : ¬ cmpRow u t < 0) (h0 : ¬ cmpRow u t = 0) : mrg (t :: x) (u :: y) = t :: mrg x (u :: y) := by
  rw [mrg, List.dropWhile_cons, if_neg (by simpa using h)]
  simp only [if_neg h0]
theorem mrg_end {t : List Val} {x : List (List Val)} : mrg (t :: x) [] = t :: mrg x [] := by rw [mrg]; rfl

/-- The rows that are kept, and the two sorted lists. -/
structure MinAt (w w2 v : World) (vo : Value) (G : List (Value × List Val)) (px : Option Addr) (cx : Nat) (Gx : List (Value × List Val)) (py : Option Addr) (cy : Nat) (Gy : List (Value × List Val)) : Prop where
  own : v.ownsRow w2.heap.size 56 1 vo G.length (G.map (·.1))
  inn : ∀ z ∈ G, InRow v w.heap.size z
  x : Rows2 v w.heap.size (.slice px Gx.length cx) Gx
  y : Rows2 v w.heap.size (.slice py Gy.length cy) Gy
  xb : ∀ k, (Value.slice px Gx.length cx).ownBlock = some k → k < w2.heap.size
  yb : ∀ k, (Value.slice py Gy.length cy).ownBlock = some k → k < w2.heap.size
  low : Below w.heap.size w v
  sz : w2.heap.size ≤ v.heap.size
  ww : w.heap.size ≤ w2.heap.size
theorem MinAt.keep {w w2 u v : World} {vo : Value} {G : List (Value × List Val)} {px : Option Addr} {cx : Nat} {Gx : List (Value × List Val)} {py : Option Addr} {cy : Nat} {Gy : List (Value × List Val)} (h : MinAt w w2 u vo G px cx Gx py cy Gy) (hb : Below u.heap.size u v) : MinAt w w2 v vo G px cx Gx py cy Gy :=
  ⟨owns_below h.own hb, fun z hz => (h.inn z hz).low hb, h.x.low hb, h.y.low hb, h.xb, h.yb, below_next h.low hb, Nat.le_trans h.sz hb.size, h.ww⟩
theorem Rows2.beside {u v : World} {base B n : Nat} {vo vx : Value} {xs : List Value} {G : List (Value × List Val)} (h : Rows2 u base vx G) (ho : u.ownsRow B 56 1 vo n xs) (hg : u.grownBy v vo.ownBlock) (hx : ∀ k, vx.ownBlock = some k → k < B) : Rows2 v base vx G :=
  ⟨owns_keep h.1 fun k hk => hg.block k (owns_lt h.1 k hk) (fun e => by have := (ho.lt k e.symm).1; have := hx k hk; omega), fun z hz => (h.2 z hz).apart ho fun k hk hne => hg.block k hk (fun e => hne e.symm)⟩
theorem MinAt.add {w w2 v w8 : World} {vo v8 : Value} {G : List (Value × List Val)} {px : Option Addr} {cx : Nat} {Gx : List (Value × List Val)} {py : Option Addr} {cy : Nat} {Gy : List (Value × List Val)} {o : Obj} {z : Value × List Val} (h : MinAt w w2 v vo G px cx Gx py cy Gy) (hz : z ∈ Gx)
    (ho : w8.ownsRow w2.heap.size 56 1 v8 (G.length + 1) (G.map (·.1) ++ [z.1])) (hg : (v.alloc o).grownBy w8 vo.ownBlock) : MinAt w w2 w8 v8 (G ++ [z]) px cx Gx py cy Gy := by
  have h7 := h.keep (below_alloc v o)
  have hin : ∀ b q, InRow (v.alloc o) b q → InRow w8 b q := fun b q hq => hq.apart h7.own fun k hk hne => hg.block k hk (fun e => hne e.symm)
  refine ⟨by simpa using ho, fun q hq => ?_, h7.x.beside h7.own hg h.xb, h7.y.beside h7.own hg h.yb, h.xb, h.yb, ?_, Nat.le_trans h7.sz hg.size, h.ww⟩
  · rcases List.mem_append.1 hq with hq | hq
    · exact hin _ _ (h7.inn q hq)
    · obtain rfl := List.mem_singleton.1 hq
      exact hin _ _ (h7.x.2 q hz)
  · refine h7.low.grown hg h7.low.size (fun k hk => ?_)
    have := (h7.own.lt k hk).1
    have := h.ww
    omega
theorem one_news (v : World) (x : Value) : ∀ j u, ([x] : List Value)[j]? = some u → (v.alloc (.cells #[x] 56)).cell? ((⟨v.heap.size, 0, none⟩ : Addr).add j) = some u := by
  intro j u hj
  have : j = 0 := by have := (List.getElem?_eq_some_iff.1 hj).1; simp at this; omega
  subst this
  obtain rfl := Option.some.inj hj
  show (v.alloc _).cell? ⟨v.heap.size, 0, none⟩ = _
  go_simp
theorem gAt_mem {G : List (Value × List Val)} {i : Nat} (hi : i < G.length) : gAt G i ∈ G := by unfold gAt; rw [List.getD, List.getElem?_eq_getElem hi]; exact List.getElem_mem hi
theorem own_size {u : World} {base n size : Nat} {e : TypeId} {v : Value} {xs : List Value} (h : u.ownsRow base e size v n xs) : ∀ k, v.ownBlock = some k → k < u.heap.size := fun k hk => (h.lt k hk).2

end Go.Proofs.YtlnbpobipmejfaaGreatDoor
/-
  SameTuples of the world.
-/
namespace Go.Proofs.YtlnbpobipmejfaaGreatDoor
set_option maxRecDepth 100000
open Go.RowKit
variable {ls : List Nat}

theorem below_drewN {B : Nat} {a w : World} (h : Below B a w) (n : Nat) : Below B a (w.drewN n) := ⟨h.os, h.tape, h.output, h.size, h.block⟩
theorem neq_val (k n : Int) (s : ByteArray) (k' n' : Int) (s' : ByteArray) (w : World) :
    (binOp .neq 55 (.agg #[.int .i64 k, .int .i64 n, .string s]) (.agg #[.int .i64 k', .int .i64 n', .string s'])).run Tryz.prog w = .ok (.bool (!sameV k n s k' n' s')) w := by
  go_simp
  unfold sameV
  by_cases h1 : k = k'
  · by_cases h2 : n = n'
    · by_cases h3 : s = s'
      · simp [h1, h2, h3]
      · have h4 : ¬ s.toList = s'.toList := fun h => h3 (WideShapes.bytes_inj (by rw [ByteArray.toList_eq, ByteArray.toList_eq] at h; exact h))
        simp [h1, h2, h3, h4]
    · simp [h1, h2]
  · simp [h1]
theorem ext_vals {a b : List Val} (hl : a.length = b.length) (h : ∀ i, i < a.length → vAt a i = vAt b i) : a = b := by
  apply List.ext_getElem hl
  intro i h1 h2
  have := h i h1
  unfold vAt at this
  rw [List.getD, List.getD, List.getElem?_eq_getElem h1, List.getElem?_eq_getElem h2] at this
  exact this
theorem same_vals {x y : Val} : sameV x.1 x.2.1 x.2.2 y.1 y.2.1 y.2.2 = true ↔ x = y := by
  rw [sameV_iff]
  obtain ⟨a, b, c⟩ := x
  obtain ⟨a', b', c'⟩ := y
  simp

set_option maxRecDepth 100000 in
set_option maxHeartbeats 1000000 in
theorem equal_any (p q : Option Addr) (a b : List Val) (ca cb : Nat) (w : World) (hla : a.length ≤ 9223372036854775807) (ha : RowAt w p a) (hb : RowAt w q b) :
    Calls Tryz.prog 60 #[.slice p a.length ca, .slice q b.length cb] w fun e w' => e = .returned (.bool (decide (a = b))) ∧ Below w.heap.size w w' := by
  have HP := Lib.hid ha
  have HQ := Lib.hid hb
  clear ha hb
  by_cases hl : a.length = b.length
  · have hlI : ((a.length : Int) != (b.length : Int)) = false := by simp [hl]
    have HL := Lib.hid hl
    clear hl
    go_enter Tryz.func60, Tryz.ntmps60
    go_wp2_with fail
    go_loopw [13] (fun i v => ∃ k : Nat, k ≤ a.length ∧ i = .int .i64 k ∧ (∀ j, j < k → vAt a j = vAt b j) ∧ Below w.heap.size w v) (fun i _ => a.length - (intOf i).toNat)
    case atStart => exact ⟨0, Nat.zero_le _, rfl, fun j hj => by omega, Below.refl _ _⟩
    case round =>
      obtain ⟨k, hk, rfl, heq, hb⟩ := hrel
      have HEQ := Lib.hid heq
      have HB := Lib.hid hb
      clear heq hb
      by_cases hlt : k < a.length
      · have hlt' : decide ((k : Int) < a.length) = true := decide_eq_true (by omega)
        have hkb : k < b.length := by have := HL.out; omega
        have hkI : (k : Int) < (b.length : Int) := by omega
        obtain ⟨c, o, rfl, hc, x0, x1, x2⟩ := HP.out.low HB.out k hlt
        obtain ⟨c', o', rfl, hc', y0, y1, y2⟩ := HQ.out.low HB.out k hkb
        have hq := neq_val (vAt a k).1 (vAt a k).2.1 (vAt a k).2.2 (vAt b k).1 (vAt b k).2.1 (vAt b k).2.2
        cases hsame : sameV (vAt a k).1 (vAt a k).2.1 (vAt a k).2.2 (vAt b k).1 (vAt b k).2.1 (vAt b k).2.2
        · have HD : Hid (¬ a = b) := Lib.hid (fun h => by
            rw [h] at hsame
            rw [same_vals.2 rfl] at hsame
            cases hsame)
          rw [hsame] at hq
          go_wp2_with fail
          go_quiet (fail)
          go_wp2
          go_ret
          exact ⟨ret_b (decide_eq_false HD.out).symm, below_drewN HB.out _⟩
        · have HS := Lib.hid (same_vals.1 hsame)
          rw [hsame] at hq
          go_wp2_with fail
          go_quiet (fail)
          go_wp2
          go_roundw
          case rel => exact ⟨k + 1, by omega, by go_num, fun j hj => by
            by_cases hjk : j = k
            · subst hjk; exact HS.out
            · exact HEQ.out j (by omega), below_drewN HB.out _⟩
          case measure => simp [intOf]; omega
      · have hlt' : decide ((k : Int) < a.length) = false := decide_eq_false (by omega)
        obtain rfl : k = a.length := by omega
        have HD : Hid (a = b) := Lib.hid (ext_vals HL.out HEQ.out)
        go_wp2
        go_ret
        exact ⟨ret_b (decide_eq_true HD.out).symm, HB.out⟩
  · have hlI : ((a.length : Int) != (b.length : Int)) = true := bne_iff_ne.2 (by omega)
    have HD : Hid (¬ a = b) := Lib.hid (fun h => hl (by rw [h]))
    clear hl
    go_enter Tryz.func60, Tryz.ntmps60
    go_wp2
    go_ret
    exact ⟨ret_b (decide_eq_false HD.out).symm, Below.refl _ _⟩
set_option maxHeartbeats 1000000 in
theorem sametuple_any (p q : Option Addr) (a b : List Val) (ca cb : Nat) (w : World) (hla : a.length ≤ 9223372036854775807) (ha : RowAt w p a) (hb : RowAt w q b) :
    Calls Tryz.prog 38 #[.slice p a.length ca, .slice q b.length cb] w fun e w' => e = .returned (.bool (decide (a = b))) ∧ Below w.heap.size w w' := by
  go_enter Tryz.func38, Tryz.ntmps38
  go_wp2_with fail
  refine (equal_any p q a b ca cb _ hla ha hb).mono ?_
  rintro e w2 ⟨rfl, hb2⟩
  have HB := Lib.hid hb2
  clear hb2
  go_wp2
  go_ret
  exact ⟨rfl, HB.out⟩
theorem ext_tuples {A B : List (List Val)} (hl : A.length = B.length) (h : ∀ i, i < A.length → rAt A i = rAt B i) : A = B := by
  apply List.ext_getElem hl
  intro i h1 h2
  have := h i h1
  rw [rAt_get h1, rAt_get h2] at this
  exact this
set_option maxRecDepth 100000 in
set_option maxHeartbeats 2000000 in
theorem equaltuples_any (A B : List (List Val)) (p q : Option Addr) (ca cb : Nat) (w : World) (hA : A.length ≤ 9223372036854775807) (hp : RowsAt w p A) (hq : RowsAt w q B) :
    Calls Tryz.prog 37 #[.slice p A.length ca, .slice q B.length cb, .func (.func 38) #[] #[]] w fun e w' => e = .returned (.bool (decide (A = B))) ∧ Below w.heap.size w w' := by
  have HP := Lib.hid hp
  have HQ := Lib.hid hq
  clear hp hq
  by_cases hl : A.length = B.length
  · have hlI : ((A.length : Int) != (B.length : Int)) = false := by simp [hl]
    have HL := Lib.hid hl
    clear hl
    go_enter Tryz.func37, Tryz.ntmps37
    go_wp2_with fail
    go_loopw [17] (fun i v => ∃ k : Nat, k ≤ A.length ∧ i = .int .i64 k ∧ (∀ j, j < k → rAt A j = rAt B j) ∧ Below w.heap.size w v) (fun i _ => A.length - (intOf i).toNat)
    case atStart => exact ⟨0, Nat.zero_le _, rfl, fun j hj => by omega, Below.refl _ _⟩
    case round =>
      obtain ⟨k, hk, rfl, heq, hb⟩ := hrel
      have HEQ := Lib.hid heq
      have HB := Lib.hid hb
      clear heq hb
      by_cases hlt : k < A.length
      · have hlt' : decide ((k : Int) < A.length) = true := decide_eq_true (by omega)
        have hkb : k < B.length := by have := HL.out; omega
        have hkI : (k : Int) < (B.length : Int) := by omega
        obtain ⟨c, o, q1, c1, rfl, hc, h0, hr1, hs1, -⟩ := HP.out.low HB.out k hlt
        obtain ⟨c', o', q2, c2, rfl, hc', h0', hr2, hs2, -⟩ := HQ.out.low HB.out k hkb
        have HR1 := Lib.hid hr1
        have HR2 := Lib.hid hr2
        clear hr1 hr2
        go_wp2_with fail
        refine (sametuple_any q1 q2 (rAt A k) (rAt B k) c1 c2 _ (by omega) HR1.out HR2.out).mono ?_
        rintro e v1 ⟨rfl, hb1⟩
        have HB1 := Lib.hid (below_next HB.out hb1)
        clear HB hb1 h0 h0' HR1 HR2 hc hc'
        cases hz : decide (rAt A k = rAt B k)
        · have HD : Hid (¬ A = B) := Lib.hid (fun h => of_decide_eq_false hz (by rw [h]))
          go_wp2
          go_ret
          exact ⟨ret_b (decide_eq_false HD.out).symm, HB1.out⟩
        · have HZ := Lib.hid (of_decide_eq_true hz)
          go_wp2
          go_roundw
          case rel => exact ⟨k + 1, by omega, by go_num, fun j hj => by
            by_cases hjk : j = k
            · subst hjk; exact HZ.out
            · exact HEQ.out j (by omega), HB1.out⟩
          case measure => simp [intOf]; omega
      · have hlt' : decide ((k : Int) < A.length) = false := decide_eq_false (by omega)
        obtain rfl : k = A.length := by omega
        have HD : Hid (A = B) := Lib.hid (ext_tuples HL.out HEQ.out)
        go_wp2
        go_ret
        exact ⟨ret_b (decide_eq_true HD.out).symm, HB.out⟩
  · have hlI : ((A.length : Int) != (B.length : Int)) = true := bne_iff_ne.2 (by omega)
    have HD : Hid (¬ A = B) := Lib.hid (fun h => hl (by rw [h]))
    clear hl
    go_enter Tryz.func37, Tryz.ntmps37
    go_wp2
    go_ret
    exact ⟨ret_b (decide_eq_false HD.out).symm, Below.refl _ _⟩
set_option maxHeartbeats 1000000 in
theorem sametuples_any (A B : List (List Val)) (p q : Option Addr) (ca cb : Nat) (w : World) (hA : A.length ≤ 9223372036854775807) (hp : RowsAt w p A) (hq : RowsAt w q B) :
    Calls Tryz.prog 19 #[.slice p A.length ca, .slice q B.length cb] w fun e w' => e = .returned (.bool (decide (A = B))) ∧ Below w.heap.size w w' := by
  go_enter Tryz.func19, Tryz.ntmps19
  go_wp2_with fail
  refine (equaltuples_any A B p q ca cb _ hA hp hq).mono ?_
  rintro e w2 ⟨rfl, hb2⟩
  have HB := Lib.hid hb2
  clear hb2
  go_wp2
  go_ret
  exact ⟨rfl, HB.out⟩
end Go.Proofs.YtlnbpobipmejfaaGreatDoor
/-
  The sanity check of the statements about tuples holds, if the program's functions do what the contracts say.
-/
namespace Go.Proofs.YtlnbpobipmejfaaGreatDoor
set_option maxRecDepth 100000
open Go.RowKit
variable {ls : List Nat}

end Go.Proofs.YtlnbpobipmejfaaGreatDoor
/-
  Facts about differences of bags; append of rows to a row of the call's own.
-/
namespace Go.Proofs.YtlnbpobipmejfaaGreatDoor
set_option maxRecDepth 100000
open Go.RowKit
variable {ls : List Nat}

theorem minR_nil_iff (A B : List (List Val)) : minR A B = [] ↔ ∀ r, A.count r ≤ B.count r := by
  constructor
  · intro h r
    have := minR_count A B r
    rw [h] at this
    simp at this
    omega
  · intro h
    rw [List.eq_nil_iff_forall_not_mem]
    intro r hr
    have h1 := List.count_pos_iff.2 hr
    have h2 := minR_count A B r
    have h3 := h r
    omega
theorem same_iff_minR (A B : List (List Val)) : srt A = srt B ↔ ((minR A B).length = 0 ∧ (minR B A).length = 0) := by
  rw [srt_eq_iff, List.perm_iff_count, List.length_eq_zero_iff, List.length_eq_zero_iff, minR_nil_iff, minR_nil_iff]
  exact ⟨fun h => ⟨fun r => Nat.le_of_eq (h r), fun r => Nat.le_of_eq (h r).symm⟩, fun h r => Nat.le_antisymm (h.1 r) (h.2 r)⟩
theorem minR_len (A B : List (List Val)) : A.length + (minR B A).length = B.length + (minR A B).length := by
  have h : (A ++ minR B A).Perm (B ++ minR A B) := List.perm_iff_count.2 fun r => by
    rw [List.count_append, List.count_append, minR_count, minR_count]
    omega
  simpa using h.length_eq
theorem minR_le (A B : List (List Val)) : (minR A B).length ≤ A.length := by
  have := (mrg_sub (srt A) (srt B)).length_le
  rw [srt_length] at this
  exact this
theorem Grid.rows2 {u : World} {base : Nat} {vo : Value} {G : List (Value × List Val)} (h : Grid u base vo G) : Rows2 u base vo G :=
  ⟨h.1, fun x hx => ⟨(h.2 x hx).1, by have := (h.2 x hx).2; omega⟩⟩
/-- Heads of rows. -/
def HeadsAt (u : World) (xs : List Value) (L : List (List Val)) : Prop :=
  xs.length = L.length ∧ ∀ i, i < L.length → ∃ (q : Option Addr) (cp : Nat), xs[i]? = some (.slice q (rAt L i).length cp) ∧ RowAt u q (rAt L i) ∧ (rAt L i).length * 32 ≤ 140737488355328 ∧ (q = none → rAt L i = [] ∧ cp = 0)
theorem HeadsAt.low {u v : World} {xs : List Value} {L : List (List Val)} (h : HeadsAt u xs L) (hb : Below u.heap.size u v) : HeadsAt v xs L :=
  ⟨h.1, fun i hi => by obtain ⟨q, cp, h0, h1, h2, h3⟩ := h.2 i hi; exact ⟨q, cp, h0, h1.low hb, h2, h3⟩⟩
theorem HeadsAt.one {u : World} {xs : List Value} {L : List (List Val)} (h : HeadsAt u xs L) : ∀ v ∈ xs, v.oneCell' = true := by
  intro v hv
  obtain ⟨i, hi, rfl⟩ := List.getElem_of_mem hv
  obtain ⟨q, cp, h0, -⟩ := h.2 i (h.1 ▸ hi)
  rw [List.getElem?_eq_getElem hi] at h0
  rw [Option.some.inj h0]
  rfl
theorem HeadsAt.nil (u : World) : HeadsAt u [] [] := ⟨rfl, fun i hi => by simp at hi⟩
theorem rAt_left {A B : List (List Val)} {i : Nat} (h : i < A.length) : rAt (A ++ B) i = rAt A i := by unfold rAt; rw [List.getD, List.getElem?_append_left h]; rfl
theorem rAt_right {A B : List (List Val)} {i : Nat} (h : A.length ≤ i) : rAt (A ++ B) i = rAt B (i - A.length) := by unfold rAt; rw [List.getD, List.getElem?_append_right h]; rfl
theorem HeadsAt.append {u : World} {xs ys : List Value} {A B : List (List Val)} (h : HeadsAt u xs A) (k : HeadsAt u ys B) : HeadsAt u (xs ++ ys) (A ++ B) := by
  refine ⟨by rw [List.length_append, List.length_append, h.1, k.1], fun i hi => ?_⟩
  rw [List.length_append] at hi
  by_cases hl : i < A.length
  · rw [rAt_left hl, List.getElem?_append_left (by rw [h.1]; exact hl)]
    exact h.2 i hl
  · rw [rAt_right (by omega), List.getElem?_append_right (by rw [h.1]; omega), h.1]
    exact k.2 (i - A.length) (by omega)
theorem Rows2.heads {u : World} {base : Nat} {vo : Value} {G : List (Value × List Val)} (h : Rows2 u base vo G) : HeadsAt u (G.map (·.1)) (G.map (·.2)) := by
  refine ⟨by rw [List.length_map, List.length_map], fun i hi => ?_⟩
  rw [List.length_map] at hi
  have hmem : gAt G i ∈ G := gAt_mem hi
  obtain ⟨hown, hlen⟩ := h.2 _ hmem
  obtain ⟨hv, hr, hn⟩ := owned_shape hown
  rw [gAt_row hi] at hv hr hn hlen
  refine ⟨_, _, ?_, hr, hlen, hn⟩
  rw [← hv, List.getElem?_map, List.getElem?_eq_getElem hi]
  simp [gAt, hi]
/-- The cells of a row of the call's own. -/
theorem own_src {u : World} {base n : Nat} {e : TypeId} {v : Value} {xs : List Value} (h : u.ownsRow base e 1 v n xs) :
    v = .slice (rowP v) n (rowC v) ∧ (∀ ad, rowP v = some ad → ∀ j x, xs[j]? = some x → u.cell? (ad.add j) = some x) ∧ (rowP v = none → n = 0 ∧ xs = [] ∧ rowC v = 0) := by
  have hl := h.1
  rcases h.2 with ⟨rfl, h0⟩ | ⟨g, cap', cur, rfl, hg, hh, hcap, hm, hcur, htake⟩
  · refine ⟨by rw [h0]; rfl, (fun ad h => by cases h), fun _ => ⟨h0, List.eq_nil_of_length_eq_zero (by omega), rfl⟩⟩
  · refine ⟨rfl, fun ad had j x hj => ?_, fun h => by cases h⟩
    obtain rfl := Option.some.inj had
    have hj' : cur.toList[j]? = some x := by
      rw [← htake, List.getElem?_take] at hj
      split at hj
      · exact hj
      · cases hj
    rw [show (⟨g, 0, none⟩ : Addr).add j = ⟨g, j, none⟩ from by simp [Addr.add]; omega]
    simp [World.cell?, hh]
    simpa using hj'
theorem rows_of_heads {u : World} {base n : Nat} {v : Value} {xs : List Value} {L : List (List Val)} (h : u.ownsRow base 56 1 v n xs) (hH : HeadsAt u xs L) : RowsAt u (rowP v) L := by
  intro i hi
  obtain ⟨q, cp, h0, h1, h2, h3⟩ := hH.2 i hi
  obtain ⟨-, hs, hn⟩ := own_src h
  rcases h.2 with ⟨rfl, hz⟩ | ⟨g, cap', cur, rfl, hg, hh, hcap, hm, hcur, htake⟩
  · have := hn rfl; rw [this.2.1] at h0; simp at h0
  · exact ⟨g, 0, q, cp, rfl, (Array.getElem?_eq_some_iff.1 hh).1, by have := hs _ rfl i _ h0; rw [show (⟨g, 0, none⟩ : Addr).add i = ⟨g, 0 + i, none⟩ from by simp [Addr.add]; omega] at this; exact this, h1, h2, h3⟩
theorem wpList_append_heads {w : World} {ops : Array Oper} {rest : List Oper} {o : Oper} {a : Act} {Q : Exit → Act → World → Prop} (hgd : o.guard = none) (s x : Operand)
    (ho : o.op = .call { callee := .builtin .append, args := #[s, x], argTypes := #[43, 43] })
    (base : Nat) (v : Value) (n : Nat) (xs : List Value) (hs : a.eval s = v) (hown : w.ownsRow base 56 1 v n xs)
    (base' : Nat) (vx : Value) (m : Nat) (ys : List Value) (hx : a.eval x = vx) (hsrc : w.ownsRow base' 56 1 vx m ys) (h1 : ∀ u ∈ ys, u.oneCell' = true) (hsum : (n + m) * 24 ≤ 140737488355328) (hbase : base ≤ w.heap.size)
    (h : ∀ v' w', w'.ownsRow base 56 1 v' (n + m) (xs ++ ys) → w.grownBy w' v.ownBlock → wpList Tryz.prog ops Q rest (a.put o.dst v') w') : wpList Tryz.prog ops Q (o :: rest) a w := by
  obtain ⟨i0, hi, hz0, hz1, hz2⟩ := info_parts info_row
  obtain ⟨hv, hsr, hn⟩ := own_src hsrc
  have hl := hsrc.1
  rw [hv] at hx
  cases hp : rowP vx with
  | none =>
    obtain ⟨rfl, rfl, hc⟩ := hn hp
    rw [hp, hc] at hx
    refine wpList_append_own_none hgd s x 43 ho base 56 i0 1 Tryz.underlying43 hi v n xs hs hown hx ?_
    exact h v w (by simpa using hown) (World.grownBy.refl w _)
  | some ad =>
    rw [hp] at hx
    refine wpList_append_own w hgd s x 43 ho base 56 i0 _ 1 24 Tryz.underlying43 hi hz0 hz1 hz2 rfl (by decide) v n xs hs hown ad m (rowC vx) ys hx hl (hsr ad hp) h1 (by unfold maxLen; omega) hsum hbase ?_
    intro v' w' h1 h2 _
    exact h v' w' h1 h2
theorem owns_none (w : World) : (w.alloc (.cells #[] 56)).ownsRow w.heap.size 56 1 (.slice (some ⟨w.heap.size, 0, none⟩) 0 0) 0 [] := by
  refine ⟨rfl, Or.inr ⟨w.heap.size, 0, #[], rfl, Nat.le_refl _, ?_, Nat.le_refl _, by decide, rfl, rfl⟩⟩
  show (w.heap.push _)[w.heap.size]? = _
  simp
/-- A list of rows in a row of the call's own. -/
structure BagAt (u : World) (base : Nat) (v : Value) (xs : List Value) (L : List (List Val)) : Prop where
  own : u.ownsRow base 56 1 v L.length xs
  heads : HeadsAt u xs L
theorem BagAt.low {u v : World} {base : Nat} {x : Value} {xs : List Value} {L : List (List Val)} (h : BagAt u base x xs L) (hb : Below u.heap.size u v) : BagAt v base x xs L := ⟨owns_below h.own hb, h.heads.low hb⟩
theorem BagAt.rows {u : World} {base : Nat} {x : Value} {xs : List Value} {L : List (List Val)} (h : BagAt u base x xs L) : RowsAt u (rowP x) L := rows_of_heads h.own h.heads
theorem BagAt.shape {u : World} {base : Nat} {x : Value} {xs : List Value} {L : List (List Val)} (h : BagAt u base x xs L) : ∃ p c, x = .slice p L.length c := ⟨_, _, (own_src h.own).1⟩
theorem Grid.bag {u : World} {base : Nat} {vo : Value} {G : List (Value × List Val)} (h : Grid u base vo G) : BagAt u base vo (G.map (·.1)) (G.map (·.2)) := ⟨by rw [List.length_map]; exact h.1, h.rows2.heads⟩
end Go.Proofs.YtlnbpobipmejfaaGreatDoor
