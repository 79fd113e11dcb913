/-
  Several texts in one.
-/
import Derived.Test.YtlpaphgmdcpmaaaGreatDoorPk05
import Derived.Deep.RegionHeld3
import Derived.Test.YtlpaphgmdcpmaaaGreatDoorPk01
import Derived.OwnWalk
import Derived.Laws.AppendOwnNone
import Derived.Test.YtlpaphgmdcpmaaaGreatDoorPk02
/-
  The order of values is total. Plain.
-/
namespace Go.Proofs.YtlpaphgmdcpmaaaGreatDoor
set_option maxRecDepth 100000
open Go

theorem cmpI_bd (a b : Int) : -1 ≤ Lib.compareInt a b ∧ Lib.compareInt a b ≤ 1 := by unfold Lib.compareInt; split <;> (try split) <;> omega
theorem cmpI_neg (a b : Int) : Lib.compareInt a b = - Lib.compareInt b a := by unfold Lib.compareInt; (repeat' split) <;> omega
theorem cmpI_zero (a b : Int) : Lib.compareInt a b = 0 ↔ a = b := by unfold Lib.compareInt; (repeat' split) <;> omega
theorem cmpI_le (a b : Int) : Lib.compareInt a b ≤ 0 ↔ a ≤ b := by unfold Lib.compareInt; (repeat' split) <;> omega

theorem cmpB_bd (a b : List UInt8) : -1 ≤ Lib.compareBytes a b ∧ Lib.compareBytes a b ≤ 1 := by
  induction a generalizing b with
  | nil => cases b <;> simp [Lib.compareBytes]
  | cons x a ih =>
    cases b with
    | nil => simp [Lib.compareBytes]
    | cons y b =>
      rw [Lib.compareBytes]
      split
      · decide
      · split
        · decide
        · exact ih b
theorem cmpB_neg (a b : List UInt8) : Lib.compareBytes a b = - Lib.compareBytes b a := by
  induction a generalizing b with
  | nil => cases b <;> simp [Lib.compareBytes]
  | cons x a ih =>
    cases b with
    | nil => simp [Lib.compareBytes]
    | cons y b =>
      rw [Lib.compareBytes, Lib.compareBytes]
      by_cases h : x < y
      · have h2 : ¬ y < x := fun h2 => by rw [UInt8.lt_iff_toNat_lt] at h h2; omega
        simp [h, h2]
      · by_cases h2 : y < x
        · simp [h, h2]
        · simp [h, h2, ih b]
theorem cmpB_zero (a b : List UInt8) : Lib.compareBytes a b = 0 ↔ a = b := by
  induction a generalizing b with
  | nil => cases b <;> simp [Lib.compareBytes]
  | cons x a ih =>
    cases b with
    | nil => simp [Lib.compareBytes]
    | cons y b =>
      rw [Lib.compareBytes]
      by_cases h : x < y
      · have : x ≠ y := fun e => by subst e; rw [UInt8.lt_iff_toNat_lt] at h; omega
        simp [h, this]
      · by_cases h2 : y < x
        · have : x ≠ y := fun e => by subst e; rw [UInt8.lt_iff_toNat_lt] at h2; omega
          simp [h, h2, this]
        · have : x = y := by
            apply UInt8.toNat_inj.1
            rw [UInt8.lt_iff_toNat_lt] at h h2; omega
          simp [this, ih b]
theorem cmpB_trans {a b c : List UInt8} (h1 : Lib.compareBytes a b ≤ 0) (h2 : Lib.compareBytes b c ≤ 0) : Lib.compareBytes a c ≤ 0 := by
  induction a generalizing b c with
  | nil => cases c <;> simp [Lib.compareBytes]
  | cons x a ih =>
    cases b with
    | nil => simp [Lib.compareBytes] at h1
    | cons y b =>
      cases c with
      | nil => simp [Lib.compareBytes] at h2
      | cons z c =>
        rw [Lib.compareBytes] at h1 h2 ⊢
        simp only [UInt8.lt_iff_toNat_lt] at h1 h2 ⊢
        by_cases a1 : x.toNat < y.toNat
        · by_cases a2 : y.toNat < z.toNat
          · rw [if_pos (by omega)]; decide
          · by_cases a3 : z.toNat < y.toNat
            · rw [if_neg a2, if_pos a3] at h2; omega
            · rw [if_pos (by omega)]; decide
        · by_cases a1' : y.toNat < x.toNat
          · rw [if_neg a1, if_pos a1'] at h1; omega
          · rw [if_neg a1, if_neg a1'] at h1
            by_cases a2 : y.toNat < z.toNat
            · rw [if_pos (by omega)]; decide
            · by_cases a3 : z.toNat < y.toNat
              · rw [if_neg a2, if_pos a3] at h2; omega
              · rw [if_neg a2, if_neg a3] at h2
                rw [if_neg (by omega), if_neg (by omega)]
                exact ih h1 h2

theorem cmpV_bd (k n : Int) (s : ByteArray) (k' n' : Int) (s' : ByteArray) : -1 ≤ cmpV k n s k' n' s' ∧ cmpV k n s k' n' s' ≤ 1 := by
  have h1 := cmpI_bd k k'
  have h2 := cmpI_bd n n'
  have h3 := cmpB_bd s.data.toList s'.data.toList
  unfold cmpV orI
  (repeat' split) <;> omega
theorem cmpV_neg (k n : Int) (s : ByteArray) (k' n' : Int) (s' : ByteArray) : cmpV k n s k' n' s' = - cmpV k' n' s' k n s := by
  unfold cmpV orI
  rw [cmpI_neg k k', cmpI_neg n n', cmpB_neg s.data.toList]
  (repeat' split) <;> omega
theorem cmpV_zero (k n : Int) (s : ByteArray) (k' n' : Int) (s' : ByteArray) : cmpV k n s k' n' s' = 0 ↔ (k = k' ∧ n = n' ∧ s = s') := by
  have hb : s.data.toList = s'.data.toList ↔ s = s' := ⟨fun h => WideShapes.bytes_inj h, fun h => by rw [h]⟩
  unfold cmpV orI
  split
  · rename_i h; rw [cmpI_zero] at h
    split
    · rename_i h2; rw [cmpI_zero] at h2; rw [cmpB_zero, hb]; simp [h, h2]
    · rename_i h2; rw [cmpI_zero] at h2 ⊢; simp [h2]
  · rename_i h; rw [cmpI_zero] at h ⊢; simp [h]
theorem cmpV_le (k n : Int) (s : ByteArray) (k' n' : Int) (s' : ByteArray) : cmpV k n s k' n' s' ≤ 0 ↔ (k < k' ∨ k = k' ∧ (n < n' ∨ n = n' ∧ Lib.compareBytes s.data.toList s'.data.toList ≤ 0)) := by
  unfold cmpV orI
  split
  · rename_i h; rw [cmpI_zero] at h
    split
    · rename_i h2; rw [cmpI_zero] at h2; simp [h, h2]
    · rename_i h2; rw [cmpI_zero] at h2; rw [cmpI_le]
      constructor
      · intro h3; exact Or.inr ⟨h, Or.inl (by omega)⟩
      · rintro (h3 | ⟨-, h3 | ⟨h3, -⟩⟩) <;> omega
  · rename_i h; rw [cmpI_zero] at h; rw [cmpI_le]
    constructor
    · intro h3; exact Or.inl (by omega)
    · rintro (h3 | ⟨h3, -⟩) <;> omega
theorem cmpV_trans {k n : Int} {s : ByteArray} {k' n' : Int} {s' : ByteArray} {k2 n2 : Int} {s2 : ByteArray} (h1 : cmpV k n s k' n' s' ≤ 0) (h2 : cmpV k' n' s' k2 n2 s2 ≤ 0) : cmpV k n s k2 n2 s2 ≤ 0 := by
  rw [cmpV_le] at h1 h2 ⊢
  rcases h1 with h1 | ⟨h1, h1' | ⟨h1', h1''⟩⟩ <;> rcases h2 with h2 | ⟨h2, h2' | ⟨h2', h2''⟩⟩
  all_goals first
    | exact Or.inl (by omega)
    | exact Or.inr ⟨by omega, Or.inl (by omega)⟩
    | exact Or.inr ⟨by omega, Or.inr ⟨by omega, cmpB_trans h1'' h2''⟩⟩
theorem cmpV_same (k n : Int) (s : ByteArray) (k' n' : Int) (s' : ByteArray) : ((cmpV k n s k' n' s' == 0) != sameV k n s k' n' s') = false := by
  have : (cmpV k n s k' n' s' == 0) = sameV k n s k' n' s' := by
    rw [Bool.eq_iff_iff, sameV_iff, beq_iff_eq, cmpV_zero]
  rw [this]; simp
theorem cmpV_same2 (k n : Int) (s : ByteArray) (k' n' : Int) (s' : ByteArray) : ((cmpV k n s k' n' s' == 0) == sameV k n s k' n' s') = true := by
  have : (cmpV k n s k' n' s' == 0) = sameV k n s k' n' s' := by
    rw [Bool.eq_iff_iff, sameV_iff, beq_iff_eq, cmpV_zero]
  rw [this]; simp
end Go.Proofs.YtlpaphgmdcpmaaaGreatDoor
/-
  CompareRows, of the program and of the reference.
-/
namespace Go.Proofs.YtlpaphgmdcpmaaaGreatDoor
set_option maxRecDepth 100000
open Go.RowKit

abbrev Val := Int × Int × ByteArray
def nilVal : Val := (0, 0, ⟨#[]⟩)
/-- The i-th of a list of values. -/
def vAt (l : List Val) (i : Nat) : Val := l.getD i nilVal
def cmpVal (x y : Val) : Int := cmpV x.1 x.2.1 x.2.2 y.1 y.2.1 y.2.2
/-- The order of rows. -/
def cmpRow : List Val → List Val → Int
  | [], [] => 0
  | [], _ :: _ => -1
  | _ :: _, [] => 1
  | x :: a, y :: b => if cmpVal x y = 0 then cmpRow a b else cmpVal x y

/-- A slice that reads as these values. -/
def RowAt (u : World) (p : Option Addr) (l : List Val) : Prop :=
  ∀ i, i < l.length → ∃ c o : Nat, p = some ⟨c, o, none⟩ ∧ c < u.heap.size ∧ u.cell? ⟨c, o + i * 3, none⟩ = some (.int .i64 (vAt l i).1) ∧ u.cell? ⟨c, o + i * 3 + 1, none⟩ = some (.int .i64 (vAt l i).2.1) ∧ u.cell? ⟨c, o + i * 3 + 2, none⟩ = some (.string (vAt l i).2.2)
theorem RowAt.low {u v : World} {p : Option Addr} {l : List Val} (h : RowAt u p l) (hb : Below u.heap.size u v) : RowAt v p l := fun i hi => by
  obtain ⟨c, o, hp, hc, h0, h1, h2⟩ := h i hi
  exact ⟨c, o, hp, Nat.lt_of_lt_of_le hc hb.size, by rw [hb.cell (by exact hc)]; exact h0, by rw [hb.cell (by exact hc)]; exact h1, by rw [hb.cell (by exact hc)]; exact h2⟩

theorem drop_cons {l : List Val} {i : Nat} (h : i < l.length) : l.drop i = vAt l i :: l.drop (i + 1) := by
  rw [List.drop_eq_getElem_cons h, vAt, List.getD, List.getElem?_eq_getElem h]; rfl
theorem cmpRow_step {a b : List Val} {i : Nat} (h : i < a.length) (h' : i < b.length) (hz : cmpVal (vAt a i) (vAt b i) = 0) : cmpRow (a.drop (i + 1)) (b.drop (i + 1)) = cmpRow (a.drop i) (b.drop i) := by
  rw [drop_cons h, drop_cons h', cmpRow, if_pos hz]
theorem cmpRow_stop {a b : List Val} {i : Nat} (h : i < a.length) (h' : i < b.length) (hz : ¬ cmpVal (vAt a i) (vAt b i) = 0) : cmpVal (vAt a i) (vAt b i) = cmpRow (a.drop i) (b.drop i) := by
  rw [drop_cons h, drop_cons h', cmpRow, if_neg hz]
theorem cmpRow_long {a b : List Val} {i : Nat} (h : i < a.length) (h' : b.length ≤ i) : cmpRow (a.drop i) (b.drop i) = 1 := by
  rw [drop_cons h, List.drop_eq_nil_of_le h']; rfl
theorem cmpRow_short {a b : List Val} {i : Nat} (h : a.length ≤ i) (h' : i < b.length) : cmpRow (a.drop i) (b.drop i) = -1 := by
  rw [drop_cons h', List.drop_eq_nil_of_le h]; rfl
theorem cmpRow_end {a b : List Val} {i : Nat} (h : a.length ≤ i) (h' : b.length ≤ i) : cmpRow (a.drop i) (b.drop i) = 0 := by
  rw [List.drop_eq_nil_of_le h', List.drop_eq_nil_of_le h]; rfl

end Go.Proofs.YtlpaphgmdcpmaaaGreatDoor
/-
  Rows that a call owns, behind calls that turn other blocks.
-/
namespace Go.Proofs.YtlpaphgmdcpmaaaGreatDoor
set_option maxRecDepth 100000
open Go.RowKit

theorem i64w {z : Int} (h : -9223372036854775808 ≤ z) (h2 : z ≤ 9223372036854775807) : IntKind.i64.wrap z = z := by rw [IntKind.wrap_i64]; omega
theorem owns_block {w : World} {base n size : Nat} {e : TypeId} {v : Value} {xs : List Value} (h : w.ownsRow base e size v n xs) : ∀ k, v.ownBlock = some k → base ≤ k := by
  intro k hk
  rcases h.2 with ⟨rfl, -⟩ | ⟨g, cap, cur, rfl, hg, -⟩
  · cases hk
  · obtain rfl := Option.some.inj hk; exact hg
theorem owns_keep {w w' : World} {base n size : Nat} {e : TypeId} {v : Value} {xs : List Value} (h : w.ownsRow base e size v n xs) (hk : ∀ k, v.ownBlock = some k → w'.heap[k]? = w.heap[k]?) : w'.ownsRow base e size v n xs := by
  refine ⟨h.1, ?_⟩
  rcases h.2 with h2 | ⟨g, cap, cur, rfl, hg, hh, r⟩
  · exact Or.inl h2
  · exact Or.inr ⟨g, cap, cur, rfl, hg, by rw [hk g rfl]; exact hh, r⟩
theorem owns_lt {w : World} {base n size : Nat} {e : TypeId} {v : Value} {xs : List Value} (h : w.ownsRow base e size v n xs) : ∀ k, v.ownBlock = some k → k < w.heap.size := by
  intro k hk
  rcases h.2 with ⟨rfl, -⟩ | ⟨g, cap, cur, rfl, hg, hh, -⟩
  · cases hk
  · obtain rfl := Option.some.inj hk; exact (Array.getElem?_eq_some_iff.1 hh).1
theorem owns_base {w : World} {base base' n size : Nat} {e : TypeId} {v : Value} {xs : List Value} (h : w.ownsRow base e size v n xs) (hb : base' ≤ base) : w.ownsRow base' e size v n xs := by
  refine ⟨h.1, ?_⟩
  rcases h.2 with h2 | ⟨g, cap, cur, rfl, hg, r⟩
  · exact Or.inl h2
  · exact Or.inr ⟨g, cap, cur, rfl, Nat.le_trans hb hg, r⟩
theorem owns_step {w w' : World} {b base n size : Nat} {e : TypeId} {v : Value} {xs : List Value} (h : w.ownsRow base e size v n xs) (hb : b < base) (hs : StepT b w w') : w'.ownsRow base e size v n xs :=
  owns_keep h fun k hk => hs.block k (owns_lt h k hk) (by have := owns_block h k hk; omega)
/-- Two rows of different types lie in different blocks. -/
theorem owns_apart {w : World} {base base' n n' size size' : Nat} {e e' : TypeId} {v v' : Value} {xs xs' : List Value} (h : w.ownsRow base e size v n xs) (h' : w.ownsRow base' e' size' v' n' xs') (he : e ≠ e') (k : Nat) (hk : v.ownBlock = some k) : v'.ownBlock ≠ some k := by
  intro hk'
  rcases h.2 with ⟨rfl, -⟩ | ⟨g, cap, cur, rfl, hg, hh, -⟩
  · cases hk
  · rcases h'.2 with ⟨rfl, -⟩ | ⟨g', cap', cur', rfl, hg', hh', -⟩
    · cases hk'
    · obtain rfl := Option.some.inj hk
      have hgg : g' = g := Option.some.inj hk'
      rw [hgg] at hh'
      have hh2 := hh.symm.trans hh'
      injection hh2 with hh2
      injection hh2 with _ h2 _
      exact he h2

theorem step_grown {b : Nat} {u v : World} {row : Option Nat} (hg : u.grownBy v row) (hr : ∀ k, row = some k → u.heap.size ≤ k ∨ k = b) : StepT b u v :=
  ⟨hg.os, hg.tape, hg.output, hg.size, fun k hk hb => hg.block k hk (by intro he; rcases hr k he.symm with h | h <;> omega)⟩
/-- Behind a growth of a row that the call has made since u0. -/
theorem step_grown_from {b : Nat} {u0 u v : World} {row : Option Nat} (h : StepT b u0 u) (hg : u.grownBy v row) (hr : ∀ k, row = some k → u0.heap.size ≤ k) : StepT b u0 v :=
  ⟨hg.os.trans h.os, hg.tape.trans h.tape, hg.output.trans h.output, Nat.le_trans h.size hg.size, fun k hk hb => (hg.block k (Nat.lt_of_lt_of_le hk h.size) (by intro he; have := hr k he.symm; omega)).trans (h.block k hk hb)⟩
theorem TapeAt.grown {b : Nat} {u v : World} {row : Option Nat} (h : TapeAt u b) (hg : u.grownBy v row) (hr : ∀ k, row = some k → b < k) : TapeAt v b :=
  h.keep (fun k hk => hg.block k (Nat.lt_of_le_of_lt hk h.lt) (by intro he; have := hr k he.symm; omega)) hg.size
end Go.Proofs.YtlpaphgmdcpmaaaGreatDoor
/-
  Rows that the call owns, as lists of values; value slices as arguments.
-/
namespace Go.Proofs.YtlpaphgmdcpmaaaGreatDoor
set_option maxRecDepth 100000
open Go.ChangeShapes Go.WideShapes Go.ChangeAt Go.RowKit

/-- The cells of a list of values. -/
def vcells : List Val → List Value
  | [] => []
  | x :: l => .int .i64 x.1 :: .int .i64 x.2.1 :: .string x.2.2 :: vcells l
theorem vcells_length (l : List Val) : (vcells l).length = l.length * 3 := by
  induction l with
  | nil => rfl
  | cons x l ih => simp only [vcells, List.length_cons, ih]; omega
theorem vcells_append (a b : List Val) : vcells (a ++ b) = vcells a ++ vcells b := by
  induction a with
  | nil => rfl
  | cons x a ih => simp only [List.cons_append, vcells, ih]
theorem vcells_at (l : List Val) : ∀ i, i < l.length → (vcells l)[i * 3]? = some (.int .i64 (vAt l i).1) ∧ (vcells l)[i * 3 + 1]? = some (.int .i64 (vAt l i).2.1) ∧ (vcells l)[i * 3 + 2]? = some (.string (vAt l i).2.2) := by
  induction l with
  | nil => intro i hi; simp at hi
  | cons x l ih =>
    intro i hi
    cases i with
    | zero => exact ⟨rfl, rfl, rfl⟩
    | succ i =>
      have h := ih i (by simpa using hi)
      have e : vAt (x :: l) (i + 1) = vAt l i := by simp [vAt]
      rw [e, Nat.succ_mul]
      exact h
theorem vcells_one (l : List Val) : ∀ u ∈ vcells l, u.oneCell' = true := by
  induction l with
  | nil => intro u hu; simp [vcells] at hu
  | cons x l ih =>
    intro u hu
    simp only [vcells, List.mem_cons] at hu
    rcases hu with rfl | rfl | rfl | hu
    · rfl
    · rfl
    · rfl
    · exact ih u hu

theorem row_of_owns {w : World} {base n : Nat} {e : TypeId} {v : Value} {l : List Val} (h : w.ownsRow base e 3 v n (vcells l)) :
    ∃ p cap, v = .slice p n cap ∧ n = l.length ∧ RowAt w p l := by
  obtain ⟨hl, h⟩ := h
  rw [vcells_length] at hl
  have hn : n = l.length := by omega
  rcases h with ⟨rfl, h0⟩ | ⟨g, cap, cur, rfl, hg, hh, hcap, hm, hcur, htake⟩
  · exact ⟨none, 0, by rw [h0], hn, fun i hi => by omega⟩
  · refine ⟨_, cap, rfl, hn, fun i hi => ⟨g, 0, rfl, (Array.getElem?_eq_some_iff.1 hh).1, ?_⟩⟩
    have key : ∀ j v, (vcells l)[j]? = some v → w.cell? ⟨g, 0 + j, none⟩ = some v := by
      intro j v hj
      rw [← htake] at hj
      have hj' : cur.toList[j]? = some v := by
        rw [List.getElem?_take] at hj
        split at hj
        · exact hj
        · cases hj
      simp [World.cell?, hh]
      simpa using hj'
    obtain ⟨h0, h1, h2⟩ := vcells_at l i hi
    exact ⟨key _ _ h0, key _ _ h1, key _ _ h2⟩

theorem info_val : (Tryz.prog.info? 23).map (fun i => (i.zero, i.size, i.bytes)) = some (some (.agg #[.int .i64 0, .int .i64 0, .string ⟨#[]⟩]), 3, 32) := by kernel_rfl

/-- What an append asks of a source. -/
theorem news_of_row {w : World} {p : Option Addr} {l : List Val} (h : RowAt w p l) (a : Addr) (hp : p = some a) : ∀ j u, (vcells l)[j]? = some u → w.cell? (a.add j) = some u := by
  intro j u hj
  have hjl : j < l.length * 3 := by
    have := (List.getElem?_eq_some_iff.1 hj).1
    rw [vcells_length] at this; exact this
  have hi : j / 3 < l.length := by omega
  obtain ⟨c, o, hc, -, h0, h1, h2⟩ := h (j / 3) hi
  rw [hp] at hc
  obtain rfl := Option.some.inj hc
  obtain ⟨v0, v1, v2⟩ := vcells_at l (j / 3) hi
  have ha : (⟨c, o, none⟩ : Addr).add j = ⟨c, o + j, none⟩ := by unfold Addr.add; split <;> simp_all
  rw [ha]
  have hr : j % 3 = 0 ∨ j % 3 = 1 ∨ j % 3 = 2 := by omega
  rcases hr with hr | hr | hr
  · have e : j = j / 3 * 3 := by omega
    rw [e] at hj ⊢
    have e2 : j / 3 * 3 / 3 = j / 3 := by omega
    rw [v0] at hj; obtain rfl := Option.some.inj hj; exact h0
  · have e : j = j / 3 * 3 + 1 := by omega
    rw [e] at hj ⊢
    rw [v1] at hj; obtain rfl := Option.some.inj hj; exact h1
  · have e : j = j / 3 * 3 + 2 := by omega
    rw [e] at hj ⊢
    rw [v2] at hj; obtain rfl := Option.some.inj hj; exact h2

/-- append(v, xs...) of values, v the call's own, xs nil or not. -/
theorem wpList_append_vals {w : World} {ops : Array Oper} {rest : List Oper} {o : Oper} {a : Act} {Q : Exit → Act → World → Prop} (hgd : o.guard = none) (s x : Operand)
    (ho : o.op = .call { callee := .builtin .append, args := #[s, x], argTypes := #[70, 70] })
    (base : Nat) (v : Value) (n : Nat) (l : List Val) (hs : a.eval s = v) (hown : w.ownsRow base 23 3 v n (vcells l))
    (px : Option Addr) (lx : List Val) (cx : Nat) (hx : a.eval x = .slice px lx.length cx) (hrow : RowAt w px lx) (hnil : px = none → lx = [] ∧ cx = 0) (hsum : (n + lx.length) * 32 ≤ 140737488355328) (hbase : base ≤ w.heap.size)
    (h : ∀ v' w', w'.ownsRow base 23 3 v' (n + lx.length) (vcells (l ++ lx)) → w.grownBy w' v.ownBlock → wpList Tryz.prog ops Q rest (a.put o.dst v') w') : wpList Tryz.prog ops Q (o :: rest) a w := by
  obtain ⟨i0, hi, hz0, hz1, hz2⟩ := info_parts info_val
  cases px with
  | none =>
    obtain ⟨rfl, rfl⟩ := hnil rfl
    refine wpList_append_own_none hgd s x 70 ho base 23 i0 3 Tryz.underlying70 hi v n (vcells l) hs hown hx ?_
    exact h v w (by simpa using hown) (World.grownBy.refl w _)
  | some ad =>
    refine wpList_append_own w hgd s x 70 ho base 23 i0 _ 3 32 Tryz.underlying70 hi hz0 hz1 hz2 rfl (by decide) v n (vcells l) hs hown ad lx.length cx (vcells lx) hx (vcells_length lx) (news_of_row hrow ad rfl) (vcells_one lx) (by unfold maxLen; omega) hsum hbase ?_
    intro v' w' h1 h2 _
    exact h v' w' (by rw [vcells_append]; exact h1) h2

theorem owns_empty (w : World) : (w.alloc (.cells #[] 23)).ownsRow w.heap.size 23 3 (.slice (some ⟨w.heap.size, 0, none⟩) 0 0) 0 (vcells []) := by
  refine ⟨rfl, Or.inr ⟨w.heap.size, 0, #[], rfl, Nat.le_refl _, ?_, Nat.le_refl _, by decide, rfl, rfl⟩⟩
  show (w.heap.push _)[w.heap.size]? = _
  simp

theorem grown_below {B : Nat} {w u v : World} {row : Option Nat} (hB : Below B w u) (hz : B ≤ u.heap.size) (hg : u.grownBy v row) (hr : ∀ k, row = some k → B ≤ k) : Below B w v := hB.grown hg hz hr
theorem cmpRow_self (l : List Val) : cmpRow l l = 0 := by
  induction l with
  | nil => rfl
  | cons x l ih =>
    have h : cmpVal x x = 0 := (cmpV_zero _ _ _ _ _ _).2 ⟨rfl, rfl, rfl⟩
    rw [cmpRow, if_pos h]; exact ih

theorem bulk_one {H : Type} (d : DataW H) : 1 ≤ Rows.uptoBulk d := by
  cases d with
  | lit l => cases l <;> simp [Rows.uptoBulk]
  | _ => simp [Rows.uptoBulk]
theorem bulk_length {H : Type} (l : List (DataW H)) : l.length ≤ Rows.uptoBulkAll l := by
  induction l with
  | nil => simp [Rows.uptoBulkAll]
  | cons x r ih => have := bulk_one x; simp only [Rows.uptoBulkAll, List.length_cons]; omega
theorem bulk_slice {H : Type} (n : Nat) (elems spare : List (DataW H)) (h : elems.length = n) : n ≤ Rows.uptoBulk (.slice elems spare) := by
  have := bulk_length elems
  simp only [Rows.uptoBulk]; omega

theorem list_three {l : List Value} (h : l.length = 3) : ∃ a b c, l = [a, b, c] := by
  match l, h with
  | [a, b, c], _ => exact ⟨a, b, c, rfl⟩

theorem exists_list {P : Nat → Val → Prop} {n : Nat} (h : ∀ i, i < n → ∃ x, P i x) : ∃ l : List Val, l.length = n ∧ ∀ i, i < n → P i (vAt l i) := by
  induction n with
  | zero => exact ⟨[], rfl, fun i hi => by omega⟩
  | succ n ih =>
    obtain ⟨l, hl, hp⟩ := ih (fun i hi => h i (by omega))
    obtain ⟨x, hx⟩ := h n (by omega)
    refine ⟨l ++ [x], by simp [hl], fun i hi => ?_⟩
    by_cases hin : i < n
    · have e : vAt (l ++ [x]) i = vAt l i := by unfold vAt; rw [List.getD, List.getElem?_append_left (by omega)]; rfl
      rw [e]; exact hp i hin
    · obtain rfl : i = n := by omega
      have e : vAt (l ++ [x]) i = x := by unfold vAt; rw [List.getD, List.getElem?_append_right (by omega), hl]; simp
      rw [e]; exact hx

section
variable {H : Type} {enc : TypeId × Value → H} {W : World} {v : Value} {d : DataW H} {p : List MemPlace}
set_option maxRecDepth 100000 in
/-- An argument of type []api.Value. -/
theorem open_vals (hv : ∃ b, Value.okWide Tryz.prog W .any b 70 v) (h : DataW.Trod enc Tryz.prog W 0 (fun _ => true) true 70 v d p) :
    ∃ (a : Option Addr) (l : List Val) (cap : Nat), v = .slice a l.length cap ∧ l.length ≤ cap ∧ l.length ≤ 9223372036854775807 ∧ RowAt W a l ∧ (a = none → l = [] ∧ cap = 0) ∧ l.length ≤ Rows.uptoBulk d := by
  obtain ⟨b, hv⟩ := hv
  obtain ⟨a0, len, cap, rfl⟩ := okWide_slice Tryz.underlying70 hv
  obtain ⟨fuel, hf⟩ := h
  have c3 : Tryz.prog.cellsOf 23 = 3 := by kernel_rfl
  rcases Deep.open_slice Tryz.underlying70 hf with ⟨hcs, hx⟩ | ⟨a, len', cap', m, n, D, Pl, hcs, hb, hl, hm, hmm, hx, hi⟩
  · simp only [Value.cells, List.cons.injEq, and_true, Value.slice.injEq] at hcs
    obtain ⟨rfl, rfl, rfl⟩ := hcs
    exact ⟨none, [], 0, rfl, Nat.le_refl _, by decide, fun i hi => by simp at hi, fun _ => ⟨rfl, rfl⟩, Nat.zero_le _⟩
  · simp only [Value.cells, List.cons.injEq, and_true, Value.slice.injEq] at hcs
    obtain ⟨rfl, rfl, rfl⟩ := hcs
    rw [if_pos rfl] at hmm
    have hone : ∀ i, i < len → ∃ x : Val, W.cell? ((a.add (i * 3)).add 0) = some (.int .i64 x.1) ∧ W.cell? ((a.add (i * 3)).add 1) = some (.int .i64 x.2.1) ∧ W.cell? ((a.add (i * 3)).add 2) = some (.string x.2.2) := by
      intro i hi'
      obtain ⟨cs', hc, ht'⟩ := hi i (by omega)
      rw [c3] at hc
      obtain ⟨_, hcl, hat⟩ := World.cells?_some hc
      obtain ⟨xs, m', _, _, _, hxl, hf⟩ := DataW.trod_struct Tryz.underlying23 ht'
      have ci : Tryz.prog.cellsOf 3 = 1 := by kernel_rfl
      have cj : Tryz.prog.cellsOf 2 = 1 := by kernel_rfl
      have ck : Tryz.prog.cellsOf 9 = 1 := by kernel_rfl
      obtain ⟨u0, u1, u2, rfl⟩ := list_three hcl
      · have h0 : DataW.trod enc Tryz.prog W 0 (fun _ => true) true m' 3 (([u0, u1, u2].drop 0).take (Tryz.prog.cellsOf 3)) = xs[0]? := hf 0 _ rfl
        have h1 : DataW.trod enc Tryz.prog W 0 (fun _ => true) true m' 2 (([u0, u1, u2].drop 1).take (Tryz.prog.cellsOf 2)) = xs[1]? := hf 1 _ rfl
        have h2 : DataW.trod enc Tryz.prog W 0 (fun _ => true) true m' 9 (([u0, u1, u2].drop 2).take (Tryz.prog.cellsOf 9)) = xs[2]? := hf 2 _ rfl
        rw [ci] at h0
        rw [cj] at h1
        rw [ck] at h2
        simp only [List.drop_zero, List.drop_succ_cons, List.take_succ_cons, List.take_zero] at h0 h1 h2
        have hl3 : xs.length = 3 := hxl
        rw [List.getElem?_eq_getElem (by omega)] at h0 h1 h2
        obtain ⟨k, e0, -, -⟩ := DataW.trod_int Tryz.underlying3 h0
        obtain ⟨n, e1, -, -⟩ := DataW.trod_int Tryz.underlying2 h1
        obtain ⟨t, e2, -, -⟩ := DataW.trod_string Tryz.underlying9 h2
        simp only [List.cons.injEq, and_true] at e0 e1 e2
        subst e0 e1 e2
        exact ⟨(k, n, t), by rw [hat 0 (by omega)]; rfl, by rw [hat 1 (by omega)]; rfl, by rw [hat 2 (by omega)]; rfl⟩
    obtain ⟨l, hll, hl'⟩ := exists_list hone
    subst hll
    obtain ⟨c, o, sp⟩ := a
    have hbulk : l.length ≤ Rows.uptoBulk d := by
      rw [(Prod.mk.inj hx).1]
      exact bulk_slice _ _ _ (by simp)
    refine ⟨some ⟨c, o, sp⟩, l, cap, rfl, hl, by unfold maxLen at hm; omega, fun i hi' => ?_, (fun h => by cases h), hbulk⟩
    have hsp : sp = none := by
      obtain ⟨h0, -, -⟩ := hl' 0 (by omega)
      simpa [Addr.add] using World.cell?_spot h0
    subst hsp
    have ha : ∀ x y, ((⟨c, o, none⟩ : Addr).add x).add y = ⟨c, o + x + y, none⟩ := by
      intro x y
      unfold Addr.add
      split <;> split <;> simp_all
    obtain ⟨h0, h1, h2⟩ := hl' i hi'
    rw [ha] at h0 h1 h2
    exact ⟨c, o, rfl, World.block_lt_of_cell? W _ h0, h0, h1, h2⟩
end
end Go.Proofs.YtlpaphgmdcpmaaaGreatDoor
