/-
  The order of rows is total. Plain; and how rows that have been made are read.
-/
import Derived.Test.YtlgagibmndbimaaDoorTapeRows
namespace Go.Proofs.YtlgagibmndbimaaDoor
open Go Go.RowKit

theorem cmpVal_bd (x y : Val) : -1 ≤ cmpVal x y ∧ cmpVal x y ≤ 1 := cmpV_bd _ _ _ _ _ _
theorem cmpVal_neg (x y : Val) : cmpVal x y = - cmpVal y x := cmpV_neg _ _ _ _ _ _
theorem cmpRow_bd (a b : List Val) : -1 ≤ cmpRow a b ∧ cmpRow a b ≤ 1 := by
  induction a generalizing b with
  | nil => cases b <;> simp [cmpRow]
  | cons x a ih =>
    cases b with
    | nil => simp [cmpRow]
    | cons y b =>
      rw [cmpRow]
      split
      · exact ih b
      · exact cmpVal_bd x y
theorem cmpRow_neg (a b : List Val) : cmpRow a b = - cmpRow b a := by
  induction a generalizing b with
  | nil => cases b <;> simp [cmpRow]
  | cons x a ih =>
    cases b with
    | nil => simp [cmpRow]
    | cons y b =>
      rw [cmpRow, cmpRow]
      by_cases h : cmpVal x y = 0
      · have h2 : cmpVal y x = 0 := by rw [cmpVal_neg y x, h]; rfl
        rw [if_pos h, if_pos h2]; exact ih b
      · have h2 : ¬ cmpVal y x = 0 := fun e => h (by rw [cmpVal_neg x y, e]; rfl)
        rw [if_neg h, if_neg h2]; exact cmpVal_neg x y
theorem cmpRow_prefix (a : List Val) (x : Val) : cmpRow a (a ++ [x]) = -1 := by
  induction a with
  | nil => rfl
  | cons y a ih =>
    have h : cmpVal y y = 0 := (cmpV_zero _ _ _ _ _ _).2 ⟨rfl, rfl, rfl⟩
    rw [List.cons_append, cmpRow, if_pos h]; exact ih
theorem cmpRow_prefix' (a : List Val) (x : Val) : cmpRow (a ++ [x]) a = 1 := by rw [cmpRow_neg, cmpRow_prefix]; rfl
theorem cmpRow_first {a b : List Val} (ha : 0 < a.length) (hb : 0 < b.length) (h : ¬ cmpVal (vAt a 0) (vAt b 0) = 0) : cmpRow a b = cmpVal (vAt a 0) (vAt b 0) := by
  have := cmpRow_stop (a := a) (b := b) (i := 0) ha hb h
  simpa using this.symm
theorem cmpVal_zero (x y : Val) : cmpVal x y = 0 ↔ x = y := by
  unfold cmpVal
  rw [cmpV_zero]
  constructor
  · rintro ⟨h1, h2, h3⟩
    exact Prod.ext h1 (Prod.ext h2 h3)
  · rintro rfl; exact ⟨rfl, rfl, rfl⟩
theorem cmpRow_trans {a b c : List Val} (h1 : cmpRow a b ≤ 0) (h2 : cmpRow b c ≤ 0) : cmpRow a c ≤ 0 := by
  induction a generalizing b c with
  | nil => cases c <;> simp [cmpRow]
  | cons x a ih =>
    cases b with
    | nil => simp [cmpRow] at h1
    | cons y b =>
      cases c with
      | nil => simp [cmpRow] at h2
      | cons z c =>
        rw [cmpRow] at h1 h2 ⊢
        by_cases hxy : cmpVal x y = 0
        · have := (cmpVal_zero x y).1 hxy
          subst this
          rw [if_pos hxy] at h1
          by_cases hyz : cmpVal x z = 0
          · rw [if_pos hyz] at h2 ⊢
            exact ih h1 h2
          · rw [if_neg hyz] at h2 ⊢
            exact h2
        · rw [if_neg hxy] at h1
          by_cases hyz : cmpVal y z = 0
          · have := (cmpVal_zero y z).1 hyz
            subst this
            rw [if_neg hxy]; exact h1
          · rw [if_neg hyz] at h2
            have hxz : cmpVal x z ≤ 0 := cmpV_trans h1 h2
            split
            · rename_i hz
              exfalso
              have := (cmpVal_zero x z).1 hz
              subst this
              have h3 := cmpVal_neg x y
              have h4 := cmpVal_bd x y
              have h5 : cmpVal x y = 0 := by omega
              exact hxy h5
            · exact hxz

/-- A row's slice: where it lies, and its capacity. -/
def rowP (v : Value) : Option Addr := match v with | .slice p _ _ => p | _ => none
def rowC (v : Value) : Nat := match v with | .slice _ _ c => c | _ => 0
def gAt (G : List (Value × List Val)) (i : Nat) : Value × List Val := G.getD i (.slice none 0 0, [])

theorem owned_shape {u : World} {base : Nat} {v : Value} {l : List Val} (h : u.ownsRow base 34 3 v l.length (vcells l)) :
    v = .slice (rowP v) l.length (rowC v) ∧ RowAt u (rowP v) l ∧ (rowP v = none → l = [] ∧ rowC v = 0) := by
  obtain ⟨p, cap, hv, hn, hr⟩ := row_of_owns h
  refine ⟨by rw [hv]; rfl, by rw [hv]; exact hr, fun hp => ?_⟩
  rcases h.2 with ⟨rfl, h0⟩ | ⟨g, cap', cur, rfl, -⟩
  · exact ⟨List.eq_nil_of_length_eq_zero h0, rfl⟩
  · cases hp

/-- The i-th row that has been made, as a load reads it. -/
theorem Grid.read {u : World} {base : Nat} {p : Option Addr} {cap : Nat} {G : List (Value × List Val)} (h : Grid u base (.slice p G.length cap) G) (i : Nat) (hi : i < G.length) :
    ∃ g : Nat, p = some ⟨g, 0, none⟩ ∧ u.cell? ⟨g, i, none⟩ = some (.slice (rowP (gAt G i).1) (gAt G i).2.length (rowC (gAt G i).1)) ∧ RowAt u (rowP (gAt G i).1) (gAt G i).2 ∧ (rowP (gAt G i).1 = none → (gAt G i).2 = [] ∧ rowC (gAt G i).1 = 0) ∧ (gAt G i).2.length ≤ 4 := by
  have hmem : gAt G i ∈ G := by unfold gAt; rw [List.getD, List.getElem?_eq_getElem hi]; exact List.getElem_mem hi
  obtain ⟨hown, hlen⟩ := h.2 _ hmem
  obtain ⟨hv, hr, hn⟩ := owned_shape hown
  rcases h.1.2 with ⟨-, h0⟩ | ⟨g, cap', cur, he, hg, hh, hcap, hm, hcur, htake⟩
  · omega
  · injection he with he1 he2 he3
    refine ⟨g, he1, ?_, hr, hn, hlen⟩
    rw [← hv]
    have hj : (G.map (·.1))[i]? = some (gAt G i).1 := by
      rw [List.getElem?_map, List.getElem?_eq_getElem hi]
      simp [gAt, hi]
    rw [← htake, List.getElem?_take] at hj
    have hj' : cur.toList[i]? = some (gAt G i).1 := by
      split at hj
      · exact hj
      · cases hj
    simp [World.cell?, hh]
    simpa using hj'
theorem Grid.shape {u : World} {base : Nat} {vo : Value} {G : List (Value × List Val)} (h : Grid u base vo G) : vo = .slice (rowP vo) G.length (rowC vo) := by
  rcases h.1.2 with ⟨rfl, h0⟩ | ⟨g, cap', cur, rfl, -⟩
  · rw [h0]; rfl
  · rfl
end Go.Proofs.YtlgagibmndbimaaDoor
