/-
  Several texts in one.
-/
import Derived.Test.YtlpaphgmdcpmaaaGreatDoorPk06
import Derived.Deep.Cut
import Derived.Laws.CopyOwn
import Derived.Test.YtlpaphgmdcpmaaaGreatDoorPk04
/-
  Rows of the tape: at most n rows of at most four values.
-/
namespace Go.Proofs.YtlpaphgmdcpmaaaGreatDoor
set_option maxRecDepth 100000
open Go.RowKit

theorem info_rows : (Tryz.prog.info? 70).map (fun i => (i.zero, i.size, i.bytes)) = some (some (.slice none 0 0), 1, 24) := by kernel_rfl

/-- The rows that have been made. -/
def Grid (u : World) (base : Nat) (vo : Value) (G : List (Value × List Val)) : Prop :=
  u.ownsRow base 70 1 vo G.length (G.map (·.1)) ∧ ∀ x ∈ G, u.ownsRow base 23 3 x.1 x.2.length (vcells x.2) ∧ x.2.length ≤ 4
theorem Grid.step {u v : World} {b base : Nat} {vo : Value} {G : List (Value × List Val)} (h : Grid u base vo G) (hb : b < base) (hs : StepT b u v) : Grid v base vo G :=
  ⟨owns_step h.1 hb hs, fun x hx => ⟨owns_step (h.2 x hx).1 hb hs, (h.2 x hx).2⟩⟩

theorem Grid.add {u v : World} {base : Nat} {vo vo' x : Value} {l : List Val} {G : List (Value × List Val)} (h : Grid u base vo G) (hx : u.ownsRow base 23 3 x l.length (vcells l)) (hl : l.length ≤ 4)
    (ho : v.ownsRow base 70 1 vo' (G.length + 1) (G.map (·.1) ++ [x])) (hg : u.grownBy v vo.ownBlock) : Grid v base vo' (G ++ [(x, l)]) := by
  have key : ∀ (y : Value) (m : List Val), u.ownsRow base 23 3 y m.length (vcells m) → v.ownsRow base 23 3 y m.length (vcells m) := fun y m hy =>
    owns_keep hy fun k hk => hg.block k (owns_lt hy k hk) (fun he => owns_apart hy h.1 (by decide) k hk he.symm)
  refine ⟨by simpa using ho, fun z hz => ?_⟩
  rcases List.mem_append.1 hz with hz | hz
  · exact ⟨key _ _ (h.2 z hz).1, (h.2 z hz).2⟩
  · obtain rfl : z = (x, l) := by simpa using hz
    exact ⟨key _ _ hx, hl⟩
theorem row_new (u : World) (k n : Int) (s : ByteArray) (t : TypeId) : RowAt (u.alloc (.cells #[.int .i64 k, .int .i64 n, .string s] t)) (some ⟨u.heap.size, 0, none⟩) [(k, n, s)] := by
  intro i hi
  obtain rfl : i = 0 := by simpa using hi
  have hb := BoxAt.new u (k, n, s) t
  exact ⟨u.heap.size, 0, rfl, hb.1, hb.2.1, hb.2.2.1, hb.2.2.2⟩

def RowsPost (b : Nat) (n : Int) (w : World) (e : Ending) (w' : World) : Prop := ∃ (v : Value) (G : List (Value × List Val)), e = .returned v ∧ Grid w' w.heap.size v G ∧ (G.length : Int) ≤ n ∧ TapeAt w' b ∧ StepT b w w'

end Go.Proofs.YtlpaphgmdcpmaaaGreatDoor
/-
  The order of rows is total. Plain; and how rows that have been made are read.
-/
namespace Go.Proofs.YtlpaphgmdcpmaaaGreatDoor
set_option maxRecDepth 100000
open Go Go.RowKit

theorem cmpVal_bd (x y : Val) : -1 ≤ cmpVal x y ∧ cmpVal x y ≤ 1 := cmpV_bd _ _ _ _ _ _
theorem cmpVal_neg (x y : Val) : cmpVal x y = - cmpVal y x := cmpV_neg _ _ _ _ _ _
theorem cmpRow_bd (a b : List Val) : -1 ≤ cmpRow a b ∧ cmpRow a b ≤ 1 := by
  induction a generalizing b with
  | nil => cases b <;> simp [cmpRow]
  | cons x a ih =>
    cases b with
    | nil => simp [cmpRow]
    | cons y b =>
      rw [cmpRow]
      split
      · exact ih b
      · exact cmpVal_bd x y
theorem cmpRow_neg (a b : List Val) : cmpRow a b = - cmpRow b a := by
  induction a generalizing b with
  | nil => cases b <;> simp [cmpRow]
  | cons x a ih =>
    cases b with
    | nil => simp [cmpRow]
    | cons y b =>
      rw [cmpRow, cmpRow]
      by_cases h : cmpVal x y = 0
      · have h2 : cmpVal y x = 0 := by rw [cmpVal_neg y x, h]; rfl
        rw [if_pos h, if_pos h2]; exact ih b
      · have h2 : ¬ cmpVal y x = 0 := fun e => h (by rw [cmpVal_neg x y, e]; rfl)
        rw [if_neg h, if_neg h2]; exact cmpVal_neg x y
theorem cmpRow_prefix (a : List Val) (x : Val) : cmpRow a (a ++ [x]) = -1 := by
  induction a with
  | nil => rfl
  | cons y a ih =>
    have h : cmpVal y y = 0 := (cmpV_zero _ _ _ _ _ _).2 ⟨rfl, rfl, rfl⟩
    rw [List.cons_append, cmpRow, if_pos h]; exact ih
theorem cmpRow_prefix' (a : List Val) (x : Val) : cmpRow (a ++ [x]) a = 1 := by rw [cmpRow_neg, cmpRow_prefix]; rfl
theorem cmpRow_first {a b : List Val} (ha : 0 < a.length) (hb : 0 < b.length) (h : ¬ cmpVal (vAt a 0) (vAt b 0) = 0) : cmpRow a b = cmpVal (vAt a 0) (vAt b 0) := by
  have := cmpRow_stop (a := a) (b := b) (i := 0) ha hb h
  simpa using this.symm
theorem cmpVal_zero (x y : Val) : cmpVal x y = 0 ↔ x = y := by
  unfold cmpVal
  rw [cmpV_zero]
  constructor
  · rintro ⟨h1, h2, h3⟩
    exact Prod.ext h1 (Prod.ext h2 h3)
  · rintro rfl; exact ⟨rfl, rfl, rfl⟩
theorem cmpRow_trans {a b c : List Val} (h1 : cmpRow a b ≤ 0) (h2 : cmpRow b c ≤ 0) : cmpRow a c ≤ 0 := by
  induction a generalizing b c with
  | nil => cases c <;> simp [cmpRow]
  | cons x a ih =>
    cases b with
    | nil => simp [cmpRow] at h1
    | cons y b =>
      cases c with
      | nil => simp [cmpRow] at h2
      | cons z c =>
        rw [cmpRow] at h1 h2 ⊢
        by_cases hxy : cmpVal x y = 0
        · have := (cmpVal_zero x y).1 hxy
          subst this
          rw [if_pos hxy] at h1
          by_cases hyz : cmpVal x z = 0
          · rw [if_pos hyz] at h2 ⊢
            exact ih h1 h2
          · rw [if_neg hyz] at h2 ⊢
            exact h2
        · rw [if_neg hxy] at h1
          by_cases hyz : cmpVal y z = 0
          · have := (cmpVal_zero y z).1 hyz
            subst this
            rw [if_neg hxy]; exact h1
          · rw [if_neg hyz] at h2
            have hxz : cmpVal x z ≤ 0 := cmpV_trans h1 h2
            split
            · rename_i hz
              exfalso
              have := (cmpVal_zero x z).1 hz
              subst this
              have h3 := cmpVal_neg x y
              have h4 := cmpVal_bd x y
              have h5 : cmpVal x y = 0 := by omega
              exact hxy h5
            · exact hxz

/-- A row's slice: where it lies, and its capacity. -/
def rowP (v : Value) : Option Addr := match v with | .slice p _ _ => p | _ => none
def rowC (v : Value) : Nat := match v with | .slice _ _ c => c | _ => 0
def gAt (G : List (Value × List Val)) (i : Nat) : Value × List Val := G.getD i (.slice none 0 0, [])

theorem owned_shape {u : World} {base : Nat} {v : Value} {l : List Val} (h : u.ownsRow base 23 3 v l.length (vcells l)) :
    v = .slice (rowP v) l.length (rowC v) ∧ RowAt u (rowP v) l ∧ (rowP v = none → l = [] ∧ rowC v = 0) := by
  obtain ⟨p, cap, hv, hn, hr⟩ := row_of_owns h
  refine ⟨by rw [hv]; rfl, by rw [hv]; exact hr, fun hp => ?_⟩
  rcases h.2 with ⟨rfl, h0⟩ | ⟨g, cap', cur, rfl, -⟩
  · exact ⟨List.eq_nil_of_length_eq_zero h0, rfl⟩
  · cases hp

/-- The i-th row that has been made, as a load reads it. -/
theorem Grid.read {u : World} {base : Nat} {p : Option Addr} {cap : Nat} {G : List (Value × List Val)} (h : Grid u base (.slice p G.length cap) G) (i : Nat) (hi : i < G.length) :
    ∃ g : Nat, p = some ⟨g, 0, none⟩ ∧ u.cell? ⟨g, i, none⟩ = some (.slice (rowP (gAt G i).1) (gAt G i).2.length (rowC (gAt G i).1)) ∧ RowAt u (rowP (gAt G i).1) (gAt G i).2 ∧ (rowP (gAt G i).1 = none → (gAt G i).2 = [] ∧ rowC (gAt G i).1 = 0) ∧ (gAt G i).2.length ≤ 4 := by
  have hmem : gAt G i ∈ G := by unfold gAt; rw [List.getD, List.getElem?_eq_getElem hi]; exact List.getElem_mem hi
  obtain ⟨hown, hlen⟩ := h.2 _ hmem
  obtain ⟨hv, hr, hn⟩ := owned_shape hown
  rcases h.1.2 with ⟨-, h0⟩ | ⟨g, cap', cur, he, hg, hh, hcap, hm, hcur, htake⟩
  · omega
  · injection he with he1 he2 he3
    refine ⟨g, he1, ?_, hr, hn, hlen⟩
    rw [← hv]
    have hj : (G.map (·.1))[i]? = some (gAt G i).1 := by
      rw [List.getElem?_map, List.getElem?_eq_getElem hi]
      simp [gAt, hi]
    rw [← htake, List.getElem?_take] at hj
    have hj' : cur.toList[i]? = some (gAt G i).1 := by
      split at hj
      · exact hj
      · cases hj
    simp [World.cell?, hh]
    simpa using hj'
theorem Grid.shape {u : World} {base : Nat} {vo : Value} {G : List (Value × List Val)} (h : Grid u base vo G) : vo = .slice (rowP vo) G.length (rowC vo) := by
  rcases h.1.2 with ⟨rfl, h0⟩ | ⟨g, cap', cur, rfl, -⟩
  · rw [h0]; rfl
  · rfl
end Go.Proofs.YtlpaphgmdcpmaaaGreatDoor
/-
  Lists of rows, sorted; differences of bags. No program.
-/
namespace Go.Proofs.YtlpaphgmdcpmaaaGreatDoor
set_option maxRecDepth 100000
open Go

instance (priority := 2000) rowBEq : BEq (List Val) := instBEqOfDecidableEq
instance (priority := 2000) rowLaw : LawfulBEq (List Val) := inferInstanceAs (@LawfulBEq (List Val) instBEqOfDecidableEq)

theorem cmpRow_zero (a b : List Val) : cmpRow a b = 0 ↔ a = b := by
  induction a generalizing b with
  | nil => cases b with
    | nil => simp [cmpRow]
    | cons y b => simp [cmpRow]
  | cons x a ih => cases b with
    | nil => simp [cmpRow]
    | cons y b =>
      rw [cmpRow]
      by_cases h : cmpVal x y = 0
      · rw [if_pos h, ih, (cmpVal_zero x y).1 h]; simp
      · rw [if_neg h]
        exact ⟨fun h2 => absurd h2 h, fun h2 => absurd ((cmpVal_zero x y).2 (List.cons.inj h2).1) h⟩
def leR (a b : List Val) : Bool := decide (cmpRow a b ≤ 0)
theorem leR_iff {a b : List Val} : leR a b = true ↔ cmpRow a b ≤ 0 := decide_eq_true_iff
theorem leR_trans (a b c : List Val) (h : leR a b = true) (k : leR b c = true) : leR a c = true := leR_iff.2 (cmpRow_trans (leR_iff.1 h) (leR_iff.1 k))
theorem leR_total (a b : List Val) : (leR a b || leR b a) = true := by
  rw [Bool.or_eq_true, leR_iff, leR_iff]
  have := cmpRow_neg a b
  omega
theorem leR_anti {a b : List Val} (h : leR a b = true) (k : leR b a = true) : a = b := by
  have := cmpRow_neg a b
  exact (cmpRow_zero a b).1 (by have := leR_iff.1 h; have := leR_iff.1 k; omega)
theorem leR_self (a : List Val) : leR a a = true := leR_iff.2 (by rw [(cmpRow_zero a a).2 rfl]; exact Int.le_refl _)
theorem leR_of_not {a b : List Val} (h : ¬ 0 < cmpRow a b) : leR a b = true := leR_iff.2 (by omega)
theorem leR_of_pos {a b : List Val} (h : 0 < cmpRow a b) : leR b a = true := leR_iff.2 (by have := cmpRow_neg a b; omega)

abbrev Sorted (L : List (List Val)) : Prop := L.Pairwise (fun a b => leR a b = true)
/-- A list of rows in order. -/
def srt (L : List (List Val)) : List (List Val) := L.mergeSort leR
theorem srt_perm (L : List (List Val)) : (srt L).Perm L := List.mergeSort_perm L leR
theorem srt_sorted (L : List (List Val)) : Sorted (srt L) := List.pairwise_mergeSort leR_trans leR_total L
theorem srt_length (L : List (List Val)) : (srt L).length = L.length := (srt_perm L).length_eq
theorem srt_unique {L S : List (List Val)} (hp : S.Perm L) (hs : Sorted S) : S = srt L :=
  List.Perm.eq_of_pairwise (le := fun a b => leR a b = true) (fun _ _ _ _ h1 h2 => leR_anti h1 h2) hs (srt_sorted L) (hp.trans (srt_perm L).symm)
theorem srt_congr {L S : List (List Val)} (h : L.Perm S) : srt L = srt S := srt_unique ((srt_perm L).trans h) (srt_sorted L)
theorem srt_mem {L : List (List Val)} {x : List Val} : x ∈ srt L ↔ x ∈ L := (srt_perm L).mem_iff

/-- Row i of a list. -/
def rAt (L : List (List Val)) (i : Nat) : List Val := L.getD i []
theorem rAt_get {L : List (List Val)} {i : Nat} (h : i < L.length) : rAt L i = L[i] := by unfold rAt; rw [List.getD, List.getElem?_eq_getElem h]; rfl
theorem rAt_mem {L : List (List Val)} {i : Nat} (h : i < L.length) : rAt L i ∈ L := by rw [rAt_get h]; exact List.getElem_mem h
theorem drop_row {L : List (List Val)} {i : Nat} (h : i < L.length) : L.drop i = rAt L i :: L.drop (i + 1) := by rw [rAt_get h]; exact List.drop_eq_getElem_cons h
theorem take_row {L : List (List Val)} {i : Nat} (h : i < L.length) : L.take (i + 1) = L.take i ++ [rAt L i] := by rw [rAt_get h]; exact (List.take_append_getElem h).symm

/-- A row put behind the last one that isn't greater. -/
theorem ins_sorted {O : List (List Val)} {t : List Val} {p : Nat} (hO : Sorted O) (hp : p ≤ O.length) (h1 : p = 0 ∨ ¬ 0 < cmpRow (rAt O (p - 1)) t) (h2 : ∀ j, p ≤ j → j < O.length → 0 < cmpRow (rAt O j) t) : Sorted (O.take p ++ t :: O.drop p) := by
  unfold Sorted
  rw [List.pairwise_append]
  refine ⟨hO.sublist (List.take_sublist _ _), ?_, ?_⟩
  · rw [List.pairwise_cons]
    refine ⟨fun b hb => ?_, hO.sublist (List.drop_sublist _ _)⟩
    obtain ⟨j, hj, rfl⟩ := List.getElem_of_mem hb
    rw [List.length_drop] at hj
    have := h2 (p + j) (by omega) (by omega)
    rw [rAt_get (by omega)] at this
    rw [List.getElem_drop]
    exact leR_of_pos this
  · have key : ∀ a ∈ O.take p, leR a t = true := by
      intro a ha
      obtain ⟨j, hj, rfl⟩ := List.getElem_of_mem ha
      rw [List.length_take] at hj
      rw [List.getElem_take]
      rcases h1 with rfl | h1
      · omega
      · have hlast : leR (O[p - 1]'(by omega)) t = true := by rw [rAt_get (by omega)] at h1; exact leR_of_not h1
        by_cases hjp : j = p - 1
        · subst hjp; exact hlast
        · exact leR_trans _ _ _ ((List.pairwise_iff_getElem.1 hO) j (p - 1) (by omega) (by omega) (by omega)) hlast
    intro a ha b hb
    rcases List.mem_cons.1 hb with rfl | hb
    · exact key a ha
    · obtain ⟨i, hi, rfl⟩ := List.getElem_of_mem ha
      obtain ⟨j, hj, rfl⟩ := List.getElem_of_mem hb
      rw [List.length_take] at hi
      rw [List.length_drop] at hj
      rw [List.getElem_take, List.getElem_drop]
      exact (List.pairwise_iff_getElem.1 hO) i (p + j) (by omega) (by omega) (by omega)
theorem ins_perm {O : List (List Val)} {t : List Val} {p : Nat} : (O.take p ++ t :: O.drop p).Perm (O ++ [t]) := by
  have h1 : (O.take p ++ t :: O.drop p).Perm (t :: (O.take p ++ O.drop p)) := List.perm_middle
  rw [List.take_append_drop] at h1
  exact h1.trans (List.perm_append_comm (l₁ := [t]) (l₂ := O))

/-- The merge of two sorted lists that takes the rows of the second one out of the first one. -/
def mrg : List (List Val) → List (List Val) → List (List Val)
  | [], _ => []
  | t :: x, y => match y.dropWhile (fun u => decide (cmpRow u t < 0)) with
    | [] => t :: mrg x []
    | u :: y' => if cmpRow u t = 0 then mrg x y' else t :: mrg x (u :: y')
theorem mrg_sub (x : List (List Val)) : ∀ y, (mrg x y).Sublist x := by
  induction x with
  | nil => intro y; exact List.Sublist.refl _
  | cons t x ih =>
    intro y
    rw [mrg]
    split
    · exact (ih _).cons_cons _
    · split
      · exact (ih _).cons _
      · exact (ih _).cons_cons _
theorem mrg_sorted {x : List (List Val)} (hx : Sorted x) (y : List (List Val)) : Sorted (mrg x y) := hx.sublist (mrg_sub x y)
theorem count_below {L : List (List Val)} {t r : List Val} (h : ∀ u ∈ L, cmpRow u t < 0) (hr : leR t r = true) : L.count r = 0 := by
  rw [List.count_eq_zero]
  intro hm
  have h1 := h r hm
  have h2 := leR_iff.1 hr
  have := cmpRow_neg r t
  omega
theorem mrg_count (x : List (List Val)) (hx : Sorted x) : ∀ y, Sorted y → ∀ r, (mrg x y).count r = x.count r - y.count r := by
  induction x with
  | nil => intro y _ r; simp [mrg]
  | cons t x ih =>
    intro y hy r
    have hx' : Sorted x := (List.pairwise_cons.1 hx).2
    have htx := (List.pairwise_cons.1 hx).1
    have hsplit := List.takeWhile_append_dropWhile (p := fun u => decide (cmpRow u t < 0)) (l := y)
    have hbel : ∀ u ∈ y.takeWhile (fun u => decide (cmpRow u t < 0)), cmpRow u t < 0 := fun u hu => by
      have := List.all_takeWhile (p := fun u => decide (cmpRow u t < 0)) (l := y)
      exact of_decide_eq_true (List.all_eq_true.1 this u hu)
    have hyd : Sorted (y.dropWhile (fun u => decide (cmpRow u t < 0))) := hy.sublist (List.dropWhile_sublist _)
    by_cases hr : leR t r = true
    · have hcy : y.count r = (y.dropWhile (fun u => decide (cmpRow u t < 0))).count r := by
        conv => lhs; rw [← hsplit]
        rw [List.count_append, count_below hbel hr, Nat.zero_add]
      rw [hcy, mrg]
      split
      · rename_i he
        rw [he, List.count_cons, List.count_cons, ih hx' [] List.Pairwise.nil r]
        simp
      · rename_i u y' he
        rw [he] at hyd ⊢
        have hy' : Sorted y' := (List.pairwise_cons.1 hyd).2
        split
        · rename_i h0
          obtain rfl := (cmpRow_zero u t).1 h0
          rw [ih hx' y' hy' r, List.count_cons, List.count_cons]
          omega
        · rename_i h0
          rw [List.count_cons, ih hx' (u :: y') hyd r]
          by_cases htr : t = r
          · subst htr
            have hnot : ¬ cmpRow u t < 0 := by
              have := List.head?_dropWhile_not (p := fun u => decide (cmpRow u t < 0)) (l := y)
              rw [he] at this
              simpa using this
            have hz : (u :: y').count t = 0 := by
              rw [List.count_eq_zero]
              intro hm
              rcases List.mem_cons.1 hm with h1 | h1
              · exact h0 ((cmpRow_zero u t).2 h1.symm)
              · have h2 := leR_iff.1 ((List.pairwise_cons.1 hyd).1 t h1)
                omega
            rw [hz, List.count_cons]
            simp
          · have hb : (t == r) = false := beq_eq_false_iff_ne.2 htr
            have hx1 : (t :: x).count r = x.count r := by rw [List.count_cons, hb]; simp
            rw [hx1, hb]
            simp
    · have hxr : (t :: x).count r = 0 := by
        rw [List.count_eq_zero]
        intro hm
        rcases List.mem_cons.1 hm with h1 | h1
        · subst h1; exact hr (leR_self _)
        · exact hr (htx r h1)
      have := (mrg_sub (t :: x) y).count_le r
      omega
/-- The rows of a without those of b. -/
def minR (a b : List (List Val)) : List (List Val) := mrg (srt a) (srt b)
theorem minR_sorted (a b : List (List Val)) : Sorted (minR a b) := mrg_sorted (srt_sorted a) _
theorem minR_count (a b : List (List Val)) (r : List Val) : (minR a b).count r = a.count r - b.count r := by
  rw [minR, mrg_count _ (srt_sorted a) _ (srt_sorted b), (srt_perm a).count_eq, (srt_perm b).count_eq]
theorem minR_unique {a b D : List (List Val)} (hs : Sorted D) (hc : ∀ r, D.count r = a.count r - b.count r) : D = minR a b :=
  List.Perm.eq_of_pairwise (le := fun a b => leR a b = true) (fun _ _ _ _ h1 h2 => leR_anti h1 h2) hs (minR_sorted a b) (List.perm_iff_count.2 fun r => by rw [hc, minR_count])
theorem srt_eq_iff {a b : List (List Val)} : srt a = srt b ↔ a.Perm b :=
  ⟨fun h => (srt_perm a).symm.trans (h ▸ srt_perm b), srt_congr⟩
end Go.Proofs.YtlpaphgmdcpmaaaGreatDoor
/-
  Slices of rows in memory; Copy and Count of the reference.
-/
namespace Go.Proofs.YtlpaphgmdcpmaaaGreatDoor
set_option maxRecDepth 100000
open Go.RowKit
variable {ls : List Nat}

/-- A slice of rows. -/
def RowsAt (w : World) (p : Option Addr) (L : List (List Val)) : Prop :=
  ∀ i, i < L.length → ∃ (c o : Nat) (q : Option Addr) (cp : Nat), p = some ⟨c, o, none⟩ ∧ c < w.heap.size ∧ w.cell? ⟨c, o + i, none⟩ = some (.slice q (rAt L i).length cp) ∧ RowAt w q (rAt L i) ∧ (rAt L i).length * 32 ≤ 140737488355328 ∧ (q = none → rAt L i = [] ∧ cp = 0)
theorem RowsAt.low {u v : World} {p : Option Addr} {L : List (List Val)} (h : RowsAt u p L) (hb : Below u.heap.size u v) : RowsAt v p L := by
  intro i hi
  obtain ⟨c, o, q, cp, hp, hc, h0, hr, hs, hn⟩ := h i hi
  exact ⟨c, o, q, cp, hp, Nat.lt_of_lt_of_le hc hb.size, by rw [hb.cell (by exact hc)]; exact h0, hr.low hb, hs, hn⟩

/-- A row of the call's own: its slice, and its values. -/
def InRow (u : World) (base : Nat) (x : Value × List Val) : Prop := u.ownsRow base 23 3 x.1 x.2.length (vcells x.2) ∧ x.2.length * 32 ≤ 140737488355328
/-- Rows of the call's own, in a row of its own. -/
def Rows2 (u : World) (base : Nat) (vo : Value) (G : List (Value × List Val)) : Prop :=
  u.ownsRow base 70 1 vo G.length (G.map (·.1)) ∧ ∀ x ∈ G, InRow u base x
theorem owns_below {w w' : World} {base n size : Nat} {e : TypeId} {v : Value} {xs : List Value} (h : w.ownsRow base e size v n xs) (hb : Below w.heap.size w w') : w'.ownsRow base e size v n xs :=
  owns_keep h fun k hk => hb.block k (owns_lt h k hk)
theorem InRow.low {u v : World} {base : Nat} {x : Value × List Val} (h : InRow u base x) (hb : Below u.heap.size u v) : InRow v base x := ⟨owns_below h.1 hb, h.2⟩
theorem Rows2.low {u v : World} {base : Nat} {vo : Value} {G : List (Value × List Val)} (h : Rows2 u base vo G) (hb : Below u.heap.size u v) : Rows2 v base vo G :=
  ⟨owns_below h.1 hb, fun x hx => (h.2 x hx).low hb⟩
theorem Rows2.nil (w : World) (base : Nat) : Rows2 w base (.slice none 0 0) [] := ⟨⟨rfl, Or.inl ⟨rfl, rfl⟩⟩, fun x hx => by cases hx⟩
/-- Behind a growth of the outer row the inner ones are as they were. -/
theorem InRow.apart {u v : World} {base base' n : Nat} {vo : Value} {xs : List Value} {x : Value × List Val} (h : InRow u base x) (ho : u.ownsRow base' 70 1 vo n xs) (hb : ∀ k, k < u.heap.size → vo.ownBlock ≠ some k → v.heap[k]? = u.heap[k]?) : InRow v base x :=
  ⟨owns_keep h.1 fun k hk => hb k (owns_lt h.1 k hk) (owns_apart h.1 ho (by decide) k hk), h.2⟩
theorem Rows2.shape {u : World} {base : Nat} {vo : Value} {G : List (Value × List Val)} (h : Rows2 u base vo G) : vo = .slice (rowP vo) G.length (rowC vo) := by
  rcases h.1.2 with ⟨rfl, h0⟩ | ⟨g, cap', cur, rfl, -⟩
  · rw [h0]; rfl
  · rfl
theorem Rows2.read {u : World} {base : Nat} {p : Option Addr} {cap : Nat} {G : List (Value × List Val)} (h : Rows2 u base (.slice p G.length cap) G) (i : Nat) (hi : i < G.length) :
    ∃ g : Nat, p = some ⟨g, 0, none⟩ ∧ g < u.heap.size ∧ u.cell? ⟨g, i, none⟩ = some (.slice (rowP (gAt G i).1) (gAt G i).2.length (rowC (gAt G i).1)) ∧ RowAt u (rowP (gAt G i).1) (gAt G i).2 ∧ (rowP (gAt G i).1 = none → (gAt G i).2 = [] ∧ rowC (gAt G i).1 = 0) ∧ (gAt G i).2.length * 32 ≤ 140737488355328 := by
  have hmem : gAt G i ∈ G := by unfold gAt; rw [List.getD, List.getElem?_eq_getElem hi]; exact List.getElem_mem hi
  obtain ⟨hown, hlen⟩ := h.2 _ hmem
  obtain ⟨hv, hr, hn⟩ := owned_shape hown
  rcases h.1.2 with ⟨-, h0⟩ | ⟨g, cap', cur, he, hg, hh, hcap, hm, hcur, htake⟩
  · omega
  · injection he with he1 he2 he3
    refine ⟨g, he1, (Array.getElem?_eq_some_iff.1 hh).1, ?_, hr, hn, hlen⟩
    rw [← hv]
    have hj : (G.map (·.1))[i]? = some (gAt G i).1 := by
      rw [List.getElem?_map, List.getElem?_eq_getElem hi]
      simp [gAt, hi]
    rw [← htake, List.getElem?_take] at hj
    have hj' : cur.toList[i]? = some (gAt G i).1 := by
      split at hj
      · exact hj
      · cases hj
    simp [World.cell?, hh]
    simpa using hj'
theorem gAt_row {G : List (Value × List Val)} {i : Nat} (hi : i < G.length) : (gAt G i).2 = rAt (G.map (·.2)) i := by
  unfold gAt rAt
  rw [List.getD, List.getD, List.getElem?_map, List.getElem?_eq_getElem hi]
  rfl
theorem Rows2.rows {u : World} {base : Nat} {p : Option Addr} {cap : Nat} {G : List (Value × List Val)} (h : Rows2 u base (.slice p G.length cap) G) : RowsAt u p (G.map (·.2)) := by
  intro i hi
  rw [List.length_map] at hi
  obtain ⟨g, hp, hg, h0, h1, h2, h3⟩ := h.read i hi
  rw [gAt_row hi] at h0 h1 h2 h3
  exact ⟨g, 0, _, _, hp, hg, by rw [Nat.zero_add]; exact h0, h1, h3, h2⟩

def CopyPost (t : List Val) (w : World) (e : Ending) (w' : World) : Prop := ∃ v, e = .returned v ∧ InRow w' w.heap.size (v, t) ∧ Below w.heap.size w w'
end Go.Proofs.YtlpaphgmdcpmaaaGreatDoor
