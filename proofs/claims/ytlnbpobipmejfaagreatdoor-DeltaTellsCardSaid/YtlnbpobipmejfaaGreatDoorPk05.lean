/-
  Several texts in one.
-/
import Derived.Test.YtlnbpobipmejfaaGreatDoorPk04
import Derived.Deep.Cut
import Derived.Test.YtlnbpobipmejfaaGreatDoorPk03
import Derived.Test.YtlnbpobipmejfaaGreatDoorPk01
import Derived.Laws.IdiomStrings
/-
  Rows of the tape: at most n rows of at most four values.
-/
namespace Go.Proofs.YtlnbpobipmejfaaGreatDoor
set_option maxRecDepth 100000
open Go.RowKit

theorem info_rows : (Tryz.prog.info? 56).map (fun i => (i.zero, i.size, i.bytes)) = some (some (.slice none 0 0), 1, 24) := by kernel_rfl

/-- The rows that have been made. -/
def Grid (u : World) (base : Nat) (vo : Value) (G : List (Value × List Val)) : Prop :=
  u.ownsRow base 56 1 vo G.length (G.map (·.1)) ∧ ∀ x ∈ G, u.ownsRow base 55 3 x.1 x.2.length (vcells x.2) ∧ x.2.length ≤ 4
theorem Grid.step {u v : World} {b base : Nat} {vo : Value} {G : List (Value × List Val)} (h : Grid u base vo G) (hb : b < base) (hs : StepT b u v) : Grid v base vo G :=
  ⟨owns_step h.1 hb hs, fun x hx => ⟨owns_step (h.2 x hx).1 hb hs, (h.2 x hx).2⟩⟩

theorem Grid.add {u v : World} {base : Nat} {vo vo' x : Value} {l : List Val} {G : List (Value × List Val)} (h : Grid u base vo G) (hx : u.ownsRow base 55 3 x l.length (vcells l)) (hl : l.length ≤ 4)
    (ho : v.ownsRow base 56 1 vo' (G.length + 1) (G.map (·.1) ++ [x])) (hg : u.grownBy v vo.ownBlock) : Grid v base vo' (G ++ [(x, l)]) := by
  have key : ∀ (y : Value) (m : List Val), u.ownsRow base 55 3 y m.length (vcells m) → v.ownsRow base 55 3 y m.length (vcells m) := fun y m hy =>
    owns_keep hy fun k hk => hg.block k (owns_lt hy k hk) (fun he => owns_apart hy h.1 (by decide) k hk he.symm)
  refine ⟨by simpa using ho, fun z hz => ?_⟩
  rcases List.mem_append.1 hz with hz | hz
  · exact ⟨key _ _ (h.2 z hz).1, (h.2 z hz).2⟩
  · obtain rfl : z = (x, l) := by simpa using hz
    exact ⟨key _ _ hx, hl⟩
theorem row_new (u : World) (k n : Int) (s : ByteArray) (t : TypeId) : RowAt (u.alloc (.cells #[.int .i64 k, .int .i64 n, .string s] t)) (some ⟨u.heap.size, 0, none⟩) [(k, n, s)] := by
  intro i hi
  obtain rfl : i = 0 := by simpa using hi
  have hb := BoxAt.new u (k, n, s) t
  exact ⟨u.heap.size, 0, rfl, hb.1, hb.2.1, hb.2.2.1, hb.2.2.2⟩

def RowsPost (b : Nat) (n : Int) (w : World) (e : Ending) (w' : World) : Prop := ∃ (v : Value) (G : List (Value × List Val)), e = .returned v ∧ Grid w' w.heap.size v G ∧ (G.length : Int) ≤ n ∧ TapeAt w' b ∧ StepT b w w'

end Go.Proofs.YtlnbpobipmejfaaGreatDoor
/-
  The order of rows is total. Plain; and how rows that have been made are read.
-/
namespace Go.Proofs.YtlnbpobipmejfaaGreatDoor
set_option maxRecDepth 100000
open Go Go.RowKit

theorem cmpVal_bd (x y : Val) : -1 ≤ cmpVal x y ∧ cmpVal x y ≤ 1 := cmpV_bd _ _ _ _ _ _
theorem cmpVal_neg (x y : Val) : cmpVal x y = - cmpVal y x := cmpV_neg _ _ _ _ _ _
theorem cmpRow_bd (a b : List Val) : -1 ≤ cmpRow a b ∧ cmpRow a b ≤ 1 := by
  induction a generalizing b with
  | nil => cases b <;> simp [cmpRow]
  | cons x a ih =>
    cases b with
    | nil => simp [cmpRow]
    | cons y b =>
      rw [cmpRow]
      split
      · exact ih b
      · exact cmpVal_bd x y
theorem cmpRow_neg (a b : List Val) : cmpRow a b = - cmpRow b a := by
  induction a generalizing b with
  | nil => cases b <;> simp [cmpRow]
  | cons x a ih =>
    cases b with
    | nil => simp [cmpRow]
    | cons y b =>
      rw [cmpRow, cmpRow]
      by_cases h : cmpVal x y = 0
      · have h2 : cmpVal y x = 0 := by rw [cmpVal_neg y x, h]; rfl
        rw [if_pos h, if_pos h2]; exact ih b
      · have h2 : ¬ cmpVal y x = 0 := fun e => h (by rw [cmpVal_neg x y, e]; rfl)
        rw [if_neg h, if_neg h2]; exact cmpVal_neg x y
theorem cmpRow_prefix (a : List Val) (x : Val) : cmpRow a (a ++ [x]) = -1 := by
  induction a with
  | nil => rfl
  | cons y a ih =>
    have h : cmpVal y y = 0 := (cmpV_zero _ _ _ _ _ _).2 ⟨rfl, rfl, rfl⟩
    rw [List.cons_append, cmpRow, if_pos h]; exact ih
theorem cmpRow_prefix' (a : List Val) (x : Val) : cmpRow (a ++ [x]) a = 1 := by rw [cmpRow_neg, cmpRow_prefix]; rfl
theorem cmpRow_first {a b : List Val} (ha : 0 < a.length) (hb : 0 < b.length) (h : ¬ cmpVal (vAt a 0) (vAt b 0) = 0) : cmpRow a b = cmpVal (vAt a 0) (vAt b 0) := by
  have := cmpRow_stop (a := a) (b := b) (i := 0) ha hb h
  simpa using this.symm
theorem cmpVal_zero (x y : Val) : cmpVal x y = 0 ↔ x = y := by
  unfold cmpVal
  rw [cmpV_zero]
  constructor
  · rintro ⟨h1, h2, h3⟩
    exact Prod.ext h1 (Prod.ext h2 h3)
  · rintro rfl; exact ⟨rfl, rfl, rfl⟩
theorem cmpRow_trans {a b c : List Val} (h1 : cmpRow a b ≤ 0) (h2 : cmpRow b c ≤ 0) : cmpRow a c ≤ 0 := by
  induction a generalizing b c with
  | nil => cases c <;> simp [cmpRow]
  | cons x a ih =>
    cases b with
    | nil => simp [cmpRow] at h1
    | cons y b =>
      cases c with
      | nil => simp [cmpRow] at h2
      | cons z c =>
        rw [cmpRow] at h1 h2 ⊢
        by_cases hxy : cmpVal x y = 0
        · have := (cmpVal_zero x y).1 hxy
          subst this
          rw [if_pos hxy] at h1
          by_cases hyz : cmpVal x z = 0
          · rw [if_pos hyz] at h2 ⊢
            exact ih h1 h2
          · rw [if_neg hyz] at h2 ⊢
            exact h2
        · rw [if_neg hxy] at h1
          by_cases hyz : cmpVal y z = 0
          · have := (cmpVal_zero y z).1 hyz
            subst this
            rw [if_neg hxy]; exact h1
          · rw [if_neg hyz] at h2
            have hxz : cmpVal x z ≤ 0 := cmpV_trans h1 h2
            split
            · rename_i hz
              exfalso
              have := (cmpVal_zero x z).1 hz
              subst this
              have h3 := cmpVal_neg x y
              have h4 := cmpVal_bd x y
              have h5 : cmpVal x y = 0 := by omega
              exact hxy h5
            · exact hxz

/-- A row's slice: where it lies, and its capacity. -/
def rowP (v : Value) : Option Addr := match v with | .slice p _ _ => p | _ => none
def rowC (v : Value) : Nat := match v with | .slice _ _ c => c | _ => 0
def gAt (G : List (Value × List Val)) (i : Nat) : Value × List Val := G.getD i (.slice none 0 0, [])

theorem owned_shape {u : World} {base : Nat} {v : Value} {l : List Val} (h : u.ownsRow base 55 3 v l.length (vcells l)) :
    v = .slice (rowP v) l.length (rowC v) ∧ RowAt u (rowP v) l ∧ (rowP v = none → l = [] ∧ rowC v = 0) := by
  obtain ⟨p, cap, hv, hn, hr⟩ := row_of_owns h
  refine ⟨by rw [hv]; rfl, by rw [hv]; exact hr, fun hp => ?_⟩
  rcases h.2 with ⟨rfl, h0⟩ | ⟨g, cap', cur, rfl, -⟩
  · exact ⟨List.eq_nil_of_length_eq_zero h0, rfl⟩
  · cases hp

/-- The i-th row that has been made, as a load reads it. -/
theorem Grid.read {u : World} {base : Nat} {p : Option Addr} {cap : Nat} {G : List (Value × List Val)} (h : Grid u base (.slice p G.length cap) G) (i : Nat) (hi : i < G.length) :
    ∃ g : Nat, p = some ⟨g, 0, none⟩ ∧ u.cell? ⟨g, i, none⟩ = some (.slice (rowP (gAt G i).1) (gAt G i).2.length (rowC (gAt G i).1)) ∧ RowAt u (rowP (gAt G i).1) (gAt G i).2 ∧ (rowP (gAt G i).1 = none → (gAt G i).2 = [] ∧ rowC (gAt G i).1 = 0) ∧ (gAt G i).2.length ≤ 4 := by
  have hmem : gAt G i ∈ G := by unfold gAt; rw [List.getD, List.getElem?_eq_getElem hi]; exact List.getElem_mem hi
  obtain ⟨hown, hlen⟩ := h.2 _ hmem
  obtain ⟨hv, hr, hn⟩ := owned_shape hown
  rcases h.1.2 with ⟨-, h0⟩ | ⟨g, cap', cur, he, hg, hh, hcap, hm, hcur, htake⟩
  · omega
  · injection he with he1 he2 he3
    refine ⟨g, he1, ?_, hr, hn, hlen⟩
    rw [← hv]
    have hj : (G.map (·.1))[i]? = some (gAt G i).1 := by
      rw [List.getElem?_map, List.getElem?_eq_getElem hi]
      simp [gAt, hi]
    rw [← htake, List.getElem?_take] at hj
    have hj' : cur.toList[i]? = some (gAt G i).1 := by
      split at hj
      · exact hj
      · cases hj
    simp [World.cell?, hh]
    simpa using hj'
theorem Grid.shape {u : World} {base : Nat} {vo : Value} {G : List (Value × List Val)} (h : Grid u base vo G) : vo = .slice (rowP vo) G.length (rowC vo) := by
  rcases h.1.2 with ⟨rfl, h0⟩ | ⟨g, cap', cur, rfl, -⟩
  · rw [h0]; rfl
  · rfl
end Go.Proofs.YtlnbpobipmejfaaGreatDoor
/-
  Lists of rows, sorted; differences of bags. No program.
-/
namespace Go.Proofs.YtlnbpobipmejfaaGreatDoor
set_option maxRecDepth 100000
open Go

instance (priority := 2000) rowBEq : BEq (List Val) := instBEqOfDecidableEq
instance (priority := 2000) rowLaw : LawfulBEq (List Val) := inferInstanceAs (@LawfulBEq (List Val) instBEqOfDecidableEq)

theorem cmpRow_zero (a b : List Val) : cmpRow a b = 0 ↔ a = b := by
  induction a generalizing b with
  | nil => cases b with
    | nil => simp [cmpRow]
    | cons y b => simp [cmpRow]
  | cons x a ih => cases b with
    | nil => simp [cmpRow]
    | cons y b =>
      rw [cmpRow]
      by_cases h : cmpVal x y = 0
      · rw [if_pos h, ih, (cmpVal_zero x y).1 h]; simp
      · rw [if_neg h]
        exact ⟨fun h2 => absurd h2 h, fun h2 => absurd ((cmpVal_zero x y).2 (List.cons.inj h2).1) h⟩
def leR (a b : List Val) : Bool := decide (cmpRow a b ≤ 0)
theorem leR_iff {a b : List Val} : leR a b = true ↔ cmpRow a b ≤ 0 := decide_eq_true_iff
theorem leR_trans (a b c : List Val) (h : leR a b = true) (k : leR b c = true) : leR a c = true := leR_iff.2 (cmpRow_trans (leR_iff.1 h) (leR_iff.1 k))
theorem leR_total (a b : List Val) : (leR a b || leR b a) = true := by
  rw [Bool.or_eq_true, leR_iff, leR_iff]
  have := cmpRow_neg a b
  omega
theorem leR_anti {a b : List Val} (h : leR a b = true) (k : leR b a = true) : a = b := by
  have := cmpRow_neg a b
  exact (cmpRow_zero a b).1 (by have := leR_iff.1 h; have := leR_iff.1 k; omega)
theorem leR_self (a : List Val) : leR a a = true := leR_iff.2 (by rw [(cmpRow_zero a a).2 rfl]; exact Int.le_refl _)
theorem leR_of_not {a b : List Val} (h : ¬ 0 < cmpRow a b) : leR a b = true := leR_iff.2 (by omega)
theorem leR_of_pos {a b : List Val} (h : 0 < cmpRow a b) : leR b a = true := leR_iff.2 (by have := cmpRow_neg a b; omega)

abbrev Sorted (L : List (List Val)) : Prop := L.Pairwise (fun a b => leR a b = true)
/-- A list of rows in order. -/
def srt (L : List (List Val)) : List (List Val) := L.mergeSort leR
theorem srt_perm (L : List (List Val)) : (srt L).Perm L := List.mergeSort_perm L leR
theorem srt_sorted (L : List (List Val)) : Sorted (srt L) := List.pairwise_mergeSort leR_trans leR_total L
theorem srt_length (L : List (List Val)) : (srt L).length = L.length := (srt_perm L).length_eq
theorem srt_unique {L S : List (List Val)} (hp : S.Perm L) (hs : Sorted S) : S = srt L :=
  List.Perm.eq_of_pairwise (le := fun a b => leR a b = true) (fun _ _ _ _ h1 h2 => leR_anti h1 h2) hs (srt_sorted L) (hp.trans (srt_perm L).symm)
theorem srt_congr {L S : List (List Val)} (h : L.Perm S) : srt L = srt S := srt_unique ((srt_perm L).trans h) (srt_sorted L)
theorem srt_mem {L : List (List Val)} {x : List Val} : x ∈ srt L ↔ x ∈ L := (srt_perm L).mem_iff

/-- Row i of a list. -/
def rAt (L : List (List Val)) (i : Nat) : List Val := L.getD i []
theorem rAt_get {L : List (List Val)} {i : Nat} (h : i < L.length) : rAt L i = L[i] := by unfold rAt; rw [List.getD, List.getElem?_eq_getElem h]; rfl
theorem rAt_mem {L : List (List Val)} {i : Nat} (h : i < L.length) : rAt L i ∈ L := by rw [rAt_get h]; exact List.getElem_mem h
theorem drop_row {L : List (List Val)} {i : Nat} (h : i < L.length) : L.drop i = rAt L i :: L.drop (i + 1) := by rw [rAt_get h]; exact List.drop_eq_getElem_cons h
theorem take_row {L : List (List Val)} {i : Nat} (h : i < L.length) : L.take (i + 1) = L.take i ++ [rAt L i] := by rw [rAt_get h]; exact (List.take_append_getElem h).symm

/-- A row put behind the last one that isn't greater. -/
theorem ins_sorted {O : List (List Val)} {t : List Val} {p : Nat} (hO : Sorted O) (hp : p ≤ O.length) (h1 : p = 0 ∨ ¬ 0 < cmpRow (rAt O (p - 1)) t) (h2 : ∀ j, p ≤ j → j < O.length → 0 < cmpRow (rAt O j) t) : Sorted (O.take p ++ t :: O.drop p) := by
  unfold Sorted
  rw [List.pairwise_append]
  refine ⟨hO.sublist (List.take_sublist _ _), ?_, ?_⟩
  · rw [List.pairwise_cons]
    refine ⟨fun b hb => ?_, hO.sublist (List.drop_sublist _ _)⟩
    obtain ⟨j, hj, rfl⟩ := List.getElem_of_mem hb
    rw [List.length_drop] at hj
    have := h2 (p + j) (by omega) (by omega)
    rw [rAt_get (by omega)] at this
    rw [List.getElem_drop]
    exact leR_of_pos this
  · have key : ∀ a ∈ O.take p, leR a t = true := by
      intro a ha
      obtain ⟨j, hj, rfl⟩ := List.getElem_of_mem ha
      rw [List.length_take] at hj
      rw [List.getElem_take]
      rcases h1 with rfl | h1
      · omega
      · have hlast : leR (O[p - 1]'(by omega)) t = true := by rw [rAt_get (by omega)] at h1; exact leR_of_not h1
        by_cases hjp : j = p - 1
        · subst hjp; exact hlast
        · exact leR_trans _ _ _ ((List.pairwise_iff_getElem.1 hO) j (p - 1) (by omega) (by omega) (by omega)) hlast
    intro a ha b hb
    rcases List.mem_cons.1 hb with rfl | hb
    · exact key a ha
    · obtain ⟨i, hi, rfl⟩ := List.getElem_of_mem ha
      obtain ⟨j, hj, rfl⟩ := List.getElem_of_mem hb
      rw [List.length_take] at hi
      rw [List.length_drop] at hj
      rw [List.getElem_take, List.getElem_drop]
      exact (List.pairwise_iff_getElem.1 hO) i (p + j) (by omega) (by omega) (by omega)
theorem ins_perm {O : List (List Val)} {t : List Val} {p : Nat} : (O.take p ++ t :: O.drop p).Perm (O ++ [t]) := by
  have h1 : (O.take p ++ t :: O.drop p).Perm (t :: (O.take p ++ O.drop p)) := List.perm_middle
  rw [List.take_append_drop] at h1
  exact h1.trans (List.perm_append_comm (l₁ := [t]) (l₂ := O))

/-- The merge of two sorted lists that takes the rows of the second one out of the first one. -/
def mrg : List (List Val) → List (List Val) → List (List Val)
  | [], _ => []
  | t :: x, y => match y.dropWhile (fun u => decide (cmpRow u t < 0)) with
    | [] => t :: mrg x []
    | u :: y' => if cmpRow u t = 0 then mrg x y' else t :: mrg x (u :: y')
theorem mrg_sub (x : List (List Val)) : ∀ y, (mrg x y).Sublist x := by
  induction x with
  | nil => intro y; exact List.Sublist.refl _
  | cons t x ih =>
    intro y
    rw [mrg]
    split
    · exact (ih _).cons_cons _
    · split
      · exact (ih _).cons _
      · exact (ih _).cons_cons _
theorem mrg_sorted {x : List (List Val)} (hx : Sorted x) (y : List (List Val)) : Sorted (mrg x y) := hx.sublist (mrg_sub x y)
theorem count_below {L : List (List Val)} {t r : List Val} (h : ∀ u ∈ L, cmpRow u t < 0) (hr : leR t r = true) : L.count r = 0 := by
  rw [List.count_eq_zero]
  intro hm
  have h1 := h r hm
  have h2 := leR_iff.1 hr
  have := cmpRow_neg r t
  omega
theorem mrg_count (x : List (List Val)) (hx : Sorted x) : ∀ y, Sorted y → ∀ r, (mrg x y).count r = x.count r - y.count r := by
  induction x with
  | nil => intro y _ r; simp [mrg]
  | cons t x ih =>
    intro y hy r
    have hx' : Sorted x := (List.pairwise_cons.1 hx).2
    have htx := (List.pairwise_cons.1 hx).1
    have hsplit := List.takeWhile_append_dropWhile (p := fun u => decide (cmpRow u t < 0)) (l := y)
    have hbel : ∀ u ∈ y.takeWhile (fun u => decide (cmpRow u t < 0)), cmpRow u t < 0 := fun u hu => by
      have := List.all_takeWhile (p := fun u => decide (cmpRow u t < 0)) (l := y)
      exact of_decide_eq_true (List.all_eq_true.1 this u hu)
    have hyd : Sorted (y.dropWhile (fun u => decide (cmpRow u t < 0))) := hy.sublist (List.dropWhile_sublist _)
    by_cases hr : leR t r = true
    · have hcy : y.count r = (y.dropWhile (fun u => decide (cmpRow u t < 0))).count r := by
        conv => lhs; rw [← hsplit]
        rw [List.count_append, count_below hbel hr, Nat.zero_add]
      rw [hcy, mrg]
      split
      · rename_i he
        rw [he, List.count_cons, List.count_cons, ih hx' [] List.Pairwise.nil r]
        simp
      · rename_i u y' he
        rw [he] at hyd ⊢
        have hy' : Sorted y' := (List.pairwise_cons.1 hyd).2
        split
        · rename_i h0
          obtain rfl := (cmpRow_zero u t).1 h0
          rw [ih hx' y' hy' r, List.count_cons, List.count_cons]
          omega
        · rename_i h0
          rw [List.count_cons, ih hx' (u :: y') hyd r]
          by_cases htr : t = r
          · subst htr
            have hnot : ¬ cmpRow u t < 0 := by
              have := List.head?_dropWhile_not (p := fun u => decide (cmpRow u t < 0)) (l := y)
              rw [he] at this
              simpa using this
            have hz : (u :: y').count t = 0 := by
              rw [List.count_eq_zero]
              intro hm
              rcases List.mem_cons.1 hm with h1 | h1
              · exact h0 ((cmpRow_zero u t).2 h1.symm)
              · have h2 := leR_iff.1 ((List.pairwise_cons.1 hyd).1 t h1)
                omega
            rw [hz, List.count_cons]
            simp
          · have hb : (t == r) = false := beq_eq_false_iff_ne.2 htr
            have hx1 : (t :: x).count r = x.count r := by rw [List.count_cons, hb]; simp
            rw [hx1, hb]
            simp
    · have hxr : (t :: x).count r = 0 := by
        rw [List.count_eq_zero]
        intro hm
        rcases List.mem_cons.1 hm with h1 | h1
        · subst h1; exact hr (leR_self _)
        · exact hr (htx r h1)
      have := (mrg_sub (t :: x) y).count_le r
      omega
/-- The rows of a without those of b. -/
def minR (a b : List (List Val)) : List (List Val) := mrg (srt a) (srt b)
theorem minR_sorted (a b : List (List Val)) : Sorted (minR a b) := mrg_sorted (srt_sorted a) _
theorem minR_count (a b : List (List Val)) (r : List Val) : (minR a b).count r = a.count r - b.count r := by
  rw [minR, mrg_count _ (srt_sorted a) _ (srt_sorted b), (srt_perm a).count_eq, (srt_perm b).count_eq]
theorem minR_unique {a b D : List (List Val)} (hs : Sorted D) (hc : ∀ r, D.count r = a.count r - b.count r) : D = minR a b :=
  List.Perm.eq_of_pairwise (le := fun a b => leR a b = true) (fun _ _ _ _ h1 h2 => leR_anti h1 h2) hs (minR_sorted a b) (List.perm_iff_count.2 fun r => by rw [hc, minR_count])
theorem srt_eq_iff {a b : List (List Val)} : srt a = srt b ↔ a.Perm b :=
  ⟨fun h => (srt_perm a).symm.trans (h ▸ srt_perm b), srt_congr⟩
end Go.Proofs.YtlnbpobipmejfaaGreatDoor
/-
  ValidName, of the program and of the reference.
-/
namespace Go.Proofs.YtlnbpobipmejfaaGreatDoor
set_option maxRecDepth 100000
open Go.RowKit

def ltrI (c : Int) : Bool := decide (97 ≤ c ∧ c ≤ 122)
def digI (c : Int) : Bool := decide (48 ≤ c ∧ c ≤ 57)
def ltrB (c : UInt8) : Bool := ltrI (c.toNat : Int)
def restB (c : UInt8) : Bool := ltrI (c.toNat : Int) || digI (c.toNat : Int) || decide ((c.toNat : Int) = 95)
/-- Is a text a name? -/
def nameOK (s : ByteArray) : Bool := decide (1 ≤ s.size ∧ s.size ≤ 12) && (s.data.toList.take 1).all ltrB && s.data.toList.all restB

theorem nameOK_len {s : ByteArray} (h : s.size < 1 ∨ 12 < s.size) : nameOK s = false := by
  unfold nameOK
  rw [decide_eq_false (by omega)]; rfl
theorem nameOK_bad {s : ByteArray} {k : Nat} (h : k < s.size) (hb : restB s[k] = false) : nameOK s = false := by
  unfold nameOK
  have : s.data.toList.all restB = false := by
    rw [List.all_eq_false]; exact ⟨s[k], by simp [ByteArray.getElem_eq_getElem_data], by simp [hb]⟩
  rw [this, Bool.and_false]
theorem nameOK_first {s : ByteArray} (h : 0 < s.size) (hb : ltrB s[0] = false) : nameOK s = false := by
  unfold nameOK
  have : (s.data.toList.take 1).all ltrB = false := by
    rw [all_take_succ _ 0 (by simpa using h)]
    show (true && ltrB s[0]) = false
    rw [hb]; rfl
  rw [this, Bool.and_false]; rfl
theorem nameOK_yes {s : ByteArray} (h : 1 ≤ s.size) (h2 : s.size ≤ 12) (hb : ltrB s[0] = true) (ha : (s.data.toList.take s.size).all restB = true) : nameOK s = true := by
  unfold nameOK
  rw [decide_eq_true ⟨h, h2⟩, all_take_succ _ 0 (by simp; omega)]
  have : s.data.toList.take s.size = s.data.toList := by rw [show s.size = s.data.toList.length by simp]; exact List.take_length
  rw [this] at ha
  rw [ha]
  show (true && (true && ltrB s[0]) && true) = true
  rw [hb]; rfl
theorem rest_succ {s : ByteArray} {k : Nat} (h : k < s.size) (ha : (s.data.toList.take k).all restB = true) (hb : restB s[k] = true) : (s.data.toList.take (k + 1)).all restB = true := by
  rw [all_take_succ _ _ (by simpa using h), ha]
  show (true && restB s[k]) = true
  rw [hb]; rfl
theorem restB_let {c : UInt8} (h : ltrI (c.toNat : Int) = true) : restB c = true := by unfold restB; rw [h]; rfl
theorem restB_dig {c : UInt8} (h : digI (c.toNat : Int) = true) : restB c = true := by unfold restB; rw [h]; cases ltrI _ <;> rfl
theorem restB_low {c : UInt8} (h : (c.toNat : Int) = 95) : restB c = true := by unfold restB; rw [decide_eq_true h]; simp
theorem restB_no {c : UInt8} (h : ltrI (c.toNat : Int) = false) (h2 : digI (c.toNat : Int) = false) (h3 : ¬ (c.toNat : Int) = 95) : restB c = false := by unfold restB; rw [h, h2, decide_eq_false h3]; rfl
theorem ltrI_not {c : Int} (h : c < 97 ∨ 122 < c) : ltrI c = false := by unfold ltrI; exact decide_eq_false (by omega)
theorem ltrI_yes {c : Int} (h : 97 ≤ c) (h2 : c ≤ 122) : ltrI c = true := by unfold ltrI; exact decide_eq_true (by omega)
theorem digI_not {c : Int} (h : c < 48 ∨ 57 < c) : digI c = false := by unfold digI; exact decide_eq_false (by omega)
theorem digI_yes {c : Int} (h : 48 ≤ c) (h2 : c ≤ 57) : digI c = true := by unfold digI; exact decide_eq_true (by omega)
theorem ret_b {a b : Bool} (h : a = b) : Ending.returned (.bool a) = .returned (.bool b) := by rw [h]

theorem isLetter_any (c : Int) (w : World) : Calls Tryz.prog 93 #[.int .u8 c] w fun e w' => e = .returned (.bool (ltrI c)) ∧ w = w' := by
  go_enter Tryz.func93, Tryz.ntmps93
  go_wp2
  all_goals
    go_ret
    exact ⟨ret_b (by first | exact (ltrI_yes (by omega) (by omega)).symm | exact (ltrI_not (by omega)).symm | (unfold ltrI; simp; omega)), rfl⟩
theorem isDigit_any (c : Int) (w : World) : Calls Tryz.prog 94 #[.int .u8 c] w fun e w' => e = .returned (.bool (digI c)) ∧ w = w' := by
  go_enter Tryz.func94, Tryz.ntmps94
  go_wp2
  all_goals
    go_ret
    exact ⟨ret_b (by first | exact (digI_yes (by omega) (by omega)).symm | exact (digI_not (by omega)).symm | (unfold digI; simp; omega)), rfl⟩
theorem rletter_any (c : Int) (w : World) : Calls Tryz.prog 85 #[.int .u8 c] w fun e w' => e = .returned (.bool (ltrI c)) ∧ w = w' := by
  go_enter Tryz.func85, Tryz.ntmps85
  go_wp2
  all_goals
    go_ret
    exact ⟨ret_b (by first | exact (ltrI_yes (by omega) (by omega)).symm | exact (ltrI_not (by omega)).symm | (unfold ltrI; simp; omega)), rfl⟩
theorem rletter_eq {c : Int} {b : Bool} (h : ltrI c = b) (w : World) : Calls Tryz.prog 85 #[.int .u8 c] w fun e w' => e = .returned (.bool b) ∧ w = w' := by
  subst h; exact rletter_any c w
theorem rdigit_any (c : Int) (w : World) : Calls Tryz.prog 86 #[.int .u8 c] w fun e w' => e = .returned (.bool (digI c)) ∧ w = w' := by
  go_enter Tryz.func86, Tryz.ntmps86
  go_wp2
  all_goals
    go_ret
    exact ⟨ret_b (by first | exact (digI_yes (by omega) (by omega)).symm | exact (digI_not (by omega)).symm | (unfold digI; simp; omega)), rfl⟩

theorem below_bytes (w : World) (o : Obj) : Below w.heap.size w (w.drew.alloc o) := ((Below.refl w.heap.size w).alloc (Nat.le_refl _) o).drew
theorem bytes_cells (w : World) (s : ByteArray) (cap : Nat) (t : TypeId) (fr : Nat × Nat) : ∀ k (h : k < s.size), (w.drew.alloc (.cells (bytesRow s cap) t fr)).cell? ⟨w.heap.size, k, none⟩ = some (.int .u8 (s[k].toNat : Int)) := by
  intro k h
  show (w.drew.alloc _).cell? ⟨w.drew.heap.size, k, none⟩ = _
  rw [World.cell?_alloc_mark, bytesRow_at s _ k h]
  rfl

theorem first_succ {s : ByteArray} {k : Nat} (h : k < s.size) (hl : ltrI (s[k].toNat : Int) = true) (hf : 0 < k → ∃ h : 0 < s.size, ltrB s[0] = true) : 0 < k + 1 → ∃ h : 0 < s.size, ltrB s[0] = true := by
  intro _
  cases k with
  | zero => exact ⟨h, hl⟩
  | succ n => exact hf (by omega)
theorem nameOK_zero {s : ByteArray} {k : Nat} (h : k < s.size) (h0 : k = 0) (hl : ltrI (s[k].toNat : Int) = false) : nameOK s = false := by
  subst h0; exact nameOK_first h hl

set_option maxHeartbeats 1000000 in
theorem validName_any (s : ByteArray) (w : World) (hs : s.size ≤ 9223372036854775807) :
    Calls Tryz.prog 78 #[.string s] w fun e w' => e = .returned (.bool (nameOK s)) ∧ Below w.heap.size w w' := by
  by_cases h1 : s.size < 1
  · have HF := Lib.hid (nameOK_len (.inl h1))
    have e0 : ((s.size : Int) == 0) = true := beq_iff_eq.2 (by omega)
    clear h1
    go_enter Tryz.func78, Tryz.ntmps78
    go_wp2
    go_ret
    exact ⟨ret_b HF.out.symm, Below.refl _ _⟩
  have e0 : ((s.size : Int) == 0) = false := beq_eq_false_iff_ne.2 (by omega)
  by_cases h2 : 12 < s.size
  · have HF := Lib.hid (nameOK_len (.inr h2))
    have e12 : decide ((12 : Int) < s.size) = true := decide_eq_true (by omega)
    clear h1 h2
    go_enter Tryz.func78, Tryz.ntmps78
    go_wp2
    go_ret
    exact ⟨ret_b HF.out.symm, Below.refl _ _⟩
  have e12 : decide ((12 : Int) < s.size) = false := decide_eq_false (by omega)
  have H1 : Hid (1 ≤ s.size) := Lib.hid (by omega)
  have H2 : Hid (s.size ≤ 12) := Lib.hid (by omega)
  have hcv := run_bytes_of_string (P := Tryz.prog) w 9 121 5 s Tryz.underlying9 Tryz.underlying121 Tryz.underlying5
  clear h1 h2
  generalize grownCap w s.size 0 5 = cap at hcv
  have hc := bytes_cells w s cap 5 ((bytesRow s cap).size, (bytesRow s cap).size + 1)
  have hb := below_bytes w (.cells (bytesRow s cap) 5 ((bytesRow s cap).size, (bytesRow s cap).size + 1))
  generalize w.drew.alloc (.cells (bytesRow s cap) 5 ((bytesRow s cap).size, (bytesRow s cap).size + 1)) = u at *
  have HC := Lib.hid hc
  have HB := Lib.hid hb
  clear hc hb
  go_enter Tryz.func78, Tryz.ntmps78
  go_wp2
  go_loop [16] (fun i => ∃ k : Nat, k ≤ s.size ∧ i = .int .i64 k ∧ (s.data.toList.take k).all restB = true ∧ (0 < k → ∃ h : 0 < s.size, ltrB s[0] = true)) (fun i => s.size - (intOf i).toNat)
  case atStart => exact ⟨0, Nat.zero_le _, rfl, by simp, fun h => by omega⟩
  case round =>
    obtain ⟨k, hk, rfl, ha, hf⟩ := hrel
    have HA := Lib.hid ha
    have HL := Lib.hid hf
    clear ha hf
    by_cases hlt : k < s.size
    · have hck := HC.out k hlt
      have hlt' : decide ((k : Int) < s.size) = true := decide_eq_true (by omega)
      cases hl : ltrI (s[k].toNat : Int)
      · have HN := Lib.hid hl
        clear hl
        by_cases h0 : k = 0
        · have e0 : ((k : Int) == 0) = true := beq_iff_eq.2 (by omega)
          have HZ := Lib.hid h0
          clear h0
          go_wp2_with (first | (go_at_call 93; refine (isLetter_any _ _).mono ?_; rintro e w' ⟨rfl, rfl⟩; rw [HN.out]) | (go_at_call 94; refine (isDigit_any _ _).mono ?_; rintro e w' ⟨rfl, rfl⟩; rw [HD.out]))
          go_ret
          exact ⟨ret_b (nameOK_zero hlt HZ.out HN.out).symm, HB.out⟩
        · have e0 : ((k : Int) == 0) = false := beq_eq_false_iff_ne.2 (by omega)
          have HZ := Lib.hid h0
          clear h0
          cases hd : digI (s[k].toNat : Int)
          · have HD := Lib.hid hd
            clear hd
            by_cases h95 : (s[k].toNat : Int) = 95
            · have e95 : ((s[k].toNat : Int) == 95) = true := beq_iff_eq.2 h95
              have H95 := Lib.hid h95
              clear h95
              go_wp2_with (first | (go_at_call 93; refine (isLetter_any _ _).mono ?_; rintro e w' ⟨rfl, rfl⟩; rw [HN.out]) | (go_at_call 94; refine (isDigit_any _ _).mono ?_; rintro e w' ⟨rfl, rfl⟩; rw [HD.out]))
              go_round
              case rel => exact ⟨k + 1, by omega, by go_num, rest_succ hlt HA.out (restB_low H95.out), fun _ => HL.out (Nat.pos_of_ne_zero HZ.out)⟩
              case measure => simp [intOf]; omega
            · have e95 : ((s[k].toNat : Int) == 95) = false := beq_eq_false_iff_ne.2 h95
              have H95 := Lib.hid h95
              clear h95
              go_wp2_with (first | (go_at_call 93; refine (isLetter_any _ _).mono ?_; rintro e w' ⟨rfl, rfl⟩; rw [HN.out]) | (go_at_call 94; refine (isDigit_any _ _).mono ?_; rintro e w' ⟨rfl, rfl⟩; rw [HD.out]))
              go_ret
              exact ⟨ret_b (nameOK_bad hlt (restB_no HN.out HD.out H95.out)).symm, HB.out⟩
          · have HD := Lib.hid hd
            clear hd
            go_wp2_with (first | (go_at_call 93; refine (isLetter_any _ _).mono ?_; rintro e w' ⟨rfl, rfl⟩; rw [HN.out]) | (go_at_call 94; refine (isDigit_any _ _).mono ?_; rintro e w' ⟨rfl, rfl⟩; rw [HD.out]))
            go_round
            case rel => exact ⟨k + 1, by omega, by go_num, rest_succ hlt HA.out (restB_dig HD.out), fun _ => HL.out (Nat.pos_of_ne_zero HZ.out)⟩
            case measure => simp [intOf]; omega
      · have HN := Lib.hid hl
        go_wp2_with (first | (go_at_call 93; refine (isLetter_any _ _).mono ?_; rintro e w' ⟨rfl, rfl⟩; rw [HN.out]) | (go_at_call 94; refine (isDigit_any _ _).mono ?_; rintro e w' ⟨rfl, rfl⟩; rw [HD.out]))
        go_round
        case rel => exact ⟨k + 1, by omega, by go_num, rest_succ hlt HA.out (restB_let HN.out), first_succ hlt HN.out HL.out⟩
        case measure => simp [intOf]; omega
    · have hlt' : decide ((k : Int) < s.size) = false := decide_eq_false (by omega)
      obtain rfl : k = s.size := by omega
      go_wp2
      go_ret
      exact ⟨ret_b (nameOK_yes H1.out H2.out (HL.out H1.out).2 HA.out).symm, HB.out⟩
set_option maxHeartbeats 1000000 in
theorem rvalidName_any (s : ByteArray) (w : World) (hs : s.size ≤ 9223372036854775807) :
    Calls Tryz.prog 71 #[.string s] w fun e w' => e = .returned (.bool (nameOK s)) ∧ w = w' := by
  by_cases h1 : s.size < 1
  · have HF := Lib.hid (nameOK_len (.inl h1))
    have e0 : decide ((s.size : Int) < 1) = true := decide_eq_true (by omega)
    clear h1
    go_enter Tryz.func71, Tryz.ntmps71
    go_wp2
    go_ret
    exact ⟨ret_b HF.out.symm, rfl⟩
  have e0 : decide ((s.size : Int) < 1) = false := decide_eq_false (by omega)
  by_cases h2 : 12 < s.size
  · have HF := Lib.hid (nameOK_len (.inr h2))
    have e12 : decide ((12 : Int) < s.size) = true := decide_eq_true (by omega)
    clear h1 h2
    go_enter Tryz.func71, Tryz.ntmps71
    go_wp2
    go_ret
    exact ⟨ret_b HF.out.symm, rfl⟩
  have e12 : decide ((12 : Int) < s.size) = false := decide_eq_false (by omega)
  have hp : 0 < s.size := by omega
  have H1 : Hid (1 ≤ s.size) := Lib.hid (by omega)
  have H2 : Hid (s.size ≤ 12) := Lib.hid (by omega)
  clear h1 h2
  cases hf : ltrI (s[0].toNat : Int)
  · have HF := Lib.hid hf
    clear hf
    go_enter Tryz.func71, Tryz.ntmps71
    go_wp2_with (go_at_call 85; refine (rletter_eq HF.out _).mono ?_; rintro e w' ⟨rfl, rfl⟩)
    go_ret
    exact ⟨ret_b (nameOK_first hp HF.out).symm, rfl⟩
  have HF := Lib.hid hf
  clear hf
  go_enter Tryz.func71, Tryz.ntmps71
  go_wp2_with (go_at_call 85; refine (rletter_eq HF.out _).mono ?_; rintro e w' ⟨rfl, rfl⟩)
  go_loop [3] (fun i => ∃ k : Nat, k ≤ s.size ∧ i = .int .i64 k ∧ (s.data.toList.take k).all restB = true) (fun i => s.size - (intOf i).toNat)
  case atStart => exact ⟨0, Nat.zero_le _, rfl, by simp⟩
  case round =>
    obtain ⟨k, hk, rfl, ha⟩ := hrel
    have HA := Lib.hid ha
    clear ha
    by_cases hlt : k < s.size
    · have hlt' : decide ((k : Int) < s.size) = true := decide_eq_true (by omega)
      cases hl : ltrI (s[k].toNat : Int)
      · have HN := Lib.hid hl
        clear hl
        cases hd : digI (s[k].toNat : Int)
        · have HD := Lib.hid hd
          clear hd
          by_cases h95 : (s[k].toNat : Int) = 95
          · have e95 : ((s[k].toNat : Int) == 95) = true := beq_iff_eq.2 h95
            have H95 := Lib.hid h95
            clear h95
            go_wp2_with (first | (go_at_call 85; refine (rletter_any _ _).mono ?_; rintro e w' ⟨rfl, rfl⟩; rw [HN.out]) | (go_at_call 86; refine (rdigit_any _ _).mono ?_; rintro e w' ⟨rfl, rfl⟩; rw [HD.out]))
            go_round
            case rel => exact ⟨k + 1, by omega, by go_num, rest_succ hlt HA.out (restB_low H95.out)⟩
            case measure => simp [intOf]; omega
          · have e95 : ((s[k].toNat : Int) == 95) = false := beq_eq_false_iff_ne.2 h95
            have H95 := Lib.hid h95
            clear h95
            go_wp2_with (first | (go_at_call 85; refine (rletter_any _ _).mono ?_; rintro e w' ⟨rfl, rfl⟩; rw [HN.out]) | (go_at_call 86; refine (rdigit_any _ _).mono ?_; rintro e w' ⟨rfl, rfl⟩; rw [HD.out]))
            go_ret
            exact ⟨ret_b (nameOK_bad hlt (restB_no HN.out HD.out H95.out)).symm, rfl⟩
        · have HD := Lib.hid hd
          clear hd
          go_wp2_with (first | (go_at_call 85; refine (rletter_any _ _).mono ?_; rintro e w' ⟨rfl, rfl⟩; rw [HN.out]) | (go_at_call 86; refine (rdigit_any _ _).mono ?_; rintro e w' ⟨rfl, rfl⟩; rw [HD.out]))
          go_round
          case rel => exact ⟨k + 1, by omega, by go_num, rest_succ hlt HA.out (restB_dig HD.out)⟩
          case measure => simp [intOf]; omega
      · have HN := Lib.hid hl
        clear hl
        go_wp2_with (first | (go_at_call 85; refine (rletter_any _ _).mono ?_; rintro e w' ⟨rfl, rfl⟩; rw [HN.out]) | (go_at_call 86; refine (rdigit_any _ _).mono ?_; rintro e w' ⟨rfl, rfl⟩; rw [HD.out]))
        go_round
        case rel => exact ⟨k + 1, by omega, by go_num, rest_succ hlt HA.out (restB_let HN.out)⟩
        case measure => simp [intOf]; omega
    · have hlt' : decide ((k : Int) < s.size) = false := decide_eq_false (by omega)
      obtain rfl : k = s.size := by omega
      go_wp2
      go_ret
      exact ⟨ret_b (nameOK_yes H1.out H2.out HF.out HA.out).symm, rfl⟩
end Go.Proofs.YtlnbpobipmejfaaGreatDoor
