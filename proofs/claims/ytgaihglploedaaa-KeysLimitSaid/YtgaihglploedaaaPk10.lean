/-
  Several texts in one.
-/
import Derived.Test.YtgaihglploedaaaPk09
import Derived.Test.YtgaihglploedaaaPk03
import Derived.Test.YtgaihglploedaaaPk08
import Derived.Deep.QuietTactic
import Derived.BigQuiet
import Derived.Test.YtgaihglploedaaaPk04
import Derived.OwnWalk
import Derived.Laws.AppendOwn
/-
  Tables: Get, Bag, Lookup of the reference.
-/
namespace Go.Proofs.Ytgaihglploedaaa
set_option maxRecDepth 100000
open Go.RowKit
variable {ls : List Nat}

def getO (id : Int) (R : List TRow) : List Val × Bool := match getR id R with | some l => (l, true) | none => ([], false)
theorem getO_hit {id : Int} {R : List TRow} {i : Nat} (h : i < R.length) (hp : (tAt R i).1 = id) (hn : ∀ j, j < i → (tAt R j).1 ≠ id) : getO id R = ((tAt R i).2, true) := by unfold getO; rw [getR_hit h hp hn]
theorem getO_none {id : Int} {R : List TRow} (hn : ∀ j, j < R.length → (tAt R j).1 ≠ id) : getO id R = ([], false) := by unfold getO; rw [getR_none hn]
def lookO (k : Int) (key : Val) (R : List TRow) : Int × Bool := match lookR k key R with | some i => (i, true) | none => (0, false)
theorem lookO_hit {k : Int} {key : Val} {R : List TRow} {i : Nat} (h : i < R.length) (hp : keyV k (tAt R i).2 = some key) (hn : ∀ j, j < i → keyV k (tAt R j).2 ≠ some key) : lookO k key R = ((tAt R i).1, true) := by unfold lookO; rw [lookR_hit h hp hn]
theorem lookO_none {k : Int} {key : Val} {R : List TRow} (hn : ∀ j, j < R.length → keyV k (tAt R j).2 ≠ some key) : lookO k key R = (0, false) := by unfold lookO; rw [lookR_none hn]
def GetPost (id : Int) (R : List TRow) (w : World) (e : Ending) (w' : World) : Prop := ∃ (p : Option Addr) (cap : Nat), e = .returned (.tuple #[.slice p (getO id R).1.length cap, .bool (getO id R).2]) ∧ RowAt w' p (getO id R).1 ∧ (getO id R).1.length * 32 ≤ 140737488355328 ∧ Below w.heap.size w w'

end Go.Proofs.Ytgaihglploedaaa
/-
  Changes of a table: as plain lists; what Valid and Apply of package keys compute; changes in memory.
-/
namespace Go.Proofs.Ytgaihglploedaaa
set_option maxRecDepth 100000
open Go.RowKit
variable {ls : List Nat}

/-- An update: the row's number, its values before and after. -/
abbrev PRow := Int × List Val × List Val
def pAt (U : List PRow) (i : Nat) : PRow := U.getD i (0, [], [])
def iAt (D : List Int) (i : Nat) : Int := D.getD i 0
theorem pAt_get {U : List PRow} {i : Nat} (h : i < U.length) : pAt U i = U[i] := by unfold pAt; rw [List.getD, List.getElem?_eq_getElem h]; rfl
theorem pAt_mem {U : List PRow} {i : Nat} (h : i < U.length) : pAt U i ∈ U := by rw [pAt_get h]; exact List.getElem_mem h
theorem iAt_get {D : List Int} {i : Nat} (h : i < D.length) : iAt D i = D[i] := by unfold iAt; rw [List.getD, List.getElem?_eq_getElem h]; rfl
theorem iAt_mem {D : List Int} {i : Nat} (h : i < D.length) : iAt D i ∈ D := by rw [iAt_get h]; exact List.getElem_mem h
theorem mem_iAt {D : List Int} {x : Int} : x ∈ D ↔ ∃ i, i < D.length ∧ iAt D i = x := by
  constructor
  · intro h
    obtain ⟨i, hi, he⟩ := List.getElem_of_mem h
    exact ⟨i, hi, by rw [iAt_get hi]; exact he⟩
  · rintro ⟨i, hi, rfl⟩
    exact iAt_mem hi

/-- Is entry i of Deleted right? -/
def DelOK (R : List TRow) (D : List Int) (i : Nat) : Prop := (getO (iAt D i) R).2 = true ∧ (0 < i → iAt D (i - 1) < iAt D i)
instance (R : List TRow) (D : List Int) (i : Nat) : Decidable (DelOK R D i) := by unfold DelOK; infer_instance
/-- Is entry i of Updated right? -/
def UpdOK (n : Nat) (R : List TRow) (D : List Int) (U : List PRow) (i : Nat) : Prop :=
  (getO (pAt U i).1 R).2 = true ∧ (pAt U i).1 ∉ D ∧ (0 < i → (pAt U (i - 1)).1 < (pAt U i).1) ∧ (getO (pAt U i).1 R).1 = (pAt U i).2.1 ∧ (pAt U i).2.2.length = n
instance (n : Nat) (R : List TRow) (D : List Int) (U : List PRow) (i : Nat) : Decidable (UpdOK n R D U i) := by unfold UpdOK; infer_instance
def validC (n : Nat) (R : List TRow) (I : List (List Val)) (D : List Int) (U : List PRow) : Bool :=
  decide (∀ i, i < D.length → DelOK R D i) && decide (∀ i, i < U.length → UpdOK n R D U i) && decide (∀ i, i < I.length → (rAt I i).length = n)
theorem validC_del {n : Nat} {R : List TRow} {I : List (List Val)} {D : List Int} {U : List PRow} {i : Nat} (hi : i < D.length) (h : ¬ DelOK R D i) : validC n R I D U = false := by
  unfold validC; rw [decide_eq_false (p := ∀ i, i < D.length → DelOK R D i) (fun hc => h (hc i hi))]; simp
theorem validC_upd {n : Nat} {R : List TRow} {I : List (List Val)} {D : List Int} {U : List PRow} {i : Nat} (hi : i < U.length) (h : ¬ UpdOK n R D U i) : validC n R I D U = false := by
  unfold validC; rw [decide_eq_false (p := ∀ i, i < U.length → UpdOK n R D U i) (fun hc => h (hc i hi))]; simp
theorem validC_ins {n : Nat} {R : List TRow} {I : List (List Val)} {D : List Int} {U : List PRow} {i : Nat} (hi : i < I.length) (h : (rAt I i).length ≠ n) : validC n R I D U = false := by
  unfold validC; rw [decide_eq_false (p := ∀ i, i < I.length → (rAt I i).length = n) (fun hc => h (hc i hi))]; simp
theorem validC_yes {n : Nat} {R : List TRow} {I : List (List Val)} {D : List Int} {U : List PRow} (h1 : ∀ i, i < D.length → DelOK R D i) (h2 : ∀ i, i < U.length → UpdOK n R D U i) (h3 : ∀ i, i < I.length → (rAt I i).length = n) : validC n R I D U = true := by
  unfold validC; rw [decide_eq_true h1, decide_eq_true h2, decide_eq_true h3]; rfl
theorem validC_parts {n : Nat} {R : List TRow} {I : List (List Val)} {D : List Int} {U : List PRow} (h : validC n R I D U = true) : (∀ i, i < D.length → DelOK R D i) ∧ (∀ i, i < U.length → UpdOK n R D U i) ∧ (∀ i, i < I.length → (rAt I i).length = n) := by
  unfold validC at h
  simp only [Bool.and_eq_true, decide_eq_true_eq] at h
  exact ⟨h.1.1, h.1.2, h.2⟩

/-- The first error of Fits, or 0. -/
def fitsL (f : Nat → Col) (n : Nat) : List (List Val) → Int
  | [] => 0
  | l :: L => if fitsRow f n l = 0 then fitsL f n L else fitsRow f n l
/-- The values of a row behind the updates. -/
def newV (U : List PRow) (r : TRow) : List Val := match U.find? fun p => decide (p.1 = r.1) with | some p => p.2.2 | none => r.2
/-- The rows that stay. -/
def keptR (D : List Int) (U : List PRow) (R : List TRow) : List TRow := (R.filter fun r => !decide (r.1 ∈ D)).map fun r => (r.1, newV U r)
/-- The rows that come. -/
def comeR : Int → List (List Val) → List TRow
  | _, [] => []
  | nx, l :: I => (nx, l) :: comeR (nx + 1) I
theorem comeR_length (nx : Int) (I : List (List Val)) : (comeR nx I).length = I.length := by
  induction I generalizing nx with
  | nil => rfl
  | cons l I ih => show (_ :: _).length = _; rw [List.length_cons, ih, List.length_cons]
theorem comeR_snoc (nx : Int) (I : List (List Val)) (l : List Val) : comeR nx (I ++ [l]) = comeR nx I ++ [(nx + I.length, l)] := by
  induction I generalizing nx with
  | nil => simp [comeR]
  | cons x I ih =>
    show (nx, x) :: comeR (nx + 1) (I ++ [l]) = (nx, x) :: comeR (nx + 1) I ++ [_]
    rw [ih, List.length_cons, List.cons_append]
    congr 3
    simp only [Prod.mk.injEq, and_true]
    omega
/-- The rows behind the change. -/
def afterR (nx : Int) (R : List TRow) (I : List (List Val)) (D : List Int) (U : List PRow) : List TRow := keptR D U R ++ comeR nx I
/-- The answer of Apply. -/
def applyE (nm : ByteArray) (n : Nat) (f : Nat → Col) (nx : Int) (R : List TRow) (I : List (List Val)) (D : List Int) (U : List PRow) : Int :=
  if (validT nm n f nx R && validC n R I D U) = false then 17
  else if fitsL f n (U.map (·.2.2)) ≠ 0 then fitsL f n (U.map (·.2.2))
  else if fitsL f n I ≠ 0 then fitsL f n I
  else if 100 < (keptR D U R).length + I.length ∨ 2147483648 - nx < I.length then 10
  else if dupR (findKey f n) (afterR nx R I D U) = true then 9 else 0

/-- Numbers in memory. -/
def NumAt (w : World) (p : Option Addr) (D : List Int) : Prop := ∀ i, i < D.length → ∃ (c o : Nat), p = some ⟨c, o, none⟩ ∧ c < w.heap.size ∧ w.cell? ⟨c, o + i, none⟩ = some (.int .i64 (iAt D i))
theorem NumAt.low {u v : World} {p : Option Addr} {D : List Int} (h : NumAt u p D) (hb : Below u.heap.size u v) : NumAt v p D := fun i hi => by
  obtain ⟨c, o, hp, hc, h0⟩ := h i hi
  exact ⟨c, o, hp, Nat.lt_of_lt_of_le hc hb.size, by rw [hb.cell (by exact hc)]; exact h0⟩
/-- Updates in memory. -/
def PairsAt (w : World) (p : Option Addr) (U : List PRow) : Prop := ∀ i, i < U.length → ∃ (c o : Nat) (q : Option Addr) (cq : Nat) (r : Option Addr) (cr : Nat), p = some ⟨c, o, none⟩ ∧ c < w.heap.size
  ∧ w.cell? ⟨c, o + i * 3, none⟩ = some (.int .i64 (pAt U i).1) ∧ w.cell? ⟨c, o + i * 3 + 1, none⟩ = some (.slice q (pAt U i).2.1.length cq) ∧ w.cell? ⟨c, o + i * 3 + 2, none⟩ = some (.slice r (pAt U i).2.2.length cr)
  ∧ RowAt w q (pAt U i).2.1 ∧ RowAt w r (pAt U i).2.2 ∧ (pAt U i).2.1.length * 32 ≤ 140737488355328 ∧ (pAt U i).2.2.length * 32 ≤ 140737488355328 ∧ (q = none → (pAt U i).2.1 = [] ∧ cq = 0) ∧ (r = none → (pAt U i).2.2 = [] ∧ cr = 0)
theorem PairsAt.low {u v : World} {p : Option Addr} {U : List PRow} (h : PairsAt u p U) (hb : Below u.heap.size u v) : PairsAt v p U := fun i hi => by
  obtain ⟨c, o, q, cq, r, cr, hp, hc, h0, h1, h2, h3, h4, h5⟩ := h i hi
  exact ⟨c, o, q, cq, r, cr, hp, Nat.lt_of_lt_of_le hc hb.size, by rw [hb.cell (by exact hc)]; exact h0, by rw [hb.cell (by exact hc)]; exact h1, by rw [hb.cell (by exact hc)]; exact h2, h3.low hb, h4.low hb, h5⟩
/-- A change, as it lies in memory. -/
structure Chg where
  pi : Option Addr
  ci : Nat
  I : List (List Val)
  pd : Option Addr
  cd : Nat
  D : List Int
  pu : Option Addr
  cu : Nat
  U : List PRow
def Chg.v (C : Chg) : Value := .agg #[.slice C.pi C.I.length C.ci, .slice C.pd C.D.length C.cd, .slice C.pu C.U.length C.cu]
structure ChgAt (w : World) (C : Chg) : Prop where
  ins : RowsAt w C.pi C.I
  del : NumAt w C.pd C.D
  upd : PairsAt w C.pu C.U
  inl : C.I.length ≤ 1000
  dl : C.D.length ≤ 9223372036854775807
  ul : C.U.length ≤ 9223372036854775807
  isz : ∀ l ∈ C.I, ValsSized l
  usz : ∀ p ∈ C.U, ValsSized p.2.2
  dcap : C.D.length ≤ C.cd
  ucap : C.U.length ≤ C.cu
theorem ChgAt.low {u v : World} {C : Chg} (h : ChgAt u C) (hb : Below u.heap.size u v) : ChgAt v C := ⟨h.ins.low hb, h.del.low hb, h.upd.low hb, h.inl, h.dl, h.ul, h.isz, h.usz, h.dcap, h.ucap⟩
/-- What Apply gives. -/
def ApplyPost (T : Tab) (C : Chg) (w : World) (e : Ending) (w' : World) : Prop := ∃ S : Tab, e = .returned (.tuple #[S.v, .int .i64 (applyE T.nm T.n T.f T.nx T.R C.I C.D C.U)]) ∧ TabAt w' S ∧ Below w.heap.size w w' ∧
  ((applyE T.nm T.n T.f T.nx T.R C.I C.D C.U = 0 ∧ S.nm = T.nm ∧ S.n = T.n ∧ (∀ i, i < T.n → S.f i = T.f i) ∧ S.nx = T.nx + C.I.length ∧ S.R = afterR T.nx T.R C.I C.D C.U) ∨ (applyE T.nm T.n T.f T.nx T.R C.I C.D C.U ≠ 0 ∧ S.nm = ⟨#[]⟩ ∧ S.n = 0 ∧ S.nx = 0 ∧ S.R = []))
end Go.Proofs.Ytgaihglploedaaa
/-
  The reference of package keys: has, find.
-/
namespace Go.Proofs.Ytgaihglploedaaa
set_option maxRecDepth 100000
open Go.RowKit
variable {ls : List Nat}

/-- What find gives. -/
def findO (U : List PRow) (id : Int) : List Val × Bool := match U.find? fun p => decide (p.1 = id) with | some p => (p.2.2, true) | none => ([], false)
theorem findO_hit {U : List PRow} {id : Int} {i : Nat} (h : i < U.length) (hp : (pAt U i).1 = id) (hn : ∀ j, j < i → (pAt U j).1 ≠ id) : findO U id = ((pAt U i).2.2, true) := by
  unfold findO
  rw [find_hit (P := fun p : PRow => decide (p.1 = id)) h (by rw [← pAt_get h]; exact decide_eq_true hp) (fun j hj => by rw [← pAt_get (by omega)]; exact decide_eq_false (hn j hj)), pAt_get h]
theorem findO_none {U : List PRow} {id : Int} (hn : ∀ j, j < U.length → (pAt U j).1 ≠ id) : findO U id = ([], false) := by
  unfold findO
  rw [find_none (P := fun p : PRow => decide (p.1 = id)) (fun j hj => by rw [← pAt_get hj]; exact decide_eq_false (hn j hj))]
theorem newV_find {U : List PRow} {r : TRow} : newV U r = if (findO U r.1).2 = true then (findO U r.1).1 else r.2 := by
  unfold newV findO
  cases U.find? fun p => decide (p.1 = r.1) <;> rfl
/-- What find gives, in memory. -/
def FindPost (U : List PRow) (id : Int) (w : World) (e : Ending) (w' : World) : Prop := ∃ (p : Option Addr) (cap : Nat), e = .returned (.tuple #[.slice p (findO U id).1.length cap, .bool (findO U id).2]) ∧ RowAt w' p (findO U id).1 ∧ (findO U id).1.length * 32 ≤ 140737488355328 ∧ (p = none → (findO U id).1 = [] ∧ cap = 0) ∧ Below w.heap.size w w'
theorem not_mem_i {D : List Int} {x : Int} (h : ∀ j, j < D.length → iAt D j ≠ x) : x ∉ D := fun hm => by
  obtain ⟨i, hi, he⟩ := mem_iAt.1 hm
  exact h i hi he
end Go.Proofs.Ytgaihglploedaaa
/-
  Rows of columns that the call owns: append; stores into them.
-/
namespace Go.Proofs.Ytgaihglploedaaa
set_option maxRecDepth 100000
open Go.RowKit
variable {ls : List Nat}

def cAt (l : List Col) (i : Nat) : Col := l.getD i default
/-- The cells of a list of columns. -/
def ccells : List Col → List Value
  | [] => []
  | x :: l => .string x.nm :: .int .i64 x.ty :: .bool x.nn :: .bool x.key :: ccells l
theorem ccells_length (l : List Col) : (ccells l).length = l.length * 4 := by
  induction l with
  | nil => rfl
  | cons x l ih => simp only [ccells, List.length_cons, ih]; omega
theorem ccells_append (a b : List Col) : ccells (a ++ b) = ccells a ++ ccells b := by
  induction a with
  | nil => rfl
  | cons x a ih => simp only [List.cons_append, ccells, ih]
theorem ccells_at (l : List Col) : ∀ i, i < l.length → (ccells l)[i * 4]? = some (.string (cAt l i).nm) ∧ (ccells l)[i * 4 + 1]? = some (.int .i64 (cAt l i).ty) ∧ (ccells l)[i * 4 + 2]? = some (.bool (cAt l i).nn) ∧ (ccells l)[i * 4 + 3]? = some (.bool (cAt l i).key) := by
  induction l with
  | nil => intro i hi; simp at hi
  | cons x l ih =>
    intro i hi
    cases i with
    | zero => exact ⟨rfl, rfl, rfl, rfl⟩
    | succ i =>
      have h := ih i (by simpa using hi)
      have e : cAt (x :: l) (i + 1) = cAt l i := by simp [cAt]
      rw [e, Nat.succ_mul]
      exact h
theorem ccells_one (l : List Col) : ∀ u ∈ ccells l, u.oneCell' = true := by
  induction l with
  | nil => intro u hu; simp [ccells] at hu
  | cons x l ih =>
    intro u hu
    simp only [ccells, List.mem_cons] at hu
    rcases hu with rfl | rfl | rfl | rfl | hu
    · rfl
    · rfl
    · rfl
    · rfl
    · exact ih u hu
/-- Texts of columns that Go could hold. -/
def Sized (l : List Col) : Prop := ∀ i, i < l.length → (cAt l i).nm.size ≤ 9223372036854775807
theorem cAt_left {a b : List Col} {i : Nat} (h : i < a.length) : cAt (a ++ b) i = cAt a i := by unfold cAt; rw [List.getD, List.getElem?_append_left h]; rfl
theorem cAt_new {a : List Col} {c : Col} : cAt (a ++ [c]) a.length = c := by unfold cAt; rw [List.getD, List.getElem?_append_right (Nat.le_refl _)]; simp
theorem all_add {P : Nat → Col → Prop} {a : List Col} {c : Col} (h : ∀ i, i < a.length → P i (cAt a i)) (hc : P a.length c) : ∀ i, i < (a ++ [c]).length → P i (cAt (a ++ [c]) i) := by
  intro i hi
  rw [List.length_append, List.length_singleton] at hi
  by_cases hin : i < a.length
  · rw [cAt_left hin]; exact h i hin
  · obtain rfl : i = a.length := by omega
    rw [cAt_new]; exact hc
theorem Sized.add {a : List Col} {c : Col} (h : Sized a) (hc : c.nm.size ≤ 9223372036854775807) : Sized (a ++ [c]) := all_add (P := fun _ c => c.nm.size ≤ 9223372036854775807) h hc
/-- Any columns in memory, as a list. -/
theorem cols_list (n : Nat) (f : Nat → Col) : ∃ l : List Col, l.length = n ∧ ∀ i, i < n → cAt l i = f i := by
  refine ⟨(List.range n).map f, by simp, fun i hi => ?_⟩
  unfold cAt
  rw [List.getD, List.getElem?_map, List.getElem?_range hi]
  rfl
theorem ColsAt.congr {w : World} {p : Option Addr} {n : Nat} {f g : Nat → Col} (h : ColsAt w p n f) (he : ∀ i, i < n → g i = f i) : ColsAt w p n g := fun i hi => by rw [he i hi]; exact h i hi

theorem cols_of_owns {w : World} {base n : Nat} {e : TypeId} {v : Value} {l : List Col} (h : w.ownsRow base e 4 v n (ccells l)) (hs : Sized l) :
    ∃ p cap, v = .slice p n cap ∧ n = l.length ∧ ColsAt w p n (cAt l) ∧ ∀ q, p = some q → base ≤ q.block ∧ q.off = 0 ∧ ∀ o, w.frozen? ⟨q.block, o, none⟩ = false := by
  obtain ⟨hl, h⟩ := h
  rw [ccells_length] at hl
  have hn : n = l.length := by omega
  rcases h with ⟨rfl, h0⟩ | ⟨g, cap, cur, rfl, hg, hh, hcap, hm, hcur, htake⟩
  · exact ⟨none, 0, by rw [h0], hn, fun i hi => by omega, fun q hq => by cases hq⟩
  · refine ⟨_, cap, rfl, hn, fun i hi => ⟨g, 0, rfl, (Array.getElem?_eq_some_iff.1 hh).1, hs i (by omega), ?_⟩, fun q hq => ?_⟩
    · have key : ∀ j v, (ccells l)[j]? = some v → w.cell? ⟨g, 0 + j, none⟩ = some v := by
        intro j v hj
        rw [← htake] at hj
        have hj' : cur.toList[j]? = some v := by
          rw [List.getElem?_take] at hj
          split at hj
          · exact hj
          · cases hj
        simp [World.cell?, hh]
        simpa using hj'
      obtain ⟨h0, h1, h2, h3⟩ := ccells_at l i (by omega)
      exact ⟨key _ _ h0, key _ _ h1, key _ _ h2, key _ _ h3⟩
    · cases hq
      exact ⟨hg, rfl, fun o => by simp [World.frozen?, hh]⟩

theorem info_col : (Try.prog.info? 62).map (fun i => (i.zero, i.size, i.bytes)) = some (some (.agg #[.string ⟨#[]⟩, .int .i64 0, .bool false, .bool false]), 4, 32) := by kernel_rfl

/-- What an append asks of a source. -/
theorem news_of_cols {w : World} {a : Addr} {l : List Col} (h : ColsAt w (some a) l.length (cAt l)) : ∀ j u, (ccells l)[j]? = some u → w.cell? (a.add j) = some u := by
  intro j u hj
  have hjl : j < l.length * 4 := by
    have := (List.getElem?_eq_some_iff.1 hj).1
    rw [ccells_length] at this; exact this
  have hi : j / 4 < l.length := by omega
  obtain ⟨c, o, hc, -, -, h0, h1, h2, h3⟩ := h (j / 4) hi
  obtain rfl := Option.some.inj hc
  obtain ⟨v0, v1, v2, v3⟩ := ccells_at l (j / 4) hi
  have ha : (⟨c, o, none⟩ : Addr).add j = ⟨c, o + j, none⟩ := by unfold Addr.add; split <;> simp_all
  rw [ha]
  have hr : j % 4 = 0 ∨ j % 4 = 1 ∨ j % 4 = 2 ∨ j % 4 = 3 := by omega
  rcases hr with hr | hr | hr | hr
  · have e : j = j / 4 * 4 := by omega
    rw [e] at hj ⊢
    have e2 : j / 4 * 4 / 4 = j / 4 := by omega
    rw [v0] at hj; obtain rfl := Option.some.inj hj; exact h0
  · have e : j = j / 4 * 4 + 1 := by omega
    rw [e] at hj ⊢
    rw [v1] at hj; obtain rfl := Option.some.inj hj; exact h1
  · have e : j = j / 4 * 4 + 2 := by omega
    rw [e] at hj ⊢
    rw [v2] at hj; obtain rfl := Option.some.inj hj; exact h2
  · have e : j = j / 4 * 4 + 3 := by omega
    rw [e] at hj ⊢
    rw [v3] at hj; obtain rfl := Option.some.inj hj; exact h3

/-- append(v, xs...) of columns, v the call's own, xs not nil. -/
theorem wpList_append_cols {w : World} {ops : Array Oper} {rest : List Oper} {o : Oper} {a : Act} {Q : Exit → Act → World → Prop} (hgd : o.guard = none) (s x : Operand)
    (ho : o.op = .call { callee := .builtin .append, args := #[s, x], argTypes := #[23, 23] })
    (base : Nat) (v : Value) (n : Nat) (l : List Col) (hs : a.eval s = v) (hown : w.ownsRow base 62 4 v n (ccells l))
    (ad : Addr) (lx : List Col) (cx m : Nat) (hx : a.eval x = .slice (some ad) m cx) (hm : lx.length = m) (hrow : ColsAt w (some ad) lx.length (cAt lx)) (hsum : (n + lx.length) * 32 ≤ 140737488355328) (hbase : base ≤ w.heap.size)
    (h : ∀ v' w', w'.ownsRow base 62 4 v' (n + lx.length) (ccells (l ++ lx)) → w.grownBy w' v.ownBlock → wpList Try.prog ops Q rest (a.put o.dst v') w') : wpList Try.prog ops Q (o :: rest) a w := by
  obtain ⟨i0, hi, hz0, hz1, hz2⟩ := info_parts info_col
  subst hm
  refine wpList_append_own w hgd s x 23 ho base 62 i0 _ 4 32 Try.underlying23 hi hz0 hz1 hz2 rfl (by decide) v n (ccells l) hs hown ad lx.length cx (ccells lx) hx (ccells_length lx) (news_of_cols hrow) (ccells_one lx) (by unfold maxLen; omega) hsum hbase ?_
  intro v' w' h1 h2 _
  exact h v' w' (by rw [ccells_append]; exact h1) h2

theorem cowns_empty (w : World) : (w.alloc (.cells #[] 62)).ownsRow w.heap.size 62 4 (.slice (some ⟨w.heap.size, 0, none⟩) 0 0) 0 (ccells []) := by
  refine ⟨rfl, Or.inr ⟨w.heap.size, 0, #[], rfl, Nat.le_refl _, ?_, Nat.le_refl _, by decide, rfl, rfl⟩⟩
  show (w.heap.push _)[w.heap.size]? = _
  simp
theorem Cell2.grown {u v : World} {X : Nat} {x y : Value} {row : Option Nat} (h : Cell2 u X x y) (hg : u.grownBy v row) (hr : ∀ k, row = some k → X < k) : Cell2 v X x y := by
  have hb : v.heap[X]? = u.heap[X]? := hg.block X h.lt (fun e => by have := hr X e.symm; omega)
  exact ⟨Nat.lt_of_lt_of_le h.lt hg.size, by rw [World.cell?_of_block (w := u) hb]; exact h.c0, by rw [World.cell?_of_block (w := u) hb]; exact h.c1, fun o => by rw [World.frozen?_of_block (w := u) hb]; exact h.fz o⟩
theorem Cell2.step {u v : World} {X b : Nat} {x y : Value} (h : Cell2 u X x y) (hs : StepT b u v) (hn : X ≠ b) : Cell2 v X x y :=
  ⟨Nat.lt_of_lt_of_le h.lt hs.size, by rw [hs.cell (by exact h.lt) (by exact hn)]; exact h.c0, by rw [hs.cell (by exact h.lt) (by exact hn)]; exact h.c1, fun o => by rw [hs.frozen (by exact h.lt) (by exact hn)]; exact h.fz o⟩
theorem Cell4.step {u v : World} {X b : Nat} {x y z q : Value} (h : Cell4 u X x y z q) (hs : StepT b u v) (hn : X ≠ b) : Cell4 v X x y z q :=
  ⟨Nat.lt_of_lt_of_le h.lt hs.size, by rw [hs.cell (by exact h.lt) (by exact hn)]; exact h.c0, by rw [hs.cell (by exact h.lt) (by exact hn)]; exact h.c1, by rw [hs.cell (by exact h.lt) (by exact hn)]; exact h.c2, by rw [hs.cell (by exact h.lt) (by exact hn)]; exact h.c3, fun o => by rw [hs.frozen (by exact h.lt) (by exact hn)]; exact h.fz o⟩
theorem set_size (u : World) (a : Addr) (y : Value) : (u.setCell a y).heap.size = u.heap.size := by simp [World.setCell]
theorem Cell2.far {u : World} {X Z o : Nat} {a b : Value} (h : Cell2 u X a b) (hn : X ≠ Z) (y : Value) : Cell2 (u.setCell ⟨Z, o, none⟩ y) X a b := by
  have hk : (u.setCell ⟨Z, o, none⟩ y).heap[X]? = u.heap[X]? := Below.heap_setCell _ _ _ _ hn
  exact ⟨by simpa [World.setCell] using h.lt, by rw [World.cell?_of_block (w := u) hk]; exact h.c0, by rw [World.cell?_of_block (w := u) hk]; exact h.c1, fun i => by rw [World.frozen?_of_block (w := u) hk]; exact h.fz i⟩
end Go.Proofs.Ytgaihglploedaaa
