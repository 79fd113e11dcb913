/-
  Several texts in one.
-/
import Derived.Test.YtlnbpobipmejfaaGreatDoorPk09
import Derived.Test.YtlnbpobipmejfaaGreatDoorPk11
import Derived.Test.YtlnbpobipmejfaaGreatDoorPk16
/-
  Changes of a table: as plain lists; what Valid and Apply of package keys compute; changes in memory.
-/
namespace Go.Proofs.YtlnbpobipmejfaaGreatDoor
set_option maxRecDepth 100000
open Go.RowKit
variable {ls : List Nat}

/-- An update: the row's number, its values before and after. -/
abbrev PRow := Int × List Val × List Val
def pAt (U : List PRow) (i : Nat) : PRow := U.getD i (0, [], [])
def iAt (D : List Int) (i : Nat) : Int := D.getD i 0
theorem pAt_get {U : List PRow} {i : Nat} (h : i < U.length) : pAt U i = U[i] := by unfold pAt; rw [List.getD, List.getElem?_eq_getElem h]; rfl
theorem pAt_mem {U : List PRow} {i : Nat} (h : i < U.length) : pAt U i ∈ U := by rw [pAt_get h]; exact List.getElem_mem h
theorem iAt_get {D : List Int} {i : Nat} (h : i < D.length) : iAt D i = D[i] := by unfold iAt; rw [List.getD, List.getElem?_eq_getElem h]; rfl
theorem iAt_mem {D : List Int} {i : Nat} (h : i < D.length) : iAt D i ∈ D := by rw [iAt_get h]; exact List.getElem_mem h
theorem mem_iAt {D : List Int} {x : Int} : x ∈ D ↔ ∃ i, i < D.length ∧ iAt D i = x := by
  constructor
  · intro h
    obtain ⟨i, hi, he⟩ := List.getElem_of_mem h
    exact ⟨i, hi, by rw [iAt_get hi]; exact he⟩
  · rintro ⟨i, hi, rfl⟩
    exact iAt_mem hi

/-- Is entry i of Deleted right? -/
def DelOK (R : List TRow) (D : List Int) (i : Nat) : Prop := (getO (iAt D i) R).2 = true ∧ (0 < i → iAt D (i - 1) < iAt D i)
instance (R : List TRow) (D : List Int) (i : Nat) : Decidable (DelOK R D i) := by unfold DelOK; infer_instance
/-- Is entry i of Updated right? -/
def UpdOK (n : Nat) (R : List TRow) (D : List Int) (U : List PRow) (i : Nat) : Prop :=
  (getO (pAt U i).1 R).2 = true ∧ (pAt U i).1 ∉ D ∧ (0 < i → (pAt U (i - 1)).1 < (pAt U i).1) ∧ (getO (pAt U i).1 R).1 = (pAt U i).2.1 ∧ (pAt U i).2.2.length = n
instance (n : Nat) (R : List TRow) (D : List Int) (U : List PRow) (i : Nat) : Decidable (UpdOK n R D U i) := by unfold UpdOK; infer_instance
def validC (n : Nat) (R : List TRow) (I : List (List Val)) (D : List Int) (U : List PRow) : Bool :=
  decide (∀ i, i < D.length → DelOK R D i) && decide (∀ i, i < U.length → UpdOK n R D U i) && decide (∀ i, i < I.length → (rAt I i).length = n)
theorem validC_del {n : Nat} {R : List TRow} {I : List (List Val)} {D : List Int} {U : List PRow} {i : Nat} (hi : i < D.length) (h : ¬ DelOK R D i) : validC n R I D U = false := by
  unfold validC; rw [decide_eq_false (p := ∀ i, i < D.length → DelOK R D i) (fun hc => h (hc i hi))]; simp
theorem validC_upd {n : Nat} {R : List TRow} {I : List (List Val)} {D : List Int} {U : List PRow} {i : Nat} (hi : i < U.length) (h : ¬ UpdOK n R D U i) : validC n R I D U = false := by
  unfold validC; rw [decide_eq_false (p := ∀ i, i < U.length → UpdOK n R D U i) (fun hc => h (hc i hi))]; simp
theorem validC_ins {n : Nat} {R : List TRow} {I : List (List Val)} {D : List Int} {U : List PRow} {i : Nat} (hi : i < I.length) (h : (rAt I i).length ≠ n) : validC n R I D U = false := by
  unfold validC; rw [decide_eq_false (p := ∀ i, i < I.length → (rAt I i).length = n) (fun hc => h (hc i hi))]; simp
theorem validC_yes {n : Nat} {R : List TRow} {I : List (List Val)} {D : List Int} {U : List PRow} (h1 : ∀ i, i < D.length → DelOK R D i) (h2 : ∀ i, i < U.length → UpdOK n R D U i) (h3 : ∀ i, i < I.length → (rAt I i).length = n) : validC n R I D U = true := by
  unfold validC; rw [decide_eq_true h1, decide_eq_true h2, decide_eq_true h3]; rfl
theorem validC_parts {n : Nat} {R : List TRow} {I : List (List Val)} {D : List Int} {U : List PRow} (h : validC n R I D U = true) : (∀ i, i < D.length → DelOK R D i) ∧ (∀ i, i < U.length → UpdOK n R D U i) ∧ (∀ i, i < I.length → (rAt I i).length = n) := by
  unfold validC at h
  simp only [Bool.and_eq_true, decide_eq_true_eq] at h
  exact ⟨h.1.1, h.1.2, h.2⟩

/-- The first error of Fits, or 0. -/
def fitsL (f : Nat → Col) (n : Nat) : List (List Val) → Int
  | [] => 0
  | l :: L => if fitsRow f n l = 0 then fitsL f n L else fitsRow f n l
/-- The values of a row behind the updates. -/
def newV (U : List PRow) (r : TRow) : List Val := match U.find? fun p => decide (p.1 = r.1) with | some p => p.2.2 | none => r.2
/-- The rows that stay. -/
def keptR (D : List Int) (U : List PRow) (R : List TRow) : List TRow := (R.filter fun r => !decide (r.1 ∈ D)).map fun r => (r.1, newV U r)
/-- The rows that come. -/
def comeR : Int → List (List Val) → List TRow
  | _, [] => []
  | nx, l :: I => (nx, l) :: comeR (nx + 1) I
theorem comeR_length (nx : Int) (I : List (List Val)) : (comeR nx I).length = I.length := by
  induction I generalizing nx with
  | nil => rfl
  | cons l I ih => show (_ :: _).length = _; rw [List.length_cons, ih, List.length_cons]
theorem comeR_snoc (nx : Int) (I : List (List Val)) (l : List Val) : comeR nx (I ++ [l]) = comeR nx I ++ [(nx + I.length, l)] := by
  induction I generalizing nx with
  | nil => simp [comeR]
  | cons x I ih =>
    show (nx, x) :: comeR (nx + 1) (I ++ [l]) = (nx, x) :: comeR (nx + 1) I ++ [_]
    rw [ih, List.length_cons, List.cons_append]
    congr 3
    simp only [Prod.mk.injEq, and_true]
    omega
/-- The rows behind the change. -/
def afterR (nx : Int) (R : List TRow) (I : List (List Val)) (D : List Int) (U : List PRow) : List TRow := keptR D U R ++ comeR nx I
/-- The answer of Apply. -/
def applyE (nm : ByteArray) (n : Nat) (f : Nat → Col) (nx : Int) (R : List TRow) (I : List (List Val)) (D : List Int) (U : List PRow) : Int :=
  if (validT nm n f nx R && validC n R I D U) = false then 17
  else if fitsL f n (U.map (·.2.2)) ≠ 0 then fitsL f n (U.map (·.2.2))
  else if fitsL f n I ≠ 0 then fitsL f n I
  else if 100 < (keptR D U R).length + I.length ∨ 2147483648 - nx < I.length then 10
  else if dupR (findKey f n) (afterR nx R I D U) = true then 9 else 0

/-- Numbers in memory. -/
def NumAt (w : World) (p : Option Addr) (D : List Int) : Prop := ∀ i, i < D.length → ∃ (c o : Nat), p = some ⟨c, o, none⟩ ∧ c < w.heap.size ∧ w.cell? ⟨c, o + i, none⟩ = some (.int .i64 (iAt D i))
theorem NumAt.low {u v : World} {p : Option Addr} {D : List Int} (h : NumAt u p D) (hb : Below u.heap.size u v) : NumAt v p D := fun i hi => by
  obtain ⟨c, o, hp, hc, h0⟩ := h i hi
  exact ⟨c, o, hp, Nat.lt_of_lt_of_le hc hb.size, by rw [hb.cell (by exact hc)]; exact h0⟩
/-- Updates in memory. -/
def PairsAt (w : World) (p : Option Addr) (U : List PRow) : Prop := ∀ i, i < U.length → ∃ (c o : Nat) (q : Option Addr) (cq : Nat) (r : Option Addr) (cr : Nat), p = some ⟨c, o, none⟩ ∧ c < w.heap.size
  ∧ w.cell? ⟨c, o + i * 3, none⟩ = some (.int .i64 (pAt U i).1) ∧ w.cell? ⟨c, o + i * 3 + 1, none⟩ = some (.slice q (pAt U i).2.1.length cq) ∧ w.cell? ⟨c, o + i * 3 + 2, none⟩ = some (.slice r (pAt U i).2.2.length cr)
  ∧ RowAt w q (pAt U i).2.1 ∧ RowAt w r (pAt U i).2.2 ∧ (pAt U i).2.1.length * 32 ≤ 140737488355328 ∧ (pAt U i).2.2.length * 32 ≤ 140737488355328 ∧ (q = none → (pAt U i).2.1 = [] ∧ cq = 0) ∧ (r = none → (pAt U i).2.2 = [] ∧ cr = 0)
theorem PairsAt.low {u v : World} {p : Option Addr} {U : List PRow} (h : PairsAt u p U) (hb : Below u.heap.size u v) : PairsAt v p U := fun i hi => by
  obtain ⟨c, o, q, cq, r, cr, hp, hc, h0, h1, h2, h3, h4, h5⟩ := h i hi
  exact ⟨c, o, q, cq, r, cr, hp, Nat.lt_of_lt_of_le hc hb.size, by rw [hb.cell (by exact hc)]; exact h0, by rw [hb.cell (by exact hc)]; exact h1, by rw [hb.cell (by exact hc)]; exact h2, h3.low hb, h4.low hb, h5⟩
/-- A change, as it lies in memory. -/
structure Chg where
  pi : Option Addr
  ci : Nat
  I : List (List Val)
  pd : Option Addr
  cd : Nat
  D : List Int
  pu : Option Addr
  cu : Nat
  U : List PRow
def Chg.v (C : Chg) : Value := .agg #[.slice C.pi C.I.length C.ci, .slice C.pd C.D.length C.cd, .slice C.pu C.U.length C.cu]
structure ChgAt (w : World) (C : Chg) : Prop where
  ins : RowsAt w C.pi C.I
  del : NumAt w C.pd C.D
  upd : PairsAt w C.pu C.U
  inl : C.I.length ≤ 1000
  dl : C.D.length ≤ 9223372036854775807
  ul : C.U.length ≤ 9223372036854775807
  isz : ∀ l ∈ C.I, ValsSized l
  usz : ∀ p ∈ C.U, ValsSized p.2.2
  dcap : C.D.length ≤ C.cd
  ucap : C.U.length ≤ C.cu
theorem ChgAt.low {u v : World} {C : Chg} (h : ChgAt u C) (hb : Below u.heap.size u v) : ChgAt v C := ⟨h.ins.low hb, h.del.low hb, h.upd.low hb, h.inl, h.dl, h.ul, h.isz, h.usz, h.dcap, h.ucap⟩
/-- What Apply gives. -/
def ApplyPost (T : Tab) (C : Chg) (w : World) (e : Ending) (w' : World) : Prop := ∃ S : Tab, e = .returned (.tuple #[S.v, .int .i64 (applyE T.nm T.n T.f T.nx T.R C.I C.D C.U)]) ∧ TabAt w' S ∧ Below w.heap.size w w' ∧
  ((applyE T.nm T.n T.f T.nx T.R C.I C.D C.U = 0 ∧ S.nm = T.nm ∧ S.n = T.n ∧ (∀ i, i < T.n → S.f i = T.f i) ∧ S.nx = T.nx + C.I.length ∧ S.R = afterR T.nx T.R C.I C.D C.U) ∨ (applyE T.nm T.n T.f T.nx T.R C.I C.D C.U ≠ 0 ∧ S.nm = ⟨#[]⟩ ∧ S.n = 0 ∧ S.nx = 0 ∧ S.R = []))
end Go.Proofs.YtlnbpobipmejfaaGreatDoor
/-
  The reference of package keys: has, find.
-/
namespace Go.Proofs.YtlnbpobipmejfaaGreatDoor
set_option maxRecDepth 100000
open Go.RowKit
variable {ls : List Nat}

/-- What find gives. -/
def findO (U : List PRow) (id : Int) : List Val × Bool := match U.find? fun p => decide (p.1 = id) with | some p => (p.2.2, true) | none => ([], false)
theorem findO_hit {U : List PRow} {id : Int} {i : Nat} (h : i < U.length) (hp : (pAt U i).1 = id) (hn : ∀ j, j < i → (pAt U j).1 ≠ id) : findO U id = ((pAt U i).2.2, true) := by
  unfold findO
  rw [find_hit (P := fun p : PRow => decide (p.1 = id)) h (by rw [← pAt_get h]; exact decide_eq_true hp) (fun j hj => by rw [← pAt_get (by omega)]; exact decide_eq_false (hn j hj)), pAt_get h]
theorem findO_none {U : List PRow} {id : Int} (hn : ∀ j, j < U.length → (pAt U j).1 ≠ id) : findO U id = ([], false) := by
  unfold findO
  rw [find_none (P := fun p : PRow => decide (p.1 = id)) (fun j hj => by rw [← pAt_get hj]; exact decide_eq_false (hn j hj))]
theorem newV_find {U : List PRow} {r : TRow} : newV U r = if (findO U r.1).2 = true then (findO U r.1).1 else r.2 := by
  unfold newV findO
  cases U.find? fun p => decide (p.1 = r.1) <;> rfl
/-- What find gives, in memory. -/
def FindPost (U : List PRow) (id : Int) (w : World) (e : Ending) (w' : World) : Prop := ∃ (p : Option Addr) (cap : Nat), e = .returned (.tuple #[.slice p (findO U id).1.length cap, .bool (findO U id).2]) ∧ RowAt w' p (findO U id).1 ∧ (findO U id).1.length * 32 ≤ 140737488355328 ∧ (p = none → (findO U id).1 = [] ∧ cap = 0) ∧ Below w.heap.size w w'
theorem not_mem_i {D : List Int} {x : Int} (h : ∀ j, j < D.length → iAt D j ≠ x) : x ∉ D := fun hm => by
  obtain ⟨i, hi, he⟩ := mem_iAt.1 hm
  exact h i hi he
set_option maxHeartbeats 1000000 in
theorem rhas_any (D : List Int) (p : Option Addr) (cap : Nat) (id : Int) (w : World) (hl : D.length ≤ 9223372036854775807) (hD : NumAt w p D) :
    Calls Tryz.prog 55 #[.slice p D.length cap, .int .i64 id] w fun e w' => e = .returned (.bool (decide (id ∈ D))) ∧ Below w.heap.size w w' := by
  have HD := Lib.hid hD
  clear hD
  go_enter Tryz.func55, Tryz.ntmps55
  go_wp2_with fail
  go_loopw [9] (fun i v => ∃ k : Nat, k ≤ D.length ∧ i = .int .i64 k ∧ (∀ j, j < k → iAt D j ≠ id) ∧ Below w.heap.size w v) (fun i _ => D.length - (intOf i).toNat)
  case atStart => exact ⟨0, Nat.zero_le _, rfl, fun j hj => by omega, Below.refl _ _⟩
  case round =>
    obtain ⟨k, hk, rfl, ha, hb⟩ := hrel
    have HA := Lib.hid ha
    have HB := Lib.hid hb
    clear ha hb
    by_cases hlt : k < D.length
    · have hlt' : decide ((k : Int) < D.length) = true := decide_eq_true (by omega)
      obtain ⟨c, o, rfl, hc, h0⟩ := HD.out.low HB.out k hlt
      cases he : (iAt D k == id)
      · have HE := Lib.hid (beq_eq_false_iff_ne.1 he)
        go_wp2
        go_roundw
        case rel => exact ⟨k + 1, by omega, by go_num, all_succ HA.out HE.out, HB.out⟩
        case measure => simp [intOf]; omega
      · have HE := Lib.hid (beq_iff_eq.1 he)
        have HM := Lib.hid (decide_eq_true (HE.out ▸ iAt_mem hlt : id ∈ D))
        go_wp2
        go_ret
        exact ⟨by rw [HM.out]; rfl, HB.out⟩
    · have hlt' : decide ((k : Int) < D.length) = false := decide_eq_false (by omega)
      obtain rfl : k = D.length := by omega
      have HM := Lib.hid (decide_eq_false (not_mem_i HA.out))
      go_wp2
      go_ret
      exact ⟨by rw [HM.out]; rfl, HB.out⟩
set_option maxHeartbeats 1000000 in
theorem rfindp_any (U : List PRow) (p : Option Addr) (cap : Nat) (id : Int) (w : World) (hl : U.length ≤ 9223372036854775807) (hU : PairsAt w p U) :
    Calls Tryz.prog 56 #[.slice p U.length cap, .int .i64 id] w (FindPost U id w) := by
  unfold FindPost
  have HU := Lib.hid hU
  clear hU
  go_enter Tryz.func56, Tryz.ntmps56
  go_wp2_with fail
  go_loopw [10] (fun i v => ∃ k : Nat, k ≤ U.length ∧ i = .int .i64 k ∧ (∀ j, j < k → (pAt U j).1 ≠ id) ∧ Below w.heap.size w v) (fun i _ => U.length - (intOf i).toNat)
  case atStart => exact ⟨0, Nat.zero_le _, rfl, fun j hj => by omega, Below.refl _ _⟩
  case round =>
    obtain ⟨k, hk, rfl, ha, hb⟩ := hrel
    have HA := Lib.hid ha
    have HB := Lib.hid hb
    clear ha hb
    by_cases hlt : k < U.length
    · have hlt' : decide ((k : Int) < U.length) = true := decide_eq_true (by omega)
      obtain ⟨c, o, q, cq, r, cr, rfl, hc, h0, h1, h2, -, h4, -, h6, -, h8⟩ := HU.out.low HB.out k hlt
      have HR := Lib.hid h4
      have HS := Lib.hid h6
      have HN := Lib.hid h8
      clear h4 h6 h8
      cases he : ((pAt U k).1 == id)
      · have HE := Lib.hid (beq_eq_false_iff_ne.1 he)
        go_wp2
        go_roundw
        case rel => exact ⟨k + 1, by omega, by go_num, all_succ HA.out HE.out, below_new HB.out _⟩
        case measure => simp [intOf]; omega
      · have HE := Lib.hid (beq_iff_eq.1 he)
        have HG := Lib.hid (findO_hit hlt HE.out HA.out)
        go_wp2
        go_ret2
        rw [HG.out]
        exact ⟨_, _, rfl, HR.out.low (below_alloc _ _), HS.out, HN.out, below_new HB.out _⟩
    · have hlt' : decide ((k : Int) < U.length) = false := decide_eq_false (by omega)
      obtain rfl : k = U.length := by omega
      have HG := Lib.hid (findO_none HA.out)
      go_wp2
      go_ret2
      rw [HG.out]
      exact ⟨none, 0, rfl, fun i hi => by simp at hi, by simp, fun _ => ⟨rfl, rfl⟩, HB.out⟩
end Go.Proofs.YtlnbpobipmejfaaGreatDoor
/-
  Package keys: what one pass over ascending rows and lists computes (plain).
-/
namespace Go.Proofs.YtlnbpobipmejfaaGreatDoor
set_option maxRecDepth 100000
open Go.RowKit

/-- The rows that stay, or none where the lists do not agree with the rows. -/
def remR : List TRow → List Int → List PRow → Option (List TRow)
  | [], D, U => if D = [] ∧ U = [] then some [] else none
  | r :: R, D, U =>
    if D.head? = some r.1 then remR R D.tail U
    else if (U.head?.map (·.1)) = some r.1 then
      if (pAt U 0).2.1 = r.2 then (remR R D U.tail).map ((r.1, (pAt U 0).2.2) :: ·) else none
    else (remR R D U).map (r :: ·)
/-- The lists agree with the rows. -/
structure Agree (R : List TRow) (D : List Int) (U : List PRow) : Prop where
  dup : D.Pairwise (· < ·)
  din : ∀ d ∈ D, d ∈ R.map (·.1)
  uup : (U.map (·.1)).Pairwise (· < ·)
  uin : ∀ u ∈ U, (u.1, u.2.1) ∈ R
  ud : ∀ u ∈ U, u.1 ∉ D
theorem keptR_cons {D : List Int} {U : List PRow} {r : TRow} {R : List TRow} : keptR D U (r :: R) = (if r.1 ∈ D then [] else [(r.1, newV U r)]) ++ keptR D U R := by
  unfold keptR
  by_cases h : r.1 ∈ D
  · rw [if_pos h, List.filter_cons_of_neg (by rw [decide_eq_true h]; decide)]; rfl
  · rw [if_neg h, List.filter_cons_of_pos (by rw [decide_eq_false h]; decide)]; rfl
theorem keptR_congr {D D' : List Int} {U U' : List PRow} {R : List TRow} (h : ∀ r ∈ R, (r.1 ∈ D ↔ r.1 ∈ D') ∧ newV U r = newV U' r) : keptR D U R = keptR D' U' R := by
  induction R with
  | nil => rfl
  | cons r R ih =>
    rw [keptR_cons, keptR_cons, ih fun x hx => h x (List.mem_cons_of_mem _ hx)]
    obtain ⟨h1, h2⟩ := h r List.mem_cons_self
    rw [h2]
    by_cases hd : r.1 ∈ D
    · rw [if_pos hd, if_pos (h1.1 hd)]
    · rw [if_neg hd, if_neg fun hc => hd (h1.2 hc)]
theorem newV_cons {u : PRow} {U : List PRow} {r : TRow} : newV (u :: U) r = if u.1 = r.1 then u.2.2 else newV U r := by
  unfold newV
  by_cases h : u.1 = r.1
  · rw [List.find?_cons_of_pos (by simpa using h), if_pos h]
  · rw [List.find?_cons_of_neg (by simpa using h), if_neg h]
theorem newV_no {U : List PRow} {r : TRow} (h : ∀ u ∈ U, u.1 ≠ r.1) : newV U r = r.2 := by
  induction U with
  | nil => rfl
  | cons u U ih => rw [newV_cons, if_neg (h u List.mem_cons_self), ih fun x hx => h x (List.mem_cons_of_mem _ hx)]
theorem ids_lt {r : TRow} {R : List TRow} (h : ((r :: R).map (·.1)).Pairwise (· < ·)) {x : TRow} (hx : x ∈ R) : r.1 < x.1 := by
  rw [List.map_cons, List.pairwise_cons] at h
  exact h.1 _ (List.mem_map.2 ⟨x, hx, rfl⟩)
theorem idsl_lt {r : TRow} {R : List TRow} (h : ((r :: R).map (·.1)).Pairwise (· < ·)) {d : Int} (hd : d ∈ R.map (·.1)) : r.1 < d := by
  obtain ⟨x, hx, rfl⟩ := List.mem_map.1 hd
  exact ids_lt h hx
theorem remR_spec (R : List TRow) (D : List Int) (U : List PRow) (hR : (R.map (·.1)).Pairwise (· < ·)) :
    (Agree R D U → remR R D U = some (keptR D U R)) ∧ (¬ Agree R D U → remR R D U = none) := by
  induction R generalizing D U with
  | nil =>
    constructor
    · intro h
      have h1 : D = [] := List.eq_nil_iff_forall_not_mem.2 fun d hd => by have := h.din d hd; simp at this
      have h2 : U = [] := List.eq_nil_iff_forall_not_mem.2 fun u hu => by have := h.uin u hu; simp at this
      subst h1 h2
      rfl
    · intro h
      show (if D = [] ∧ U = [] then some [] else none) = none
      rw [if_neg]
      rintro ⟨rfl, rfl⟩
      exact h ⟨List.Pairwise.nil, (fun d hd => by cases hd), List.Pairwise.nil, (fun u hu => by cases hu), (fun u hu => by cases hu)⟩
  | cons r R ih =>
    have hR' : (R.map (·.1)).Pairwise (· < ·) := by rw [List.map_cons, List.pairwise_cons] at hR; exact hR.2
    by_cases hD : D.head? = some r.1
    · obtain ⟨D', rfl⟩ : ∃ D', D = r.1 :: D' := by
        cases D with
        | nil => cases hD
        | cons d D' => exact ⟨D', by rw [Option.some.inj hD]⟩
      have e : remR (r :: R) (r.1 :: D') U = remR R D' U := by
        show (if _ then _ else _) = _
        rw [if_pos (show (r.1 :: D').head? = some r.1 from rfl)]; rfl
      rw [e]
      have hag : Agree (r :: R) (r.1 :: D') U ↔ Agree R D' U := by
        constructor
        · intro h
          have hp := List.pairwise_cons.1 h.dup
          refine ⟨hp.2, fun d hd => ?_, h.uup, fun u hu => ?_, fun u hu hd => h.ud u hu (List.mem_cons_of_mem _ hd)⟩
          · have h1 := hp.1 d hd
            have h2 := h.din d (List.mem_cons_of_mem _ hd)
            rw [List.map_cons, List.mem_cons] at h2
            rcases h2 with h2 | h2
            · omega
            · exact h2
          · have h1 := h.uin u hu
            rw [List.mem_cons] at h1
            rcases h1 with h1 | h1
            · exact absurd (by rw [← h1]; exact List.mem_cons_self) (h.ud u hu)
            · exact h1
        · intro h
          refine ⟨List.pairwise_cons.2 ⟨fun d hd => idsl_lt hR (h.din d hd), h.dup⟩, fun d hd => ?_, h.uup, fun u hu => List.mem_cons_of_mem _ (h.uin u hu), fun u hu hd => ?_⟩
          · rw [List.map_cons]
            rcases List.mem_cons.1 hd with rfl | hd
            · exact List.mem_cons_self
            · exact List.mem_cons_of_mem _ (h.din d hd)
          · rcases List.mem_cons.1 hd with hd | hd
            · have := ids_lt hR (h.uin u hu)
              dsimp only at this
              omega
            · exact h.ud u hu hd
      have hk : keptR (r.1 :: D') U (r :: R) = keptR D' U R := by
        rw [keptR_cons, if_pos List.mem_cons_self, List.nil_append]
        refine keptR_congr fun x hx => ⟨⟨fun h => ?_, fun h => List.mem_cons_of_mem _ h⟩, rfl⟩
        rcases List.mem_cons.1 h with h | h
        · have := ids_lt hR hx; omega
        · exact h
      rw [hk, hag]
      exact ih D' U hR'
    · by_cases hU : (U.head?.map (·.1)) = some r.1
      · obtain ⟨u, U', rfl, hu⟩ : ∃ u U', U = u :: U' ∧ u.1 = r.1 := by
          cases U with
          | nil => cases hU
          | cons u U' => exact ⟨u, U', rfl, Option.some.inj hU⟩
        have e : remR (r :: R) D (u :: U') = if u.2.1 = r.2 then (remR R D U').map ((r.1, u.2.2) :: ·) else none := by
          show (if _ then _ else if _ then _ else _) = _
          rw [if_neg hD, if_pos hU]; rfl
        rw [e]
        by_cases ho : u.2.1 = r.2
        · rw [if_pos ho]
          have hnd : Agree (r :: R) D (u :: U') → r.1 ∉ D := fun h => hu ▸ h.ud u List.mem_cons_self
          have hag : Agree (r :: R) D (u :: U') ↔ Agree R D U' := by
            constructor
            · intro h
              have hp := List.pairwise_cons.1 (show (u.1 :: U'.map (·.1)).Pairwise (· < ·) from h.uup)
              refine ⟨h.dup, fun d hd => ?_, hp.2, fun x hx => ?_, fun x hx => h.ud x (List.mem_cons_of_mem _ hx)⟩
              · have h2 := h.din d hd
                rw [List.map_cons, List.mem_cons] at h2
                rcases h2 with h2 | h2
                · exact absurd (h2 ▸ hd) (hnd h)
                · exact h2
              · have h1 := hp.1 x.1 (List.mem_map.2 ⟨x, hx, rfl⟩)
                have h2 := h.uin x (List.mem_cons_of_mem _ hx)
                rw [List.mem_cons] at h2
                rcases h2 with h2 | h2
                · have h3 := congrArg Prod.fst h2
                  dsimp only at h3
                  omega
                · exact h2
            · intro h
              refine ⟨h.dup, fun d hd => ?_, ?_, fun x hx => ?_, fun x hx hd => ?_⟩
              · rw [List.map_cons]; exact List.mem_cons_of_mem _ (h.din d hd)
              · rw [List.map_cons, List.pairwise_cons]
                refine ⟨fun y hy => ?_, h.uup⟩
                obtain ⟨x, hx, rfl⟩ := List.mem_map.1 hy
                have := ids_lt hR (h.uin x hx)
                dsimp only at this
                omega
              · rcases List.mem_cons.1 hx with rfl | hx
                · rw [hu, ho]; exact List.mem_cons_self
                · exact List.mem_cons_of_mem _ (h.uin x hx)
              · rcases List.mem_cons.1 hx with rfl | hx
                · have := idsl_lt hR (h.din _ hd); omega
                · exact h.ud x hx hd
          constructor
          · intro h
            have e2 : keptR D (u :: U') R = keptR D U' R := keptR_congr fun x hx => ⟨Iff.rfl, by
              rw [newV_cons, if_neg]
              have := ids_lt hR hx
              omega⟩
            rw [(ih D U' hR').1 (hag.1 h), keptR_cons, if_neg (hnd h), newV_cons, if_pos hu, e2]
            rfl
          · intro h
            rw [(ih D U' hR').2 fun hc => h (hag.2 hc)]; rfl
        · rw [if_neg ho]
          refine ⟨fun h => ?_, fun _ => rfl⟩
          have h2 := h.uin u List.mem_cons_self
          rw [List.mem_cons] at h2
          rcases h2 with h2 | h2
          · exact absurd (congrArg Prod.snd h2) ho
          · have := ids_lt hR h2
            dsimp only at this
            omega
      · have e : remR (r :: R) D U = (remR R D U).map (r :: ·) := by
          show (if _ then _ else if _ then _ else _) = _
          rw [if_neg hD, if_neg hU]
        rw [e]
        have hdr : Agree (r :: R) D U → ∀ d ∈ D, r.1 < d := fun h => by
          cases D with
          | nil => intro d hd; cases hd
          | cons d0 D' =>
            have h0 : d0 ≠ r.1 := fun e => hD (by rw [e]; rfl)
            have h1 := h.din d0 List.mem_cons_self
            rw [List.map_cons, List.mem_cons] at h1
            have h2 : r.1 < d0 := by
              rcases h1 with h1 | h1
              · exact absurd h1 h0
              · exact idsl_lt hR h1
            intro d hd
            rcases List.mem_cons.1 hd with rfl | hd
            · exact h2
            · have := (List.pairwise_cons.1 h.dup).1 d hd; omega
        have hur : Agree (r :: R) D U → ∀ u ∈ U, r.1 < u.1 := fun h => by
          cases U with
          | nil => intro d hd; cases hd
          | cons u0 U' =>
            have h0 : u0.1 ≠ r.1 := fun e => hU (by rw [← e]; rfl)
            have h1 := h.uin u0 List.mem_cons_self
            rw [List.mem_cons] at h1
            have h2 : r.1 < u0.1 := by
              rcases h1 with h1 | h1
              · exact absurd (congrArg Prod.fst h1) h0
              · exact ids_lt hR h1
            intro u hu
            rcases List.mem_cons.1 hu with rfl | hu
            · exact h2
            · have := (List.pairwise_cons.1 (show (u0.1 :: U'.map (·.1)).Pairwise (· < ·) from h.uup)).1 u.1 (List.mem_map.2 ⟨u, hu, rfl⟩); omega
        have hag : Agree (r :: R) D U ↔ Agree R D U := by
          constructor
          · intro h
            refine ⟨h.dup, fun d hd => ?_, h.uup, fun u hu => ?_, h.ud⟩
            · have h1 := h.din d hd
              have h2 := hdr h d hd
              rw [List.map_cons, List.mem_cons] at h1
              rcases h1 with h1 | h1
              · omega
              · exact h1
            · have h1 := h.uin u hu
              have h2 := hur h u hu
              rw [List.mem_cons] at h1
              rcases h1 with h1 | h1
              · have h3 := congrArg Prod.fst h1
                dsimp only at h3
                omega
              · exact h1
          · intro h
            exact ⟨h.dup, fun d hd => by rw [List.map_cons]; exact List.mem_cons_of_mem _ (h.din d hd), h.uup, fun u hu => List.mem_cons_of_mem _ (h.uin u hu), h.ud⟩
        constructor
        · intro h
          rw [(ih D U hR').1 (hag.1 h), keptR_cons, if_neg (fun hd => by have := hdr h _ hd; omega), newV_no fun u hu => by have := hur h u hu; omega]
          rfl
        · intro h
          rw [(ih D U hR').2 fun hc => h (hag.2 hc)]; rfl
/-- The rows' numbers go up. -/
theorem rows_up {f : Nat → Col} {n : Nat} {nx : Int} {R : List TRow} (h : ∀ i, i < R.length → RowOK f n nx R i) : (R.map (·.1)).Pairwise (· < ·) := by
  rw [List.pairwise_iff_getElem]
  intro i j hi hj hij
  rw [List.length_map] at hi hj
  rw [List.getElem_map, List.getElem_map, ← tAt_get hi, ← tAt_get hj]
  exact ids_up h j hj i hij
theorem getO_iff {f : Nat → Col} {n : Nat} {nx : Int} {R : List TRow} (h : ∀ i, i < R.length → RowOK f n nx R i) (id : Int) (l : List Val) : (getO id R).2 = true ∧ (getO id R).1 = l ↔ (id, l) ∈ R := by
  constructor
  · rintro ⟨h1, h2⟩
    unfold getO getR at h1 h2
    cases hf : R.find? fun r => decide (r.1 = id) with
    | none => rw [hf] at h1; cases h1
    | some r =>
      rw [hf] at h2
      have h3 := List.find?_some hf
      have h4 := List.mem_of_find?_eq_some hf
      have h5 : r.1 = id := of_decide_eq_true h3
      have h6 : r.2 = l := h2
      subst h5 h6
      exact h4
  · intro hm
    obtain ⟨i, hi, he⟩ := List.getElem_of_mem hm
    rw [← tAt_get hi] at he
    have h1 := get_row h hi
    rw [he] at h1
    unfold getO
    dsimp only at h1
    rw [h1]
    exact ⟨rfl, rfl⟩
theorem getO_in {f : Nat → Col} {n : Nat} {nx : Int} {R : List TRow} (h : ∀ i, i < R.length → RowOK f n nx R i) (id : Int) : (getO id R).2 = true ↔ id ∈ R.map (·.1) := by
  constructor
  · intro h1
    exact List.mem_map.2 ⟨_, (getO_iff h id _).1 ⟨h1, rfl⟩, rfl⟩
  · intro h1
    obtain ⟨r, hr, rfl⟩ := List.mem_map.1 h1
    exact ((getO_iff h r.1 r.2).2 hr).1
theorem up_iff {α : Type} (g : Nat → Int) (L : List α) (F : α → Int) (hg : ∀ i (h : i < L.length), g i = F L[i]) : (L.map F).Pairwise (· < ·) ↔ ∀ i, i < L.length → 0 < i → g (i - 1) < g i := by
  constructor
  · intro h i hi h0
    rw [List.pairwise_iff_getElem] at h
    have := h (i - 1) i (by rw [List.length_map]; omega) (by rw [List.length_map]; omega) (by omega)
    rw [List.getElem_map, List.getElem_map] at this
    rw [hg _ hi, hg _ (by omega)]
    exact this
  · intro h
    have hup : ∀ i, i < L.length → ∀ j, j < i → g j < g i := by
      intro i
      induction i with
      | zero => intro _ j hj; omega
      | succ i ih =>
        intro hi j hj
        have h1 := h (i + 1) hi (by omega)
        rw [Nat.add_sub_cancel] at h1
        by_cases hji : j = i
        · subst hji; exact h1
        · exact Int.lt_trans (ih (by omega) j (by omega)) h1
    rw [List.pairwise_iff_getElem]
    intro i j hi hj hij
    rw [List.length_map] at hi hj
    rw [List.getElem_map, List.getElem_map, ← hg _ hi, ← hg _ hj]
    exact hup j hj i hij
theorem agree_iff {f : Nat → Col} {n : Nat} {nx : Int} {R : List TRow} {D : List Int} {U : List PRow} (h : ∀ i, i < R.length → RowOK f n nx R i) :
    (Agree R D U ∧ ∀ u ∈ U, u.2.2.length = n) ↔ (∀ i, i < D.length → DelOK R D i) ∧ (∀ i, i < U.length → UpdOK n R D U i) := by
  have hd := up_iff (iAt D) D id fun i hi => iAt_get hi
  have hu := up_iff (fun i => (pAt U i).1) U (·.1) fun i hi => by rw [pAt_get hi]
  rw [List.map_id] at hd
  constructor
  · rintro ⟨ha, hn⟩
    refine ⟨fun i hi => ⟨(getO_in h _).2 (ha.din _ (iAt_mem hi)), hd.1 ha.dup i hi⟩, fun i hi => ?_⟩
    have hm := pAt_mem hi
    obtain ⟨h1, h2⟩ := (getO_iff h _ _).2 (ha.uin _ hm)
    exact ⟨h1, ha.ud _ hm, hu.1 ha.uup i hi, h2, hn _ hm⟩
  · rintro ⟨h1, h2⟩
    refine ⟨⟨hd.2 fun i hi => (h1 i hi).2, fun d hd' => ?_, hu.2 fun i hi => (h2 i hi).2.2.1, fun u hu' => ?_, fun u hu' => ?_⟩, fun u hu' => ?_⟩
    · obtain ⟨i, hi, rfl⟩ := mem_iAt.1 hd'
      exact (getO_in h _).1 (h1 i hi).1
    all_goals
      obtain ⟨i, hi, he⟩ := List.getElem_of_mem hu'
      rw [← pAt_get hi] at he
      subst he
      obtain ⟨g1, g2, g3, g4, g5⟩ := h2 i hi
    · exact (getO_iff h _ _).1 ⟨g1, g4⟩
    · exact g2
    · exact g5
/-- Valid of package keys, in its own words. -/
def widthsB (n : Nat) (I : List (List Val)) (U : List PRow) : Bool := decide (∀ i, i < U.length → (pAt U i).2.2.length = n) && decide (∀ i, i < I.length → (rAt I i).length = n)
theorem validC_rem {f : Nat → Col} {n : Nat} {nx : Int} {R : List TRow} {I : List (List Val)} {D : List Int} {U : List PRow} (h : ∀ i, i < R.length → RowOK f n nx R i) : validC n R I D U = (widthsB n I U && (remR R D U).isSome) := by
  have hs := remR_spec R D U (rows_up h)
  have ha := agree_iff (D := D) (U := U) h
  rw [Bool.eq_iff_iff]
  unfold validC widthsB
  simp only [Bool.and_eq_true, decide_eq_true_eq]
  have hw : (∀ u ∈ U, u.2.2.length = n) ↔ ∀ i, i < U.length → (pAt U i).2.2.length = n := by
    constructor
    · intro h1 i hi; exact h1 _ (pAt_mem hi)
    · intro h1 u hu
      obtain ⟨i, hi, he⟩ := List.getElem_of_mem hu
      rw [← pAt_get hi] at he
      subst he
      exact h1 i hi
  have hsome : (remR R D U).isSome = true ↔ Agree R D U := by
    constructor
    · intro h1
      apply Classical.byContradiction
      intro hc
      rw [hs.2 hc] at h1
      cases h1
    · intro h1; rw [hs.1 h1]; rfl
  rw [hsome, ← hw]
  constructor
  · rintro ⟨h1, h2⟩
    have := ha.2 h1
    exact ⟨⟨this.2, h2⟩, this.1⟩
  · rintro ⟨⟨h1, h2⟩, h3⟩
    exact ⟨ha.1 ⟨h3, h1⟩, h2⟩
theorem remR_kept {f : Nat → Col} {n : Nat} {nx : Int} {R : List TRow} {I : List (List Val)} {D : List Int} {U : List PRow} (h : ∀ i, i < R.length → RowOK f n nx R i) (hv : validC n R I D U = true) : remR R D U = some (keptR D U R) := by
  obtain ⟨h1, h2, -⟩ := validC_parts hv
  exact (remR_spec R D U (rows_up h)).1 ((agree_iff h).2 ⟨h1, h2⟩).1
end Go.Proofs.YtlnbpobipmejfaaGreatDoor
/-
  Changes of a table: plain facts about what Apply computes.
-/
namespace Go.Proofs.YtlnbpobipmejfaaGreatDoor
set_option maxRecDepth 100000
open Go.RowKit
variable {ls : List Nat}

theorem rAt_map {U : List PRow} {i : Nat} (h : i < U.length) : rAt (U.map (·.2.2)) i = (pAt U i).2.2 := by
  rw [rAt_get (by rw [List.length_map]; exact h), pAt_get h, List.getElem_map]
theorem fitsL_zero {f : Nat → Col} {n : Nat} {L : List (List Val)} (h : ∀ j, j < L.length → fitsRow f n (rAt L j) = 0) : fitsL f n L = 0 := by
  induction L with
  | nil => rfl
  | cons l L ih =>
    have h0 := h 0 (Nat.succ_pos _)
    show (if fitsRow f n l = 0 then fitsL f n L else fitsRow f n l) = 0
    rw [if_pos (by exact h0)]
    exact ih fun j hj => h (j + 1) (Nat.succ_lt_succ hj)
theorem fitsL_hit {f : Nat → Col} {n : Nat} {L : List (List Val)} {k : Nat} (hk : k < L.length) (h : ∀ j, j < k → fitsRow f n (rAt L j) = 0) (hz : fitsRow f n (rAt L k) ≠ 0) : fitsL f n L = fitsRow f n (rAt L k) := by
  induction L generalizing k with
  | nil => simp at hk
  | cons l L ih =>
    show (if fitsRow f n l = 0 then fitsL f n L else fitsRow f n l) = _
    cases k with
    | zero => rw [if_neg (by exact hz)]; rfl
    | succ k =>
      rw [if_pos (by exact h 0 (Nat.succ_pos _))]
      exact ih (Nat.lt_of_succ_lt_succ hk) (fun j hj => h (j + 1) (Nat.succ_lt_succ hj)) hz
theorem applyE_bad {nm : ByteArray} {n : Nat} {f : Nat → Col} {nx : Int} {R : List TRow} {I : List (List Val)} {D : List Int} {U : List PRow} (h : (validT nm n f nx R && validC n R I D U) = false) : applyE nm n f nx R I D U = 17 := by
  unfold applyE; rw [if_pos h]
theorem applyE_upd {nm : ByteArray} {n : Nat} {f : Nat → Col} {nx : Int} {R : List TRow} {I : List (List Val)} {D : List Int} {U : List PRow} (h : (validT nm n f nx R && validC n R I D U) = true) {k : Nat} (hk : k < U.length) (h1 : ∀ j, j < k → fitsRow f n (pAt U j).2.2 = 0) (hz : fitsRow f n (pAt U k).2.2 ≠ 0) : applyE nm n f nx R I D U = fitsRow f n (pAt U k).2.2 := by
  have h2 : fitsL f n (U.map (·.2.2)) = fitsRow f n (pAt U k).2.2 := by
    rw [← rAt_map hk]
    exact fitsL_hit (by rw [List.length_map]; exact hk) (fun j hj => by rw [rAt_map (by omega)]; exact h1 j hj) (by rw [rAt_map hk]; exact hz)
  unfold applyE
  rw [if_neg (by rw [h]; decide), h2, if_pos hz]
theorem applyE_ins {nm : ByteArray} {n : Nat} {f : Nat → Col} {nx : Int} {R : List TRow} {I : List (List Val)} {D : List Int} {U : List PRow} (h : (validT nm n f nx R && validC n R I D U) = true) (h0 : ∀ j, j < U.length → fitsRow f n (pAt U j).2.2 = 0) {k : Nat} (hk : k < I.length) (h1 : ∀ j, j < k → fitsRow f n (rAt I j) = 0) (hz : fitsRow f n (rAt I k) ≠ 0) : applyE nm n f nx R I D U = fitsRow f n (rAt I k) := by
  have h2 : fitsL f n (U.map (·.2.2)) = 0 := fitsL_zero fun j hj => by
    rw [List.length_map] at hj
    rw [rAt_map hj]; exact h0 j hj
  unfold applyE
  rw [if_neg (by rw [h]; decide), h2, if_neg (by simp), fitsL_hit hk h1 hz, if_pos hz]
theorem applyE_rest {nm : ByteArray} {n : Nat} {f : Nat → Col} {nx : Int} {R : List TRow} {I : List (List Val)} {D : List Int} {U : List PRow} (h : (validT nm n f nx R && validC n R I D U) = true) (h0 : ∀ j, j < U.length → fitsRow f n (pAt U j).2.2 = 0) (h1 : ∀ j, j < I.length → fitsRow f n (rAt I j) = 0) :
    applyE nm n f nx R I D U = if 100 < (keptR D U R).length + I.length ∨ 2147483648 - nx < I.length then 10 else if dupR (findKey f n) (afterR nx R I D U) = true then 9 else 0 := by
  have h2 : fitsL f n (U.map (·.2.2)) = 0 := fitsL_zero fun j hj => by
    rw [List.length_map] at hj
    rw [rAt_map hj]; exact h0 j hj
  unfold applyE
  rw [if_neg (by rw [h]; decide), h2, if_neg (by simp), fitsL_zero h1, if_neg (by simp)]
theorem keptR_take {D : List Int} {U : List PRow} {R : List TRow} {k : Nat} (h : k < R.length) : keptR D U (R.take (k + 1)) = keptR D U (R.take k) ++ if (tAt R k).1 ∈ D then [] else [((tAt R k).1, newV U (tAt R k))] := by
  unfold keptR
  rw [take_trow h, List.filter_append, List.map_append]
  congr 1
  by_cases hd : (tAt R k).1 ∈ D
  · rw [if_pos hd, List.filter_cons_of_neg (by rw [decide_eq_true hd]; decide)]; rfl
  · rw [if_neg hd, List.filter_cons_of_pos (by rw [decide_eq_false hd]; decide)]; rfl
theorem take_r {I : List (List Val)} {k : Nat} (h : k < I.length) : I.take (k + 1) = I.take k ++ [rAt I k] := by rw [rAt_get h]; exact (List.take_append_getElem h).symm
theorem comeR_take {nx : Int} {I : List (List Val)} {k : Nat} (h : k < I.length) : comeR nx (I.take (k + 1)) = comeR nx (I.take k) ++ [(nx + k, rAt I k)] := by
  rw [take_r h, comeR_snoc, List.length_take, Nat.min_eq_left (by omega)]
theorem keptR_length {D : List Int} {U : List PRow} {R : List TRow} : (keptR D U R).length ≤ R.length := by
  unfold keptR
  rw [List.length_map]
  exact List.length_filter_le _ _
theorem newV_sized {U : List PRow} {r : TRow} (hU : ∀ p ∈ U, ValsSized p.2.2) (hr : ValsSized r.2) : ValsSized (newV U r) := by
  unfold newV
  cases hf : U.find? fun p => decide (p.1 = r.1) with
  | none => exact hr
  | some p => exact hU p (List.mem_of_find?_eq_some hf)
theorem kept_sized {D : List Int} {U : List PRow} {R : List TRow} (hU : ∀ p ∈ U, ValsSized p.2.2) (hR : ∀ r ∈ R, ValsSized r.2) : ∀ r ∈ keptR D U R, ValsSized r.2 := fun r hr => by
  unfold keptR at hr
  obtain ⟨x, hx, rfl⟩ := List.mem_map.1 hr
  exact newV_sized hU (hR x (List.mem_filter.1 hx).1)
theorem come_sized {nx : Int} {I : List (List Val)} (hI : ∀ l ∈ I, ValsSized l) : ∀ r ∈ comeR nx I, ValsSized r.2 := by
  induction I generalizing nx with
  | nil => intro r hr; cases hr
  | cons l I ih =>
    intro r hr
    rcases List.mem_cons.1 hr with rfl | hr
    · exact hI l List.mem_cons_self
    · exact ih (fun x hx => hI x (List.mem_cons_of_mem _ hx)) r hr
theorem after_sized {nx : Int} {R : List TRow} {I : List (List Val)} {D : List Int} {U : List PRow} (hU : ∀ p ∈ U, ValsSized p.2.2) (hR : ∀ r ∈ R, ValsSized r.2) (hI : ∀ l ∈ I, ValsSized l) : ∀ r ∈ afterR nx R I D U, ValsSized r.2 := fun r hr => by
  rcases List.mem_append.1 hr with h | h
  · exact kept_sized hU hR r h
  · exact come_sized hI r h
theorem apply_err {T : Tab} {C : Chg} {w w' : World} {er : Int} (he : applyE T.nm T.n T.f T.nx T.R C.I C.D C.U = er) (hne : er ≠ 0) (hb : Below w.heap.size w w') : ApplyPost T C w (.returned (.tuple #[zeroTab.v, .int .i64 er])) w' :=
  ⟨zeroTab, by rw [he], zeroTab_at _, hb, .inr ⟨by rw [he]; exact hne, rfl, rfl, rfl, rfl⟩⟩
end Go.Proofs.YtlnbpobipmejfaaGreatDoor
