/-
  Several texts in one.
-/
import Derived.Test.YtecghiflbnhceaaDoorPk04
import Derived.Deep.QuietTactic
/-
  How tightly expressions bind: bindingOf, Precedence, validOperator, inParentheses of package syntax.
-/
namespace Go.Proofs.YtecghiflbnhceaaDoor
set_option maxRecDepth 100000
open Go.RowKit
variable {ls : List Nat}

/-- The least precedences of the arguments, as package syntax has them. -/
def plA (k op : Int) : Int := if k = 3 then 3 else if k = 4 then 7 else if k = 6 ∨ k = 7 then 5 else if k = 5 then (if op = 1 then 1 else if op = 2 then 2 else if 3 ≤ op ∧ op ≤ 10 then 5 else if 11 ≤ op ∧ op ≤ 13 then 6 else 0) else 0
def plB (k op : Int) : Int := if k = 7 then 5 else if k = 5 then (if op = 1 then 2 else if op = 2 then 3 else if 3 ≤ op ∧ op ≤ 8 then 5 else if 9 ≤ op ∧ op ≤ 10 then 6 else if 11 ≤ op ∧ op ≤ 13 then 7 else 0) else 0
def plC (k : Int) : Int := if k = 7 then 5 else 0
theorem validOp_yes (op : Int) (h1 : 1 ≤ op) (h2 : op ≤ 13) (w : World) : Calls Tryd.prog 34 #[.int .i64 op] w fun e w' => e = .returned (.bool true) ∧ w = w' := by
  go_enter Tryd.func34, Tryd.ntmps34
  go_wp2
  go_ret
  exact ⟨rfl, rfl⟩
theorem validOp_no (op : Int) (h : op < 1 ∨ 13 < op) (w : World) : Calls Tryd.prog 34 #[.int .i64 op] w fun e w' => e = .returned (.bool false) ∧ w = w' := by
  by_cases h1 : 1 ≤ op
  · have h2 : 13 < op := by omega
    clear h
    go_enter Tryd.func34, Tryd.ntmps34
    go_wp2
    have e2 : decide (op ≤ 13) = false := decide_eq_false (by omega)
    go_ret
    exact ⟨ret_bool e2, rfl⟩
  · clear h
    go_enter Tryd.func34, Tryd.ntmps34
    go_wp2
    go_ret
    exact ⟨rfl, rfl⟩
theorem validOp_any (op : Int) (w : World) : Calls Tryd.prog 34 #[.int .i64 op] w fun e w' => e = .returned (.bool (decide (1 ≤ op ∧ op ≤ 13))) ∧ w = w' := by
  by_cases h : 1 ≤ op ∧ op ≤ 13
  · rw [decide_eq_true h]; exact validOp_yes op h.1 h.2 w
  · rw [decide_eq_false h]; exact validOp_no op (by omega) w
abbrev bndV (k op : Int) : Value := .agg #[.int .i64 (prec k op), .int .i64 (plA k op), .int .i64 (plB k op), .int .i64 (plC k)]
theorem ret_bnd {a b c d k op : Int} (h : (a, b, c, d) = (prec k op, plA k op, plB k op, plC k)) : Ending.returned (.agg #[.int .i64 a, .int .i64 b, .int .i64 c, .int .i64 d]) = .returned (bndV k op) := by
  simp only [Prod.mk.injEq] at h
  obtain ⟨rfl, rfl, rfl, rfl⟩ := h; rfl
theorem oper_cells {w : World} (hE : Env ls w) (hm : 1 ∈ ls) (i : Nat) (hi : i < 14) (a b : Obj) :
    ((w.alloc a).alloc b).cell? ⟨1, i * 4 + 0, none⟩ = some (.int .i64 ((operL.getD i []).getD 0 0)) ∧ ((w.alloc a).alloc b).cell? ⟨1, i * 4 + 1, none⟩ = some (.int .i64 ((operL.getD i []).getD 1 0))
    ∧ ((w.alloc a).alloc b).cell? ⟨1, i * 4 + 2, none⟩ = some (.int .i64 ((operL.getD i []).getD 2 0)) ∧ ((w.alloc a).alloc b).cell? ⟨1, i * 4 + 3, none⟩ = some (.int .i64 ((operL.getD i []).getD 3 0)) := by
  have hE2 := (hE.alloc a).alloc b
  exact ⟨hE2.opers hm i 0 hi (by decide), hE2.opers hm i 1 hi (by decide), hE2.opers hm i 2 hi (by decide), hE2.opers hm i 3 hi (by decide)⟩
theorem below_two (w : World) (a b : Obj) : Below w.heap.size w ((w.alloc a).alloc b) := below_new (below_new (Below.refl _ _) _) _
--CASES
set_option maxHeartbeats 1000000 in
theorem binding_o1 (vk vi : Int) (no : Bool) (vt tb nm : ByteArray) (p q : Option Addr) (n c n' c' : Nat) (w : World) (hE : Env ls w) (hm : 1 ∈ ls) :
    Calls Tryd.prog 22 #[.agg #[.int .i64 5, .int .i64 1, .bool no, .int .i64 vk, .int .i64 vi, .string vt, .string tb, .string nm, .slice p n c, .slice q n' c']] w fun e w' => e = .returned (bndV 5 1) ∧ Below w.heap.size w w' := by
  obtain ⟨d0, d1, d2, d3⟩ := oper_cells hE hm 1 (by decide) (.cells #[.int .i64 5, .int .i64 1, .bool no, .int .i64 vk, .int .i64 vi, .string vt, .string tb, .string nm, .slice p n c, .slice q n' c'] 30) (.cells #[.int .i64 0, .int .i64 0, .int .i64 0, .int .i64 0] 52)
  have c0 : ((w.alloc (.cells #[.int .i64 5, .int .i64 1, .bool no, .int .i64 vk, .int .i64 vi, .string vt, .string tb, .string nm, .slice p n c, .slice q n' c'] 30)).alloc (.cells #[.int .i64 0, .int .i64 0, .int .i64 0, .int .i64 0] 52)).cell? ⟨1, 4, none⟩ = some (.int .i64 1) := d0
  have c1 : ((w.alloc (.cells #[.int .i64 5, .int .i64 1, .bool no, .int .i64 vk, .int .i64 vi, .string vt, .string tb, .string nm, .slice p n c, .slice q n' c'] 30)).alloc (.cells #[.int .i64 0, .int .i64 0, .int .i64 0, .int .i64 0] 52)).cell? ⟨1, 5, none⟩ = some (.int .i64 1) := d1
  have c2 : ((w.alloc (.cells #[.int .i64 5, .int .i64 1, .bool no, .int .i64 vk, .int .i64 vi, .string vt, .string tb, .string nm, .slice p n c, .slice q n' c'] 30)).alloc (.cells #[.int .i64 0, .int .i64 0, .int .i64 0, .int .i64 0] 52)).cell? ⟨1, 6, none⟩ = some (.int .i64 2) := d2
  have c3 : ((w.alloc (.cells #[.int .i64 5, .int .i64 1, .bool no, .int .i64 vk, .int .i64 vi, .string vt, .string tb, .string nm, .slice p n c, .slice q n' c'] 30)).alloc (.cells #[.int .i64 0, .int .i64 0, .int .i64 0, .int .i64 0] 52)).cell? ⟨1, 7, none⟩ = some (.int .i64 0) := d3
  clear hE d0 d1 d2 d3
  go_enter Tryd.func22, Tryd.ntmps22
  go_wp2_with (go_at_call 34; refine (validOp_yes _ (by decide) (by decide) _).mono ?_; rintro e w' ⟨rfl, rfl⟩)
  exact bodyPost_ret (v := .agg #[.int .i64 1, .int .i64 1, .int .i64 2, .int .i64 0]) (by simp [results, Tryd.results22, go_sem]) rfl ⟨ret_bnd rfl, below_two _ _ _⟩
set_option maxHeartbeats 1000000 in
theorem binding_o2 (vk vi : Int) (no : Bool) (vt tb nm : ByteArray) (p q : Option Addr) (n c n' c' : Nat) (w : World) (hE : Env ls w) (hm : 1 ∈ ls) :
    Calls Tryd.prog 22 #[.agg #[.int .i64 5, .int .i64 2, .bool no, .int .i64 vk, .int .i64 vi, .string vt, .string tb, .string nm, .slice p n c, .slice q n' c']] w fun e w' => e = .returned (bndV 5 2) ∧ Below w.heap.size w w' := by
  obtain ⟨d0, d1, d2, d3⟩ := oper_cells hE hm 2 (by decide) (.cells #[.int .i64 5, .int .i64 2, .bool no, .int .i64 vk, .int .i64 vi, .string vt, .string tb, .string nm, .slice p n c, .slice q n' c'] 30) (.cells #[.int .i64 0, .int .i64 0, .int .i64 0, .int .i64 0] 52)
  have c0 : ((w.alloc (.cells #[.int .i64 5, .int .i64 2, .bool no, .int .i64 vk, .int .i64 vi, .string vt, .string tb, .string nm, .slice p n c, .slice q n' c'] 30)).alloc (.cells #[.int .i64 0, .int .i64 0, .int .i64 0, .int .i64 0] 52)).cell? ⟨1, 8, none⟩ = some (.int .i64 2) := d0
  have c1 : ((w.alloc (.cells #[.int .i64 5, .int .i64 2, .bool no, .int .i64 vk, .int .i64 vi, .string vt, .string tb, .string nm, .slice p n c, .slice q n' c'] 30)).alloc (.cells #[.int .i64 0, .int .i64 0, .int .i64 0, .int .i64 0] 52)).cell? ⟨1, 9, none⟩ = some (.int .i64 2) := d1
  have c2 : ((w.alloc (.cells #[.int .i64 5, .int .i64 2, .bool no, .int .i64 vk, .int .i64 vi, .string vt, .string tb, .string nm, .slice p n c, .slice q n' c'] 30)).alloc (.cells #[.int .i64 0, .int .i64 0, .int .i64 0, .int .i64 0] 52)).cell? ⟨1, 10, none⟩ = some (.int .i64 3) := d2
  have c3 : ((w.alloc (.cells #[.int .i64 5, .int .i64 2, .bool no, .int .i64 vk, .int .i64 vi, .string vt, .string tb, .string nm, .slice p n c, .slice q n' c'] 30)).alloc (.cells #[.int .i64 0, .int .i64 0, .int .i64 0, .int .i64 0] 52)).cell? ⟨1, 11, none⟩ = some (.int .i64 0) := d3
  clear hE d0 d1 d2 d3
  go_enter Tryd.func22, Tryd.ntmps22
  go_wp2_with (go_at_call 34; refine (validOp_yes _ (by decide) (by decide) _).mono ?_; rintro e w' ⟨rfl, rfl⟩)
  exact bodyPost_ret (v := .agg #[.int .i64 2, .int .i64 2, .int .i64 3, .int .i64 0]) (by simp [results, Tryd.results22, go_sem]) rfl ⟨ret_bnd rfl, below_two _ _ _⟩
set_option maxHeartbeats 1000000 in
theorem binding_o3 (vk vi : Int) (no : Bool) (vt tb nm : ByteArray) (p q : Option Addr) (n c n' c' : Nat) (w : World) (hE : Env ls w) (hm : 1 ∈ ls) :
    Calls Tryd.prog 22 #[.agg #[.int .i64 5, .int .i64 3, .bool no, .int .i64 vk, .int .i64 vi, .string vt, .string tb, .string nm, .slice p n c, .slice q n' c']] w fun e w' => e = .returned (bndV 5 3) ∧ Below w.heap.size w w' := by
  obtain ⟨d0, d1, d2, d3⟩ := oper_cells hE hm 3 (by decide) (.cells #[.int .i64 5, .int .i64 3, .bool no, .int .i64 vk, .int .i64 vi, .string vt, .string tb, .string nm, .slice p n c, .slice q n' c'] 30) (.cells #[.int .i64 0, .int .i64 0, .int .i64 0, .int .i64 0] 52)
  have c0 : ((w.alloc (.cells #[.int .i64 5, .int .i64 3, .bool no, .int .i64 vk, .int .i64 vi, .string vt, .string tb, .string nm, .slice p n c, .slice q n' c'] 30)).alloc (.cells #[.int .i64 0, .int .i64 0, .int .i64 0, .int .i64 0] 52)).cell? ⟨1, 12, none⟩ = some (.int .i64 4) := d0
  have c1 : ((w.alloc (.cells #[.int .i64 5, .int .i64 3, .bool no, .int .i64 vk, .int .i64 vi, .string vt, .string tb, .string nm, .slice p n c, .slice q n' c'] 30)).alloc (.cells #[.int .i64 0, .int .i64 0, .int .i64 0, .int .i64 0] 52)).cell? ⟨1, 13, none⟩ = some (.int .i64 5) := d1
  have c2 : ((w.alloc (.cells #[.int .i64 5, .int .i64 3, .bool no, .int .i64 vk, .int .i64 vi, .string vt, .string tb, .string nm, .slice p n c, .slice q n' c'] 30)).alloc (.cells #[.int .i64 0, .int .i64 0, .int .i64 0, .int .i64 0] 52)).cell? ⟨1, 14, none⟩ = some (.int .i64 5) := d2
  have c3 : ((w.alloc (.cells #[.int .i64 5, .int .i64 3, .bool no, .int .i64 vk, .int .i64 vi, .string vt, .string tb, .string nm, .slice p n c, .slice q n' c'] 30)).alloc (.cells #[.int .i64 0, .int .i64 0, .int .i64 0, .int .i64 0] 52)).cell? ⟨1, 15, none⟩ = some (.int .i64 0) := d3
  clear hE d0 d1 d2 d3
  go_enter Tryd.func22, Tryd.ntmps22
  go_wp2_with (go_at_call 34; refine (validOp_yes _ (by decide) (by decide) _).mono ?_; rintro e w' ⟨rfl, rfl⟩)
  exact bodyPost_ret (v := .agg #[.int .i64 4, .int .i64 5, .int .i64 5, .int .i64 0]) (by simp [results, Tryd.results22, go_sem]) rfl ⟨ret_bnd rfl, below_two _ _ _⟩
set_option maxHeartbeats 1000000 in
theorem binding_o4 (vk vi : Int) (no : Bool) (vt tb nm : ByteArray) (p q : Option Addr) (n c n' c' : Nat) (w : World) (hE : Env ls w) (hm : 1 ∈ ls) :
    Calls Tryd.prog 22 #[.agg #[.int .i64 5, .int .i64 4, .bool no, .int .i64 vk, .int .i64 vi, .string vt, .string tb, .string nm, .slice p n c, .slice q n' c']] w fun e w' => e = .returned (bndV 5 4) ∧ Below w.heap.size w w' := by
  obtain ⟨d0, d1, d2, d3⟩ := oper_cells hE hm 4 (by decide) (.cells #[.int .i64 5, .int .i64 4, .bool no, .int .i64 vk, .int .i64 vi, .string vt, .string tb, .string nm, .slice p n c, .slice q n' c'] 30) (.cells #[.int .i64 0, .int .i64 0, .int .i64 0, .int .i64 0] 52)
  have c0 : ((w.alloc (.cells #[.int .i64 5, .int .i64 4, .bool no, .int .i64 vk, .int .i64 vi, .string vt, .string tb, .string nm, .slice p n c, .slice q n' c'] 30)).alloc (.cells #[.int .i64 0, .int .i64 0, .int .i64 0, .int .i64 0] 52)).cell? ⟨1, 16, none⟩ = some (.int .i64 4) := d0
  have c1 : ((w.alloc (.cells #[.int .i64 5, .int .i64 4, .bool no, .int .i64 vk, .int .i64 vi, .string vt, .string tb, .string nm, .slice p n c, .slice q n' c'] 30)).alloc (.cells #[.int .i64 0, .int .i64 0, .int .i64 0, .int .i64 0] 52)).cell? ⟨1, 17, none⟩ = some (.int .i64 5) := d1
  have c2 : ((w.alloc (.cells #[.int .i64 5, .int .i64 4, .bool no, .int .i64 vk, .int .i64 vi, .string vt, .string tb, .string nm, .slice p n c, .slice q n' c'] 30)).alloc (.cells #[.int .i64 0, .int .i64 0, .int .i64 0, .int .i64 0] 52)).cell? ⟨1, 18, none⟩ = some (.int .i64 5) := d2
  have c3 : ((w.alloc (.cells #[.int .i64 5, .int .i64 4, .bool no, .int .i64 vk, .int .i64 vi, .string vt, .string tb, .string nm, .slice p n c, .slice q n' c'] 30)).alloc (.cells #[.int .i64 0, .int .i64 0, .int .i64 0, .int .i64 0] 52)).cell? ⟨1, 19, none⟩ = some (.int .i64 0) := d3
  clear hE d0 d1 d2 d3
  go_enter Tryd.func22, Tryd.ntmps22
  go_wp2_with (go_at_call 34; refine (validOp_yes _ (by decide) (by decide) _).mono ?_; rintro e w' ⟨rfl, rfl⟩)
  exact bodyPost_ret (v := .agg #[.int .i64 4, .int .i64 5, .int .i64 5, .int .i64 0]) (by simp [results, Tryd.results22, go_sem]) rfl ⟨ret_bnd rfl, below_two _ _ _⟩
set_option maxHeartbeats 1000000 in
theorem binding_o5 (vk vi : Int) (no : Bool) (vt tb nm : ByteArray) (p q : Option Addr) (n c n' c' : Nat) (w : World) (hE : Env ls w) (hm : 1 ∈ ls) :
    Calls Tryd.prog 22 #[.agg #[.int .i64 5, .int .i64 5, .bool no, .int .i64 vk, .int .i64 vi, .string vt, .string tb, .string nm, .slice p n c, .slice q n' c']] w fun e w' => e = .returned (bndV 5 5) ∧ Below w.heap.size w w' := by
  obtain ⟨d0, d1, d2, d3⟩ := oper_cells hE hm 5 (by decide) (.cells #[.int .i64 5, .int .i64 5, .bool no, .int .i64 vk, .int .i64 vi, .string vt, .string tb, .string nm, .slice p n c, .slice q n' c'] 30) (.cells #[.int .i64 0, .int .i64 0, .int .i64 0, .int .i64 0] 52)
  have c0 : ((w.alloc (.cells #[.int .i64 5, .int .i64 5, .bool no, .int .i64 vk, .int .i64 vi, .string vt, .string tb, .string nm, .slice p n c, .slice q n' c'] 30)).alloc (.cells #[.int .i64 0, .int .i64 0, .int .i64 0, .int .i64 0] 52)).cell? ⟨1, 20, none⟩ = some (.int .i64 4) := d0
  have c1 : ((w.alloc (.cells #[.int .i64 5, .int .i64 5, .bool no, .int .i64 vk, .int .i64 vi, .string vt, .string tb, .string nm, .slice p n c, .slice q n' c'] 30)).alloc (.cells #[.int .i64 0, .int .i64 0, .int .i64 0, .int .i64 0] 52)).cell? ⟨1, 21, none⟩ = some (.int .i64 5) := d1
  have c2 : ((w.alloc (.cells #[.int .i64 5, .int .i64 5, .bool no, .int .i64 vk, .int .i64 vi, .string vt, .string tb, .string nm, .slice p n c, .slice q n' c'] 30)).alloc (.cells #[.int .i64 0, .int .i64 0, .int .i64 0, .int .i64 0] 52)).cell? ⟨1, 22, none⟩ = some (.int .i64 5) := d2
  have c3 : ((w.alloc (.cells #[.int .i64 5, .int .i64 5, .bool no, .int .i64 vk, .int .i64 vi, .string vt, .string tb, .string nm, .slice p n c, .slice q n' c'] 30)).alloc (.cells #[.int .i64 0, .int .i64 0, .int .i64 0, .int .i64 0] 52)).cell? ⟨1, 23, none⟩ = some (.int .i64 0) := d3
  clear hE d0 d1 d2 d3
  go_enter Tryd.func22, Tryd.ntmps22
  go_wp2_with (go_at_call 34; refine (validOp_yes _ (by decide) (by decide) _).mono ?_; rintro e w' ⟨rfl, rfl⟩)
  exact bodyPost_ret (v := .agg #[.int .i64 4, .int .i64 5, .int .i64 5, .int .i64 0]) (by simp [results, Tryd.results22, go_sem]) rfl ⟨ret_bnd rfl, below_two _ _ _⟩
set_option maxHeartbeats 1000000 in
theorem binding_o6 (vk vi : Int) (no : Bool) (vt tb nm : ByteArray) (p q : Option Addr) (n c n' c' : Nat) (w : World) (hE : Env ls w) (hm : 1 ∈ ls) :
    Calls Tryd.prog 22 #[.agg #[.int .i64 5, .int .i64 6, .bool no, .int .i64 vk, .int .i64 vi, .string vt, .string tb, .string nm, .slice p n c, .slice q n' c']] w fun e w' => e = .returned (bndV 5 6) ∧ Below w.heap.size w w' := by
  obtain ⟨d0, d1, d2, d3⟩ := oper_cells hE hm 6 (by decide) (.cells #[.int .i64 5, .int .i64 6, .bool no, .int .i64 vk, .int .i64 vi, .string vt, .string tb, .string nm, .slice p n c, .slice q n' c'] 30) (.cells #[.int .i64 0, .int .i64 0, .int .i64 0, .int .i64 0] 52)
  have c0 : ((w.alloc (.cells #[.int .i64 5, .int .i64 6, .bool no, .int .i64 vk, .int .i64 vi, .string vt, .string tb, .string nm, .slice p n c, .slice q n' c'] 30)).alloc (.cells #[.int .i64 0, .int .i64 0, .int .i64 0, .int .i64 0] 52)).cell? ⟨1, 24, none⟩ = some (.int .i64 4) := d0
  have c1 : ((w.alloc (.cells #[.int .i64 5, .int .i64 6, .bool no, .int .i64 vk, .int .i64 vi, .string vt, .string tb, .string nm, .slice p n c, .slice q n' c'] 30)).alloc (.cells #[.int .i64 0, .int .i64 0, .int .i64 0, .int .i64 0] 52)).cell? ⟨1, 25, none⟩ = some (.int .i64 5) := d1
  have c2 : ((w.alloc (.cells #[.int .i64 5, .int .i64 6, .bool no, .int .i64 vk, .int .i64 vi, .string vt, .string tb, .string nm, .slice p n c, .slice q n' c'] 30)).alloc (.cells #[.int .i64 0, .int .i64 0, .int .i64 0, .int .i64 0] 52)).cell? ⟨1, 26, none⟩ = some (.int .i64 5) := d2
  have c3 : ((w.alloc (.cells #[.int .i64 5, .int .i64 6, .bool no, .int .i64 vk, .int .i64 vi, .string vt, .string tb, .string nm, .slice p n c, .slice q n' c'] 30)).alloc (.cells #[.int .i64 0, .int .i64 0, .int .i64 0, .int .i64 0] 52)).cell? ⟨1, 27, none⟩ = some (.int .i64 0) := d3
  clear hE d0 d1 d2 d3
  go_enter Tryd.func22, Tryd.ntmps22
  go_wp2_with (go_at_call 34; refine (validOp_yes _ (by decide) (by decide) _).mono ?_; rintro e w' ⟨rfl, rfl⟩)
  exact bodyPost_ret (v := .agg #[.int .i64 4, .int .i64 5, .int .i64 5, .int .i64 0]) (by simp [results, Tryd.results22, go_sem]) rfl ⟨ret_bnd rfl, below_two _ _ _⟩
set_option maxHeartbeats 1000000 in
theorem binding_o7 (vk vi : Int) (no : Bool) (vt tb nm : ByteArray) (p q : Option Addr) (n c n' c' : Nat) (w : World) (hE : Env ls w) (hm : 1 ∈ ls) :
    Calls Tryd.prog 22 #[.agg #[.int .i64 5, .int .i64 7, .bool no, .int .i64 vk, .int .i64 vi, .string vt, .string tb, .string nm, .slice p n c, .slice q n' c']] w fun e w' => e = .returned (bndV 5 7) ∧ Below w.heap.size w w' := by
  obtain ⟨d0, d1, d2, d3⟩ := oper_cells hE hm 7 (by decide) (.cells #[.int .i64 5, .int .i64 7, .bool no, .int .i64 vk, .int .i64 vi, .string vt, .string tb, .string nm, .slice p n c, .slice q n' c'] 30) (.cells #[.int .i64 0, .int .i64 0, .int .i64 0, .int .i64 0] 52)
  have c0 : ((w.alloc (.cells #[.int .i64 5, .int .i64 7, .bool no, .int .i64 vk, .int .i64 vi, .string vt, .string tb, .string nm, .slice p n c, .slice q n' c'] 30)).alloc (.cells #[.int .i64 0, .int .i64 0, .int .i64 0, .int .i64 0] 52)).cell? ⟨1, 28, none⟩ = some (.int .i64 4) := d0
  have c1 : ((w.alloc (.cells #[.int .i64 5, .int .i64 7, .bool no, .int .i64 vk, .int .i64 vi, .string vt, .string tb, .string nm, .slice p n c, .slice q n' c'] 30)).alloc (.cells #[.int .i64 0, .int .i64 0, .int .i64 0, .int .i64 0] 52)).cell? ⟨1, 29, none⟩ = some (.int .i64 5) := d1
  have c2 : ((w.alloc (.cells #[.int .i64 5, .int .i64 7, .bool no, .int .i64 vk, .int .i64 vi, .string vt, .string tb, .string nm, .slice p n c, .slice q n' c'] 30)).alloc (.cells #[.int .i64 0, .int .i64 0, .int .i64 0, .int .i64 0] 52)).cell? ⟨1, 30, none⟩ = some (.int .i64 5) := d2
  have c3 : ((w.alloc (.cells #[.int .i64 5, .int .i64 7, .bool no, .int .i64 vk, .int .i64 vi, .string vt, .string tb, .string nm, .slice p n c, .slice q n' c'] 30)).alloc (.cells #[.int .i64 0, .int .i64 0, .int .i64 0, .int .i64 0] 52)).cell? ⟨1, 31, none⟩ = some (.int .i64 0) := d3
  clear hE d0 d1 d2 d3
  go_enter Tryd.func22, Tryd.ntmps22
  go_wp2_with (go_at_call 34; refine (validOp_yes _ (by decide) (by decide) _).mono ?_; rintro e w' ⟨rfl, rfl⟩)
  exact bodyPost_ret (v := .agg #[.int .i64 4, .int .i64 5, .int .i64 5, .int .i64 0]) (by simp [results, Tryd.results22, go_sem]) rfl ⟨ret_bnd rfl, below_two _ _ _⟩
set_option maxHeartbeats 1000000 in
theorem binding_o8 (vk vi : Int) (no : Bool) (vt tb nm : ByteArray) (p q : Option Addr) (n c n' c' : Nat) (w : World) (hE : Env ls w) (hm : 1 ∈ ls) :
    Calls Tryd.prog 22 #[.agg #[.int .i64 5, .int .i64 8, .bool no, .int .i64 vk, .int .i64 vi, .string vt, .string tb, .string nm, .slice p n c, .slice q n' c']] w fun e w' => e = .returned (bndV 5 8) ∧ Below w.heap.size w w' := by
  obtain ⟨d0, d1, d2, d3⟩ := oper_cells hE hm 8 (by decide) (.cells #[.int .i64 5, .int .i64 8, .bool no, .int .i64 vk, .int .i64 vi, .string vt, .string tb, .string nm, .slice p n c, .slice q n' c'] 30) (.cells #[.int .i64 0, .int .i64 0, .int .i64 0, .int .i64 0] 52)
  have c0 : ((w.alloc (.cells #[.int .i64 5, .int .i64 8, .bool no, .int .i64 vk, .int .i64 vi, .string vt, .string tb, .string nm, .slice p n c, .slice q n' c'] 30)).alloc (.cells #[.int .i64 0, .int .i64 0, .int .i64 0, .int .i64 0] 52)).cell? ⟨1, 32, none⟩ = some (.int .i64 4) := d0
  have c1 : ((w.alloc (.cells #[.int .i64 5, .int .i64 8, .bool no, .int .i64 vk, .int .i64 vi, .string vt, .string tb, .string nm, .slice p n c, .slice q n' c'] 30)).alloc (.cells #[.int .i64 0, .int .i64 0, .int .i64 0, .int .i64 0] 52)).cell? ⟨1, 33, none⟩ = some (.int .i64 5) := d1
  have c2 : ((w.alloc (.cells #[.int .i64 5, .int .i64 8, .bool no, .int .i64 vk, .int .i64 vi, .string vt, .string tb, .string nm, .slice p n c, .slice q n' c'] 30)).alloc (.cells #[.int .i64 0, .int .i64 0, .int .i64 0, .int .i64 0] 52)).cell? ⟨1, 34, none⟩ = some (.int .i64 5) := d2
  have c3 : ((w.alloc (.cells #[.int .i64 5, .int .i64 8, .bool no, .int .i64 vk, .int .i64 vi, .string vt, .string tb, .string nm, .slice p n c, .slice q n' c'] 30)).alloc (.cells #[.int .i64 0, .int .i64 0, .int .i64 0, .int .i64 0] 52)).cell? ⟨1, 35, none⟩ = some (.int .i64 0) := d3
  clear hE d0 d1 d2 d3
  go_enter Tryd.func22, Tryd.ntmps22
  go_wp2_with (go_at_call 34; refine (validOp_yes _ (by decide) (by decide) _).mono ?_; rintro e w' ⟨rfl, rfl⟩)
  exact bodyPost_ret (v := .agg #[.int .i64 4, .int .i64 5, .int .i64 5, .int .i64 0]) (by simp [results, Tryd.results22, go_sem]) rfl ⟨ret_bnd rfl, below_two _ _ _⟩
set_option maxHeartbeats 1000000 in
theorem binding_o9 (vk vi : Int) (no : Bool) (vt tb nm : ByteArray) (p q : Option Addr) (n c n' c' : Nat) (w : World) (hE : Env ls w) (hm : 1 ∈ ls) :
    Calls Tryd.prog 22 #[.agg #[.int .i64 5, .int .i64 9, .bool no, .int .i64 vk, .int .i64 vi, .string vt, .string tb, .string nm, .slice p n c, .slice q n' c']] w fun e w' => e = .returned (bndV 5 9) ∧ Below w.heap.size w w' := by
  obtain ⟨d0, d1, d2, d3⟩ := oper_cells hE hm 9 (by decide) (.cells #[.int .i64 5, .int .i64 9, .bool no, .int .i64 vk, .int .i64 vi, .string vt, .string tb, .string nm, .slice p n c, .slice q n' c'] 30) (.cells #[.int .i64 0, .int .i64 0, .int .i64 0, .int .i64 0] 52)
  have c0 : ((w.alloc (.cells #[.int .i64 5, .int .i64 9, .bool no, .int .i64 vk, .int .i64 vi, .string vt, .string tb, .string nm, .slice p n c, .slice q n' c'] 30)).alloc (.cells #[.int .i64 0, .int .i64 0, .int .i64 0, .int .i64 0] 52)).cell? ⟨1, 36, none⟩ = some (.int .i64 5) := d0
  have c1 : ((w.alloc (.cells #[.int .i64 5, .int .i64 9, .bool no, .int .i64 vk, .int .i64 vi, .string vt, .string tb, .string nm, .slice p n c, .slice q n' c'] 30)).alloc (.cells #[.int .i64 0, .int .i64 0, .int .i64 0, .int .i64 0] 52)).cell? ⟨1, 37, none⟩ = some (.int .i64 5) := d1
  have c2 : ((w.alloc (.cells #[.int .i64 5, .int .i64 9, .bool no, .int .i64 vk, .int .i64 vi, .string vt, .string tb, .string nm, .slice p n c, .slice q n' c'] 30)).alloc (.cells #[.int .i64 0, .int .i64 0, .int .i64 0, .int .i64 0] 52)).cell? ⟨1, 38, none⟩ = some (.int .i64 6) := d2
  have c3 : ((w.alloc (.cells #[.int .i64 5, .int .i64 9, .bool no, .int .i64 vk, .int .i64 vi, .string vt, .string tb, .string nm, .slice p n c, .slice q n' c'] 30)).alloc (.cells #[.int .i64 0, .int .i64 0, .int .i64 0, .int .i64 0] 52)).cell? ⟨1, 39, none⟩ = some (.int .i64 0) := d3
  clear hE d0 d1 d2 d3
  go_enter Tryd.func22, Tryd.ntmps22
  go_wp2_with (go_at_call 34; refine (validOp_yes _ (by decide) (by decide) _).mono ?_; rintro e w' ⟨rfl, rfl⟩)
  exact bodyPost_ret (v := .agg #[.int .i64 5, .int .i64 5, .int .i64 6, .int .i64 0]) (by simp [results, Tryd.results22, go_sem]) rfl ⟨ret_bnd rfl, below_two _ _ _⟩
set_option maxHeartbeats 1000000 in
theorem binding_o10 (vk vi : Int) (no : Bool) (vt tb nm : ByteArray) (p q : Option Addr) (n c n' c' : Nat) (w : World) (hE : Env ls w) (hm : 1 ∈ ls) :
    Calls Tryd.prog 22 #[.agg #[.int .i64 5, .int .i64 10, .bool no, .int .i64 vk, .int .i64 vi, .string vt, .string tb, .string nm, .slice p n c, .slice q n' c']] w fun e w' => e = .returned (bndV 5 10) ∧ Below w.heap.size w w' := by
  obtain ⟨d0, d1, d2, d3⟩ := oper_cells hE hm 10 (by decide) (.cells #[.int .i64 5, .int .i64 10, .bool no, .int .i64 vk, .int .i64 vi, .string vt, .string tb, .string nm, .slice p n c, .slice q n' c'] 30) (.cells #[.int .i64 0, .int .i64 0, .int .i64 0, .int .i64 0] 52)
  have c0 : ((w.alloc (.cells #[.int .i64 5, .int .i64 10, .bool no, .int .i64 vk, .int .i64 vi, .string vt, .string tb, .string nm, .slice p n c, .slice q n' c'] 30)).alloc (.cells #[.int .i64 0, .int .i64 0, .int .i64 0, .int .i64 0] 52)).cell? ⟨1, 40, none⟩ = some (.int .i64 5) := d0
  have c1 : ((w.alloc (.cells #[.int .i64 5, .int .i64 10, .bool no, .int .i64 vk, .int .i64 vi, .string vt, .string tb, .string nm, .slice p n c, .slice q n' c'] 30)).alloc (.cells #[.int .i64 0, .int .i64 0, .int .i64 0, .int .i64 0] 52)).cell? ⟨1, 41, none⟩ = some (.int .i64 5) := d1
  have c2 : ((w.alloc (.cells #[.int .i64 5, .int .i64 10, .bool no, .int .i64 vk, .int .i64 vi, .string vt, .string tb, .string nm, .slice p n c, .slice q n' c'] 30)).alloc (.cells #[.int .i64 0, .int .i64 0, .int .i64 0, .int .i64 0] 52)).cell? ⟨1, 42, none⟩ = some (.int .i64 6) := d2
  have c3 : ((w.alloc (.cells #[.int .i64 5, .int .i64 10, .bool no, .int .i64 vk, .int .i64 vi, .string vt, .string tb, .string nm, .slice p n c, .slice q n' c'] 30)).alloc (.cells #[.int .i64 0, .int .i64 0, .int .i64 0, .int .i64 0] 52)).cell? ⟨1, 43, none⟩ = some (.int .i64 0) := d3
  clear hE d0 d1 d2 d3
  go_enter Tryd.func22, Tryd.ntmps22
  go_wp2_with (go_at_call 34; refine (validOp_yes _ (by decide) (by decide) _).mono ?_; rintro e w' ⟨rfl, rfl⟩)
  exact bodyPost_ret (v := .agg #[.int .i64 5, .int .i64 5, .int .i64 6, .int .i64 0]) (by simp [results, Tryd.results22, go_sem]) rfl ⟨ret_bnd rfl, below_two _ _ _⟩
set_option maxHeartbeats 1000000 in
theorem binding_o11 (vk vi : Int) (no : Bool) (vt tb nm : ByteArray) (p q : Option Addr) (n c n' c' : Nat) (w : World) (hE : Env ls w) (hm : 1 ∈ ls) :
    Calls Tryd.prog 22 #[.agg #[.int .i64 5, .int .i64 11, .bool no, .int .i64 vk, .int .i64 vi, .string vt, .string tb, .string nm, .slice p n c, .slice q n' c']] w fun e w' => e = .returned (bndV 5 11) ∧ Below w.heap.size w w' := by
  obtain ⟨d0, d1, d2, d3⟩ := oper_cells hE hm 11 (by decide) (.cells #[.int .i64 5, .int .i64 11, .bool no, .int .i64 vk, .int .i64 vi, .string vt, .string tb, .string nm, .slice p n c, .slice q n' c'] 30) (.cells #[.int .i64 0, .int .i64 0, .int .i64 0, .int .i64 0] 52)
  have c0 : ((w.alloc (.cells #[.int .i64 5, .int .i64 11, .bool no, .int .i64 vk, .int .i64 vi, .string vt, .string tb, .string nm, .slice p n c, .slice q n' c'] 30)).alloc (.cells #[.int .i64 0, .int .i64 0, .int .i64 0, .int .i64 0] 52)).cell? ⟨1, 44, none⟩ = some (.int .i64 6) := d0
  have c1 : ((w.alloc (.cells #[.int .i64 5, .int .i64 11, .bool no, .int .i64 vk, .int .i64 vi, .string vt, .string tb, .string nm, .slice p n c, .slice q n' c'] 30)).alloc (.cells #[.int .i64 0, .int .i64 0, .int .i64 0, .int .i64 0] 52)).cell? ⟨1, 45, none⟩ = some (.int .i64 6) := d1
  have c2 : ((w.alloc (.cells #[.int .i64 5, .int .i64 11, .bool no, .int .i64 vk, .int .i64 vi, .string vt, .string tb, .string nm, .slice p n c, .slice q n' c'] 30)).alloc (.cells #[.int .i64 0, .int .i64 0, .int .i64 0, .int .i64 0] 52)).cell? ⟨1, 46, none⟩ = some (.int .i64 7) := d2
  have c3 : ((w.alloc (.cells #[.int .i64 5, .int .i64 11, .bool no, .int .i64 vk, .int .i64 vi, .string vt, .string tb, .string nm, .slice p n c, .slice q n' c'] 30)).alloc (.cells #[.int .i64 0, .int .i64 0, .int .i64 0, .int .i64 0] 52)).cell? ⟨1, 47, none⟩ = some (.int .i64 0) := d3
  clear hE d0 d1 d2 d3
  go_enter Tryd.func22, Tryd.ntmps22
  go_wp2_with (go_at_call 34; refine (validOp_yes _ (by decide) (by decide) _).mono ?_; rintro e w' ⟨rfl, rfl⟩)
  exact bodyPost_ret (v := .agg #[.int .i64 6, .int .i64 6, .int .i64 7, .int .i64 0]) (by simp [results, Tryd.results22, go_sem]) rfl ⟨ret_bnd rfl, below_two _ _ _⟩
set_option maxHeartbeats 1000000 in
theorem binding_o12 (vk vi : Int) (no : Bool) (vt tb nm : ByteArray) (p q : Option Addr) (n c n' c' : Nat) (w : World) (hE : Env ls w) (hm : 1 ∈ ls) :
    Calls Tryd.prog 22 #[.agg #[.int .i64 5, .int .i64 12, .bool no, .int .i64 vk, .int .i64 vi, .string vt, .string tb, .string nm, .slice p n c, .slice q n' c']] w fun e w' => e = .returned (bndV 5 12) ∧ Below w.heap.size w w' := by
  obtain ⟨d0, d1, d2, d3⟩ := oper_cells hE hm 12 (by decide) (.cells #[.int .i64 5, .int .i64 12, .bool no, .int .i64 vk, .int .i64 vi, .string vt, .string tb, .string nm, .slice p n c, .slice q n' c'] 30) (.cells #[.int .i64 0, .int .i64 0, .int .i64 0, .int .i64 0] 52)
  have c0 : ((w.alloc (.cells #[.int .i64 5, .int .i64 12, .bool no, .int .i64 vk, .int .i64 vi, .string vt, .string tb, .string nm, .slice p n c, .slice q n' c'] 30)).alloc (.cells #[.int .i64 0, .int .i64 0, .int .i64 0, .int .i64 0] 52)).cell? ⟨1, 48, none⟩ = some (.int .i64 6) := d0
  have c1 : ((w.alloc (.cells #[.int .i64 5, .int .i64 12, .bool no, .int .i64 vk, .int .i64 vi, .string vt, .string tb, .string nm, .slice p n c, .slice q n' c'] 30)).alloc (.cells #[.int .i64 0, .int .i64 0, .int .i64 0, .int .i64 0] 52)).cell? ⟨1, 49, none⟩ = some (.int .i64 6) := d1
  have c2 : ((w.alloc (.cells #[.int .i64 5, .int .i64 12, .bool no, .int .i64 vk, .int .i64 vi, .string vt, .string tb, .string nm, .slice p n c, .slice q n' c'] 30)).alloc (.cells #[.int .i64 0, .int .i64 0, .int .i64 0, .int .i64 0] 52)).cell? ⟨1, 50, none⟩ = some (.int .i64 7) := d2
  have c3 : ((w.alloc (.cells #[.int .i64 5, .int .i64 12, .bool no, .int .i64 vk, .int .i64 vi, .string vt, .string tb, .string nm, .slice p n c, .slice q n' c'] 30)).alloc (.cells #[.int .i64 0, .int .i64 0, .int .i64 0, .int .i64 0] 52)).cell? ⟨1, 51, none⟩ = some (.int .i64 0) := d3
  clear hE d0 d1 d2 d3
  go_enter Tryd.func22, Tryd.ntmps22
  go_wp2_with (go_at_call 34; refine (validOp_yes _ (by decide) (by decide) _).mono ?_; rintro e w' ⟨rfl, rfl⟩)
  exact bodyPost_ret (v := .agg #[.int .i64 6, .int .i64 6, .int .i64 7, .int .i64 0]) (by simp [results, Tryd.results22, go_sem]) rfl ⟨ret_bnd rfl, below_two _ _ _⟩
set_option maxHeartbeats 1000000 in
theorem binding_o13 (vk vi : Int) (no : Bool) (vt tb nm : ByteArray) (p q : Option Addr) (n c n' c' : Nat) (w : World) (hE : Env ls w) (hm : 1 ∈ ls) :
    Calls Tryd.prog 22 #[.agg #[.int .i64 5, .int .i64 13, .bool no, .int .i64 vk, .int .i64 vi, .string vt, .string tb, .string nm, .slice p n c, .slice q n' c']] w fun e w' => e = .returned (bndV 5 13) ∧ Below w.heap.size w w' := by
  obtain ⟨d0, d1, d2, d3⟩ := oper_cells hE hm 13 (by decide) (.cells #[.int .i64 5, .int .i64 13, .bool no, .int .i64 vk, .int .i64 vi, .string vt, .string tb, .string nm, .slice p n c, .slice q n' c'] 30) (.cells #[.int .i64 0, .int .i64 0, .int .i64 0, .int .i64 0] 52)
  have c0 : ((w.alloc (.cells #[.int .i64 5, .int .i64 13, .bool no, .int .i64 vk, .int .i64 vi, .string vt, .string tb, .string nm, .slice p n c, .slice q n' c'] 30)).alloc (.cells #[.int .i64 0, .int .i64 0, .int .i64 0, .int .i64 0] 52)).cell? ⟨1, 52, none⟩ = some (.int .i64 6) := d0
  have c1 : ((w.alloc (.cells #[.int .i64 5, .int .i64 13, .bool no, .int .i64 vk, .int .i64 vi, .string vt, .string tb, .string nm, .slice p n c, .slice q n' c'] 30)).alloc (.cells #[.int .i64 0, .int .i64 0, .int .i64 0, .int .i64 0] 52)).cell? ⟨1, 53, none⟩ = some (.int .i64 6) := d1
  have c2 : ((w.alloc (.cells #[.int .i64 5, .int .i64 13, .bool no, .int .i64 vk, .int .i64 vi, .string vt, .string tb, .string nm, .slice p n c, .slice q n' c'] 30)).alloc (.cells #[.int .i64 0, .int .i64 0, .int .i64 0, .int .i64 0] 52)).cell? ⟨1, 54, none⟩ = some (.int .i64 7) := d2
  have c3 : ((w.alloc (.cells #[.int .i64 5, .int .i64 13, .bool no, .int .i64 vk, .int .i64 vi, .string vt, .string tb, .string nm, .slice p n c, .slice q n' c'] 30)).alloc (.cells #[.int .i64 0, .int .i64 0, .int .i64 0, .int .i64 0] 52)).cell? ⟨1, 55, none⟩ = some (.int .i64 0) := d3
  clear hE d0 d1 d2 d3
  go_enter Tryd.func22, Tryd.ntmps22
  go_wp2_with (go_at_call 34; refine (validOp_yes _ (by decide) (by decide) _).mono ?_; rintro e w' ⟨rfl, rfl⟩)
  exact bodyPost_ret (v := .agg #[.int .i64 6, .int .i64 6, .int .i64 7, .int .i64 0]) (by simp [results, Tryd.results22, go_sem]) rfl ⟨ret_bnd rfl, below_two _ _ _⟩
set_option maxHeartbeats 1000000 in
theorem binding_k3 (op : Int) (vk vi : Int) (no : Bool) (vt tb nm : ByteArray) (p q : Option Addr) (n c n' c' : Nat) (w : World) :
    Calls Tryd.prog 22 #[.agg #[.int .i64 3, .int .i64 op, .bool no, .int .i64 vk, .int .i64 vi, .string vt, .string tb, .string nm, .slice p n c, .slice q n' c']] w fun e w' => e = .returned (bndV 3 op) ∧ Below w.heap.size w w' := by
  go_enter Tryd.func22, Tryd.ntmps22
  go_wp2
  exact bodyPost_ret (v := .agg #[.int .i64 3, .int .i64 3, .int .i64 0, .int .i64 0]) (by simp [results, Tryd.results22, go_sem]) rfl ⟨ret_bnd rfl, below_two _ _ _⟩
set_option maxHeartbeats 1000000 in
theorem binding_k4 (op : Int) (vk vi : Int) (no : Bool) (vt tb nm : ByteArray) (p q : Option Addr) (n c n' c' : Nat) (w : World) :
    Calls Tryd.prog 22 #[.agg #[.int .i64 4, .int .i64 op, .bool no, .int .i64 vk, .int .i64 vi, .string vt, .string tb, .string nm, .slice p n c, .slice q n' c']] w fun e w' => e = .returned (bndV 4 op) ∧ Below w.heap.size w w' := by
  go_enter Tryd.func22, Tryd.ntmps22
  go_wp2
  exact bodyPost_ret (v := .agg #[.int .i64 7, .int .i64 7, .int .i64 0, .int .i64 0]) (by simp [results, Tryd.results22, go_sem]) rfl ⟨ret_bnd rfl, below_two _ _ _⟩
set_option maxHeartbeats 1000000 in
theorem binding_k6 (op : Int) (vk vi : Int) (no : Bool) (vt tb nm : ByteArray) (p q : Option Addr) (n c n' c' : Nat) (w : World) :
    Calls Tryd.prog 22 #[.agg #[.int .i64 6, .int .i64 op, .bool no, .int .i64 vk, .int .i64 vi, .string vt, .string tb, .string nm, .slice p n c, .slice q n' c']] w fun e w' => e = .returned (bndV 6 op) ∧ Below w.heap.size w w' := by
  go_enter Tryd.func22, Tryd.ntmps22
  go_wp2
  exact bodyPost_ret (v := .agg #[.int .i64 4, .int .i64 5, .int .i64 0, .int .i64 0]) (by simp [results, Tryd.results22, go_sem]) rfl ⟨ret_bnd rfl, below_two _ _ _⟩
set_option maxHeartbeats 1000000 in
theorem binding_k7 (op : Int) (vk vi : Int) (no : Bool) (vt tb nm : ByteArray) (p q : Option Addr) (n c n' c' : Nat) (w : World) :
    Calls Tryd.prog 22 #[.agg #[.int .i64 7, .int .i64 op, .bool no, .int .i64 vk, .int .i64 vi, .string vt, .string tb, .string nm, .slice p n c, .slice q n' c']] w fun e w' => e = .returned (bndV 7 op) ∧ Below w.heap.size w w' := by
  go_enter Tryd.func22, Tryd.ntmps22
  go_wp2
  exact bodyPost_ret (v := .agg #[.int .i64 4, .int .i64 5, .int .i64 5, .int .i64 5]) (by simp [results, Tryd.results22, go_sem]) rfl ⟨ret_bnd rfl, below_two _ _ _⟩
set_option maxHeartbeats 1000000 in
theorem binding_bad (op : Int) (h : op < 1 ∨ 13 < op) (vk vi : Int) (no : Bool) (vt tb nm : ByteArray) (p q : Option Addr) (n c n' c' : Nat) (w : World) :
    Calls Tryd.prog 22 #[.agg #[.int .i64 5, .int .i64 op, .bool no, .int .i64 vk, .int .i64 vi, .string vt, .string tb, .string nm, .slice p n c, .slice q n' c']] w fun e w' => e = .returned (bndV 5 op) ∧ Below w.heap.size w w' := by
  have h0 : (8, 0, 0, 0) = (prec 5 op, plA 5 op, plB 5 op, plC 5) := by
    have e1 : ¬ op = 1 := by omega
    have e2 : ¬ op = 2 := by omega
    have e3 : ¬ (3 ≤ op ∧ op ≤ 8) := by omega
    have e4 : ¬ (op = 9 ∨ op = 10) := by omega
    have e5 : ¬ (11 ≤ op ∧ op ≤ 13) := by omega
    have e6 : ¬ (3 ≤ op ∧ op ≤ 10) := by omega
    have e7 : ¬ (9 ≤ op ∧ op ≤ 10) := by omega
    simp [prec, plA, plB, plC, e1, e2, e3, e4, e5, e6, e7]
  have H0 := Lib.hid h0
  clear h0
  go_enter Tryd.func22, Tryd.ntmps22
  go_wp2_with (go_at_call 34; refine (validOp_no _ h _).mono ?_; rintro e w' ⟨rfl, rfl⟩)
  exact bodyPost_ret (v := .agg #[.int .i64 8, .int .i64 0, .int .i64 0, .int .i64 0]) (by simp [results, Tryd.results22, go_sem]) rfl ⟨ret_bnd H0.out, below_two _ _ _⟩
set_option maxHeartbeats 1000000 in
theorem binding_other (k op : Int) (h3 : k ≠ 3) (h4 : k ≠ 4) (h5 : k ≠ 5) (h6 : k ≠ 6) (h7 : k ≠ 7) (vk vi : Int) (no : Bool) (vt tb nm : ByteArray) (p q : Option Addr) (n c n' c' : Nat) (w : World) :
    Calls Tryd.prog 22 #[.agg #[.int .i64 k, .int .i64 op, .bool no, .int .i64 vk, .int .i64 vi, .string vt, .string tb, .string nm, .slice p n c, .slice q n' c']] w fun e w' => e = .returned (bndV k op) ∧ Below w.heap.size w w' := by
  have h0 : (8, 0, 0, 0) = (prec k op, plA k op, plB k op, plC k) := by simp [prec, plA, plB, plC, h3, h4, h5, h6, h7]
  have H0 := Lib.hid h0
  have e3 : (k == 3) = false := beq_eq_false_iff_ne.2 h3
  have e4 : (k == 4) = false := beq_eq_false_iff_ne.2 h4
  have e5 : (k == 5) = false := beq_eq_false_iff_ne.2 h5
  have e6 : (k == 6) = false := beq_eq_false_iff_ne.2 h6
  have e7 : (k == 7) = false := beq_eq_false_iff_ne.2 h7
  clear h0 h3 h4 h5 h6 h7
  go_enter Tryd.func22, Tryd.ntmps22
  go_wp2
  exact bodyPost_ret (v := .agg #[.int .i64 8, .int .i64 0, .int .i64 0, .int .i64 0]) (by simp [results, Tryd.results22, go_sem]) rfl ⟨ret_bnd H0.out, below_two _ _ _⟩
theorem binding_any (k op : Int) (vk vi : Int) (no : Bool) (vt tb nm : ByteArray) (p q : Option Addr) (n c n' c' : Nat) (w : World) (hE : Env ls w) (hm : 1 ∈ ls) :
    Calls Tryd.prog 22 #[.agg #[.int .i64 k, .int .i64 op, .bool no, .int .i64 vk, .int .i64 vi, .string vt, .string tb, .string nm, .slice p n c, .slice q n' c']] w fun e w' => e = .returned (bndV k op) ∧ Below w.heap.size w w' := by
  by_cases h3 : k = 3
  · subst h3; exact binding_k3 op vk vi no vt tb nm p q n c n' c' w
  by_cases h4 : k = 4
  · subst h4; exact binding_k4 op vk vi no vt tb nm p q n c n' c' w
  by_cases h6 : k = 6
  · subst h6; exact binding_k6 op vk vi no vt tb nm p q n c n' c' w
  by_cases h7 : k = 7
  · subst h7; exact binding_k7 op vk vi no vt tb nm p q n c n' c' w
  by_cases h5 : k = 5
  · subst h5
    by_cases h : op < 1 ∨ 13 < op
    · exact binding_bad op h vk vi no vt tb nm p q n c n' c' w
    · have ho : op = 1 ∨ op = 2 ∨ op = 3 ∨ op = 4 ∨ op = 5 ∨ op = 6 ∨ op = 7 ∨ op = 8 ∨ op = 9 ∨ op = 10 ∨ op = 11 ∨ op = 12 ∨ op = 13 := by omega
      rcases ho with rfl | rfl | rfl | rfl | rfl | rfl | rfl | rfl | rfl | rfl | rfl | rfl | rfl
      · exact binding_o1 vk vi no vt tb nm p q n c n' c' w hE hm
      · exact binding_o2 vk vi no vt tb nm p q n c n' c' w hE hm
      · exact binding_o3 vk vi no vt tb nm p q n c n' c' w hE hm
      · exact binding_o4 vk vi no vt tb nm p q n c n' c' w hE hm
      · exact binding_o5 vk vi no vt tb nm p q n c n' c' w hE hm
      · exact binding_o6 vk vi no vt tb nm p q n c n' c' w hE hm
      · exact binding_o7 vk vi no vt tb nm p q n c n' c' w hE hm
      · exact binding_o8 vk vi no vt tb nm p q n c n' c' w hE hm
      · exact binding_o9 vk vi no vt tb nm p q n c n' c' w hE hm
      · exact binding_o10 vk vi no vt tb nm p q n c n' c' w hE hm
      · exact binding_o11 vk vi no vt tb nm p q n c n' c' w hE hm
      · exact binding_o12 vk vi no vt tb nm p q n c n' c' w hE hm
      · exact binding_o13 vk vi no vt tb nm p q n c n' c' w hE hm
  exact binding_other k op h3 h4 h5 h6 h7 vk vi no vt tb nm p q n c n' c' w
--ENDCASES
end Go.Proofs.YtecghiflbnhceaaDoor
/-
  A drawn region with guards, whose calls make memory: it is walked once, in the text's order, over the worlds in which nothing old is turned.
-/
namespace Go.Proofs.YtecghiflbnhceaaDoor
set_option maxRecDepth 100000
open Go.RowKit

/-- How far such a world is from W: its draws, the blocks behind. -/
structure LowBy where
  d : Nat
  os : Array Obj
  deriving Inhabited
def lowW (W : World) (d : Nat) (os : Array Obj) : World := { W with drawn := d, heap := W.heap ++ os }
theorem lowW_low (W : World) (d : Nat) (os : Array Obj) : Below W.heap.size W (lowW W d os) :=
  ⟨rfl, rfl, rfl, by show W.heap.size ≤ (W.heap ++ os).size; simp, fun k hk => by show (W.heap ++ os)[k]? = _; rw [Array.getElem?_append_left hk]⟩
theorem low_eq {W w' : World} (h : Below W.heap.size W w') : ∃ p : LowBy, w' = lowW W p.d p.os := by
  refine ⟨⟨w'.drawn, w'.heap.extract W.heap.size w'.heap.size⟩, ?_⟩
  have hh : W.heap ++ w'.heap.extract W.heap.size w'.heap.size = w'.heap := by
    apply Array.ext_getElem?
    intro i
    have hs := h.size
    by_cases hi : i < W.heap.size
    · rw [Array.getElem?_append_left hi, h.block i hi]
    · rw [Array.getElem?_append_right (by omega), Array.getElem?_extract]
      by_cases hj : i < w'.heap.size
      · rw [if_pos (by omega), show W.heap.size + (i - W.heap.size) = i by omega]
      · rw [if_neg (by omega), Array.getElem?_eq_none (by omega)]
  have h1 := h.os
  have h2 := h.tape
  have h3 := h.output
  cases W
  cases w'
  simp only [lowW] at *
  subst h1 h2 h3
  rw [hh]
theorem lowW_cell {W : World} {a : Addr} {v : Value} (hb : a.block < W.heap.size) (h : W.cell? a = some v) (d : Nat) (os : Array Obj) : (lowW W d os).cell? a = some v := by rw [(lowW_low W d os).cell hb]; exact h
/-- The walk over the class; it does not unfold by itself (a chain of operations that are not wanted is unfolded at every look). -/
@[irreducible] def wq (P : Program) (ops : Array Oper) (C : World → Prop) (Q : Act → Prop) (l : List Oper) (a : Act) : Prop := wpQuiet P ops C Q l a
theorem wq_nil {P : Program} {ops : Array Oper} {C : World → Prop} {Q : Act → Prop} {a : Act} (h : Q a) : wq P ops C Q [] a := by unfold wq; exact h
theorem wq_step {P : Program} {ops : Array Oper} {C : World → Prop} {Q : Act → Prop} {a : Act} {o : Oper} {rest : List Oper}
    (h : ∀ K : Act → Prop, (∀ a, wq P ops C Q rest a → K a) → if Region.wanted o (yielded ops a.tmps) then o.quiet P a C K else K (a.put o.dst undef)) : wq P ops C Q (o :: rest) a := by
  unfold wq at h ⊢
  exact wpQuiet_step h
theorem wp_region_low {P : Program} {id : Nat} {Q : Exit → Act → World → Prop} {a : Act} {w : World} {l : List Oper} (hm : P.follows .mixedOrders = true) (hB : Region.lexB .any l.toArray = true)
    (h : wq P l.toArray (fun w' => ∃ p : LowBy, w' = lowW w p.d p.os) (fun a' => ∀ w', (∃ p : LowBy, w' = lowW w p.d p.os) → Q .normal a' w') l a) : (Code.region id l.toArray true).wp P Q a w := by
  unfold wq at h
  exact wp_region_quiet (C := fun w' => ∃ p : LowBy, w' = lowW w p.d p.os) hm hB ⟨⟨w.drawn + 1, #[]⟩, by simp [lowW]⟩ (by simpa using h)
/-- A callee's contract, met in a world of the class. -/
theorem Calls.low_of {P : Program} {f : FuncId} {args : Array Value} {W : World} {d : Nat} {os : Array Obj} {v : Value}
    (h : Calls P f args (lowW W d os) fun e w' => e = .returned v ∧ Below (lowW W d os).heap.size (lowW W d os) w') : Calls P f args (lowW W d os) fun e w'' => e = .returned v ∧ ∃ p : LowBy, w'' = lowW W p.d p.os :=
  h.mono fun _ _ ⟨he, hb⟩ => ⟨he, low_eq ((lowW_low W d os).trans (hb.mono (lowW_low W d os).size))⟩
end Go.Proofs.YtecghiflbnhceaaDoor
/-
  WELL-FORMED TREES: what they are like, and that those made of parts are, plain. No program.
-/
namespace Go.Proofs.YtecghiflbnhceaaDoor
set_option maxRecDepth 100000
open Go

/-- What makes an expression well-formed. -/
structure FineV (V : Ex → Bool) (e : Ex) : Prop where
  lo : 1 ≤ e.k
  hi : e.k ≤ 12
  argn : e.args.length = argN e.k
  subn : e.sub.length = subN e.k
  op5 : e.k = 5 → 1 ≤ e.op ∧ e.op ≤ 13
  op0 : e.k ≠ 5 → e.op = 0
  no6 : e.k ≠ 6 → e.no = false
  lit : e.k = 1 → validB e.vk e.vi e.vt = true ∧ 0 ≤ e.vi ∧ eqT e.tb ⟨#[]⟩ = true ∧ eqT e.nm ⟨#[]⟩ = true
  col : e.k = 2 → noVal e = true ∧ qualB e.tb = true ∧ nameOK e.nm = true
  rest : e.k ≠ 1 → e.k ≠ 2 → plainB e = true ∧ (∀ a ∈ e.args, V a = true) ∧ ∀ q ∈ e.sub, quB V e.k q = true
theorem vOf_iff {V : Ex → Bool} {e : Ex} : vOf V e = true ↔ FineV V e := by
  unfold vOf
  simp only [Bool.and_eq_true, decide_eq_true_eq]
  constructor
  · rintro ⟨⟨⟨⟨⟨h1, h2⟩, h3⟩, h4⟩, h5⟩, h6⟩
    refine ⟨h1.1, h1.2, h2, h3, fun hk => ?_, fun hk => ?_, fun hk => ?_, fun hk => ?_, fun hk => ?_, fun hk hk2 => ?_⟩
    · rw [if_pos hk] at h4; exact of_decide_eq_true h4
    · rw [if_neg hk] at h4; exact of_decide_eq_true h4
    · cases hn : e.no
      · rfl
      · rw [hn] at h5; simp at h5; exact absurd h5 hk
    · rw [if_pos hk] at h6
      simp only [Bool.and_eq_true, decide_eq_true_eq] at h6
      exact ⟨h6.1.1.1, h6.1.1.2, h6.1.2, h6.2⟩
    · rw [if_neg (by omega), if_pos hk] at h6
      simp only [Bool.and_eq_true] at h6
      exact ⟨h6.1.1, h6.1.2, h6.2⟩
    · rw [if_neg hk, if_neg hk2] at h6
      simp only [Bool.and_eq_true, List.all_eq_true] at h6
      exact ⟨h6.1.1, h6.1.2, h6.2⟩
  · intro h
    refine ⟨⟨⟨⟨⟨⟨h.lo, h.hi⟩, h.argn⟩, h.subn⟩, ?_⟩, ?_⟩, ?_⟩
    · split
      · exact decide_eq_true (h.op5 (by assumption))
      · exact decide_eq_true (h.op0 (by assumption))
    · by_cases hk : e.k = 6
      · simp [hk]
      · simp [h.no6 hk]
    · split
      · obtain ⟨g1, g2, g3, g4⟩ := h.lit (by assumption)
        simp [g1, g2, g3, g4]
      · split
        · obtain ⟨g1, g2, g3⟩ := h.col (by assumption)
          simp [g1, g2, g3]
        · obtain ⟨g1, g2, g3⟩ := h.rest (by assumption) (by assumption)
          simp only [Bool.and_eq_true, List.all_eq_true]
          exact ⟨⟨g1, g2⟩, g3⟩
/-- An expression with arguments, one with a query, a column, a literal. -/
def argEx (k op : Int) (no : Bool) (pa : Option Addr) (ca : Nat) (args : List Ex) : Ex := .mk k op no 0 0 ⟨#[]⟩ ⟨#[]⟩ ⟨#[]⟩ pa ca args none 0 []
def subEx (k : Int) (ps : Option Addr) (cs : Nat) (q : Qu) : Ex := .mk k 0 false 0 0 ⟨#[]⟩ ⟨#[]⟩ ⟨#[]⟩ none 0 [] ps cs [q]
def colEx (tb nm : ByteArray) : Ex := .mk 2 0 false 0 0 ⟨#[]⟩ tb nm none 0 [] none 0 []
def litEx (vk vi : Int) (vt : ByteArray) : Ex := .mk 1 0 false vk vi vt ⟨#[]⟩ ⟨#[]⟩ none 0 [] none 0 []
theorem eqT_none : eqT ⟨#[]⟩ ⟨#[]⟩ = true := eqT_self _
theorem plain_none {e : Ex} (h0 : e.vk = 0) (h1 : e.vi = 0) (h2 : e.vt = ⟨#[]⟩) (h3 : e.tb = ⟨#[]⟩) (h4 : e.nm = ⟨#[]⟩) : plainB e = true := by
  unfold plainB noVal; rw [h2, h3, h4, eqT_none]; simp [h0, h1]
theorem vOf_args {V : Ex → Bool} {k op : Int} {no : Bool} {pa : Option Addr} {ca : Nat} {args : List Ex} (h1 : 3 ≤ k) (h2 : k ≤ 7) (ha : args.length = argN k) (hop : k = 5 → 1 ≤ op ∧ op ≤ 13) (hop0 : k ≠ 5 → op = 0) (hno : k ≠ 6 → no = false) (hV : ∀ a ∈ args, V a = true) :
    vOf V (argEx k op no pa ca args) = true :=
  vOf_iff.2 ⟨by show 1 ≤ k; omega, by show k ≤ 12; omega, ha, by show 0 = subN k; unfold subN; rw [if_neg (by omega)], hop, hop0, hno, fun h => by have h : k = 1 := h; omega, fun h => by have h : k = 2 := h; omega,
    fun _ _ => ⟨plain_none rfl rfl rfl rfl rfl, hV, fun q hq => by cases hq⟩⟩
theorem vOf_sub {V : Ex → Bool} {k : Int} {ps : Option Addr} {cs : Nat} {q : Qu} (h1 : 8 ≤ k) (h2 : k ≤ 12) (hq : quB V k q = true) : vOf V (subEx k ps cs q) = true :=
  vOf_iff.2 ⟨by show 1 ≤ k; omega, h2, by show 0 = argN k; unfold argN; rw [if_neg (by omega), if_neg (by omega), if_neg (by omega)], by show 1 = subN k; unfold subN; rw [if_pos ⟨h1, h2⟩], fun h => by have h : k = 5 := h; omega, fun _ => rfl, fun _ => rfl, fun h => by have h : k = 1 := h; omega, fun h => by have h : k = 2 := h; omega,
    fun _ _ => ⟨plain_none rfl rfl rfl rfl rfl, (fun a ha => by cases ha), fun q' hq' => by obtain rfl := List.mem_singleton.1 hq'; exact hq⟩⟩
theorem quB_mk {V : Ex → Bool} {k : Int} {q : Qu} (h1 : q.st = decide (k = 8)) (h2 : q.items.length = itemN k) (h3 : q.wh.length ≤ 1) (h4 : srcB q.fr = true) (h5 : ∀ a ∈ q.items, V a = true) (h6 : ∀ a ∈ q.wh, V a = true) : quB V k q = true := by
  unfold quB
  rw [h1, decide_eq_true h2, decide_eq_true h3, h4, List.all_eq_true.2 h5, List.all_eq_true.2 h6]
  simp
theorem vOf_col {V : Ex → Bool} {tb nm : ByteArray} (h1 : qualB tb = true) (h2 : nameOK nm = true) : vOf V (colEx tb nm) = true :=
  vOf_iff.2 ⟨by show (1 : Int) ≤ 2; omega, by show (2 : Int) ≤ 12; omega, rfl, rfl, fun h => by have h : (2 : Int) = 5 := h; omega, fun _ => rfl, fun _ => rfl, fun h => by have h : (2 : Int) = 1 := h; omega, fun _ => ⟨by unfold noVal; show (true && true && eqT ⟨#[]⟩ ⟨#[]⟩) = true; rw [eqT_none]; rfl, h1, h2⟩,
    fun _ h => absurd rfl h⟩
theorem vOf_lit {V : Ex → Bool} {vk vi : Int} {vt : ByteArray} (h1 : validB vk vi vt = true) (h2 : 0 ≤ vi) : vOf V (litEx vk vi vt) = true :=
  vOf_iff.2 ⟨by show (1 : Int) ≤ 1; omega, by show (1 : Int) ≤ 12; omega, rfl, rfl, fun h => by have h : (1 : Int) = 5 := h; omega, fun _ => rfl, fun _ => rfl, fun _ => ⟨h1, h2, eqT_none, eqT_none⟩, fun h => by have h : (1 : Int) = 2 := h; omega,
    fun h => absurd rfl h⟩
theorem vE_succ (d : Nat) (e : Ex) : vE (d + 1) e = vOf (vE d) e := rfl
theorem FineV.fine {V : Ex → Bool} {e : Ex} (h : FineV V e) : Fine V e := vOf_fine (vOf_iff.2 h)
end Go.Proofs.YtecghiflbnhceaaDoor
/-
  Precedence and inParentheses of package syntax.
-/
namespace Go.Proofs.YtecghiflbnhceaaDoor
set_option maxRecDepth 100000
open Go.RowKit
variable {ls : List Nat}

theorem Ex.mk_k {k op vk vi : Int} {no : Bool} {vt tb nm : ByteArray} {pa ps : Option Addr} {ca cs : Nat} {args : List Ex} {sub : List Qu} : (Ex.mk k op no vk vi vt tb nm pa ca args ps cs sub).k = k := rfl
theorem Ex.mk_op {k op vk vi : Int} {no : Bool} {vt tb nm : ByteArray} {pa ps : Option Addr} {ca cs : Nat} {args : List Ex} {sub : List Qu} : (Ex.mk k op no vk vi vt tb nm pa ca args ps cs sub).op = op := rfl
theorem Ex.mk_no {k op vk vi : Int} {no : Bool} {vt tb nm : ByteArray} {pa ps : Option Addr} {ca cs : Nat} {args : List Ex} {sub : List Qu} : (Ex.mk k op no vk vi vt tb nm pa ca args ps cs sub).no = no := rfl
theorem Ex.mk_vk {k op vk vi : Int} {no : Bool} {vt tb nm : ByteArray} {pa ps : Option Addr} {ca cs : Nat} {args : List Ex} {sub : List Qu} : (Ex.mk k op no vk vi vt tb nm pa ca args ps cs sub).vk = vk := rfl
theorem Ex.mk_vi {k op vk vi : Int} {no : Bool} {vt tb nm : ByteArray} {pa ps : Option Addr} {ca cs : Nat} {args : List Ex} {sub : List Qu} : (Ex.mk k op no vk vi vt tb nm pa ca args ps cs sub).vi = vi := rfl
theorem Ex.mk_vt {k op vk vi : Int} {no : Bool} {vt tb nm : ByteArray} {pa ps : Option Addr} {ca cs : Nat} {args : List Ex} {sub : List Qu} : (Ex.mk k op no vk vi vt tb nm pa ca args ps cs sub).vt = vt := rfl
theorem Ex.mk_tb {k op vk vi : Int} {no : Bool} {vt tb nm : ByteArray} {pa ps : Option Addr} {ca cs : Nat} {args : List Ex} {sub : List Qu} : (Ex.mk k op no vk vi vt tb nm pa ca args ps cs sub).tb = tb := rfl
theorem Ex.mk_nm {k op vk vi : Int} {no : Bool} {vt tb nm : ByteArray} {pa ps : Option Addr} {ca cs : Nat} {args : List Ex} {sub : List Qu} : (Ex.mk k op no vk vi vt tb nm pa ca args ps cs sub).nm = nm := rfl
theorem Ex.mk_pa {k op vk vi : Int} {no : Bool} {vt tb nm : ByteArray} {pa ps : Option Addr} {ca cs : Nat} {args : List Ex} {sub : List Qu} : (Ex.mk k op no vk vi vt tb nm pa ca args ps cs sub).pa = pa := rfl
theorem Ex.mk_ca {k op vk vi : Int} {no : Bool} {vt tb nm : ByteArray} {pa ps : Option Addr} {ca cs : Nat} {args : List Ex} {sub : List Qu} : (Ex.mk k op no vk vi vt tb nm pa ca args ps cs sub).ca = ca := rfl
theorem Ex.mk_args {k op vk vi : Int} {no : Bool} {vt tb nm : ByteArray} {pa ps : Option Addr} {ca cs : Nat} {args : List Ex} {sub : List Qu} : (Ex.mk k op no vk vi vt tb nm pa ca args ps cs sub).args = args := rfl
theorem Ex.mk_ps {k op vk vi : Int} {no : Bool} {vt tb nm : ByteArray} {pa ps : Option Addr} {ca cs : Nat} {args : List Ex} {sub : List Qu} : (Ex.mk k op no vk vi vt tb nm pa ca args ps cs sub).ps = ps := rfl
theorem Ex.mk_cs {k op vk vi : Int} {no : Bool} {vt tb nm : ByteArray} {pa ps : Option Addr} {ca cs : Nat} {args : List Ex} {sub : List Qu} : (Ex.mk k op no vk vi vt tb nm pa ca args ps cs sub).cs = cs := rfl
theorem Ex.mk_sub {k op vk vi : Int} {no : Bool} {vt tb nm : ByteArray} {pa ps : Option Addr} {ca cs : Nat} {args : List Ex} {sub : List Qu} : (Ex.mk k op no vk vi vt tb nm pa ca args ps cs sub).sub = sub := rfl
theorem field_bnd (a b c d : Int) (w : World) : (Instr.field 52 (.agg #[.int .i64 a, .int .i64 b, .int .i64 c, .int .i64 d]) 0).run Tryd.prog w = .ok (.int .i64 a) w := by
  have hi := info_parts (show (Tryd.prog.info? 3).map (fun i => (i.zero, i.size, i.bytes)) = some (some (.int .i64 0), 1, 8) by kernel_rfl)
  obtain ⟨i0, hi, hz0, hz1, hz2⟩ := hi
  simp only [Instr.field, Sem.run_bind, run_underlying Tryd.underlying52, Result.andThen]
  go_simp
  simp [asAgg, Result.andThen]
set_option maxHeartbeats 1000000 in
theorem prec_any (e : Ex) (w : World) (hE : Env ls w) (hm : 1 ∈ ls) :
    Calls Tryd.prog 8 #[exV e] w fun r w' => r = .returned (.int .i64 (prec e.k e.op)) ∧ Below w.heap.size w w' := by
  obtain ⟨k, op, no, vk, vi, vt, tb, nm, pa, ca, args, ps, cs, sub⟩ := e
  show Calls _ _ #[.agg #[.int .i64 k, .int .i64 op, .bool no, .int .i64 vk, .int .i64 vi, .string vt, .string tb, .string nm, .slice pa args.length ca, .slice ps sub.length cs]] w fun r w' => r = .returned (.int .i64 (prec k op)) ∧ Below w.heap.size w w'
  have HE := Lib.hid hE
  clear hE
  go_enter Tryd.func8, Tryd.ntmps8
  go_wp2_with fail
  refine (binding_any k op vk vi no vt tb nm pa ps _ _ _ _ _ (HE.out.alloc _) hm).mono ?_
  rintro e w' ⟨rfl, hb⟩
  have HB := Lib.hid (Below.of_alloc hb)
  clear hb
  have hf := field_bnd (prec k op) (plA k op) (plB k op) (plC k)
  go_wp2
  go_ret
  exact ⟨rfl, HB.out⟩
def plN (k op : Int) (i : Nat) : Int := if i = 0 then plA k op else if i = 1 then plB k op else plC k
theorem pl_least {V : Ex → Bool} {e : Ex} (h : Fine V e) {i : Nat} (hi : i < e.args.length) : plN e.k e.op i = least e.k e.op i := by
  have h1 := h.argn
  have hop := h.op5
  have hlo := h.lo
  have hhi := h.hi
  generalize e.k = k at *
  generalize e.op = op at *
  have hk : k = 3 ∨ k = 4 ∨ k = 5 ∨ k = 6 ∨ k = 7 := by
    rcases (show k = 1 ∨ k = 2 ∨ k = 3 ∨ k = 4 ∨ k = 5 ∨ k = 6 ∨ k = 7 ∨ 8 ≤ k by omega) with h | h | h | h | h | h | h | h
    · rw [h] at h1; have h1 : e.args.length = 0 := h1; omega
    · rw [h] at h1; have h1 : e.args.length = 0 := h1; omega
    all_goals first | omega | skip
    rw [show argN k = 0 by unfold argN; rw [if_neg (by omega), if_neg (by omega), if_neg (by omega)]] at h1
    omega
  rw [h1] at hi
  clear h1 h hlo hhi
  rcases hk with rfl | rfl | rfl | rfl | rfl
  · have hi : i < 1 := hi
    obtain rfl : i = 0 := by omega
    rfl
  · have hi : i < 1 := hi
    obtain rfl : i = 0 := by omega
    rfl
  · have hi : i < 2 := hi
    have ho := hop rfl
    have h13 : op = 1 ∨ op = 2 ∨ op = 3 ∨ op = 4 ∨ op = 5 ∨ op = 6 ∨ op = 7 ∨ op = 8 ∨ op = 9 ∨ op = 10 ∨ op = 11 ∨ op = 12 ∨ op = 13 := by omega
    have hi2 : i = 0 ∨ i = 1 := by omega
    clear hop ho hi
    rcases h13 with rfl | rfl | rfl | rfl | rfl | rfl | rfl | rfl | rfl | rfl | rfl | rfl | rfl <;> rcases hi2 with rfl | rfl <;> rfl
  · have hi : i < 1 := hi
    obtain rfl : i = 0 := by omega
    rfl
  · have hi : i < 3 := hi
    have hi2 : i = 0 ∨ i = 1 ∨ i = 2 := by omega
    rcases hi2 with rfl | rfl | rfl <;> rfl
theorem fine_three {V : Ex → Bool} {e : Ex} (h : Fine V e) : e.args.length ≤ 3 := by
  rw [h.argn]; unfold argN; repeat' split
  all_goals omega
theorem place_cell {u : World} {X : Nat} {k op : Int} (h1 : u.cell? ⟨X, 1, none⟩ = some (.int .i64 (plA k op))) (h2 : u.cell? ⟨X, 2, none⟩ = some (.int .i64 (plB k op))) (h3 : u.cell? ⟨X, 3, none⟩ = some (.int .i64 (plC k))) {i : Nat} (hi : i < 3) :
    u.cell? ⟨X, 1 + i, none⟩ = some (.int .i64 (plN k op i)) := by
  have hi2 : i = 0 ∨ i = 1 ∨ i = 2 := by omega
  rcases hi2 with rfl | rfl | rfl
  · exact h1
  · exact h2
  · exact h3
set_option maxHeartbeats 1000000 in
theorem inPar_any {N : Nat → Prop} {P : Ex → Prop} (k op vk vi : Int) (no : Bool) (vt tb nm : ByteArray) (p q : Option Addr) (args : List Ex) (c n' c' : Nat) (i : Nat) (w : World) (hE : Env ls w) (hm : 1 ∈ ls) (hi : i < args.length) (h3 : i < 3) (hA : LAt N w P p args) :
    Calls Tryd.prog 39 #[.agg #[.int .i64 k, .int .i64 op, .bool no, .int .i64 vk, .int .i64 vi, .string vt, .string tb, .string nm, .slice p args.length c, .slice q n' c'], .int .i64 i] w
      fun r w' => r = .returned (.bool (decide (prec (eAt args i).k (eAt args i).op < plN k op i))) ∧ Below w.heap.size w w' := by
  have HE := Lib.hid hE
  have HA := Lib.hid (hA i hi)
  clear hE hA
  go_enter Tryd.func39, Tryd.ntmps39
  go_wp2_with fail
  refine (binding_any k op vk vi no vt tb nm p q _ _ _ _ _ (HE.out.alloc _) hm).mono ?_
  rintro e w' ⟨rfl, hb⟩
  have hbx := Below.of_alloc hb
  have hx8 : w'.cell? ⟨w.heap.size, 8, none⟩ = some (.slice p args.length c) := by rw [hb.cell (by simp)]; go_simp
  have hxl : w.heap.size < w'.heap.size := Nat.lt_of_lt_of_le (by simp) hb.size
  obtain ⟨g, o, rfl, hg, -, hC, -⟩ := HA.out
  have hC1 := hC.keep (hbx.block g hg)
  have hg1 := Nat.lt_of_lt_of_le hg hbx.size
  have HE1 := Lib.hid ((HE.out.alloc _).low hb)
  go_wp2_with fail
  have hbb := below_alloc w' (.cells #[.int .i64 (prec k op), .int .i64 (plA k op), .int .i64 (plB k op), .int .i64 (plC k)] 52)
  have hC2 := hC1.keep (hbb.block g hg1)
  have hg2 := Nat.lt_of_lt_of_le hg1 hbb.size
  have HE2 := Lib.hid (HE1.out.low hbb)
  have HB2 := Lib.hid (below_next hbx hbb)
  have hx9 : (w'.alloc (.cells #[.int .i64 (prec k op), .int .i64 (plA k op), .int .i64 (plB k op), .int .i64 (plC k)] 52)).cell? ⟨w.heap.size, 8, none⟩ = some (.slice (some ⟨g, o, none⟩) args.length c) := by rw [hbb.cell (by exact hxl)]; exact hx8
  have hxl2 := Nat.lt_of_lt_of_le hxl hbb.size
  obtain ⟨bl, b0, b1, b2, b3, -⟩ := cell4_new w' (.int .i64 (prec k op)) (.int .i64 (plA k op)) (.int .i64 (plB k op)) (.int .i64 (plC k)) 52
  have hpc := place_cell b1 b2 b3 h3
  generalize hW2 : w'.alloc (.cells #[.int .i64 (prec k op), .int .i64 (plA k op), .int .i64 (plB k op), .int .i64 (plC k)] 52) = W2 at *
  generalize w'.heap.size = Y at *
  generalize hpl : plN k op i = pl at *
  have l8 := lowW_cell (W := W2) (by exact hxl2) hx9
  have lp := lowW_cell (W := W2) (by exact bl) hpc
  have m0 := lowW_cell (W := W2) (by exact hg2) hC2.c0
  have m1 := lowW_cell (W := W2) (by exact hg2) hC2.c1
  have m2 := lowW_cell (W := W2) (by exact hg2) hC2.c2
  have m3 := lowW_cell (W := W2) (by exact hg2) hC2.c3
  have m4 := lowW_cell (W := W2) (by exact hg2) hC2.c4
  have m5 := lowW_cell (W := W2) (by exact hg2) hC2.c5
  have m6 := lowW_cell (W := W2) (by exact hg2) hC2.c6
  have m7 := lowW_cell (W := W2) (by exact hg2) hC2.c7
  have m8 := lowW_cell (W := W2) (by exact hg2) hC2.c8
  have m9 := lowW_cell (W := W2) (by exact hg2) hC2.c9
  have hi3 : decide ((i : Int) < 3) = true := decide_eq_true (by omega)
  have hia : (i : Int) < args.length := by omega
  have hi3' : (i : Int) < 3 := by omega
  have hC3 := Lib.hid (prec_any (ls := ls) (eAt args i))
  unfold exV at hC3
  generalize hxe : eAt args i = x at *
  have HXE := Lib.hid hxe
  have HPL := Lib.hid hpl
  clear hxe hpl
  refine wp_region_low (by kernel_rfl) (by kernel_rfl) ?_
  repeat (refine wq_step (fun K hK => ?_); go_simp; first | (refine hK _ ?_; clear hK K) | (apply Exists.intro; refine ⟨fun _ => ?_, hK _ ?_⟩; (go_at_call 8; exact Calls.low_of (hC3.out _ (HE2.out.low (lowW_low _ _ _)) hm)); clear hK K))
  refine wq_nil ?_
  rintro _ ⟨⟨d3, os3⟩, rfl⟩
  dsimp only
  have HB3 := Lib.hid (below_next HB2.out (lowW_low W2 d3 os3))
  clear l8 lp m0 m1 m2 m3 m4 m5 m6 m7 m8 m9
  generalize lowW W2 d3 os3 = W3 at HB3 ⊢
  go_wp2
  go_ret
  exact ⟨ret_bool (by rw [HXE.out, HPL.out]), HB3.out⟩
end Go.Proofs.YtecghiflbnhceaaDoor
