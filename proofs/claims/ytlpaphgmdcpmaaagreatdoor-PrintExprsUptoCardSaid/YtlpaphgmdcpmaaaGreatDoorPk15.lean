/-
  Several texts in one.
-/
import Derived.Test.YtlpaphgmdcpmaaaGreatDoorPk04
import Derived.Test.YtlpaphgmdcpmaaaGreatDoorPk12
import Derived.Test.YtlpaphgmdcpmaaaGreatDoorPk14
/-
  How tightly expressions bind: bindingOf, Precedence, validOperator, inParentheses of package syntax.
-/
namespace Go.Proofs.YtlpaphgmdcpmaaaGreatDoor
set_option maxRecDepth 100000
open Go.RowKit
variable {ls : List Nat}

/-- The least precedences of the arguments, as package syntax has them. -/
def plA (k op : Int) : Int := if k = 3 then 3 else if k = 4 then 7 else if k = 6 ∨ k = 7 then 5 else if k = 5 then (if op = 1 then 1 else if op = 2 then 2 else if 3 ≤ op ∧ op ≤ 10 then 5 else if 11 ≤ op ∧ op ≤ 13 then 6 else 0) else 0
def plB (k op : Int) : Int := if k = 7 then 5 else if k = 5 then (if op = 1 then 2 else if op = 2 then 3 else if 3 ≤ op ∧ op ≤ 8 then 5 else if 9 ≤ op ∧ op ≤ 10 then 6 else if 11 ≤ op ∧ op ≤ 13 then 7 else 0) else 0
def plC (k : Int) : Int := if k = 7 then 5 else 0
theorem validOp_yes (op : Int) (h1 : 1 ≤ op) (h2 : op ≤ 13) (w : World) : Calls Tryz.prog 40 #[.int .i64 op] w fun e w' => e = .returned (.bool true) ∧ w = w' := by
  go_enter Tryz.func40, Tryz.ntmps40
  go_wp2
  go_ret
  exact ⟨rfl, rfl⟩
theorem validOp_no (op : Int) (h : op < 1 ∨ 13 < op) (w : World) : Calls Tryz.prog 40 #[.int .i64 op] w fun e w' => e = .returned (.bool false) ∧ w = w' := by
  by_cases h1 : 1 ≤ op
  · have h2 : 13 < op := by omega
    clear h
    go_enter Tryz.func40, Tryz.ntmps40
    go_wp2
    have e2 : decide (op ≤ 13) = false := decide_eq_false (by omega)
    go_ret
    exact ⟨ret_bool e2, rfl⟩
  · clear h
    go_enter Tryz.func40, Tryz.ntmps40
    go_wp2
    go_ret
    exact ⟨rfl, rfl⟩
theorem validOp_any (op : Int) (w : World) : Calls Tryz.prog 40 #[.int .i64 op] w fun e w' => e = .returned (.bool (decide (1 ≤ op ∧ op ≤ 13))) ∧ w = w' := by
  by_cases h : 1 ≤ op ∧ op ≤ 13
  · rw [decide_eq_true h]; exact validOp_yes op h.1 h.2 w
  · rw [decide_eq_false h]; exact validOp_no op (by omega) w
abbrev bndV (k op : Int) : Value := .agg #[.int .i64 (prec k op), .int .i64 (plA k op), .int .i64 (plB k op), .int .i64 (plC k)]
theorem ret_bnd {a b c d k op : Int} (h : (a, b, c, d) = (prec k op, plA k op, plB k op, plC k)) : Ending.returned (.agg #[.int .i64 a, .int .i64 b, .int .i64 c, .int .i64 d]) = .returned (bndV k op) := by
  simp only [Prod.mk.injEq] at h
  obtain ⟨rfl, rfl, rfl, rfl⟩ := h; rfl
theorem oper_cells {w : World} (hE : Env ls w) (hm : 8 ∈ ls) (i : Nat) (hi : i < 14) (a b : Obj) :
    ((w.alloc a).alloc b).cell? ⟨8, i * 4 + 0, none⟩ = some (.int .i64 ((operL.getD i []).getD 0 0)) ∧ ((w.alloc a).alloc b).cell? ⟨8, i * 4 + 1, none⟩ = some (.int .i64 ((operL.getD i []).getD 1 0))
    ∧ ((w.alloc a).alloc b).cell? ⟨8, i * 4 + 2, none⟩ = some (.int .i64 ((operL.getD i []).getD 2 0)) ∧ ((w.alloc a).alloc b).cell? ⟨8, i * 4 + 3, none⟩ = some (.int .i64 ((operL.getD i []).getD 3 0)) := by
  have hE2 := (hE.alloc a).alloc b
  exact ⟨hE2.opers hm i 0 hi (by decide), hE2.opers hm i 1 hi (by decide), hE2.opers hm i 2 hi (by decide), hE2.opers hm i 3 hi (by decide)⟩
theorem below_two (w : World) (a b : Obj) : Below w.heap.size w ((w.alloc a).alloc b) := below_new (below_new (Below.refl _ _) _) _
--CASES
set_option maxHeartbeats 1000000 in
theorem binding_o1 (vk vi : Int) (no : Bool) (vt tb nm : ByteArray) (p q : Option Addr) (n c n' c' : Nat) (w : World) (hE : Env ls w) (hm : 8 ∈ ls) :
    Calls Tryz.prog 99 #[.agg #[.int .i64 5, .int .i64 1, .bool no, .int .i64 vk, .int .i64 vi, .string vt, .string tb, .string nm, .slice p n c, .slice q n' c']] w fun e w' => e = .returned (bndV 5 1) ∧ Below w.heap.size w w' := by
  obtain ⟨d0, d1, d2, d3⟩ := oper_cells hE hm 1 (by decide) (.cells #[.int .i64 5, .int .i64 1, .bool no, .int .i64 vk, .int .i64 vi, .string vt, .string tb, .string nm, .slice p n c, .slice q n' c'] 27) (.cells #[.int .i64 0, .int .i64 0, .int .i64 0, .int .i64 0] 136)
  have c0 : ((w.alloc (.cells #[.int .i64 5, .int .i64 1, .bool no, .int .i64 vk, .int .i64 vi, .string vt, .string tb, .string nm, .slice p n c, .slice q n' c'] 27)).alloc (.cells #[.int .i64 0, .int .i64 0, .int .i64 0, .int .i64 0] 136)).cell? ⟨8, 4, none⟩ = some (.int .i64 1) := d0
  have c1 : ((w.alloc (.cells #[.int .i64 5, .int .i64 1, .bool no, .int .i64 vk, .int .i64 vi, .string vt, .string tb, .string nm, .slice p n c, .slice q n' c'] 27)).alloc (.cells #[.int .i64 0, .int .i64 0, .int .i64 0, .int .i64 0] 136)).cell? ⟨8, 5, none⟩ = some (.int .i64 1) := d1
  have c2 : ((w.alloc (.cells #[.int .i64 5, .int .i64 1, .bool no, .int .i64 vk, .int .i64 vi, .string vt, .string tb, .string nm, .slice p n c, .slice q n' c'] 27)).alloc (.cells #[.int .i64 0, .int .i64 0, .int .i64 0, .int .i64 0] 136)).cell? ⟨8, 6, none⟩ = some (.int .i64 2) := d2
  have c3 : ((w.alloc (.cells #[.int .i64 5, .int .i64 1, .bool no, .int .i64 vk, .int .i64 vi, .string vt, .string tb, .string nm, .slice p n c, .slice q n' c'] 27)).alloc (.cells #[.int .i64 0, .int .i64 0, .int .i64 0, .int .i64 0] 136)).cell? ⟨8, 7, none⟩ = some (.int .i64 0) := d3
  clear hE d0 d1 d2 d3
  go_enter Tryz.func99, Tryz.ntmps99
  go_wp2_with (go_at_call 40; refine (validOp_yes _ (by decide) (by decide) _).mono ?_; rintro e w' ⟨rfl, rfl⟩)
  exact bodyPost_ret (v := .agg #[.int .i64 1, .int .i64 1, .int .i64 2, .int .i64 0]) (by simp [results, Tryz.results99, go_sem]) rfl ⟨ret_bnd rfl, below_two _ _ _⟩
set_option maxHeartbeats 1000000 in
theorem binding_o2 (vk vi : Int) (no : Bool) (vt tb nm : ByteArray) (p q : Option Addr) (n c n' c' : Nat) (w : World) (hE : Env ls w) (hm : 8 ∈ ls) :
    Calls Tryz.prog 99 #[.agg #[.int .i64 5, .int .i64 2, .bool no, .int .i64 vk, .int .i64 vi, .string vt, .string tb, .string nm, .slice p n c, .slice q n' c']] w fun e w' => e = .returned (bndV 5 2) ∧ Below w.heap.size w w' := by
  obtain ⟨d0, d1, d2, d3⟩ := oper_cells hE hm 2 (by decide) (.cells #[.int .i64 5, .int .i64 2, .bool no, .int .i64 vk, .int .i64 vi, .string vt, .string tb, .string nm, .slice p n c, .slice q n' c'] 27) (.cells #[.int .i64 0, .int .i64 0, .int .i64 0, .int .i64 0] 136)
  have c0 : ((w.alloc (.cells #[.int .i64 5, .int .i64 2, .bool no, .int .i64 vk, .int .i64 vi, .string vt, .string tb, .string nm, .slice p n c, .slice q n' c'] 27)).alloc (.cells #[.int .i64 0, .int .i64 0, .int .i64 0, .int .i64 0] 136)).cell? ⟨8, 8, none⟩ = some (.int .i64 2) := d0
  have c1 : ((w.alloc (.cells #[.int .i64 5, .int .i64 2, .bool no, .int .i64 vk, .int .i64 vi, .string vt, .string tb, .string nm, .slice p n c, .slice q n' c'] 27)).alloc (.cells #[.int .i64 0, .int .i64 0, .int .i64 0, .int .i64 0] 136)).cell? ⟨8, 9, none⟩ = some (.int .i64 2) := d1
  have c2 : ((w.alloc (.cells #[.int .i64 5, .int .i64 2, .bool no, .int .i64 vk, .int .i64 vi, .string vt, .string tb, .string nm, .slice p n c, .slice q n' c'] 27)).alloc (.cells #[.int .i64 0, .int .i64 0, .int .i64 0, .int .i64 0] 136)).cell? ⟨8, 10, none⟩ = some (.int .i64 3) := d2
  have c3 : ((w.alloc (.cells #[.int .i64 5, .int .i64 2, .bool no, .int .i64 vk, .int .i64 vi, .string vt, .string tb, .string nm, .slice p n c, .slice q n' c'] 27)).alloc (.cells #[.int .i64 0, .int .i64 0, .int .i64 0, .int .i64 0] 136)).cell? ⟨8, 11, none⟩ = some (.int .i64 0) := d3
  clear hE d0 d1 d2 d3
  go_enter Tryz.func99, Tryz.ntmps99
  go_wp2_with (go_at_call 40; refine (validOp_yes _ (by decide) (by decide) _).mono ?_; rintro e w' ⟨rfl, rfl⟩)
  exact bodyPost_ret (v := .agg #[.int .i64 2, .int .i64 2, .int .i64 3, .int .i64 0]) (by simp [results, Tryz.results99, go_sem]) rfl ⟨ret_bnd rfl, below_two _ _ _⟩
set_option maxHeartbeats 1000000 in
theorem binding_o3 (vk vi : Int) (no : Bool) (vt tb nm : ByteArray) (p q : Option Addr) (n c n' c' : Nat) (w : World) (hE : Env ls w) (hm : 8 ∈ ls) :
    Calls Tryz.prog 99 #[.agg #[.int .i64 5, .int .i64 3, .bool no, .int .i64 vk, .int .i64 vi, .string vt, .string tb, .string nm, .slice p n c, .slice q n' c']] w fun e w' => e = .returned (bndV 5 3) ∧ Below w.heap.size w w' := by
  obtain ⟨d0, d1, d2, d3⟩ := oper_cells hE hm 3 (by decide) (.cells #[.int .i64 5, .int .i64 3, .bool no, .int .i64 vk, .int .i64 vi, .string vt, .string tb, .string nm, .slice p n c, .slice q n' c'] 27) (.cells #[.int .i64 0, .int .i64 0, .int .i64 0, .int .i64 0] 136)
  have c0 : ((w.alloc (.cells #[.int .i64 5, .int .i64 3, .bool no, .int .i64 vk, .int .i64 vi, .string vt, .string tb, .string nm, .slice p n c, .slice q n' c'] 27)).alloc (.cells #[.int .i64 0, .int .i64 0, .int .i64 0, .int .i64 0] 136)).cell? ⟨8, 12, none⟩ = some (.int .i64 4) := d0
  have c1 : ((w.alloc (.cells #[.int .i64 5, .int .i64 3, .bool no, .int .i64 vk, .int .i64 vi, .string vt, .string tb, .string nm, .slice p n c, .slice q n' c'] 27)).alloc (.cells #[.int .i64 0, .int .i64 0, .int .i64 0, .int .i64 0] 136)).cell? ⟨8, 13, none⟩ = some (.int .i64 5) := d1
  have c2 : ((w.alloc (.cells #[.int .i64 5, .int .i64 3, .bool no, .int .i64 vk, .int .i64 vi, .string vt, .string tb, .string nm, .slice p n c, .slice q n' c'] 27)).alloc (.cells #[.int .i64 0, .int .i64 0, .int .i64 0, .int .i64 0] 136)).cell? ⟨8, 14, none⟩ = some (.int .i64 5) := d2
  have c3 : ((w.alloc (.cells #[.int .i64 5, .int .i64 3, .bool no, .int .i64 vk, .int .i64 vi, .string vt, .string tb, .string nm, .slice p n c, .slice q n' c'] 27)).alloc (.cells #[.int .i64 0, .int .i64 0, .int .i64 0, .int .i64 0] 136)).cell? ⟨8, 15, none⟩ = some (.int .i64 0) := d3
  clear hE d0 d1 d2 d3
  go_enter Tryz.func99, Tryz.ntmps99
  go_wp2_with (go_at_call 40; refine (validOp_yes _ (by decide) (by decide) _).mono ?_; rintro e w' ⟨rfl, rfl⟩)
  exact bodyPost_ret (v := .agg #[.int .i64 4, .int .i64 5, .int .i64 5, .int .i64 0]) (by simp [results, Tryz.results99, go_sem]) rfl ⟨ret_bnd rfl, below_two _ _ _⟩
set_option maxHeartbeats 1000000 in
theorem binding_o4 (vk vi : Int) (no : Bool) (vt tb nm : ByteArray) (p q : Option Addr) (n c n' c' : Nat) (w : World) (hE : Env ls w) (hm : 8 ∈ ls) :
    Calls Tryz.prog 99 #[.agg #[.int .i64 5, .int .i64 4, .bool no, .int .i64 vk, .int .i64 vi, .string vt, .string tb, .string nm, .slice p n c, .slice q n' c']] w fun e w' => e = .returned (bndV 5 4) ∧ Below w.heap.size w w' := by
  obtain ⟨d0, d1, d2, d3⟩ := oper_cells hE hm 4 (by decide) (.cells #[.int .i64 5, .int .i64 4, .bool no, .int .i64 vk, .int .i64 vi, .string vt, .string tb, .string nm, .slice p n c, .slice q n' c'] 27) (.cells #[.int .i64 0, .int .i64 0, .int .i64 0, .int .i64 0] 136)
  have c0 : ((w.alloc (.cells #[.int .i64 5, .int .i64 4, .bool no, .int .i64 vk, .int .i64 vi, .string vt, .string tb, .string nm, .slice p n c, .slice q n' c'] 27)).alloc (.cells #[.int .i64 0, .int .i64 0, .int .i64 0, .int .i64 0] 136)).cell? ⟨8, 16, none⟩ = some (.int .i64 4) := d0
  have c1 : ((w.alloc (.cells #[.int .i64 5, .int .i64 4, .bool no, .int .i64 vk, .int .i64 vi, .string vt, .string tb, .string nm, .slice p n c, .slice q n' c'] 27)).alloc (.cells #[.int .i64 0, .int .i64 0, .int .i64 0, .int .i64 0] 136)).cell? ⟨8, 17, none⟩ = some (.int .i64 5) := d1
  have c2 : ((w.alloc (.cells #[.int .i64 5, .int .i64 4, .bool no, .int .i64 vk, .int .i64 vi, .string vt, .string tb, .string nm, .slice p n c, .slice q n' c'] 27)).alloc (.cells #[.int .i64 0, .int .i64 0, .int .i64 0, .int .i64 0] 136)).cell? ⟨8, 18, none⟩ = some (.int .i64 5) := d2
  have c3 : ((w.alloc (.cells #[.int .i64 5, .int .i64 4, .bool no, .int .i64 vk, .int .i64 vi, .string vt, .string tb, .string nm, .slice p n c, .slice q n' c'] 27)).alloc (.cells #[.int .i64 0, .int .i64 0, .int .i64 0, .int .i64 0] 136)).cell? ⟨8, 19, none⟩ = some (.int .i64 0) := d3
  clear hE d0 d1 d2 d3
  go_enter Tryz.func99, Tryz.ntmps99
  go_wp2_with (go_at_call 40; refine (validOp_yes _ (by decide) (by decide) _).mono ?_; rintro e w' ⟨rfl, rfl⟩)
  exact bodyPost_ret (v := .agg #[.int .i64 4, .int .i64 5, .int .i64 5, .int .i64 0]) (by simp [results, Tryz.results99, go_sem]) rfl ⟨ret_bnd rfl, below_two _ _ _⟩
set_option maxHeartbeats 1000000 in
theorem binding_o5 (vk vi : Int) (no : Bool) (vt tb nm : ByteArray) (p q : Option Addr) (n c n' c' : Nat) (w : World) (hE : Env ls w) (hm : 8 ∈ ls) :
    Calls Tryz.prog 99 #[.agg #[.int .i64 5, .int .i64 5, .bool no, .int .i64 vk, .int .i64 vi, .string vt, .string tb, .string nm, .slice p n c, .slice q n' c']] w fun e w' => e = .returned (bndV 5 5) ∧ Below w.heap.size w w' := by
  obtain ⟨d0, d1, d2, d3⟩ := oper_cells hE hm 5 (by decide) (.cells #[.int .i64 5, .int .i64 5, .bool no, .int .i64 vk, .int .i64 vi, .string vt, .string tb, .string nm, .slice p n c, .slice q n' c'] 27) (.cells #[.int .i64 0, .int .i64 0, .int .i64 0, .int .i64 0] 136)
  have c0 : ((w.alloc (.cells #[.int .i64 5, .int .i64 5, .bool no, .int .i64 vk, .int .i64 vi, .string vt, .string tb, .string nm, .slice p n c, .slice q n' c'] 27)).alloc (.cells #[.int .i64 0, .int .i64 0, .int .i64 0, .int .i64 0] 136)).cell? ⟨8, 20, none⟩ = some (.int .i64 4) := d0
  have c1 : ((w.alloc (.cells #[.int .i64 5, .int .i64 5, .bool no, .int .i64 vk, .int .i64 vi, .string vt, .string tb, .string nm, .slice p n c, .slice q n' c'] 27)).alloc (.cells #[.int .i64 0, .int .i64 0, .int .i64 0, .int .i64 0] 136)).cell? ⟨8, 21, none⟩ = some (.int .i64 5) := d1
  have c2 : ((w.alloc (.cells #[.int .i64 5, .int .i64 5, .bool no, .int .i64 vk, .int .i64 vi, .string vt, .string tb, .string nm, .slice p n c, .slice q n' c'] 27)).alloc (.cells #[.int .i64 0, .int .i64 0, .int .i64 0, .int .i64 0] 136)).cell? ⟨8, 22, none⟩ = some (.int .i64 5) := d2
  have c3 : ((w.alloc (.cells #[.int .i64 5, .int .i64 5, .bool no, .int .i64 vk, .int .i64 vi, .string vt, .string tb, .string nm, .slice p n c, .slice q n' c'] 27)).alloc (.cells #[.int .i64 0, .int .i64 0, .int .i64 0, .int .i64 0] 136)).cell? ⟨8, 23, none⟩ = some (.int .i64 0) := d3
  clear hE d0 d1 d2 d3
  go_enter Tryz.func99, Tryz.ntmps99
  go_wp2_with (go_at_call 40; refine (validOp_yes _ (by decide) (by decide) _).mono ?_; rintro e w' ⟨rfl, rfl⟩)
  exact bodyPost_ret (v := .agg #[.int .i64 4, .int .i64 5, .int .i64 5, .int .i64 0]) (by simp [results, Tryz.results99, go_sem]) rfl ⟨ret_bnd rfl, below_two _ _ _⟩
set_option maxHeartbeats 1000000 in
theorem binding_o6 (vk vi : Int) (no : Bool) (vt tb nm : ByteArray) (p q : Option Addr) (n c n' c' : Nat) (w : World) (hE : Env ls w) (hm : 8 ∈ ls) :
    Calls Tryz.prog 99 #[.agg #[.int .i64 5, .int .i64 6, .bool no, .int .i64 vk, .int .i64 vi, .string vt, .string tb, .string nm, .slice p n c, .slice q n' c']] w fun e w' => e = .returned (bndV 5 6) ∧ Below w.heap.size w w' := by
  obtain ⟨d0, d1, d2, d3⟩ := oper_cells hE hm 6 (by decide) (.cells #[.int .i64 5, .int .i64 6, .bool no, .int .i64 vk, .int .i64 vi, .string vt, .string tb, .string nm, .slice p n c, .slice q n' c'] 27) (.cells #[.int .i64 0, .int .i64 0, .int .i64 0, .int .i64 0] 136)
  have c0 : ((w.alloc (.cells #[.int .i64 5, .int .i64 6, .bool no, .int .i64 vk, .int .i64 vi, .string vt, .string tb, .string nm, .slice p n c, .slice q n' c'] 27)).alloc (.cells #[.int .i64 0, .int .i64 0, .int .i64 0, .int .i64 0] 136)).cell? ⟨8, 24, none⟩ = some (.int .i64 4) := d0
  have c1 : ((w.alloc (.cells #[.int .i64 5, .int .i64 6, .bool no, .int .i64 vk, .int .i64 vi, .string vt, .string tb, .string nm, .slice p n c, .slice q n' c'] 27)).alloc (.cells #[.int .i64 0, .int .i64 0, .int .i64 0, .int .i64 0] 136)).cell? ⟨8, 25, none⟩ = some (.int .i64 5) := d1
  have c2 : ((w.alloc (.cells #[.int .i64 5, .int .i64 6, .bool no, .int .i64 vk, .int .i64 vi, .string vt, .string tb, .string nm, .slice p n c, .slice q n' c'] 27)).alloc (.cells #[.int .i64 0, .int .i64 0, .int .i64 0, .int .i64 0] 136)).cell? ⟨8, 26, none⟩ = some (.int .i64 5) := d2
  have c3 : ((w.alloc (.cells #[.int .i64 5, .int .i64 6, .bool no, .int .i64 vk, .int .i64 vi, .string vt, .string tb, .string nm, .slice p n c, .slice q n' c'] 27)).alloc (.cells #[.int .i64 0, .int .i64 0, .int .i64 0, .int .i64 0] 136)).cell? ⟨8, 27, none⟩ = some (.int .i64 0) := d3
  clear hE d0 d1 d2 d3
  go_enter Tryz.func99, Tryz.ntmps99
  go_wp2_with (go_at_call 40; refine (validOp_yes _ (by decide) (by decide) _).mono ?_; rintro e w' ⟨rfl, rfl⟩)
  exact bodyPost_ret (v := .agg #[.int .i64 4, .int .i64 5, .int .i64 5, .int .i64 0]) (by simp [results, Tryz.results99, go_sem]) rfl ⟨ret_bnd rfl, below_two _ _ _⟩
set_option maxHeartbeats 1000000 in
theorem binding_o7 (vk vi : Int) (no : Bool) (vt tb nm : ByteArray) (p q : Option Addr) (n c n' c' : Nat) (w : World) (hE : Env ls w) (hm : 8 ∈ ls) :
    Calls Tryz.prog 99 #[.agg #[.int .i64 5, .int .i64 7, .bool no, .int .i64 vk, .int .i64 vi, .string vt, .string tb, .string nm, .slice p n c, .slice q n' c']] w fun e w' => e = .returned (bndV 5 7) ∧ Below w.heap.size w w' := by
  obtain ⟨d0, d1, d2, d3⟩ := oper_cells hE hm 7 (by decide) (.cells #[.int .i64 5, .int .i64 7, .bool no, .int .i64 vk, .int .i64 vi, .string vt, .string tb, .string nm, .slice p n c, .slice q n' c'] 27) (.cells #[.int .i64 0, .int .i64 0, .int .i64 0, .int .i64 0] 136)
  have c0 : ((w.alloc (.cells #[.int .i64 5, .int .i64 7, .bool no, .int .i64 vk, .int .i64 vi, .string vt, .string tb, .string nm, .slice p n c, .slice q n' c'] 27)).alloc (.cells #[.int .i64 0, .int .i64 0, .int .i64 0, .int .i64 0] 136)).cell? ⟨8, 28, none⟩ = some (.int .i64 4) := d0
  have c1 : ((w.alloc (.cells #[.int .i64 5, .int .i64 7, .bool no, .int .i64 vk, .int .i64 vi, .string vt, .string tb, .string nm, .slice p n c, .slice q n' c'] 27)).alloc (.cells #[.int .i64 0, .int .i64 0, .int .i64 0, .int .i64 0] 136)).cell? ⟨8, 29, none⟩ = some (.int .i64 5) := d1
  have c2 : ((w.alloc (.cells #[.int .i64 5, .int .i64 7, .bool no, .int .i64 vk, .int .i64 vi, .string vt, .string tb, .string nm, .slice p n c, .slice q n' c'] 27)).alloc (.cells #[.int .i64 0, .int .i64 0, .int .i64 0, .int .i64 0] 136)).cell? ⟨8, 30, none⟩ = some (.int .i64 5) := d2
  have c3 : ((w.alloc (.cells #[.int .i64 5, .int .i64 7, .bool no, .int .i64 vk, .int .i64 vi, .string vt, .string tb, .string nm, .slice p n c, .slice q n' c'] 27)).alloc (.cells #[.int .i64 0, .int .i64 0, .int .i64 0, .int .i64 0] 136)).cell? ⟨8, 31, none⟩ = some (.int .i64 0) := d3
  clear hE d0 d1 d2 d3
  go_enter Tryz.func99, Tryz.ntmps99
  go_wp2_with (go_at_call 40; refine (validOp_yes _ (by decide) (by decide) _).mono ?_; rintro e w' ⟨rfl, rfl⟩)
  exact bodyPost_ret (v := .agg #[.int .i64 4, .int .i64 5, .int .i64 5, .int .i64 0]) (by simp [results, Tryz.results99, go_sem]) rfl ⟨ret_bnd rfl, below_two _ _ _⟩
set_option maxHeartbeats 1000000 in
theorem binding_o8 (vk vi : Int) (no : Bool) (vt tb nm : ByteArray) (p q : Option Addr) (n c n' c' : Nat) (w : World) (hE : Env ls w) (hm : 8 ∈ ls) :
    Calls Tryz.prog 99 #[.agg #[.int .i64 5, .int .i64 8, .bool no, .int .i64 vk, .int .i64 vi, .string vt, .string tb, .string nm, .slice p n c, .slice q n' c']] w fun e w' => e = .returned (bndV 5 8) ∧ Below w.heap.size w w' := by
  obtain ⟨d0, d1, d2, d3⟩ := oper_cells hE hm 8 (by decide) (.cells #[.int .i64 5, .int .i64 8, .bool no, .int .i64 vk, .int .i64 vi, .string vt, .string tb, .string nm, .slice p n c, .slice q n' c'] 27) (.cells #[.int .i64 0, .int .i64 0, .int .i64 0, .int .i64 0] 136)
  have c0 : ((w.alloc (.cells #[.int .i64 5, .int .i64 8, .bool no, .int .i64 vk, .int .i64 vi, .string vt, .string tb, .string nm, .slice p n c, .slice q n' c'] 27)).alloc (.cells #[.int .i64 0, .int .i64 0, .int .i64 0, .int .i64 0] 136)).cell? ⟨8, 32, none⟩ = some (.int .i64 4) := d0
  have c1 : ((w.alloc (.cells #[.int .i64 5, .int .i64 8, .bool no, .int .i64 vk, .int .i64 vi, .string vt, .string tb, .string nm, .slice p n c, .slice q n' c'] 27)).alloc (.cells #[.int .i64 0, .int .i64 0, .int .i64 0, .int .i64 0] 136)).cell? ⟨8, 33, none⟩ = some (.int .i64 5) := d1
  have c2 : ((w.alloc (.cells #[.int .i64 5, .int .i64 8, .bool no, .int .i64 vk, .int .i64 vi, .string vt, .string tb, .string nm, .slice p n c, .slice q n' c'] 27)).alloc (.cells #[.int .i64 0, .int .i64 0, .int .i64 0, .int .i64 0] 136)).cell? ⟨8, 34, none⟩ = some (.int .i64 5) := d2
  have c3 : ((w.alloc (.cells #[.int .i64 5, .int .i64 8, .bool no, .int .i64 vk, .int .i64 vi, .string vt, .string tb, .string nm, .slice p n c, .slice q n' c'] 27)).alloc (.cells #[.int .i64 0, .int .i64 0, .int .i64 0, .int .i64 0] 136)).cell? ⟨8, 35, none⟩ = some (.int .i64 0) := d3
  clear hE d0 d1 d2 d3
  go_enter Tryz.func99, Tryz.ntmps99
  go_wp2_with (go_at_call 40; refine (validOp_yes _ (by decide) (by decide) _).mono ?_; rintro e w' ⟨rfl, rfl⟩)
  exact bodyPost_ret (v := .agg #[.int .i64 4, .int .i64 5, .int .i64 5, .int .i64 0]) (by simp [results, Tryz.results99, go_sem]) rfl ⟨ret_bnd rfl, below_two _ _ _⟩
set_option maxHeartbeats 1000000 in
theorem binding_o9 (vk vi : Int) (no : Bool) (vt tb nm : ByteArray) (p q : Option Addr) (n c n' c' : Nat) (w : World) (hE : Env ls w) (hm : 8 ∈ ls) :
    Calls Tryz.prog 99 #[.agg #[.int .i64 5, .int .i64 9, .bool no, .int .i64 vk, .int .i64 vi, .string vt, .string tb, .string nm, .slice p n c, .slice q n' c']] w fun e w' => e = .returned (bndV 5 9) ∧ Below w.heap.size w w' := by
  obtain ⟨d0, d1, d2, d3⟩ := oper_cells hE hm 9 (by decide) (.cells #[.int .i64 5, .int .i64 9, .bool no, .int .i64 vk, .int .i64 vi, .string vt, .string tb, .string nm, .slice p n c, .slice q n' c'] 27) (.cells #[.int .i64 0, .int .i64 0, .int .i64 0, .int .i64 0] 136)
  have c0 : ((w.alloc (.cells #[.int .i64 5, .int .i64 9, .bool no, .int .i64 vk, .int .i64 vi, .string vt, .string tb, .string nm, .slice p n c, .slice q n' c'] 27)).alloc (.cells #[.int .i64 0, .int .i64 0, .int .i64 0, .int .i64 0] 136)).cell? ⟨8, 36, none⟩ = some (.int .i64 5) := d0
  have c1 : ((w.alloc (.cells #[.int .i64 5, .int .i64 9, .bool no, .int .i64 vk, .int .i64 vi, .string vt, .string tb, .string nm, .slice p n c, .slice q n' c'] 27)).alloc (.cells #[.int .i64 0, .int .i64 0, .int .i64 0, .int .i64 0] 136)).cell? ⟨8, 37, none⟩ = some (.int .i64 5) := d1
  have c2 : ((w.alloc (.cells #[.int .i64 5, .int .i64 9, .bool no, .int .i64 vk, .int .i64 vi, .string vt, .string tb, .string nm, .slice p n c, .slice q n' c'] 27)).alloc (.cells #[.int .i64 0, .int .i64 0, .int .i64 0, .int .i64 0] 136)).cell? ⟨8, 38, none⟩ = some (.int .i64 6) := d2
  have c3 : ((w.alloc (.cells #[.int .i64 5, .int .i64 9, .bool no, .int .i64 vk, .int .i64 vi, .string vt, .string tb, .string nm, .slice p n c, .slice q n' c'] 27)).alloc (.cells #[.int .i64 0, .int .i64 0, .int .i64 0, .int .i64 0] 136)).cell? ⟨8, 39, none⟩ = some (.int .i64 0) := d3
  clear hE d0 d1 d2 d3
  go_enter Tryz.func99, Tryz.ntmps99
  go_wp2_with (go_at_call 40; refine (validOp_yes _ (by decide) (by decide) _).mono ?_; rintro e w' ⟨rfl, rfl⟩)
  exact bodyPost_ret (v := .agg #[.int .i64 5, .int .i64 5, .int .i64 6, .int .i64 0]) (by simp [results, Tryz.results99, go_sem]) rfl ⟨ret_bnd rfl, below_two _ _ _⟩
set_option maxHeartbeats 1000000 in
theorem binding_o10 (vk vi : Int) (no : Bool) (vt tb nm : ByteArray) (p q : Option Addr) (n c n' c' : Nat) (w : World) (hE : Env ls w) (hm : 8 ∈ ls) :
    Calls Tryz.prog 99 #[.agg #[.int .i64 5, .int .i64 10, .bool no, .int .i64 vk, .int .i64 vi, .string vt, .string tb, .string nm, .slice p n c, .slice q n' c']] w fun e w' => e = .returned (bndV 5 10) ∧ Below w.heap.size w w' := by
  obtain ⟨d0, d1, d2, d3⟩ := oper_cells hE hm 10 (by decide) (.cells #[.int .i64 5, .int .i64 10, .bool no, .int .i64 vk, .int .i64 vi, .string vt, .string tb, .string nm, .slice p n c, .slice q n' c'] 27) (.cells #[.int .i64 0, .int .i64 0, .int .i64 0, .int .i64 0] 136)
  have c0 : ((w.alloc (.cells #[.int .i64 5, .int .i64 10, .bool no, .int .i64 vk, .int .i64 vi, .string vt, .string tb, .string nm, .slice p n c, .slice q n' c'] 27)).alloc (.cells #[.int .i64 0, .int .i64 0, .int .i64 0, .int .i64 0] 136)).cell? ⟨8, 40, none⟩ = some (.int .i64 5) := d0
  have c1 : ((w.alloc (.cells #[.int .i64 5, .int .i64 10, .bool no, .int .i64 vk, .int .i64 vi, .string vt, .string tb, .string nm, .slice p n c, .slice q n' c'] 27)).alloc (.cells #[.int .i64 0, .int .i64 0, .int .i64 0, .int .i64 0] 136)).cell? ⟨8, 41, none⟩ = some (.int .i64 5) := d1
  have c2 : ((w.alloc (.cells #[.int .i64 5, .int .i64 10, .bool no, .int .i64 vk, .int .i64 vi, .string vt, .string tb, .string nm, .slice p n c, .slice q n' c'] 27)).alloc (.cells #[.int .i64 0, .int .i64 0, .int .i64 0, .int .i64 0] 136)).cell? ⟨8, 42, none⟩ = some (.int .i64 6) := d2
  have c3 : ((w.alloc (.cells #[.int .i64 5, .int .i64 10, .bool no, .int .i64 vk, .int .i64 vi, .string vt, .string tb, .string nm, .slice p n c, .slice q n' c'] 27)).alloc (.cells #[.int .i64 0, .int .i64 0, .int .i64 0, .int .i64 0] 136)).cell? ⟨8, 43, none⟩ = some (.int .i64 0) := d3
  clear hE d0 d1 d2 d3
  go_enter Tryz.func99, Tryz.ntmps99
  go_wp2_with (go_at_call 40; refine (validOp_yes _ (by decide) (by decide) _).mono ?_; rintro e w' ⟨rfl, rfl⟩)
  exact bodyPost_ret (v := .agg #[.int .i64 5, .int .i64 5, .int .i64 6, .int .i64 0]) (by simp [results, Tryz.results99, go_sem]) rfl ⟨ret_bnd rfl, below_two _ _ _⟩
set_option maxHeartbeats 1000000 in
theorem binding_o11 (vk vi : Int) (no : Bool) (vt tb nm : ByteArray) (p q : Option Addr) (n c n' c' : Nat) (w : World) (hE : Env ls w) (hm : 8 ∈ ls) :
    Calls Tryz.prog 99 #[.agg #[.int .i64 5, .int .i64 11, .bool no, .int .i64 vk, .int .i64 vi, .string vt, .string tb, .string nm, .slice p n c, .slice q n' c']] w fun e w' => e = .returned (bndV 5 11) ∧ Below w.heap.size w w' := by
  obtain ⟨d0, d1, d2, d3⟩ := oper_cells hE hm 11 (by decide) (.cells #[.int .i64 5, .int .i64 11, .bool no, .int .i64 vk, .int .i64 vi, .string vt, .string tb, .string nm, .slice p n c, .slice q n' c'] 27) (.cells #[.int .i64 0, .int .i64 0, .int .i64 0, .int .i64 0] 136)
  have c0 : ((w.alloc (.cells #[.int .i64 5, .int .i64 11, .bool no, .int .i64 vk, .int .i64 vi, .string vt, .string tb, .string nm, .slice p n c, .slice q n' c'] 27)).alloc (.cells #[.int .i64 0, .int .i64 0, .int .i64 0, .int .i64 0] 136)).cell? ⟨8, 44, none⟩ = some (.int .i64 6) := d0
  have c1 : ((w.alloc (.cells #[.int .i64 5, .int .i64 11, .bool no, .int .i64 vk, .int .i64 vi, .string vt, .string tb, .string nm, .slice p n c, .slice q n' c'] 27)).alloc (.cells #[.int .i64 0, .int .i64 0, .int .i64 0, .int .i64 0] 136)).cell? ⟨8, 45, none⟩ = some (.int .i64 6) := d1
  have c2 : ((w.alloc (.cells #[.int .i64 5, .int .i64 11, .bool no, .int .i64 vk, .int .i64 vi, .string vt, .string tb, .string nm, .slice p n c, .slice q n' c'] 27)).alloc (.cells #[.int .i64 0, .int .i64 0, .int .i64 0, .int .i64 0] 136)).cell? ⟨8, 46, none⟩ = some (.int .i64 7) := d2
  have c3 : ((w.alloc (.cells #[.int .i64 5, .int .i64 11, .bool no, .int .i64 vk, .int .i64 vi, .string vt, .string tb, .string nm, .slice p n c, .slice q n' c'] 27)).alloc (.cells #[.int .i64 0, .int .i64 0, .int .i64 0, .int .i64 0] 136)).cell? ⟨8, 47, none⟩ = some (.int .i64 0) := d3
  clear hE d0 d1 d2 d3
  go_enter Tryz.func99, Tryz.ntmps99
  go_wp2_with (go_at_call 40; refine (validOp_yes _ (by decide) (by decide) _).mono ?_; rintro e w' ⟨rfl, rfl⟩)
  exact bodyPost_ret (v := .agg #[.int .i64 6, .int .i64 6, .int .i64 7, .int .i64 0]) (by simp [results, Tryz.results99, go_sem]) rfl ⟨ret_bnd rfl, below_two _ _ _⟩
set_option maxHeartbeats 1000000 in
theorem binding_o12 (vk vi : Int) (no : Bool) (vt tb nm : ByteArray) (p q : Option Addr) (n c n' c' : Nat) (w : World) (hE : Env ls w) (hm : 8 ∈ ls) :
    Calls Tryz.prog 99 #[.agg #[.int .i64 5, .int .i64 12, .bool no, .int .i64 vk, .int .i64 vi, .string vt, .string tb, .string nm, .slice p n c, .slice q n' c']] w fun e w' => e = .returned (bndV 5 12) ∧ Below w.heap.size w w' := by
  obtain ⟨d0, d1, d2, d3⟩ := oper_cells hE hm 12 (by decide) (.cells #[.int .i64 5, .int .i64 12, .bool no, .int .i64 vk, .int .i64 vi, .string vt, .string tb, .string nm, .slice p n c, .slice q n' c'] 27) (.cells #[.int .i64 0, .int .i64 0, .int .i64 0, .int .i64 0] 136)
  have c0 : ((w.alloc (.cells #[.int .i64 5, .int .i64 12, .bool no, .int .i64 vk, .int .i64 vi, .string vt, .string tb, .string nm, .slice p n c, .slice q n' c'] 27)).alloc (.cells #[.int .i64 0, .int .i64 0, .int .i64 0, .int .i64 0] 136)).cell? ⟨8, 48, none⟩ = some (.int .i64 6) := d0
  have c1 : ((w.alloc (.cells #[.int .i64 5, .int .i64 12, .bool no, .int .i64 vk, .int .i64 vi, .string vt, .string tb, .string nm, .slice p n c, .slice q n' c'] 27)).alloc (.cells #[.int .i64 0, .int .i64 0, .int .i64 0, .int .i64 0] 136)).cell? ⟨8, 49, none⟩ = some (.int .i64 6) := d1
  have c2 : ((w.alloc (.cells #[.int .i64 5, .int .i64 12, .bool no, .int .i64 vk, .int .i64 vi, .string vt, .string tb, .string nm, .slice p n c, .slice q n' c'] 27)).alloc (.cells #[.int .i64 0, .int .i64 0, .int .i64 0, .int .i64 0] 136)).cell? ⟨8, 50, none⟩ = some (.int .i64 7) := d2
  have c3 : ((w.alloc (.cells #[.int .i64 5, .int .i64 12, .bool no, .int .i64 vk, .int .i64 vi, .string vt, .string tb, .string nm, .slice p n c, .slice q n' c'] 27)).alloc (.cells #[.int .i64 0, .int .i64 0, .int .i64 0, .int .i64 0] 136)).cell? ⟨8, 51, none⟩ = some (.int .i64 0) := d3
  clear hE d0 d1 d2 d3
  go_enter Tryz.func99, Tryz.ntmps99
  go_wp2_with (go_at_call 40; refine (validOp_yes _ (by decide) (by decide) _).mono ?_; rintro e w' ⟨rfl, rfl⟩)
  exact bodyPost_ret (v := .agg #[.int .i64 6, .int .i64 6, .int .i64 7, .int .i64 0]) (by simp [results, Tryz.results99, go_sem]) rfl ⟨ret_bnd rfl, below_two _ _ _⟩
set_option maxHeartbeats 1000000 in
theorem binding_o13 (vk vi : Int) (no : Bool) (vt tb nm : ByteArray) (p q : Option Addr) (n c n' c' : Nat) (w : World) (hE : Env ls w) (hm : 8 ∈ ls) :
    Calls Tryz.prog 99 #[.agg #[.int .i64 5, .int .i64 13, .bool no, .int .i64 vk, .int .i64 vi, .string vt, .string tb, .string nm, .slice p n c, .slice q n' c']] w fun e w' => e = .returned (bndV 5 13) ∧ Below w.heap.size w w' := by
  obtain ⟨d0, d1, d2, d3⟩ := oper_cells hE hm 13 (by decide) (.cells #[.int .i64 5, .int .i64 13, .bool no, .int .i64 vk, .int .i64 vi, .string vt, .string tb, .string nm, .slice p n c, .slice q n' c'] 27) (.cells #[.int .i64 0, .int .i64 0, .int .i64 0, .int .i64 0] 136)
  have c0 : ((w.alloc (.cells #[.int .i64 5, .int .i64 13, .bool no, .int .i64 vk, .int .i64 vi, .string vt, .string tb, .string nm, .slice p n c, .slice q n' c'] 27)).alloc (.cells #[.int .i64 0, .int .i64 0, .int .i64 0, .int .i64 0] 136)).cell? ⟨8, 52, none⟩ = some (.int .i64 6) := d0
  have c1 : ((w.alloc (.cells #[.int .i64 5, .int .i64 13, .bool no, .int .i64 vk, .int .i64 vi, .string vt, .string tb, .string nm, .slice p n c, .slice q n' c'] 27)).alloc (.cells #[.int .i64 0, .int .i64 0, .int .i64 0, .int .i64 0] 136)).cell? ⟨8, 53, none⟩ = some (.int .i64 6) := d1
  have c2 : ((w.alloc (.cells #[.int .i64 5, .int .i64 13, .bool no, .int .i64 vk, .int .i64 vi, .string vt, .string tb, .string nm, .slice p n c, .slice q n' c'] 27)).alloc (.cells #[.int .i64 0, .int .i64 0, .int .i64 0, .int .i64 0] 136)).cell? ⟨8, 54, none⟩ = some (.int .i64 7) := d2
  have c3 : ((w.alloc (.cells #[.int .i64 5, .int .i64 13, .bool no, .int .i64 vk, .int .i64 vi, .string vt, .string tb, .string nm, .slice p n c, .slice q n' c'] 27)).alloc (.cells #[.int .i64 0, .int .i64 0, .int .i64 0, .int .i64 0] 136)).cell? ⟨8, 55, none⟩ = some (.int .i64 0) := d3
  clear hE d0 d1 d2 d3
  go_enter Tryz.func99, Tryz.ntmps99
  go_wp2_with (go_at_call 40; refine (validOp_yes _ (by decide) (by decide) _).mono ?_; rintro e w' ⟨rfl, rfl⟩)
  exact bodyPost_ret (v := .agg #[.int .i64 6, .int .i64 6, .int .i64 7, .int .i64 0]) (by simp [results, Tryz.results99, go_sem]) rfl ⟨ret_bnd rfl, below_two _ _ _⟩
set_option maxHeartbeats 1000000 in
theorem binding_k3 (op : Int) (vk vi : Int) (no : Bool) (vt tb nm : ByteArray) (p q : Option Addr) (n c n' c' : Nat) (w : World) :
    Calls Tryz.prog 99 #[.agg #[.int .i64 3, .int .i64 op, .bool no, .int .i64 vk, .int .i64 vi, .string vt, .string tb, .string nm, .slice p n c, .slice q n' c']] w fun e w' => e = .returned (bndV 3 op) ∧ Below w.heap.size w w' := by
  go_enter Tryz.func99, Tryz.ntmps99
  go_wp2
  exact bodyPost_ret (v := .agg #[.int .i64 3, .int .i64 3, .int .i64 0, .int .i64 0]) (by simp [results, Tryz.results99, go_sem]) rfl ⟨ret_bnd rfl, below_two _ _ _⟩
set_option maxHeartbeats 1000000 in
theorem binding_k4 (op : Int) (vk vi : Int) (no : Bool) (vt tb nm : ByteArray) (p q : Option Addr) (n c n' c' : Nat) (w : World) :
    Calls Tryz.prog 99 #[.agg #[.int .i64 4, .int .i64 op, .bool no, .int .i64 vk, .int .i64 vi, .string vt, .string tb, .string nm, .slice p n c, .slice q n' c']] w fun e w' => e = .returned (bndV 4 op) ∧ Below w.heap.size w w' := by
  go_enter Tryz.func99, Tryz.ntmps99
  go_wp2
  exact bodyPost_ret (v := .agg #[.int .i64 7, .int .i64 7, .int .i64 0, .int .i64 0]) (by simp [results, Tryz.results99, go_sem]) rfl ⟨ret_bnd rfl, below_two _ _ _⟩
set_option maxHeartbeats 1000000 in
theorem binding_k6 (op : Int) (vk vi : Int) (no : Bool) (vt tb nm : ByteArray) (p q : Option Addr) (n c n' c' : Nat) (w : World) :
    Calls Tryz.prog 99 #[.agg #[.int .i64 6, .int .i64 op, .bool no, .int .i64 vk, .int .i64 vi, .string vt, .string tb, .string nm, .slice p n c, .slice q n' c']] w fun e w' => e = .returned (bndV 6 op) ∧ Below w.heap.size w w' := by
  go_enter Tryz.func99, Tryz.ntmps99
  go_wp2
  exact bodyPost_ret (v := .agg #[.int .i64 4, .int .i64 5, .int .i64 0, .int .i64 0]) (by simp [results, Tryz.results99, go_sem]) rfl ⟨ret_bnd rfl, below_two _ _ _⟩
set_option maxHeartbeats 1000000 in
theorem binding_k7 (op : Int) (vk vi : Int) (no : Bool) (vt tb nm : ByteArray) (p q : Option Addr) (n c n' c' : Nat) (w : World) :
    Calls Tryz.prog 99 #[.agg #[.int .i64 7, .int .i64 op, .bool no, .int .i64 vk, .int .i64 vi, .string vt, .string tb, .string nm, .slice p n c, .slice q n' c']] w fun e w' => e = .returned (bndV 7 op) ∧ Below w.heap.size w w' := by
  go_enter Tryz.func99, Tryz.ntmps99
  go_wp2
  exact bodyPost_ret (v := .agg #[.int .i64 4, .int .i64 5, .int .i64 5, .int .i64 5]) (by simp [results, Tryz.results99, go_sem]) rfl ⟨ret_bnd rfl, below_two _ _ _⟩
set_option maxHeartbeats 1000000 in
theorem binding_bad (op : Int) (h : op < 1 ∨ 13 < op) (vk vi : Int) (no : Bool) (vt tb nm : ByteArray) (p q : Option Addr) (n c n' c' : Nat) (w : World) :
    Calls Tryz.prog 99 #[.agg #[.int .i64 5, .int .i64 op, .bool no, .int .i64 vk, .int .i64 vi, .string vt, .string tb, .string nm, .slice p n c, .slice q n' c']] w fun e w' => e = .returned (bndV 5 op) ∧ Below w.heap.size w w' := by
  have h0 : (8, 0, 0, 0) = (prec 5 op, plA 5 op, plB 5 op, plC 5) := by
    have e1 : ¬ op = 1 := by omega
    have e2 : ¬ op = 2 := by omega
    have e3 : ¬ (3 ≤ op ∧ op ≤ 8) := by omega
    have e4 : ¬ (op = 9 ∨ op = 10) := by omega
    have e5 : ¬ (11 ≤ op ∧ op ≤ 13) := by omega
    have e6 : ¬ (3 ≤ op ∧ op ≤ 10) := by omega
    have e7 : ¬ (9 ≤ op ∧ op ≤ 10) := by omega
    simp [prec, plA, plB, plC, e1, e2, e3, e4, e5, e6, e7]
  have H0 := Lib.hid h0
  clear h0
  go_enter Tryz.func99, Tryz.ntmps99
  go_wp2_with (go_at_call 40; refine (validOp_no _ h _).mono ?_; rintro e w' ⟨rfl, rfl⟩)
  exact bodyPost_ret (v := .agg #[.int .i64 8, .int .i64 0, .int .i64 0, .int .i64 0]) (by simp [results, Tryz.results99, go_sem]) rfl ⟨ret_bnd H0.out, below_two _ _ _⟩
set_option maxHeartbeats 1000000 in
theorem binding_other (k op : Int) (h3 : k ≠ 3) (h4 : k ≠ 4) (h5 : k ≠ 5) (h6 : k ≠ 6) (h7 : k ≠ 7) (vk vi : Int) (no : Bool) (vt tb nm : ByteArray) (p q : Option Addr) (n c n' c' : Nat) (w : World) :
    Calls Tryz.prog 99 #[.agg #[.int .i64 k, .int .i64 op, .bool no, .int .i64 vk, .int .i64 vi, .string vt, .string tb, .string nm, .slice p n c, .slice q n' c']] w fun e w' => e = .returned (bndV k op) ∧ Below w.heap.size w w' := by
  have h0 : (8, 0, 0, 0) = (prec k op, plA k op, plB k op, plC k) := by simp [prec, plA, plB, plC, h3, h4, h5, h6, h7]
  have H0 := Lib.hid h0
  have e3 : (k == 3) = false := beq_eq_false_iff_ne.2 h3
  have e4 : (k == 4) = false := beq_eq_false_iff_ne.2 h4
  have e5 : (k == 5) = false := beq_eq_false_iff_ne.2 h5
  have e6 : (k == 6) = false := beq_eq_false_iff_ne.2 h6
  have e7 : (k == 7) = false := beq_eq_false_iff_ne.2 h7
  clear h0 h3 h4 h5 h6 h7
  go_enter Tryz.func99, Tryz.ntmps99
  go_wp2
  exact bodyPost_ret (v := .agg #[.int .i64 8, .int .i64 0, .int .i64 0, .int .i64 0]) (by simp [results, Tryz.results99, go_sem]) rfl ⟨ret_bnd H0.out, below_two _ _ _⟩
theorem binding_any (k op : Int) (vk vi : Int) (no : Bool) (vt tb nm : ByteArray) (p q : Option Addr) (n c n' c' : Nat) (w : World) (hE : Env ls w) (hm : 8 ∈ ls) :
    Calls Tryz.prog 99 #[.agg #[.int .i64 k, .int .i64 op, .bool no, .int .i64 vk, .int .i64 vi, .string vt, .string tb, .string nm, .slice p n c, .slice q n' c']] w fun e w' => e = .returned (bndV k op) ∧ Below w.heap.size w w' := by
  by_cases h3 : k = 3
  · subst h3; exact binding_k3 op vk vi no vt tb nm p q n c n' c' w
  by_cases h4 : k = 4
  · subst h4; exact binding_k4 op vk vi no vt tb nm p q n c n' c' w
  by_cases h6 : k = 6
  · subst h6; exact binding_k6 op vk vi no vt tb nm p q n c n' c' w
  by_cases h7 : k = 7
  · subst h7; exact binding_k7 op vk vi no vt tb nm p q n c n' c' w
  by_cases h5 : k = 5
  · subst h5
    by_cases h : op < 1 ∨ 13 < op
    · exact binding_bad op h vk vi no vt tb nm p q n c n' c' w
    · have ho : op = 1 ∨ op = 2 ∨ op = 3 ∨ op = 4 ∨ op = 5 ∨ op = 6 ∨ op = 7 ∨ op = 8 ∨ op = 9 ∨ op = 10 ∨ op = 11 ∨ op = 12 ∨ op = 13 := by omega
      rcases ho with rfl | rfl | rfl | rfl | rfl | rfl | rfl | rfl | rfl | rfl | rfl | rfl | rfl
      · exact binding_o1 vk vi no vt tb nm p q n c n' c' w hE hm
      · exact binding_o2 vk vi no vt tb nm p q n c n' c' w hE hm
      · exact binding_o3 vk vi no vt tb nm p q n c n' c' w hE hm
      · exact binding_o4 vk vi no vt tb nm p q n c n' c' w hE hm
      · exact binding_o5 vk vi no vt tb nm p q n c n' c' w hE hm
      · exact binding_o6 vk vi no vt tb nm p q n c n' c' w hE hm
      · exact binding_o7 vk vi no vt tb nm p q n c n' c' w hE hm
      · exact binding_o8 vk vi no vt tb nm p q n c n' c' w hE hm
      · exact binding_o9 vk vi no vt tb nm p q n c n' c' w hE hm
      · exact binding_o10 vk vi no vt tb nm p q n c n' c' w hE hm
      · exact binding_o11 vk vi no vt tb nm p q n c n' c' w hE hm
      · exact binding_o12 vk vi no vt tb nm p q n c n' c' w hE hm
      · exact binding_o13 vk vi no vt tb nm p q n c n' c' w hE hm
  exact binding_other k op h3 h4 h5 h6 h7 vk vi no vt tb nm p q n c n' c' w
--ENDCASES
end Go.Proofs.YtlpaphgmdcpmaaaGreatDoor
/-
  Precedence and inParentheses of package syntax.
-/
namespace Go.Proofs.YtlpaphgmdcpmaaaGreatDoor
set_option maxRecDepth 100000
open Go.RowKit
variable {ls : List Nat}

theorem Ex.mk_k {k op vk vi : Int} {no : Bool} {vt tb nm : ByteArray} {pa ps : Option Addr} {ca cs : Nat} {args : List Ex} {sub : List Qu} : (Ex.mk k op no vk vi vt tb nm pa ca args ps cs sub).k = k := rfl
theorem Ex.mk_op {k op vk vi : Int} {no : Bool} {vt tb nm : ByteArray} {pa ps : Option Addr} {ca cs : Nat} {args : List Ex} {sub : List Qu} : (Ex.mk k op no vk vi vt tb nm pa ca args ps cs sub).op = op := rfl
theorem Ex.mk_no {k op vk vi : Int} {no : Bool} {vt tb nm : ByteArray} {pa ps : Option Addr} {ca cs : Nat} {args : List Ex} {sub : List Qu} : (Ex.mk k op no vk vi vt tb nm pa ca args ps cs sub).no = no := rfl
theorem Ex.mk_vk {k op vk vi : Int} {no : Bool} {vt tb nm : ByteArray} {pa ps : Option Addr} {ca cs : Nat} {args : List Ex} {sub : List Qu} : (Ex.mk k op no vk vi vt tb nm pa ca args ps cs sub).vk = vk := rfl
theorem Ex.mk_vi {k op vk vi : Int} {no : Bool} {vt tb nm : ByteArray} {pa ps : Option Addr} {ca cs : Nat} {args : List Ex} {sub : List Qu} : (Ex.mk k op no vk vi vt tb nm pa ca args ps cs sub).vi = vi := rfl
theorem Ex.mk_vt {k op vk vi : Int} {no : Bool} {vt tb nm : ByteArray} {pa ps : Option Addr} {ca cs : Nat} {args : List Ex} {sub : List Qu} : (Ex.mk k op no vk vi vt tb nm pa ca args ps cs sub).vt = vt := rfl
theorem Ex.mk_tb {k op vk vi : Int} {no : Bool} {vt tb nm : ByteArray} {pa ps : Option Addr} {ca cs : Nat} {args : List Ex} {sub : List Qu} : (Ex.mk k op no vk vi vt tb nm pa ca args ps cs sub).tb = tb := rfl
theorem Ex.mk_nm {k op vk vi : Int} {no : Bool} {vt tb nm : ByteArray} {pa ps : Option Addr} {ca cs : Nat} {args : List Ex} {sub : List Qu} : (Ex.mk k op no vk vi vt tb nm pa ca args ps cs sub).nm = nm := rfl
theorem Ex.mk_pa {k op vk vi : Int} {no : Bool} {vt tb nm : ByteArray} {pa ps : Option Addr} {ca cs : Nat} {args : List Ex} {sub : List Qu} : (Ex.mk k op no vk vi vt tb nm pa ca args ps cs sub).pa = pa := rfl
theorem Ex.mk_ca {k op vk vi : Int} {no : Bool} {vt tb nm : ByteArray} {pa ps : Option Addr} {ca cs : Nat} {args : List Ex} {sub : List Qu} : (Ex.mk k op no vk vi vt tb nm pa ca args ps cs sub).ca = ca := rfl
theorem Ex.mk_args {k op vk vi : Int} {no : Bool} {vt tb nm : ByteArray} {pa ps : Option Addr} {ca cs : Nat} {args : List Ex} {sub : List Qu} : (Ex.mk k op no vk vi vt tb nm pa ca args ps cs sub).args = args := rfl
theorem Ex.mk_ps {k op vk vi : Int} {no : Bool} {vt tb nm : ByteArray} {pa ps : Option Addr} {ca cs : Nat} {args : List Ex} {sub : List Qu} : (Ex.mk k op no vk vi vt tb nm pa ca args ps cs sub).ps = ps := rfl
theorem Ex.mk_cs {k op vk vi : Int} {no : Bool} {vt tb nm : ByteArray} {pa ps : Option Addr} {ca cs : Nat} {args : List Ex} {sub : List Qu} : (Ex.mk k op no vk vi vt tb nm pa ca args ps cs sub).cs = cs := rfl
theorem Ex.mk_sub {k op vk vi : Int} {no : Bool} {vt tb nm : ByteArray} {pa ps : Option Addr} {ca cs : Nat} {args : List Ex} {sub : List Qu} : (Ex.mk k op no vk vi vt tb nm pa ca args ps cs sub).sub = sub := rfl
theorem field_bnd (a b c d : Int) (w : World) : (Instr.field 136 (.agg #[.int .i64 a, .int .i64 b, .int .i64 c, .int .i64 d]) 0).run Tryz.prog w = .ok (.int .i64 a) w := by
  have hi := info_parts (show (Tryz.prog.info? 3).map (fun i => (i.zero, i.size, i.bytes)) = some (some (.int .i64 0), 1, 8) by kernel_rfl)
  obtain ⟨i0, hi, hz0, hz1, hz2⟩ := hi
  simp only [Instr.field, Sem.run_bind, run_underlying Tryz.underlying136, Result.andThen]
  go_simp
  simp [asAgg, Result.andThen]
set_option maxHeartbeats 1000000 in
theorem prec_any (e : Ex) (w : World) (hE : Env ls w) (hm : 8 ∈ ls) :
    Calls Tryz.prog 86 #[exV e] w fun r w' => r = .returned (.int .i64 (prec e.k e.op)) ∧ Below w.heap.size w w' := by
  obtain ⟨k, op, no, vk, vi, vt, tb, nm, pa, ca, args, ps, cs, sub⟩ := e
  show Calls _ _ #[.agg #[.int .i64 k, .int .i64 op, .bool no, .int .i64 vk, .int .i64 vi, .string vt, .string tb, .string nm, .slice pa args.length ca, .slice ps sub.length cs]] w fun r w' => r = .returned (.int .i64 (prec k op)) ∧ Below w.heap.size w w'
  have HE := Lib.hid hE
  clear hE
  go_enter Tryz.func86, Tryz.ntmps86
  go_wp2_with fail
  refine (binding_any k op vk vi no vt tb nm pa ps _ _ _ _ _ (HE.out.alloc _) hm).mono ?_
  rintro e w' ⟨rfl, hb⟩
  have HB := Lib.hid (Below.of_alloc hb)
  clear hb
  have hf := field_bnd (prec k op) (plA k op) (plB k op) (plC k)
  go_wp2
  go_ret
  exact ⟨rfl, HB.out⟩
end Go.Proofs.YtlpaphgmdcpmaaaGreatDoor
/-
  Sets of bits of package syntax: set.
-/
namespace Go.Proofs.YtlpaphgmdcpmaaaGreatDoor
set_option maxRecDepth 100000
open Go.RowKit
variable {ls : List Nat}

def bitsN (f : Nat → Bool) : Nat → Int
  | 0 => 0
  | n + 1 => if f n then bits .or .i64 (bitsN f n) (wrap64 (2 ^ n)) else bitsN f n
set_option maxHeartbeats 1000000 in
theorem set_any (p : Option Addr) (n cap : Nat) (f : Nat → Bool) (w : World) (hn : n ≤ 60) (h : ∀ i, i < n → ∃ c o : Nat, p = some ⟨c, o, none⟩ ∧ c < w.heap.size ∧ w.cell? ⟨c, o + i, none⟩ = some (.bool (f i))) :
    Calls Tryz.prog 83 #[.slice p n cap] w fun e w' => e = .returned (.int .i64 (bitsN f n)) ∧ w = w' := by
  have H := Lib.hid h
  clear h
  go_enter Tryz.func83, Tryz.ntmps83
  go_wp2_with fail
  go_loopw [3, 8] (fun r i v => ∃ k : Nat, k ≤ n ∧ i = .int .i64 k ∧ r = .int .i64 (bitsN f k) ∧ w = v) (fun _ i _ => n - (intOf i).toNat)
  case atStart => exact ⟨0, Nat.zero_le _, rfl, rfl, rfl⟩
  case round =>
    obtain ⟨k, hk, rfl, rfl, rfl⟩ := hrel
    by_cases hlt : k < n
    · have hlt' : decide ((k : Int) < n) = true := decide_eq_true (by omega)
      obtain ⟨c, o, rfl, hc, hcl⟩ := H.out k hlt
      cases hf : f k
      · rw [hf] at hcl
        have HF := Lib.hid hf
        clear hf
        go_wp2
        go_roundw
        case rel => exact ⟨k + 1, by omega, by go_num, by show _ = Value.int .i64 (if f k then _ else _); rw [HF.out]; rfl, trivial⟩
        case measure => simp [intOf]; omega
      · rw [hf] at hcl
        have HF := Lib.hid hf
        clear hf
        go_wp2
        go_roundw
        case rel => exact ⟨k + 1, by omega, by go_num, by show _ = Value.int .i64 (if f k then _ else _); rw [HF.out]; rfl, trivial⟩
        case measure => simp [intOf]; omega
    · have hlt' : decide ((k : Int) < n) = false := decide_eq_false (by omega)
      obtain rfl : k = n := by omega
      go_wp2
      go_ret
      exact ⟨rfl, rfl⟩
def f7 (b0 b1 b2 b3 b4 b5 b6 : Bool) (i : Nat) : Bool := [b0, b1, b2, b3, b4, b5, b6].getD i false
def bits7 (b0 b1 b2 b3 b4 b5 b6 : Bool) : Int := bitsN (f7 b0 b1 b2 b3 b4 b5 b6) 7
/-- Are all filled fields among those that a kind uses? -/
def usesB (k : Nat) (b0 b1 b2 b3 b4 b5 b6 : Bool) : Bool :=
  (!b0 || k == 5) && (!b1 || k == 6) && (!b2 || k == 1) && (!b3 || k == 2) && (!b4 || k == 2) && (!b5 || (3 ≤ k && k ≤ 7)) && (!b6 || 8 ≤ k)
theorem uses_all : ∀ (b0 b1 b2 b3 b4 b5 b6 : Bool) (k : Fin 12), (bits .andNot .i64 (bits7 b0 b1 b2 b3 b4 b5 b6) (useL.getD (k.val + 1) 0) == 0) = usesB (k.val + 1) b0 b1 b2 b3 b4 b5 b6 := by decide +kernel
end Go.Proofs.YtlpaphgmdcpmaaaGreatDoor
/-
  A drawn region whose operations make memory: each operation is shown once, from the facts of those that it waits for; no orders are told apart.
-/
namespace Go.Proofs.YtlpaphgmdcpmaaaGreatDoor
set_option maxRecDepth 100000
open Go.RowKit

def slotF (a : Act) (s : Nat) : Value := a.tmps.getD s undef
/-- Does operation i wait for operation k? -/
def reach (ops : Array Oper) : Nat → Nat → Nat → Bool
  | 0, _, _ => false
  | n + 1, i, k => match ops[i]? with
    | none => false
    | some o => o.after.any fun e => Region.binds .any e && (e.on == k || reach ops n e.on k)
/-- What has come up is closed. -/
def Shut (ops : Array Oper) (listed : Array Bool) : Prop := ∀ (j : Nat) (o : Oper), ops[j]? = some o → listed.getD j false = true → ∀ e ∈ o.after, Region.binds .any e = true → listed.getD e.on false = true
theorem reach_listed {ops : Array Oper} {listed : Array Bool} (hs : Shut ops listed) : ∀ (n i k : Nat) (o : Oper), ops[i]? = some o → (∀ e ∈ o.after, Region.binds .any e = true → listed.getD e.on false = true) → reach ops n i k = true → listed.getD k false = true := by
  intro n
  induction n with
  | zero => intro i k o _ _ h; cases h
  | succ n ih =>
    intro i k o ho hd h
    unfold reach at h
    rw [ho] at h
    simp only [Array.any_eq_true'] at h
    obtain ⟨e, he, h⟩ := h
    rw [Bool.and_eq_true, Bool.or_eq_true] at h
    have h1 := hd e he h.1
    rcases h.2 with h2 | h2
    · rw [← beq_iff_eq.1 h2]; exact h1
    · cases hoe : ops[e.on]? with
      | none => cases n with
        | zero => cases h2
        | succ n => unfold reach at h2; rw [hoe] at h2; cases h2
      | some o' => exact ih e.on k o' hoe (hs e.on o' hoe h1) h2
/-- What a region's plan must meet: no guards, each slot set once, and each fact is used where it stands. -/
def eachB (l : List Oper) (use sl : List (List Nat)) (live : List Bool) (st : Nat) : Bool :=
  let n := l.length
  let ops := l.toArray
  l.all (fun o => o.guard.isNone) &&
  (List.range n).all fun i =>
    (match l[i]? with | some o => o.after.all (fun e => !Region.binds .any e || decide (e.on < i)) | none => true) &&
    (use.getD i []).all (fun k => reach ops n i k && (live.getD k false || reach ops n st i || i == st)) &&
    (List.range n).all fun j => i == j || reach ops n j i || (match (l[i]?).bind (·.dst) with | some d => !(sl.getD j []).contains d | none => true)
theorem getD_out {listed : Array Bool} {i : Nat} (h : listed.size ≤ i) : listed.getD i false = false := by simp [h]
theorem listed_set {listed : Array Bool} {i j : Nat} (hi : i < listed.size) : (listed.setIfInBounds i true).getD j false = true ↔ i = j ∨ listed.getD j false = true := by
  by_cases h : i = j
  · subst h
    simp [hi]
  · simp [Array.getElem?_setIfInBounds_ne h, h]
theorem slot_put (a : Act) (d : Option Tmp) (v : Value) (s : Nat) (h : d ≠ some s) : slotF (a.put d v) s = slotF a s := by
  unfold slotF Act.put
  cases d with
  | none => rfl
  | some d =>
    have hne : d ≠ s := fun e => h (by rw [e])
    simp [Array.getElem?_setIfInBounds_ne hne]
theorem size_put (a : Act) (d : Option Tmp) (v : Value) : (a.put d v).tmps.size = a.tmps.size := by
  unfold Act.put
  cases d <;> simp
theorem defers_put (a : Act) (d : Option Tmp) (v : Value) : (a.put d v).defers = a.defers := by
  unfold Act.put
  cases d <;> rfl
theorem slot_same (a : Act) (d : Tmp) (v : Value) (h : d < a.tmps.size) : slotF (a.put (some d) v) d = v := by
  unfold slotF Act.put
  simp [h]
/-- The frame behind the region. -/
def putAll (l : List Oper) (f : Nat → Value) (a : Act) : Act := l.foldl (fun a o => match o.dst with | some d => a.put (some d) (f d) | none => a) a
theorem putAll_size (l : List Oper) (f : Nat → Value) (a : Act) : (putAll l f a).tmps.size = a.tmps.size ∧ (putAll l f a).defers = a.defers := by
  induction l generalizing a with
  | nil => exact ⟨rfl, rfl⟩
  | cons o l ih =>
    unfold putAll
    rw [List.foldl_cons]
    have := ih (match o.dst with | some d => a.put (some d) (f d) | none => a)
    unfold putAll at this
    refine ⟨this.1.trans ?_, this.2.trans ?_⟩
    · cases o.dst with
      | none => rfl
      | some d => exact size_put _ _ _
    · cases o.dst with
      | none => rfl
      | some d => exact defers_put _ _ _
theorem putAll_slot (l : List Oper) (f : Nat → Value) (a : Act) (s : Nat) (hs : s < a.tmps.size) : slotF (putAll l f a) s = if (∃ o ∈ l, o.dst = some s) then f s else slotF a s := by
  induction l generalizing a with
  | nil => rw [if_neg (by simp)]; rfl
  | cons o l ih =>
    have e : putAll (o :: l) f a = putAll l f (match o.dst with | some d => a.put (some d) (f d) | none => a) := rfl
    have hz : s < (match o.dst with | some d => a.put (some d) (f d) | none => a).tmps.size := by
      cases o.dst with
      | none => exact hs
      | some d => simp only []; rw [size_put]; exact hs
    rw [e, ih _ hz]
    by_cases h1 : ∃ o ∈ l, o.dst = some s
    · obtain ⟨o', h2, h3⟩ := h1
      rw [if_pos ⟨o', h2, h3⟩, if_pos ⟨o', List.mem_cons_of_mem _ h2, h3⟩]
    · rw [if_neg h1]
      by_cases h2 : o.dst = some s
      · rw [if_pos ⟨o, List.mem_cons_self, h2⟩, h2]
        exact slot_same _ _ _ hs
      · rw [if_neg]
        · cases ho : o.dst with
          | none => rfl
          | some d => simp only []; exact slot_put _ _ _ _ (by rw [← ho]; exact h2)
        · rintro ⟨o', h3, h4⟩
          rcases List.mem_cons.1 h3 with rfl | h3
          · exact h2 h4
          · exact h1 ⟨o', h3, h4⟩
theorem act_eq {a b : Act} (h1 : a.tmps.size = b.tmps.size) (h2 : a.defers = b.defers) (h3 : ∀ s, s < a.tmps.size → slotF a s = slotF b s) : a = b := by
  obtain ⟨ta, da⟩ := a
  obtain ⟨tb, db⟩ := b
  simp only at h1 h2 h3
  subst h2
  congr 1
  apply Array.ext h1
  intro i hi hj
  have := h3 i hi
  unfold slotF at this
  simpa [hi, hj] using this

section
variable {P : Program} {l : List Oper} {Q : Exit → Act → World → Prop} {a0 : Act} {w0 : World} (use sl : List (List Nat)) (live : List Bool) (st : Nat) (B : Nat) (J : World → Prop) (Φ : Nat → (Nat → Value) → Nat → Nat → World → Prop)
/-- What is known of a state in the midst of the region. -/
structure EachAt (l : List Oper) (a0 : Act) (w0 : World) (live : List Bool) (st : Nat) (B : Nat) (J : World → Prop) (Φ : Nat → (Nat → Value) → Nat → Nat → World → Prop) (listed : Array Bool) (lo hi : Nat → Nat) (a : Act) (w : World) : Prop where
  size : listed.size = l.length
  shut : Shut l.toArray listed
  tmps : a.tmps.size = a0.tmps.size
  defs : a.defers = a0.defers
  old : ∀ s, (∀ o ∈ l, o.dst ≠ some s) → slotF a s = slotF a0 s
  low : Below B w0 w
  grow : w0.heap.size ≤ w.heap.size
  inv : listed.getD st false = false → J w
  seg : ∀ i, listed.getD i false = true → lo i ≤ hi i ∧ hi i ≤ w.heap.size ∧ w0.heap.size ≤ lo i
  apart : ∀ i j, listed.getD i false = true → listed.getD j false = true → i ≠ j → hi i ≤ lo j ∨ hi j ≤ lo i
  fact : ∀ i, listed.getD i false = true → (live.getD i false = true ∨ listed.getD st false = false) → Φ i (slotF a) (lo i) (hi i) w
theorem wpAny_each {listed : Array Bool} {a : Act} {w : World} {lo hi : Nat → Nat} (hB : eachB l use sl live st = true) (hBw : B ≤ w0.heap.size) (hJ : ∀ w w', J w → Below w.heap.size w w' → J w')
    (hstab : ∀ j f g x y w w', (∀ s ∈ sl.getD j [], g s = f s) → Below w.heap.size w w' → Φ j f x y w → Φ j g x y w')
    (hstep : ∀ i o, l[i]? = some o → i ≠ st → ∀ a w (lo hi : Nat → Nat), a.tmps.size = a0.tmps.size → (∀ s, (∀ o ∈ l, o.dst ≠ some s) → slotF a s = slotF a0 s) → Below B w0 w → w0.heap.size ≤ w.heap.size → (reach l.toArray l.length st i = true ∨ l.length ≤ st → J w) → (∀ k ∈ use.getD i [], Φ k (slotF a) (lo k) (hi k) w) →
      Oper.wp P o a w (fun a' w' => ∃ v, a' = a.put o.dst v ∧ Below w.heap.size w w' ∧ Φ i (slotF a') w.heap.size w'.heap.size w') Q)
    (hst : ∀ o, l[st]? = some o → ∀ a w (lo hi : Nat → Nat) (L : Nat → Prop), a.tmps.size = a0.tmps.size → (∀ s, (∀ o ∈ l, o.dst ≠ some s) → slotF a s = slotF a0 s) → Below B w0 w → w0.heap.size ≤ w.heap.size → J w → (∀ k ∈ use.getD st [], Φ k (slotF a) (lo k) (hi k) w) → (∀ k ∈ use.getD st [], L k) → (∀ i, L i → lo i ≤ hi i ∧ hi i ≤ w.heap.size ∧ w0.heap.size ≤ lo i) → (∀ i j, L i → L j → i ≠ j → hi i ≤ lo j ∨ hi j ≤ lo i) →
      Oper.wp P o a w (fun a' w' => ∃ v, a' = a.put o.dst v ∧ w.heap.size ≤ w'.heap.size ∧ Below B w0 w' ∧ Φ st (slotF a') w.heap.size w'.heap.size w' ∧ ∀ j, L j → j ≠ st → live.getD j false = true → (∀ s ∈ sl.getD j [], slotF a' s = slotF a s) → Φ j (slotF a) (lo j) (hi j) w → Φ j (slotF a') (lo j) (hi j) w') Q)
    (hend : ∀ (f : Nat → Value) (lo hi : Nat → Nat) w, Below B w0 w → (l.length ≤ st → J w) → (∀ i, i < l.length → (live.getD i false = true ∨ l.length ≤ st) → Φ i f (lo i) (hi i) w) → (∀ i j, i < l.length → j < l.length → i ≠ j → hi i ≤ lo j ∨ hi j ≤ lo i) → (∀ i, i < l.length → lo i ≤ hi i ∧ hi i ≤ w.heap.size ∧ w0.heap.size ≤ lo i) → Q .normal (putAll l f a0) w) :
    ∀ (fuel : Nat), (listed.toList.count false ≤ fuel) → EachAt l a0 w0 live st B J Φ listed lo hi a w → wpAny P .any l.toArray Q fuel listed a w := by
  intro fuel
  unfold eachB at hB
  simp only [Bool.and_eq_true, List.all_eq_true, List.mem_range, Bool.or_eq_true] at hB
  obtain ⟨hg, hB⟩ := hB
  have hdone : ∀ (listed : Array Bool) (a : Act) (w : World) (lo hi : Nat → Nat), EachAt l a0 w0 live st B J Φ listed lo hi a w → (∀ i, i < l.length → listed.getD i false = true) → Q .normal a w := by
    intro listed a w lo hi h hall
    have he : a = putAll l (slotF a) a0 := by
      have hz := putAll_size l (slotF a) a0
      refine act_eq (h.tmps.trans hz.1.symm) (h.defs.trans hz.2.symm) fun s hs => ?_
      rw [putAll_slot _ _ _ _ (by rw [← h.tmps]; exact hs)]
      split
      · rfl
      · rename_i hno
        exact h.old s fun o ho hd => hno ⟨o, ho, hd⟩
    rw [he]
    refine hend (slotF a) lo hi w h.low (fun hl => h.inv (getD_out (by rw [h.size]; exact hl))) (fun i hi' hl => h.fact i (hall i hi') ?_) (fun i j h1 h2 => h.apart i j (hall i h1) (hall j h2)) (fun i h1 => h.seg i (hall i h1))
    rcases hl with hl | hl
    · exact .inl hl
    · refine .inr ?_
      have : listed.size ≤ st := by rw [h.size]; exact hl
      simp [this]
  have hmem : ∀ (listed : Array Bool), listed.size = l.length → ∀ i, i < l.length → listed.getD i true = listed.getD i false := by
    intro listed hz i hi
    simp [show i < listed.size by omega]
  have hready : ∀ (listed : Array Bool), listed.size = l.length → Region.ready .any l.toArray listed = [] → ∀ i, i < l.length → listed.getD i false = true := by
    intro listed hz hr i
    induction i using Nat.strongRecOn with
    | ind i ih =>
      intro hi
      cases hc : listed.getD i false with
      | true => rfl
      | false =>
        have h1 : i ∈ Region.ready .any l.toArray listed := by
          refine mem_ready.2 ⟨by rw [hmem listed hz i hi]; exact hc, l[i], by simp [hi], fun e he hb => ?_⟩
          have h2 := (hB i hi).1.1
          rw [List.getElem?_eq_getElem hi] at h2
          simp only [Array.all_eq_true'] at h2
          have h3 := h2 e he
          rw [hb] at h3
          have h4 : e.on < i := by simpa using h3
          exact ih e.on h4 (by omega)
        rw [hr] at h1
        cases h1
  induction fuel generalizing listed a w lo hi with
  | zero =>
    intro hc h
    have hall : ∀ i, i < l.length → listed.getD i false = true := by
      intro i hi
      have h0 : listed.toList.count false = 0 := by omega
      have h1 := List.count_eq_zero.1 h0
      have hi' : i < listed.size := by rw [h.size]; exact hi
      cases hv : listed[i] with
      | true => simp [hi', hv]
      | false => exact absurd (by rw [← hv]; simp) h1
    refine ⟨?_, hdone listed a w lo hi h hall⟩
    rw [List.eq_nil_iff_forall_not_mem]
    intro i hi
    obtain ⟨h1, o, ho, -⟩ := mem_ready.1 hi
    have hlt : i < l.length := by
      have := (Array.getElem?_eq_some_iff.1 ho).1
      simpa using this
    rw [hmem listed h.size i hlt, hall i hlt] at h1
    cases h1
  | succ fuel ih =>
    intro hc h
    refine ⟨fun h0 => hdone listed a w lo hi h (hready listed h.size h0), fun i hi' => ?_⟩
    obtain ⟨hun, o, ho, hdeps⟩ := mem_ready.1 hi'
    have hlt : i < l.length := by
      have := (Array.getElem?_eq_some_iff.1 ho).1
      simpa using this
    have hlo : l[i]? = some o := by simpa using ho
    have hol : o ∈ l := List.mem_of_getElem? hlo
    have hun' : listed.getD i false = false := by rw [← hmem listed h.size i hlt]; exact hun
    have hwant : Region.wanted o (yielded l.toArray a.tmps) = true := by
      have := hg o hol
      unfold Region.wanted
      rw [Option.isNone_iff_eq_none.1 this]
    have hsl : i < listed.size := by rw [h.size]; exact hlt
    have hcnt : (listed.setIfInBounds i true).toList.count false ≤ fuel := by
      rw [Array.toList_setIfInBounds, List.count_set (by simpa using hsl)]
      have hv : listed.toList[i]'(by simpa using hsl) = false := by
        have : listed[i] = false := by simpa [hsl] using hun'
        simpa using this
      have h1 : 0 < listed.toList.count false := List.count_pos_iff.2 (by rw [← hv]; exact List.getElem_mem _)
      rw [hv]
      simp
      simp at hc h1
      omega
    have hst' : reach l.toArray l.length st i = true → listed.getD st false = false := by
      intro hr
      cases hs : listed.getD st false with
      | false => rfl
      | true =>
        cases hos : l.toArray[st]? with
        | none =>
          cases hn : l.length with
          | zero => omega
          | succ m => rw [hn] at hr; unfold reach at hr; rw [hos] at hr; cases hr
        | some os =>
          have := reach_listed h.shut l.length st i os hos (h.shut st os hos hs) hr
          rw [hun'] at this
          cases this
    have huse : ∀ k ∈ use.getD i [], listed.getD k false = true ∧ Φ k (slotF a) (lo k) (hi k) w := by
      intro k hk
      obtain ⟨h1, h2⟩ := (hB i hlt).1.2 k hk
      have h3 := reach_listed h.shut l.length i k o ho hdeps h1
      refine ⟨h3, h.fact k h3 ?_⟩
      rcases h2 with (h2 | h2) | h2
      · exact .inl h2
      · exact .inr (hst' h2)
      · rw [beq_iff_eq.1 h2] at hun'; exact .inr hun'
    have hsame : ∀ v j, j ≠ i → listed.getD j false = true → ∀ s ∈ sl.getD j [], slotF (a.put o.dst v) s = slotF a s := by
      intro v j hji hj s hs
      refine slot_put _ _ _ _ fun hd => ?_
      have hjl : j < l.length := by
        rw [← h.size]
        apply Classical.byContradiction
        intro hc'
        simp [hc'] at hj
      rcases (hB i hlt).2 j hjl with (h1 | h1) | h1
      · exact hji (beq_iff_eq.1 h1).symm
      · have hoj : l.toArray[j]? = some l[j] := by simp [hjl]
        have := reach_listed h.shut l.length j i l[j] hoj (h.shut j l[j] hoj hj) h1
        rw [hun'] at this
        cases this
      · rw [hlo] at h1
        simp only [Option.bind_some, hd] at h1
        simp at h1
        exact h1 hs
    have hshut : Shut l.toArray (listed.setIfInBounds i true) := by
      intro j oj hoj hj e he hb
      rw [listed_set hsl] at hj ⊢
      rcases hj with rfl | hj
      · rw [ho] at hoj
        cases hoj
        exact .inr (hdeps e he hb)
      · exact .inr (h.shut j oj hoj hj e he hb)
    have hend' : ∀ v w' (hs : w.heap.size ≤ w'.heap.size) (hlow : Below B w0 w') (hinv : (listed.setIfInBounds i true).getD st false = false → J w')
        (hf : ∀ j, j ≠ i → listed.getD j false = true → (live.getD j false = true ∨ (listed.setIfInBounds i true).getD st false = false) → Φ j (slotF (a.put o.dst v)) (lo j) (hi j) w')
        (hi0 : Φ i (slotF (a.put o.dst v)) w.heap.size w'.heap.size w'),
        wpAny P .any l.toArray Q fuel (listed.setIfInBounds i true) (a.put o.dst v) w' := by
      intro v w' hs hlow hinv hf hi0
      refine ih (lo := fun j => if j = i then w.heap.size else lo j) (hi := fun j => if j = i then w'.heap.size else hi j) hcnt ⟨by rw [Array.size_setIfInBounds]; exact h.size, hshut, (size_put _ _ _).trans h.tmps, (defers_put _ _ _).trans h.defs, fun s hs' => (slot_put _ _ _ _ (hs' o hol)).trans (h.old s hs'), hlow, Nat.le_trans h.grow hs, hinv, fun j hj => ?_, fun j k hj hk hjk => ?_, fun j hj hl => ?_⟩
      · by_cases hji : j = i
        · rw [if_pos hji, if_pos hji]
          exact ⟨hs, Nat.le_refl _, h.grow⟩
        · rw [if_neg hji, if_neg hji]
          rcases (listed_set hsl).1 hj with e | hj
          · exact absurd e.symm hji
          · have := h.seg j hj
            exact ⟨this.1, by omega, this.2.2⟩
      · by_cases hji : j = i
        · have hki : k ≠ i := fun e => hjk (hji.trans e.symm)
          rw [if_pos hji, if_pos hji, if_neg hki, if_neg hki]
          rcases (listed_set hsl).1 hk with e | hk
          · exact absurd e.symm hki
          · exact .inr (h.seg k hk).2.1
        · rw [if_neg hji, if_neg hji]
          have hj : listed.getD j false = true := by
            rcases (listed_set hsl).1 hj with e | hj
            · exact absurd e.symm hji
            · exact hj
          by_cases hki : k = i
          · rw [if_pos hki, if_pos hki]
            exact .inl (h.seg j hj).2.1
          · rw [if_neg hki, if_neg hki]
            rcases (listed_set hsl).1 hk with e | hk
            · exact absurd e.symm hki
            · exact h.apart j k hj hk hjk
      · by_cases hji : j = i
        · rw [if_pos hji, if_pos hji, hji]; exact hi0
        · rw [if_neg hji, if_neg hji]
          rcases (listed_set hsl).1 hj with e | hj
          · exact absurd e.symm hji
          · exact hf j hji hj hl
    have hnot : (listed.setIfInBounds i true).getD st false = false → listed.getD st false = false := by
      intro hl
      cases hs : listed.getD st false with
      | false => rfl
      | true => rw [(listed_set hsl).2 (.inr hs)] at hl; cases hl
    have hJi : reach l.toArray l.length st i = true ∨ l.length ≤ st → J w := by
      rintro (hr | hr)
      · exact h.inv (hst' hr)
      · refine h.inv ?_
        have : listed.size ≤ st := by rw [h.size]; exact hr
        simp [this]
    unfold wpOp
    simp only [ho, hwant, if_true]
    refine .inl ?_
    by_cases hie : i = st
    · subst hie
      refine Oper.wp_mono ?_ (hst o hlo a w lo hi (fun k => listed.getD k false = true) h.tmps h.old h.low h.grow (h.inv hun') (fun k hk => (huse k hk).2) (fun k hk => (huse k hk).1) h.seg h.apart)
      rintro a' w' ⟨v, rfl, hs, hlow, hi0, hkeep⟩
      refine hend' v w' hs hlow (fun hc' => by rw [(listed_set hsl).2 (.inl rfl)] at hc'; cases hc') (fun j hji hj hl => ?_) hi0
      rcases hl with hl | hl
      · exact hkeep j hj hji hl (hsame v j hji hj) (h.fact j hj (.inl hl))
      · have : (listed.setIfInBounds i true).getD i false = true := (listed_set hsl).2 (.inl rfl)
        rw [this] at hl
        cases hl
    · refine Oper.wp_mono ?_ (hstep i o hlo hie a w lo hi h.tmps h.old h.low h.grow (fun hr => hJi hr) fun k hk => (huse k hk).2)
      rintro a' w' ⟨v, rfl, hb, hi0⟩
      refine hend' v w' hb.size (h.low.trans (hb.mono (Nat.le_trans hBw h.grow))) (fun hc' => hJ _ _ (h.inv (hnot hc')) hb) (fun j hji hj hl => ?_) hi0
      have hl' : live.getD j false = true ∨ listed.getD st false = false := by
        rcases hl with hl | hl
        · exact .inl hl
        · refine .inr ?_
          cases hs : listed.getD st false with
          | false => rfl
          | true => rw [(listed_set hsl).2 (.inr hs)] at hl; cases hl
      exact hstab j _ _ _ _ _ _ (hsame v j hji hj) hb (h.fact j hj hl')
/-- A drawn region, operation by operation. W: the world behind the draw. -/
theorem wp_region_each {id : Nat} {w : World} (hm : P.follows .mixedOrders = true) (W : World) (hW : w.drew = W) (hB : eachB l use sl live st = true) (hBw : B ≤ W.heap.size) (hJ0 : J W) (hJ : ∀ w w', J w → Below w.heap.size w w' → J w')
    (hstab : ∀ j f g x y w w', (∀ s ∈ sl.getD j [], g s = f s) → Below w.heap.size w w' → Φ j f x y w → Φ j g x y w')
    (hstep : ∀ i o, l[i]? = some o → i ≠ st → ∀ a w (lo hi : Nat → Nat), a.tmps.size = a0.tmps.size → (∀ s, (∀ o ∈ l, o.dst ≠ some s) → slotF a s = slotF a0 s) → Below B W w → W.heap.size ≤ w.heap.size → (reach l.toArray l.length st i = true ∨ l.length ≤ st → J w) → (∀ k ∈ use.getD i [], Φ k (slotF a) (lo k) (hi k) w) →
      Oper.wp P o a w (fun a' w' => ∃ v, a' = a.put o.dst v ∧ Below w.heap.size w w' ∧ Φ i (slotF a') w.heap.size w'.heap.size w') Q)
    (hst : ∀ o, l[st]? = some o → ∀ a w (lo hi : Nat → Nat) (L : Nat → Prop), a.tmps.size = a0.tmps.size → (∀ s, (∀ o ∈ l, o.dst ≠ some s) → slotF a s = slotF a0 s) → Below B W w → W.heap.size ≤ w.heap.size → J w → (∀ k ∈ use.getD st [], Φ k (slotF a) (lo k) (hi k) w) → (∀ k ∈ use.getD st [], L k) → (∀ i, L i → lo i ≤ hi i ∧ hi i ≤ w.heap.size ∧ W.heap.size ≤ lo i) → (∀ i j, L i → L j → i ≠ j → hi i ≤ lo j ∨ hi j ≤ lo i) →
      Oper.wp P o a w (fun a' w' => ∃ v, a' = a.put o.dst v ∧ w.heap.size ≤ w'.heap.size ∧ Below B W w' ∧ Φ st (slotF a') w.heap.size w'.heap.size w' ∧ ∀ j, L j → j ≠ st → live.getD j false = true → (∀ s ∈ sl.getD j [], slotF a' s = slotF a s) → Φ j (slotF a) (lo j) (hi j) w → Φ j (slotF a') (lo j) (hi j) w') Q)
    (hend : ∀ (f : Nat → Value) (lo hi : Nat → Nat) w, Below B W w → (l.length ≤ st → J w) → (∀ i, i < l.length → (live.getD i false = true ∨ l.length ≤ st) → Φ i f (lo i) (hi i) w) → (∀ i j, i < l.length → j < l.length → i ≠ j → hi i ≤ lo j ∨ hi j ≤ lo i) → (∀ i, i < l.length → lo i ≤ hi i ∧ hi i ≤ w.heap.size ∧ W.heap.size ≤ lo i) → Q .normal (putAll l f a0) w) :
    (Code.region id l.toArray true).wp P Q a0 w := by
  subst hW
  have hno : ∀ i, (Array.replicate l.length false).getD i false = true → False := by
    intro i h
    by_cases hi : i < l.length
    · simp [hi] at h
    · simp [hi] at h
  refine wp_region_any hm (wpAny_each (w0 := w.drew) use sl live st B J Φ hB hBw hJ hstab hstep hst hend _ (by simp) (lo := fun _ => 0) (hi := fun _ => 0) ⟨by simp, fun j o hj h => ?_, rfl, rfl, fun s _ => rfl, Below.refl _ _, Nat.le_refl _, fun _ => hJ0, fun i h => ?_, fun i j h => ?_, fun i h => ?_⟩)
  all_goals
    simp only [List.size_toArray] at h
    exact (hno _ h).elim
end
/-! ### Operations over a function of slots -/
def evF (f : Nat → Value) : Operand → Value
  | .tmp t => f t
  | .const v => v
  | .global g => .pointer (some ⟨g, 0, none⟩)
  | .func k => .func (.func k) #[] #[]
theorem evF_eval (a : Act) : a.eval = evF (slotF a) := by
  funext o
  cases o <;> rfl
def upF (f : Nat → Value) (d : Option Tmp) (v : Value) : Nat → Value := match d with | some d => fun s => if s = d then v else f s | none => f
theorem upF_put (a : Act) (d : Option Tmp) (v : Value) (h : ∀ x, d = some x → x < a.tmps.size) : slotF (a.put d v) = upF (slotF a) d v := by
  funext s
  cases d with
  | none => rfl
  | some d =>
    show _ = if s = d then v else slotF a s
    by_cases hs : s = d
    · rw [if_pos hs, hs]; exact slot_same _ _ _ (h d rfl)
    · rw [if_neg hs]; exact slot_put _ _ _ _ (fun e => hs (Option.some.inj e).symm)
/-- What an operation gives. -/
def gives (P : Program) (R : Value → World → Prop) : Result Next → Prop
  | .ok (.value v) w' => R v w'
  | .ok .skip w' => R undef w'
  | .ok (.enter fn args) w' => Calls P fn args w' fun e w'' => ∃ v, e = .returned v ∧ R v w''
  | _ => False
theorem wp_of_gives {P : Program} {o : Oper} {a : Act} {w : World} {R : Value → World → Prop} {Q : Exit → Act → World → Prop} (h : gives P R ((execOp (evF (slotF a)) o).run P w)) :
    Oper.wp P o a w (fun a' w' => ∃ v, a' = a.put o.dst v ∧ R v w') Q := by
  unfold Oper.wp
  rw [evF_eval]
  generalize (execOp (evF (slotF a)) o).run P w = r at *
  cases r with
  | ok n w' =>
    cases n <;> simp only [gives] at h <;> simp only [Oper.upon]
    case value v => exact ⟨v, rfl, h⟩
    case skip => exact ⟨undef, rfl, h⟩
    case enter fn args => exact h.mono fun e w'' ⟨v, he, hr⟩ => by subst he; exact ⟨v, rfl, hr⟩
  | halt x w' => simp only [gives] at h
theorem gives_mono {P : Program} {R R' : Value → World → Prop} (hR : ∀ v w, R v w → R' v w) : ∀ {r : Result Next}, gives P R r → gives P R' r := by
  intro r h
  cases r with
  | ok n w' =>
    cases n <;> simp only [gives] at h ⊢
    case value v => exact hR _ _ h
    case skip => exact hR _ _ h
    case enter fn args => exact h.mono fun e w'' ⟨v, he, hr⟩ => ⟨v, he, hR _ _ hr⟩
  | halt x w' => simp only [gives] at h
theorem gives_K {P : Program} {R : Value → World → Prop} {r : Result Next} (h : ∀ K : Value → World → Prop, (∀ v w, R v w → K v w) → gives P K r) : gives P R r := h R fun _ _ h => h
theorem gives_value {P : Program} {K : Value → World → Prop} {v : Value} {w : World} (h : K v w) : gives P K (.ok (.value v) w) := h
theorem gives_skip {P : Program} {K : Value → World → Prop} {w : World} (h : K undef w) : gives P K (.ok .skip w) := h
theorem gives_enter {P : Program} {K : Value → World → Prop} {fn : FuncId} {args : Array Value} {w : World} (h : Calls P fn args w fun e w'' => ∃ v, e = .returned v ∧ K v w'') : gives P K (.ok (.enter fn args) w) := h
/-- The operands of the region's operations. -/
theorem evF_all (f : Nat → Value) : (∀ t, evF f (.tmp t) = f t) ∧ (∀ v, evF f (.const v) = v) ∧ (∀ k, evF f (.func k) = .func (.func k) #[] #[]) := ⟨fun _ => rfl, fun _ => rfl, fun _ => rfl⟩
section
variable {P : Program} {l : List Oper} {Q : Exit → Act → World → Prop} {a0 : Act} (use sl : List (List Nat)) (live : List Bool) (st : Nat) (B : Nat) (J : World → Prop) (Φ : Nat → (Nat → Value) → Nat → Nat → World → Prop)
/-- A drawn region, operation by operation, over a function of slots. -/
theorem wp_region_slots {id : Nat} {w : World} (hm : P.follows .mixedOrders = true) (W : World) (hW : w.drew = W) (hB : eachB l use sl live st = true) (hD : (l.all fun o => match o.dst with | some d => decide (d < a0.tmps.size) | none => true) = true) (hBw : B ≤ W.heap.size) (hJ0 : J W) (hJ : ∀ w w', J w → Below w.heap.size w w' → J w')
    (hstab : ∀ j f g x y w w', (∀ s ∈ sl.getD j [], g s = f s) → Below w.heap.size w w' → Φ j f x y w → Φ j g x y w')
    (hstep : ∀ i o, l[i]? = some o → i ≠ st → ∀ (f : Nat → Value) w (lo hi : Nat → Nat), (∀ s, (l.all fun o => o.dst != some s) = true → f s = slotF a0 s) → Below B W w → W.heap.size ≤ w.heap.size → (reach l.toArray l.length st i = true ∨ l.length ≤ st → J w) → (∀ k ∈ use.getD i [], Φ k f (lo k) (hi k) w) →
      gives P (fun v w' => Below w.heap.size w w' ∧ Φ i (upF f o.dst v) w.heap.size w'.heap.size w') ((execOp (evF f) o).run P w))
    (hst : ∀ o, l[st]? = some o → ∀ (f : Nat → Value) w (lo hi : Nat → Nat) (L : Nat → Prop), (∀ s, (l.all fun o => o.dst != some s) = true → f s = slotF a0 s) → Below B W w → W.heap.size ≤ w.heap.size → J w → (∀ k ∈ use.getD st [], Φ k f (lo k) (hi k) w) → (∀ k ∈ use.getD st [], L k) → (∀ i, L i → lo i ≤ hi i ∧ hi i ≤ w.heap.size ∧ W.heap.size ≤ lo i) → (∀ i j, L i → L j → i ≠ j → hi i ≤ lo j ∨ hi j ≤ lo i) →
      gives P (fun v w' => w.heap.size ≤ w'.heap.size ∧ Below B W w' ∧ Φ st (upF f o.dst v) w.heap.size w'.heap.size w' ∧ ∀ j, L j → j ≠ st → live.getD j false = true → (∀ s ∈ sl.getD j [], upF f o.dst v s = f s) → Φ j f (lo j) (hi j) w → Φ j (upF f o.dst v) (lo j) (hi j) w') ((execOp (evF f) o).run P w))
    (hend : ∀ (f : Nat → Value) (lo hi : Nat → Nat) w, Below B W w → (l.length ≤ st → J w) → (∀ i, i < l.length → (live.getD i false = true ∨ l.length ≤ st) → Φ i f (lo i) (hi i) w) → (∀ i j, i < l.length → j < l.length → i ≠ j → hi i ≤ lo j ∨ hi j ≤ lo i) → (∀ i, i < l.length → lo i ≤ hi i ∧ hi i ≤ w.heap.size ∧ W.heap.size ≤ lo i) → Q .normal (putAll l f a0) w) :
    (Code.region id l.toArray true).wp P Q a0 w := by
  rw [List.all_eq_true] at hD
  have hd : ∀ o ∈ l, ∀ (a : Act), a.tmps.size = a0.tmps.size → ∀ x, o.dst = some x → x < a.tmps.size := by
    intro o ho a ha x hx
    have := hD o ho
    rw [hx] at this
    rw [ha]
    exact of_decide_eq_true this
  have hold : ∀ a : Act, (∀ s, (∀ o ∈ l, o.dst ≠ some s) → slotF a s = slotF a0 s) → ∀ s, (l.all fun o => o.dst != some s) = true → slotF a s = slotF a0 s := by
    intro a h s hs
    rw [List.all_eq_true] at hs
    exact h s fun o ho => bne_iff_ne.1 (hs o ho)
  refine wp_region_each use sl live st B J Φ hm W hW hB hBw hJ0 hJ hstab ?_ ?_ hend
  · intro i o hi hne a w lo hi' hz ho hb hg hj hu
    refine Oper.wp_mono ?_ (wp_of_gives (Q := Q) (hstep i o hi hne (slotF a) w lo hi' (hold a ho) hb hg hj hu))
    rintro a' w' ⟨v, rfl, h2, h3⟩
    refine ⟨v, rfl, h2, ?_⟩
    rw [upF_put a o.dst v (hd o (List.mem_of_getElem? hi) a hz)]
    exact h3
  · intro o hi a w lo hi' L hz ho hb hg hj hu hl hseg hap
    refine Oper.wp_mono ?_ (wp_of_gives (Q := Q) (hst o hi (slotF a) w lo hi' L (hold a ho) hb hg hj hu hl hseg hap))
    rintro a' w' ⟨v, rfl, h2⟩
    refine ⟨v, rfl, ?_⟩
    rw [upF_put a o.dst v (hd o (List.mem_of_getElem? hi) a hz)]
    exact h2
end
end Go.Proofs.YtlpaphgmdcpmaaaGreatDoor
