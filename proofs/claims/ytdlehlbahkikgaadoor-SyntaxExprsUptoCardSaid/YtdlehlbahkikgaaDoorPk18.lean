/-
  Several texts in one.
-/
import Derived.Test.YtdlehlbahkikgaaDoorPk17
import Derived.Test.YtdlehlbahkikgaaDoorPk06
import Derived.Test.YtdlehlbahkikgaaDoorPk15
import Derived.Test.YtdlehlbahkikgaaDoorPk03
/-
  exprSpare of package syntax.
-/
namespace Go.Proofs.YtdlehlbahkikgaaDoor
set_option maxRecDepth 100000
open Go.RowKit
variable {ls : List Nat}

/-- Has an expression a kind that exists, and fills only fields that the kind uses? -/
def fitB (k op vk vi : Int) (no : Bool) (vt tb nm : ByteArray) (n n' : Nat) : Bool :=
  decide (1 ≤ k ∧ k ≤ 12) && usesB k.toNat (op != 0) no (!sameV vk vi vt 0 0 ⟨#[]⟩) (!tb.toList.isEmpty) (!nm.toList.isEmpty) (decide (0 < n)) (decide (0 < n'))
abbrev exO (k op vk vi : Int) (no : Bool) (vt tb nm : ByteArray) (p q : Option Addr) (n c n' c' : Nat) : Obj := .cells #[.int .i64 k, .int .i64 op, .bool no, .int .i64 vk, .int .i64 vi, .string vt, .string tb, .string nm, .slice p n c, .slice q n' c'] 30
set_option maxHeartbeats 2000000 in
theorem spare_c (k op vk vi : Int) (no : Bool) (vt tb nm : ByteArray) (p q : Option Addr) (n c n' c' : Nat) (w : World) (hE : Env ls w) (hu : 2 ∈ ls) :
    Calls Tryd.prog 29 #[.agg #[.int .i64 k, .int .i64 op, .bool no, .int .i64 vk, .int .i64 vi, .string vt, .string tb, .string nm, .slice p n c, .slice q n' c']] w fun e w' => e = .returned (.bool (!fitB k op vk vi no vt tb nm n n')) ∧ Below w.heap.size w w' := by
  have hb0 := below_alloc w (exO k op vk vi no vt tb nm p q n c n' c')
  have hl : w.heap.size < (w.alloc (exO k op vk vi no vt tb nm p q n c n' c')).heap.size := by simp
  have x0 : (w.alloc (exO k op vk vi no vt tb nm p q n c n' c')).cell? ⟨w.heap.size, 0, none⟩ = some (.int .i64 k) := by go_simp
  have x1 : (w.alloc (exO k op vk vi no vt tb nm p q n c n' c')).cell? ⟨w.heap.size, 1, none⟩ = some (.int .i64 op) := by go_simp
  have x2 : (w.alloc (exO k op vk vi no vt tb nm p q n c n' c')).cell? ⟨w.heap.size, 2, none⟩ = some (.bool no) := by go_simp
  have x3 : (w.alloc (exO k op vk vi no vt tb nm p q n c n' c')).cell? ⟨w.heap.size, 3, none⟩ = some (.int .i64 vk) := by go_simp
  have x4 : (w.alloc (exO k op vk vi no vt tb nm p q n c n' c')).cell? ⟨w.heap.size, 4, none⟩ = some (.int .i64 vi) := by go_simp
  have x5 : (w.alloc (exO k op vk vi no vt tb nm p q n c n' c')).cell? ⟨w.heap.size, 5, none⟩ = some (.string vt) := by go_simp
  have x6 : (w.alloc (exO k op vk vi no vt tb nm p q n c n' c')).cell? ⟨w.heap.size, 6, none⟩ = some (.string tb) := by go_simp
  have x7 : (w.alloc (exO k op vk vi no vt tb nm p q n c n' c')).cell? ⟨w.heap.size, 7, none⟩ = some (.string nm) := by go_simp
  have x8 : (w.alloc (exO k op vk vi no vt tb nm p q n c n' c')).cell? ⟨w.heap.size, 8, none⟩ = some (.slice p n c) := by go_simp
  have x9 : (w.alloc (exO k op vk vi no vt tb nm p q n c n' c')).cell? ⟨w.heap.size, 9, none⟩ = some (.slice q n' c') := by go_simp
  have HB0 := Lib.hid hb0
  have HE0 := Lib.hid (hE.alloc (exO k op vk vi no vt tb nm p q n c n' c'))
  clear hb0 hE
  have hF := Lib.hid (filled_c k op vk vi no vt tb nm p q n c n' c')
  rcases (show k < 1 ∨ 13 ≤ k ∨ (1 ≤ k ∧ k ≤ 12) by omega) with h | h | ⟨h1, h2⟩
  · have hv : Hid ((!fitB k op vk vi no vt tb nm n n') = true) := Lib.hid (by unfold fitB; rw [decide_eq_false (by omega)]; rfl)
    have d1 : decide (k < 1) = true := decide_eq_true h
    go_enter Tryd.func29, Tryd.ntmps29
    go_upto_region 1 with (fail)
    generalize w.alloc _ = W at *
    have l0 := lowW_cell (W := W) (by exact hl) x0
    refine wp_region_low (by kernel_rfl) (by kernel_rfl) ?_
    repeat (refine wq_step (fun K hK => ?_); go_simp; first | (refine hK _ ?_; clear hK K))
    refine wq_nil ?_
    rintro _ ⟨⟨d3, os3⟩, rfl⟩
    dsimp only
    have HB3 := Lib.hid (below_next HB0.out (lowW_low W d3 os3))
    clear l0
    generalize lowW W d3 os3 = W3 at HB3 ⊢
    go_wp2
    go_ret
    exact ⟨ret_bool hv.out.symm, HB3.out⟩
  · have hv : Hid ((!fitB k op vk vi no vt tb nm n n') = true) := Lib.hid (by unfold fitB; rw [decide_eq_false (by omega)]; rfl)
    have d1 : decide (k < 1) = false := decide_eq_false (by omega)
    have d2 : decide (13 ≤ k) = true := decide_eq_true h
    go_enter Tryd.func29, Tryd.ntmps29
    go_upto_region 1 with (fail)
    generalize w.alloc _ = W at *
    have l0 := lowW_cell (W := W) (by exact hl) x0
    refine wp_region_low (by kernel_rfl) (by kernel_rfl) ?_
    repeat (refine wq_step (fun K hK => ?_); go_simp; first | (refine hK _ ?_; clear hK K))
    refine wq_nil ?_
    rintro _ ⟨⟨d3, os3⟩, rfl⟩
    dsimp only
    have HB3 := Lib.hid (below_next HB0.out (lowW_low W d3 os3))
    clear l0
    generalize lowW W d3 os3 = W3 at HB3 ⊢
    go_wp2
    go_ret
    exact ⟨ret_bool hv.out.symm, HB3.out⟩
  · obtain ⟨j, rfl⟩ : ∃ j : Nat, k = j := ⟨k.toNat, by omega⟩
    have hj1 : 1 ≤ j := by omega
    have hj2 : j ≤ 12 := by omega
    have hj13 : (j : Int) < 13 := by omega
    have hua := uses_all (op != 0) no (!sameV vk vi vt 0 0 ⟨#[]⟩) (!tb.toList.isEmpty) (!nm.toList.isEmpty) (decide (0 < n)) (decide (0 < n')) ⟨j - 1, by omega⟩
    simp only [show j - 1 + 1 = j by omega] at hua
    have hv : Hid ((!fitB j op vk vi no vt tb nm n n') = (bits .andNot .i64 (bits7 (op != 0) no (!sameV vk vi vt 0 0 ⟨#[]⟩) (!tb.toList.isEmpty) (!nm.toList.isEmpty) (decide (0 < n)) (decide (0 < n'))) (useL.getD j 0) != 0)) := Lib.hid (by
      unfold fitB
      rw [decide_eq_true ⟨h1, h2⟩, Int.toNat_natCast, ← hua]; rfl)
    clear hua
    have hcu := (HE0.out.uses hu j (by omega))
    have hgl : 2 < (w.alloc (exO j op vk vi no vt tb nm p q n c n' c')).heap.size := Nat.lt_of_lt_of_le (show 2 < 4 by decide) HE0.out.size
    have d1 : decide ((j : Int) < 1) = false := decide_eq_false (by omega)
    have d2 : decide (13 ≤ (j : Int)) = false := decide_eq_false (by omega)
    go_enter Tryd.func29, Tryd.ntmps29
    go_upto_region 1 with (fail)
    generalize w.alloc _ = W at *
    generalize useL.getD j 0 = uj at *
    have l0 := lowW_cell (W := W) (by exact hl) x0
    have l1 := lowW_cell (W := W) (by exact hl) x1
    have l2 := lowW_cell (W := W) (by exact hl) x2
    have l3 := lowW_cell (W := W) (by exact hl) x3
    have l4 := lowW_cell (W := W) (by exact hl) x4
    have l5 := lowW_cell (W := W) (by exact hl) x5
    have l6 := lowW_cell (W := W) (by exact hl) x6
    have l7 := lowW_cell (W := W) (by exact hl) x7
    have l8 := lowW_cell (W := W) (by exact hl) x8
    have l9 := lowW_cell (W := W) (by exact hl) x9
    have lu := lowW_cell (W := W) (by exact hgl) hcu
    generalize bits7 (op != 0) no (!sameV vk vi vt 0 0 ⟨#[]⟩) (!tb.toList.isEmpty) (!nm.toList.isEmpty) (decide (0 < n)) (decide (0 < n')) = b7 at *
    refine wp_region_low (by kernel_rfl) (by kernel_rfl) ?_
    repeat (refine wq_step (fun K hK => ?_); go_simp; first | (refine hK _ ?_; clear hK K) | (apply Exists.intro; refine ⟨fun _ => ?_, hK _ ?_⟩; (go_at_call 49; exact Calls.low_of (hF.out _)); clear hK K))
    refine wq_nil ?_
    rintro _ ⟨⟨d3, os3⟩, rfl⟩
    dsimp only
    have HB3 := Lib.hid (below_next HB0.out (lowW_low W d3 os3))
    clear l0 l1 l2 l3 l4 l5 l6 l7 l8 l9 lu
    generalize lowW W d3 os3 = W3 at HB3 ⊢
    go_wp2
    go_ret
    exact ⟨ret_bool hv.out.symm, HB3.out⟩
end Go.Proofs.YtdlehlbahkikgaaDoor
/-
  What package syntax tests of an expression is what makes it well-formed, plain.
-/
namespace Go.Proofs.YtdlehlbahkikgaaDoor
set_option maxRecDepth 100000
open Go.RowKit
variable {ls : List Nat}

def fitE' (e : Ex) : Bool := fitB e.k e.op e.vk e.vi e.no e.vt e.tb e.nm e.args.length e.sub.length
/-- What ValidExpr tests of the parts, by the kind. -/
def partsB (V : Ex → Bool) (q : Qu) : Bool := srcB q.fr && (decide (q.wh.length ≤ 1) && q.wh.all V) && q.items.all V
def hasB (k : Int) (q : Qu) : Bool := if k = 8 then q.st && decide (q.items.length = 0) else if k = 9 then !q.st && decide (q.items.length = 0) else !q.st && decide (q.items.length = 1)
def kindV (V : Ex → Bool) (e : Ex) : Bool :=
  if e.k = 1 then validB e.vk e.vi e.vt && decide (0 ≤ e.vi)
  else if e.k = 2 then nameOK e.nm && qualB e.tb
  else if e.k = 3 ∨ e.k = 4 ∨ e.k = 6 then decide (e.args.length = 1) && e.args.all V
  else if e.k = 5 then decide (1 ≤ e.op ∧ e.op ≤ 13) && decide (e.args.length = 2) && e.args.all V
  else if e.k = 7 then decide (e.args.length = 3) && e.args.all V
  else decide (e.sub.length = 1) && hasB e.k (qAt e.sub 0) && partsB V (qAt e.sub 0)
theorem noVal_same (e : Ex) : noVal e = sameV e.vk e.vi e.vt 0 0 ⟨#[]⟩ := by
  unfold noVal sameV
  rw [Bool.eq_iff_iff]
  simp only [Bool.and_eq_true, decide_eq_true_eq, eqT_iff, and_assoc]
theorem empty_eqT (s : ByteArray) : s.toList.isEmpty = eqT s ⟨#[]⟩ := by
  unfold eqT
  rw [no_bytes]
  cases s.toList <;> rfl
theorem hasB_eq {k : Int} (h8 : 8 ≤ k) (h12 : k ≤ 12) (q : Qu) : hasB k q = ((q.st == decide (k = 8)) && decide (q.items.length = itemN k)) := by
  unfold hasB itemN
  by_cases h1 : k = 8
  · subst h1; cases q.st <;> simp
  · by_cases h2 : k = 9
    · subst h2; cases q.st <;> simp
    · rw [if_neg h1, if_neg h2, if_pos (by omega), decide_eq_false h1]; cases q.st <;> simp
theorem quB_parts {V : Ex → Bool} {k : Int} (h8 : 8 ≤ k) (h12 : k ≤ 12) (q : Qu) : quB V k q = (hasB k q && partsB V q) := by
  rw [hasB_eq h8 h12]
  unfold quB partsB
  generalize srcB q.fr = a
  generalize q.items.all V = b
  generalize q.wh.all V = c
  generalize (q.st == decide (k = 8)) = d
  generalize decide (q.items.length = itemN k) = e
  generalize decide (q.wh.length ≤ 1) = f
  revert a b c d e f
  decide
theorem all_one {α : Type} {p : α → Bool} {l : List α} {x : α} (h : l = [x]) : l.all p = p x := by rw [h]; simp
theorem not_ne (a : Int) : (!(a != 0)) = decide (a = 0) := by
  by_cases h : a = 0 <;> simp [h]
theorem not_pos (n : Nat) : (!decide (0 < n)) = decide (n = 0) := by
  by_cases h : n = 0
  · subst h; rfl
  · rw [decide_eq_true (by omega : 0 < n), decide_eq_false h]; rfl
theorem len_all {V : Ex → Bool} {k : Int} {l : List Qu} : (decide (l.length = 0) && l.all (quB V k)) = decide (l.length = 0) := by
  cases l <;> simp
theorem args_all {V : Ex → Bool} {l : List Ex} : (decide (l.length = 0) && l.all V) = decide (l.length = 0) := by
  cases l <;> simp
theorem sub_one {V : Ex → Bool} {k : Int} (h8 : 8 ≤ k) (h12 : k ≤ 12) {l : List Qu} : (decide (l.length = 1) && l.all (quB V k)) = (decide (l.length = 1) && hasB k (qAt l 0) && partsB V (qAt l 0)) := by
  match l with
  | [] => rfl
  | [q] => show (true && (quB V k q && true)) = (true && hasB k q && partsB V q); rw [quB_parts h8 h12]; simp
  | _ :: _ :: _ => simp
theorem bool6 : ∀ (l0 s0 o n p a x : Bool), (s0 && x) = s0 → (true && l0 && s0 && o && (!n || false) && (p && a && x)) = ((true && (o && !n && p && true && s0)) && (l0 && a)) := by decide
theorem vOf_kind {V : Ex → Bool} {e : Ex} : vOf V e = (fitE' e && kindV V e) := by
  by_cases hr : 1 ≤ e.k ∧ e.k ≤ 12
  · have hk : e.k = 1 ∨ e.k = 2 ∨ e.k = 3 ∨ e.k = 4 ∨ e.k = 5 ∨ e.k = 6 ∨ e.k = 7 ∨ e.k = 8 ∨ e.k = 9 ∨ e.k = 10 ∨ e.k = 11 ∨ e.k = 12 := by omega
    have hla := @args_all V e.args
    have hls := @len_all V e.k e.sub
    have hs1 := fun h8 h12 => @sub_one V e.k h8 h12 e.sub
    unfold vOf fitE' fitB usesB kindV plainB
    rw [← noVal_same, empty_eqT, empty_eqT, not_ne, not_pos, not_pos]
    generalize noVal e = nv at *
    generalize eqT e.tb ⟨#[]⟩ = et at *
    generalize eqT e.nm ⟨#[]⟩ = en at *
    generalize e.args.all V = aa at *
    generalize e.no = no at *
    generalize validB e.vk e.vi e.vt = vb at *
    generalize qualB e.tb = qb at *
    generalize nameOK e.nm = nb at *
    generalize decide (0 ≤ e.vi) = di at *
    generalize partsB V (qAt e.sub 0) = pb at *
    generalize e.args.length = na at *
    generalize e.sub.length = ns at *
    rcases hk with hk | hk | hk | hk | hk | hk | hk | hk | hk | hk | hk | hk
    all_goals
      rw [hk] at hls hs1 ⊢
      generalize hasB _ (qAt e.sub 0) = hb at *
      generalize e.sub.all (quB V _) = sa at *
      generalize e.op = op at *
      clear hk hr
      simp [argN, subN] at hls hs1 ⊢
      try grind
  · rw [show vOf V e = false from by unfold vOf; rw [decide_eq_false hr]; rfl, show fitE' e = false from by unfold fitE' fitB; rw [decide_eq_false hr]; rfl]
    rfl
end Go.Proofs.YtdlehlbahkikgaaDoor
/-
  Precedence, Least, Wrapped, plain, source of reference 11.
-/
namespace Go.Proofs.YtdlehlbahkikgaaDoor
set_option maxRecDepth 100000
open Go.RowKit
variable {ls : List Nat}

set_option maxHeartbeats 1000000 in
theorem rprec_o1 (vk vi : Int) (no : Bool) (vt tb nm : ByteArray) (p q : Option Addr) (n c n' c' : Nat) (w : World) :
    Calls Tryd.prog 25 #[.agg #[.int .i64 5, .int .i64 1, .bool no, .int .i64 vk, .int .i64 vi, .string vt, .string tb, .string nm, .slice p n c, .slice q n' c']] w fun r w' => r = .returned (.int .i64 1) ∧ Below w.heap.size w w' := by
  go_enter Tryd.func25, Tryd.ntmps25
  go_wp2
  go_ret
  exact ⟨rfl, below_alloc _ _⟩
set_option maxHeartbeats 1000000 in
theorem rprec_o2 (vk vi : Int) (no : Bool) (vt tb nm : ByteArray) (p q : Option Addr) (n c n' c' : Nat) (w : World) :
    Calls Tryd.prog 25 #[.agg #[.int .i64 5, .int .i64 2, .bool no, .int .i64 vk, .int .i64 vi, .string vt, .string tb, .string nm, .slice p n c, .slice q n' c']] w fun r w' => r = .returned (.int .i64 2) ∧ Below w.heap.size w w' := by
  go_enter Tryd.func25, Tryd.ntmps25
  go_wp2
  go_ret
  exact ⟨rfl, below_alloc _ _⟩
set_option maxHeartbeats 1000000 in
theorem rprec_o3 (vk vi : Int) (no : Bool) (vt tb nm : ByteArray) (p q : Option Addr) (n c n' c' : Nat) (w : World) :
    Calls Tryd.prog 25 #[.agg #[.int .i64 5, .int .i64 3, .bool no, .int .i64 vk, .int .i64 vi, .string vt, .string tb, .string nm, .slice p n c, .slice q n' c']] w fun r w' => r = .returned (.int .i64 4) ∧ Below w.heap.size w w' := by
  go_enter Tryd.func25, Tryd.ntmps25
  go_wp2
  go_ret
  exact ⟨rfl, below_alloc _ _⟩
set_option maxHeartbeats 1000000 in
theorem rprec_o4 (vk vi : Int) (no : Bool) (vt tb nm : ByteArray) (p q : Option Addr) (n c n' c' : Nat) (w : World) :
    Calls Tryd.prog 25 #[.agg #[.int .i64 5, .int .i64 4, .bool no, .int .i64 vk, .int .i64 vi, .string vt, .string tb, .string nm, .slice p n c, .slice q n' c']] w fun r w' => r = .returned (.int .i64 4) ∧ Below w.heap.size w w' := by
  go_enter Tryd.func25, Tryd.ntmps25
  go_wp2
  go_ret
  exact ⟨rfl, below_alloc _ _⟩
set_option maxHeartbeats 1000000 in
theorem rprec_o5 (vk vi : Int) (no : Bool) (vt tb nm : ByteArray) (p q : Option Addr) (n c n' c' : Nat) (w : World) :
    Calls Tryd.prog 25 #[.agg #[.int .i64 5, .int .i64 5, .bool no, .int .i64 vk, .int .i64 vi, .string vt, .string tb, .string nm, .slice p n c, .slice q n' c']] w fun r w' => r = .returned (.int .i64 4) ∧ Below w.heap.size w w' := by
  go_enter Tryd.func25, Tryd.ntmps25
  go_wp2
  go_ret
  exact ⟨rfl, below_alloc _ _⟩
set_option maxHeartbeats 1000000 in
theorem rprec_o6 (vk vi : Int) (no : Bool) (vt tb nm : ByteArray) (p q : Option Addr) (n c n' c' : Nat) (w : World) :
    Calls Tryd.prog 25 #[.agg #[.int .i64 5, .int .i64 6, .bool no, .int .i64 vk, .int .i64 vi, .string vt, .string tb, .string nm, .slice p n c, .slice q n' c']] w fun r w' => r = .returned (.int .i64 4) ∧ Below w.heap.size w w' := by
  go_enter Tryd.func25, Tryd.ntmps25
  go_wp2
  go_ret
  exact ⟨rfl, below_alloc _ _⟩
set_option maxHeartbeats 1000000 in
theorem rprec_o7 (vk vi : Int) (no : Bool) (vt tb nm : ByteArray) (p q : Option Addr) (n c n' c' : Nat) (w : World) :
    Calls Tryd.prog 25 #[.agg #[.int .i64 5, .int .i64 7, .bool no, .int .i64 vk, .int .i64 vi, .string vt, .string tb, .string nm, .slice p n c, .slice q n' c']] w fun r w' => r = .returned (.int .i64 4) ∧ Below w.heap.size w w' := by
  go_enter Tryd.func25, Tryd.ntmps25
  go_wp2
  go_ret
  exact ⟨rfl, below_alloc _ _⟩
set_option maxHeartbeats 1000000 in
theorem rprec_o8 (vk vi : Int) (no : Bool) (vt tb nm : ByteArray) (p q : Option Addr) (n c n' c' : Nat) (w : World) :
    Calls Tryd.prog 25 #[.agg #[.int .i64 5, .int .i64 8, .bool no, .int .i64 vk, .int .i64 vi, .string vt, .string tb, .string nm, .slice p n c, .slice q n' c']] w fun r w' => r = .returned (.int .i64 4) ∧ Below w.heap.size w w' := by
  go_enter Tryd.func25, Tryd.ntmps25
  go_wp2
  go_ret
  exact ⟨rfl, below_alloc _ _⟩
set_option maxHeartbeats 1000000 in
theorem rprec_o9 (vk vi : Int) (no : Bool) (vt tb nm : ByteArray) (p q : Option Addr) (n c n' c' : Nat) (w : World) :
    Calls Tryd.prog 25 #[.agg #[.int .i64 5, .int .i64 9, .bool no, .int .i64 vk, .int .i64 vi, .string vt, .string tb, .string nm, .slice p n c, .slice q n' c']] w fun r w' => r = .returned (.int .i64 5) ∧ Below w.heap.size w w' := by
  go_enter Tryd.func25, Tryd.ntmps25
  go_wp2
  go_ret
  exact ⟨rfl, below_alloc _ _⟩
set_option maxHeartbeats 1000000 in
theorem rprec_o10 (vk vi : Int) (no : Bool) (vt tb nm : ByteArray) (p q : Option Addr) (n c n' c' : Nat) (w : World) :
    Calls Tryd.prog 25 #[.agg #[.int .i64 5, .int .i64 10, .bool no, .int .i64 vk, .int .i64 vi, .string vt, .string tb, .string nm, .slice p n c, .slice q n' c']] w fun r w' => r = .returned (.int .i64 5) ∧ Below w.heap.size w w' := by
  go_enter Tryd.func25, Tryd.ntmps25
  go_wp2
  go_ret
  exact ⟨rfl, below_alloc _ _⟩
set_option maxHeartbeats 1000000 in
theorem rprec_o11 (vk vi : Int) (no : Bool) (vt tb nm : ByteArray) (p q : Option Addr) (n c n' c' : Nat) (w : World) :
    Calls Tryd.prog 25 #[.agg #[.int .i64 5, .int .i64 11, .bool no, .int .i64 vk, .int .i64 vi, .string vt, .string tb, .string nm, .slice p n c, .slice q n' c']] w fun r w' => r = .returned (.int .i64 6) ∧ Below w.heap.size w w' := by
  go_enter Tryd.func25, Tryd.ntmps25
  go_wp2
  go_ret
  exact ⟨rfl, below_alloc _ _⟩
set_option maxHeartbeats 1000000 in
theorem rprec_o12 (vk vi : Int) (no : Bool) (vt tb nm : ByteArray) (p q : Option Addr) (n c n' c' : Nat) (w : World) :
    Calls Tryd.prog 25 #[.agg #[.int .i64 5, .int .i64 12, .bool no, .int .i64 vk, .int .i64 vi, .string vt, .string tb, .string nm, .slice p n c, .slice q n' c']] w fun r w' => r = .returned (.int .i64 6) ∧ Below w.heap.size w w' := by
  go_enter Tryd.func25, Tryd.ntmps25
  go_wp2
  go_ret
  exact ⟨rfl, below_alloc _ _⟩
set_option maxHeartbeats 1000000 in
theorem rprec_o13 (vk vi : Int) (no : Bool) (vt tb nm : ByteArray) (p q : Option Addr) (n c n' c' : Nat) (w : World) :
    Calls Tryd.prog 25 #[.agg #[.int .i64 5, .int .i64 13, .bool no, .int .i64 vk, .int .i64 vi, .string vt, .string tb, .string nm, .slice p n c, .slice q n' c']] w fun r w' => r = .returned (.int .i64 6) ∧ Below w.heap.size w w' := by
  go_enter Tryd.func25, Tryd.ntmps25
  go_wp2
  go_ret
  exact ⟨rfl, below_alloc _ _⟩
set_option maxHeartbeats 1000000 in
theorem rprec_k3 (op : Int) (vk vi : Int) (no : Bool) (vt tb nm : ByteArray) (p q : Option Addr) (n c n' c' : Nat) (w : World) :
    Calls Tryd.prog 25 #[.agg #[.int .i64 3, .int .i64 op, .bool no, .int .i64 vk, .int .i64 vi, .string vt, .string tb, .string nm, .slice p n c, .slice q n' c']] w fun r w' => r = .returned (.int .i64 3) ∧ Below w.heap.size w w' := by
  go_enter Tryd.func25, Tryd.ntmps25
  go_wp2
  go_ret
  exact ⟨rfl, below_alloc _ _⟩
set_option maxHeartbeats 1000000 in
theorem rprec_k4 (op : Int) (vk vi : Int) (no : Bool) (vt tb nm : ByteArray) (p q : Option Addr) (n c n' c' : Nat) (w : World) :
    Calls Tryd.prog 25 #[.agg #[.int .i64 4, .int .i64 op, .bool no, .int .i64 vk, .int .i64 vi, .string vt, .string tb, .string nm, .slice p n c, .slice q n' c']] w fun r w' => r = .returned (.int .i64 7) ∧ Below w.heap.size w w' := by
  go_enter Tryd.func25, Tryd.ntmps25
  go_wp2
  go_ret
  exact ⟨rfl, below_alloc _ _⟩
set_option maxHeartbeats 1000000 in
theorem rprec_k6 (op : Int) (vk vi : Int) (no : Bool) (vt tb nm : ByteArray) (p q : Option Addr) (n c n' c' : Nat) (w : World) :
    Calls Tryd.prog 25 #[.agg #[.int .i64 6, .int .i64 op, .bool no, .int .i64 vk, .int .i64 vi, .string vt, .string tb, .string nm, .slice p n c, .slice q n' c']] w fun r w' => r = .returned (.int .i64 4) ∧ Below w.heap.size w w' := by
  go_enter Tryd.func25, Tryd.ntmps25
  go_wp2
  go_ret
  exact ⟨rfl, below_alloc _ _⟩
set_option maxHeartbeats 1000000 in
theorem rprec_k7 (op : Int) (vk vi : Int) (no : Bool) (vt tb nm : ByteArray) (p q : Option Addr) (n c n' c' : Nat) (w : World) :
    Calls Tryd.prog 25 #[.agg #[.int .i64 7, .int .i64 op, .bool no, .int .i64 vk, .int .i64 vi, .string vt, .string tb, .string nm, .slice p n c, .slice q n' c']] w fun r w' => r = .returned (.int .i64 4) ∧ Below w.heap.size w w' := by
  go_enter Tryd.func25, Tryd.ntmps25
  go_wp2
  go_ret
  exact ⟨rfl, below_alloc _ _⟩
set_option maxHeartbeats 1000000 in
theorem rprec_lo (op : Int) (h : op < 1) (vk vi : Int) (no : Bool) (vt tb nm : ByteArray) (p q : Option Addr) (n c n' c' : Nat) (w : World) :
    Calls Tryd.prog 25 #[.agg #[.int .i64 5, .int .i64 op, .bool no, .int .i64 vk, .int .i64 vi, .string vt, .string tb, .string nm, .slice p n c, .slice q n' c']] w fun r w' => r = .returned (.int .i64 8) ∧ Below w.heap.size w w' := by
  have a1 : (op == 1) = false := beq_eq_false_iff_ne.2 (by omega)
  have a2 : (op == 2) = false := beq_eq_false_iff_ne.2 (by omega)
  have a9 : (op == 9) = false := beq_eq_false_iff_ne.2 (by omega)
  have a10 : (op == 10) = false := beq_eq_false_iff_ne.2 (by omega)
  have b3 : decide (3 ≤ op) = false := decide_eq_false (by omega)
  have b11 : decide (11 ≤ op) = false := decide_eq_false (by omega)
  clear h
  go_enter Tryd.func25, Tryd.ntmps25
  go_wp2
  go_ret
  exact ⟨rfl, below_alloc _ _⟩
set_option maxHeartbeats 1000000 in
theorem rprec_hi (op : Int) (h : 13 < op) (vk vi : Int) (no : Bool) (vt tb nm : ByteArray) (p q : Option Addr) (n c n' c' : Nat) (w : World) :
    Calls Tryd.prog 25 #[.agg #[.int .i64 5, .int .i64 op, .bool no, .int .i64 vk, .int .i64 vi, .string vt, .string tb, .string nm, .slice p n c, .slice q n' c']] w fun r w' => r = .returned (.int .i64 8) ∧ Below w.heap.size w w' := by
  have a1 : (op == 1) = false := beq_eq_false_iff_ne.2 (by omega)
  have a2 : (op == 2) = false := beq_eq_false_iff_ne.2 (by omega)
  have a9 : (op == 9) = false := beq_eq_false_iff_ne.2 (by omega)
  have a10 : (op == 10) = false := beq_eq_false_iff_ne.2 (by omega)
  have b3 : decide (3 ≤ op) = true := decide_eq_true (by omega)
  have b8 : decide (op ≤ 8) = false := decide_eq_false (by omega)
  have b11 : decide (11 ≤ op) = true := decide_eq_true (by omega)
  have b13 : decide (op ≤ 13) = false := decide_eq_false (by omega)
  clear h
  go_enter Tryd.func25, Tryd.ntmps25
  go_wp2
  go_ret
  exact ⟨rfl, below_alloc _ _⟩
set_option maxHeartbeats 1000000 in
theorem rprec_other (k op : Int) (h3 : k ≠ 3) (h4 : k ≠ 4) (h5 : k ≠ 5) (h6 : k ≠ 6) (h7 : k ≠ 7) (vk vi : Int) (no : Bool) (vt tb nm : ByteArray) (p q : Option Addr) (n c n' c' : Nat) (w : World) :
    Calls Tryd.prog 25 #[.agg #[.int .i64 k, .int .i64 op, .bool no, .int .i64 vk, .int .i64 vi, .string vt, .string tb, .string nm, .slice p n c, .slice q n' c']] w fun r w' => r = .returned (.int .i64 8) ∧ Below w.heap.size w w' := by
  have e3 : (k == 3) = false := beq_eq_false_iff_ne.2 h3
  have e4 : (k == 4) = false := beq_eq_false_iff_ne.2 h4
  have e5 : (k == 5) = false := beq_eq_false_iff_ne.2 h5
  have e6 : (k == 6) = false := beq_eq_false_iff_ne.2 h6
  have e7 : (k == 7) = false := beq_eq_false_iff_ne.2 h7
  clear h3 h4 h5 h6 h7
  go_enter Tryd.func25, Tryd.ntmps25
  go_wp2
  go_ret
  exact ⟨rfl, below_alloc _ _⟩
theorem prec_bad {op : Int} (h : op < 1 ∨ 13 < op) : prec 5 op = 8 := by
  simp only [prec]
  repeat' split
  all_goals omega
theorem rprec_any (k op : Int) (vk vi : Int) (no : Bool) (vt tb nm : ByteArray) (p q : Option Addr) (n c n' c' : Nat) (w : World) :
    Calls Tryd.prog 25 #[.agg #[.int .i64 k, .int .i64 op, .bool no, .int .i64 vk, .int .i64 vi, .string vt, .string tb, .string nm, .slice p n c, .slice q n' c']] w fun r w' => r = .returned (.int .i64 (prec k op)) ∧ Below w.heap.size w w' := by
  by_cases h3 : k = 3
  · subst h3; exact rprec_k3 op vk vi no vt tb nm p q n c n' c' w
  by_cases h4 : k = 4
  · subst h4; exact rprec_k4 op vk vi no vt tb nm p q n c n' c' w
  by_cases h6 : k = 6
  · subst h6; exact rprec_k6 op vk vi no vt tb nm p q n c n' c' w
  by_cases h7 : k = 7
  · subst h7; exact rprec_k7 op vk vi no vt tb nm p q n c n' c' w
  by_cases h5 : k = 5
  · subst h5
    by_cases hl : op < 1
    · rw [prec_bad (Or.inl hl)]
      exact rprec_lo op hl vk vi no vt tb nm p q n c n' c' w
    by_cases hh : 13 < op
    · rw [prec_bad (Or.inr hh)]
      exact rprec_hi op hh vk vi no vt tb nm p q n c n' c' w
    have ho : op = 1 ∨ op = 2 ∨ op = 3 ∨ op = 4 ∨ op = 5 ∨ op = 6 ∨ op = 7 ∨ op = 8 ∨ op = 9 ∨ op = 10 ∨ op = 11 ∨ op = 12 ∨ op = 13 := by omega
    rcases ho with rfl | rfl | rfl | rfl | rfl | rfl | rfl | rfl | rfl | rfl | rfl | rfl | rfl
    · exact rprec_o1 vk vi no vt tb nm p q n c n' c' w
    · exact rprec_o2 vk vi no vt tb nm p q n c n' c' w
    · exact rprec_o3 vk vi no vt tb nm p q n c n' c' w
    · exact rprec_o4 vk vi no vt tb nm p q n c n' c' w
    · exact rprec_o5 vk vi no vt tb nm p q n c n' c' w
    · exact rprec_o6 vk vi no vt tb nm p q n c n' c' w
    · exact rprec_o7 vk vi no vt tb nm p q n c n' c' w
    · exact rprec_o8 vk vi no vt tb nm p q n c n' c' w
    · exact rprec_o9 vk vi no vt tb nm p q n c n' c' w
    · exact rprec_o10 vk vi no vt tb nm p q n c n' c' w
    · exact rprec_o11 vk vi no vt tb nm p q n c n' c' w
    · exact rprec_o12 vk vi no vt tb nm p q n c n' c' w
    · exact rprec_o13 vk vi no vt tb nm p q n c n' c' w
  rw [show prec k op = 8 by simp [prec, h3, h4, h5, h6, h7]]
  exact rprec_other k op h3 h4 h5 h6 h7 vk vi no vt tb nm p q n c n' c' w
theorem rprec (e : Ex) (w : World) : Calls Tryd.prog 25 #[exV e] w fun r w' => r = .returned (.int .i64 (prec e.k e.op)) ∧ Below w.heap.size w w' := rprec_any _ _ _ _ _ _ _ _ _ _ _ _ _ _ w
set_option maxHeartbeats 1000000 in
theorem rleast_k3 (op : Int) (vk vi : Int) (no : Bool) (vt tb nm : ByteArray) (p q : Option Addr) (n c n' c' : Nat) (i : Nat) (w : World) :
    Calls Tryd.prog 59 #[.agg #[.int .i64 3, .int .i64 op, .bool no, .int .i64 vk, .int .i64 vi, .string vt, .string tb, .string nm, .slice p n c, .slice q n' c'], .int .i64 i] w fun r w' => r = .returned (.int .i64 3) ∧ Below w.heap.size w w' := by
  go_enter Tryd.func59, Tryd.ntmps59
  go_wp2
  go_ret
  exact ⟨rfl, below_alloc _ _⟩
set_option maxHeartbeats 1000000 in
theorem rleast_k4 (op : Int) (vk vi : Int) (no : Bool) (vt tb nm : ByteArray) (p q : Option Addr) (n c n' c' : Nat) (i : Nat) (w : World) :
    Calls Tryd.prog 59 #[.agg #[.int .i64 4, .int .i64 op, .bool no, .int .i64 vk, .int .i64 vi, .string vt, .string tb, .string nm, .slice p n c, .slice q n' c'], .int .i64 i] w fun r w' => r = .returned (.int .i64 7) ∧ Below w.heap.size w w' := by
  go_enter Tryd.func59, Tryd.ntmps59
  go_wp2
  go_ret
  exact ⟨rfl, below_alloc _ _⟩
set_option maxHeartbeats 1000000 in
theorem rleast_k6 (op : Int) (vk vi : Int) (no : Bool) (vt tb nm : ByteArray) (p q : Option Addr) (n c n' c' : Nat) (i : Nat) (w : World) :
    Calls Tryd.prog 59 #[.agg #[.int .i64 6, .int .i64 op, .bool no, .int .i64 vk, .int .i64 vi, .string vt, .string tb, .string nm, .slice p n c, .slice q n' c'], .int .i64 i] w fun r w' => r = .returned (.int .i64 5) ∧ Below w.heap.size w w' := by
  go_enter Tryd.func59, Tryd.ntmps59
  go_wp2
  go_ret
  exact ⟨rfl, below_alloc _ _⟩
set_option maxHeartbeats 1000000 in
theorem rleast_k7 (op : Int) (vk vi : Int) (no : Bool) (vt tb nm : ByteArray) (p q : Option Addr) (n c n' c' : Nat) (i : Nat) (w : World) :
    Calls Tryd.prog 59 #[.agg #[.int .i64 7, .int .i64 op, .bool no, .int .i64 vk, .int .i64 vi, .string vt, .string tb, .string nm, .slice p n c, .slice q n' c'], .int .i64 i] w fun r w' => r = .returned (.int .i64 5) ∧ Below w.heap.size w w' := by
  go_enter Tryd.func59, Tryd.ntmps59
  go_wp2
  go_ret
  exact ⟨rfl, below_alloc _ _⟩
set_option maxHeartbeats 1000000 in
theorem rleast_other (k op : Int) (h3 : k ≠ 3) (h4 : k ≠ 4) (h5 : k ≠ 5) (h6 : k ≠ 6) (h7 : k ≠ 7) (vk vi : Int) (no : Bool) (vt tb nm : ByteArray) (p q : Option Addr) (n c n' c' : Nat) (i : Nat) (w : World) :
    Calls Tryd.prog 59 #[.agg #[.int .i64 k, .int .i64 op, .bool no, .int .i64 vk, .int .i64 vi, .string vt, .string tb, .string nm, .slice p n c, .slice q n' c'], .int .i64 i] w fun r w' => r = .returned (.int .i64 1) ∧ Below w.heap.size w w' := by
  have e3 : (k == 3) = false := beq_eq_false_iff_ne.2 h3
  have e4 : (k == 4) = false := beq_eq_false_iff_ne.2 h4
  have e5 : (k == 5) = false := beq_eq_false_iff_ne.2 h5
  have e6 : (k == 6) = false := beq_eq_false_iff_ne.2 h6
  have e7 : (k == 7) = false := beq_eq_false_iff_ne.2 h7
  clear h3 h4 h5 h6 h7
  go_enter Tryd.func59, Tryd.ntmps59
  go_wp2
  go_ret
  exact ⟨rfl, below_alloc _ _⟩
set_option maxHeartbeats 1000000 in
theorem rleast_p1_0 (op : Int) (hp : prec 5 op = 1) (vk vi : Int) (no : Bool) (vt tb nm : ByteArray) (p q : Option Addr) (n c n' c' : Nat) (w : World) :
    Calls Tryd.prog 59 #[.agg #[.int .i64 5, .int .i64 op, .bool no, .int .i64 vk, .int .i64 vi, .string vt, .string tb, .string nm, .slice p n c, .slice q n' c'], .int .i64 0] w fun r w' => r = .returned (.int .i64 1) ∧ Below w.heap.size w w' := by
  have HP := Lib.hid (fun u => rprec_any 5 op vk vi no vt tb nm p q n c n' c' u)
  have HQ := Lib.hid hp
  clear hp
  go_enter Tryd.func59, Tryd.ntmps59
  go_wp2_with fail
  refine (HP.out _).mono ?_
  rintro e w' ⟨rfl, hb⟩
  have HB := Lib.hid (Below.of_alloc hb)
  clear hb
  rw [HQ.out]
  clear HP HQ
  go_wp2
  go_ret
  exact ⟨rfl, HB.out⟩
set_option maxHeartbeats 1000000 in
theorem rleast_p1_1 (op : Int) (hp : prec 5 op = 1) (vk vi : Int) (no : Bool) (vt tb nm : ByteArray) (p q : Option Addr) (n c n' c' : Nat) (w : World) :
    Calls Tryd.prog 59 #[.agg #[.int .i64 5, .int .i64 op, .bool no, .int .i64 vk, .int .i64 vi, .string vt, .string tb, .string nm, .slice p n c, .slice q n' c'], .int .i64 1] w fun r w' => r = .returned (.int .i64 2) ∧ Below w.heap.size w w' := by
  have HP := Lib.hid (fun u => rprec_any 5 op vk vi no vt tb nm p q n c n' c' u)
  have HQ := Lib.hid hp
  clear hp
  go_enter Tryd.func59, Tryd.ntmps59
  go_wp2_with fail
  refine (HP.out _).mono ?_
  rintro e w' ⟨rfl, hb⟩
  have HB := Lib.hid (Below.of_alloc hb)
  clear hb
  rw [HQ.out]
  clear HP HQ
  go_wp2
  go_ret
  exact ⟨rfl, HB.out⟩
set_option maxHeartbeats 1000000 in
theorem rleast_p1_2 (op : Int) (hp : prec 5 op = 1) (vk vi : Int) (no : Bool) (vt tb nm : ByteArray) (p q : Option Addr) (n c n' c' : Nat) (w : World) :
    Calls Tryd.prog 59 #[.agg #[.int .i64 5, .int .i64 op, .bool no, .int .i64 vk, .int .i64 vi, .string vt, .string tb, .string nm, .slice p n c, .slice q n' c'], .int .i64 2] w fun r w' => r = .returned (.int .i64 3) ∧ Below w.heap.size w w' := by
  have HP := Lib.hid (fun u => rprec_any 5 op vk vi no vt tb nm p q n c n' c' u)
  have HQ := Lib.hid hp
  clear hp
  go_enter Tryd.func59, Tryd.ntmps59
  go_wp2_with fail
  refine (HP.out _).mono ?_
  rintro e w' ⟨rfl, hb⟩
  have HB := Lib.hid (Below.of_alloc hb)
  clear hb
  rw [HQ.out]
  clear HP HQ
  go_wp2
  go_ret
  exact ⟨rfl, HB.out⟩
set_option maxHeartbeats 1000000 in
theorem rleast_p2_0 (op : Int) (hp : prec 5 op = 2) (vk vi : Int) (no : Bool) (vt tb nm : ByteArray) (p q : Option Addr) (n c n' c' : Nat) (w : World) :
    Calls Tryd.prog 59 #[.agg #[.int .i64 5, .int .i64 op, .bool no, .int .i64 vk, .int .i64 vi, .string vt, .string tb, .string nm, .slice p n c, .slice q n' c'], .int .i64 0] w fun r w' => r = .returned (.int .i64 2) ∧ Below w.heap.size w w' := by
  have HP := Lib.hid (fun u => rprec_any 5 op vk vi no vt tb nm p q n c n' c' u)
  have HQ := Lib.hid hp
  clear hp
  go_enter Tryd.func59, Tryd.ntmps59
  go_wp2_with fail
  refine (HP.out _).mono ?_
  rintro e w' ⟨rfl, hb⟩
  have HB := Lib.hid (Below.of_alloc hb)
  clear hb
  rw [HQ.out]
  clear HP HQ
  go_wp2
  go_ret
  exact ⟨rfl, HB.out⟩
set_option maxHeartbeats 1000000 in
theorem rleast_p2_1 (op : Int) (hp : prec 5 op = 2) (vk vi : Int) (no : Bool) (vt tb nm : ByteArray) (p q : Option Addr) (n c n' c' : Nat) (w : World) :
    Calls Tryd.prog 59 #[.agg #[.int .i64 5, .int .i64 op, .bool no, .int .i64 vk, .int .i64 vi, .string vt, .string tb, .string nm, .slice p n c, .slice q n' c'], .int .i64 1] w fun r w' => r = .returned (.int .i64 3) ∧ Below w.heap.size w w' := by
  have HP := Lib.hid (fun u => rprec_any 5 op vk vi no vt tb nm p q n c n' c' u)
  have HQ := Lib.hid hp
  clear hp
  go_enter Tryd.func59, Tryd.ntmps59
  go_wp2_with fail
  refine (HP.out _).mono ?_
  rintro e w' ⟨rfl, hb⟩
  have HB := Lib.hid (Below.of_alloc hb)
  clear hb
  rw [HQ.out]
  clear HP HQ
  go_wp2
  go_ret
  exact ⟨rfl, HB.out⟩
set_option maxHeartbeats 1000000 in
theorem rleast_p2_2 (op : Int) (hp : prec 5 op = 2) (vk vi : Int) (no : Bool) (vt tb nm : ByteArray) (p q : Option Addr) (n c n' c' : Nat) (w : World) :
    Calls Tryd.prog 59 #[.agg #[.int .i64 5, .int .i64 op, .bool no, .int .i64 vk, .int .i64 vi, .string vt, .string tb, .string nm, .slice p n c, .slice q n' c'], .int .i64 2] w fun r w' => r = .returned (.int .i64 4) ∧ Below w.heap.size w w' := by
  have HP := Lib.hid (fun u => rprec_any 5 op vk vi no vt tb nm p q n c n' c' u)
  have HQ := Lib.hid hp
  clear hp
  go_enter Tryd.func59, Tryd.ntmps59
  go_wp2_with fail
  refine (HP.out _).mono ?_
  rintro e w' ⟨rfl, hb⟩
  have HB := Lib.hid (Below.of_alloc hb)
  clear hb
  rw [HQ.out]
  clear HP HQ
  go_wp2
  go_ret
  exact ⟨rfl, HB.out⟩
set_option maxHeartbeats 1000000 in
theorem rleast_p4 (op : Int) (hp : prec 5 op = 4) (vk vi : Int) (no : Bool) (vt tb nm : ByteArray) (p q : Option Addr) (n c n' c' : Nat) (i : Nat) (w : World) :
    Calls Tryd.prog 59 #[.agg #[.int .i64 5, .int .i64 op, .bool no, .int .i64 vk, .int .i64 vi, .string vt, .string tb, .string nm, .slice p n c, .slice q n' c'], .int .i64 i] w fun r w' => r = .returned (.int .i64 5) ∧ Below w.heap.size w w' := by
  have HP := Lib.hid (fun u => rprec_any 5 op vk vi no vt tb nm p q n c n' c' u)
  have HQ := Lib.hid hp
  clear hp
  go_enter Tryd.func59, Tryd.ntmps59
  go_wp2_with fail
  refine (HP.out _).mono ?_
  rintro e w' ⟨rfl, hb⟩
  have HB := Lib.hid (Below.of_alloc hb)
  clear hb
  rw [HQ.out]
  clear HP HQ
  go_wp2
  go_ret
  exact ⟨rfl, HB.out⟩
set_option maxHeartbeats 1000000 in
theorem rleast_p5_0 (op : Int) (hp : prec 5 op = 5) (vk vi : Int) (no : Bool) (vt tb nm : ByteArray) (p q : Option Addr) (n c n' c' : Nat) (w : World) :
    Calls Tryd.prog 59 #[.agg #[.int .i64 5, .int .i64 op, .bool no, .int .i64 vk, .int .i64 vi, .string vt, .string tb, .string nm, .slice p n c, .slice q n' c'], .int .i64 0] w fun r w' => r = .returned (.int .i64 5) ∧ Below w.heap.size w w' := by
  have HP := Lib.hid (fun u => rprec_any 5 op vk vi no vt tb nm p q n c n' c' u)
  have HQ := Lib.hid hp
  clear hp
  go_enter Tryd.func59, Tryd.ntmps59
  go_wp2_with fail
  refine (HP.out _).mono ?_
  rintro e w' ⟨rfl, hb⟩
  have HB := Lib.hid (Below.of_alloc hb)
  clear hb
  rw [HQ.out]
  clear HP HQ
  go_wp2
  go_ret
  exact ⟨rfl, HB.out⟩
set_option maxHeartbeats 1000000 in
theorem rleast_p5_1 (op : Int) (hp : prec 5 op = 5) (vk vi : Int) (no : Bool) (vt tb nm : ByteArray) (p q : Option Addr) (n c n' c' : Nat) (w : World) :
    Calls Tryd.prog 59 #[.agg #[.int .i64 5, .int .i64 op, .bool no, .int .i64 vk, .int .i64 vi, .string vt, .string tb, .string nm, .slice p n c, .slice q n' c'], .int .i64 1] w fun r w' => r = .returned (.int .i64 6) ∧ Below w.heap.size w w' := by
  have HP := Lib.hid (fun u => rprec_any 5 op vk vi no vt tb nm p q n c n' c' u)
  have HQ := Lib.hid hp
  clear hp
  go_enter Tryd.func59, Tryd.ntmps59
  go_wp2_with fail
  refine (HP.out _).mono ?_
  rintro e w' ⟨rfl, hb⟩
  have HB := Lib.hid (Below.of_alloc hb)
  clear hb
  rw [HQ.out]
  clear HP HQ
  go_wp2
  go_ret
  exact ⟨rfl, HB.out⟩
set_option maxHeartbeats 1000000 in
theorem rleast_p5_2 (op : Int) (hp : prec 5 op = 5) (vk vi : Int) (no : Bool) (vt tb nm : ByteArray) (p q : Option Addr) (n c n' c' : Nat) (w : World) :
    Calls Tryd.prog 59 #[.agg #[.int .i64 5, .int .i64 op, .bool no, .int .i64 vk, .int .i64 vi, .string vt, .string tb, .string nm, .slice p n c, .slice q n' c'], .int .i64 2] w fun r w' => r = .returned (.int .i64 7) ∧ Below w.heap.size w w' := by
  have HP := Lib.hid (fun u => rprec_any 5 op vk vi no vt tb nm p q n c n' c' u)
  have HQ := Lib.hid hp
  clear hp
  go_enter Tryd.func59, Tryd.ntmps59
  go_wp2_with fail
  refine (HP.out _).mono ?_
  rintro e w' ⟨rfl, hb⟩
  have HB := Lib.hid (Below.of_alloc hb)
  clear hb
  rw [HQ.out]
  clear HP HQ
  go_wp2
  go_ret
  exact ⟨rfl, HB.out⟩
set_option maxHeartbeats 1000000 in
theorem rleast_p6_0 (op : Int) (hp : prec 5 op = 6) (vk vi : Int) (no : Bool) (vt tb nm : ByteArray) (p q : Option Addr) (n c n' c' : Nat) (w : World) :
    Calls Tryd.prog 59 #[.agg #[.int .i64 5, .int .i64 op, .bool no, .int .i64 vk, .int .i64 vi, .string vt, .string tb, .string nm, .slice p n c, .slice q n' c'], .int .i64 0] w fun r w' => r = .returned (.int .i64 6) ∧ Below w.heap.size w w' := by
  have HP := Lib.hid (fun u => rprec_any 5 op vk vi no vt tb nm p q n c n' c' u)
  have HQ := Lib.hid hp
  clear hp
  go_enter Tryd.func59, Tryd.ntmps59
  go_wp2_with fail
  refine (HP.out _).mono ?_
  rintro e w' ⟨rfl, hb⟩
  have HB := Lib.hid (Below.of_alloc hb)
  clear hb
  rw [HQ.out]
  clear HP HQ
  go_wp2
  go_ret
  exact ⟨rfl, HB.out⟩
set_option maxHeartbeats 1000000 in
theorem rleast_p6_1 (op : Int) (hp : prec 5 op = 6) (vk vi : Int) (no : Bool) (vt tb nm : ByteArray) (p q : Option Addr) (n c n' c' : Nat) (w : World) :
    Calls Tryd.prog 59 #[.agg #[.int .i64 5, .int .i64 op, .bool no, .int .i64 vk, .int .i64 vi, .string vt, .string tb, .string nm, .slice p n c, .slice q n' c'], .int .i64 1] w fun r w' => r = .returned (.int .i64 7) ∧ Below w.heap.size w w' := by
  have HP := Lib.hid (fun u => rprec_any 5 op vk vi no vt tb nm p q n c n' c' u)
  have HQ := Lib.hid hp
  clear hp
  go_enter Tryd.func59, Tryd.ntmps59
  go_wp2_with fail
  refine (HP.out _).mono ?_
  rintro e w' ⟨rfl, hb⟩
  have HB := Lib.hid (Below.of_alloc hb)
  clear hb
  rw [HQ.out]
  clear HP HQ
  go_wp2
  go_ret
  exact ⟨rfl, HB.out⟩
set_option maxHeartbeats 1000000 in
theorem rleast_p6_2 (op : Int) (hp : prec 5 op = 6) (vk vi : Int) (no : Bool) (vt tb nm : ByteArray) (p q : Option Addr) (n c n' c' : Nat) (w : World) :
    Calls Tryd.prog 59 #[.agg #[.int .i64 5, .int .i64 op, .bool no, .int .i64 vk, .int .i64 vi, .string vt, .string tb, .string nm, .slice p n c, .slice q n' c'], .int .i64 2] w fun r w' => r = .returned (.int .i64 8) ∧ Below w.heap.size w w' := by
  have HP := Lib.hid (fun u => rprec_any 5 op vk vi no vt tb nm p q n c n' c' u)
  have HQ := Lib.hid hp
  clear hp
  go_enter Tryd.func59, Tryd.ntmps59
  go_wp2_with fail
  refine (HP.out _).mono ?_
  rintro e w' ⟨rfl, hb⟩
  have HB := Lib.hid (Below.of_alloc hb)
  clear hb
  rw [HQ.out]
  clear HP HQ
  go_wp2
  go_ret
  exact ⟨rfl, HB.out⟩
set_option maxHeartbeats 1000000 in
theorem rleast_p8 (op : Int) (hp : prec 5 op = 8) (vk vi : Int) (no : Bool) (vt tb nm : ByteArray) (p q : Option Addr) (n c n' c' : Nat) (i : Nat) (w : World) :
    Calls Tryd.prog 59 #[.agg #[.int .i64 5, .int .i64 op, .bool no, .int .i64 vk, .int .i64 vi, .string vt, .string tb, .string nm, .slice p n c, .slice q n' c'], .int .i64 i] w fun r w' => r = .returned (.int .i64 1) ∧ Below w.heap.size w w' := by
  have HP := Lib.hid (fun u => rprec_any 5 op vk vi no vt tb nm p q n c n' c' u)
  have HQ := Lib.hid hp
  clear hp
  go_enter Tryd.func59, Tryd.ntmps59
  go_wp2_with fail
  refine (HP.out _).mono ?_
  rintro e w' ⟨rfl, hb⟩
  have HB := Lib.hid (Below.of_alloc hb)
  clear hb
  rw [HQ.out]
  clear HP HQ
  go_wp2
  go_ret
  exact ⟨rfl, HB.out⟩
theorem prec5_six (op : Int) : prec 5 op = 1 ∨ prec 5 op = 2 ∨ prec 5 op = 4 ∨ prec 5 op = 5 ∨ prec 5 op = 6 ∨ prec 5 op = 8 := by
  simp only [prec]
  repeat' split
  all_goals omega
theorem rleast_any (k op : Int) (vk vi : Int) (no : Bool) (vt tb nm : ByteArray) (p q : Option Addr) (n c n' c' : Nat) (i : Nat) (hi : i < 3) (w : World) :
    Calls Tryd.prog 59 #[.agg #[.int .i64 k, .int .i64 op, .bool no, .int .i64 vk, .int .i64 vi, .string vt, .string tb, .string nm, .slice p n c, .slice q n' c'], .int .i64 i] w fun r w' => r = .returned (.int .i64 (least k op i)) ∧ Below w.heap.size w w' := by
  by_cases h3 : k = 3
  · subst h3; exact rleast_k3 op vk vi no vt tb nm p q n c n' c' i w
  by_cases h4 : k = 4
  · subst h4; exact rleast_k4 op vk vi no vt tb nm p q n c n' c' i w
  by_cases h6 : k = 6
  · subst h6; exact rleast_k6 op vk vi no vt tb nm p q n c n' c' i w
  by_cases h7 : k = 7
  · subst h7; exact rleast_k7 op vk vi no vt tb nm p q n c n' c' i w
  by_cases h5 : k = 5
  · subst h5
    have hl : least 5 op i = if prec 5 op = 8 then 1 else if prec 5 op = 4 then 5 else prec 5 op + i := by simp [least]
    have hi3 : i = 0 ∨ i = 1 ∨ i = 2 := by omega
    rcases prec5_six op with h | h | h | h | h | h
    · rcases hi3 with rfl | rfl | rfl
      · rw [show least 5 op 0 = 1 by rw [hl, h]; rfl]
        exact rleast_p1_0 op h vk vi no vt tb nm p q n c n' c' w
      · rw [show least 5 op 1 = 2 by rw [hl, h]; rfl]
        exact rleast_p1_1 op h vk vi no vt tb nm p q n c n' c' w
      · rw [show least 5 op 2 = 3 by rw [hl, h]; rfl]
        exact rleast_p1_2 op h vk vi no vt tb nm p q n c n' c' w
    · rcases hi3 with rfl | rfl | rfl
      · rw [show least 5 op 0 = 2 by rw [hl, h]; rfl]
        exact rleast_p2_0 op h vk vi no vt tb nm p q n c n' c' w
      · rw [show least 5 op 1 = 3 by rw [hl, h]; rfl]
        exact rleast_p2_1 op h vk vi no vt tb nm p q n c n' c' w
      · rw [show least 5 op 2 = 4 by rw [hl, h]; rfl]
        exact rleast_p2_2 op h vk vi no vt tb nm p q n c n' c' w
    · rw [show least 5 op i = 5 by rw [hl, h]; rfl]
      exact rleast_p4 op h vk vi no vt tb nm p q n c n' c' i w
    · rcases hi3 with rfl | rfl | rfl
      · rw [show least 5 op 0 = 5 by rw [hl, h]; rfl]
        exact rleast_p5_0 op h vk vi no vt tb nm p q n c n' c' w
      · rw [show least 5 op 1 = 6 by rw [hl, h]; rfl]
        exact rleast_p5_1 op h vk vi no vt tb nm p q n c n' c' w
      · rw [show least 5 op 2 = 7 by rw [hl, h]; rfl]
        exact rleast_p5_2 op h vk vi no vt tb nm p q n c n' c' w
    · rcases hi3 with rfl | rfl | rfl
      · rw [show least 5 op 0 = 6 by rw [hl, h]; rfl]
        exact rleast_p6_0 op h vk vi no vt tb nm p q n c n' c' w
      · rw [show least 5 op 1 = 7 by rw [hl, h]; rfl]
        exact rleast_p6_1 op h vk vi no vt tb nm p q n c n' c' w
      · rw [show least 5 op 2 = 8 by rw [hl, h]; rfl]
        exact rleast_p6_2 op h vk vi no vt tb nm p q n c n' c' w
    · rw [show least 5 op i = 1 by rw [hl, h]; rfl]
      exact rleast_p8 op h vk vi no vt tb nm p q n c n' c' i w
  rw [show least k op i = 1 by simp [least, h3, h4, h5, h6, h7]]
  exact rleast_other k op h3 h4 h5 h6 h7 vk vi no vt tb nm p q n c n' c' i w
theorem rleast (e : Ex) (i : Nat) (hi : i < 3) (w : World) : Calls Tryd.prog 59 #[exV e, .int .i64 i] w fun r w' => r = .returned (.int .i64 (least e.k e.op i)) ∧ Below w.heap.size w w' := rleast_any _ _ _ _ _ _ _ _ _ _ _ _ _ _ i hi w
end Go.Proofs.YtdlehlbahkikgaaDoor
/-
  ValidExpr of package syntax, and what it calls.
-/
namespace Go.Proofs.YtdlehlbahkikgaaDoor
set_option maxRecDepth 100000
open Go.RowKit
variable {ls : List Nat}

theorem eqT_lit (s : ByteArray) (l : List UInt8) : eqT s ⟨l.toArray⟩ = decide (s.toList = l) := by
  unfold eqT
  rw [ByteArray.toList_eq ⟨l.toArray⟩]
  show (s.toList == l.toArray.toList) = _
  rw [List.toList_toArray]
  by_cases h : s.toList = l
  · rw [h]; simp
  · rw [decide_eq_false h]; simpa using h
def insB : ByteArray := ⟨#[73, 78, 83, 69, 82, 84, 69, 68]⟩
def delB : ByteArray := ⟨#[68, 69, 76, 69, 84, 69, 68]⟩
set_option maxHeartbeats 1000000 in
theorem source_any (s : ByteArray) (w : World) (hs : s.size ≤ 9223372036854775807) :
    Calls Tryd.prog 53 #[.string s] w fun e w' => e = .returned (.bool (srcB s)) ∧ Below w.heap.size w w' := by
  have hd : srcB s = (nameOK s || decide (s.toList = [73, 78, 83, 69, 82, 84, 69, 68]) || decide (s.toList = [68, 69, 76, 69, 84, 69, 68])) := by rw [← eqT_lit, ← eqT_lit]; rfl
  have HC := Lib.hid (validName_any s)
  have HS := Lib.hid hs
  clear hs
  by_cases h1 : s.toList = [73, 78, 83, 69, 82, 84, 69, 68]
  · have HD := Lib.hid (show srcB s = true by rw [hd, decide_eq_true h1]; simp)
    clear hd
    go_enter Tryd.func53, Tryd.ntmps53
    go_wp2
    go_ret
    exact ⟨ret_bool HD.out.symm, Below.refl _ _⟩
  · by_cases h2 : s.toList = [68, 69, 76, 69, 84, 69, 68]
    · have HD := Lib.hid (show srcB s = true by rw [hd, decide_eq_true h2]; simp)
      clear hd
      go_enter Tryd.func53, Tryd.ntmps53
      go_wp2
      go_ret
      exact ⟨ret_bool HD.out.symm, Below.refl _ _⟩
    · have HD := Lib.hid (show srcB s = nameOK s by rw [hd, decide_eq_false h1, decide_eq_false h2]; simp)
      have e1 : (s.toList == [73, 78, 83, 69, 82, 84, 69, 68]) = false := by simpa using h1
      have e2 : (s.toList == [68, 69, 76, 69, 84, 69, 68]) = false := by simpa using h2
      clear hd h1 h2
      go_enter Tryd.func53, Tryd.ntmps53
      go_wp2_with fail
      refine (HC.out _ HS.out).mono ?_
      rintro e w2 ⟨rfl, hb⟩
      have HB := Lib.hid hb
      clear hb
      go_wp2
      go_ret
      exact ⟨ret_bool HD.out.symm, HB.out⟩
set_option maxHeartbeats 1000000 in
theorem qualifier_any (s : ByteArray) (w : World) (hs : s.size ≤ 9223372036854775807) :
    Calls Tryd.prog 32 #[.string s] w fun e w' => e = .returned (.bool (qualB s)) ∧ Below w.heap.size w w' := by
  have hd : qualB s = (decide (s.toList = []) || srcB s || decide (s.toList = [78, 69, 87]) || decide (s.toList = [79, 76, 68])) := by rw [← eqT_lit, ← eqT_lit, ← eqT_lit]; rfl
  have HC := Lib.hid (source_any s)
  have HS := Lib.hid hs
  clear hs
  by_cases h0 : s.toList = []
  · have HD := Lib.hid (show qualB s = true by rw [hd, decide_eq_true h0]; simp)
    clear hd
    go_enter Tryd.func32, Tryd.ntmps32
    go_wp2
    go_ret
    exact ⟨ret_bool HD.out.symm, Below.refl _ _⟩
  · by_cases h1 : s.toList = [78, 69, 87]
    · have HD := Lib.hid (show qualB s = true by rw [hd, decide_eq_true h1]; simp)
      clear hd
      go_enter Tryd.func32, Tryd.ntmps32
      go_wp2
      go_ret
      exact ⟨ret_bool HD.out.symm, Below.refl _ _⟩
    · by_cases h2 : s.toList = [79, 76, 68]
      · have HD := Lib.hid (show qualB s = true by rw [hd, decide_eq_true h2]; simp)
        clear hd
        go_enter Tryd.func32, Tryd.ntmps32
        go_wp2
        go_ret
        exact ⟨ret_bool HD.out.symm, Below.refl _ _⟩
      · have HD := Lib.hid (show qualB s = srcB s by rw [hd, decide_eq_false h0, decide_eq_false h1, decide_eq_false h2]; simp)
        have e0 : s.toList.isEmpty = false := by simpa using h0
        have e1 : (s.toList == [78, 69, 87]) = false := by simpa using h1
        have e2 : (s.toList == [79, 76, 68]) = false := by simpa using h2
        clear hd h0 h1 h2
        go_enter Tryd.func32, Tryd.ntmps32
        go_wp2_with fail
        refine (HC.out _ HS.out).mono ?_
        rintro e w2 ⟨rfl, hb⟩
        have HB := Lib.hid hb
        clear hb
        go_wp2
        go_ret
        exact ⟨ret_bool HD.out.symm, HB.out⟩
def hasR (k : Int) (st : Bool) (n : Nat) : Bool := if k = 8 then st && decide (n = 0) else if k = 9 then !st && decide (n = 0) else !st && decide (n = 1)
theorem hasR_other {k : Int} (h8 : ¬ k = 8) (h9 : ¬ k = 9) (st : Bool) (n : Nat) : hasR k st n = (!st && decide (n = 1)) := by unfold hasR; rw [if_neg h8, if_neg h9]
set_option maxHeartbeats 1000000 in
theorem hasItems_any (k : Int) (st : Bool) (p q : Option Addr) (n c n' c' : Nat) (fr : ByteArray) (w : World) :
    Calls Tryd.prog 35 #[.int .i64 k, .agg #[.bool st, .slice p n c, .string fr, .slice q n' c']] w fun e w' => e = .returned (.bool (hasR k st n)) ∧ Below w.heap.size w w' := by
  have HB := Lib.hid (below_alloc w (.cells #[.bool st, .slice p n c, .string fr, .slice q n' c'] 34))
  by_cases h8 : k = 8
  · subst h8
    cases st
    · go_enter Tryd.func35, Tryd.ntmps35
      go_wp2
      go_ret
      exact ⟨ret_bool (by simp [hasR]), HB.out⟩
    · go_enter Tryd.func35, Tryd.ntmps35
      go_wp2
      go_ret
      refine ⟨ret_bool ?_, HB.out⟩
      by_cases h : n = 0 <;> simp [hasR, h]
  · by_cases h9 : k = 9
    · subst h9
      cases st
      · go_enter Tryd.func35, Tryd.ntmps35
        go_wp2
        go_ret
        refine ⟨ret_bool ?_, HB.out⟩
        by_cases h : n = 0 <;> simp [hasR, h]
      · go_enter Tryd.func35, Tryd.ntmps35
        go_wp2
        go_ret
        exact ⟨ret_bool (by simp [hasR]), HB.out⟩
    · have HD := Lib.hid (hasR_other h8 h9)
      have e8 : (k == 8) = false := beq_eq_false_iff_ne.2 h8
      have e9 : (k == 9) = false := beq_eq_false_iff_ne.2 h9
      clear h8 h9
      cases st
      · go_enter Tryd.func35, Tryd.ntmps35
        go_wp2
        go_ret
        refine ⟨ret_bool ?_, HB.out⟩
        rw [HD.out]
        by_cases h : n = 1 <;> simp [h] <;> omega
      · go_enter Tryd.func35, Tryd.ntmps35
        go_wp2
        go_ret
        exact ⟨ret_bool (by rw [HD.out]; rfl), HB.out⟩
/-- ValidExpr over trees of at most d storeys. -/
def ValDoes (ls : List Nat) (d : Nat) : Prop := ∀ (N : Nat → Prop) (e : Ex) (w : World), ExAt N w d e → Env ls w →
    Calls Tryd.prog 12 #[exV e] w fun r w' => r = .returned (.bool (vE d e)) ∧ Below w.heap.size w w'
theorem all_hit {V : Ex → Bool} {l : List Ex} {k : Nat} (hk : k < l.length) (h : V (eAt l k) = false) : l.all V = false := by
  rw [Bool.eq_false_iff]
  intro ha
  have := List.all_eq_true.1 ha _ (eAt_mem hk)
  rw [h] at this; cases this
theorem all_none {V : Ex → Bool} {l : List Ex} (h : ∀ j, j < l.length → V (eAt l j) = true) : l.all V = true := by
  rw [List.all_eq_true]
  intro e he
  obtain ⟨i, hi, rfl⟩ := mem_eAt he
  exact h i hi
set_option maxHeartbeats 1000000 in
theorem validExprs_any {d : Nat} (H : ValDoes ls d) {N : Nat → Prop} (p : Option Addr) (l : List Ex) (cap : Nat) (w : World) (hA : LAt N w (ExAt N w d) p l) (hz : l.length ≤ 9223372036854775807) (hE : Env ls w) :
    Calls Tryd.prog 33 #[.slice p l.length cap] w fun r w' => r = .returned (.bool (l.all (vE d))) ∧ Below w.heap.size w w' := by
  have HA := Lib.hid hA
  have HE := Lib.hid hE
  have HD := Lib.hid H
  clear hA hE H
  have HH := Lib.hid (fun k hk h => all_hit (V := vE d) (l := l) (k := k) hk h)
  have HNN := Lib.hid (fun h => all_none (V := vE d) (l := l) h)
  generalize l.all (vE d) = res at *
  generalize hn : l.length = n at *
  have HN := Lib.hid hn
  clear hn
  go_enter Tryd.func33, Tryd.ntmps33
  go_wp2_with fail
  go_loopw [7] (fun i v => ∃ k : Nat, k ≤ n ∧ i = .int .i64 k ∧ (∀ j, j < k → vE d (eAt l j) = true) ∧ Below w.heap.size w v) (fun i _ => n - (intOf i).toNat)
  case atStart => exact ⟨0, Nat.zero_le _, rfl, fun j hj => by omega, Below.refl _ _⟩
  case round =>
    obtain ⟨k, hk, rfl, ha, hb⟩ := hrel
    have HB := Lib.hid hb
    have HAK := Lib.hid ha
    clear hb ha
    by_cases hlt : k < n
    · have hlt' : decide ((k : Int) < n) = true := decide_eq_true (by omega)
      have hkl : k < l.length := by rw [HN.out]; exact hlt
      obtain ⟨g, o, rfl, hg, hN, hC, hX⟩ := HA.out.low HB.out k hkl
      have HX := Lib.hid hX
      have HHK := Lib.hid (HH.out k hlt)
      clear hX
      obtain ⟨c0, c1, c2, c3, c4, c5, c6, c7, c8, c9⟩ := hC
      generalize hxe : eAt l k = x at *
      have HXE := Lib.hid hxe
      clear hxe
      go_wp2_with fail
      refine (HD.out N x _ (HX.out.low (below_alloc _ _)) ((HE.out.low HB.out).alloc _)).mono ?_
      rintro e w' ⟨rfl, hb⟩
      have HB2 := Lib.hid (below_next HB.out (Below.of_alloc hb))
      clear hb c0 c1 c2 c3 c4 c5 c6 c7 c8 c9
      cases hv : vE d x
      · have HV := Lib.hid (HHK.out hv)
        clear hv
        go_wp2
        go_ret
        exact ⟨ret_bool HV.out.symm, HB2.out⟩
      · have HV := Lib.hid hv
        clear hv
        go_wp2
        go_roundw
        case rel => exact ⟨k + 1, by omega, by go_num, all_succ HAK.out (by rw [HXE.out]; exact HV.out), HB2.out⟩
        case measure => simp [intOf]; omega
    · have hlt' : decide ((k : Int) < n) = false := decide_eq_false (by omega)
      obtain rfl : k = n := by omega
      have HV := Lib.hid (HNN.out HAK.out)
      go_wp2
      go_ret
      exact ⟨ret_bool HV.out.symm, HB.out⟩
end Go.Proofs.YtdlehlbahkikgaaDoor
