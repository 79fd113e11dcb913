/-
  Several texts in one.
-/
import Derived.Test.YtdlehlbahkikgaaDoorPk04
import Derived.Test.YtdlehlbahkikgaaDoorPk05
import Derived.Test.YtdlehlbahkikgaaDoorPk01
import Derived.OwnWalk
import Derived.Laws.AppendOwnNone
/-
  WELL-FORMED TREES: what they are like, and that those made of parts are, plain. No program.
-/
namespace Go.Proofs.YtdlehlbahkikgaaDoor
set_option maxRecDepth 100000
open Go

/-- What makes an expression well-formed. -/
structure FineV (V : Ex → Bool) (e : Ex) : Prop where
  lo : 1 ≤ e.k
  hi : e.k ≤ 12
  argn : e.args.length = argN e.k
  subn : e.sub.length = subN e.k
  op5 : e.k = 5 → 1 ≤ e.op ∧ e.op ≤ 13
  op0 : e.k ≠ 5 → e.op = 0
  no6 : e.k ≠ 6 → e.no = false
  lit : e.k = 1 → validB e.vk e.vi e.vt = true ∧ 0 ≤ e.vi ∧ eqT e.tb ⟨#[]⟩ = true ∧ eqT e.nm ⟨#[]⟩ = true
  col : e.k = 2 → noVal e = true ∧ qualB e.tb = true ∧ nameOK e.nm = true
  rest : e.k ≠ 1 → e.k ≠ 2 → plainB e = true ∧ (∀ a ∈ e.args, V a = true) ∧ ∀ q ∈ e.sub, quB V e.k q = true
theorem vOf_iff {V : Ex → Bool} {e : Ex} : vOf V e = true ↔ FineV V e := by
  unfold vOf
  simp only [Bool.and_eq_true, decide_eq_true_eq]
  constructor
  · rintro ⟨⟨⟨⟨⟨h1, h2⟩, h3⟩, h4⟩, h5⟩, h6⟩
    refine ⟨h1.1, h1.2, h2, h3, fun hk => ?_, fun hk => ?_, fun hk => ?_, fun hk => ?_, fun hk => ?_, fun hk hk2 => ?_⟩
    · rw [if_pos hk] at h4; exact of_decide_eq_true h4
    · rw [if_neg hk] at h4; exact of_decide_eq_true h4
    · cases hn : e.no
      · rfl
      · rw [hn] at h5; simp at h5; exact absurd h5 hk
    · rw [if_pos hk] at h6
      simp only [Bool.and_eq_true, decide_eq_true_eq] at h6
      exact ⟨h6.1.1.1, h6.1.1.2, h6.1.2, h6.2⟩
    · rw [if_neg (by omega), if_pos hk] at h6
      simp only [Bool.and_eq_true] at h6
      exact ⟨h6.1.1, h6.1.2, h6.2⟩
    · rw [if_neg hk, if_neg hk2] at h6
      simp only [Bool.and_eq_true, List.all_eq_true] at h6
      exact ⟨h6.1.1, h6.1.2, h6.2⟩
  · intro h
    refine ⟨⟨⟨⟨⟨⟨h.lo, h.hi⟩, h.argn⟩, h.subn⟩, ?_⟩, ?_⟩, ?_⟩
    · split
      · exact decide_eq_true (h.op5 (by assumption))
      · exact decide_eq_true (h.op0 (by assumption))
    · by_cases hk : e.k = 6
      · simp [hk]
      · simp [h.no6 hk]
    · split
      · obtain ⟨g1, g2, g3, g4⟩ := h.lit (by assumption)
        simp [g1, g2, g3, g4]
      · split
        · obtain ⟨g1, g2, g3⟩ := h.col (by assumption)
          simp [g1, g2, g3]
        · obtain ⟨g1, g2, g3⟩ := h.rest (by assumption) (by assumption)
          simp only [Bool.and_eq_true, List.all_eq_true]
          exact ⟨⟨g1, g2⟩, g3⟩
/-- An expression with arguments, one with a query, a column, a literal. -/
def argEx (k op : Int) (no : Bool) (pa : Option Addr) (ca : Nat) (args : List Ex) : Ex := .mk k op no 0 0 ⟨#[]⟩ ⟨#[]⟩ ⟨#[]⟩ pa ca args none 0 []
def subEx (k : Int) (ps : Option Addr) (cs : Nat) (q : Qu) : Ex := .mk k 0 false 0 0 ⟨#[]⟩ ⟨#[]⟩ ⟨#[]⟩ none 0 [] ps cs [q]
def colEx (tb nm : ByteArray) : Ex := .mk 2 0 false 0 0 ⟨#[]⟩ tb nm none 0 [] none 0 []
def litEx (vk vi : Int) (vt : ByteArray) : Ex := .mk 1 0 false vk vi vt ⟨#[]⟩ ⟨#[]⟩ none 0 [] none 0 []
theorem eqT_none : eqT ⟨#[]⟩ ⟨#[]⟩ = true := eqT_self _
theorem plain_none {e : Ex} (h0 : e.vk = 0) (h1 : e.vi = 0) (h2 : e.vt = ⟨#[]⟩) (h3 : e.tb = ⟨#[]⟩) (h4 : e.nm = ⟨#[]⟩) : plainB e = true := by
  unfold plainB noVal; rw [h2, h3, h4, eqT_none]; simp [h0, h1]
theorem vOf_args {V : Ex → Bool} {k op : Int} {no : Bool} {pa : Option Addr} {ca : Nat} {args : List Ex} (h1 : 3 ≤ k) (h2 : k ≤ 7) (ha : args.length = argN k) (hop : k = 5 → 1 ≤ op ∧ op ≤ 13) (hop0 : k ≠ 5 → op = 0) (hno : k ≠ 6 → no = false) (hV : ∀ a ∈ args, V a = true) :
    vOf V (argEx k op no pa ca args) = true :=
  vOf_iff.2 ⟨by show 1 ≤ k; omega, by show k ≤ 12; omega, ha, by show 0 = subN k; unfold subN; rw [if_neg (by omega)], hop, hop0, hno, fun h => by have h : k = 1 := h; omega, fun h => by have h : k = 2 := h; omega,
    fun _ _ => ⟨plain_none rfl rfl rfl rfl rfl, hV, fun q hq => by cases hq⟩⟩
theorem vOf_sub {V : Ex → Bool} {k : Int} {ps : Option Addr} {cs : Nat} {q : Qu} (h1 : 8 ≤ k) (h2 : k ≤ 12) (hq : quB V k q = true) : vOf V (subEx k ps cs q) = true :=
  vOf_iff.2 ⟨by show 1 ≤ k; omega, h2, by show 0 = argN k; unfold argN; rw [if_neg (by omega), if_neg (by omega), if_neg (by omega)], by show 1 = subN k; unfold subN; rw [if_pos ⟨h1, h2⟩], fun h => by have h : k = 5 := h; omega, fun _ => rfl, fun _ => rfl, fun h => by have h : k = 1 := h; omega, fun h => by have h : k = 2 := h; omega,
    fun _ _ => ⟨plain_none rfl rfl rfl rfl rfl, (fun a ha => by cases ha), fun q' hq' => by obtain rfl := List.mem_singleton.1 hq'; exact hq⟩⟩
theorem quB_mk {V : Ex → Bool} {k : Int} {q : Qu} (h1 : q.st = decide (k = 8)) (h2 : q.items.length = itemN k) (h3 : q.wh.length ≤ 1) (h4 : srcB q.fr = true) (h5 : ∀ a ∈ q.items, V a = true) (h6 : ∀ a ∈ q.wh, V a = true) : quB V k q = true := by
  unfold quB
  rw [h1, decide_eq_true h2, decide_eq_true h3, h4, List.all_eq_true.2 h5, List.all_eq_true.2 h6]
  simp
theorem vOf_col {V : Ex → Bool} {tb nm : ByteArray} (h1 : qualB tb = true) (h2 : nameOK nm = true) : vOf V (colEx tb nm) = true :=
  vOf_iff.2 ⟨by show (1 : Int) ≤ 2; omega, by show (2 : Int) ≤ 12; omega, rfl, rfl, fun h => by have h : (2 : Int) = 5 := h; omega, fun _ => rfl, fun _ => rfl, fun h => by have h : (2 : Int) = 1 := h; omega, fun _ => ⟨by unfold noVal; show (true && true && eqT ⟨#[]⟩ ⟨#[]⟩) = true; rw [eqT_none]; rfl, h1, h2⟩,
    fun _ h => absurd rfl h⟩
theorem vOf_lit {V : Ex → Bool} {vk vi : Int} {vt : ByteArray} (h1 : validB vk vi vt = true) (h2 : 0 ≤ vi) : vOf V (litEx vk vi vt) = true :=
  vOf_iff.2 ⟨by show (1 : Int) ≤ 1; omega, by show (1 : Int) ≤ 12; omega, rfl, rfl, fun h => by have h : (1 : Int) = 5 := h; omega, fun _ => rfl, fun _ => rfl, fun _ => ⟨h1, h2, eqT_none, eqT_none⟩, fun h => by have h : (1 : Int) = 2 := h; omega,
    fun h => absurd rfl h⟩
theorem vE_succ (d : Nat) (e : Ex) : vE (d + 1) e = vOf (vE d) e := rfl
theorem FineV.fine {V : Ex → Bool} {e : Ex} (h : FineV V e) : Fine V e := vOf_fine (vOf_iff.2 h)
end Go.Proofs.YtdlehlbahkikgaaDoor
/-
  Precedence and inParentheses of package syntax.
-/
namespace Go.Proofs.YtdlehlbahkikgaaDoor
set_option maxRecDepth 100000
open Go.RowKit
variable {ls : List Nat}

theorem Ex.mk_k {k op vk vi : Int} {no : Bool} {vt tb nm : ByteArray} {pa ps : Option Addr} {ca cs : Nat} {args : List Ex} {sub : List Qu} : (Ex.mk k op no vk vi vt tb nm pa ca args ps cs sub).k = k := rfl
theorem Ex.mk_op {k op vk vi : Int} {no : Bool} {vt tb nm : ByteArray} {pa ps : Option Addr} {ca cs : Nat} {args : List Ex} {sub : List Qu} : (Ex.mk k op no vk vi vt tb nm pa ca args ps cs sub).op = op := rfl
theorem Ex.mk_no {k op vk vi : Int} {no : Bool} {vt tb nm : ByteArray} {pa ps : Option Addr} {ca cs : Nat} {args : List Ex} {sub : List Qu} : (Ex.mk k op no vk vi vt tb nm pa ca args ps cs sub).no = no := rfl
theorem Ex.mk_vk {k op vk vi : Int} {no : Bool} {vt tb nm : ByteArray} {pa ps : Option Addr} {ca cs : Nat} {args : List Ex} {sub : List Qu} : (Ex.mk k op no vk vi vt tb nm pa ca args ps cs sub).vk = vk := rfl
theorem Ex.mk_vi {k op vk vi : Int} {no : Bool} {vt tb nm : ByteArray} {pa ps : Option Addr} {ca cs : Nat} {args : List Ex} {sub : List Qu} : (Ex.mk k op no vk vi vt tb nm pa ca args ps cs sub).vi = vi := rfl
theorem Ex.mk_vt {k op vk vi : Int} {no : Bool} {vt tb nm : ByteArray} {pa ps : Option Addr} {ca cs : Nat} {args : List Ex} {sub : List Qu} : (Ex.mk k op no vk vi vt tb nm pa ca args ps cs sub).vt = vt := rfl
theorem Ex.mk_tb {k op vk vi : Int} {no : Bool} {vt tb nm : ByteArray} {pa ps : Option Addr} {ca cs : Nat} {args : List Ex} {sub : List Qu} : (Ex.mk k op no vk vi vt tb nm pa ca args ps cs sub).tb = tb := rfl
theorem Ex.mk_nm {k op vk vi : Int} {no : Bool} {vt tb nm : ByteArray} {pa ps : Option Addr} {ca cs : Nat} {args : List Ex} {sub : List Qu} : (Ex.mk k op no vk vi vt tb nm pa ca args ps cs sub).nm = nm := rfl
theorem Ex.mk_pa {k op vk vi : Int} {no : Bool} {vt tb nm : ByteArray} {pa ps : Option Addr} {ca cs : Nat} {args : List Ex} {sub : List Qu} : (Ex.mk k op no vk vi vt tb nm pa ca args ps cs sub).pa = pa := rfl
theorem Ex.mk_ca {k op vk vi : Int} {no : Bool} {vt tb nm : ByteArray} {pa ps : Option Addr} {ca cs : Nat} {args : List Ex} {sub : List Qu} : (Ex.mk k op no vk vi vt tb nm pa ca args ps cs sub).ca = ca := rfl
theorem Ex.mk_args {k op vk vi : Int} {no : Bool} {vt tb nm : ByteArray} {pa ps : Option Addr} {ca cs : Nat} {args : List Ex} {sub : List Qu} : (Ex.mk k op no vk vi vt tb nm pa ca args ps cs sub).args = args := rfl
theorem Ex.mk_ps {k op vk vi : Int} {no : Bool} {vt tb nm : ByteArray} {pa ps : Option Addr} {ca cs : Nat} {args : List Ex} {sub : List Qu} : (Ex.mk k op no vk vi vt tb nm pa ca args ps cs sub).ps = ps := rfl
theorem Ex.mk_cs {k op vk vi : Int} {no : Bool} {vt tb nm : ByteArray} {pa ps : Option Addr} {ca cs : Nat} {args : List Ex} {sub : List Qu} : (Ex.mk k op no vk vi vt tb nm pa ca args ps cs sub).cs = cs := rfl
theorem Ex.mk_sub {k op vk vi : Int} {no : Bool} {vt tb nm : ByteArray} {pa ps : Option Addr} {ca cs : Nat} {args : List Ex} {sub : List Qu} : (Ex.mk k op no vk vi vt tb nm pa ca args ps cs sub).sub = sub := rfl
theorem field_bnd (a b c d : Int) (w : World) : (Instr.field 52 (.agg #[.int .i64 a, .int .i64 b, .int .i64 c, .int .i64 d]) 0).run Tryd.prog w = .ok (.int .i64 a) w := by
  have hi := info_parts (show (Tryd.prog.info? 3).map (fun i => (i.zero, i.size, i.bytes)) = some (some (.int .i64 0), 1, 8) by kernel_rfl)
  obtain ⟨i0, hi, hz0, hz1, hz2⟩ := hi
  simp only [Instr.field, Sem.run_bind, run_underlying Tryd.underlying52, Result.andThen]
  go_simp
  simp [asAgg, Result.andThen]
set_option maxHeartbeats 1000000 in
theorem prec_any (e : Ex) (w : World) (hE : Env ls w) (hm : 1 ∈ ls) :
    Calls Tryd.prog 8 #[exV e] w fun r w' => r = .returned (.int .i64 (prec e.k e.op)) ∧ Below w.heap.size w w' := by
  obtain ⟨k, op, no, vk, vi, vt, tb, nm, pa, ca, args, ps, cs, sub⟩ := e
  show Calls _ _ #[.agg #[.int .i64 k, .int .i64 op, .bool no, .int .i64 vk, .int .i64 vi, .string vt, .string tb, .string nm, .slice pa args.length ca, .slice ps sub.length cs]] w fun r w' => r = .returned (.int .i64 (prec k op)) ∧ Below w.heap.size w w'
  have HE := Lib.hid hE
  clear hE
  go_enter Tryd.func8, Tryd.ntmps8
  go_wp2_with fail
  refine (binding_any k op vk vi no vt tb nm pa ps _ _ _ _ _ (HE.out.alloc _) hm).mono ?_
  rintro e w' ⟨rfl, hb⟩
  have HB := Lib.hid (Below.of_alloc hb)
  clear hb
  have hf := field_bnd (prec k op) (plA k op) (plB k op) (plC k)
  go_wp2
  go_ret
  exact ⟨rfl, HB.out⟩
def plN (k op : Int) (i : Nat) : Int := if i = 0 then plA k op else if i = 1 then plB k op else plC k
theorem pl_least {V : Ex → Bool} {e : Ex} (h : Fine V e) {i : Nat} (hi : i < e.args.length) : plN e.k e.op i = least e.k e.op i := by
  have h1 := h.argn
  have hop := h.op5
  have hlo := h.lo
  have hhi := h.hi
  generalize e.k = k at *
  generalize e.op = op at *
  have hk : k = 3 ∨ k = 4 ∨ k = 5 ∨ k = 6 ∨ k = 7 := by
    rcases (show k = 1 ∨ k = 2 ∨ k = 3 ∨ k = 4 ∨ k = 5 ∨ k = 6 ∨ k = 7 ∨ 8 ≤ k by omega) with h | h | h | h | h | h | h | h
    · rw [h] at h1; have h1 : e.args.length = 0 := h1; omega
    · rw [h] at h1; have h1 : e.args.length = 0 := h1; omega
    all_goals first | omega | skip
    rw [show argN k = 0 by unfold argN; rw [if_neg (by omega), if_neg (by omega), if_neg (by omega)]] at h1
    omega
  rw [h1] at hi
  clear h1 h hlo hhi
  rcases hk with rfl | rfl | rfl | rfl | rfl
  · have hi : i < 1 := hi
    obtain rfl : i = 0 := by omega
    rfl
  · have hi : i < 1 := hi
    obtain rfl : i = 0 := by omega
    rfl
  · have hi : i < 2 := hi
    have ho := hop rfl
    have h13 : op = 1 ∨ op = 2 ∨ op = 3 ∨ op = 4 ∨ op = 5 ∨ op = 6 ∨ op = 7 ∨ op = 8 ∨ op = 9 ∨ op = 10 ∨ op = 11 ∨ op = 12 ∨ op = 13 := by omega
    have hi2 : i = 0 ∨ i = 1 := by omega
    clear hop ho hi
    rcases h13 with rfl | rfl | rfl | rfl | rfl | rfl | rfl | rfl | rfl | rfl | rfl | rfl | rfl <;> rcases hi2 with rfl | rfl <;> rfl
  · have hi : i < 1 := hi
    obtain rfl : i = 0 := by omega
    rfl
  · have hi : i < 3 := hi
    have hi2 : i = 0 ∨ i = 1 ∨ i = 2 := by omega
    rcases hi2 with rfl | rfl | rfl <;> rfl
theorem fine_three {V : Ex → Bool} {e : Ex} (h : Fine V e) : e.args.length ≤ 3 := by
  rw [h.argn]; unfold argN; repeat' split
  all_goals omega
theorem place_cell {u : World} {X : Nat} {k op : Int} (h1 : u.cell? ⟨X, 1, none⟩ = some (.int .i64 (plA k op))) (h2 : u.cell? ⟨X, 2, none⟩ = some (.int .i64 (plB k op))) (h3 : u.cell? ⟨X, 3, none⟩ = some (.int .i64 (plC k))) {i : Nat} (hi : i < 3) :
    u.cell? ⟨X, 1 + i, none⟩ = some (.int .i64 (plN k op i)) := by
  have hi2 : i = 0 ∨ i = 1 ∨ i = 2 := by omega
  rcases hi2 with rfl | rfl | rfl
  · exact h1
  · exact h2
  · exact h3
set_option maxHeartbeats 1000000 in
theorem inPar_any {N : Nat → Prop} {P : Ex → Prop} (k op vk vi : Int) (no : Bool) (vt tb nm : ByteArray) (p q : Option Addr) (args : List Ex) (c n' c' : Nat) (i : Nat) (w : World) (hE : Env ls w) (hm : 1 ∈ ls) (hi : i < args.length) (h3 : i < 3) (hA : LAt N w P p args) :
    Calls Tryd.prog 39 #[.agg #[.int .i64 k, .int .i64 op, .bool no, .int .i64 vk, .int .i64 vi, .string vt, .string tb, .string nm, .slice p args.length c, .slice q n' c'], .int .i64 i] w
      fun r w' => r = .returned (.bool (decide (prec (eAt args i).k (eAt args i).op < plN k op i))) ∧ Below w.heap.size w w' := by
  have HE := Lib.hid hE
  have HA := Lib.hid (hA i hi)
  clear hE hA
  go_enter Tryd.func39, Tryd.ntmps39
  go_wp2_with fail
  refine (binding_any k op vk vi no vt tb nm p q _ _ _ _ _ (HE.out.alloc _) hm).mono ?_
  rintro e w' ⟨rfl, hb⟩
  have hbx := Below.of_alloc hb
  have hx8 : w'.cell? ⟨w.heap.size, 8, none⟩ = some (.slice p args.length c) := by rw [hb.cell (by simp)]; go_simp
  have hxl : w.heap.size < w'.heap.size := Nat.lt_of_lt_of_le (by simp) hb.size
  obtain ⟨g, o, rfl, hg, -, hC, -⟩ := HA.out
  have hC1 := hC.keep (hbx.block g hg)
  have hg1 := Nat.lt_of_lt_of_le hg hbx.size
  have HE1 := Lib.hid ((HE.out.alloc _).low hb)
  go_wp2_with fail
  have hbb := below_alloc w' (.cells #[.int .i64 (prec k op), .int .i64 (plA k op), .int .i64 (plB k op), .int .i64 (plC k)] 52)
  have hC2 := hC1.keep (hbb.block g hg1)
  have hg2 := Nat.lt_of_lt_of_le hg1 hbb.size
  have HE2 := Lib.hid (HE1.out.low hbb)
  have HB2 := Lib.hid (below_next hbx hbb)
  have hx9 : (w'.alloc (.cells #[.int .i64 (prec k op), .int .i64 (plA k op), .int .i64 (plB k op), .int .i64 (plC k)] 52)).cell? ⟨w.heap.size, 8, none⟩ = some (.slice (some ⟨g, o, none⟩) args.length c) := by rw [hbb.cell (by exact hxl)]; exact hx8
  have hxl2 := Nat.lt_of_lt_of_le hxl hbb.size
  obtain ⟨bl, b0, b1, b2, b3, -⟩ := cell4_new w' (.int .i64 (prec k op)) (.int .i64 (plA k op)) (.int .i64 (plB k op)) (.int .i64 (plC k)) 52
  have hpc := place_cell b1 b2 b3 h3
  generalize hW2 : w'.alloc (.cells #[.int .i64 (prec k op), .int .i64 (plA k op), .int .i64 (plB k op), .int .i64 (plC k)] 52) = W2 at *
  generalize w'.heap.size = Y at *
  generalize hpl : plN k op i = pl at *
  have l8 := lowW_cell (W := W2) (by exact hxl2) hx9
  have lp := lowW_cell (W := W2) (by exact bl) hpc
  have m0 := lowW_cell (W := W2) (by exact hg2) hC2.c0
  have m1 := lowW_cell (W := W2) (by exact hg2) hC2.c1
  have m2 := lowW_cell (W := W2) (by exact hg2) hC2.c2
  have m3 := lowW_cell (W := W2) (by exact hg2) hC2.c3
  have m4 := lowW_cell (W := W2) (by exact hg2) hC2.c4
  have m5 := lowW_cell (W := W2) (by exact hg2) hC2.c5
  have m6 := lowW_cell (W := W2) (by exact hg2) hC2.c6
  have m7 := lowW_cell (W := W2) (by exact hg2) hC2.c7
  have m8 := lowW_cell (W := W2) (by exact hg2) hC2.c8
  have m9 := lowW_cell (W := W2) (by exact hg2) hC2.c9
  have hi3 : decide ((i : Int) < 3) = true := decide_eq_true (by omega)
  have hia : (i : Int) < args.length := by omega
  have hi3' : (i : Int) < 3 := by omega
  have hC3 := Lib.hid (prec_any (ls := ls) (eAt args i))
  unfold exV at hC3
  generalize hxe : eAt args i = x at *
  have HXE := Lib.hid hxe
  have HPL := Lib.hid hpl
  clear hxe hpl
  refine wp_region_low (by kernel_rfl) (by kernel_rfl) ?_
  repeat (refine wq_step (fun K hK => ?_); go_simp; first | (refine hK _ ?_; clear hK K) | (apply Exists.intro; refine ⟨fun _ => ?_, hK _ ?_⟩; (go_at_call 8; exact Calls.low_of (hC3.out _ (HE2.out.low (lowW_low _ _ _)) hm)); clear hK K))
  refine wq_nil ?_
  rintro _ ⟨⟨d3, os3⟩, rfl⟩
  dsimp only
  have HB3 := Lib.hid (below_next HB2.out (lowW_low W2 d3 os3))
  clear l8 lp m0 m1 m2 m3 m4 m5 m6 m7 m8 m9
  generalize lowW W2 d3 os3 = W3 at HB3 ⊢
  go_wp2
  go_ret
  exact ⟨ret_bool (by rw [HXE.out, HPL.out]), HB3.out⟩
end Go.Proofs.YtdlehlbahkikgaaDoor
/-
  Names: what the tape's Name gives; the words of the program, one by one.
-/
namespace Go.Proofs.YtdlehlbahkikgaaDoor
set_option maxRecDepth 100000
open Go.RowKit
variable {ls : List Nat}

def NamePost (b : Nat) (w : World) (e : Ending) (w' : World) : Prop := ∃ i : Nat, e = .returned (.string (nameS i)) ∧ i < 8 ∧ TapeAt w' b ∧ StepT b w w'
set_option maxHeartbeats 400000 in
theorem name_any (b : Nat) (w : World) (hb : 4 ≤ b) (ht : TapeAt w b) (hE : Env ls w) (hm : 0 ∈ ls) :
    Calls Tryd.prog 16 #[.pointer (some ⟨b, 0, none⟩)] w (NamePost b w) := by
  go_enter Tryd.func16, Tryd.ntmps16
  go_wp2_with fail
  refine (next_any b _ _ (by omega) (by omega) ht).mono ?_
  rintro e w' ⟨r, rfl, hr0, hr1, ht1, hs1⟩
  have HS := Lib.hid hs1
  have HT := Lib.hid ht1
  obtain ⟨i, rfl⟩ : ∃ i : Nat, r = i := ⟨r.toNat, by omega⟩
  have hc := (hE.step hs1 hb).names hm i (by omega)
  clear hs1 ht1
  go_wp2
  go_ret
  exact ⟨i, rfl, by omega, HT.out, HS.out⟩
theorem name_all {P : ByteArray → Prop} (h : ∀ i : Fin 8, P (nameS i)) (i : Nat) (hi : i < 8) : P (nameS i) := h ⟨i, hi⟩
end Go.Proofs.YtdlehlbahkikgaaDoor
/-
  Rows that a call owns, behind calls that turn other blocks.
-/
namespace Go.Proofs.YtdlehlbahkikgaaDoor
set_option maxRecDepth 100000
open Go.RowKit

theorem i64w {z : Int} (h : -9223372036854775808 ≤ z) (h2 : z ≤ 9223372036854775807) : IntKind.i64.wrap z = z := by rw [IntKind.wrap_i64]; omega
theorem owns_block {w : World} {base n size : Nat} {e : TypeId} {v : Value} {xs : List Value} (h : w.ownsRow base e size v n xs) : ∀ k, v.ownBlock = some k → base ≤ k := by
  intro k hk
  rcases h.2 with ⟨rfl, -⟩ | ⟨g, cap, cur, rfl, hg, -⟩
  · cases hk
  · obtain rfl := Option.some.inj hk; exact hg
theorem owns_keep {w w' : World} {base n size : Nat} {e : TypeId} {v : Value} {xs : List Value} (h : w.ownsRow base e size v n xs) (hk : ∀ k, v.ownBlock = some k → w'.heap[k]? = w.heap[k]?) : w'.ownsRow base e size v n xs := by
  refine ⟨h.1, ?_⟩
  rcases h.2 with h2 | ⟨g, cap, cur, rfl, hg, hh, r⟩
  · exact Or.inl h2
  · exact Or.inr ⟨g, cap, cur, rfl, hg, by rw [hk g rfl]; exact hh, r⟩
theorem owns_lt {w : World} {base n size : Nat} {e : TypeId} {v : Value} {xs : List Value} (h : w.ownsRow base e size v n xs) : ∀ k, v.ownBlock = some k → k < w.heap.size := by
  intro k hk
  rcases h.2 with ⟨rfl, -⟩ | ⟨g, cap, cur, rfl, hg, hh, -⟩
  · cases hk
  · obtain rfl := Option.some.inj hk; exact (Array.getElem?_eq_some_iff.1 hh).1
theorem owns_base {w : World} {base base' n size : Nat} {e : TypeId} {v : Value} {xs : List Value} (h : w.ownsRow base e size v n xs) (hb : base' ≤ base) : w.ownsRow base' e size v n xs := by
  refine ⟨h.1, ?_⟩
  rcases h.2 with h2 | ⟨g, cap, cur, rfl, hg, r⟩
  · exact Or.inl h2
  · exact Or.inr ⟨g, cap, cur, rfl, Nat.le_trans hb hg, r⟩
theorem owns_step {w w' : World} {b base n size : Nat} {e : TypeId} {v : Value} {xs : List Value} (h : w.ownsRow base e size v n xs) (hb : b < base) (hs : StepT b w w') : w'.ownsRow base e size v n xs :=
  owns_keep h fun k hk => hs.block k (owns_lt h k hk) (by have := owns_block h k hk; omega)
/-- Two rows of different types lie in different blocks. -/
theorem owns_apart {w : World} {base base' n n' size size' : Nat} {e e' : TypeId} {v v' : Value} {xs xs' : List Value} (h : w.ownsRow base e size v n xs) (h' : w.ownsRow base' e' size' v' n' xs') (he : e ≠ e') (k : Nat) (hk : v.ownBlock = some k) : v'.ownBlock ≠ some k := by
  intro hk'
  rcases h.2 with ⟨rfl, -⟩ | ⟨g, cap, cur, rfl, hg, hh, -⟩
  · cases hk
  · rcases h'.2 with ⟨rfl, -⟩ | ⟨g', cap', cur', rfl, hg', hh', -⟩
    · cases hk'
    · obtain rfl := Option.some.inj hk
      have hgg : g' = g := Option.some.inj hk'
      rw [hgg] at hh'
      have hh2 := hh.symm.trans hh'
      injection hh2 with hh2
      injection hh2 with _ h2 _
      exact he h2

theorem step_grown {b : Nat} {u v : World} {row : Option Nat} (hg : u.grownBy v row) (hr : ∀ k, row = some k → u.heap.size ≤ k ∨ k = b) : StepT b u v :=
  ⟨hg.os, hg.tape, hg.output, hg.size, fun k hk hb => hg.block k hk (by intro he; rcases hr k he.symm with h | h <;> omega)⟩
/-- Behind a growth of a row that the call has made since u0. -/
theorem step_grown_from {b : Nat} {u0 u v : World} {row : Option Nat} (h : StepT b u0 u) (hg : u.grownBy v row) (hr : ∀ k, row = some k → u0.heap.size ≤ k) : StepT b u0 v :=
  ⟨hg.os.trans h.os, hg.tape.trans h.tape, hg.output.trans h.output, Nat.le_trans h.size hg.size, fun k hk hb => (hg.block k (Nat.lt_of_lt_of_le hk h.size) (by intro he; have := hr k he.symm; omega)).trans (h.block k hk hb)⟩
theorem TapeAt.grown {b : Nat} {u v : World} {row : Option Nat} (h : TapeAt u b) (hg : u.grownBy v row) (hr : ∀ k, row = some k → b < k) : TapeAt v b :=
  h.keep (fun k hk => hg.block k (Nat.lt_of_le_of_lt hk h.lt) (by intro he; have := hr k he.symm; omega)) hg.size
end Go.Proofs.YtdlehlbahkikgaaDoor
