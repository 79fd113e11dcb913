/-
  Several texts in one.
-/
import Derived.Test.YtgaihglploedaaaDoorPk21
import Derived.Test.YtgaihglploedaaaDoorPk19
import Derived.Test.YtgaihglploedaaaDoorPk20
/-
  The tables of the world: the name of one, a table that is built row by row.
-/
namespace Go.Proofs.YtgaihglploedaaaDoor
set_option maxRecDepth 100000
open Go.RowKit
variable {ls : List Nat}

def TablePost (b : Nat) (w : World) (e : Ending) (w' : World) : Prop := ∃ q : Nat, e = .returned (.string (wsNm q)) ∧ q < 3 ∧ TapeAt w' b ∧ StepT b w w'
set_option maxHeartbeats 1000000 in
theorem table_any (b : Nat) (w : World) (ht : TapeAt w b) :
    Calls Tryd.prog 34 #[.pointer (some ⟨b, 0, none⟩)] w (TablePost b w) := by
  have hlt := ht.lt
  have HB := Lib.hid ((StepT.refl b w).alloc (.cells #[.string ⟨#[116]⟩, .string ⟨#[117]⟩, .string ⟨#[108, 111, 103]⟩] 9))
  have HT := Lib.hid (ht.alloc (.cells #[.string ⟨#[116]⟩, .string ⟨#[117]⟩, .string ⟨#[108, 111, 103]⟩] 9))
  have h0 : ∀ i : Nat, i < 3 → (w.alloc (.cells #[.string ⟨#[116]⟩, .string ⟨#[117]⟩, .string ⟨#[108, 111, 103]⟩] 9)).cell? ⟨w.heap.size, i, none⟩ = some (.string (wsNm i)) := by
    intro i hi
    obtain rfl | rfl | rfl : i = 0 ∨ i = 1 ∨ i = 2 := by omega
    all_goals go_simp; rfl
  have H0 := Lib.hid h0
  clear h0 ht
  go_enter Tryd.func34, Tryd.ntmps34
  go_wp2_with fail
  refine (next_any b _ _ (by omega) (by omega) HT.out).mono ?_
  rintro e w' ⟨r, rfl, hr0, hr1, ht1, hs1⟩
  obtain ⟨q, rfl⟩ : ∃ q : Nat, r = q := ⟨r.toNat, by omega⟩
  have hc := H0.out q (by omega)
  have hc2 : w'.cell? ⟨w.heap.size, q, none⟩ = some (.string (wsNm q)) := by
    rw [hs1.cell (by show w.heap.size < _; rw [size_alloc]; omega) (by show w.heap.size ≠ b; omega)]; exact hc
  have HT1 := Lib.hid ht1
  have HS1 := Lib.hid (HB.out.trans hs1)
  clear ht1 hs1 hc H0 HB HT
  go_wp2
  go_ret
  exact ⟨q, rfl, by omega, HT1.out, HS1.out⟩

/-- What a table holds while it is built. -/
structure GoodT (f : Nat → Col) (n : Nat) (m : Nat) (nx : Int) (R : List TRow) : Prop where
  lo : 1 ≤ nx
  hi : nx ≤ 3 + 2 * m
  len : R.length ≤ m
  ok : ∀ i, i < R.length → RowOK f n nx R i
  dup : (keysR (findKey f n) R).Nodup
  sized : ∀ r ∈ R, ValsSized r.2
theorem GoodT.nil {f : Nat → Col} {n : Nat} {nx : Int} (h1 : 1 ≤ nx) (h2 : nx ≤ 3) : GoodT f n 0 nx [] := ⟨h1, by omega, Nat.le_refl _, fun i hi => by simp at hi, List.nodup_nil, fun r hr => by cases hr⟩
theorem GoodT.keep {f : Nat → Col} {n m : Nat} {nx nx' : Int} {R : List TRow} (h : GoodT f n m nx R) (h1 : nx ≤ nx') (h2 : nx' ≤ nx + 2) : GoodT f n (m + 1) nx' R :=
  ⟨by have := h.lo; omega, by have := h.hi; omega, by have := h.len; omega, fun i hi => by obtain ⟨a, b, c, d⟩ := h.ok i hi; exact ⟨a, by omega, c, d⟩, h.dup, h.sized⟩
theorem keysR_add (k : Int) (R : List TRow) (r : TRow) : keysR k (R ++ [r]) = keysR k R ++ (keyV k r.2).toList := by
  unfold keysR
  rw [List.filterMap_append]
  cases hk : keyV k r.2 with
  | none => rw [List.filterMap_cons_none (by exact hk)]; rfl
  | some v => rw [List.filterMap_cons_some (by exact hk)]; rfl
theorem GoodT.add {f : Nat → Col} {n m : Nat} {nx nx' : Int} {R : List TRow} {r : List Val} (h : GoodT f n m nx R) (hr : fitsRow f n r = 0) (hs : ValsSized r) (hk : ∀ i, i < R.length → ∀ v, keyV (findKey f n) r = some v → keyV (findKey f n) (tAt R i).2 ≠ some v) (h1 : nx + 1 ≤ nx') (h2 : nx' ≤ nx + 2) : GoodT f n (m + 1) nx' (R ++ [(nx, r)]) := by
  have hlo := h.lo
  refine ⟨by omega, by have := h.hi; omega, by rw [List.length_append, List.length_singleton]; have := h.len; omega, fun i hi => ?_, ?_, fun x hx => ?_⟩
  · rw [List.length_append, List.length_singleton] at hi
    unfold RowOK
    by_cases hin : i < R.length
    · obtain ⟨a, b, c, d⟩ := h.ok i hin
      rw [tAt_left hin]
      exact ⟨a, by omega, fun h0 => by rw [tAt_left (by omega)]; exact c h0, d⟩
    · obtain rfl : i = R.length := by omega
      rw [tAt_last]
      refine ⟨hlo, by show nx < nx'; omega, fun h0 => ?_, hr⟩
      rw [tAt_left (by omega)]
      exact (h.ok (R.length - 1) (by omega)).2.1
  · rw [keysR_add, List.nodup_append]
    refine ⟨h.dup, ?_, fun a ha b hb => ?_⟩
    · cases keyV (findKey f n) r <;> simp
    · rintro rfl
      cases hkr : keyV (findKey f n) r with
      | none => rw [hkr] at hb; simp at hb
      | some v =>
        rw [hkr] at hb
        have hb2 : a = v := by simpa using hb
        subst hb2
        unfold keysR at ha
        obtain ⟨x, hx, hxa⟩ := List.mem_filterMap.1 ha
        obtain ⟨i, hi, rfl⟩ := List.getElem_of_mem hx
        exact hk i hi _ hkr (by rw [tAt_get hi]; exact hxa)
  · rcases List.mem_append.1 hx with hx | hx
    · exact h.sized x hx
    · obtain rfl := List.mem_singleton.1 hx
      exact hs
theorem GoodT.valid {f : Nat → Col} {n m : Nat} {nx : Int} {R : List TRow} {nm : ByteArray} (h : GoodT f n m nx R) (hm : m ≤ 50) (hs : schemaOK nm n f = true) : validT nm n f nx R = true := by
  rw [validT_dup hs ⟨by have := h.len; omega, h.lo, by have := h.hi; omega⟩ h.ok, dupR_no h.dup]
  rfl

/-- Is a row's key none of the first d rows'? -/
def freshB (k : Int) (R : List TRow) (r : List Val) (d : Nat) : Bool := decide (k < 0 ∨ ∀ i, i < d → keyV k (tAt R i).2 ≠ keyV k r)
theorem freshB_zero (k : Int) (R : List TRow) (r : List Val) : freshB k R r 0 = true := decide_eq_true (.inr fun i hi => by omega)
theorem freshB_neg {k : Int} {R : List TRow} {r : List Val} {d : Nat} (h : k < 0) : freshB k R r d = true := decide_eq_true (.inl h)
theorem freshB_not {k : Int} {R : List TRow} {r : List Val} {d : Nat} (h : freshB k R r d = false) : freshB k R r (d + 1) = false := by
  unfold freshB at h ⊢
  apply decide_eq_false
  rintro (h2 | h2)
  · exact of_decide_eq_false h (.inl h2)
  · exact of_decide_eq_false h (.inr fun i hi => h2 i (by omega))
theorem freshB_hit {k : Nat} {R : List TRow} {r : List Val} {d : Nat} (h1 : k < (tAt R d).2.length) (h2 : k < r.length) (he : vAt (tAt R d).2 k = vAt r k) : freshB k R r (d + 1) = false := by
  apply decide_eq_false
  rintro (h | h)
  · omega
  · exact h d (Nat.lt_succ_self _) (by rw [keyV_some h1, keyV_some h2, he])
theorem freshB_miss {k : Nat} {R : List TRow} {r : List Val} {d : Nat} (h : freshB k R r d = true) (h1 : k < (tAt R d).2.length) (h2 : k < r.length) (he : vAt (tAt R d).2 k ≠ vAt r k) : freshB k R r (d + 1) = true := by
  have h' := of_decide_eq_true h
  apply decide_eq_true
  rcases h' with h' | h'
  · omega
  · refine .inr fun i hi => ?_
    by_cases hid : i < d
    · exact h' i hid
    · obtain rfl : i = d := by omega
      rw [keyV_some h1, keyV_some h2]
      exact fun e => he (Option.some.inj e)
theorem freshB_all {k : Int} {R : List TRow} {r : List Val} (h : freshB k R r R.length = true) : ∀ i, i < R.length → ∀ v, keyV k r = some v → keyV k (tAt R i).2 ≠ some v := by
  intro i hi v hv
  rcases of_decide_eq_true h with h' | h'
  · rw [keyV_neg h'] at hv; cases hv
  · rw [← hv]; exact h' i hi

/-- The first key column of a schema in which there is one at most. -/
theorem findKey_zero (f : Nat → Col) : findKey f 0 = -1 := rfl
theorem findKey_add {f : Nat → Col} {n : Nat} (hg : Good f n) : findKey f (n + 1) = if (f n).key then (n : Int) else findKey f n := by
  cases hk : (f n).key
  · show findI _ _ = findI _ _
    unfold findI
    rw [List.range_succ, List.find?_append, List.find?_cons_of_neg (by rw [hk]; decide)]
    cases (List.range n).find? fun i => (f i).key <;> rfl
  · exact findI_hit (P := fun i => (f i).key) (Nat.lt_succ_self _) hk (hg.2.2 hk)
theorem schemaOK_good {nm : ByteArray} {n : Nat} {f : Nat → Col} (h : schemaOK nm n f = true) : ∀ i, i < n → Good f i := by
  unfold schemaOK at h
  simp only [Bool.and_eq_true, decide_eq_true_eq] at h
  exact h.2
theorem Good.ty {f : Nat → Col} {i : Nat} (h : Good f i) : 1 ≤ (f i).ty ∧ (f i).ty ≤ 3 := by
  have h1 := h.1
  unfold colOK at h1
  simp only [Bool.and_eq_true] at h1
  have h2 := h1.1.2
  unfold tyOK at h2
  simpa using h2
end Go.Proofs.YtgaihglploedaaaDoor
