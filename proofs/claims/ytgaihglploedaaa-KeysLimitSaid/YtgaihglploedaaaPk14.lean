/-
  Several texts in one.
-/
import Derived.Test.YtgaihglploedaaaPk13
import Derived.Test.YtgaihglploedaaaPk11
import Derived.Test.YtgaihglploedaaaPk10
/-
  The schemas of the world, by name.
-/
namespace Go.Proofs.Ytgaihglploedaaa
set_option maxRecDepth 100000
open Go.RowKit
variable {ls : List Nat}
def SchemaLogPost (w : World) (e : Ending) (w' : World) : Prop := ∃ Z : Nat, e = .returned (schV ⟨#[108, 111, 103]⟩ (some ⟨Z, 0, none⟩) 2 2) ∧ ColsAt w' (some ⟨Z, 0, none⟩) 2 colLog ∧ w.heap.size < Z ∧ Below w.heap.size w w'
set_option maxHeartbeats 1000000 in
theorem schemaLog_any (w : World) :
    Calls Try.prog 7 #[.string ⟨#[108, 111, 103]⟩] w (SchemaLogPost w) := by
  go_enter Try.func7, Try.ntmps7
  go_wp2_with fail
  refine (schemas_any _).mono ?_
  rintro e w1 ⟨X, Y, Z, U, rfl, hS, hX, hY, hZ, hU, hb⟩
  obtain ⟨hq, hb'⟩ := two_one hb
  have HZ : Hid (w.heap.size < Y) := Lib.hid (by rw [size_alloc] at hY; omega)
  have HX : Hid (w.heap.size < X) := Lib.hid (by rw [size_alloc] at hX; omega)
  have HS := Lib.hid hS
  have HQ := Lib.hid hq
  have HB := Lib.hid hb'
  clear hX hY hZ hU hS hb hb' hq
  have e0 : ((⟨#[108, 111, 103]⟩ : ByteArray).toList == (⟨#[108, 111, 103]⟩ : ByteArray).toList) = true := eq_texts rfl
  go_wp2_with fail
  go_loopw [7] (fun i v => ∃ k : Nat, k ≤ 0 ∧ i = .int .i64 k ∧ Below w.heap.size w v ∧ SchemasAt v X Y Z U ∧ Cell2 v w.heap.size (.string ⟨#[]⟩) (.slice none 0 0)) (fun i _ => 3 - (intOf i).toNat)
  case atStart => exact ⟨0, Nat.zero_le _, rfl, HB.out, HS.out, HQ.out⟩
  case round =>
    obtain ⟨k, hk, rfl, hb, hs, hq⟩ := hrel
    have HB1 := Lib.hid hb
    have HS1 := Lib.hid hs
    have HQ1 := Lib.hid hq
    obtain ⟨hl, c0, c1, c2, c3, c4, c5, hcl, hct, hcu⟩ := hs
    obtain ⟨dz, d0, d1, dfz⟩ := hq
    clear hb hcl hct hcu
    obtain rfl : k = 0 := by omega
    go_wp2
    obtain ⟨sz, s0, s1, sf⟩ := (cell2_set HQ1.out (.string ⟨#[108, 111, 103]⟩) (.slice (some ⟨Y, 0, none⟩) 2 2)).low (below_alloc _ (.cells #[.string ⟨#[108, 111, 103]⟩, .slice (some ⟨Y, 0, none⟩) 2 2] 25))
    exact bodyPost_ret (v := schV ⟨#[108, 111, 103]⟩ (some ⟨Y, 0, none⟩) 2 2) (by simp [results, Try.results7, go_sem, s0, s1, schV]) rfl ⟨Y, rfl, ((HS1.out.logC.set (fun q hq => by cases hq; exact Nat.ne_of_gt HZ.out) _).set (fun q hq => by cases hq; exact Nat.ne_of_gt HZ.out) _).low (below_alloc _ _), HZ.out, below_new ((HB1.out.setCell (by exact Nat.le_refl _) _).setCell (by exact Nat.le_refl _) _) _⟩
def SchemaUPost (w : World) (e : Ending) (w' : World) : Prop := ∃ Z : Nat, e = .returned (schV ⟨#[117]⟩ (some ⟨Z, 0, none⟩) 3 3) ∧ ColsAt w' (some ⟨Z, 0, none⟩) 3 colU ∧ w.heap.size < Z ∧ Below w.heap.size w w'
set_option maxHeartbeats 1000000 in
theorem schemaU_any (w : World) :
    Calls Try.prog 7 #[.string ⟨#[117]⟩] w (SchemaUPost w) := by
  go_enter Try.func7, Try.ntmps7
  go_wp2_with fail
  refine (schemas_any _).mono ?_
  rintro e w1 ⟨X, Y, Z, U, rfl, hS, hX, hY, hZ, hU, hb⟩
  obtain ⟨hq, hb'⟩ := two_one hb
  have HZ : Hid (w.heap.size < U) := Lib.hid (by rw [size_alloc] at hU; omega)
  have HX : Hid (w.heap.size < X) := Lib.hid (by rw [size_alloc] at hX; omega)
  have HS := Lib.hid hS
  have HQ := Lib.hid hq
  have HB := Lib.hid hb'
  clear hX hY hZ hU hS hb hb' hq
  have e0 : ((⟨#[108, 111, 103]⟩ : ByteArray).toList == (⟨#[117]⟩ : ByteArray).toList) = false := ne_texts (by decide)
  have e1 : ((⟨#[116]⟩ : ByteArray).toList == (⟨#[117]⟩ : ByteArray).toList) = false := ne_texts (by decide)
  have e2 : ((⟨#[117]⟩ : ByteArray).toList == (⟨#[117]⟩ : ByteArray).toList) = true := eq_texts rfl
  go_wp2_with fail
  go_loopw [7] (fun i v => ∃ k : Nat, k ≤ 2 ∧ i = .int .i64 k ∧ Below w.heap.size w v ∧ SchemasAt v X Y Z U ∧ Cell2 v w.heap.size (.string ⟨#[]⟩) (.slice none 0 0)) (fun i _ => 3 - (intOf i).toNat)
  case atStart => exact ⟨0, Nat.zero_le _, rfl, HB.out, HS.out, HQ.out⟩
  case round =>
    obtain ⟨k, hk, rfl, hb, hs, hq⟩ := hrel
    have HB1 := Lib.hid hb
    have HS1 := Lib.hid hs
    have HQ1 := Lib.hid hq
    obtain ⟨hl, c0, c1, c2, c3, c4, c5, hcl, hct, hcu⟩ := hs
    obtain ⟨dz, d0, d1, dfz⟩ := hq
    clear hb hcl hct hcu
    obtain rfl | rfl | rfl : k = 0 ∨ k = 1 ∨ k = 2 := by omega
    · go_wp2
      go_roundw
      case rel => exact ⟨1, by omega, by go_num, below_new HB1.out _, HS1.out.low (below_alloc _ _), HQ1.out.low (below_alloc _ _)⟩
      case measure => simp [intOf]
    · go_wp2
      go_roundw
      case rel => exact ⟨2, by omega, by go_num, below_new HB1.out _, HS1.out.low (below_alloc _ _), HQ1.out.low (below_alloc _ _)⟩
      case measure => simp [intOf]
    · go_wp2
      obtain ⟨sz, s0, s1, sf⟩ := (cell2_set HQ1.out (.string ⟨#[117]⟩) (.slice (some ⟨U, 0, none⟩) 3 3)).low (below_alloc _ (.cells #[.string ⟨#[117]⟩, .slice (some ⟨U, 0, none⟩) 3 3] 25))
      exact bodyPost_ret (v := schV ⟨#[117]⟩ (some ⟨U, 0, none⟩) 3 3) (by simp [results, Try.results7, go_sem, s0, s1, schV]) rfl ⟨U, rfl, ((HS1.out.uC.set (fun q hq => by cases hq; exact Nat.ne_of_gt HZ.out) _).set (fun q hq => by cases hq; exact Nat.ne_of_gt HZ.out) _).low (below_alloc _ _), HZ.out, below_new ((HB1.out.setCell (by exact Nat.le_refl _) _).setCell (by exact Nat.le_refl _) _) _⟩

/-- The names of the tables, their columns. -/
def wsNm (k : Nat) : ByteArray := match k with | 0 => ⟨#[116]⟩ | 1 => ⟨#[117]⟩ | _ => ⟨#[108, 111, 103]⟩
def wsN (k : Nat) : Nat := match k with | 0 => 4 | 1 => 3 | _ => 2
def wsF (k : Nat) : Nat → Col := match k with | 0 => colT | 1 => colU | _ => colLog
theorem ws_valid (k : Nat) : schemaOK (wsNm k) (wsN k) (wsF k) = true := by
  match k with
  | 0 => decide +kernel
  | 1 => decide +kernel
  | _ + 2 => show schemaOK ⟨#[108, 111, 103]⟩ 2 colLog = true; decide +kernel
def SchemaKPost (k : Nat) (w : World) (e : Ending) (w' : World) : Prop := ∃ Z : Nat, e = .returned (schV (wsNm k) (some ⟨Z, 0, none⟩) (wsN k) (wsN k)) ∧ ColsAt w' (some ⟨Z, 0, none⟩) (wsN k) (wsF k) ∧ w.heap.size < Z ∧ Below w.heap.size w w'
theorem schemaK_any (k : Nat) (w : World) :
    Calls Try.prog 7 #[.string (wsNm k)] w (SchemaKPost k w) := by
  match k with
  | 0 => exact schemaT_any w
  | 1 => exact schemaU_any w
  | _ + 2 => exact schemaLog_any w
end Go.Proofs.Ytgaihglploedaaa
/-
  The tables of the world: the name of one, a table that is built row by row.
-/
namespace Go.Proofs.Ytgaihglploedaaa
set_option maxRecDepth 100000
open Go.RowKit
variable {ls : List Nat}


/-- What a table holds while it is built. -/
structure GoodT (f : Nat → Col) (n : Nat) (m : Nat) (nx : Int) (R : List TRow) : Prop where
  lo : 1 ≤ nx
  hi : nx ≤ 3 + 2 * m
  len : R.length ≤ m
  ok : ∀ i, i < R.length → RowOK f n nx R i
  dup : (keysR (findKey f n) R).Nodup
  sized : ∀ r ∈ R, ValsSized r.2
theorem GoodT.nil {f : Nat → Col} {n : Nat} {nx : Int} (h1 : 1 ≤ nx) (h2 : nx ≤ 3) : GoodT f n 0 nx [] := ⟨h1, by omega, Nat.le_refl _, fun i hi => by simp at hi, List.nodup_nil, fun r hr => by cases hr⟩
theorem GoodT.keep {f : Nat → Col} {n m : Nat} {nx nx' : Int} {R : List TRow} (h : GoodT f n m nx R) (h1 : nx ≤ nx') (h2 : nx' ≤ nx + 2) : GoodT f n (m + 1) nx' R :=
  ⟨by have := h.lo; omega, by have := h.hi; omega, by have := h.len; omega, fun i hi => by obtain ⟨a, b, c, d⟩ := h.ok i hi; exact ⟨a, by omega, c, d⟩, h.dup, h.sized⟩
theorem keysR_add (k : Int) (R : List TRow) (r : TRow) : keysR k (R ++ [r]) = keysR k R ++ (keyV k r.2).toList := by
  unfold keysR
  rw [List.filterMap_append]
  cases hk : keyV k r.2 with
  | none => rw [List.filterMap_cons_none (by exact hk)]; rfl
  | some v => rw [List.filterMap_cons_some (by exact hk)]; rfl
theorem GoodT.add {f : Nat → Col} {n m : Nat} {nx nx' : Int} {R : List TRow} {r : List Val} (h : GoodT f n m nx R) (hr : fitsRow f n r = 0) (hs : ValsSized r) (hk : ∀ i, i < R.length → ∀ v, keyV (findKey f n) r = some v → keyV (findKey f n) (tAt R i).2 ≠ some v) (h1 : nx + 1 ≤ nx') (h2 : nx' ≤ nx + 2) : GoodT f n (m + 1) nx' (R ++ [(nx, r)]) := by
  have hlo := h.lo
  refine ⟨by omega, by have := h.hi; omega, by rw [List.length_append, List.length_singleton]; have := h.len; omega, fun i hi => ?_, ?_, fun x hx => ?_⟩
  · rw [List.length_append, List.length_singleton] at hi
    unfold RowOK
    by_cases hin : i < R.length
    · obtain ⟨a, b, c, d⟩ := h.ok i hin
      rw [tAt_left hin]
      exact ⟨a, by omega, fun h0 => by rw [tAt_left (by omega)]; exact c h0, d⟩
    · obtain rfl : i = R.length := by omega
      rw [tAt_last]
      refine ⟨hlo, by show nx < nx'; omega, fun h0 => ?_, hr⟩
      rw [tAt_left (by omega)]
      exact (h.ok (R.length - 1) (by omega)).2.1
  · rw [keysR_add, List.nodup_append]
    refine ⟨h.dup, ?_, fun a ha b hb => ?_⟩
    · cases keyV (findKey f n) r <;> simp
    · rintro rfl
      cases hkr : keyV (findKey f n) r with
      | none => rw [hkr] at hb; simp at hb
      | some v =>
        rw [hkr] at hb
        have hb2 : a = v := by simpa using hb
        subst hb2
        unfold keysR at ha
        obtain ⟨x, hx, hxa⟩ := List.mem_filterMap.1 ha
        obtain ⟨i, hi, rfl⟩ := List.getElem_of_mem hx
        exact hk i hi _ hkr (by rw [tAt_get hi]; exact hxa)
  · rcases List.mem_append.1 hx with hx | hx
    · exact h.sized x hx
    · obtain rfl := List.mem_singleton.1 hx
      exact hs
theorem GoodT.valid {f : Nat → Col} {n m : Nat} {nx : Int} {R : List TRow} {nm : ByteArray} (h : GoodT f n m nx R) (hm : m ≤ 50) (hs : schemaOK nm n f = true) : validT nm n f nx R = true := by
  rw [validT_dup hs ⟨by have := h.len; omega, h.lo, by have := h.hi; omega⟩ h.ok, dupR_no h.dup]
  rfl

/-- Is a row's key none of the first d rows'? -/
def freshB (k : Int) (R : List TRow) (r : List Val) (d : Nat) : Bool := decide (k < 0 ∨ ∀ i, i < d → keyV k (tAt R i).2 ≠ keyV k r)
theorem freshB_zero (k : Int) (R : List TRow) (r : List Val) : freshB k R r 0 = true := decide_eq_true (.inr fun i hi => by omega)
theorem freshB_neg {k : Int} {R : List TRow} {r : List Val} {d : Nat} (h : k < 0) : freshB k R r d = true := decide_eq_true (.inl h)
theorem freshB_not {k : Int} {R : List TRow} {r : List Val} {d : Nat} (h : freshB k R r d = false) : freshB k R r (d + 1) = false := by
  unfold freshB at h ⊢
  apply decide_eq_false
  rintro (h2 | h2)
  · exact of_decide_eq_false h (.inl h2)
  · exact of_decide_eq_false h (.inr fun i hi => h2 i (by omega))
theorem freshB_hit {k : Nat} {R : List TRow} {r : List Val} {d : Nat} (h1 : k < (tAt R d).2.length) (h2 : k < r.length) (he : vAt (tAt R d).2 k = vAt r k) : freshB k R r (d + 1) = false := by
  apply decide_eq_false
  rintro (h | h)
  · omega
  · exact h d (Nat.lt_succ_self _) (by rw [keyV_some h1, keyV_some h2, he])
theorem freshB_miss {k : Nat} {R : List TRow} {r : List Val} {d : Nat} (h : freshB k R r d = true) (h1 : k < (tAt R d).2.length) (h2 : k < r.length) (he : vAt (tAt R d).2 k ≠ vAt r k) : freshB k R r (d + 1) = true := by
  have h' := of_decide_eq_true h
  apply decide_eq_true
  rcases h' with h' | h'
  · omega
  · refine .inr fun i hi => ?_
    by_cases hid : i < d
    · exact h' i hid
    · obtain rfl : i = d := by omega
      rw [keyV_some h1, keyV_some h2]
      exact fun e => he (Option.some.inj e)
theorem freshB_all {k : Int} {R : List TRow} {r : List Val} (h : freshB k R r R.length = true) : ∀ i, i < R.length → ∀ v, keyV k r = some v → keyV k (tAt R i).2 ≠ some v := by
  intro i hi v hv
  rcases of_decide_eq_true h with h' | h'
  · rw [keyV_neg h'] at hv; cases hv
  · rw [← hv]; exact h' i hi

/-- The first key column of a schema in which there is one at most. -/
theorem findKey_zero (f : Nat → Col) : findKey f 0 = -1 := rfl
theorem findKey_add {f : Nat → Col} {n : Nat} (hg : Good f n) : findKey f (n + 1) = if (f n).key then (n : Int) else findKey f n := by
  cases hk : (f n).key
  · show findI _ _ = findI _ _
    unfold findI
    rw [List.range_succ, List.find?_append, List.find?_cons_of_neg (by rw [hk]; decide)]
    cases (List.range n).find? fun i => (f i).key <;> rfl
  · exact findI_hit (P := fun i => (f i).key) (Nat.lt_succ_self _) hk (hg.2.2 hk)
theorem schemaOK_good {nm : ByteArray} {n : Nat} {f : Nat → Col} (h : schemaOK nm n f = true) : ∀ i, i < n → Good f i := by
  unfold schemaOK at h
  simp only [Bool.and_eq_true, decide_eq_true_eq] at h
  exact h.2
theorem Good.ty {f : Nat → Col} {i : Nat} (h : Good f i) : 1 ≤ (f i).ty ∧ (f i).ty ≤ 3 := by
  have h1 := h.1
  unfold colOK at h1
  simp only [Bool.and_eq_true] at h1
  have h2 := h1.1.2
  unfold tyOK at h2
  simpa using h2
end Go.Proofs.Ytgaihglploedaaa
/-
  What Get and Lookup find in a valid table.
-/
namespace Go.Proofs.Ytgaihglploedaaa
set_option maxRecDepth 100000
open Go.RowKit

theorem validT_parts {nm : ByteArray} {n : Nat} {f : Nat → Col} {nx : Int} {R : List TRow} (h : validT nm n f nx R = true) : schemaOK nm n f = true ∧ R.length ≤ 100 ∧ 1 ≤ nx ∧ nx ≤ 2147483648 ∧ (∀ i, i < R.length → RowOK f n nx R i) ∧ (keysR (findKey f n) R).Nodup := by
  unfold validT dupR at h
  simp only [Bool.and_eq_true, decide_eq_true_eq, Bool.not_not] at h
  exact ⟨h.1.1.1, h.1.1.2.1, h.1.1.2.2.1, h.1.1.2.2.2, h.1.2, h.2⟩
theorem ids_up {f : Nat → Col} {n : Nat} {nx : Int} {R : List TRow} (h : ∀ i, i < R.length → RowOK f n nx R i) : ∀ i, i < R.length → ∀ j, j < i → (tAt R j).1 < (tAt R i).1 := by
  intro i
  induction i with
  | zero => intro _ j hj; omega
  | succ i ih =>
    intro hi j hj
    have h1 := (h (i + 1) hi).2.2.1 (by omega)
    rw [Nat.add_sub_cancel] at h1
    by_cases hji : j = i
    · subst hji; exact h1
    · exact Int.lt_trans (ih (by omega) j (by omega)) h1
theorem get_row {f : Nat → Col} {n : Nat} {nx : Int} {R : List TRow} (h : ∀ i, i < R.length → RowOK f n nx R i) {i : Nat} (hi : i < R.length) : getR (tAt R i).1 R = some (tAt R i).2 :=
  getR_hit hi rfl fun j hj e => by have := ids_up h i hi j hj; omega
theorem get_next {f : Nat → Col} {n : Nat} {nx : Int} {R : List TRow} (h : ∀ i, i < R.length → RowOK f n nx R i) : getR nx R = none :=
  getR_none fun j hj e => by have := (h j hj).2.1; omega
theorem key_apart {k : Int} {R : List TRow} (h : (keysR k R).Nodup) {i j : Nat} (hi : i < R.length) (hj : j < i) {v : Val} (hv : keyV k (tAt R i).2 = some v) : keyV k (tAt R j).2 ≠ some v := by
  intro he
  have h1 := h.sublist (keysR_sub (i := i + 1))
  rw [keysR_take hi, hv, List.nodup_append] at h1
  refine h1.2.2 v ?_ v (by simp) rfl
  unfold keysR
  refine List.mem_filterMap.2 ⟨tAt R j, ?_, he⟩
  rw [tAt_get (by omega)]
  exact List.mem_take_iff_getElem.2 ⟨j, by omega, rfl⟩
theorem look_row {k : Int} {R : List TRow} (h : (keysR k R).Nodup) {i : Nat} (hi : i < R.length) {v : Val} (hv : keyV k (tAt R i).2 = some v) : lookR k v R = some (tAt R i).1 :=
  lookR_hit hi hv fun _ hj => key_apart h hi hj hv
theorem findKey_first {f : Nat → Col} {n : Nat} (hn : 0 < n) (h : (f 0).key = true) : findKey f n = 0 := findI_hit (P := fun i => (f i).key) hn h (fun j hj => absurd hj (Nat.not_lt_zero j))
end Go.Proofs.Ytgaihglploedaaa
/-
  Package keys: what one pass over ascending rows and lists computes (plain).
-/
namespace Go.Proofs.Ytgaihglploedaaa
set_option maxRecDepth 100000
open Go.RowKit

/-- The rows that stay, or none where the lists do not agree with the rows. -/
def remR : List TRow → List Int → List PRow → Option (List TRow)
  | [], D, U => if D = [] ∧ U = [] then some [] else none
  | r :: R, D, U =>
    if D.head? = some r.1 then remR R D.tail U
    else if (U.head?.map (·.1)) = some r.1 then
      if (pAt U 0).2.1 = r.2 then (remR R D U.tail).map ((r.1, (pAt U 0).2.2) :: ·) else none
    else (remR R D U).map (r :: ·)
/-- The lists agree with the rows. -/
structure Agree (R : List TRow) (D : List Int) (U : List PRow) : Prop where
  dup : D.Pairwise (· < ·)
  din : ∀ d ∈ D, d ∈ R.map (·.1)
  uup : (U.map (·.1)).Pairwise (· < ·)
  uin : ∀ u ∈ U, (u.1, u.2.1) ∈ R
  ud : ∀ u ∈ U, u.1 ∉ D
theorem keptR_cons {D : List Int} {U : List PRow} {r : TRow} {R : List TRow} : keptR D U (r :: R) = (if r.1 ∈ D then [] else [(r.1, newV U r)]) ++ keptR D U R := by
  unfold keptR
  by_cases h : r.1 ∈ D
  · rw [if_pos h, List.filter_cons_of_neg (by rw [decide_eq_true h]; decide)]; rfl
  · rw [if_neg h, List.filter_cons_of_pos (by rw [decide_eq_false h]; decide)]; rfl
theorem keptR_congr {D D' : List Int} {U U' : List PRow} {R : List TRow} (h : ∀ r ∈ R, (r.1 ∈ D ↔ r.1 ∈ D') ∧ newV U r = newV U' r) : keptR D U R = keptR D' U' R := by
  induction R with
  | nil => rfl
  | cons r R ih =>
    rw [keptR_cons, keptR_cons, ih fun x hx => h x (List.mem_cons_of_mem _ hx)]
    obtain ⟨h1, h2⟩ := h r List.mem_cons_self
    rw [h2]
    by_cases hd : r.1 ∈ D
    · rw [if_pos hd, if_pos (h1.1 hd)]
    · rw [if_neg hd, if_neg fun hc => hd (h1.2 hc)]
theorem newV_cons {u : PRow} {U : List PRow} {r : TRow} : newV (u :: U) r = if u.1 = r.1 then u.2.2 else newV U r := by
  unfold newV
  by_cases h : u.1 = r.1
  · rw [List.find?_cons_of_pos (by simpa using h), if_pos h]
  · rw [List.find?_cons_of_neg (by simpa using h), if_neg h]
theorem newV_no {U : List PRow} {r : TRow} (h : ∀ u ∈ U, u.1 ≠ r.1) : newV U r = r.2 := by
  induction U with
  | nil => rfl
  | cons u U ih => rw [newV_cons, if_neg (h u List.mem_cons_self), ih fun x hx => h x (List.mem_cons_of_mem _ hx)]
theorem ids_lt {r : TRow} {R : List TRow} (h : ((r :: R).map (·.1)).Pairwise (· < ·)) {x : TRow} (hx : x ∈ R) : r.1 < x.1 := by
  rw [List.map_cons, List.pairwise_cons] at h
  exact h.1 _ (List.mem_map.2 ⟨x, hx, rfl⟩)
theorem idsl_lt {r : TRow} {R : List TRow} (h : ((r :: R).map (·.1)).Pairwise (· < ·)) {d : Int} (hd : d ∈ R.map (·.1)) : r.1 < d := by
  obtain ⟨x, hx, rfl⟩ := List.mem_map.1 hd
  exact ids_lt h hx
theorem remR_spec (R : List TRow) (D : List Int) (U : List PRow) (hR : (R.map (·.1)).Pairwise (· < ·)) :
    (Agree R D U → remR R D U = some (keptR D U R)) ∧ (¬ Agree R D U → remR R D U = none) := by
  induction R generalizing D U with
  | nil =>
    constructor
    · intro h
      have h1 : D = [] := List.eq_nil_iff_forall_not_mem.2 fun d hd => by have := h.din d hd; simp at this
      have h2 : U = [] := List.eq_nil_iff_forall_not_mem.2 fun u hu => by have := h.uin u hu; simp at this
      subst h1 h2
      rfl
    · intro h
      show (if D = [] ∧ U = [] then some [] else none) = none
      rw [if_neg]
      rintro ⟨rfl, rfl⟩
      exact h ⟨List.Pairwise.nil, (fun d hd => by cases hd), List.Pairwise.nil, (fun u hu => by cases hu), (fun u hu => by cases hu)⟩
  | cons r R ih =>
    have hR' : (R.map (·.1)).Pairwise (· < ·) := by rw [List.map_cons, List.pairwise_cons] at hR; exact hR.2
    by_cases hD : D.head? = some r.1
    · obtain ⟨D', rfl⟩ : ∃ D', D = r.1 :: D' := by
        cases D with
        | nil => cases hD
        | cons d D' => exact ⟨D', by rw [Option.some.inj hD]⟩
      have e : remR (r :: R) (r.1 :: D') U = remR R D' U := by
        show (if _ then _ else _) = _
        rw [if_pos (show (r.1 :: D').head? = some r.1 from rfl)]; rfl
      rw [e]
      have hag : Agree (r :: R) (r.1 :: D') U ↔ Agree R D' U := by
        constructor
        · intro h
          have hp := List.pairwise_cons.1 h.dup
          refine ⟨hp.2, fun d hd => ?_, h.uup, fun u hu => ?_, fun u hu hd => h.ud u hu (List.mem_cons_of_mem _ hd)⟩
          · have h1 := hp.1 d hd
            have h2 := h.din d (List.mem_cons_of_mem _ hd)
            rw [List.map_cons, List.mem_cons] at h2
            rcases h2 with h2 | h2
            · omega
            · exact h2
          · have h1 := h.uin u hu
            rw [List.mem_cons] at h1
            rcases h1 with h1 | h1
            · exact absurd (by rw [← h1]; exact List.mem_cons_self) (h.ud u hu)
            · exact h1
        · intro h
          refine ⟨List.pairwise_cons.2 ⟨fun d hd => idsl_lt hR (h.din d hd), h.dup⟩, fun d hd => ?_, h.uup, fun u hu => List.mem_cons_of_mem _ (h.uin u hu), fun u hu hd => ?_⟩
          · rw [List.map_cons]
            rcases List.mem_cons.1 hd with rfl | hd
            · exact List.mem_cons_self
            · exact List.mem_cons_of_mem _ (h.din d hd)
          · rcases List.mem_cons.1 hd with hd | hd
            · have := ids_lt hR (h.uin u hu)
              dsimp only at this
              omega
            · exact h.ud u hu hd
      have hk : keptR (r.1 :: D') U (r :: R) = keptR D' U R := by
        rw [keptR_cons, if_pos List.mem_cons_self, List.nil_append]
        refine keptR_congr fun x hx => ⟨⟨fun h => ?_, fun h => List.mem_cons_of_mem _ h⟩, rfl⟩
        rcases List.mem_cons.1 h with h | h
        · have := ids_lt hR hx; omega
        · exact h
      rw [hk, hag]
      exact ih D' U hR'
    · by_cases hU : (U.head?.map (·.1)) = some r.1
      · obtain ⟨u, U', rfl, hu⟩ : ∃ u U', U = u :: U' ∧ u.1 = r.1 := by
          cases U with
          | nil => cases hU
          | cons u U' => exact ⟨u, U', rfl, Option.some.inj hU⟩
        have e : remR (r :: R) D (u :: U') = if u.2.1 = r.2 then (remR R D U').map ((r.1, u.2.2) :: ·) else none := by
          show (if _ then _ else if _ then _ else _) = _
          rw [if_neg hD, if_pos hU]; rfl
        rw [e]
        by_cases ho : u.2.1 = r.2
        · rw [if_pos ho]
          have hnd : Agree (r :: R) D (u :: U') → r.1 ∉ D := fun h => hu ▸ h.ud u List.mem_cons_self
          have hag : Agree (r :: R) D (u :: U') ↔ Agree R D U' := by
            constructor
            · intro h
              have hp := List.pairwise_cons.1 (show (u.1 :: U'.map (·.1)).Pairwise (· < ·) from h.uup)
              refine ⟨h.dup, fun d hd => ?_, hp.2, fun x hx => ?_, fun x hx => h.ud x (List.mem_cons_of_mem _ hx)⟩
              · have h2 := h.din d hd
                rw [List.map_cons, List.mem_cons] at h2
                rcases h2 with h2 | h2
                · exact absurd (h2 ▸ hd) (hnd h)
                · exact h2
              · have h1 := hp.1 x.1 (List.mem_map.2 ⟨x, hx, rfl⟩)
                have h2 := h.uin x (List.mem_cons_of_mem _ hx)
                rw [List.mem_cons] at h2
                rcases h2 with h2 | h2
                · have h3 := congrArg Prod.fst h2
                  dsimp only at h3
                  omega
                · exact h2
            · intro h
              refine ⟨h.dup, fun d hd => ?_, ?_, fun x hx => ?_, fun x hx hd => ?_⟩
              · rw [List.map_cons]; exact List.mem_cons_of_mem _ (h.din d hd)
              · rw [List.map_cons, List.pairwise_cons]
                refine ⟨fun y hy => ?_, h.uup⟩
                obtain ⟨x, hx, rfl⟩ := List.mem_map.1 hy
                have := ids_lt hR (h.uin x hx)
                dsimp only at this
                omega
              · rcases List.mem_cons.1 hx with rfl | hx
                · rw [hu, ho]; exact List.mem_cons_self
                · exact List.mem_cons_of_mem _ (h.uin x hx)
              · rcases List.mem_cons.1 hx with rfl | hx
                · have := idsl_lt hR (h.din _ hd); omega
                · exact h.ud x hx hd
          constructor
          · intro h
            have e2 : keptR D (u :: U') R = keptR D U' R := keptR_congr fun x hx => ⟨Iff.rfl, by
              rw [newV_cons, if_neg]
              have := ids_lt hR hx
              omega⟩
            rw [(ih D U' hR').1 (hag.1 h), keptR_cons, if_neg (hnd h), newV_cons, if_pos hu, e2]
            rfl
          · intro h
            rw [(ih D U' hR').2 fun hc => h (hag.2 hc)]; rfl
        · rw [if_neg ho]
          refine ⟨fun h => ?_, fun _ => rfl⟩
          have h2 := h.uin u List.mem_cons_self
          rw [List.mem_cons] at h2
          rcases h2 with h2 | h2
          · exact absurd (congrArg Prod.snd h2) ho
          · have := ids_lt hR h2
            dsimp only at this
            omega
      · have e : remR (r :: R) D U = (remR R D U).map (r :: ·) := by
          show (if _ then _ else if _ then _ else _) = _
          rw [if_neg hD, if_neg hU]
        rw [e]
        have hdr : Agree (r :: R) D U → ∀ d ∈ D, r.1 < d := fun h => by
          cases D with
          | nil => intro d hd; cases hd
          | cons d0 D' =>
            have h0 : d0 ≠ r.1 := fun e => hD (by rw [e]; rfl)
            have h1 := h.din d0 List.mem_cons_self
            rw [List.map_cons, List.mem_cons] at h1
            have h2 : r.1 < d0 := by
              rcases h1 with h1 | h1
              · exact absurd h1 h0
              · exact idsl_lt hR h1
            intro d hd
            rcases List.mem_cons.1 hd with rfl | hd
            · exact h2
            · have := (List.pairwise_cons.1 h.dup).1 d hd; omega
        have hur : Agree (r :: R) D U → ∀ u ∈ U, r.1 < u.1 := fun h => by
          cases U with
          | nil => intro d hd; cases hd
          | cons u0 U' =>
            have h0 : u0.1 ≠ r.1 := fun e => hU (by rw [← e]; rfl)
            have h1 := h.uin u0 List.mem_cons_self
            rw [List.mem_cons] at h1
            have h2 : r.1 < u0.1 := by
              rcases h1 with h1 | h1
              · exact absurd (congrArg Prod.fst h1) h0
              · exact ids_lt hR h1
            intro u hu
            rcases List.mem_cons.1 hu with rfl | hu
            · exact h2
            · have := (List.pairwise_cons.1 (show (u0.1 :: U'.map (·.1)).Pairwise (· < ·) from h.uup)).1 u.1 (List.mem_map.2 ⟨u, hu, rfl⟩); omega
        have hag : Agree (r :: R) D U ↔ Agree R D U := by
          constructor
          · intro h
            refine ⟨h.dup, fun d hd => ?_, h.uup, fun u hu => ?_, h.ud⟩
            · have h1 := h.din d hd
              have h2 := hdr h d hd
              rw [List.map_cons, List.mem_cons] at h1
              rcases h1 with h1 | h1
              · omega
              · exact h1
            · have h1 := h.uin u hu
              have h2 := hur h u hu
              rw [List.mem_cons] at h1
              rcases h1 with h1 | h1
              · have h3 := congrArg Prod.fst h1
                dsimp only at h3
                omega
              · exact h1
          · intro h
            exact ⟨h.dup, fun d hd => by rw [List.map_cons]; exact List.mem_cons_of_mem _ (h.din d hd), h.uup, fun u hu => List.mem_cons_of_mem _ (h.uin u hu), h.ud⟩
        constructor
        · intro h
          rw [(ih D U hR').1 (hag.1 h), keptR_cons, if_neg (fun hd => by have := hdr h _ hd; omega), newV_no fun u hu => by have := hur h u hu; omega]
          rfl
        · intro h
          rw [(ih D U hR').2 fun hc => h (hag.2 hc)]; rfl
/-- The rows' numbers go up. -/
theorem rows_up {f : Nat → Col} {n : Nat} {nx : Int} {R : List TRow} (h : ∀ i, i < R.length → RowOK f n nx R i) : (R.map (·.1)).Pairwise (· < ·) := by
  rw [List.pairwise_iff_getElem]
  intro i j hi hj hij
  rw [List.length_map] at hi hj
  rw [List.getElem_map, List.getElem_map, ← tAt_get hi, ← tAt_get hj]
  exact ids_up h j hj i hij
theorem getO_iff {f : Nat → Col} {n : Nat} {nx : Int} {R : List TRow} (h : ∀ i, i < R.length → RowOK f n nx R i) (id : Int) (l : List Val) : (getO id R).2 = true ∧ (getO id R).1 = l ↔ (id, l) ∈ R := by
  constructor
  · rintro ⟨h1, h2⟩
    unfold getO getR at h1 h2
    cases hf : R.find? fun r => decide (r.1 = id) with
    | none => rw [hf] at h1; cases h1
    | some r =>
      rw [hf] at h2
      have h3 := List.find?_some hf
      have h4 := List.mem_of_find?_eq_some hf
      have h5 : r.1 = id := of_decide_eq_true h3
      have h6 : r.2 = l := h2
      subst h5 h6
      exact h4
  · intro hm
    obtain ⟨i, hi, he⟩ := List.getElem_of_mem hm
    rw [← tAt_get hi] at he
    have h1 := get_row h hi
    rw [he] at h1
    unfold getO
    dsimp only at h1
    rw [h1]
    exact ⟨rfl, rfl⟩
theorem getO_in {f : Nat → Col} {n : Nat} {nx : Int} {R : List TRow} (h : ∀ i, i < R.length → RowOK f n nx R i) (id : Int) : (getO id R).2 = true ↔ id ∈ R.map (·.1) := by
  constructor
  · intro h1
    exact List.mem_map.2 ⟨_, (getO_iff h id _).1 ⟨h1, rfl⟩, rfl⟩
  · intro h1
    obtain ⟨r, hr, rfl⟩ := List.mem_map.1 h1
    exact ((getO_iff h r.1 r.2).2 hr).1
theorem up_iff {α : Type} (g : Nat → Int) (L : List α) (F : α → Int) (hg : ∀ i (h : i < L.length), g i = F L[i]) : (L.map F).Pairwise (· < ·) ↔ ∀ i, i < L.length → 0 < i → g (i - 1) < g i := by
  constructor
  · intro h i hi h0
    rw [List.pairwise_iff_getElem] at h
    have := h (i - 1) i (by rw [List.length_map]; omega) (by rw [List.length_map]; omega) (by omega)
    rw [List.getElem_map, List.getElem_map] at this
    rw [hg _ hi, hg _ (by omega)]
    exact this
  · intro h
    have hup : ∀ i, i < L.length → ∀ j, j < i → g j < g i := by
      intro i
      induction i with
      | zero => intro _ j hj; omega
      | succ i ih =>
        intro hi j hj
        have h1 := h (i + 1) hi (by omega)
        rw [Nat.add_sub_cancel] at h1
        by_cases hji : j = i
        · subst hji; exact h1
        · exact Int.lt_trans (ih (by omega) j (by omega)) h1
    rw [List.pairwise_iff_getElem]
    intro i j hi hj hij
    rw [List.length_map] at hi hj
    rw [List.getElem_map, List.getElem_map, ← hg _ hi, ← hg _ hj]
    exact hup j hj i hij
theorem agree_iff {f : Nat → Col} {n : Nat} {nx : Int} {R : List TRow} {D : List Int} {U : List PRow} (h : ∀ i, i < R.length → RowOK f n nx R i) :
    (Agree R D U ∧ ∀ u ∈ U, u.2.2.length = n) ↔ (∀ i, i < D.length → DelOK R D i) ∧ (∀ i, i < U.length → UpdOK n R D U i) := by
  have hd := up_iff (iAt D) D id fun i hi => iAt_get hi
  have hu := up_iff (fun i => (pAt U i).1) U (·.1) fun i hi => by rw [pAt_get hi]
  rw [List.map_id] at hd
  constructor
  · rintro ⟨ha, hn⟩
    refine ⟨fun i hi => ⟨(getO_in h _).2 (ha.din _ (iAt_mem hi)), hd.1 ha.dup i hi⟩, fun i hi => ?_⟩
    have hm := pAt_mem hi
    obtain ⟨h1, h2⟩ := (getO_iff h _ _).2 (ha.uin _ hm)
    exact ⟨h1, ha.ud _ hm, hu.1 ha.uup i hi, h2, hn _ hm⟩
  · rintro ⟨h1, h2⟩
    refine ⟨⟨hd.2 fun i hi => (h1 i hi).2, fun d hd' => ?_, hu.2 fun i hi => (h2 i hi).2.2.1, fun u hu' => ?_, fun u hu' => ?_⟩, fun u hu' => ?_⟩
    · obtain ⟨i, hi, rfl⟩ := mem_iAt.1 hd'
      exact (getO_in h _).1 (h1 i hi).1
    all_goals
      obtain ⟨i, hi, he⟩ := List.getElem_of_mem hu'
      rw [← pAt_get hi] at he
      subst he
      obtain ⟨g1, g2, g3, g4, g5⟩ := h2 i hi
    · exact (getO_iff h _ _).1 ⟨g1, g4⟩
    · exact g2
    · exact g5
/-- Valid of package keys, in its own words. -/
def widthsB (n : Nat) (I : List (List Val)) (U : List PRow) : Bool := decide (∀ i, i < U.length → (pAt U i).2.2.length = n) && decide (∀ i, i < I.length → (rAt I i).length = n)
theorem validC_rem {f : Nat → Col} {n : Nat} {nx : Int} {R : List TRow} {I : List (List Val)} {D : List Int} {U : List PRow} (h : ∀ i, i < R.length → RowOK f n nx R i) : validC n R I D U = (widthsB n I U && (remR R D U).isSome) := by
  have hs := remR_spec R D U (rows_up h)
  have ha := agree_iff (D := D) (U := U) h
  rw [Bool.eq_iff_iff]
  unfold validC widthsB
  simp only [Bool.and_eq_true, decide_eq_true_eq]
  have hw : (∀ u ∈ U, u.2.2.length = n) ↔ ∀ i, i < U.length → (pAt U i).2.2.length = n := by
    constructor
    · intro h1 i hi; exact h1 _ (pAt_mem hi)
    · intro h1 u hu
      obtain ⟨i, hi, he⟩ := List.getElem_of_mem hu
      rw [← pAt_get hi] at he
      subst he
      exact h1 i hi
  have hsome : (remR R D U).isSome = true ↔ Agree R D U := by
    constructor
    · intro h1
      apply Classical.byContradiction
      intro hc
      rw [hs.2 hc] at h1
      cases h1
    · intro h1; rw [hs.1 h1]; rfl
  rw [hsome, ← hw]
  constructor
  · rintro ⟨h1, h2⟩
    have := ha.2 h1
    exact ⟨⟨this.2, h2⟩, this.1⟩
  · rintro ⟨⟨h1, h2⟩, h3⟩
    exact ⟨ha.1 ⟨h3, h1⟩, h2⟩
theorem remR_kept {f : Nat → Col} {n : Nat} {nx : Int} {R : List TRow} {I : List (List Val)} {D : List Int} {U : List PRow} (h : ∀ i, i < R.length → RowOK f n nx R i) (hv : validC n R I D U = true) : remR R D U = some (keptR D U R) := by
  obtain ⟨h1, h2, -⟩ := validC_parts hv
  exact (remR_spec R D U (rows_up h)).1 ((agree_iff h).2 ⟨h1, h2⟩).1
end Go.Proofs.Ytgaihglploedaaa
