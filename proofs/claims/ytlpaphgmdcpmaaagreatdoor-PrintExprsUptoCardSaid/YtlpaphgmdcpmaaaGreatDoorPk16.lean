/-
  Several texts in one.
-/
import Derived.Test.YtlpaphgmdcpmaaaGreatDoorPk15
import Derived.Test.YtlpaphgmdcpmaaaGreatDoorPk13
import Derived.Test.YtlpaphgmdcpmaaaGreatDoorPk12
import Derived.Test.YtlpaphgmdcpmaaaGreatDoorPk05
import Derived.Test.YtlpaphgmdcpmaaaGreatDoorPk14
import Derived.Deep.RegionWith
import Derived.Deep.CutRange
/-
  A drawn region whose operations make memory, and some of which, late ones, write memory of the call's own: each operation is shown once, from the facts of those that it waits for; no orders are told apart.
-/
namespace Go.Proofs.YtlpaphgmdcpmaaaGreatDoor
set_option maxRecDepth 100000
open Go.RowKit

/-- What a region's plan must meet: no guards; each fact is used where it stands. -/
def lateB (l : List Oper) (use sl : List (List Nat)) (live : List (List Nat)) (late : List Nat) : Bool :=
  let n := l.length
  let ops := l.toArray
  l.all (fun o => o.guard.isNone) &&
  (List.range n).all fun i =>
    (match l[i]? with | some o => o.after.all (fun e => !Region.binds .any e || decide (e.on < i)) | none => true) &&
    (use.getD i []).all (fun k => reach ops n i k && (late.all fun t => (live.getD k []).contains t || reach ops n t i || t == i || t == k || reach ops n k t)) &&
    (List.range n).all fun j => i == j || reach ops n j i || (match (l[i]?).bind (·.dst) with | some d => !(sl.getD j []).contains d | none => true)
section
variable {P : Program} {l : List Oper} {Q : Exit → Act → World → Prop} {a0 : Act} {w0 : World} (use sl : List (List Nat)) (live : List (List Nat)) (late brk : List Nat) (B : Nat) (J : World → Prop) (Φ : Nat → (Nat → Value) → World → Prop)
/-- What is known of a state in the midst of the region. -/
structure LateAt (l : List Oper) (a0 : Act) (w0 : World) (live : List (List Nat)) (late brk : List Nat) (B : Nat) (J : World → Prop) (Φ : Nat → (Nat → Value) → World → Prop) (listed : Array Bool) (a : Act) (w : World) : Prop where
  size : listed.size = l.length
  shut : Shut l.toArray listed
  tmps : a.tmps.size = a0.tmps.size
  defs : a.defers = a0.defers
  old : ∀ s, (∀ o ∈ l, o.dst ≠ some s) → slotF a s = slotF a0 s
  low : Below B w0 w
  grow : w0.heap.size ≤ w.heap.size
  inv : (∀ t ∈ brk, listed.getD t false = false) → J w
  fact : ∀ i, listed.getD i false = true → (∀ t ∈ late, listed.getD t false = true → (live.getD i []).contains t = true ∨ t = i ∨ reach l.toArray l.length i t = true) → Φ i (slotF a) w
theorem wpAny_late {listed : Array Bool} {a : Act} {w : World} (hB : lateB l use sl live late = true) (hBw : B ≤ w0.heap.size) (hJ : ∀ w w', J w → Below w.heap.size w w' → J w')
    (hstab : ∀ j f g w w', (∀ s ∈ sl.getD j [], g s = f s) → Below w.heap.size w w' → Φ j f w → Φ j g w')
    (hstep : ∀ i o, l[i]? = some o → i ∉ late → ∀ a w, a.tmps.size = a0.tmps.size → (∀ s, (∀ o ∈ l, o.dst ≠ some s) → slotF a s = slotF a0 s) → Below B w0 w → w0.heap.size ≤ w.heap.size → ((brk.all fun t => reach l.toArray l.length t i) = true → J w) → (∀ k ∈ use.getD i [], Φ k (slotF a) w) →
      Oper.wp P o a w (fun a' w' => ∃ v, a' = a.put o.dst v ∧ Below w.heap.size w w' ∧ Φ i (slotF a') w') Q)
    (hlate : ∀ i o, l[i]? = some o → i ∈ late → ∀ a w, a.tmps.size = a0.tmps.size → (∀ s, (∀ o ∈ l, o.dst ≠ some s) → slotF a s = slotF a0 s) → Below B w0 w → w0.heap.size ≤ w.heap.size → ((brk.all fun t => reach l.toArray l.length t i || t == i) = true → J w) → (∀ k ∈ use.getD i [], Φ k (slotF a) w) →
      Oper.wp P o a w (fun a' w' => ∃ v, a' = a.put o.dst v ∧ w.heap.size ≤ w'.heap.size ∧ Below B w0 w' ∧ Φ i (slotF a') w' ∧ (i ∉ brk → J w') ∧ ∀ j, j ≠ i → (live.getD j []).contains i = true → reach l.toArray l.length j i = false → (∀ s ∈ sl.getD j [], slotF a' s = slotF a s) → Φ j (slotF a) w → Φ j (slotF a') w') Q)
    (hend : ∀ (f : Nat → Value) w, Below B w0 w → (∀ i, i < l.length → (late.all fun t => (live.getD i []).contains t || t == i || reach l.toArray l.length i t) = true → Φ i f w) → Q .normal (putAll l f a0) w) :
    ∀ (fuel : Nat), (listed.toList.count false ≤ fuel) → LateAt l a0 w0 live late brk B J Φ listed a w → wpAny P .any l.toArray Q fuel listed a w := by
  intro fuel
  unfold lateB at hB
  simp only [Bool.and_eq_true, List.all_eq_true, List.mem_range, Bool.or_eq_true] at hB
  obtain ⟨hg, hB⟩ := hB
  have hdone : ∀ (listed : Array Bool) (a : Act) (w : World), LateAt l a0 w0 live late brk B J Φ listed a w → (∀ i, i < l.length → listed.getD i false = true) → Q .normal a w := by
    intro listed a w h hall
    have he : a = putAll l (slotF a) a0 := by
      have hz := putAll_size l (slotF a) a0
      refine act_eq (h.tmps.trans hz.1.symm) (h.defs.trans hz.2.symm) fun s hs => ?_
      rw [putAll_slot _ _ _ _ (by rw [← h.tmps]; exact hs)]
      split
      · rfl
      · rename_i hno
        exact h.old s fun o ho hd => hno ⟨o, ho, hd⟩
    rw [he]
    refine hend (slotF a) w h.low (fun i hi' hl => h.fact i (hall i hi') ?_)
    intro t ht _
    have := List.all_eq_true.1 hl t ht
    rw [Bool.or_eq_true, Bool.or_eq_true] at this
    rcases this with (h1 | h1) | h1
    · exact .inl h1
    · exact .inr (.inl (beq_iff_eq.1 h1))
    · exact .inr (.inr h1)
  have hmem : ∀ (listed : Array Bool), listed.size = l.length → ∀ i, i < l.length → listed.getD i true = listed.getD i false := by
    intro listed hz i hi
    simp [show i < listed.size by omega]
  have hready : ∀ (listed : Array Bool), listed.size = l.length → Region.ready .any l.toArray listed = [] → ∀ i, i < l.length → listed.getD i false = true := by
    intro listed hz hr i
    induction i using Nat.strongRecOn with
    | ind i ih =>
      intro hi
      cases hc : listed.getD i false with
      | true => rfl
      | false =>
        have h1 : i ∈ Region.ready .any l.toArray listed := by
          refine mem_ready.2 ⟨by rw [hmem listed hz i hi]; exact hc, l[i], by simp [hi], fun e he hb => ?_⟩
          have h2 := (hB i hi).1.1
          rw [List.getElem?_eq_getElem hi] at h2
          simp only [Array.all_eq_true'] at h2
          have h3 := h2 e he
          rw [hb] at h3
          have h4 : e.on < i := by simpa using h3
          exact ih e.on h4 (by omega)
        rw [hr] at h1
        cases h1
  induction fuel generalizing listed a w with
  | zero =>
    intro hc h
    have hall : ∀ i, i < l.length → listed.getD i false = true := by
      intro i hi
      have h0 : listed.toList.count false = 0 := by omega
      have h1 := List.count_eq_zero.1 h0
      have hi' : i < listed.size := by rw [h.size]; exact hi
      cases hv : listed[i] with
      | true => simp [hi', hv]
      | false => exact absurd (by rw [← hv]; simp) h1
    refine ⟨?_, hdone listed a w h hall⟩
    rw [List.eq_nil_iff_forall_not_mem]
    intro i hi
    obtain ⟨h1, o, ho, -⟩ := mem_ready.1 hi
    have hlt : i < l.length := by
      have := (Array.getElem?_eq_some_iff.1 ho).1
      simpa using this
    rw [hmem listed h.size i hlt, hall i hlt] at h1
    cases h1
  | succ fuel ih =>
    intro hc h
    refine ⟨fun h0 => hdone listed a w h (hready listed h.size h0), fun i hi' => ?_⟩
    obtain ⟨hun, o, ho, hdeps⟩ := mem_ready.1 hi'
    have hlt : i < l.length := by
      have := (Array.getElem?_eq_some_iff.1 ho).1
      simpa using this
    have hlo : l[i]? = some o := by simpa using ho
    have hol : o ∈ l := List.mem_of_getElem? hlo
    have hun' : listed.getD i false = false := by rw [← hmem listed h.size i hlt]; exact hun
    have hwant : Region.wanted o (yielded l.toArray a.tmps) = true := by
      have := hg o hol
      unfold Region.wanted
      rw [Option.isNone_iff_eq_none.1 this]
    have hsl : i < listed.size := by rw [h.size]; exact hlt
    have hcnt : (listed.setIfInBounds i true).toList.count false ≤ fuel := by
      rw [Array.toList_setIfInBounds, List.count_set (by simpa using hsl)]
      have hv : listed.toList[i]'(by simpa using hsl) = false := by
        have : listed[i] = false := by simpa [hsl] using hun'
        simpa using this
      have h1 : 0 < listed.toList.count false := List.count_pos_iff.2 (by rw [← hv]; exact List.getElem_mem _)
      rw [hv]
      simp
      simp at hc h1
      omega
    have hone : ∀ t, reach l.toArray l.length t i = true → listed.getD t false = false := by
      intro t hr
      cases hs : listed.getD t false with
      | false => rfl
      | true =>
        cases hos : l.toArray[t]? with
        | none =>
          cases hn : l.length with
          | zero => omega
          | succ m => rw [hn] at hr; unfold reach at hr; rw [hos] at hr; cases hr
        | some os =>
          have := reach_listed h.shut l.length t i os hos (h.shut t os hos hs) hr
          rw [hun'] at this
          cases this
    have hfirst : (∀ t ∈ brk, reach l.toArray l.length t i = true ∨ t = i) → ∀ t ∈ brk, listed.getD t false = false := by
      intro hr t ht
      rcases hr t ht with h1 | rfl
      · exact hone t h1
      · exact hun'
    have huse : ∀ k ∈ use.getD i [], listed.getD k false = true ∧ Φ k (slotF a) w := by
      intro k hk
      obtain ⟨h1, h2⟩ := (hB i hlt).1.2 k hk
      have h3 := reach_listed h.shut l.length i k o ho hdeps h1
      refine ⟨h3, h.fact k h3 ?_⟩
      intro t ht hlt2
      rcases h2 t ht with (((h4 | h4) | h4) | h4) | h4
      · exact .inl h4
      · rw [hone t h4] at hlt2; cases hlt2
      · rw [beq_iff_eq.1 h4, hun'] at hlt2; cases hlt2
      · exact .inr (.inl (beq_iff_eq.1 h4))
      · exact .inr (.inr h4)
    have hsame : ∀ v j, j ≠ i → listed.getD j false = true → ∀ s ∈ sl.getD j [], slotF (a.put o.dst v) s = slotF a s := by
      intro v j hji hj s hs
      refine slot_put _ _ _ _ fun hd => ?_
      have hjl : j < l.length := by
        rw [← h.size]
        apply Classical.byContradiction
        intro hc'
        simp [hc'] at hj
      rcases (hB i hlt).2 j hjl with (h1 | h1) | h1
      · exact hji (beq_iff_eq.1 h1).symm
      · have hoj : l.toArray[j]? = some l[j] := by simp [hjl]
        have := reach_listed h.shut l.length j i l[j] hoj (h.shut j l[j] hoj hj) h1
        rw [hun'] at this
        cases this
      · rw [hlo] at h1
        simp only [Option.bind_some, hd] at h1
        simp at h1
        exact h1 hs
    have hshut : Shut l.toArray (listed.setIfInBounds i true) := by
      intro j oj hoj hj e he hb
      rw [listed_set hsl] at hj ⊢
      rcases hj with rfl | hj
      · rw [ho] at hoj
        cases hoj
        exact .inr (hdeps e he hb)
      · exact .inr (h.shut j oj hoj hj e he hb)
    have hnot : ∀ t, (listed.setIfInBounds i true).getD t false = false → listed.getD t false = false := by
      intro t hl
      cases hs : listed.getD t false with
      | false => rfl
      | true => rw [(listed_set hsl).2 (.inr hs)] at hl; cases hl
    have hend' : ∀ v w' (hs : w.heap.size ≤ w'.heap.size) (hlow : Below B w0 w') (hinv : (∀ t ∈ brk, (listed.setIfInBounds i true).getD t false = false) → J w')
        (hf : ∀ j, j ≠ i → listed.getD j false = true → (∀ t ∈ late, (listed.setIfInBounds i true).getD t false = true → (live.getD j []).contains t = true ∨ t = j ∨ reach l.toArray l.length j t = true) → Φ j (slotF (a.put o.dst v)) w')
        (hi0 : Φ i (slotF (a.put o.dst v)) w'),
        wpAny P .any l.toArray Q fuel (listed.setIfInBounds i true) (a.put o.dst v) w' := by
      intro v w' hs hlow hinv hf hi0
      refine ih hcnt ⟨by rw [Array.size_setIfInBounds]; exact h.size, hshut, (size_put _ _ _).trans h.tmps, (defers_put _ _ _).trans h.defs, fun s hs' => (slot_put _ _ _ _ (hs' o hol)).trans (h.old s hs'), hlow, Nat.le_trans h.grow hs, hinv, fun j hj hl => ?_⟩
      by_cases hji : j = i
      · rw [hji]; exact hi0
      · rcases (listed_set hsl).1 hj with e | hj
        · exact absurd e.symm hji
        · exact hf j hji hj hl
    have hrf : ∀ j, listed.getD j false = true → reach l.toArray l.length j i = false := by
      intro j hj
      cases hr : reach l.toArray l.length j i with
      | false => rfl
      | true => rw [hone j hr] at hj; cases hj
    unfold wpOp
    simp only [ho, hwant, if_true]
    refine .inl ?_
    by_cases hie : i ∈ late
    · refine Oper.wp_mono ?_ (hlate i o hlo hie a w h.tmps h.old h.low h.grow (fun hr => h.inv (hfirst fun t ht => by
        have := List.all_eq_true.1 hr t ht
        rw [Bool.or_eq_true] at this
        exact this.imp id fun e => beq_iff_eq.1 e)) (fun k hk => (huse k hk).2))
      rintro a' w' ⟨v, rfl, hs, hlow, hi0, hjk, hkeep⟩
      refine hend' v w' hs hlow (fun hc' => hjk fun hib => ?_) (fun j hji hj hl => ?_) hi0
      · have := hc' i hib
        rw [(listed_set hsl).2 (.inl rfl)] at this
        cases this
      · rcases hl i hie ((listed_set hsl).2 (.inl rfl)) with e | e | e
        · exact hkeep j hji e (hrf j hj) (hsame v j hji hj) (h.fact j hj fun t ht hlt2 => hl t ht ((listed_set hsl).2 (.inr hlt2)))
        · exact absurd e.symm hji
        · rw [hrf j hj] at e; cases e
    · refine Oper.wp_mono ?_ (hstep i o hlo hie a w h.tmps h.old h.low h.grow (fun hr => h.inv (hfirst fun t ht => .inl (List.all_eq_true.1 hr t ht))) fun k hk => (huse k hk).2)
      rintro a' w' ⟨v, rfl, hb, hi0⟩
      refine hend' v w' hb.size (h.low.trans (hb.mono (Nat.le_trans hBw h.grow))) (fun hc' => hJ _ _ (h.inv fun t ht => hnot t (hc' t ht)) hb) (fun j hji hj hl => ?_) hi0
      exact hstab j _ _ _ _ (hsame v j hji hj) hb (h.fact j hj fun t ht hlt2 => hl t ht ((listed_set hsl).2 (.inr hlt2)))
/-- A drawn region with late operations, over a function of slots. W: the world behind the draw. -/
theorem wp_region_late {id : Nat} {w : World} (hm : P.follows .mixedOrders = true) (W : World) (hW : w.drew = W) (hB : lateB l use sl live late = true) (hD : (l.all fun o => match o.dst with | some d => decide (d < a0.tmps.size) | none => true) = true) (hBw : B ≤ W.heap.size) (hJ0 : J W) (hJ : ∀ w w', J w → Below w.heap.size w w' → J w')
    (hstab : ∀ j f g w w', (∀ s ∈ sl.getD j [], g s = f s) → Below w.heap.size w w' → Φ j f w → Φ j g w')
    (hstep : ∀ i o, l[i]? = some o → i ∉ late → ∀ (f : Nat → Value) w, (∀ s, (l.all fun o => o.dst != some s) = true → f s = slotF a0 s) → Below B W w → W.heap.size ≤ w.heap.size → ((brk.all fun t => reach l.toArray l.length t i) = true → J w) → (∀ k ∈ use.getD i [], Φ k f w) →
      gives P (fun v w' => Below w.heap.size w w' ∧ Φ i (upF f o.dst v) w') ((execOp (evF f) o).run P w))
    (hlate : ∀ i o, l[i]? = some o → i ∈ late → ∀ (f : Nat → Value) w, (∀ s, (l.all fun o => o.dst != some s) = true → f s = slotF a0 s) → Below B W w → W.heap.size ≤ w.heap.size → ((brk.all fun t => reach l.toArray l.length t i || t == i) = true → J w) → (∀ k ∈ use.getD i [], Φ k f w) →
      gives P (fun v w' => w.heap.size ≤ w'.heap.size ∧ Below B W w' ∧ Φ i (upF f o.dst v) w' ∧ (i ∉ brk → J w') ∧ ∀ j, j ≠ i → (live.getD j []).contains i = true → reach l.toArray l.length j i = false → (∀ s ∈ sl.getD j [], upF f o.dst v s = f s) → Φ j f w → Φ j (upF f o.dst v) w') ((execOp (evF f) o).run P w))
    (hend : ∀ (f : Nat → Value) w, Below B W w → (∀ i, i < l.length → (late.all fun t => (live.getD i []).contains t || t == i || reach l.toArray l.length i t) = true → Φ i f w) → Q .normal (putAll l f a0) w) :
    (Code.region id l.toArray true).wp P Q a0 w := by
  subst hW
  rw [List.all_eq_true] at hD
  have hd : ∀ o ∈ l, ∀ (a : Act), a.tmps.size = a0.tmps.size → ∀ x, o.dst = some x → x < a.tmps.size := by
    intro o ho a ha x hx
    have := hD o ho
    rw [hx] at this
    rw [ha]
    exact of_decide_eq_true this
  have hold : ∀ a : Act, (∀ s, (∀ o ∈ l, o.dst ≠ some s) → slotF a s = slotF a0 s) → ∀ s, (l.all fun o => o.dst != some s) = true → slotF a s = slotF a0 s := by
    intro a h s hs
    rw [List.all_eq_true] at hs
    exact h s fun o ho => bne_iff_ne.1 (hs o ho)
  have hno : ∀ i, (Array.replicate l.length false).getD i false = true → False := by
    intro i h
    by_cases hi : i < l.length
    · simp [hi] at h
    · simp [hi] at h
  refine wp_region_any hm (wpAny_late (w0 := w.drew) use sl live late brk B J Φ hB hBw hJ hstab ?_ ?_ hend _ (by simp) ⟨by simp, fun j o hj h => ?_, rfl, rfl, fun s _ => rfl, Below.refl _ _, Nat.le_refl _, fun _ => hJ0, fun i h => ?_⟩)
  · intro i o hi hne a w hz ho hb hg hj hu
    refine Oper.wp_mono ?_ (wp_of_gives (Q := Q) (hstep i o hi hne (slotF a) w (hold a ho) hb hg hj hu))
    rintro a' w' ⟨v, rfl, h2, h3⟩
    refine ⟨v, rfl, h2, ?_⟩
    rw [upF_put a o.dst v (hd o (List.mem_of_getElem? hi) a hz)]
    exact h3
  · intro i o hi hin a w hz ho hb hg hj hu
    refine Oper.wp_mono ?_ (wp_of_gives (Q := Q) (hlate i o hi hin (slotF a) w (hold a ho) hb hg hj hu))
    rintro a' w' ⟨v, rfl, h2⟩
    refine ⟨v, rfl, ?_⟩
    rw [upF_put a o.dst v (hd o (List.mem_of_getElem? hi) a hz)]
    exact h2
  all_goals
    simp only [List.size_toArray] at h
    exact (hno _ h).elim
end
/-- Append of another's slice, nil or not, to a row of the call's own. -/
theorem gives_append_any {P : Program} {R : Value → World → Prop} {f : Nat → Value} {o : Oper} {w : World} (s x : Operand) (t e : TypeId)
    (ho : o.op = .call { callee := .builtin .append, args := #[s, x], argTypes := #[t, t] })
    (base : Nat) (i0 : TypeInfo) (z : Value) (size bytes : Nat) (ht : P.underlying t = some (.slice e)) (hi : P.info? e = some i0) (hz0 : i0.zero = some z) (hz1 : i0.size = size) (hz2 : i0.bytes = bytes) (hzs : z.cells.size = size) (hsz : 0 < size) (v : Value) (n : Nat) (xs : List Value) (hs : evF f s = v) (hown : w.ownsRow base e size v n xs)
    (px : Option Addr) (m cx : Nat) (ys : List Value) (hx : evF f x = .slice px m cx) (hl : ys.length = m * size) (hsrc : ∀ ad, px = some ad → ∀ j u, ys[j]? = some u → w.cell? (ad.add j) = some u) (hnil : px = none → ys = []) (h1 : ∀ u ∈ ys, u.oneCell' = true) (h63 : n + m ≤ maxLen) (hsum : (n + m) * bytes ≤ 140737488355328) (hbase : base ≤ w.heap.size)
    (h : ∀ v' w', w'.ownsRow base e size v' (n + m) (xs ++ ys) → w.grownBy w' v.ownBlock → R v' w') : gives P R ((execOp (evF f) o).run P w) := by
  cases px with
  | none =>
    obtain rfl := hnil rfl
    obtain rfl : m = 0 := by
      rw [List.length_nil] at hl
      rcases Nat.mul_eq_zero.1 hl.symm with h0 | h0
      · exact h0
      · omega
    have hrun := run_append_nil7 (P := P) (w := w) base t o.type e i0 size ht hi v n cx xs hown
    unfold execOp
    simp only [ho, resolve, invoke, builtin, Sem.run_bind, Sem.run_pure, Result.andThen_ok, List.map_toArray, List.map_cons, List.map_nil, hs, hx, hrun]
    exact h v w (by simpa using hown) (World.grownBy.refl w _)
  | some ad =>
    obtain ⟨v', w', hr, h2, h3, -⟩ := run_append_own (P := P) w base t o.type e i0 z size bytes ht hi hz0 hz1 hz2 hzs hsz v n xs hown ad m cx ys hl (hsrc ad rfl) h1 h63 hsum hbase
    unfold execOp
    simp only [ho, resolve, invoke, builtin, Sem.run_bind, Sem.run_pure, Result.andThen_ok, List.map_toArray, List.map_cons, List.map_nil, hs, hx, hr]
    exact h v' w' h2 h3
end Go.Proofs.YtlpaphgmdcpmaaaGreatDoor
/-
  exprFilled and exprSpare of package syntax.
-/
namespace Go.Proofs.YtlpaphgmdcpmaaaGreatDoor
set_option maxRecDepth 100000
open Go.RowKit
variable {ls : List Nat}

structure SevenAt (u : World) (k : Nat) (b0 b1 b2 b3 b4 b5 b6 : Bool) : Prop where
  lt : k < u.heap.size
  cl : ∀ i, i < 7 → u.cell? ⟨k, i, none⟩ = some (.bool (f7 b0 b1 b2 b3 b4 b5 b6 i))
theorem SevenAt.low {u v : World} {k : Nat} {b0 b1 b2 b3 b4 b5 b6 : Bool} (h : SevenAt u k b0 b1 b2 b3 b4 b5 b6) (hb : Below u.heap.size u v) : SevenAt v k b0 b1 b2 b3 b4 b5 b6 :=
  ⟨Nat.lt_of_lt_of_le h.lt hb.size, fun i hi => by rw [hb.cell (by exact h.lt)]; exact h.cl i hi⟩
theorem seven_new (u : World) (b0 b1 b2 b3 b4 b5 b6 : Bool) (t : TypeId) : SevenAt (u.alloc (.cells #[.bool b0, .bool b1, .bool b2, .bool b3, .bool b4, .bool b5, .bool b6] t)) u.heap.size b0 b1 b2 b3 b4 b5 b6 := by
  refine ⟨by simp, fun i hi => ?_⟩
  have h7 : i = 0 ∨ i = 1 ∨ i = 2 ∨ i = 3 ∨ i = 4 ∨ i = 5 ∨ i = 6 := by omega
  rcases h7 with rfl | rfl | rfl | rfl | rfl | rfl | rfl
  all_goals (go_simp; rfl)
theorem set7_any (u : World) (k : Nat) (b0 b1 b2 b3 b4 b5 b6 : Bool) (h : SevenAt u k b0 b1 b2 b3 b4 b5 b6) : Calls Tryz.prog 83 #[.slice (some ⟨k, 0, none⟩) 7 7] u fun e w' => e = .returned (.int .i64 (bits7 b0 b1 b2 b3 b4 b5 b6)) ∧ u = w' :=
  set_any _ 7 7 _ _ (by decide) fun i hi => ⟨k, 0, rfl, h.lt, by rw [Nat.zero_add]; exact h.cl i hi⟩
set_option maxHeartbeats 2000000 in
theorem filled_c (k op vk vi : Int) (no : Bool) (vt tb nm : ByteArray) (p q : Option Addr) (n c n' c' : Nat) (w : World) :
    Calls Tryz.prog 66 #[.agg #[.int .i64 k, .int .i64 op, .bool no, .int .i64 vk, .int .i64 vi, .string vt, .string tb, .string nm, .slice p n c, .slice q n' c']] w fun e w' => e = .returned (.int .i64 (bits7 (op != 0) no (!sameV vk vi vt 0 0 ⟨#[]⟩) (!tb.toList.isEmpty) (!nm.toList.isEmpty) (decide (0 < n)) (decide (0 < n')))) ∧ Below w.heap.size w w' := by
  have hb0 := below_alloc w (.cells #[.int .i64 k, .int .i64 op, .bool no, .int .i64 vk, .int .i64 vi, .string vt, .string tb, .string nm, .slice p n c, .slice q n' c'] 27)
  have hl : w.heap.size < (w.alloc (.cells #[.int .i64 k, .int .i64 op, .bool no, .int .i64 vk, .int .i64 vi, .string vt, .string tb, .string nm, .slice p n c, .slice q n' c'] 27)).heap.size := by simp
  have HB0 := Lib.hid hb0
  clear hb0
  go_enter Tryz.func66, Tryz.ntmps66
  go_upto_region 1 with (fail)
  have x1 : (w.alloc (.cells #[.int .i64 k, .int .i64 op, .bool no, .int .i64 vk, .int .i64 vi, .string vt, .string tb, .string nm, .slice p n c, .slice q n' c'] 27)).cell? ⟨w.heap.size, 1, none⟩ = some (.int .i64 op) := by go_simp
  have x2 : (w.alloc (.cells #[.int .i64 k, .int .i64 op, .bool no, .int .i64 vk, .int .i64 vi, .string vt, .string tb, .string nm, .slice p n c, .slice q n' c'] 27)).cell? ⟨w.heap.size, 2, none⟩ = some (.bool no) := by go_simp
  have x3 : (w.alloc (.cells #[.int .i64 k, .int .i64 op, .bool no, .int .i64 vk, .int .i64 vi, .string vt, .string tb, .string nm, .slice p n c, .slice q n' c'] 27)).cell? ⟨w.heap.size, 3, none⟩ = some (.int .i64 vk) := by go_simp
  have x4 : (w.alloc (.cells #[.int .i64 k, .int .i64 op, .bool no, .int .i64 vk, .int .i64 vi, .string vt, .string tb, .string nm, .slice p n c, .slice q n' c'] 27)).cell? ⟨w.heap.size, 4, none⟩ = some (.int .i64 vi) := by go_simp
  have x5 : (w.alloc (.cells #[.int .i64 k, .int .i64 op, .bool no, .int .i64 vk, .int .i64 vi, .string vt, .string tb, .string nm, .slice p n c, .slice q n' c'] 27)).cell? ⟨w.heap.size, 5, none⟩ = some (.string vt) := by go_simp
  have x6 : (w.alloc (.cells #[.int .i64 k, .int .i64 op, .bool no, .int .i64 vk, .int .i64 vi, .string vt, .string tb, .string nm, .slice p n c, .slice q n' c'] 27)).cell? ⟨w.heap.size, 6, none⟩ = some (.string tb) := by go_simp
  have x7 : (w.alloc (.cells #[.int .i64 k, .int .i64 op, .bool no, .int .i64 vk, .int .i64 vi, .string vt, .string tb, .string nm, .slice p n c, .slice q n' c'] 27)).cell? ⟨w.heap.size, 7, none⟩ = some (.string nm) := by go_simp
  have x8 : (w.alloc (.cells #[.int .i64 k, .int .i64 op, .bool no, .int .i64 vk, .int .i64 vi, .string vt, .string tb, .string nm, .slice p n c, .slice q n' c'] 27)).cell? ⟨w.heap.size, 8, none⟩ = some (.slice p n c) := by go_simp
  have x9 : (w.alloc (.cells #[.int .i64 k, .int .i64 op, .bool no, .int .i64 vk, .int .i64 vi, .string vt, .string tb, .string nm, .slice p n c, .slice q n' c'] 27)).cell? ⟨w.heap.size, 9, none⟩ = some (.slice q n' c') := by go_simp
  generalize w.alloc _ = W at *
--BLK
  have L1 : Hid (∀ u, Below W.heap.size W u → u.cell? ⟨w.heap.size, 1, none⟩ = some (.int .i64 op)) := Lib.hid fun u hb => by rw [hb.cell (by exact hl)]; exact x1
  have L2 : Hid (∀ u, Below W.heap.size W u → u.cell? ⟨w.heap.size, 2, none⟩ = some (.bool no)) := Lib.hid fun u hb => by rw [hb.cell (by exact hl)]; exact x2
  have L3 : Hid (∀ u, Below W.heap.size W u → u.cell? ⟨w.heap.size, 3, none⟩ = some (.int .i64 vk)) := Lib.hid fun u hb => by rw [hb.cell (by exact hl)]; exact x3
  have L4 : Hid (∀ u, Below W.heap.size W u → u.cell? ⟨w.heap.size, 4, none⟩ = some (.int .i64 vi)) := Lib.hid fun u hb => by rw [hb.cell (by exact hl)]; exact x4
  have L5 : Hid (∀ u, Below W.heap.size W u → u.cell? ⟨w.heap.size, 5, none⟩ = some (.string vt)) := Lib.hid fun u hb => by rw [hb.cell (by exact hl)]; exact x5
  have L6 : Hid (∀ u, Below W.heap.size W u → u.cell? ⟨w.heap.size, 6, none⟩ = some (.string tb)) := Lib.hid fun u hb => by rw [hb.cell (by exact hl)]; exact x6
  have L7 : Hid (∀ u, Below W.heap.size W u → u.cell? ⟨w.heap.size, 7, none⟩ = some (.string nm)) := Lib.hid fun u hb => by rw [hb.cell (by exact hl)]; exact x7
  have L8 : Hid (∀ u, Below W.heap.size W u → u.cell? ⟨w.heap.size, 8, none⟩ = some (.slice p n c)) := Lib.hid fun u hb => by rw [hb.cell (by exact hl)]; exact x8
  have L9 : Hid (∀ u, Below W.heap.size W u → u.cell? ⟨w.heap.size, 9, none⟩ = some (.slice q n' c')) := Lib.hid fun u hb => by rw [hb.cell (by exact hl)]; exact x9
  clear x1 x2 x3 x4 x5 x6 x7 x8 x9 hl
  refine wp_region_late (use := [[], [0], [1], [], [3], [], [5], [], [6, 7], [], [9], [10], [], [12], [13], [], [15], [16], [17], [], [19], [20], [21], [2, 4, 8, 11, 14, 18, 22], [23], [24]]) (sl := [[3], [4], [5], [6], [7], [8], [9], [10], [11], [12], [13], [14], [15], [16], [17], [18], [19], [20], [21], [22], [23], [24], [25], [26], [27], [2]]) (live := [[], [], [], [], [], [], [], [], [], [], [], [], [], [], [], [], [], [], [], [], [], [], [], [], [], []]) (late := []) (brk := []) (B := W.heap.size) (J := fun u => Below W.heap.size W u) (Φ := fun ix f u => match ix with | 0 => f 3 = .pointer (some ⟨w.heap.size, 1, none⟩) | 1 => f 4 = .int .i64 op | 2 => f 5 = .bool (op != 0) | 3 => f 6 = .pointer (some ⟨w.heap.size, 2, none⟩) | 4 => f 7 = .bool no | 5 => f 8 = .pointer (some ⟨w.heap.size, 3, none⟩) | 6 => f 9 = .agg #[.int .i64 vk, .int .i64 vi, .string vt] | 7 => f 10 = .agg #[.int .i64 0, .int .i64 0, .string ⟨#[]⟩] | 8 => f 11 = .bool (!sameV vk vi vt 0 0 ⟨#[]⟩) | 9 => f 12 = .pointer (some ⟨w.heap.size, 6, none⟩) | 10 => f 13 = .string tb | 11 => f 14 = .bool (!tb.toList.isEmpty) | 12 => f 15 = .pointer (some ⟨w.heap.size, 7, none⟩) | 13 => f 16 = .string nm | 14 => f 17 = .bool (!nm.toList.isEmpty) | 15 => f 18 = .pointer (some ⟨w.heap.size, 8, none⟩) | 16 => f 19 = .slice p n c | 17 => f 20 = .int .i64 n | 18 => f 21 = .bool (decide (0 < n)) | 19 => f 22 = .pointer (some ⟨w.heap.size, 9, none⟩) | 20 => f 23 = .slice q n' c' | 21 => f 24 = .int .i64 n' | 22 => f 25 = .bool (decide (0 < n')) | 23 => ∃ k, f 26 = .slice (some ⟨k, 0, none⟩) 7 7 ∧ SevenAt u k (op != 0) no (!sameV vk vi vt 0 0 ⟨#[]⟩) (!tb.toList.isEmpty) (!nm.toList.isEmpty) (decide (0 < n)) (decide (0 < n')) | 24 => f 27 = .int .i64 (bits7 (op != 0) no (!sameV vk vi vt 0 0 ⟨#[]⟩) (!tb.toList.isEmpty) (!nm.toList.isEmpty) (decide (0 < n)) (decide (0 < n'))) | 25 => f 2 = .int .i64 (bits7 (op != 0) no (!sameV vk vi vt 0 0 ⟨#[]⟩) (!tb.toList.isEmpty) (!nm.toList.isEmpty) (decide (0 < n)) (decide (0 < n'))) | _ => True) (by kernel_rfl) _ rfl (by kernel_rfl) (by kernel_rfl) (Nat.le_refl _) ((Below.refl W.heap.size W).drew) (fun u v h hb => below_next h hb) ?_ ?_ ?_ ?_
  · intro jx f g u u2 hs hb h
    match jx, hs, h with
    | 0, hs, h =>
      have e3 := hs 3 (by decide)
      simp only [e3]
      exact h
    | 1, hs, h =>
      have e4 := hs 4 (by decide)
      simp only [e4]
      exact h
    | 2, hs, h =>
      have e5 := hs 5 (by decide)
      simp only [e5]
      exact h
    | 3, hs, h =>
      have e6 := hs 6 (by decide)
      simp only [e6]
      exact h
    | 4, hs, h =>
      have e7 := hs 7 (by decide)
      simp only [e7]
      exact h
    | 5, hs, h =>
      have e8 := hs 8 (by decide)
      simp only [e8]
      exact h
    | 6, hs, h =>
      have e9 := hs 9 (by decide)
      simp only [e9]
      exact h
    | 7, hs, h =>
      have e10 := hs 10 (by decide)
      simp only [e10]
      exact h
    | 8, hs, h =>
      have e11 := hs 11 (by decide)
      simp only [e11]
      exact h
    | 9, hs, h =>
      have e12 := hs 12 (by decide)
      simp only [e12]
      exact h
    | 10, hs, h =>
      have e13 := hs 13 (by decide)
      simp only [e13]
      exact h
    | 11, hs, h =>
      have e14 := hs 14 (by decide)
      simp only [e14]
      exact h
    | 12, hs, h =>
      have e15 := hs 15 (by decide)
      simp only [e15]
      exact h
    | 13, hs, h =>
      have e16 := hs 16 (by decide)
      simp only [e16]
      exact h
    | 14, hs, h =>
      have e17 := hs 17 (by decide)
      simp only [e17]
      exact h
    | 15, hs, h =>
      have e18 := hs 18 (by decide)
      simp only [e18]
      exact h
    | 16, hs, h =>
      have e19 := hs 19 (by decide)
      simp only [e19]
      exact h
    | 17, hs, h =>
      have e20 := hs 20 (by decide)
      simp only [e20]
      exact h
    | 18, hs, h =>
      have e21 := hs 21 (by decide)
      simp only [e21]
      exact h
    | 19, hs, h =>
      have e22 := hs 22 (by decide)
      simp only [e22]
      exact h
    | 20, hs, h =>
      have e23 := hs 23 (by decide)
      simp only [e23]
      exact h
    | 21, hs, h =>
      have e24 := hs 24 (by decide)
      simp only [e24]
      exact h
    | 22, hs, h =>
      have e25 := hs 25 (by decide)
      simp only [e25]
      exact h
    | 23, hs, h =>
      have e26 := hs 26 (by decide)
      simp only [e26]
      exact (by obtain ⟨k, h1, h2⟩ := h; exact ⟨k, h1, h2.low hb⟩)
    | 24, hs, h =>
      have e27 := hs 27 (by decide)
      simp only [e27]
      exact h
    | 25, hs, h =>
      have e2 := hs 2 (by decide)
      simp only [e2]
      exact h
    | _ + 26, _, h => exact h
  · intro ix o hix hne f u hold hbe hgr hJ huse
    obtain ⟨kt, kc, kf⟩ := evF_all f
    match ix, hix, hne with
    | 0, hix, _ =>
      simp only [List.getElem?_cons_zero, Option.some.injEq] at hix
      subst hix
      have h1 : f 1 = .pointer (some ⟨w.heap.size, 0, none⟩) := (hold 1 (by kernel_rfl)).trans rfl
      refine gives_K fun K hK => ?_
      go_simp
      exact gives_value (hK _ _ ⟨Below.refl _ _, by simp [upF]⟩)
    | 1, hix, _ =>
      simp only [List.getElem?_cons_zero, List.getElem?_cons_succ, Option.some.injEq] at hix
      subst hix
      have u0 := huse 0 (by decide)
      simp only at u0
      have hJw := hJ (by kernel_rfl)
      have x := L1.out u hJw
      refine gives_K fun K hK => ?_
      go_simp
      exact gives_value (hK _ _ ⟨Below.refl _ _, by simp [upF]⟩)
    | 2, hix, _ =>
      simp only [List.getElem?_cons_zero, List.getElem?_cons_succ, Option.some.injEq] at hix
      subst hix
      have u1 := huse 1 (by decide)
      simp only at u1
      refine gives_K fun K hK => ?_
      go_simp
      exact gives_value (hK _ _ ⟨Below.refl _ _, by simp [upF]⟩)
    | 3, hix, _ =>
      simp only [List.getElem?_cons_zero, List.getElem?_cons_succ, Option.some.injEq] at hix
      subst hix
      have h1 : f 1 = .pointer (some ⟨w.heap.size, 0, none⟩) := (hold 1 (by kernel_rfl)).trans rfl
      refine gives_K fun K hK => ?_
      go_simp
      exact gives_value (hK _ _ ⟨Below.refl _ _, by simp [upF]⟩)
    | 4, hix, _ =>
      simp only [List.getElem?_cons_zero, List.getElem?_cons_succ, Option.some.injEq] at hix
      subst hix
      have u3 := huse 3 (by decide)
      simp only at u3
      have hJw := hJ (by kernel_rfl)
      have x := L2.out u hJw
      refine gives_K fun K hK => ?_
      go_simp
      exact gives_value (hK _ _ ⟨Below.refl _ _, by simp [upF]⟩)
    | 5, hix, _ =>
      simp only [List.getElem?_cons_zero, List.getElem?_cons_succ, Option.some.injEq] at hix
      subst hix
      have h1 : f 1 = .pointer (some ⟨w.heap.size, 0, none⟩) := (hold 1 (by kernel_rfl)).trans rfl
      refine gives_K fun K hK => ?_
      go_simp
      exact gives_value (hK _ _ ⟨Below.refl _ _, by simp [upF]⟩)
    | 6, hix, _ =>
      simp only [List.getElem?_cons_zero, List.getElem?_cons_succ, Option.some.injEq] at hix
      subst hix
      have u5 := huse 5 (by decide)
      simp only at u5
      have hJw := hJ (by kernel_rfl)
      have x := L3.out u hJw
      have x' := L4.out u hJw
      have x'' := L5.out u hJw
      refine gives_K fun K hK => ?_
      go_simp
      exact gives_value (hK _ _ ⟨Below.refl _ _, by simp [upF]⟩)
    | 7, hix, _ =>
      simp only [List.getElem?_cons_zero, List.getElem?_cons_succ, Option.some.injEq] at hix
      subst hix
      refine gives_K fun K hK => ?_
      go_simp
      exact gives_value (hK _ _ ⟨Below.refl _ _, by simp [upF]⟩)
    | 8, hix, _ =>
      simp only [List.getElem?_cons_zero, List.getElem?_cons_succ, Option.some.injEq] at hix
      subst hix
      have u6 := huse 6 (by decide)
      have u7 := huse 7 (by decide)
      simp only at u6 u7
      have hq := neq_val vk vi vt 0 0 ⟨#[]⟩
      refine gives_K fun K hK => ?_
      go_simp
      exact gives_value (hK _ _ ⟨Below.refl _ _, by simp [upF]⟩)
    | 9, hix, _ =>
      simp only [List.getElem?_cons_zero, List.getElem?_cons_succ, Option.some.injEq] at hix
      subst hix
      have h1 : f 1 = .pointer (some ⟨w.heap.size, 0, none⟩) := (hold 1 (by kernel_rfl)).trans rfl
      refine gives_K fun K hK => ?_
      go_simp
      exact gives_value (hK _ _ ⟨Below.refl _ _, by simp [upF]⟩)
    | 10, hix, _ =>
      simp only [List.getElem?_cons_zero, List.getElem?_cons_succ, Option.some.injEq] at hix
      subst hix
      have u9 := huse 9 (by decide)
      simp only at u9
      have hJw := hJ (by kernel_rfl)
      have x := L6.out u hJw
      refine gives_K fun K hK => ?_
      go_simp
      exact gives_value (hK _ _ ⟨Below.refl _ _, by simp [upF]⟩)
    | 11, hix, _ =>
      simp only [List.getElem?_cons_zero, List.getElem?_cons_succ, Option.some.injEq] at hix
      subst hix
      have u10 := huse 10 (by decide)
      simp only at u10
      refine gives_K fun K hK => ?_
      go_simp
      exact gives_value (hK _ _ ⟨Below.refl _ _, by simp [upF]⟩)
    | 12, hix, _ =>
      simp only [List.getElem?_cons_zero, List.getElem?_cons_succ, Option.some.injEq] at hix
      subst hix
      have h1 : f 1 = .pointer (some ⟨w.heap.size, 0, none⟩) := (hold 1 (by kernel_rfl)).trans rfl
      refine gives_K fun K hK => ?_
      go_simp
      exact gives_value (hK _ _ ⟨Below.refl _ _, by simp [upF]⟩)
    | 13, hix, _ =>
      simp only [List.getElem?_cons_zero, List.getElem?_cons_succ, Option.some.injEq] at hix
      subst hix
      have u12 := huse 12 (by decide)
      simp only at u12
      have hJw := hJ (by kernel_rfl)
      have x := L7.out u hJw
      refine gives_K fun K hK => ?_
      go_simp
      exact gives_value (hK _ _ ⟨Below.refl _ _, by simp [upF]⟩)
    | 14, hix, _ =>
      simp only [List.getElem?_cons_zero, List.getElem?_cons_succ, Option.some.injEq] at hix
      subst hix
      have u13 := huse 13 (by decide)
      simp only at u13
      refine gives_K fun K hK => ?_
      go_simp
      exact gives_value (hK _ _ ⟨Below.refl _ _, by simp [upF]⟩)
    | 15, hix, _ =>
      simp only [List.getElem?_cons_zero, List.getElem?_cons_succ, Option.some.injEq] at hix
      subst hix
      have h1 : f 1 = .pointer (some ⟨w.heap.size, 0, none⟩) := (hold 1 (by kernel_rfl)).trans rfl
      refine gives_K fun K hK => ?_
      go_simp
      exact gives_value (hK _ _ ⟨Below.refl _ _, by simp [upF]⟩)
    | 16, hix, _ =>
      simp only [List.getElem?_cons_zero, List.getElem?_cons_succ, Option.some.injEq] at hix
      subst hix
      have u15 := huse 15 (by decide)
      simp only at u15
      have hJw := hJ (by kernel_rfl)
      have x := L8.out u hJw
      refine gives_K fun K hK => ?_
      go_simp
      exact gives_value (hK _ _ ⟨Below.refl _ _, by simp [upF]⟩)
    | 17, hix, _ =>
      simp only [List.getElem?_cons_zero, List.getElem?_cons_succ, Option.some.injEq] at hix
      subst hix
      have u16 := huse 16 (by decide)
      simp only at u16
      refine gives_K fun K hK => ?_
      go_simp
      exact gives_value (hK _ _ ⟨Below.refl _ _, by simp [upF]⟩)
    | 18, hix, _ =>
      simp only [List.getElem?_cons_zero, List.getElem?_cons_succ, Option.some.injEq] at hix
      subst hix
      have u17 := huse 17 (by decide)
      simp only at u17
      refine gives_K fun K hK => ?_
      go_simp
      exact gives_value (hK _ _ ⟨Below.refl _ _, by simp [upF]⟩)
    | 19, hix, _ =>
      simp only [List.getElem?_cons_zero, List.getElem?_cons_succ, Option.some.injEq] at hix
      subst hix
      have h1 : f 1 = .pointer (some ⟨w.heap.size, 0, none⟩) := (hold 1 (by kernel_rfl)).trans rfl
      refine gives_K fun K hK => ?_
      go_simp
      exact gives_value (hK _ _ ⟨Below.refl _ _, by simp [upF]⟩)
    | 20, hix, _ =>
      simp only [List.getElem?_cons_zero, List.getElem?_cons_succ, Option.some.injEq] at hix
      subst hix
      have u19 := huse 19 (by decide)
      simp only at u19
      have hJw := hJ (by kernel_rfl)
      have x := L9.out u hJw
      refine gives_K fun K hK => ?_
      go_simp
      exact gives_value (hK _ _ ⟨Below.refl _ _, by simp [upF]⟩)
    | 21, hix, _ =>
      simp only [List.getElem?_cons_zero, List.getElem?_cons_succ, Option.some.injEq] at hix
      subst hix
      have u20 := huse 20 (by decide)
      simp only at u20
      refine gives_K fun K hK => ?_
      go_simp
      exact gives_value (hK _ _ ⟨Below.refl _ _, by simp [upF]⟩)
    | 22, hix, _ =>
      simp only [List.getElem?_cons_zero, List.getElem?_cons_succ, Option.some.injEq] at hix
      subst hix
      have u21 := huse 21 (by decide)
      simp only at u21
      refine gives_K fun K hK => ?_
      go_simp
      exact gives_value (hK _ _ ⟨Below.refl _ _, by simp [upF]⟩)
    | 23, hix, _ =>
      simp only [List.getElem?_cons_zero, List.getElem?_cons_succ, Option.some.injEq] at hix
      subst hix
      have u2 := huse 2 (by decide)
      have u4 := huse 4 (by decide)
      have u8 := huse 8 (by decide)
      have u11 := huse 11 (by decide)
      have u14 := huse 14 (by decide)
      have u18 := huse 18 (by decide)
      have u22 := huse 22 (by decide)
      simp only at u2 u4 u8 u11 u14 u18 u22
      refine gives_K fun K hK => ?_
      go_simp
      exact gives_value (hK _ _ ⟨below_alloc _ _, u.heap.size, by simp [upF], seven_new u (op != 0) no (!sameV vk vi vt 0 0 ⟨#[]⟩) (!tb.toList.isEmpty) (!nm.toList.isEmpty) (decide (0 < n)) (decide (0 < n')) _⟩)
    | 24, hix, _ =>
      simp only [List.getElem?_cons_zero, List.getElem?_cons_succ, Option.some.injEq] at hix
      subst hix
      have u23 := huse 23 (by decide)
      simp only at u23
      obtain ⟨k, h26, h7⟩ := u23
      have HC := set7_any u k (op != 0) no (!sameV vk vi vt 0 0 ⟨#[]⟩) (!tb.toList.isEmpty) (!nm.toList.isEmpty) (decide (0 < n)) (decide (0 < n')) h7
      refine gives_K fun K hK => ?_
      go_simp
      refine gives_enter (HC.mono ?_)
      rintro e w2 ⟨rfl, rfl⟩
      exact ⟨_, rfl, hK _ _ ⟨Below.refl _ _, by simp [upF]⟩⟩
    | 25, hix, _ =>
      simp only [List.getElem?_cons_zero, List.getElem?_cons_succ, Option.some.injEq] at hix
      subst hix
      have u24 := huse 24 (by decide)
      simp only at u24
      refine gives_K fun K hK => ?_
      go_simp
      exact gives_value (hK _ _ ⟨Below.refl _ _, by simp [upF]⟩)
    | ix + 26, hix, _ => simp at hix
  · intro ix o hix hin f u hold hbe hgr hJ huse
    obtain ⟨kt, kc, kf⟩ := evF_all f
    match ix, hix, hin with
    | 0, _, hin => exact absurd hin (by decide)
    | 1, _, hin => exact absurd hin (by decide)
    | 2, _, hin => exact absurd hin (by decide)
    | 3, _, hin => exact absurd hin (by decide)
    | 4, _, hin => exact absurd hin (by decide)
    | 5, _, hin => exact absurd hin (by decide)
    | 6, _, hin => exact absurd hin (by decide)
    | 7, _, hin => exact absurd hin (by decide)
    | 8, _, hin => exact absurd hin (by decide)
    | 9, _, hin => exact absurd hin (by decide)
    | 10, _, hin => exact absurd hin (by decide)
    | 11, _, hin => exact absurd hin (by decide)
    | 12, _, hin => exact absurd hin (by decide)
    | 13, _, hin => exact absurd hin (by decide)
    | 14, _, hin => exact absurd hin (by decide)
    | 15, _, hin => exact absurd hin (by decide)
    | 16, _, hin => exact absurd hin (by decide)
    | 17, _, hin => exact absurd hin (by decide)
    | 18, _, hin => exact absurd hin (by decide)
    | 19, _, hin => exact absurd hin (by decide)
    | 20, _, hin => exact absurd hin (by decide)
    | 21, _, hin => exact absurd hin (by decide)
    | 22, _, hin => exact absurd hin (by decide)
    | 23, _, hin => exact absurd hin (by decide)
    | 24, _, hin => exact absurd hin (by decide)
    | 25, _, hin => exact absurd hin (by decide)
    | ix + 26, hix, _ => simp at hix
  · intro f2 u2 hbe hall
    have u25 := hall 25 (by decide) (by kernel_rfl)
    simp only at u25
    clear hall
    simp only [putAll, List.foldl_cons, List.foldl_nil, Act.put, List.setIfInBounds_toArray, List.set_cons_succ, List.set_cons_zero]
    rw [u25]
    have HBE := Lib.hid (below_next HB0.out (Below.trans ((Below.refl W.heap.size W).drew) hbe))
    clear hbe u25 L1 L2 L3 L4 L5 L6 L7 L8 L9
    go_wp2
    go_ret
    exact ⟨rfl, HBE.out⟩
--ENDBLK
end Go.Proofs.YtlpaphgmdcpmaaaGreatDoor
/-
  exprSpare of package syntax.
-/
namespace Go.Proofs.YtlpaphgmdcpmaaaGreatDoor
set_option maxRecDepth 100000
open Go.RowKit
variable {ls : List Nat}

/-- Has an expression a kind that exists, and fills only fields that the kind uses? -/
def fitB (k op vk vi : Int) (no : Bool) (vt tb nm : ByteArray) (n n' : Nat) : Bool :=
  decide (1 ≤ k ∧ k ≤ 12) && usesB k.toNat (op != 0) no (!sameV vk vi vt 0 0 ⟨#[]⟩) (!tb.toList.isEmpty) (!nm.toList.isEmpty) (decide (0 < n)) (decide (0 < n'))
abbrev exO (k op vk vi : Int) (no : Bool) (vt tb nm : ByteArray) (p q : Option Addr) (n c n' c' : Nat) : Obj := .cells #[.int .i64 k, .int .i64 op, .bool no, .int .i64 vk, .int .i64 vi, .string vt, .string tb, .string nm, .slice p n c, .slice q n' c'] 27
set_option maxHeartbeats 2000000 in
theorem spare_c (k op vk vi : Int) (no : Bool) (vt tb nm : ByteArray) (p q : Option Addr) (n c n' c' : Nat) (w : World) (hE : Env ls w) (hu : 4 ∈ ls) :
    Calls Tryz.prog 35 #[.agg #[.int .i64 k, .int .i64 op, .bool no, .int .i64 vk, .int .i64 vi, .string vt, .string tb, .string nm, .slice p n c, .slice q n' c']] w fun e w' => e = .returned (.bool (!fitB k op vk vi no vt tb nm n n')) ∧ Below w.heap.size w w' := by
  have hb0 := below_alloc w (exO k op vk vi no vt tb nm p q n c n' c')
  have hl : w.heap.size < (w.alloc (exO k op vk vi no vt tb nm p q n c n' c')).heap.size := by simp
  have x0 : (w.alloc (exO k op vk vi no vt tb nm p q n c n' c')).cell? ⟨w.heap.size, 0, none⟩ = some (.int .i64 k) := by go_simp
  have x1 : (w.alloc (exO k op vk vi no vt tb nm p q n c n' c')).cell? ⟨w.heap.size, 1, none⟩ = some (.int .i64 op) := by go_simp
  have x2 : (w.alloc (exO k op vk vi no vt tb nm p q n c n' c')).cell? ⟨w.heap.size, 2, none⟩ = some (.bool no) := by go_simp
  have x3 : (w.alloc (exO k op vk vi no vt tb nm p q n c n' c')).cell? ⟨w.heap.size, 3, none⟩ = some (.int .i64 vk) := by go_simp
  have x4 : (w.alloc (exO k op vk vi no vt tb nm p q n c n' c')).cell? ⟨w.heap.size, 4, none⟩ = some (.int .i64 vi) := by go_simp
  have x5 : (w.alloc (exO k op vk vi no vt tb nm p q n c n' c')).cell? ⟨w.heap.size, 5, none⟩ = some (.string vt) := by go_simp
  have x6 : (w.alloc (exO k op vk vi no vt tb nm p q n c n' c')).cell? ⟨w.heap.size, 6, none⟩ = some (.string tb) := by go_simp
  have x7 : (w.alloc (exO k op vk vi no vt tb nm p q n c n' c')).cell? ⟨w.heap.size, 7, none⟩ = some (.string nm) := by go_simp
  have x8 : (w.alloc (exO k op vk vi no vt tb nm p q n c n' c')).cell? ⟨w.heap.size, 8, none⟩ = some (.slice p n c) := by go_simp
  have x9 : (w.alloc (exO k op vk vi no vt tb nm p q n c n' c')).cell? ⟨w.heap.size, 9, none⟩ = some (.slice q n' c') := by go_simp
  have HB0 := Lib.hid hb0
  have HE0 := Lib.hid (hE.alloc (exO k op vk vi no vt tb nm p q n c n' c'))
  clear hb0 hE
  have hF := Lib.hid (filled_c k op vk vi no vt tb nm p q n c n' c')
  rcases (show k < 1 ∨ 13 ≤ k ∨ (1 ≤ k ∧ k ≤ 12) by omega) with h | h | ⟨h1, h2⟩
  · have hv : Hid ((!fitB k op vk vi no vt tb nm n n') = true) := Lib.hid (by unfold fitB; rw [decide_eq_false (by omega)]; rfl)
    have d1 : decide (k < 1) = true := decide_eq_true h
    go_enter Tryz.func35, Tryz.ntmps35
    go_upto_region 1 with (fail)
    generalize w.alloc _ = W at *
    have l0 := lowW_cell (W := W) (by exact hl) x0
    refine wp_region_low (by kernel_rfl) (by kernel_rfl) ?_
    repeat (refine wq_step (fun K hK => ?_); go_simp; first | (refine hK _ ?_; clear hK K))
    refine wq_nil ?_
    rintro _ ⟨⟨d3, os3⟩, rfl⟩
    dsimp only
    have HB3 := Lib.hid (below_next HB0.out (lowW_low W d3 os3))
    clear l0
    generalize lowW W d3 os3 = W3 at HB3 ⊢
    go_wp2
    go_ret
    exact ⟨ret_bool hv.out.symm, HB3.out⟩
  · have hv : Hid ((!fitB k op vk vi no vt tb nm n n') = true) := Lib.hid (by unfold fitB; rw [decide_eq_false (by omega)]; rfl)
    have d1 : decide (k < 1) = false := decide_eq_false (by omega)
    have d2 : decide (13 ≤ k) = true := decide_eq_true h
    go_enter Tryz.func35, Tryz.ntmps35
    go_upto_region 1 with (fail)
    generalize w.alloc _ = W at *
    have l0 := lowW_cell (W := W) (by exact hl) x0
    refine wp_region_low (by kernel_rfl) (by kernel_rfl) ?_
    repeat (refine wq_step (fun K hK => ?_); go_simp; first | (refine hK _ ?_; clear hK K))
    refine wq_nil ?_
    rintro _ ⟨⟨d3, os3⟩, rfl⟩
    dsimp only
    have HB3 := Lib.hid (below_next HB0.out (lowW_low W d3 os3))
    clear l0
    generalize lowW W d3 os3 = W3 at HB3 ⊢
    go_wp2
    go_ret
    exact ⟨ret_bool hv.out.symm, HB3.out⟩
  · obtain ⟨j, rfl⟩ : ∃ j : Nat, k = j := ⟨k.toNat, by omega⟩
    have hj1 : 1 ≤ j := by omega
    have hj2 : j ≤ 12 := by omega
    have hj13 : (j : Int) < 13 := by omega
    have hua := uses_all (op != 0) no (!sameV vk vi vt 0 0 ⟨#[]⟩) (!tb.toList.isEmpty) (!nm.toList.isEmpty) (decide (0 < n)) (decide (0 < n')) ⟨j - 1, by omega⟩
    simp only [show j - 1 + 1 = j by omega] at hua
    have hv : Hid ((!fitB j op vk vi no vt tb nm n n') = (bits .andNot .i64 (bits7 (op != 0) no (!sameV vk vi vt 0 0 ⟨#[]⟩) (!tb.toList.isEmpty) (!nm.toList.isEmpty) (decide (0 < n)) (decide (0 < n'))) (useL.getD j 0) != 0)) := Lib.hid (by
      unfold fitB
      rw [decide_eq_true ⟨h1, h2⟩, Int.toNat_natCast, ← hua]; rfl)
    clear hua
    have hcu := (HE0.out.uses hu j (by omega))
    have hgl : 4 < (w.alloc (exO j op vk vi no vt tb nm p q n c n' c')).heap.size := Nat.lt_of_lt_of_le (show 4 < 13 by decide) HE0.out.size
    have d1 : decide ((j : Int) < 1) = false := decide_eq_false (by omega)
    have d2 : decide (13 ≤ (j : Int)) = false := decide_eq_false (by omega)
    go_enter Tryz.func35, Tryz.ntmps35
    go_upto_region 1 with (fail)
    generalize w.alloc _ = W at *
    generalize useL.getD j 0 = uj at *
    have l0 := lowW_cell (W := W) (by exact hl) x0
    have l1 := lowW_cell (W := W) (by exact hl) x1
    have l2 := lowW_cell (W := W) (by exact hl) x2
    have l3 := lowW_cell (W := W) (by exact hl) x3
    have l4 := lowW_cell (W := W) (by exact hl) x4
    have l5 := lowW_cell (W := W) (by exact hl) x5
    have l6 := lowW_cell (W := W) (by exact hl) x6
    have l7 := lowW_cell (W := W) (by exact hl) x7
    have l8 := lowW_cell (W := W) (by exact hl) x8
    have l9 := lowW_cell (W := W) (by exact hl) x9
    have lu := lowW_cell (W := W) (by exact hgl) hcu
    generalize bits7 (op != 0) no (!sameV vk vi vt 0 0 ⟨#[]⟩) (!tb.toList.isEmpty) (!nm.toList.isEmpty) (decide (0 < n)) (decide (0 < n')) = b7 at *
    refine wp_region_low (by kernel_rfl) (by kernel_rfl) ?_
    repeat (refine wq_step (fun K hK => ?_); go_simp; first | (refine hK _ ?_; clear hK K) | (apply Exists.intro; refine ⟨fun _ => ?_, hK _ ?_⟩; (go_at_call 66; exact Calls.low_of (hF.out _)); clear hK K))
    refine wq_nil ?_
    rintro _ ⟨⟨d3, os3⟩, rfl⟩
    dsimp only
    have HB3 := Lib.hid (below_next HB0.out (lowW_low W d3 os3))
    clear l0 l1 l2 l3 l4 l5 l6 l7 l8 l9 lu
    generalize lowW W d3 os3 = W3 at HB3 ⊢
    go_wp2
    go_ret
    exact ⟨ret_bool hv.out.symm, HB3.out⟩
end Go.Proofs.YtlpaphgmdcpmaaaGreatDoor
/-
  What package syntax tests of an expression is what makes it well-formed, plain.
-/
namespace Go.Proofs.YtlpaphgmdcpmaaaGreatDoor
set_option maxRecDepth 100000
open Go.RowKit
variable {ls : List Nat}

def fitE' (e : Ex) : Bool := fitB e.k e.op e.vk e.vi e.no e.vt e.tb e.nm e.args.length e.sub.length
/-- What ValidExpr tests of the parts, by the kind. -/
def partsB (V : Ex → Bool) (q : Qu) : Bool := srcB q.fr && (decide (q.wh.length ≤ 1) && q.wh.all V) && q.items.all V
def hasB (k : Int) (q : Qu) : Bool := if k = 8 then q.st && decide (q.items.length = 0) else if k = 9 then !q.st && decide (q.items.length = 0) else !q.st && decide (q.items.length = 1)
def kindV (V : Ex → Bool) (e : Ex) : Bool :=
  if e.k = 1 then validB e.vk e.vi e.vt && decide (0 ≤ e.vi)
  else if e.k = 2 then nameOK e.nm && qualB e.tb
  else if e.k = 3 ∨ e.k = 4 ∨ e.k = 6 then decide (e.args.length = 1) && e.args.all V
  else if e.k = 5 then decide (1 ≤ e.op ∧ e.op ≤ 13) && decide (e.args.length = 2) && e.args.all V
  else if e.k = 7 then decide (e.args.length = 3) && e.args.all V
  else decide (e.sub.length = 1) && hasB e.k (qAt e.sub 0) && partsB V (qAt e.sub 0)
theorem noVal_same (e : Ex) : noVal e = sameV e.vk e.vi e.vt 0 0 ⟨#[]⟩ := by
  unfold noVal sameV
  rw [Bool.eq_iff_iff]
  simp only [Bool.and_eq_true, decide_eq_true_eq, eqT_iff, and_assoc]
theorem empty_eqT (s : ByteArray) : s.toList.isEmpty = eqT s ⟨#[]⟩ := by
  unfold eqT
  rw [no_bytes]
  cases s.toList <;> rfl
theorem hasB_eq {k : Int} (h8 : 8 ≤ k) (h12 : k ≤ 12) (q : Qu) : hasB k q = ((q.st == decide (k = 8)) && decide (q.items.length = itemN k)) := by
  unfold hasB itemN
  by_cases h1 : k = 8
  · subst h1; cases q.st <;> simp
  · by_cases h2 : k = 9
    · subst h2; cases q.st <;> simp
    · rw [if_neg h1, if_neg h2, if_pos (by omega), decide_eq_false h1]; cases q.st <;> simp
theorem quB_parts {V : Ex → Bool} {k : Int} (h8 : 8 ≤ k) (h12 : k ≤ 12) (q : Qu) : quB V k q = (hasB k q && partsB V q) := by
  rw [hasB_eq h8 h12]
  unfold quB partsB
  generalize srcB q.fr = a
  generalize q.items.all V = b
  generalize q.wh.all V = c
  generalize (q.st == decide (k = 8)) = d
  generalize decide (q.items.length = itemN k) = e
  generalize decide (q.wh.length ≤ 1) = f
  revert a b c d e f
  decide
theorem all_one {α : Type} {p : α → Bool} {l : List α} {x : α} (h : l = [x]) : l.all p = p x := by rw [h]; simp
theorem not_ne (a : Int) : (!(a != 0)) = decide (a = 0) := by
  by_cases h : a = 0 <;> simp [h]
theorem not_pos (n : Nat) : (!decide (0 < n)) = decide (n = 0) := by
  by_cases h : n = 0
  · subst h; rfl
  · rw [decide_eq_true (by omega : 0 < n), decide_eq_false h]; rfl
theorem len_all {V : Ex → Bool} {k : Int} {l : List Qu} : (decide (l.length = 0) && l.all (quB V k)) = decide (l.length = 0) := by
  cases l <;> simp
theorem args_all {V : Ex → Bool} {l : List Ex} : (decide (l.length = 0) && l.all V) = decide (l.length = 0) := by
  cases l <;> simp
theorem sub_one {V : Ex → Bool} {k : Int} (h8 : 8 ≤ k) (h12 : k ≤ 12) {l : List Qu} : (decide (l.length = 1) && l.all (quB V k)) = (decide (l.length = 1) && hasB k (qAt l 0) && partsB V (qAt l 0)) := by
  match l with
  | [] => rfl
  | [q] => show (true && (quB V k q && true)) = (true && hasB k q && partsB V q); rw [quB_parts h8 h12]; simp
  | _ :: _ :: _ => simp
theorem bool6 : ∀ (l0 s0 o n p a x : Bool), (s0 && x) = s0 → (true && l0 && s0 && o && (!n || false) && (p && a && x)) = ((true && (o && !n && p && true && s0)) && (l0 && a)) := by decide
theorem vOf_kind {V : Ex → Bool} {e : Ex} : vOf V e = (fitE' e && kindV V e) := by
  by_cases hr : 1 ≤ e.k ∧ e.k ≤ 12
  · have hk : e.k = 1 ∨ e.k = 2 ∨ e.k = 3 ∨ e.k = 4 ∨ e.k = 5 ∨ e.k = 6 ∨ e.k = 7 ∨ e.k = 8 ∨ e.k = 9 ∨ e.k = 10 ∨ e.k = 11 ∨ e.k = 12 := by omega
    have hla := @args_all V e.args
    have hls := @len_all V e.k e.sub
    have hs1 := fun h8 h12 => @sub_one V e.k h8 h12 e.sub
    unfold vOf fitE' fitB usesB kindV plainB
    rw [← noVal_same, empty_eqT, empty_eqT, not_ne, not_pos, not_pos]
    generalize noVal e = nv at *
    generalize eqT e.tb ⟨#[]⟩ = et at *
    generalize eqT e.nm ⟨#[]⟩ = en at *
    generalize e.args.all V = aa at *
    generalize e.no = no at *
    generalize validB e.vk e.vi e.vt = vb at *
    generalize qualB e.tb = qb at *
    generalize nameOK e.nm = nb at *
    generalize decide (0 ≤ e.vi) = di at *
    generalize partsB V (qAt e.sub 0) = pb at *
    generalize e.args.length = na at *
    generalize e.sub.length = ns at *
    rcases hk with hk | hk | hk | hk | hk | hk | hk | hk | hk | hk | hk | hk
    all_goals
      rw [hk] at hls hs1 ⊢
      generalize hasB _ (qAt e.sub 0) = hb at *
      generalize e.sub.all (quB V _) = sa at *
      generalize e.op = op at *
      clear hk hr
      simp [argN, subN] at hls hs1 ⊢
      try grind
  · rw [show vOf V e = false from by unfold vOf; rw [decide_eq_false hr]; rfl, show fitE' e = false from by unfold fitE' fitB; rw [decide_eq_false hr]; rfl]
    rfl
end Go.Proofs.YtlpaphgmdcpmaaaGreatDoor
