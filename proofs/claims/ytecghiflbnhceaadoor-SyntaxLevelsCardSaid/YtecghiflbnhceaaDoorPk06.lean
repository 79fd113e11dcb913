/-
  Several texts in one.
-/
import Derived.Test.YtecghiflbnhceaaDoorPk05
import Derived.Test.YtecghiflbnhceaaDoorPk04
import Derived.Test.YtecghiflbnhceaaDoorPk01
import Derived.RegionTactic
import Derived.Deep.RegionWith
import Derived.Laws.BytesArg
import Derived.OpenShut
/-
  Sets of bits of package syntax: set.
-/
namespace Go.Proofs.YtecghiflbnhceaaDoor
set_option maxRecDepth 100000
open Go.RowKit
variable {ls : List Nat}

def bitsN (f : Nat → Bool) : Nat → Int
  | 0 => 0
  | n + 1 => if f n then bits .or .i64 (bitsN f n) (wrap64 (2 ^ n)) else bitsN f n
set_option maxHeartbeats 1000000 in
theorem set_any (p : Option Addr) (n cap : Nat) (f : Nat → Bool) (w : World) (hn : n ≤ 60) (h : ∀ i, i < n → ∃ c o : Nat, p = some ⟨c, o, none⟩ ∧ c < w.heap.size ∧ w.cell? ⟨c, o + i, none⟩ = some (.bool (f i))) :
    Calls Tryd.prog 60 #[.slice p n cap] w fun e w' => e = .returned (.int .i64 (bitsN f n)) ∧ w = w' := by
  have H := Lib.hid h
  clear h
  go_enter Tryd.func60, Tryd.ntmps60
  go_wp2_with fail
  go_loopw [3, 8] (fun r i v => ∃ k : Nat, k ≤ n ∧ i = .int .i64 k ∧ r = .int .i64 (bitsN f k) ∧ w = v) (fun _ i _ => n - (intOf i).toNat)
  case atStart => exact ⟨0, Nat.zero_le _, rfl, rfl, rfl⟩
  case round =>
    obtain ⟨k, hk, rfl, rfl, rfl⟩ := hrel
    by_cases hlt : k < n
    · have hlt' : decide ((k : Int) < n) = true := decide_eq_true (by omega)
      obtain ⟨c, o, rfl, hc, hcl⟩ := H.out k hlt
      cases hf : f k
      · rw [hf] at hcl
        have HF := Lib.hid hf
        clear hf
        go_wp2
        go_roundw
        case rel => exact ⟨k + 1, by omega, by go_num, by show _ = Value.int .i64 (if f k then _ else _); rw [HF.out]; rfl, trivial⟩
        case measure => simp [intOf]; omega
      · rw [hf] at hcl
        have HF := Lib.hid hf
        clear hf
        go_wp2
        go_roundw
        case rel => exact ⟨k + 1, by omega, by go_num, by show _ = Value.int .i64 (if f k then _ else _); rw [HF.out]; rfl, trivial⟩
        case measure => simp [intOf]; omega
    · have hlt' : decide ((k : Int) < n) = false := decide_eq_false (by omega)
      obtain rfl : k = n := by omega
      go_wp2
      go_ret
      exact ⟨rfl, rfl⟩
def f7 (b0 b1 b2 b3 b4 b5 b6 : Bool) (i : Nat) : Bool := [b0, b1, b2, b3, b4, b5, b6].getD i false
def bits7 (b0 b1 b2 b3 b4 b5 b6 : Bool) : Int := bitsN (f7 b0 b1 b2 b3 b4 b5 b6) 7
/-- Are all filled fields among those that a kind uses? -/
def usesB (k : Nat) (b0 b1 b2 b3 b4 b5 b6 : Bool) : Bool :=
  (!b0 || k == 5) && (!b1 || k == 6) && (!b2 || k == 1) && (!b3 || k == 2) && (!b4 || k == 2) && (!b5 || (3 ≤ k && k ≤ 7)) && (!b6 || 8 ≤ k)
theorem uses_all : ∀ (b0 b1 b2 b3 b4 b5 b6 : Bool) (k : Fin 12), (bits .andNot .i64 (bits7 b0 b1 b2 b3 b4 b5 b6) (useL.getD (k.val + 1) 0) == 0) = usesB (k.val + 1) b0 b1 b2 b3 b4 b5 b6 := by decide +kernel
end Go.Proofs.YtecghiflbnhceaaDoor
/-
  A drawn region whose operations make memory: each operation is shown once, from the facts of those that it waits for; no orders are told apart.
-/
namespace Go.Proofs.YtecghiflbnhceaaDoor
set_option maxRecDepth 100000
open Go.RowKit

def slotF (a : Act) (s : Nat) : Value := a.tmps.getD s undef
/-- Does operation i wait for operation k? -/
def reach (ops : Array Oper) : Nat → Nat → Nat → Bool
  | 0, _, _ => false
  | n + 1, i, k => match ops[i]? with
    | none => false
    | some o => o.after.any fun e => Region.binds .any e && (e.on == k || reach ops n e.on k)
/-- What has come up is closed. -/
def Shut (ops : Array Oper) (listed : Array Bool) : Prop := ∀ (j : Nat) (o : Oper), ops[j]? = some o → listed.getD j false = true → ∀ e ∈ o.after, Region.binds .any e = true → listed.getD e.on false = true
theorem reach_listed {ops : Array Oper} {listed : Array Bool} (hs : Shut ops listed) : ∀ (n i k : Nat) (o : Oper), ops[i]? = some o → (∀ e ∈ o.after, Region.binds .any e = true → listed.getD e.on false = true) → reach ops n i k = true → listed.getD k false = true := by
  intro n
  induction n with
  | zero => intro i k o _ _ h; cases h
  | succ n ih =>
    intro i k o ho hd h
    unfold reach at h
    rw [ho] at h
    simp only [Array.any_eq_true'] at h
    obtain ⟨e, he, h⟩ := h
    rw [Bool.and_eq_true, Bool.or_eq_true] at h
    have h1 := hd e he h.1
    rcases h.2 with h2 | h2
    · rw [← beq_iff_eq.1 h2]; exact h1
    · cases hoe : ops[e.on]? with
      | none => cases n with
        | zero => cases h2
        | succ n => unfold reach at h2; rw [hoe] at h2; cases h2
      | some o' => exact ih e.on k o' hoe (hs e.on o' hoe h1) h2
/-- What a region's plan must meet: no guards, each slot set once, and each fact is used where it stands. -/
def eachB (l : List Oper) (use sl : List (List Nat)) (live : List Bool) (st : Nat) : Bool :=
  let n := l.length
  let ops := l.toArray
  l.all (fun o => o.guard.isNone) &&
  (List.range n).all fun i =>
    (match l[i]? with | some o => o.after.all (fun e => !Region.binds .any e || decide (e.on < i)) | none => true) &&
    (use.getD i []).all (fun k => reach ops n i k && (live.getD k false || reach ops n st i || i == st)) &&
    (List.range n).all fun j => i == j || reach ops n j i || (match (l[i]?).bind (·.dst) with | some d => !(sl.getD j []).contains d | none => true)
theorem getD_out {listed : Array Bool} {i : Nat} (h : listed.size ≤ i) : listed.getD i false = false := by simp [h]
theorem listed_set {listed : Array Bool} {i j : Nat} (hi : i < listed.size) : (listed.setIfInBounds i true).getD j false = true ↔ i = j ∨ listed.getD j false = true := by
  by_cases h : i = j
  · subst h
    simp [hi]
  · simp [Array.getElem?_setIfInBounds_ne h, h]
theorem slot_put (a : Act) (d : Option Tmp) (v : Value) (s : Nat) (h : d ≠ some s) : slotF (a.put d v) s = slotF a s := by
  unfold slotF Act.put
  cases d with
  | none => rfl
  | some d =>
    have hne : d ≠ s := fun e => h (by rw [e])
    simp [Array.getElem?_setIfInBounds_ne hne]
theorem size_put (a : Act) (d : Option Tmp) (v : Value) : (a.put d v).tmps.size = a.tmps.size := by
  unfold Act.put
  cases d <;> simp
theorem defers_put (a : Act) (d : Option Tmp) (v : Value) : (a.put d v).defers = a.defers := by
  unfold Act.put
  cases d <;> rfl
theorem slot_same (a : Act) (d : Tmp) (v : Value) (h : d < a.tmps.size) : slotF (a.put (some d) v) d = v := by
  unfold slotF Act.put
  simp [h]
/-- The frame behind the region. -/
def putAll (l : List Oper) (f : Nat → Value) (a : Act) : Act := l.foldl (fun a o => match o.dst with | some d => a.put (some d) (f d) | none => a) a
theorem putAll_size (l : List Oper) (f : Nat → Value) (a : Act) : (putAll l f a).tmps.size = a.tmps.size ∧ (putAll l f a).defers = a.defers := by
  induction l generalizing a with
  | nil => exact ⟨rfl, rfl⟩
  | cons o l ih =>
    unfold putAll
    rw [List.foldl_cons]
    have := ih (match o.dst with | some d => a.put (some d) (f d) | none => a)
    unfold putAll at this
    refine ⟨this.1.trans ?_, this.2.trans ?_⟩
    · cases o.dst with
      | none => rfl
      | some d => exact size_put _ _ _
    · cases o.dst with
      | none => rfl
      | some d => exact defers_put _ _ _
theorem putAll_slot (l : List Oper) (f : Nat → Value) (a : Act) (s : Nat) (hs : s < a.tmps.size) : slotF (putAll l f a) s = if (∃ o ∈ l, o.dst = some s) then f s else slotF a s := by
  induction l generalizing a with
  | nil => rw [if_neg (by simp)]; rfl
  | cons o l ih =>
    have e : putAll (o :: l) f a = putAll l f (match o.dst with | some d => a.put (some d) (f d) | none => a) := rfl
    have hz : s < (match o.dst with | some d => a.put (some d) (f d) | none => a).tmps.size := by
      cases o.dst with
      | none => exact hs
      | some d => simp only []; rw [size_put]; exact hs
    rw [e, ih _ hz]
    by_cases h1 : ∃ o ∈ l, o.dst = some s
    · obtain ⟨o', h2, h3⟩ := h1
      rw [if_pos ⟨o', h2, h3⟩, if_pos ⟨o', List.mem_cons_of_mem _ h2, h3⟩]
    · rw [if_neg h1]
      by_cases h2 : o.dst = some s
      · rw [if_pos ⟨o, List.mem_cons_self, h2⟩, h2]
        exact slot_same _ _ _ hs
      · rw [if_neg]
        · cases ho : o.dst with
          | none => rfl
          | some d => simp only []; exact slot_put _ _ _ _ (by rw [← ho]; exact h2)
        · rintro ⟨o', h3, h4⟩
          rcases List.mem_cons.1 h3 with rfl | h3
          · exact h2 h4
          · exact h1 ⟨o', h3, h4⟩
theorem act_eq {a b : Act} (h1 : a.tmps.size = b.tmps.size) (h2 : a.defers = b.defers) (h3 : ∀ s, s < a.tmps.size → slotF a s = slotF b s) : a = b := by
  obtain ⟨ta, da⟩ := a
  obtain ⟨tb, db⟩ := b
  simp only at h1 h2 h3
  subst h2
  congr 1
  apply Array.ext h1
  intro i hi hj
  have := h3 i hi
  unfold slotF at this
  simpa [hi, hj] using this

section
variable {P : Program} {l : List Oper} {Q : Exit → Act → World → Prop} {a0 : Act} {w0 : World} (use sl : List (List Nat)) (live : List Bool) (st : Nat) (B : Nat) (J : World → Prop) (Φ : Nat → (Nat → Value) → Nat → Nat → World → Prop)
/-- What is known of a state in the midst of the region. -/
structure EachAt (l : List Oper) (a0 : Act) (w0 : World) (live : List Bool) (st : Nat) (B : Nat) (J : World → Prop) (Φ : Nat → (Nat → Value) → Nat → Nat → World → Prop) (listed : Array Bool) (lo hi : Nat → Nat) (a : Act) (w : World) : Prop where
  size : listed.size = l.length
  shut : Shut l.toArray listed
  tmps : a.tmps.size = a0.tmps.size
  defs : a.defers = a0.defers
  old : ∀ s, (∀ o ∈ l, o.dst ≠ some s) → slotF a s = slotF a0 s
  low : Below B w0 w
  grow : w0.heap.size ≤ w.heap.size
  inv : listed.getD st false = false → J w
  seg : ∀ i, listed.getD i false = true → lo i ≤ hi i ∧ hi i ≤ w.heap.size ∧ w0.heap.size ≤ lo i
  apart : ∀ i j, listed.getD i false = true → listed.getD j false = true → i ≠ j → hi i ≤ lo j ∨ hi j ≤ lo i
  fact : ∀ i, listed.getD i false = true → (live.getD i false = true ∨ listed.getD st false = false) → Φ i (slotF a) (lo i) (hi i) w
theorem wpAny_each {listed : Array Bool} {a : Act} {w : World} {lo hi : Nat → Nat} (hB : eachB l use sl live st = true) (hBw : B ≤ w0.heap.size) (hJ : ∀ w w', J w → Below w.heap.size w w' → J w')
    (hstab : ∀ j f g x y w w', (∀ s ∈ sl.getD j [], g s = f s) → Below w.heap.size w w' → Φ j f x y w → Φ j g x y w')
    (hstep : ∀ i o, l[i]? = some o → i ≠ st → ∀ a w (lo hi : Nat → Nat), a.tmps.size = a0.tmps.size → (∀ s, (∀ o ∈ l, o.dst ≠ some s) → slotF a s = slotF a0 s) → Below B w0 w → w0.heap.size ≤ w.heap.size → (reach l.toArray l.length st i = true ∨ l.length ≤ st → J w) → (∀ k ∈ use.getD i [], Φ k (slotF a) (lo k) (hi k) w) →
      Oper.wp P o a w (fun a' w' => ∃ v, a' = a.put o.dst v ∧ Below w.heap.size w w' ∧ Φ i (slotF a') w.heap.size w'.heap.size w') Q)
    (hst : ∀ o, l[st]? = some o → ∀ a w (lo hi : Nat → Nat) (L : Nat → Prop), a.tmps.size = a0.tmps.size → (∀ s, (∀ o ∈ l, o.dst ≠ some s) → slotF a s = slotF a0 s) → Below B w0 w → w0.heap.size ≤ w.heap.size → J w → (∀ k ∈ use.getD st [], Φ k (slotF a) (lo k) (hi k) w) → (∀ k ∈ use.getD st [], L k) → (∀ i, L i → lo i ≤ hi i ∧ hi i ≤ w.heap.size ∧ w0.heap.size ≤ lo i) → (∀ i j, L i → L j → i ≠ j → hi i ≤ lo j ∨ hi j ≤ lo i) →
      Oper.wp P o a w (fun a' w' => ∃ v, a' = a.put o.dst v ∧ w.heap.size ≤ w'.heap.size ∧ Below B w0 w' ∧ Φ st (slotF a') w.heap.size w'.heap.size w' ∧ ∀ j, L j → j ≠ st → live.getD j false = true → (∀ s ∈ sl.getD j [], slotF a' s = slotF a s) → Φ j (slotF a) (lo j) (hi j) w → Φ j (slotF a') (lo j) (hi j) w') Q)
    (hend : ∀ (f : Nat → Value) (lo hi : Nat → Nat) w, Below B w0 w → (l.length ≤ st → J w) → (∀ i, i < l.length → (live.getD i false = true ∨ l.length ≤ st) → Φ i f (lo i) (hi i) w) → (∀ i j, i < l.length → j < l.length → i ≠ j → hi i ≤ lo j ∨ hi j ≤ lo i) → (∀ i, i < l.length → lo i ≤ hi i ∧ hi i ≤ w.heap.size ∧ w0.heap.size ≤ lo i) → Q .normal (putAll l f a0) w) :
    ∀ (fuel : Nat), (listed.toList.count false ≤ fuel) → EachAt l a0 w0 live st B J Φ listed lo hi a w → wpAny P .any l.toArray Q fuel listed a w := by
  intro fuel
  unfold eachB at hB
  simp only [Bool.and_eq_true, List.all_eq_true, List.mem_range, Bool.or_eq_true] at hB
  obtain ⟨hg, hB⟩ := hB
  have hdone : ∀ (listed : Array Bool) (a : Act) (w : World) (lo hi : Nat → Nat), EachAt l a0 w0 live st B J Φ listed lo hi a w → (∀ i, i < l.length → listed.getD i false = true) → Q .normal a w := by
    intro listed a w lo hi h hall
    have he : a = putAll l (slotF a) a0 := by
      have hz := putAll_size l (slotF a) a0
      refine act_eq (h.tmps.trans hz.1.symm) (h.defs.trans hz.2.symm) fun s hs => ?_
      rw [putAll_slot _ _ _ _ (by rw [← h.tmps]; exact hs)]
      split
      · rfl
      · rename_i hno
        exact h.old s fun o ho hd => hno ⟨o, ho, hd⟩
    rw [he]
    refine hend (slotF a) lo hi w h.low (fun hl => h.inv (getD_out (by rw [h.size]; exact hl))) (fun i hi' hl => h.fact i (hall i hi') ?_) (fun i j h1 h2 => h.apart i j (hall i h1) (hall j h2)) (fun i h1 => h.seg i (hall i h1))
    rcases hl with hl | hl
    · exact .inl hl
    · refine .inr ?_
      have : listed.size ≤ st := by rw [h.size]; exact hl
      simp [this]
  have hmem : ∀ (listed : Array Bool), listed.size = l.length → ∀ i, i < l.length → listed.getD i true = listed.getD i false := by
    intro listed hz i hi
    simp [show i < listed.size by omega]
  have hready : ∀ (listed : Array Bool), listed.size = l.length → Region.ready .any l.toArray listed = [] → ∀ i, i < l.length → listed.getD i false = true := by
    intro listed hz hr i
    induction i using Nat.strongRecOn with
    | ind i ih =>
      intro hi
      cases hc : listed.getD i false with
      | true => rfl
      | false =>
        have h1 : i ∈ Region.ready .any l.toArray listed := by
          refine mem_ready.2 ⟨by rw [hmem listed hz i hi]; exact hc, l[i], by simp [hi], fun e he hb => ?_⟩
          have h2 := (hB i hi).1.1
          rw [List.getElem?_eq_getElem hi] at h2
          simp only [Array.all_eq_true'] at h2
          have h3 := h2 e he
          rw [hb] at h3
          have h4 : e.on < i := by simpa using h3
          exact ih e.on h4 (by omega)
        rw [hr] at h1
        cases h1
  induction fuel generalizing listed a w lo hi with
  | zero =>
    intro hc h
    have hall : ∀ i, i < l.length → listed.getD i false = true := by
      intro i hi
      have h0 : listed.toList.count false = 0 := by omega
      have h1 := List.count_eq_zero.1 h0
      have hi' : i < listed.size := by rw [h.size]; exact hi
      cases hv : listed[i] with
      | true => simp [hi', hv]
      | false => exact absurd (by rw [← hv]; simp) h1
    refine ⟨?_, hdone listed a w lo hi h hall⟩
    rw [List.eq_nil_iff_forall_not_mem]
    intro i hi
    obtain ⟨h1, o, ho, -⟩ := mem_ready.1 hi
    have hlt : i < l.length := by
      have := (Array.getElem?_eq_some_iff.1 ho).1
      simpa using this
    rw [hmem listed h.size i hlt, hall i hlt] at h1
    cases h1
  | succ fuel ih =>
    intro hc h
    refine ⟨fun h0 => hdone listed a w lo hi h (hready listed h.size h0), fun i hi' => ?_⟩
    obtain ⟨hun, o, ho, hdeps⟩ := mem_ready.1 hi'
    have hlt : i < l.length := by
      have := (Array.getElem?_eq_some_iff.1 ho).1
      simpa using this
    have hlo : l[i]? = some o := by simpa using ho
    have hol : o ∈ l := List.mem_of_getElem? hlo
    have hun' : listed.getD i false = false := by rw [← hmem listed h.size i hlt]; exact hun
    have hwant : Region.wanted o (yielded l.toArray a.tmps) = true := by
      have := hg o hol
      unfold Region.wanted
      rw [Option.isNone_iff_eq_none.1 this]
    have hsl : i < listed.size := by rw [h.size]; exact hlt
    have hcnt : (listed.setIfInBounds i true).toList.count false ≤ fuel := by
      rw [Array.toList_setIfInBounds, List.count_set (by simpa using hsl)]
      have hv : listed.toList[i]'(by simpa using hsl) = false := by
        have : listed[i] = false := by simpa [hsl] using hun'
        simpa using this
      have h1 : 0 < listed.toList.count false := List.count_pos_iff.2 (by rw [← hv]; exact List.getElem_mem _)
      rw [hv]
      simp
      simp at hc h1
      omega
    have hst' : reach l.toArray l.length st i = true → listed.getD st false = false := by
      intro hr
      cases hs : listed.getD st false with
      | false => rfl
      | true =>
        cases hos : l.toArray[st]? with
        | none =>
          cases hn : l.length with
          | zero => omega
          | succ m => rw [hn] at hr; unfold reach at hr; rw [hos] at hr; cases hr
        | some os =>
          have := reach_listed h.shut l.length st i os hos (h.shut st os hos hs) hr
          rw [hun'] at this
          cases this
    have huse : ∀ k ∈ use.getD i [], listed.getD k false = true ∧ Φ k (slotF a) (lo k) (hi k) w := by
      intro k hk
      obtain ⟨h1, h2⟩ := (hB i hlt).1.2 k hk
      have h3 := reach_listed h.shut l.length i k o ho hdeps h1
      refine ⟨h3, h.fact k h3 ?_⟩
      rcases h2 with (h2 | h2) | h2
      · exact .inl h2
      · exact .inr (hst' h2)
      · rw [beq_iff_eq.1 h2] at hun'; exact .inr hun'
    have hsame : ∀ v j, j ≠ i → listed.getD j false = true → ∀ s ∈ sl.getD j [], slotF (a.put o.dst v) s = slotF a s := by
      intro v j hji hj s hs
      refine slot_put _ _ _ _ fun hd => ?_
      have hjl : j < l.length := by
        rw [← h.size]
        apply Classical.byContradiction
        intro hc'
        simp [hc'] at hj
      rcases (hB i hlt).2 j hjl with (h1 | h1) | h1
      · exact hji (beq_iff_eq.1 h1).symm
      · have hoj : l.toArray[j]? = some l[j] := by simp [hjl]
        have := reach_listed h.shut l.length j i l[j] hoj (h.shut j l[j] hoj hj) h1
        rw [hun'] at this
        cases this
      · rw [hlo] at h1
        simp only [Option.bind_some, hd] at h1
        simp at h1
        exact h1 hs
    have hshut : Shut l.toArray (listed.setIfInBounds i true) := by
      intro j oj hoj hj e he hb
      rw [listed_set hsl] at hj ⊢
      rcases hj with rfl | hj
      · rw [ho] at hoj
        cases hoj
        exact .inr (hdeps e he hb)
      · exact .inr (h.shut j oj hoj hj e he hb)
    have hend' : ∀ v w' (hs : w.heap.size ≤ w'.heap.size) (hlow : Below B w0 w') (hinv : (listed.setIfInBounds i true).getD st false = false → J w')
        (hf : ∀ j, j ≠ i → listed.getD j false = true → (live.getD j false = true ∨ (listed.setIfInBounds i true).getD st false = false) → Φ j (slotF (a.put o.dst v)) (lo j) (hi j) w')
        (hi0 : Φ i (slotF (a.put o.dst v)) w.heap.size w'.heap.size w'),
        wpAny P .any l.toArray Q fuel (listed.setIfInBounds i true) (a.put o.dst v) w' := by
      intro v w' hs hlow hinv hf hi0
      refine ih (lo := fun j => if j = i then w.heap.size else lo j) (hi := fun j => if j = i then w'.heap.size else hi j) hcnt ⟨by rw [Array.size_setIfInBounds]; exact h.size, hshut, (size_put _ _ _).trans h.tmps, (defers_put _ _ _).trans h.defs, fun s hs' => (slot_put _ _ _ _ (hs' o hol)).trans (h.old s hs'), hlow, Nat.le_trans h.grow hs, hinv, fun j hj => ?_, fun j k hj hk hjk => ?_, fun j hj hl => ?_⟩
      · by_cases hji : j = i
        · rw [if_pos hji, if_pos hji]
          exact ⟨hs, Nat.le_refl _, h.grow⟩
        · rw [if_neg hji, if_neg hji]
          rcases (listed_set hsl).1 hj with e | hj
          · exact absurd e.symm hji
          · have := h.seg j hj
            exact ⟨this.1, by omega, this.2.2⟩
      · by_cases hji : j = i
        · have hki : k ≠ i := fun e => hjk (hji.trans e.symm)
          rw [if_pos hji, if_pos hji, if_neg hki, if_neg hki]
          rcases (listed_set hsl).1 hk with e | hk
          · exact absurd e.symm hki
          · exact .inr (h.seg k hk).2.1
        · rw [if_neg hji, if_neg hji]
          have hj : listed.getD j false = true := by
            rcases (listed_set hsl).1 hj with e | hj
            · exact absurd e.symm hji
            · exact hj
          by_cases hki : k = i
          · rw [if_pos hki, if_pos hki]
            exact .inl (h.seg j hj).2.1
          · rw [if_neg hki, if_neg hki]
            rcases (listed_set hsl).1 hk with e | hk
            · exact absurd e.symm hki
            · exact h.apart j k hj hk hjk
      · by_cases hji : j = i
        · rw [if_pos hji, if_pos hji, hji]; exact hi0
        · rw [if_neg hji, if_neg hji]
          rcases (listed_set hsl).1 hj with e | hj
          · exact absurd e.symm hji
          · exact hf j hji hj hl
    have hnot : (listed.setIfInBounds i true).getD st false = false → listed.getD st false = false := by
      intro hl
      cases hs : listed.getD st false with
      | false => rfl
      | true => rw [(listed_set hsl).2 (.inr hs)] at hl; cases hl
    have hJi : reach l.toArray l.length st i = true ∨ l.length ≤ st → J w := by
      rintro (hr | hr)
      · exact h.inv (hst' hr)
      · refine h.inv ?_
        have : listed.size ≤ st := by rw [h.size]; exact hr
        simp [this]
    unfold wpOp
    simp only [ho, hwant, if_true]
    refine .inl ?_
    by_cases hie : i = st
    · subst hie
      refine Oper.wp_mono ?_ (hst o hlo a w lo hi (fun k => listed.getD k false = true) h.tmps h.old h.low h.grow (h.inv hun') (fun k hk => (huse k hk).2) (fun k hk => (huse k hk).1) h.seg h.apart)
      rintro a' w' ⟨v, rfl, hs, hlow, hi0, hkeep⟩
      refine hend' v w' hs hlow (fun hc' => by rw [(listed_set hsl).2 (.inl rfl)] at hc'; cases hc') (fun j hji hj hl => ?_) hi0
      rcases hl with hl | hl
      · exact hkeep j hj hji hl (hsame v j hji hj) (h.fact j hj (.inl hl))
      · have : (listed.setIfInBounds i true).getD i false = true := (listed_set hsl).2 (.inl rfl)
        rw [this] at hl
        cases hl
    · refine Oper.wp_mono ?_ (hstep i o hlo hie a w lo hi h.tmps h.old h.low h.grow (fun hr => hJi hr) fun k hk => (huse k hk).2)
      rintro a' w' ⟨v, rfl, hb, hi0⟩
      refine hend' v w' hb.size (h.low.trans (hb.mono (Nat.le_trans hBw h.grow))) (fun hc' => hJ _ _ (h.inv (hnot hc')) hb) (fun j hji hj hl => ?_) hi0
      have hl' : live.getD j false = true ∨ listed.getD st false = false := by
        rcases hl with hl | hl
        · exact .inl hl
        · refine .inr ?_
          cases hs : listed.getD st false with
          | false => rfl
          | true => rw [(listed_set hsl).2 (.inr hs)] at hl; cases hl
      exact hstab j _ _ _ _ _ _ (hsame v j hji hj) hb (h.fact j hj hl')
/-- A drawn region, operation by operation. W: the world behind the draw. -/
theorem wp_region_each {id : Nat} {w : World} (hm : P.follows .mixedOrders = true) (W : World) (hW : w.drew = W) (hB : eachB l use sl live st = true) (hBw : B ≤ W.heap.size) (hJ0 : J W) (hJ : ∀ w w', J w → Below w.heap.size w w' → J w')
    (hstab : ∀ j f g x y w w', (∀ s ∈ sl.getD j [], g s = f s) → Below w.heap.size w w' → Φ j f x y w → Φ j g x y w')
    (hstep : ∀ i o, l[i]? = some o → i ≠ st → ∀ a w (lo hi : Nat → Nat), a.tmps.size = a0.tmps.size → (∀ s, (∀ o ∈ l, o.dst ≠ some s) → slotF a s = slotF a0 s) → Below B W w → W.heap.size ≤ w.heap.size → (reach l.toArray l.length st i = true ∨ l.length ≤ st → J w) → (∀ k ∈ use.getD i [], Φ k (slotF a) (lo k) (hi k) w) →
      Oper.wp P o a w (fun a' w' => ∃ v, a' = a.put o.dst v ∧ Below w.heap.size w w' ∧ Φ i (slotF a') w.heap.size w'.heap.size w') Q)
    (hst : ∀ o, l[st]? = some o → ∀ a w (lo hi : Nat → Nat) (L : Nat → Prop), a.tmps.size = a0.tmps.size → (∀ s, (∀ o ∈ l, o.dst ≠ some s) → slotF a s = slotF a0 s) → Below B W w → W.heap.size ≤ w.heap.size → J w → (∀ k ∈ use.getD st [], Φ k (slotF a) (lo k) (hi k) w) → (∀ k ∈ use.getD st [], L k) → (∀ i, L i → lo i ≤ hi i ∧ hi i ≤ w.heap.size ∧ W.heap.size ≤ lo i) → (∀ i j, L i → L j → i ≠ j → hi i ≤ lo j ∨ hi j ≤ lo i) →
      Oper.wp P o a w (fun a' w' => ∃ v, a' = a.put o.dst v ∧ w.heap.size ≤ w'.heap.size ∧ Below B W w' ∧ Φ st (slotF a') w.heap.size w'.heap.size w' ∧ ∀ j, L j → j ≠ st → live.getD j false = true → (∀ s ∈ sl.getD j [], slotF a' s = slotF a s) → Φ j (slotF a) (lo j) (hi j) w → Φ j (slotF a') (lo j) (hi j) w') Q)
    (hend : ∀ (f : Nat → Value) (lo hi : Nat → Nat) w, Below B W w → (l.length ≤ st → J w) → (∀ i, i < l.length → (live.getD i false = true ∨ l.length ≤ st) → Φ i f (lo i) (hi i) w) → (∀ i j, i < l.length → j < l.length → i ≠ j → hi i ≤ lo j ∨ hi j ≤ lo i) → (∀ i, i < l.length → lo i ≤ hi i ∧ hi i ≤ w.heap.size ∧ W.heap.size ≤ lo i) → Q .normal (putAll l f a0) w) :
    (Code.region id l.toArray true).wp P Q a0 w := by
  subst hW
  have hno : ∀ i, (Array.replicate l.length false).getD i false = true → False := by
    intro i h
    by_cases hi : i < l.length
    · simp [hi] at h
    · simp [hi] at h
  refine wp_region_any hm (wpAny_each (w0 := w.drew) use sl live st B J Φ hB hBw hJ hstab hstep hst hend _ (by simp) (lo := fun _ => 0) (hi := fun _ => 0) ⟨by simp, fun j o hj h => ?_, rfl, rfl, fun s _ => rfl, Below.refl _ _, Nat.le_refl _, fun _ => hJ0, fun i h => ?_, fun i j h => ?_, fun i h => ?_⟩)
  all_goals
    simp only [List.size_toArray] at h
    exact (hno _ h).elim
end
/-! ### Operations over a function of slots -/
def evF (f : Nat → Value) : Operand → Value
  | .tmp t => f t
  | .const v => v
  | .global g => .pointer (some ⟨g, 0, none⟩)
  | .func k => .func (.func k) #[] #[]
theorem evF_eval (a : Act) : a.eval = evF (slotF a) := by
  funext o
  cases o <;> rfl
def upF (f : Nat → Value) (d : Option Tmp) (v : Value) : Nat → Value := match d with | some d => fun s => if s = d then v else f s | none => f
theorem upF_put (a : Act) (d : Option Tmp) (v : Value) (h : ∀ x, d = some x → x < a.tmps.size) : slotF (a.put d v) = upF (slotF a) d v := by
  funext s
  cases d with
  | none => rfl
  | some d =>
    show _ = if s = d then v else slotF a s
    by_cases hs : s = d
    · rw [if_pos hs, hs]; exact slot_same _ _ _ (h d rfl)
    · rw [if_neg hs]; exact slot_put _ _ _ _ (fun e => hs (Option.some.inj e).symm)
/-- What an operation gives. -/
def gives (P : Program) (R : Value → World → Prop) : Result Next → Prop
  | .ok (.value v) w' => R v w'
  | .ok .skip w' => R undef w'
  | .ok (.enter fn args) w' => Calls P fn args w' fun e w'' => ∃ v, e = .returned v ∧ R v w''
  | _ => False
theorem wp_of_gives {P : Program} {o : Oper} {a : Act} {w : World} {R : Value → World → Prop} {Q : Exit → Act → World → Prop} (h : gives P R ((execOp (evF (slotF a)) o).run P w)) :
    Oper.wp P o a w (fun a' w' => ∃ v, a' = a.put o.dst v ∧ R v w') Q := by
  unfold Oper.wp
  rw [evF_eval]
  generalize (execOp (evF (slotF a)) o).run P w = r at *
  cases r with
  | ok n w' =>
    cases n <;> simp only [gives] at h <;> simp only [Oper.upon]
    case value v => exact ⟨v, rfl, h⟩
    case skip => exact ⟨undef, rfl, h⟩
    case enter fn args => exact h.mono fun e w'' ⟨v, he, hr⟩ => by subst he; exact ⟨v, rfl, hr⟩
  | halt x w' => simp only [gives] at h
theorem gives_mono {P : Program} {R R' : Value → World → Prop} (hR : ∀ v w, R v w → R' v w) : ∀ {r : Result Next}, gives P R r → gives P R' r := by
  intro r h
  cases r with
  | ok n w' =>
    cases n <;> simp only [gives] at h ⊢
    case value v => exact hR _ _ h
    case skip => exact hR _ _ h
    case enter fn args => exact h.mono fun e w'' ⟨v, he, hr⟩ => ⟨v, he, hR _ _ hr⟩
  | halt x w' => simp only [gives] at h
theorem gives_K {P : Program} {R : Value → World → Prop} {r : Result Next} (h : ∀ K : Value → World → Prop, (∀ v w, R v w → K v w) → gives P K r) : gives P R r := h R fun _ _ h => h
theorem gives_value {P : Program} {K : Value → World → Prop} {v : Value} {w : World} (h : K v w) : gives P K (.ok (.value v) w) := h
theorem gives_skip {P : Program} {K : Value → World → Prop} {w : World} (h : K undef w) : gives P K (.ok .skip w) := h
theorem gives_enter {P : Program} {K : Value → World → Prop} {fn : FuncId} {args : Array Value} {w : World} (h : Calls P fn args w fun e w'' => ∃ v, e = .returned v ∧ K v w'') : gives P K (.ok (.enter fn args) w) := h
/-- The operands of the region's operations. -/
theorem evF_all (f : Nat → Value) : (∀ t, evF f (.tmp t) = f t) ∧ (∀ v, evF f (.const v) = v) ∧ (∀ k, evF f (.func k) = .func (.func k) #[] #[]) := ⟨fun _ => rfl, fun _ => rfl, fun _ => rfl⟩
section
variable {P : Program} {l : List Oper} {Q : Exit → Act → World → Prop} {a0 : Act} (use sl : List (List Nat)) (live : List Bool) (st : Nat) (B : Nat) (J : World → Prop) (Φ : Nat → (Nat → Value) → Nat → Nat → World → Prop)
/-- A drawn region, operation by operation, over a function of slots. -/
theorem wp_region_slots {id : Nat} {w : World} (hm : P.follows .mixedOrders = true) (W : World) (hW : w.drew = W) (hB : eachB l use sl live st = true) (hD : (l.all fun o => match o.dst with | some d => decide (d < a0.tmps.size) | none => true) = true) (hBw : B ≤ W.heap.size) (hJ0 : J W) (hJ : ∀ w w', J w → Below w.heap.size w w' → J w')
    (hstab : ∀ j f g x y w w', (∀ s ∈ sl.getD j [], g s = f s) → Below w.heap.size w w' → Φ j f x y w → Φ j g x y w')
    (hstep : ∀ i o, l[i]? = some o → i ≠ st → ∀ (f : Nat → Value) w (lo hi : Nat → Nat), (∀ s, (l.all fun o => o.dst != some s) = true → f s = slotF a0 s) → Below B W w → W.heap.size ≤ w.heap.size → (reach l.toArray l.length st i = true ∨ l.length ≤ st → J w) → (∀ k ∈ use.getD i [], Φ k f (lo k) (hi k) w) →
      gives P (fun v w' => Below w.heap.size w w' ∧ Φ i (upF f o.dst v) w.heap.size w'.heap.size w') ((execOp (evF f) o).run P w))
    (hst : ∀ o, l[st]? = some o → ∀ (f : Nat → Value) w (lo hi : Nat → Nat) (L : Nat → Prop), (∀ s, (l.all fun o => o.dst != some s) = true → f s = slotF a0 s) → Below B W w → W.heap.size ≤ w.heap.size → J w → (∀ k ∈ use.getD st [], Φ k f (lo k) (hi k) w) → (∀ k ∈ use.getD st [], L k) → (∀ i, L i → lo i ≤ hi i ∧ hi i ≤ w.heap.size ∧ W.heap.size ≤ lo i) → (∀ i j, L i → L j → i ≠ j → hi i ≤ lo j ∨ hi j ≤ lo i) →
      gives P (fun v w' => w.heap.size ≤ w'.heap.size ∧ Below B W w' ∧ Φ st (upF f o.dst v) w.heap.size w'.heap.size w' ∧ ∀ j, L j → j ≠ st → live.getD j false = true → (∀ s ∈ sl.getD j [], upF f o.dst v s = f s) → Φ j f (lo j) (hi j) w → Φ j (upF f o.dst v) (lo j) (hi j) w') ((execOp (evF f) o).run P w))
    (hend : ∀ (f : Nat → Value) (lo hi : Nat → Nat) w, Below B W w → (l.length ≤ st → J w) → (∀ i, i < l.length → (live.getD i false = true ∨ l.length ≤ st) → Φ i f (lo i) (hi i) w) → (∀ i j, i < l.length → j < l.length → i ≠ j → hi i ≤ lo j ∨ hi j ≤ lo i) → (∀ i, i < l.length → lo i ≤ hi i ∧ hi i ≤ w.heap.size ∧ W.heap.size ≤ lo i) → Q .normal (putAll l f a0) w) :
    (Code.region id l.toArray true).wp P Q a0 w := by
  rw [List.all_eq_true] at hD
  have hd : ∀ o ∈ l, ∀ (a : Act), a.tmps.size = a0.tmps.size → ∀ x, o.dst = some x → x < a.tmps.size := by
    intro o ho a ha x hx
    have := hD o ho
    rw [hx] at this
    rw [ha]
    exact of_decide_eq_true this
  have hold : ∀ a : Act, (∀ s, (∀ o ∈ l, o.dst ≠ some s) → slotF a s = slotF a0 s) → ∀ s, (l.all fun o => o.dst != some s) = true → slotF a s = slotF a0 s := by
    intro a h s hs
    rw [List.all_eq_true] at hs
    exact h s fun o ho => bne_iff_ne.1 (hs o ho)
  refine wp_region_each use sl live st B J Φ hm W hW hB hBw hJ0 hJ hstab ?_ ?_ hend
  · intro i o hi hne a w lo hi' hz ho hb hg hj hu
    refine Oper.wp_mono ?_ (wp_of_gives (Q := Q) (hstep i o hi hne (slotF a) w lo hi' (hold a ho) hb hg hj hu))
    rintro a' w' ⟨v, rfl, h2, h3⟩
    refine ⟨v, rfl, h2, ?_⟩
    rw [upF_put a o.dst v (hd o (List.mem_of_getElem? hi) a hz)]
    exact h3
  · intro o hi a w lo hi' L hz ho hb hg hj hu hl hseg hap
    refine Oper.wp_mono ?_ (wp_of_gives (Q := Q) (hst o hi (slotF a) w lo hi' L (hold a ho) hb hg hj hu hl hseg hap))
    rintro a' w' ⟨v, rfl, h2⟩
    refine ⟨v, rfl, ?_⟩
    rw [upF_put a o.dst v (hd o (List.mem_of_getElem? hi) a hz)]
    exact h2
end
end Go.Proofs.YtecghiflbnhceaaDoor
/-
  Odd values: any kind, any number, a short text.
-/
namespace Go.Proofs.YtecghiflbnhceaaDoor
set_option maxRecDepth 100000
open Go.RowKit

/-- What Odd gives. -/
def IsOdd (k n : Int) (s : ByteArray) : Prop := -9223372036854775808 ≤ k ∧ k ≤ 9223372036854775807 ∧ -9223372036854775808 ≤ n ∧ n ≤ 9223372036854775807 ∧ s.size ≤ 100
def OddPost (b : Nat) (w : World) (e : Ending) (w' : World) : Prop := ∃ (k n : Int) (s : ByteArray), e = .returned (.agg #[.int .i64 k, .int .i64 n, .string s]) ∧ IsOdd k n s ∧ TapeAt w' b ∧ StepT b w w'

theorem IsVal.odd {k n : Int} {s : ByteArray} (h : IsVal k n s) : IsOdd k n s := by
  have hw : ∀ t, IsWord t → t.size ≤ 100 := by
    intro t ht
    rcases ht with rfl | rfl | rfl | rfl | rfl | rfl <;> decide
  unfold IsOdd
  rcases h with ⟨rfl, rfl, rfl⟩ | ⟨rfl, hn, rfl⟩ | ⟨rfl, h0, h1, rfl⟩ | ⟨rfl, rfl, hs⟩
  · decide
  · unfold IsNum at hn
    refine ⟨by decide, by decide, by omega, by omega, by decide⟩
  · refine ⟨by decide, by decide, by omega, by omega, by decide⟩
  · exact ⟨by decide, by decide, by decide, by decide, hw _ hs⟩

theorem IsVal.short {k n : Int} {s : ByteArray} (h : IsVal k n s) : s.size ≤ 64 := by
  have hw : ∀ t, IsWord t → t.size ≤ 64 := by
    intro t ht
    rcases ht with rfl | rfl | rfl | rfl | rfl | rfl <;> decide
  rcases h with ⟨-, -, rfl⟩ | ⟨-, -, rfl⟩ | ⟨-, -, -, rfl⟩ | ⟨-, -, hs⟩
  · decide
  · decide
  · decide
  · exact hw _ hs

/-- The call's two boxes: R for the result, V for the value that is made. -/
structure OddAt (w u : World) (b R V : Nat) (k n : Int) (s : ByteArray) : Prop where
  tape : TapeAt u b
  step : StepT b w u
  bR : b < R
  wR : w.heap.size ≤ R
  RV : R < V
  vz : V < u.heap.size
  r0 : ∃ x, u.cell? ⟨R, 0, none⟩ = some (.int .i64 x)
  r1 : ∃ x, u.cell? ⟨R, 1, none⟩ = some (.int .i64 x)
  r2 : ∃ x, u.cell? ⟨R, 2, none⟩ = some (.string x)
  v0 : u.cell? ⟨V, 0, none⟩ = some (.int .i64 k)
  v1 : u.cell? ⟨V, 1, none⟩ = some (.int .i64 n)
  v2 : u.cell? ⟨V, 2, none⟩ = some (.string s)
  fz : ∀ o, u.frozen? ⟨R, o, none⟩ = false ∧ u.frozen? ⟨V, o, none⟩ = false

theorem OddAt.next {w u u' : World} {b R V : Nat} {k n : Int} {s : ByteArray} (h : OddAt w u b R V k n s) (hs : StepT b u u') (ht : TapeAt u' b) : OddAt w u' b R V k n s := by
  have hb := h.bR
  have hV := h.RV
  have hz := h.vz
  have hc : ∀ B o, b < B → B ≤ V → u'.cell? ⟨B, o, none⟩ = u.cell? ⟨B, o, none⟩ := fun B o h1 h2 => hs.cell (by show B < _; omega) (by show B ≠ b; omega)
  have hf : ∀ B o, b < B → B ≤ V → u'.frozen? ⟨B, o, none⟩ = u.frozen? ⟨B, o, none⟩ := fun B o h1 h2 => hs.frozen (by show B < _; omega) (by show B ≠ b; omega)
  refine ⟨ht, h.step.trans hs, hb, h.wR, hV, Nat.lt_of_lt_of_le hz hs.size, ?_, ?_, ?_, ?_, ?_, ?_, fun o => ⟨?_, ?_⟩⟩
  · rw [hc _ _ hb (by omega)]; exact h.r0
  · rw [hc _ _ hb (by omega)]; exact h.r1
  · rw [hc _ _ hb (by omega)]; exact h.r2
  · rw [hc _ _ (by omega) (Nat.le_refl _)]; exact h.v0
  · rw [hc _ _ (by omega) (Nat.le_refl _)]; exact h.v1
  · rw [hc _ _ (by omega) (Nat.le_refl _)]; exact h.v2
  · rw [hf _ _ hb (by omega)]; exact (h.fz o).1
  · rw [hf _ _ (by omega) (Nat.le_refl _)]; exact (h.fz o).2

theorem OddAt.made {w w1 : World} {b : Nat} {k n : Int} {s : ByteArray} (hlt : b < w.heap.size) (ht : TapeAt w1 b)
    (hs : StepT b (w.alloc (.cells #[.int .i64 0, .int .i64 0, .string ⟨#[]⟩] 26)) w1) :
    OddAt w (w1.alloc (.cells #[.int .i64 k, .int .i64 n, .string s] 26)) b w.heap.size w1.heap.size k n s := by
  obtain ⟨a0, a1, a2, g0, g1, g2, hza⟩ := new3 hs hlt
  have hc : ∀ o, (w1.alloc (.cells #[.int .i64 k, .int .i64 n, .string s] 26)).cell? ⟨w.heap.size, o, none⟩ = w1.cell? ⟨w.heap.size, o, none⟩ := fun o =>
    World.cell?_of_block (w := w1) (Below.heap_alloc _ _ _ hza)
  have hf : ∀ o, (w1.alloc (.cells #[.int .i64 k, .int .i64 n, .string s] 26)).frozen? ⟨w.heap.size, o, none⟩ = w1.frozen? ⟨w.heap.size, o, none⟩ := fun o =>
    World.frozen?_of_block (w := w1) (Below.heap_alloc _ _ _ hza)
  have hg : ∀ o, w1.frozen? ⟨w.heap.size, o, none⟩ = false := fun o => by
    rw [hs.frozen (by simp) (by show w.heap.size ≠ b; omega)]
    go_simp
  refine ⟨ht.alloc _, hs.of_alloc.alloc _, hlt, Nat.le_refl _, hza, by simp, ⟨0, by rw [hc]; exact a0⟩, ⟨0, by rw [hc]; exact a1⟩, ⟨⟨#[]⟩, by rw [hc]; exact a2⟩, ?_, ?_, ?_, fun o => ⟨by rw [hf]; exact hg o, ?_⟩⟩
  all_goals go_simp

theorem OddAt.done {w u : World} {b R V : Nat} {k n : Int} {s : ByteArray} (h : OddAt w u b R V k n s) (x y z : Value) :
    TapeAt (((u.setCell ⟨R, 0, none⟩ x).setCell ⟨R, 1, none⟩ y).setCell ⟨R, 2, none⟩ z) b ∧ StepT b w (((u.setCell ⟨R, 0, none⟩ x).setCell ⟨R, 1, none⟩ y).setCell ⟨R, 2, none⟩ z) :=
  ⟨((h.tape.setCell (by exact h.bR) _).setCell (by exact h.bR) _).setCell (by exact h.bR) _, ((h.step.set2 h.wR _ _ _).set2 h.wR _ _ _).set2 h.wR _ _ _⟩

theorem OddAt.set {w u : World} {b R V : Nat} {k n : Int} {s : ByteArray} (h : OddAt w u b R V k n s) (o : Nat) (x : Value) {k' n' : Int} {s' : ByteArray}
    (h0 : (u.setCell ⟨V, o, none⟩ x).cell? ⟨V, 0, none⟩ = some (.int .i64 k')) (h1 : (u.setCell ⟨V, o, none⟩ x).cell? ⟨V, 1, none⟩ = some (.int .i64 n')) (h2 : (u.setCell ⟨V, o, none⟩ x).cell? ⟨V, 2, none⟩ = some (.string s')) :
    OddAt w (u.setCell ⟨V, o, none⟩ x) b R V k' n' s' := by
  have hRV := h.RV
  have hc : ∀ o', (u.setCell ⟨V, o, none⟩ x).cell? ⟨R, o', none⟩ = u.cell? ⟨R, o', none⟩ := fun o' => World.cell?_of_block (w := u) (Below.heap_setCell _ _ _ _ (show R ≠ V by omega))
  refine ⟨h.tape.setCell (by have := h.bR; show b < V; omega) _, h.step.set2 (by have := h.wR; omega) _ _ _, h.bR, h.wR, hRV, by simpa [World.setCell] using h.vz, by rw [hc]; exact h.r0, by rw [hc]; exact h.r1, by rw [hc]; exact h.r2, h0, h1, h2, fun o' => ⟨?_, ?_⟩⟩
  · rw [World.frozen?_of_block (w := u) (Below.heap_setCell _ _ _ _ (show R ≠ V by omega))]; exact (h.fz o').1
  · rw [World.frozen?_setCell]; exact (h.fz o').2

/-- One byte made a text. -/
def oneB (z : Int) : ByteArray := strOfNums [z]
theorem one_size (z : Int) : (oneB z).size = 1 := rfl
theorem one_byte (z : Int) (W : World) : Sem.run Tryd.prog (convert 67 9 (.slice (some ⟨W.heap.size, 0, none⟩) 1 1)) (W.alloc (.cells #[.int .u8 z] 5)) = .ok (.string (oneB z)) (W.alloc (.cells #[.int .u8 z] 5)) := by
  refine run_convert_bytes_arg _ 67 5 Tryd.underlying67 Tryd.underlying5 W.heap.size 0 1 1 [z] rfl (fun i hi => ?_) 9 Tryd.underlying9
  obtain rfl : i = 0 := by omega
  show (W.alloc _).cell? ⟨W.heap.size, 0, none⟩ = _
  go_simp

set_option maxRecDepth 100000 in
set_option maxHeartbeats 1000000 in
theorem odd_any (b : Nat) (w : World) (hb : b ≠ 3) (ht : TapeAt w b) (hw : WordsAt w) :
    Calls Tryd.prog 27 #[.pointer (some ⟨b, 0, none⟩)] w (OddPost b w) := by
  have hlt := ht.lt
  go_enter Tryd.func27, Tryd.ntmps27
  go_wp2_with fail
  refine (value_any b _ hb (ht.alloc _) (hw.alloc _)).mono ?_
  rintro e w1 ⟨k, n, s, rfl, hv, -, ht1, hs1⟩
  have hO := OddAt.made (k := k) (n := n) (s := s) hlt ht1 hs1
  have ho := hv.odd
  have hsz := hv.short
  clear hv
  go_wp2_with fail
  refine (next_any b _ _ (by omega) (by omega) hO.tape).mono ?_
  rintro e w2 ⟨r, rfl, hr0, hr1, ht2, hs2⟩
  have hO2 := hO.next hs2 ht2
  clear hO ht2 hs2 ht1 hs1 ht hw
  have HO := Lib.hid hO2
  obtain ⟨x0, r0⟩ := hO2.r0
  obtain ⟨x1, r1⟩ := hO2.r1
  obtain ⟨x2, r2⟩ := hO2.r2
  have v0 := hO2.v0
  have v1 := hO2.v1
  have v2 := hO2.v2
  have fr := fun o => (hO2.fz o).1
  have fv := fun o => (hO2.fz o).2
  have hRV := hO2.RV
  clear hO2
  have hr : r = 0 ∨ r = 1 ∨ r = 2 ∨ r = 3 ∨ r = 4 := by omega
  clear hr0 hr1
  rcases hr with rfl | rfl | rfl | rfl | rfl
  · go_wp2_with fail
    refine (next_any b _ _ (by omega) (by omega) HO.out.tape).mono ?_
    rintro e w3 ⟨q, rfl, hq0, hq1, ht3, hs3⟩
    have hO3 := HO.out.next hs3 ht3
    clear r0 r1 r2 v0 v1 v2 fr fv hs3 ht3
    have HO3 := Lib.hid hO3
    obtain ⟨x0, r0⟩ := hO3.r0
    obtain ⟨x1, r1⟩ := hO3.r1
    obtain ⟨x2, r2⟩ := hO3.r2
    have v0 := hO3.v0
    have v1 := hO3.v1
    have v2 := hO3.v2
    have fr := fun o => (hO3.fz o).1
    have fv := fun o => (hO3.fz o).2
    clear hO3
    go_wp2
    have hO4 := HO3.out.set 0 (.int .i64 (q - 2)) (k' := q - 2) (n' := n) (s' := s) (by go_simp) (by go_simp) (by go_simp)
    exact bodyPost_ret (v := .agg #[.int .i64 (q - 2), .int .i64 n, .string s]) (by simp [results, Tryd.results27, go_sem, r0, r1, r2]) rfl
      ⟨_, _, _, rfl, ⟨by omega, by omega, ho.2.2⟩, (hO4.done _ _ _).1, (hO4.done _ _ _).2⟩
  · go_wp2
    have hO4 := HO.out.set 1 (.int .i64 (wrap64 (n + 1))) (k' := k) (n' := wrap64 (n + 1)) (s' := s) (by go_simp) (by go_simp) (by go_simp)
    exact bodyPost_ret (v := .agg #[.int .i64 k, .int .i64 (wrap64 (n + 1)), .string s]) (by simp [results, Tryd.results27, go_sem, r0, r1, r2]) rfl
      ⟨_, _, _, rfl, ⟨ho.1, ho.2.1, (bounds_i64 (RowKit.wrap64_wf _)).1, (bounds_i64 (RowKit.wrap64_wf _)).2, ho.2.2.2.2⟩, (hO4.done _ _ _).1, (hO4.done _ _ _).2⟩
  · have HO' := Lib.hid (HO.out.next ((StepT.refl b _).drewN 1) HO.out.tape : OddAt w w2.drew b w.heap.size w1.heap.size k n s)
    have hcv := one_byte
    have h1 := one_size
    go_wp2_with fail
    go_region_with (go_at_call 13; refine (next_any b _ _ (by omega) (by omega) HO'.out.tape).mono ?_; rintro e w3 ⟨q, rfl, hq0, hq1, ht3, hs3⟩; have hO3 := HO'.out.next hs3 ht3; have u2 := hO3.v2; have uf := fun o => (hO3.fz o).2; have uz := hO3.vz; have HO3 := Lib.hid hO3; clear hO3 ht3 hs3)
    all_goals
      have hO3 := HO3.out
      clear HO3 HO' HO r0 r1 r2 v0 v1 v2 fr fv hcv h1 u2 uf uz
      have v0 := hO3.v0
      have v1 := hO3.v1
      have hO4 := hO3.set 2 (.string (s ++ oneB q)) (k' := k) (n' := n) (s' := s ++ oneB q) (by go_simp) (by go_simp) (by have := hO3.v2; go_simp)
      clear v0 v1 hO3
      have hO5 := hO4.next ((StepT.refl b _).alloc (.cells #[.int .u8 q] 5)) (hO4.tape.alloc _)
      clear hO4
      have HO5 := Lib.hid hO5
      obtain ⟨x0, r0⟩ := hO5.r0
      obtain ⟨x1, r1⟩ := hO5.r1
      obtain ⟨x2, r2⟩ := hO5.r2
      have v0 := hO5.v0
      have v1 := hO5.v1
      have v2 := hO5.v2
      have fr := fun o => (hO5.fz o).1
      clear hO5
      generalize (w3.setCell _ _).alloc _ = W5 at r0 r1 r2 v0 v1 v2 fr HO5 ⊢
      go_wp2
      exact bodyPost_ret (v := .agg #[.int .i64 k, .int .i64 n, .string (s ++ oneB q)]) (by simp [results, Tryd.results27, go_sem, r0, r1, r2]) rfl
        ⟨_, _, _, rfl, ⟨ho.1, ho.2.1, ho.2.2.1, ho.2.2.2.1, by rw [ByteArray.size_append, one_size]; omega⟩, (HO5.out.done _ _ _).1, (HO5.out.done _ _ _).2⟩
  · have hA := HO.out.set 0 (.int .i64 3) (k' := 3) (n' := n) (s' := s) (by go_simp) (by go_simp) (by go_simp)
    have hA0 := hA.v0
    have hA1 := hA.v1
    have hA2 := hA.v2
    have hB := hA.set 1 (.int .i64 0) (k' := 3) (n' := 0) (s' := s) (by go_simp) (by go_simp) (by go_simp)
    have hB0 := hB.v0
    have hB1 := hB.v1
    have hB2 := hB.v2
    have hC := hB.set 2 (.string ⟨#[]⟩) (k' := 3) (n' := 0) (s' := ⟨#[]⟩) (by go_simp) (by go_simp) (by go_simp)
    have HC := Lib.hid hC
    clear hA hA0 hA1 hA2 hB hB0 hB1 hB2 hC
    go_wp2_with fail
    refine (next_any b _ _ (by omega) (by omega) HC.out.tape).mono ?_
    rintro e w3 ⟨q, rfl, hq0, hq1, ht3, hs3⟩
    have hO3 := HC.out.next hs3 ht3
    have HO3 := Lib.hid hO3
    clear r0 r1 r2 v0 v1 v2 fr fv hs3 ht3 hO3 HC HO
    obtain ⟨q, rfl⟩ := Int.eq_ofNat_of_zero_le hq0
    go_wp2
    have hO3' := HO3.out
    go_loopw [4] (fun i wr => ∃ (c : Nat) (t : ByteArray), i = .int .i64 c ∧ t.size + c ≤ 67 ∧ OddAt w wr b w.heap.size w1.heap.size 3 0 t) (fun i _ => (intOf i).toNat)
    case atStart => exact ⟨60 + q, ⟨#[]⟩, by simp, by show 0 + (60 + q) ≤ 67; omega, hO3'⟩
    case round =>
      clear hO3'
      obtain ⟨c, t, rfl, hct, hO⟩ := hrel
      have HO := Lib.hid hO
      obtain ⟨x0, r0⟩ := hO.r0
      obtain ⟨x1, r1⟩ := hO.r1
      obtain ⟨x2, r2⟩ := hO.r2
      have v0 := hO.v0
      have v1 := hO.v1
      have v2 := hO.v2
      have fr := fun o => (hO.fz o).1
      have fv := fun o => (hO.fz o).2
      clear hO
      by_cases hc : 0 < c
      · obtain ⟨d, rfl⟩ : ∃ d, c = d + 1 := ⟨c - 1, by omega⟩
        have hO4 := HO.out.set 2 (.string (t ++ ⟨#[120]⟩)) (k' := 3) (n' := 0) (s' := t ++ ⟨#[120]⟩) (by go_simp) (by go_simp) (by go_simp)
        have HO4 := Lib.hid hO4
        clear hO4
        go_wp2
        go_roundw
        case rel => exact ⟨d, t ++ ⟨#[120]⟩, by go_num, by rw [ByteArray.size_append]; show t.size + 1 + d ≤ 67; omega, HO4.out⟩
        case measure => simp [intOf]
      · obtain rfl : c = 0 := by omega
        go_wp2
        exact bodyPost_ret (v := .agg #[.int .i64 3, .int .i64 0, .string t]) (by simp [results, Tryd.results27, go_sem, r0, r1, r2]) rfl
          ⟨_, _, _, rfl, ⟨by decide, by decide, by decide, by decide, by omega⟩, (HO.out.done _ _ _).1, (HO.out.done _ _ _).2⟩
  · go_wp2
    exact bodyPost_ret (v := .agg #[.int .i64 k, .int .i64 n, .string s]) (by simp [results, Tryd.results27, go_sem, r0, r1, r2]) rfl
      ⟨_, _, _, rfl, ho, (HO.out.done _ _ _).1, (HO.out.done _ _ _).2⟩
end Go.Proofs.YtecghiflbnhceaaDoor
/-
  Slices and boxes of values that a call has made, and that they stay.
-/
namespace Go.Proofs.YtecghiflbnhceaaDoor
set_option maxRecDepth 100000
open Go.RowKit
variable {ls : List Nat}

/-- A slice of n values that the call has made: its block, and what its cells hold. -/
def ListAt (u : World) (L n : Nat) (V : Nat → Int × Int × ByteArray) : Prop :=
  L < u.heap.size ∧ ∀ i, i < n → u.cell? ⟨L, i * 3, none⟩ = some (.int .i64 (V i).1) ∧ u.cell? ⟨L, i * 3 + 1, none⟩ = some (.int .i64 (V i).2.1) ∧ u.cell? ⟨L, i * 3 + 2, none⟩ = some (.string (V i).2.2)
theorem ListAt.low {u v : World} {L n : Nat} {V : Nat → Int × Int × ByteArray} (h : ListAt u L n V) (hb : Below u.heap.size u v) : ListAt v L n V :=
  ⟨Nat.lt_of_lt_of_le h.1 hb.size, fun i hi => ⟨by rw [hb.cell (by exact h.1)]; exact (h.2 i hi).1, by rw [hb.cell (by exact h.1)]; exact (h.2 i hi).2.1, by rw [hb.cell (by exact h.1)]; exact (h.2 i hi).2.2⟩⟩

/-- A box with one value. -/
def BoxAt (u : World) (X : Nat) (v : Int × Int × ByteArray) : Prop :=
  X < u.heap.size ∧ u.cell? ⟨X, 0, none⟩ = some (.int .i64 v.1) ∧ u.cell? ⟨X, 1, none⟩ = some (.int .i64 v.2.1) ∧ u.cell? ⟨X, 2, none⟩ = some (.string v.2.2)
theorem BoxAt.low {u v : World} {X : Nat} {x : Int × Int × ByteArray} (h : BoxAt u X x) (hb : Below u.heap.size u v) : BoxAt v X x :=
  ⟨Nat.lt_of_lt_of_le h.1 hb.size, by rw [hb.cell (by exact h.1)]; exact h.2.1, by rw [hb.cell (by exact h.1)]; exact h.2.2.1, by rw [hb.cell (by exact h.1)]; exact h.2.2.2⟩
theorem BoxAt.new (u : World) (v : Int × Int × ByteArray) (t : TypeId) : BoxAt (u.alloc (.cells #[.int .i64 v.1, .int .i64 v.2.1, .string v.2.2] t)) u.heap.size v := by
  refine ⟨by simp, ?_, ?_, ?_⟩
  all_goals go_simp
theorem low_alloc (u : World) (o : Obj) : Below u.heap.size u (u.alloc o) := (Below.refl _ _).alloc (Nat.le_refl _) _

theorem keepX {B A L m : Nat} {W u v : World} {V : Nat → Int × Int × ByteArray} {x y z : Value} (hb : Below u.heap.size u v)
    (h : u.cell? ⟨B, 0, none⟩ = some x ∧ u.cell? ⟨B, 1, none⟩ = some y ∧ u.cell? ⟨B, 2, none⟩ = some z ∧ B < u.heap.size ∧ Env ls u ∧ ListAt u L m V ∧ Below A W u ∧ A ≤ u.heap.size) :
    v.cell? ⟨B, 0, none⟩ = some x ∧ v.cell? ⟨B, 1, none⟩ = some y ∧ v.cell? ⟨B, 2, none⟩ = some z ∧ B < v.heap.size ∧ Env ls v ∧ ListAt v L m V ∧ Below A W v ∧ A ≤ v.heap.size := by
  obtain ⟨h0, h1, h2, hz, hE, hL, hB, hA⟩ := h
  have := hb.size
  exact ⟨by rw [hb.cell (by exact hz)]; exact h0, by rw [hb.cell (by exact hz)]; exact h1, by rw [hb.cell (by exact hz)]; exact h2, by omega, hE.low hb, hL.low hb, hB.trans (hb.mono hA), by omega⟩

theorem keepL {B B' A L m : Nat} {W u v : World} {V : Nat → Int × Int × ByteArray} {x y z x' y' z' : Value} (hb : Below u.heap.size u v)
    (h : u.cell? ⟨B, 0, none⟩ = some x ∧ u.cell? ⟨B, 1, none⟩ = some y ∧ u.cell? ⟨B, 2, none⟩ = some z ∧ u.cell? ⟨B', 0, none⟩ = some x' ∧ u.cell? ⟨B', 1, none⟩ = some y' ∧ u.cell? ⟨B', 2, none⟩ = some z' ∧ B < u.heap.size ∧ B' < u.heap.size ∧ Env ls u ∧ ListAt u L m V ∧ Below A W u ∧ A ≤ u.heap.size) :
    v.cell? ⟨B, 0, none⟩ = some x ∧ v.cell? ⟨B, 1, none⟩ = some y ∧ v.cell? ⟨B, 2, none⟩ = some z ∧ v.cell? ⟨B', 0, none⟩ = some x' ∧ v.cell? ⟨B', 1, none⟩ = some y' ∧ v.cell? ⟨B', 2, none⟩ = some z' ∧ B < v.heap.size ∧ B' < v.heap.size ∧ Env ls v ∧ ListAt v L m V ∧ Below A W v ∧ A ≤ v.heap.size := by
  obtain ⟨h0, h1, h2, h0', h1', h2', hz, hz', hE, hL, hB, hA⟩ := h
  have := hb.size
  exact ⟨by rw [hb.cell (by exact hz)]; exact h0, by rw [hb.cell (by exact hz)]; exact h1, by rw [hb.cell (by exact hz)]; exact h2, by rw [hb.cell (by exact hz')]; exact h0', by rw [hb.cell (by exact hz')]; exact h1', by rw [hb.cell (by exact hz')]; exact h2', by omega, by omega, hE.low hb, hL.low hb, hB.trans (hb.mono hA), by omega⟩

theorem keepS {R b : Nat} {W u v : World} {x y z : Value} (hs : StepT b u v) (ht : TapeAt v b) (h8 : 4 ≤ b) (hR : R < b) (hW : W.heap.size ≤ b)
    (h : u.cell? ⟨R, 0, none⟩ = some x ∧ u.cell? ⟨R, 1, none⟩ = some y ∧ u.cell? ⟨R, 2, none⟩ = some z ∧ TapeAt u b ∧ Env ls u ∧ Below W.heap.size W u ∧ R < u.heap.size) :
    v.cell? ⟨R, 0, none⟩ = some x ∧ v.cell? ⟨R, 1, none⟩ = some y ∧ v.cell? ⟨R, 2, none⟩ = some z ∧ TapeAt v b ∧ Env ls v ∧ Below W.heap.size W v ∧ R < v.heap.size := by
  obtain ⟨h0, h1, h2, _, hE, hB, hz⟩ := h
  have hn : R ≠ b := by omega
  exact ⟨by rw [hs.cell (by exact hz) (by exact hn)]; exact h0, by rw [hs.cell (by exact hz) (by exact hn)]; exact h1, by rw [hs.cell (by exact hz) (by exact hn)]; exact h2, ht, hE.step hs h8, hB.trans (hs.below hW hB.size), Nat.lt_of_lt_of_le hz hs.size⟩
theorem keepA {R b : Nat} {W u : World} {x y z : Value} {o : Obj} (h8 : 4 ≤ b) (hR : R < b) (hW : W.heap.size ≤ b)
    (h : u.cell? ⟨R, 0, none⟩ = some x ∧ u.cell? ⟨R, 1, none⟩ = some y ∧ u.cell? ⟨R, 2, none⟩ = some z ∧ TapeAt u b ∧ Env ls u ∧ Below W.heap.size W u ∧ R < u.heap.size) :
    (u.alloc o).cell? ⟨R, 0, none⟩ = some x ∧ (u.alloc o).cell? ⟨R, 1, none⟩ = some y ∧ (u.alloc o).cell? ⟨R, 2, none⟩ = some z ∧ TapeAt (u.alloc o) b ∧ Env ls (u.alloc o) ∧ Below W.heap.size W (u.alloc o) ∧ R < (u.alloc o).heap.size :=
  keepS ((StepT.refl b u).alloc o) (h.2.2.2.1.alloc o) h8 hR hW h

theorem keepS6 {R R' b : Nat} {W u v : World} {x y z x' y' z' : Value} (hs : StepT b u v) (ht : TapeAt v b) (h8 : 4 ≤ b) (hR : R < b) (hR' : R' < b) (hW : W.heap.size ≤ b)
    (h : u.cell? ⟨R, 0, none⟩ = some x ∧ u.cell? ⟨R, 1, none⟩ = some y ∧ u.cell? ⟨R, 2, none⟩ = some z ∧ u.cell? ⟨R', 0, none⟩ = some x' ∧ u.cell? ⟨R', 1, none⟩ = some y' ∧ u.cell? ⟨R', 2, none⟩ = some z' ∧ TapeAt u b ∧ Env ls u ∧ Below W.heap.size W u ∧ R < u.heap.size ∧ R' < u.heap.size) :
    v.cell? ⟨R, 0, none⟩ = some x ∧ v.cell? ⟨R, 1, none⟩ = some y ∧ v.cell? ⟨R, 2, none⟩ = some z ∧ v.cell? ⟨R', 0, none⟩ = some x' ∧ v.cell? ⟨R', 1, none⟩ = some y' ∧ v.cell? ⟨R', 2, none⟩ = some z' ∧ TapeAt v b ∧ Env ls v ∧ Below W.heap.size W v ∧ R < v.heap.size ∧ R' < v.heap.size := by
  obtain ⟨h0, h1, h2, h0', h1', h2', _, hE, hB, hz, hz'⟩ := h
  have hn : R ≠ b := by omega
  have hn' : R' ≠ b := by omega
  exact ⟨by rw [hs.cell (by exact hz) (by exact hn)]; exact h0, by rw [hs.cell (by exact hz) (by exact hn)]; exact h1, by rw [hs.cell (by exact hz) (by exact hn)]; exact h2,
    by rw [hs.cell (by exact hz') (by exact hn')]; exact h0', by rw [hs.cell (by exact hz') (by exact hn')]; exact h1', by rw [hs.cell (by exact hz') (by exact hn')]; exact h2', ht, hE.step hs h8, hB.trans (hs.below hW hB.size), Nat.lt_of_lt_of_le hz hs.size, Nat.lt_of_lt_of_le hz' hs.size⟩
theorem keepA6 {R R' b : Nat} {W u : World} {x y z x' y' z' : Value} {o : Obj} (h8 : 4 ≤ b) (hR : R < b) (hR' : R' < b) (hW : W.heap.size ≤ b)
    (h : u.cell? ⟨R, 0, none⟩ = some x ∧ u.cell? ⟨R, 1, none⟩ = some y ∧ u.cell? ⟨R, 2, none⟩ = some z ∧ u.cell? ⟨R', 0, none⟩ = some x' ∧ u.cell? ⟨R', 1, none⟩ = some y' ∧ u.cell? ⟨R', 2, none⟩ = some z' ∧ TapeAt u b ∧ Env ls u ∧ Below W.heap.size W u ∧ R < u.heap.size ∧ R' < u.heap.size) :
    (u.alloc o).cell? ⟨R, 0, none⟩ = some x ∧ (u.alloc o).cell? ⟨R, 1, none⟩ = some y ∧ (u.alloc o).cell? ⟨R, 2, none⟩ = some z ∧ (u.alloc o).cell? ⟨R', 0, none⟩ = some x' ∧ (u.alloc o).cell? ⟨R', 1, none⟩ = some y' ∧ (u.alloc o).cell? ⟨R', 2, none⟩ = some z' ∧ TapeAt (u.alloc o) b ∧ Env ls (u.alloc o) ∧ Below W.heap.size W (u.alloc o) ∧ R < (u.alloc o).heap.size ∧ R' < (u.alloc o).heap.size :=
  keepS6 ((StepT.refl b u).alloc o) (h.2.2.2.2.2.2.1.alloc o) h8 hR hR' hW h

theorem keepZ6 {R R' b : Nat} {W u v : World} {x y z x' y' z' : Value} (hb : Below u.heap.size u v) (h8 : 4 ≤ b) (hR : R < b) (hR' : R' < b) (hW : W.heap.size ≤ b)
    (h : u.cell? ⟨R, 0, none⟩ = some x ∧ u.cell? ⟨R, 1, none⟩ = some y ∧ u.cell? ⟨R, 2, none⟩ = some z ∧ u.cell? ⟨R', 0, none⟩ = some x' ∧ u.cell? ⟨R', 1, none⟩ = some y' ∧ u.cell? ⟨R', 2, none⟩ = some z' ∧ TapeAt u b ∧ Env ls u ∧ Below W.heap.size W u ∧ R < u.heap.size ∧ R' < u.heap.size) :
    v.cell? ⟨R, 0, none⟩ = some x ∧ v.cell? ⟨R, 1, none⟩ = some y ∧ v.cell? ⟨R, 2, none⟩ = some z ∧ v.cell? ⟨R', 0, none⟩ = some x' ∧ v.cell? ⟨R', 1, none⟩ = some y' ∧ v.cell? ⟨R', 2, none⟩ = some z' ∧ TapeAt v b ∧ Env ls v ∧ Below W.heap.size W v ∧ R < v.heap.size ∧ R' < v.heap.size :=
  keepS6 (StepT.of_below hb) (h.2.2.2.2.2.2.1.below hb) h8 hR hR' hW h

theorem IntsAt.low {u v : World} {p : Option Addr} {n : Nat} (h : IntsAt u p n) (hb : Below u.heap.size u v) : IntsAt v p n := fun i hi => by
  obtain ⟨c, o, z, hp, hc, hz, hz1⟩ := h i hi
  exact ⟨c, o, z, hp, Nat.lt_of_lt_of_le hc hb.size, by rw [hb.cell (by exact hc)]; exact hz, hz1⟩

/-- A value whose number is an int64 and whose text is a text of Go. -/
def Fair (v : Int × Int × ByteArray) : Prop := -9223372036854775808 ≤ v.2.1 ∧ v.2.1 ≤ 9223372036854775807 ∧ v.2.2.size ≤ 9223372036854775807

theorem fair_mk {k n : Int} {s : ByteArray} (h1 : -9223372036854775808 ≤ n) (h2 : n ≤ 9223372036854775807) (h3 : s.size ≤ 9223372036854775807) : Fair (k, n, s) := ⟨h1, h2, h3⟩

end Go.Proofs.YtecghiflbnhceaaDoor
