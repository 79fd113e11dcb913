/-
  Several texts in one.
-/
import Derived.Test.YtdlehlbahkikgaaDoorPk06
import Derived.Test.YtdlehlbahkikgaaDoorPk04
import Derived.Test.YtdlehlbahkikgaaDoorPk16
import Derived.Test.YtdlehlbahkikgaaDoorPk05
import Derived.Test.YtdlehlbahkikgaaDoorPk08
import Derived.Deep.RegionWith
import Derived.Deep.CutRange
/-
  Sets of bits of package syntax: set.
-/
namespace Go.Proofs.YtdlehlbahkikgaaDoor
set_option maxRecDepth 100000
open Go.RowKit
variable {ls : List Nat}

def bitsN (f : Nat → Bool) : Nat → Int
  | 0 => 0
  | n + 1 => if f n then bits .or .i64 (bitsN f n) (wrap64 (2 ^ n)) else bitsN f n
set_option maxHeartbeats 1000000 in
theorem set_any (p : Option Addr) (n cap : Nat) (f : Nat → Bool) (w : World) (hn : n ≤ 60) (h : ∀ i, i < n → ∃ c o : Nat, p = some ⟨c, o, none⟩ ∧ c < w.heap.size ∧ w.cell? ⟨c, o + i, none⟩ = some (.bool (f i))) :
    Calls Tryd.prog 60 #[.slice p n cap] w fun e w' => e = .returned (.int .i64 (bitsN f n)) ∧ w = w' := by
  have H := Lib.hid h
  clear h
  go_enter Tryd.func60, Tryd.ntmps60
  go_wp2_with fail
  go_loopw [3, 8] (fun r i v => ∃ k : Nat, k ≤ n ∧ i = .int .i64 k ∧ r = .int .i64 (bitsN f k) ∧ w = v) (fun _ i _ => n - (intOf i).toNat)
  case atStart => exact ⟨0, Nat.zero_le _, rfl, rfl, rfl⟩
  case round =>
    obtain ⟨k, hk, rfl, rfl, rfl⟩ := hrel
    by_cases hlt : k < n
    · have hlt' : decide ((k : Int) < n) = true := decide_eq_true (by omega)
      obtain ⟨c, o, rfl, hc, hcl⟩ := H.out k hlt
      cases hf : f k
      · rw [hf] at hcl
        have HF := Lib.hid hf
        clear hf
        go_wp2
        go_roundw
        case rel => exact ⟨k + 1, by omega, by go_num, by show _ = Value.int .i64 (if f k then _ else _); rw [HF.out]; rfl, trivial⟩
        case measure => simp [intOf]; omega
      · rw [hf] at hcl
        have HF := Lib.hid hf
        clear hf
        go_wp2
        go_roundw
        case rel => exact ⟨k + 1, by omega, by go_num, by show _ = Value.int .i64 (if f k then _ else _); rw [HF.out]; rfl, trivial⟩
        case measure => simp [intOf]; omega
    · have hlt' : decide ((k : Int) < n) = false := decide_eq_false (by omega)
      obtain rfl : k = n := by omega
      go_wp2
      go_ret
      exact ⟨rfl, rfl⟩
def f7 (b0 b1 b2 b3 b4 b5 b6 : Bool) (i : Nat) : Bool := [b0, b1, b2, b3, b4, b5, b6].getD i false
def bits7 (b0 b1 b2 b3 b4 b5 b6 : Bool) : Int := bitsN (f7 b0 b1 b2 b3 b4 b5 b6) 7
/-- Are all filled fields among those that a kind uses? -/
def usesB (k : Nat) (b0 b1 b2 b3 b4 b5 b6 : Bool) : Bool :=
  (!b0 || k == 5) && (!b1 || k == 6) && (!b2 || k == 1) && (!b3 || k == 2) && (!b4 || k == 2) && (!b5 || (3 ≤ k && k ≤ 7)) && (!b6 || 8 ≤ k)
theorem uses_all : ∀ (b0 b1 b2 b3 b4 b5 b6 : Bool) (k : Fin 12), (bits .andNot .i64 (bits7 b0 b1 b2 b3 b4 b5 b6) (useL.getD (k.val + 1) 0) == 0) = usesB (k.val + 1) b0 b1 b2 b3 b4 b5 b6 := by decide +kernel
end Go.Proofs.YtdlehlbahkikgaaDoor
/-
  A drawn region whose operations make memory: each operation is shown once, from the facts of those that it waits for; no orders are told apart.
-/
namespace Go.Proofs.YtdlehlbahkikgaaDoor
set_option maxRecDepth 100000
open Go.RowKit

def slotF (a : Act) (s : Nat) : Value := a.tmps.getD s undef
/-- Does operation i wait for operation k? -/
def reach (ops : Array Oper) : Nat → Nat → Nat → Bool
  | 0, _, _ => false
  | n + 1, i, k => match ops[i]? with
    | none => false
    | some o => o.after.any fun e => Region.binds .any e && (e.on == k || reach ops n e.on k)
/-- What has come up is closed. -/
def Shut (ops : Array Oper) (listed : Array Bool) : Prop := ∀ (j : Nat) (o : Oper), ops[j]? = some o → listed.getD j false = true → ∀ e ∈ o.after, Region.binds .any e = true → listed.getD e.on false = true
theorem reach_listed {ops : Array Oper} {listed : Array Bool} (hs : Shut ops listed) : ∀ (n i k : Nat) (o : Oper), ops[i]? = some o → (∀ e ∈ o.after, Region.binds .any e = true → listed.getD e.on false = true) → reach ops n i k = true → listed.getD k false = true := by
  intro n
  induction n with
  | zero => intro i k o _ _ h; cases h
  | succ n ih =>
    intro i k o ho hd h
    unfold reach at h
    rw [ho] at h
    simp only [Array.any_eq_true'] at h
    obtain ⟨e, he, h⟩ := h
    rw [Bool.and_eq_true, Bool.or_eq_true] at h
    have h1 := hd e he h.1
    rcases h.2 with h2 | h2
    · rw [← beq_iff_eq.1 h2]; exact h1
    · cases hoe : ops[e.on]? with
      | none => cases n with
        | zero => cases h2
        | succ n => unfold reach at h2; rw [hoe] at h2; cases h2
      | some o' => exact ih e.on k o' hoe (hs e.on o' hoe h1) h2
/-- What a region's plan must meet: no guards, each slot set once, and each fact is used where it stands. -/
def eachB (l : List Oper) (use sl : List (List Nat)) (live : List Bool) (st : Nat) : Bool :=
  let n := l.length
  let ops := l.toArray
  l.all (fun o => o.guard.isNone) &&
  (List.range n).all fun i =>
    (match l[i]? with | some o => o.after.all (fun e => !Region.binds .any e || decide (e.on < i)) | none => true) &&
    (use.getD i []).all (fun k => reach ops n i k && (live.getD k false || reach ops n st i || i == st)) &&
    (List.range n).all fun j => i == j || reach ops n j i || (match (l[i]?).bind (·.dst) with | some d => !(sl.getD j []).contains d | none => true)
theorem getD_out {listed : Array Bool} {i : Nat} (h : listed.size ≤ i) : listed.getD i false = false := by simp [h]
theorem listed_set {listed : Array Bool} {i j : Nat} (hi : i < listed.size) : (listed.setIfInBounds i true).getD j false = true ↔ i = j ∨ listed.getD j false = true := by
  by_cases h : i = j
  · subst h
    simp [hi]
  · simp [Array.getElem?_setIfInBounds_ne h, h]
theorem slot_put (a : Act) (d : Option Tmp) (v : Value) (s : Nat) (h : d ≠ some s) : slotF (a.put d v) s = slotF a s := by
  unfold slotF Act.put
  cases d with
  | none => rfl
  | some d =>
    have hne : d ≠ s := fun e => h (by rw [e])
    simp [Array.getElem?_setIfInBounds_ne hne]
theorem size_put (a : Act) (d : Option Tmp) (v : Value) : (a.put d v).tmps.size = a.tmps.size := by
  unfold Act.put
  cases d <;> simp
theorem defers_put (a : Act) (d : Option Tmp) (v : Value) : (a.put d v).defers = a.defers := by
  unfold Act.put
  cases d <;> rfl
theorem slot_same (a : Act) (d : Tmp) (v : Value) (h : d < a.tmps.size) : slotF (a.put (some d) v) d = v := by
  unfold slotF Act.put
  simp [h]
/-- The frame behind the region. -/
def putAll (l : List Oper) (f : Nat → Value) (a : Act) : Act := l.foldl (fun a o => match o.dst with | some d => a.put (some d) (f d) | none => a) a
theorem putAll_size (l : List Oper) (f : Nat → Value) (a : Act) : (putAll l f a).tmps.size = a.tmps.size ∧ (putAll l f a).defers = a.defers := by
  induction l generalizing a with
  | nil => exact ⟨rfl, rfl⟩
  | cons o l ih =>
    unfold putAll
    rw [List.foldl_cons]
    have := ih (match o.dst with | some d => a.put (some d) (f d) | none => a)
    unfold putAll at this
    refine ⟨this.1.trans ?_, this.2.trans ?_⟩
    · cases o.dst with
      | none => rfl
      | some d => exact size_put _ _ _
    · cases o.dst with
      | none => rfl
      | some d => exact defers_put _ _ _
theorem putAll_slot (l : List Oper) (f : Nat → Value) (a : Act) (s : Nat) (hs : s < a.tmps.size) : slotF (putAll l f a) s = if (∃ o ∈ l, o.dst = some s) then f s else slotF a s := by
  induction l generalizing a with
  | nil => rw [if_neg (by simp)]; rfl
  | cons o l ih =>
    have e : putAll (o :: l) f a = putAll l f (match o.dst with | some d => a.put (some d) (f d) | none => a) := rfl
    have hz : s < (match o.dst with | some d => a.put (some d) (f d) | none => a).tmps.size := by
      cases o.dst with
      | none => exact hs
      | some d => simp only []; rw [size_put]; exact hs
    rw [e, ih _ hz]
    by_cases h1 : ∃ o ∈ l, o.dst = some s
    · obtain ⟨o', h2, h3⟩ := h1
      rw [if_pos ⟨o', h2, h3⟩, if_pos ⟨o', List.mem_cons_of_mem _ h2, h3⟩]
    · rw [if_neg h1]
      by_cases h2 : o.dst = some s
      · rw [if_pos ⟨o, List.mem_cons_self, h2⟩, h2]
        exact slot_same _ _ _ hs
      · rw [if_neg]
        · cases ho : o.dst with
          | none => rfl
          | some d => simp only []; exact slot_put _ _ _ _ (by rw [← ho]; exact h2)
        · rintro ⟨o', h3, h4⟩
          rcases List.mem_cons.1 h3 with rfl | h3
          · exact h2 h4
          · exact h1 ⟨o', h3, h4⟩
theorem act_eq {a b : Act} (h1 : a.tmps.size = b.tmps.size) (h2 : a.defers = b.defers) (h3 : ∀ s, s < a.tmps.size → slotF a s = slotF b s) : a = b := by
  obtain ⟨ta, da⟩ := a
  obtain ⟨tb, db⟩ := b
  simp only at h1 h2 h3
  subst h2
  congr 1
  apply Array.ext h1
  intro i hi hj
  have := h3 i hi
  unfold slotF at this
  simpa [hi, hj] using this

section
variable {P : Program} {l : List Oper} {Q : Exit → Act → World → Prop} {a0 : Act} {w0 : World} (use sl : List (List Nat)) (live : List Bool) (st : Nat) (B : Nat) (J : World → Prop) (Φ : Nat → (Nat → Value) → Nat → Nat → World → Prop)
/-- What is known of a state in the midst of the region. -/
structure EachAt (l : List Oper) (a0 : Act) (w0 : World) (live : List Bool) (st : Nat) (B : Nat) (J : World → Prop) (Φ : Nat → (Nat → Value) → Nat → Nat → World → Prop) (listed : Array Bool) (lo hi : Nat → Nat) (a : Act) (w : World) : Prop where
  size : listed.size = l.length
  shut : Shut l.toArray listed
  tmps : a.tmps.size = a0.tmps.size
  defs : a.defers = a0.defers
  old : ∀ s, (∀ o ∈ l, o.dst ≠ some s) → slotF a s = slotF a0 s
  low : Below B w0 w
  grow : w0.heap.size ≤ w.heap.size
  inv : listed.getD st false = false → J w
  seg : ∀ i, listed.getD i false = true → lo i ≤ hi i ∧ hi i ≤ w.heap.size ∧ w0.heap.size ≤ lo i
  apart : ∀ i j, listed.getD i false = true → listed.getD j false = true → i ≠ j → hi i ≤ lo j ∨ hi j ≤ lo i
  fact : ∀ i, listed.getD i false = true → (live.getD i false = true ∨ listed.getD st false = false) → Φ i (slotF a) (lo i) (hi i) w
theorem wpAny_each {listed : Array Bool} {a : Act} {w : World} {lo hi : Nat → Nat} (hB : eachB l use sl live st = true) (hBw : B ≤ w0.heap.size) (hJ : ∀ w w', J w → Below w.heap.size w w' → J w')
    (hstab : ∀ j f g x y w w', (∀ s ∈ sl.getD j [], g s = f s) → Below w.heap.size w w' → Φ j f x y w → Φ j g x y w')
    (hstep : ∀ i o, l[i]? = some o → i ≠ st → ∀ a w (lo hi : Nat → Nat), a.tmps.size = a0.tmps.size → (∀ s, (∀ o ∈ l, o.dst ≠ some s) → slotF a s = slotF a0 s) → Below B w0 w → w0.heap.size ≤ w.heap.size → (reach l.toArray l.length st i = true ∨ l.length ≤ st → J w) → (∀ k ∈ use.getD i [], Φ k (slotF a) (lo k) (hi k) w) →
      Oper.wp P o a w (fun a' w' => ∃ v, a' = a.put o.dst v ∧ Below w.heap.size w w' ∧ Φ i (slotF a') w.heap.size w'.heap.size w') Q)
    (hst : ∀ o, l[st]? = some o → ∀ a w (lo hi : Nat → Nat) (L : Nat → Prop), a.tmps.size = a0.tmps.size → (∀ s, (∀ o ∈ l, o.dst ≠ some s) → slotF a s = slotF a0 s) → Below B w0 w → w0.heap.size ≤ w.heap.size → J w → (∀ k ∈ use.getD st [], Φ k (slotF a) (lo k) (hi k) w) → (∀ k ∈ use.getD st [], L k) → (∀ i, L i → lo i ≤ hi i ∧ hi i ≤ w.heap.size ∧ w0.heap.size ≤ lo i) → (∀ i j, L i → L j → i ≠ j → hi i ≤ lo j ∨ hi j ≤ lo i) →
      Oper.wp P o a w (fun a' w' => ∃ v, a' = a.put o.dst v ∧ w.heap.size ≤ w'.heap.size ∧ Below B w0 w' ∧ Φ st (slotF a') w.heap.size w'.heap.size w' ∧ ∀ j, L j → j ≠ st → live.getD j false = true → (∀ s ∈ sl.getD j [], slotF a' s = slotF a s) → Φ j (slotF a) (lo j) (hi j) w → Φ j (slotF a') (lo j) (hi j) w') Q)
    (hend : ∀ (f : Nat → Value) (lo hi : Nat → Nat) w, Below B w0 w → (l.length ≤ st → J w) → (∀ i, i < l.length → (live.getD i false = true ∨ l.length ≤ st) → Φ i f (lo i) (hi i) w) → (∀ i j, i < l.length → j < l.length → i ≠ j → hi i ≤ lo j ∨ hi j ≤ lo i) → (∀ i, i < l.length → lo i ≤ hi i ∧ hi i ≤ w.heap.size ∧ w0.heap.size ≤ lo i) → Q .normal (putAll l f a0) w) :
    ∀ (fuel : Nat), (listed.toList.count false ≤ fuel) → EachAt l a0 w0 live st B J Φ listed lo hi a w → wpAny P .any l.toArray Q fuel listed a w := by
  intro fuel
  unfold eachB at hB
  simp only [Bool.and_eq_true, List.all_eq_true, List.mem_range, Bool.or_eq_true] at hB
  obtain ⟨hg, hB⟩ := hB
  have hdone : ∀ (listed : Array Bool) (a : Act) (w : World) (lo hi : Nat → Nat), EachAt l a0 w0 live st B J Φ listed lo hi a w → (∀ i, i < l.length → listed.getD i false = true) → Q .normal a w := by
    intro listed a w lo hi h hall
    have he : a = putAll l (slotF a) a0 := by
      have hz := putAll_size l (slotF a) a0
      refine act_eq (h.tmps.trans hz.1.symm) (h.defs.trans hz.2.symm) fun s hs => ?_
      rw [putAll_slot _ _ _ _ (by rw [← h.tmps]; exact hs)]
      split
      · rfl
      · rename_i hno
        exact h.old s fun o ho hd => hno ⟨o, ho, hd⟩
    rw [he]
    refine hend (slotF a) lo hi w h.low (fun hl => h.inv (getD_out (by rw [h.size]; exact hl))) (fun i hi' hl => h.fact i (hall i hi') ?_) (fun i j h1 h2 => h.apart i j (hall i h1) (hall j h2)) (fun i h1 => h.seg i (hall i h1))
    rcases hl with hl | hl
    · exact .inl hl
    · refine .inr ?_
      have : listed.size ≤ st := by rw [h.size]; exact hl
      simp [this]
  have hmem : ∀ (listed : Array Bool), listed.size = l.length → ∀ i, i < l.length → listed.getD i true = listed.getD i false := by
    intro listed hz i hi
    simp [show i < listed.size by omega]
  have hready : ∀ (listed : Array Bool), listed.size = l.length → Region.ready .any l.toArray listed = [] → ∀ i, i < l.length → listed.getD i false = true := by
    intro listed hz hr i
    induction i using Nat.strongRecOn with
    | ind i ih =>
      intro hi
      cases hc : listed.getD i false with
      | true => rfl
      | false =>
        have h1 : i ∈ Region.ready .any l.toArray listed := by
          refine mem_ready.2 ⟨by rw [hmem listed hz i hi]; exact hc, l[i], by simp [hi], fun e he hb => ?_⟩
          have h2 := (hB i hi).1.1
          rw [List.getElem?_eq_getElem hi] at h2
          simp only [Array.all_eq_true'] at h2
          have h3 := h2 e he
          rw [hb] at h3
          have h4 : e.on < i := by simpa using h3
          exact ih e.on h4 (by omega)
        rw [hr] at h1
        cases h1
  induction fuel generalizing listed a w lo hi with
  | zero =>
    intro hc h
    have hall : ∀ i, i < l.length → listed.getD i false = true := by
      intro i hi
      have h0 : listed.toList.count false = 0 := by omega
      have h1 := List.count_eq_zero.1 h0
      have hi' : i < listed.size := by rw [h.size]; exact hi
      cases hv : listed[i] with
      | true => simp [hi', hv]
      | false => exact absurd (by rw [← hv]; simp) h1
    refine ⟨?_, hdone listed a w lo hi h hall⟩
    rw [List.eq_nil_iff_forall_not_mem]
    intro i hi
    obtain ⟨h1, o, ho, -⟩ := mem_ready.1 hi
    have hlt : i < l.length := by
      have := (Array.getElem?_eq_some_iff.1 ho).1
      simpa using this
    rw [hmem listed h.size i hlt, hall i hlt] at h1
    cases h1
  | succ fuel ih =>
    intro hc h
    refine ⟨fun h0 => hdone listed a w lo hi h (hready listed h.size h0), fun i hi' => ?_⟩
    obtain ⟨hun, o, ho, hdeps⟩ := mem_ready.1 hi'
    have hlt : i < l.length := by
      have := (Array.getElem?_eq_some_iff.1 ho).1
      simpa using this
    have hlo : l[i]? = some o := by simpa using ho
    have hol : o ∈ l := List.mem_of_getElem? hlo
    have hun' : listed.getD i false = false := by rw [← hmem listed h.size i hlt]; exact hun
    have hwant : Region.wanted o (yielded l.toArray a.tmps) = true := by
      have := hg o hol
      unfold Region.wanted
      rw [Option.isNone_iff_eq_none.1 this]
    have hsl : i < listed.size := by rw [h.size]; exact hlt
    have hcnt : (listed.setIfInBounds i true).toList.count false ≤ fuel := by
      rw [Array.toList_setIfInBounds, List.count_set (by simpa using hsl)]
      have hv : listed.toList[i]'(by simpa using hsl) = false := by
        have : listed[i] = false := by simpa [hsl] using hun'
        simpa using this
      have h1 : 0 < listed.toList.count false := List.count_pos_iff.2 (by rw [← hv]; exact List.getElem_mem _)
      rw [hv]
      simp
      simp at hc h1
      omega
    have hst' : reach l.toArray l.length st i = true → listed.getD st false = false := by
      intro hr
      cases hs : listed.getD st false with
      | false => rfl
      | true =>
        cases hos : l.toArray[st]? with
        | none =>
          cases hn : l.length with
          | zero => omega
          | succ m => rw [hn] at hr; unfold reach at hr; rw [hos] at hr; cases hr
        | some os =>
          have := reach_listed h.shut l.length st i os hos (h.shut st os hos hs) hr
          rw [hun'] at this
          cases this
    have huse : ∀ k ∈ use.getD i [], listed.getD k false = true ∧ Φ k (slotF a) (lo k) (hi k) w := by
      intro k hk
      obtain ⟨h1, h2⟩ := (hB i hlt).1.2 k hk
      have h3 := reach_listed h.shut l.length i k o ho hdeps h1
      refine ⟨h3, h.fact k h3 ?_⟩
      rcases h2 with (h2 | h2) | h2
      · exact .inl h2
      · exact .inr (hst' h2)
      · rw [beq_iff_eq.1 h2] at hun'; exact .inr hun'
    have hsame : ∀ v j, j ≠ i → listed.getD j false = true → ∀ s ∈ sl.getD j [], slotF (a.put o.dst v) s = slotF a s := by
      intro v j hji hj s hs
      refine slot_put _ _ _ _ fun hd => ?_
      have hjl : j < l.length := by
        rw [← h.size]
        apply Classical.byContradiction
        intro hc'
        simp [hc'] at hj
      rcases (hB i hlt).2 j hjl with (h1 | h1) | h1
      · exact hji (beq_iff_eq.1 h1).symm
      · have hoj : l.toArray[j]? = some l[j] := by simp [hjl]
        have := reach_listed h.shut l.length j i l[j] hoj (h.shut j l[j] hoj hj) h1
        rw [hun'] at this
        cases this
      · rw [hlo] at h1
        simp only [Option.bind_some, hd] at h1
        simp at h1
        exact h1 hs
    have hshut : Shut l.toArray (listed.setIfInBounds i true) := by
      intro j oj hoj hj e he hb
      rw [listed_set hsl] at hj ⊢
      rcases hj with rfl | hj
      · rw [ho] at hoj
        cases hoj
        exact .inr (hdeps e he hb)
      · exact .inr (h.shut j oj hoj hj e he hb)
    have hend' : ∀ v w' (hs : w.heap.size ≤ w'.heap.size) (hlow : Below B w0 w') (hinv : (listed.setIfInBounds i true).getD st false = false → J w')
        (hf : ∀ j, j ≠ i → listed.getD j false = true → (live.getD j false = true ∨ (listed.setIfInBounds i true).getD st false = false) → Φ j (slotF (a.put o.dst v)) (lo j) (hi j) w')
        (hi0 : Φ i (slotF (a.put o.dst v)) w.heap.size w'.heap.size w'),
        wpAny P .any l.toArray Q fuel (listed.setIfInBounds i true) (a.put o.dst v) w' := by
      intro v w' hs hlow hinv hf hi0
      refine ih (lo := fun j => if j = i then w.heap.size else lo j) (hi := fun j => if j = i then w'.heap.size else hi j) hcnt ⟨by rw [Array.size_setIfInBounds]; exact h.size, hshut, (size_put _ _ _).trans h.tmps, (defers_put _ _ _).trans h.defs, fun s hs' => (slot_put _ _ _ _ (hs' o hol)).trans (h.old s hs'), hlow, Nat.le_trans h.grow hs, hinv, fun j hj => ?_, fun j k hj hk hjk => ?_, fun j hj hl => ?_⟩
      · by_cases hji : j = i
        · rw [if_pos hji, if_pos hji]
          exact ⟨hs, Nat.le_refl _, h.grow⟩
        · rw [if_neg hji, if_neg hji]
          rcases (listed_set hsl).1 hj with e | hj
          · exact absurd e.symm hji
          · have := h.seg j hj
            exact ⟨this.1, by omega, this.2.2⟩
      · by_cases hji : j = i
        · have hki : k ≠ i := fun e => hjk (hji.trans e.symm)
          rw [if_pos hji, if_pos hji, if_neg hki, if_neg hki]
          rcases (listed_set hsl).1 hk with e | hk
          · exact absurd e.symm hki
          · exact .inr (h.seg k hk).2.1
        · rw [if_neg hji, if_neg hji]
          have hj : listed.getD j false = true := by
            rcases (listed_set hsl).1 hj with e | hj
            · exact absurd e.symm hji
            · exact hj
          by_cases hki : k = i
          · rw [if_pos hki, if_pos hki]
            exact .inl (h.seg j hj).2.1
          · rw [if_neg hki, if_neg hki]
            rcases (listed_set hsl).1 hk with e | hk
            · exact absurd e.symm hki
            · exact h.apart j k hj hk hjk
      · by_cases hji : j = i
        · rw [if_pos hji, if_pos hji, hji]; exact hi0
        · rw [if_neg hji, if_neg hji]
          rcases (listed_set hsl).1 hj with e | hj
          · exact absurd e.symm hji
          · exact hf j hji hj hl
    have hnot : (listed.setIfInBounds i true).getD st false = false → listed.getD st false = false := by
      intro hl
      cases hs : listed.getD st false with
      | false => rfl
      | true => rw [(listed_set hsl).2 (.inr hs)] at hl; cases hl
    have hJi : reach l.toArray l.length st i = true ∨ l.length ≤ st → J w := by
      rintro (hr | hr)
      · exact h.inv (hst' hr)
      · refine h.inv ?_
        have : listed.size ≤ st := by rw [h.size]; exact hr
        simp [this]
    unfold wpOp
    simp only [ho, hwant, if_true]
    refine .inl ?_
    by_cases hie : i = st
    · subst hie
      refine Oper.wp_mono ?_ (hst o hlo a w lo hi (fun k => listed.getD k false = true) h.tmps h.old h.low h.grow (h.inv hun') (fun k hk => (huse k hk).2) (fun k hk => (huse k hk).1) h.seg h.apart)
      rintro a' w' ⟨v, rfl, hs, hlow, hi0, hkeep⟩
      refine hend' v w' hs hlow (fun hc' => by rw [(listed_set hsl).2 (.inl rfl)] at hc'; cases hc') (fun j hji hj hl => ?_) hi0
      rcases hl with hl | hl
      · exact hkeep j hj hji hl (hsame v j hji hj) (h.fact j hj (.inl hl))
      · have : (listed.setIfInBounds i true).getD i false = true := (listed_set hsl).2 (.inl rfl)
        rw [this] at hl
        cases hl
    · refine Oper.wp_mono ?_ (hstep i o hlo hie a w lo hi h.tmps h.old h.low h.grow (fun hr => hJi hr) fun k hk => (huse k hk).2)
      rintro a' w' ⟨v, rfl, hb, hi0⟩
      refine hend' v w' hb.size (h.low.trans (hb.mono (Nat.le_trans hBw h.grow))) (fun hc' => hJ _ _ (h.inv (hnot hc')) hb) (fun j hji hj hl => ?_) hi0
      have hl' : live.getD j false = true ∨ listed.getD st false = false := by
        rcases hl with hl | hl
        · exact .inl hl
        · refine .inr ?_
          cases hs : listed.getD st false with
          | false => rfl
          | true => rw [(listed_set hsl).2 (.inr hs)] at hl; cases hl
      exact hstab j _ _ _ _ _ _ (hsame v j hji hj) hb (h.fact j hj hl')
/-- A drawn region, operation by operation. W: the world behind the draw. -/
theorem wp_region_each {id : Nat} {w : World} (hm : P.follows .mixedOrders = true) (W : World) (hW : w.drew = W) (hB : eachB l use sl live st = true) (hBw : B ≤ W.heap.size) (hJ0 : J W) (hJ : ∀ w w', J w → Below w.heap.size w w' → J w')
    (hstab : ∀ j f g x y w w', (∀ s ∈ sl.getD j [], g s = f s) → Below w.heap.size w w' → Φ j f x y w → Φ j g x y w')
    (hstep : ∀ i o, l[i]? = some o → i ≠ st → ∀ a w (lo hi : Nat → Nat), a.tmps.size = a0.tmps.size → (∀ s, (∀ o ∈ l, o.dst ≠ some s) → slotF a s = slotF a0 s) → Below B W w → W.heap.size ≤ w.heap.size → (reach l.toArray l.length st i = true ∨ l.length ≤ st → J w) → (∀ k ∈ use.getD i [], Φ k (slotF a) (lo k) (hi k) w) →
      Oper.wp P o a w (fun a' w' => ∃ v, a' = a.put o.dst v ∧ Below w.heap.size w w' ∧ Φ i (slotF a') w.heap.size w'.heap.size w') Q)
    (hst : ∀ o, l[st]? = some o → ∀ a w (lo hi : Nat → Nat) (L : Nat → Prop), a.tmps.size = a0.tmps.size → (∀ s, (∀ o ∈ l, o.dst ≠ some s) → slotF a s = slotF a0 s) → Below B W w → W.heap.size ≤ w.heap.size → J w → (∀ k ∈ use.getD st [], Φ k (slotF a) (lo k) (hi k) w) → (∀ k ∈ use.getD st [], L k) → (∀ i, L i → lo i ≤ hi i ∧ hi i ≤ w.heap.size ∧ W.heap.size ≤ lo i) → (∀ i j, L i → L j → i ≠ j → hi i ≤ lo j ∨ hi j ≤ lo i) →
      Oper.wp P o a w (fun a' w' => ∃ v, a' = a.put o.dst v ∧ w.heap.size ≤ w'.heap.size ∧ Below B W w' ∧ Φ st (slotF a') w.heap.size w'.heap.size w' ∧ ∀ j, L j → j ≠ st → live.getD j false = true → (∀ s ∈ sl.getD j [], slotF a' s = slotF a s) → Φ j (slotF a) (lo j) (hi j) w → Φ j (slotF a') (lo j) (hi j) w') Q)
    (hend : ∀ (f : Nat → Value) (lo hi : Nat → Nat) w, Below B W w → (l.length ≤ st → J w) → (∀ i, i < l.length → (live.getD i false = true ∨ l.length ≤ st) → Φ i f (lo i) (hi i) w) → (∀ i j, i < l.length → j < l.length → i ≠ j → hi i ≤ lo j ∨ hi j ≤ lo i) → (∀ i, i < l.length → lo i ≤ hi i ∧ hi i ≤ w.heap.size ∧ W.heap.size ≤ lo i) → Q .normal (putAll l f a0) w) :
    (Code.region id l.toArray true).wp P Q a0 w := by
  subst hW
  have hno : ∀ i, (Array.replicate l.length false).getD i false = true → False := by
    intro i h
    by_cases hi : i < l.length
    · simp [hi] at h
    · simp [hi] at h
  refine wp_region_any hm (wpAny_each (w0 := w.drew) use sl live st B J Φ hB hBw hJ hstab hstep hst hend _ (by simp) (lo := fun _ => 0) (hi := fun _ => 0) ⟨by simp, fun j o hj h => ?_, rfl, rfl, fun s _ => rfl, Below.refl _ _, Nat.le_refl _, fun _ => hJ0, fun i h => ?_, fun i j h => ?_, fun i h => ?_⟩)
  all_goals
    simp only [List.size_toArray] at h
    exact (hno _ h).elim
end
/-! ### Operations over a function of slots -/
def evF (f : Nat → Value) : Operand → Value
  | .tmp t => f t
  | .const v => v
  | .global g => .pointer (some ⟨g, 0, none⟩)
  | .func k => .func (.func k) #[] #[]
theorem evF_eval (a : Act) : a.eval = evF (slotF a) := by
  funext o
  cases o <;> rfl
def upF (f : Nat → Value) (d : Option Tmp) (v : Value) : Nat → Value := match d with | some d => fun s => if s = d then v else f s | none => f
theorem upF_put (a : Act) (d : Option Tmp) (v : Value) (h : ∀ x, d = some x → x < a.tmps.size) : slotF (a.put d v) = upF (slotF a) d v := by
  funext s
  cases d with
  | none => rfl
  | some d =>
    show _ = if s = d then v else slotF a s
    by_cases hs : s = d
    · rw [if_pos hs, hs]; exact slot_same _ _ _ (h d rfl)
    · rw [if_neg hs]; exact slot_put _ _ _ _ (fun e => hs (Option.some.inj e).symm)
/-- What an operation gives. -/
def gives (P : Program) (R : Value → World → Prop) : Result Next → Prop
  | .ok (.value v) w' => R v w'
  | .ok .skip w' => R undef w'
  | .ok (.enter fn args) w' => Calls P fn args w' fun e w'' => ∃ v, e = .returned v ∧ R v w''
  | _ => False
theorem wp_of_gives {P : Program} {o : Oper} {a : Act} {w : World} {R : Value → World → Prop} {Q : Exit → Act → World → Prop} (h : gives P R ((execOp (evF (slotF a)) o).run P w)) :
    Oper.wp P o a w (fun a' w' => ∃ v, a' = a.put o.dst v ∧ R v w') Q := by
  unfold Oper.wp
  rw [evF_eval]
  generalize (execOp (evF (slotF a)) o).run P w = r at *
  cases r with
  | ok n w' =>
    cases n <;> simp only [gives] at h <;> simp only [Oper.upon]
    case value v => exact ⟨v, rfl, h⟩
    case skip => exact ⟨undef, rfl, h⟩
    case enter fn args => exact h.mono fun e w'' ⟨v, he, hr⟩ => by subst he; exact ⟨v, rfl, hr⟩
  | halt x w' => simp only [gives] at h
theorem gives_mono {P : Program} {R R' : Value → World → Prop} (hR : ∀ v w, R v w → R' v w) : ∀ {r : Result Next}, gives P R r → gives P R' r := by
  intro r h
  cases r with
  | ok n w' =>
    cases n <;> simp only [gives] at h ⊢
    case value v => exact hR _ _ h
    case skip => exact hR _ _ h
    case enter fn args => exact h.mono fun e w'' ⟨v, he, hr⟩ => ⟨v, he, hR _ _ hr⟩
  | halt x w' => simp only [gives] at h
theorem gives_K {P : Program} {R : Value → World → Prop} {r : Result Next} (h : ∀ K : Value → World → Prop, (∀ v w, R v w → K v w) → gives P K r) : gives P R r := h R fun _ _ h => h
theorem gives_value {P : Program} {K : Value → World → Prop} {v : Value} {w : World} (h : K v w) : gives P K (.ok (.value v) w) := h
theorem gives_skip {P : Program} {K : Value → World → Prop} {w : World} (h : K undef w) : gives P K (.ok .skip w) := h
theorem gives_enter {P : Program} {K : Value → World → Prop} {fn : FuncId} {args : Array Value} {w : World} (h : Calls P fn args w fun e w'' => ∃ v, e = .returned v ∧ K v w'') : gives P K (.ok (.enter fn args) w) := h
/-- The operands of the region's operations. -/
theorem evF_all (f : Nat → Value) : (∀ t, evF f (.tmp t) = f t) ∧ (∀ v, evF f (.const v) = v) ∧ (∀ k, evF f (.func k) = .func (.func k) #[] #[]) := ⟨fun _ => rfl, fun _ => rfl, fun _ => rfl⟩
section
variable {P : Program} {l : List Oper} {Q : Exit → Act → World → Prop} {a0 : Act} (use sl : List (List Nat)) (live : List Bool) (st : Nat) (B : Nat) (J : World → Prop) (Φ : Nat → (Nat → Value) → Nat → Nat → World → Prop)
/-- A drawn region, operation by operation, over a function of slots. -/
theorem wp_region_slots {id : Nat} {w : World} (hm : P.follows .mixedOrders = true) (W : World) (hW : w.drew = W) (hB : eachB l use sl live st = true) (hD : (l.all fun o => match o.dst with | some d => decide (d < a0.tmps.size) | none => true) = true) (hBw : B ≤ W.heap.size) (hJ0 : J W) (hJ : ∀ w w', J w → Below w.heap.size w w' → J w')
    (hstab : ∀ j f g x y w w', (∀ s ∈ sl.getD j [], g s = f s) → Below w.heap.size w w' → Φ j f x y w → Φ j g x y w')
    (hstep : ∀ i o, l[i]? = some o → i ≠ st → ∀ (f : Nat → Value) w (lo hi : Nat → Nat), (∀ s, (l.all fun o => o.dst != some s) = true → f s = slotF a0 s) → Below B W w → W.heap.size ≤ w.heap.size → (reach l.toArray l.length st i = true ∨ l.length ≤ st → J w) → (∀ k ∈ use.getD i [], Φ k f (lo k) (hi k) w) →
      gives P (fun v w' => Below w.heap.size w w' ∧ Φ i (upF f o.dst v) w.heap.size w'.heap.size w') ((execOp (evF f) o).run P w))
    (hst : ∀ o, l[st]? = some o → ∀ (f : Nat → Value) w (lo hi : Nat → Nat) (L : Nat → Prop), (∀ s, (l.all fun o => o.dst != some s) = true → f s = slotF a0 s) → Below B W w → W.heap.size ≤ w.heap.size → J w → (∀ k ∈ use.getD st [], Φ k f (lo k) (hi k) w) → (∀ k ∈ use.getD st [], L k) → (∀ i, L i → lo i ≤ hi i ∧ hi i ≤ w.heap.size ∧ W.heap.size ≤ lo i) → (∀ i j, L i → L j → i ≠ j → hi i ≤ lo j ∨ hi j ≤ lo i) →
      gives P (fun v w' => w.heap.size ≤ w'.heap.size ∧ Below B W w' ∧ Φ st (upF f o.dst v) w.heap.size w'.heap.size w' ∧ ∀ j, L j → j ≠ st → live.getD j false = true → (∀ s ∈ sl.getD j [], upF f o.dst v s = f s) → Φ j f (lo j) (hi j) w → Φ j (upF f o.dst v) (lo j) (hi j) w') ((execOp (evF f) o).run P w))
    (hend : ∀ (f : Nat → Value) (lo hi : Nat → Nat) w, Below B W w → (l.length ≤ st → J w) → (∀ i, i < l.length → (live.getD i false = true ∨ l.length ≤ st) → Φ i f (lo i) (hi i) w) → (∀ i j, i < l.length → j < l.length → i ≠ j → hi i ≤ lo j ∨ hi j ≤ lo i) → (∀ i, i < l.length → lo i ≤ hi i ∧ hi i ≤ w.heap.size ∧ W.heap.size ≤ lo i) → Q .normal (putAll l f a0) w) :
    (Code.region id l.toArray true).wp P Q a0 w := by
  rw [List.all_eq_true] at hD
  have hd : ∀ o ∈ l, ∀ (a : Act), a.tmps.size = a0.tmps.size → ∀ x, o.dst = some x → x < a.tmps.size := by
    intro o ho a ha x hx
    have := hD o ho
    rw [hx] at this
    rw [ha]
    exact of_decide_eq_true this
  have hold : ∀ a : Act, (∀ s, (∀ o ∈ l, o.dst ≠ some s) → slotF a s = slotF a0 s) → ∀ s, (l.all fun o => o.dst != some s) = true → slotF a s = slotF a0 s := by
    intro a h s hs
    rw [List.all_eq_true] at hs
    exact h s fun o ho => bne_iff_ne.1 (hs o ho)
  refine wp_region_each use sl live st B J Φ hm W hW hB hBw hJ0 hJ hstab ?_ ?_ hend
  · intro i o hi hne a w lo hi' hz ho hb hg hj hu
    refine Oper.wp_mono ?_ (wp_of_gives (Q := Q) (hstep i o hi hne (slotF a) w lo hi' (hold a ho) hb hg hj hu))
    rintro a' w' ⟨v, rfl, h2, h3⟩
    refine ⟨v, rfl, h2, ?_⟩
    rw [upF_put a o.dst v (hd o (List.mem_of_getElem? hi) a hz)]
    exact h3
  · intro o hi a w lo hi' L hz ho hb hg hj hu hl hseg hap
    refine Oper.wp_mono ?_ (wp_of_gives (Q := Q) (hst o hi (slotF a) w lo hi' L (hold a ho) hb hg hj hu hl hseg hap))
    rintro a' w' ⟨v, rfl, h2⟩
    refine ⟨v, rfl, ?_⟩
    rw [upF_put a o.dst v (hd o (List.mem_of_getElem? hi) a hz)]
    exact h2
end
end Go.Proofs.YtdlehlbahkikgaaDoor
/-
  A drawn region whose operations make memory, and some of which, late ones, write memory of the call's own: each operation is shown once, from the facts of those that it waits for; no orders are told apart.
-/
namespace Go.Proofs.YtdlehlbahkikgaaDoor
set_option maxRecDepth 100000
open Go.RowKit

/-- What a region's plan must meet: no guards; each fact is used where it stands. -/
def lateB (l : List Oper) (use sl : List (List Nat)) (live : List (List Nat)) (late : List Nat) : Bool :=
  let n := l.length
  let ops := l.toArray
  l.all (fun o => o.guard.isNone) &&
  (List.range n).all fun i =>
    (match l[i]? with | some o => o.after.all (fun e => !Region.binds .any e || decide (e.on < i)) | none => true) &&
    (use.getD i []).all (fun k => reach ops n i k && (late.all fun t => (live.getD k []).contains t || reach ops n t i || t == i || t == k || reach ops n k t)) &&
    (List.range n).all fun j => i == j || reach ops n j i || (match (l[i]?).bind (·.dst) with | some d => !(sl.getD j []).contains d | none => true)
section
variable {P : Program} {l : List Oper} {Q : Exit → Act → World → Prop} {a0 : Act} {w0 : World} (use sl : List (List Nat)) (live : List (List Nat)) (late brk : List Nat) (B : Nat) (J : World → Prop) (Φ : Nat → (Nat → Value) → World → Prop)
/-- What is known of a state in the midst of the region. -/
structure LateAt (l : List Oper) (a0 : Act) (w0 : World) (live : List (List Nat)) (late brk : List Nat) (B : Nat) (J : World → Prop) (Φ : Nat → (Nat → Value) → World → Prop) (listed : Array Bool) (a : Act) (w : World) : Prop where
  size : listed.size = l.length
  shut : Shut l.toArray listed
  tmps : a.tmps.size = a0.tmps.size
  defs : a.defers = a0.defers
  old : ∀ s, (∀ o ∈ l, o.dst ≠ some s) → slotF a s = slotF a0 s
  low : Below B w0 w
  grow : w0.heap.size ≤ w.heap.size
  inv : (∀ t ∈ brk, listed.getD t false = false) → J w
  fact : ∀ i, listed.getD i false = true → (∀ t ∈ late, listed.getD t false = true → (live.getD i []).contains t = true ∨ t = i ∨ reach l.toArray l.length i t = true) → Φ i (slotF a) w
theorem wpAny_late {listed : Array Bool} {a : Act} {w : World} (hB : lateB l use sl live late = true) (hBw : B ≤ w0.heap.size) (hJ : ∀ w w', J w → Below w.heap.size w w' → J w')
    (hstab : ∀ j f g w w', (∀ s ∈ sl.getD j [], g s = f s) → Below w.heap.size w w' → Φ j f w → Φ j g w')
    (hstep : ∀ i o, l[i]? = some o → i ∉ late → ∀ a w, a.tmps.size = a0.tmps.size → (∀ s, (∀ o ∈ l, o.dst ≠ some s) → slotF a s = slotF a0 s) → Below B w0 w → w0.heap.size ≤ w.heap.size → ((brk.all fun t => reach l.toArray l.length t i) = true → J w) → (∀ k ∈ use.getD i [], Φ k (slotF a) w) →
      Oper.wp P o a w (fun a' w' => ∃ v, a' = a.put o.dst v ∧ Below w.heap.size w w' ∧ Φ i (slotF a') w') Q)
    (hlate : ∀ i o, l[i]? = some o → i ∈ late → ∀ a w, a.tmps.size = a0.tmps.size → (∀ s, (∀ o ∈ l, o.dst ≠ some s) → slotF a s = slotF a0 s) → Below B w0 w → w0.heap.size ≤ w.heap.size → ((brk.all fun t => reach l.toArray l.length t i || t == i) = true → J w) → (∀ k ∈ use.getD i [], Φ k (slotF a) w) →
      Oper.wp P o a w (fun a' w' => ∃ v, a' = a.put o.dst v ∧ w.heap.size ≤ w'.heap.size ∧ Below B w0 w' ∧ Φ i (slotF a') w' ∧ (i ∉ brk → J w') ∧ ∀ j, j ≠ i → (live.getD j []).contains i = true → reach l.toArray l.length j i = false → (∀ s ∈ sl.getD j [], slotF a' s = slotF a s) → Φ j (slotF a) w → Φ j (slotF a') w') Q)
    (hend : ∀ (f : Nat → Value) w, Below B w0 w → (∀ i, i < l.length → (late.all fun t => (live.getD i []).contains t || t == i || reach l.toArray l.length i t) = true → Φ i f w) → Q .normal (putAll l f a0) w) :
    ∀ (fuel : Nat), (listed.toList.count false ≤ fuel) → LateAt l a0 w0 live late brk B J Φ listed a w → wpAny P .any l.toArray Q fuel listed a w := by
  intro fuel
  unfold lateB at hB
  simp only [Bool.and_eq_true, List.all_eq_true, List.mem_range, Bool.or_eq_true] at hB
  obtain ⟨hg, hB⟩ := hB
  have hdone : ∀ (listed : Array Bool) (a : Act) (w : World), LateAt l a0 w0 live late brk B J Φ listed a w → (∀ i, i < l.length → listed.getD i false = true) → Q .normal a w := by
    intro listed a w h hall
    have he : a = putAll l (slotF a) a0 := by
      have hz := putAll_size l (slotF a) a0
      refine act_eq (h.tmps.trans hz.1.symm) (h.defs.trans hz.2.symm) fun s hs => ?_
      rw [putAll_slot _ _ _ _ (by rw [← h.tmps]; exact hs)]
      split
      · rfl
      · rename_i hno
        exact h.old s fun o ho hd => hno ⟨o, ho, hd⟩
    rw [he]
    refine hend (slotF a) w h.low (fun i hi' hl => h.fact i (hall i hi') ?_)
    intro t ht _
    have := List.all_eq_true.1 hl t ht
    rw [Bool.or_eq_true, Bool.or_eq_true] at this
    rcases this with (h1 | h1) | h1
    · exact .inl h1
    · exact .inr (.inl (beq_iff_eq.1 h1))
    · exact .inr (.inr h1)
  have hmem : ∀ (listed : Array Bool), listed.size = l.length → ∀ i, i < l.length → listed.getD i true = listed.getD i false := by
    intro listed hz i hi
    simp [show i < listed.size by omega]
  have hready : ∀ (listed : Array Bool), listed.size = l.length → Region.ready .any l.toArray listed = [] → ∀ i, i < l.length → listed.getD i false = true := by
    intro listed hz hr i
    induction i using Nat.strongRecOn with
    | ind i ih =>
      intro hi
      cases hc : listed.getD i false with
      | true => rfl
      | false =>
        have h1 : i ∈ Region.ready .any l.toArray listed := by
          refine mem_ready.2 ⟨by rw [hmem listed hz i hi]; exact hc, l[i], by simp [hi], fun e he hb => ?_⟩
          have h2 := (hB i hi).1.1
          rw [List.getElem?_eq_getElem hi] at h2
          simp only [Array.all_eq_true'] at h2
          have h3 := h2 e he
          rw [hb] at h3
          have h4 : e.on < i := by simpa using h3
          exact ih e.on h4 (by omega)
        rw [hr] at h1
        cases h1
  induction fuel generalizing listed a w with
  | zero =>
    intro hc h
    have hall : ∀ i, i < l.length → listed.getD i false = true := by
      intro i hi
      have h0 : listed.toList.count false = 0 := by omega
      have h1 := List.count_eq_zero.1 h0
      have hi' : i < listed.size := by rw [h.size]; exact hi
      cases hv : listed[i] with
      | true => simp [hi', hv]
      | false => exact absurd (by rw [← hv]; simp) h1
    refine ⟨?_, hdone listed a w h hall⟩
    rw [List.eq_nil_iff_forall_not_mem]
    intro i hi
    obtain ⟨h1, o, ho, -⟩ := mem_ready.1 hi
    have hlt : i < l.length := by
      have := (Array.getElem?_eq_some_iff.1 ho).1
      simpa using this
    rw [hmem listed h.size i hlt, hall i hlt] at h1
    cases h1
  | succ fuel ih =>
    intro hc h
    refine ⟨fun h0 => hdone listed a w h (hready listed h.size h0), fun i hi' => ?_⟩
    obtain ⟨hun, o, ho, hdeps⟩ := mem_ready.1 hi'
    have hlt : i < l.length := by
      have := (Array.getElem?_eq_some_iff.1 ho).1
      simpa using this
    have hlo : l[i]? = some o := by simpa using ho
    have hol : o ∈ l := List.mem_of_getElem? hlo
    have hun' : listed.getD i false = false := by rw [← hmem listed h.size i hlt]; exact hun
    have hwant : Region.wanted o (yielded l.toArray a.tmps) = true := by
      have := hg o hol
      unfold Region.wanted
      rw [Option.isNone_iff_eq_none.1 this]
    have hsl : i < listed.size := by rw [h.size]; exact hlt
    have hcnt : (listed.setIfInBounds i true).toList.count false ≤ fuel := by
      rw [Array.toList_setIfInBounds, List.count_set (by simpa using hsl)]
      have hv : listed.toList[i]'(by simpa using hsl) = false := by
        have : listed[i] = false := by simpa [hsl] using hun'
        simpa using this
      have h1 : 0 < listed.toList.count false := List.count_pos_iff.2 (by rw [← hv]; exact List.getElem_mem _)
      rw [hv]
      simp
      simp at hc h1
      omega
    have hone : ∀ t, reach l.toArray l.length t i = true → listed.getD t false = false := by
      intro t hr
      cases hs : listed.getD t false with
      | false => rfl
      | true =>
        cases hos : l.toArray[t]? with
        | none =>
          cases hn : l.length with
          | zero => omega
          | succ m => rw [hn] at hr; unfold reach at hr; rw [hos] at hr; cases hr
        | some os =>
          have := reach_listed h.shut l.length t i os hos (h.shut t os hos hs) hr
          rw [hun'] at this
          cases this
    have hfirst : (∀ t ∈ brk, reach l.toArray l.length t i = true ∨ t = i) → ∀ t ∈ brk, listed.getD t false = false := by
      intro hr t ht
      rcases hr t ht with h1 | rfl
      · exact hone t h1
      · exact hun'
    have huse : ∀ k ∈ use.getD i [], listed.getD k false = true ∧ Φ k (slotF a) w := by
      intro k hk
      obtain ⟨h1, h2⟩ := (hB i hlt).1.2 k hk
      have h3 := reach_listed h.shut l.length i k o ho hdeps h1
      refine ⟨h3, h.fact k h3 ?_⟩
      intro t ht hlt2
      rcases h2 t ht with (((h4 | h4) | h4) | h4) | h4
      · exact .inl h4
      · rw [hone t h4] at hlt2; cases hlt2
      · rw [beq_iff_eq.1 h4, hun'] at hlt2; cases hlt2
      · exact .inr (.inl (beq_iff_eq.1 h4))
      · exact .inr (.inr h4)
    have hsame : ∀ v j, j ≠ i → listed.getD j false = true → ∀ s ∈ sl.getD j [], slotF (a.put o.dst v) s = slotF a s := by
      intro v j hji hj s hs
      refine slot_put _ _ _ _ fun hd => ?_
      have hjl : j < l.length := by
        rw [← h.size]
        apply Classical.byContradiction
        intro hc'
        simp [hc'] at hj
      rcases (hB i hlt).2 j hjl with (h1 | h1) | h1
      · exact hji (beq_iff_eq.1 h1).symm
      · have hoj : l.toArray[j]? = some l[j] := by simp [hjl]
        have := reach_listed h.shut l.length j i l[j] hoj (h.shut j l[j] hoj hj) h1
        rw [hun'] at this
        cases this
      · rw [hlo] at h1
        simp only [Option.bind_some, hd] at h1
        simp at h1
        exact h1 hs
    have hshut : Shut l.toArray (listed.setIfInBounds i true) := by
      intro j oj hoj hj e he hb
      rw [listed_set hsl] at hj ⊢
      rcases hj with rfl | hj
      · rw [ho] at hoj
        cases hoj
        exact .inr (hdeps e he hb)
      · exact .inr (h.shut j oj hoj hj e he hb)
    have hnot : ∀ t, (listed.setIfInBounds i true).getD t false = false → listed.getD t false = false := by
      intro t hl
      cases hs : listed.getD t false with
      | false => rfl
      | true => rw [(listed_set hsl).2 (.inr hs)] at hl; cases hl
    have hend' : ∀ v w' (hs : w.heap.size ≤ w'.heap.size) (hlow : Below B w0 w') (hinv : (∀ t ∈ brk, (listed.setIfInBounds i true).getD t false = false) → J w')
        (hf : ∀ j, j ≠ i → listed.getD j false = true → (∀ t ∈ late, (listed.setIfInBounds i true).getD t false = true → (live.getD j []).contains t = true ∨ t = j ∨ reach l.toArray l.length j t = true) → Φ j (slotF (a.put o.dst v)) w')
        (hi0 : Φ i (slotF (a.put o.dst v)) w'),
        wpAny P .any l.toArray Q fuel (listed.setIfInBounds i true) (a.put o.dst v) w' := by
      intro v w' hs hlow hinv hf hi0
      refine ih hcnt ⟨by rw [Array.size_setIfInBounds]; exact h.size, hshut, (size_put _ _ _).trans h.tmps, (defers_put _ _ _).trans h.defs, fun s hs' => (slot_put _ _ _ _ (hs' o hol)).trans (h.old s hs'), hlow, Nat.le_trans h.grow hs, hinv, fun j hj hl => ?_⟩
      by_cases hji : j = i
      · rw [hji]; exact hi0
      · rcases (listed_set hsl).1 hj with e | hj
        · exact absurd e.symm hji
        · exact hf j hji hj hl
    have hrf : ∀ j, listed.getD j false = true → reach l.toArray l.length j i = false := by
      intro j hj
      cases hr : reach l.toArray l.length j i with
      | false => rfl
      | true => rw [hone j hr] at hj; cases hj
    unfold wpOp
    simp only [ho, hwant, if_true]
    refine .inl ?_
    by_cases hie : i ∈ late
    · refine Oper.wp_mono ?_ (hlate i o hlo hie a w h.tmps h.old h.low h.grow (fun hr => h.inv (hfirst fun t ht => by
        have := List.all_eq_true.1 hr t ht
        rw [Bool.or_eq_true] at this
        exact this.imp id fun e => beq_iff_eq.1 e)) (fun k hk => (huse k hk).2))
      rintro a' w' ⟨v, rfl, hs, hlow, hi0, hjk, hkeep⟩
      refine hend' v w' hs hlow (fun hc' => hjk fun hib => ?_) (fun j hji hj hl => ?_) hi0
      · have := hc' i hib
        rw [(listed_set hsl).2 (.inl rfl)] at this
        cases this
      · rcases hl i hie ((listed_set hsl).2 (.inl rfl)) with e | e | e
        · exact hkeep j hji e (hrf j hj) (hsame v j hji hj) (h.fact j hj fun t ht hlt2 => hl t ht ((listed_set hsl).2 (.inr hlt2)))
        · exact absurd e.symm hji
        · rw [hrf j hj] at e; cases e
    · refine Oper.wp_mono ?_ (hstep i o hlo hie a w h.tmps h.old h.low h.grow (fun hr => h.inv (hfirst fun t ht => .inl (List.all_eq_true.1 hr t ht))) fun k hk => (huse k hk).2)
      rintro a' w' ⟨v, rfl, hb, hi0⟩
      refine hend' v w' hb.size (h.low.trans (hb.mono (Nat.le_trans hBw h.grow))) (fun hc' => hJ _ _ (h.inv fun t ht => hnot t (hc' t ht)) hb) (fun j hji hj hl => ?_) hi0
      exact hstab j _ _ _ _ (hsame v j hji hj) hb (h.fact j hj fun t ht hlt2 => hl t ht ((listed_set hsl).2 (.inr hlt2)))
/-- A drawn region with late operations, over a function of slots. W: the world behind the draw. -/
theorem wp_region_late {id : Nat} {w : World} (hm : P.follows .mixedOrders = true) (W : World) (hW : w.drew = W) (hB : lateB l use sl live late = true) (hD : (l.all fun o => match o.dst with | some d => decide (d < a0.tmps.size) | none => true) = true) (hBw : B ≤ W.heap.size) (hJ0 : J W) (hJ : ∀ w w', J w → Below w.heap.size w w' → J w')
    (hstab : ∀ j f g w w', (∀ s ∈ sl.getD j [], g s = f s) → Below w.heap.size w w' → Φ j f w → Φ j g w')
    (hstep : ∀ i o, l[i]? = some o → i ∉ late → ∀ (f : Nat → Value) w, (∀ s, (l.all fun o => o.dst != some s) = true → f s = slotF a0 s) → Below B W w → W.heap.size ≤ w.heap.size → ((brk.all fun t => reach l.toArray l.length t i) = true → J w) → (∀ k ∈ use.getD i [], Φ k f w) →
      gives P (fun v w' => Below w.heap.size w w' ∧ Φ i (upF f o.dst v) w') ((execOp (evF f) o).run P w))
    (hlate : ∀ i o, l[i]? = some o → i ∈ late → ∀ (f : Nat → Value) w, (∀ s, (l.all fun o => o.dst != some s) = true → f s = slotF a0 s) → Below B W w → W.heap.size ≤ w.heap.size → ((brk.all fun t => reach l.toArray l.length t i || t == i) = true → J w) → (∀ k ∈ use.getD i [], Φ k f w) →
      gives P (fun v w' => w.heap.size ≤ w'.heap.size ∧ Below B W w' ∧ Φ i (upF f o.dst v) w' ∧ (i ∉ brk → J w') ∧ ∀ j, j ≠ i → (live.getD j []).contains i = true → reach l.toArray l.length j i = false → (∀ s ∈ sl.getD j [], upF f o.dst v s = f s) → Φ j f w → Φ j (upF f o.dst v) w') ((execOp (evF f) o).run P w))
    (hend : ∀ (f : Nat → Value) w, Below B W w → (∀ i, i < l.length → (late.all fun t => (live.getD i []).contains t || t == i || reach l.toArray l.length i t) = true → Φ i f w) → Q .normal (putAll l f a0) w) :
    (Code.region id l.toArray true).wp P Q a0 w := by
  subst hW
  rw [List.all_eq_true] at hD
  have hd : ∀ o ∈ l, ∀ (a : Act), a.tmps.size = a0.tmps.size → ∀ x, o.dst = some x → x < a.tmps.size := by
    intro o ho a ha x hx
    have := hD o ho
    rw [hx] at this
    rw [ha]
    exact of_decide_eq_true this
  have hold : ∀ a : Act, (∀ s, (∀ o ∈ l, o.dst ≠ some s) → slotF a s = slotF a0 s) → ∀ s, (l.all fun o => o.dst != some s) = true → slotF a s = slotF a0 s := by
    intro a h s hs
    rw [List.all_eq_true] at hs
    exact h s fun o ho => bne_iff_ne.1 (hs o ho)
  have hno : ∀ i, (Array.replicate l.length false).getD i false = true → False := by
    intro i h
    by_cases hi : i < l.length
    · simp [hi] at h
    · simp [hi] at h
  refine wp_region_any hm (wpAny_late (w0 := w.drew) use sl live late brk B J Φ hB hBw hJ hstab ?_ ?_ hend _ (by simp) ⟨by simp, fun j o hj h => ?_, rfl, rfl, fun s _ => rfl, Below.refl _ _, Nat.le_refl _, fun _ => hJ0, fun i h => ?_⟩)
  · intro i o hi hne a w hz ho hb hg hj hu
    refine Oper.wp_mono ?_ (wp_of_gives (Q := Q) (hstep i o hi hne (slotF a) w (hold a ho) hb hg hj hu))
    rintro a' w' ⟨v, rfl, h2, h3⟩
    refine ⟨v, rfl, h2, ?_⟩
    rw [upF_put a o.dst v (hd o (List.mem_of_getElem? hi) a hz)]
    exact h3
  · intro i o hi hin a w hz ho hb hg hj hu
    refine Oper.wp_mono ?_ (wp_of_gives (Q := Q) (hlate i o hi hin (slotF a) w (hold a ho) hb hg hj hu))
    rintro a' w' ⟨v, rfl, h2⟩
    refine ⟨v, rfl, ?_⟩
    rw [upF_put a o.dst v (hd o (List.mem_of_getElem? hi) a hz)]
    exact h2
  all_goals
    simp only [List.size_toArray] at h
    exact (hno _ h).elim
end
/-- Append of another's slice, nil or not, to a row of the call's own. -/
theorem gives_append_any {P : Program} {R : Value → World → Prop} {f : Nat → Value} {o : Oper} {w : World} (s x : Operand) (t e : TypeId)
    (ho : o.op = .call { callee := .builtin .append, args := #[s, x], argTypes := #[t, t] })
    (base : Nat) (i0 : TypeInfo) (z : Value) (size bytes : Nat) (ht : P.underlying t = some (.slice e)) (hi : P.info? e = some i0) (hz0 : i0.zero = some z) (hz1 : i0.size = size) (hz2 : i0.bytes = bytes) (hzs : z.cells.size = size) (hsz : 0 < size) (v : Value) (n : Nat) (xs : List Value) (hs : evF f s = v) (hown : w.ownsRow base e size v n xs)
    (px : Option Addr) (m cx : Nat) (ys : List Value) (hx : evF f x = .slice px m cx) (hl : ys.length = m * size) (hsrc : ∀ ad, px = some ad → ∀ j u, ys[j]? = some u → w.cell? (ad.add j) = some u) (hnil : px = none → ys = []) (h1 : ∀ u ∈ ys, u.oneCell' = true) (h63 : n + m ≤ maxLen) (hsum : (n + m) * bytes ≤ 140737488355328) (hbase : base ≤ w.heap.size)
    (h : ∀ v' w', w'.ownsRow base e size v' (n + m) (xs ++ ys) → w.grownBy w' v.ownBlock → R v' w') : gives P R ((execOp (evF f) o).run P w) := by
  cases px with
  | none =>
    obtain rfl := hnil rfl
    obtain rfl : m = 0 := by
      rw [List.length_nil] at hl
      rcases Nat.mul_eq_zero.1 hl.symm with h0 | h0
      · exact h0
      · omega
    have hrun := run_append_nil7 (P := P) (w := w) base t o.type e i0 size ht hi v n cx xs hown
    unfold execOp
    simp only [ho, resolve, invoke, builtin, Sem.run_bind, Sem.run_pure, Result.andThen_ok, List.map_toArray, List.map_cons, List.map_nil, hs, hx, hrun]
    exact h v w (by simpa using hown) (World.grownBy.refl w _)
  | some ad =>
    obtain ⟨v', w', hr, h2, h3, -⟩ := run_append_own (P := P) w base t o.type e i0 z size bytes ht hi hz0 hz1 hz2 hzs hsz v n xs hown ad m cx ys hl (hsrc ad rfl) h1 h63 hsum hbase
    unfold execOp
    simp only [ho, resolve, invoke, builtin, Sem.run_bind, Sem.run_pure, Result.andThen_ok, List.map_toArray, List.map_cons, List.map_nil, hs, hx, hr]
    exact h v' w' h2 h3
end Go.Proofs.YtdlehlbahkikgaaDoor
/-
  exprFilled and exprSpare of package syntax.
-/
namespace Go.Proofs.YtdlehlbahkikgaaDoor
set_option maxRecDepth 100000
open Go.RowKit
variable {ls : List Nat}

structure SevenAt (u : World) (k : Nat) (b0 b1 b2 b3 b4 b5 b6 : Bool) : Prop where
  lt : k < u.heap.size
  cl : ∀ i, i < 7 → u.cell? ⟨k, i, none⟩ = some (.bool (f7 b0 b1 b2 b3 b4 b5 b6 i))
theorem SevenAt.low {u v : World} {k : Nat} {b0 b1 b2 b3 b4 b5 b6 : Bool} (h : SevenAt u k b0 b1 b2 b3 b4 b5 b6) (hb : Below u.heap.size u v) : SevenAt v k b0 b1 b2 b3 b4 b5 b6 :=
  ⟨Nat.lt_of_lt_of_le h.lt hb.size, fun i hi => by rw [hb.cell (by exact h.lt)]; exact h.cl i hi⟩
theorem seven_new (u : World) (b0 b1 b2 b3 b4 b5 b6 : Bool) (t : TypeId) : SevenAt (u.alloc (.cells #[.bool b0, .bool b1, .bool b2, .bool b3, .bool b4, .bool b5, .bool b6] t)) u.heap.size b0 b1 b2 b3 b4 b5 b6 := by
  refine ⟨by simp, fun i hi => ?_⟩
  have h7 : i = 0 ∨ i = 1 ∨ i = 2 ∨ i = 3 ∨ i = 4 ∨ i = 5 ∨ i = 6 := by omega
  rcases h7 with rfl | rfl | rfl | rfl | rfl | rfl | rfl
  all_goals (go_simp; rfl)
theorem set7_any (u : World) (k : Nat) (b0 b1 b2 b3 b4 b5 b6 : Bool) (h : SevenAt u k b0 b1 b2 b3 b4 b5 b6) : Calls Tryd.prog 60 #[.slice (some ⟨k, 0, none⟩) 7 7] u fun e w' => e = .returned (.int .i64 (bits7 b0 b1 b2 b3 b4 b5 b6)) ∧ u = w' :=
  set_any _ 7 7 _ _ (by decide) fun i hi => ⟨k, 0, rfl, h.lt, by rw [Nat.zero_add]; exact h.cl i hi⟩
set_option maxHeartbeats 2000000 in
theorem filled_c (k op vk vi : Int) (no : Bool) (vt tb nm : ByteArray) (p q : Option Addr) (n c n' c' : Nat) (w : World) :
    Calls Tryd.prog 49 #[.agg #[.int .i64 k, .int .i64 op, .bool no, .int .i64 vk, .int .i64 vi, .string vt, .string tb, .string nm, .slice p n c, .slice q n' c']] w fun e w' => e = .returned (.int .i64 (bits7 (op != 0) no (!sameV vk vi vt 0 0 ⟨#[]⟩) (!tb.toList.isEmpty) (!nm.toList.isEmpty) (decide (0 < n)) (decide (0 < n')))) ∧ Below w.heap.size w w' := by
  have hb0 := below_alloc w (.cells #[.int .i64 k, .int .i64 op, .bool no, .int .i64 vk, .int .i64 vi, .string vt, .string tb, .string nm, .slice p n c, .slice q n' c'] 30)
  have hl : w.heap.size < (w.alloc (.cells #[.int .i64 k, .int .i64 op, .bool no, .int .i64 vk, .int .i64 vi, .string vt, .string tb, .string nm, .slice p n c, .slice q n' c'] 30)).heap.size := by simp
  have HB0 := Lib.hid hb0
  clear hb0
  go_enter Tryd.func49, Tryd.ntmps49
  go_upto_region 1 with (fail)
  have x1 : (w.alloc (.cells #[.int .i64 k, .int .i64 op, .bool no, .int .i64 vk, .int .i64 vi, .string vt, .string tb, .string nm, .slice p n c, .slice q n' c'] 30)).cell? ⟨w.heap.size, 1, none⟩ = some (.int .i64 op) := by go_simp
  have x2 : (w.alloc (.cells #[.int .i64 k, .int .i64 op, .bool no, .int .i64 vk, .int .i64 vi, .string vt, .string tb, .string nm, .slice p n c, .slice q n' c'] 30)).cell? ⟨w.heap.size, 2, none⟩ = some (.bool no) := by go_simp
  have x3 : (w.alloc (.cells #[.int .i64 k, .int .i64 op, .bool no, .int .i64 vk, .int .i64 vi, .string vt, .string tb, .string nm, .slice p n c, .slice q n' c'] 30)).cell? ⟨w.heap.size, 3, none⟩ = some (.int .i64 vk) := by go_simp
  have x4 : (w.alloc (.cells #[.int .i64 k, .int .i64 op, .bool no, .int .i64 vk, .int .i64 vi, .string vt, .string tb, .string nm, .slice p n c, .slice q n' c'] 30)).cell? ⟨w.heap.size, 4, none⟩ = some (.int .i64 vi) := by go_simp
  have x5 : (w.alloc (.cells #[.int .i64 k, .int .i64 op, .bool no, .int .i64 vk, .int .i64 vi, .string vt, .string tb, .string nm, .slice p n c, .slice q n' c'] 30)).cell? ⟨w.heap.size, 5, none⟩ = some (.string vt) := by go_simp
  have x6 : (w.alloc (.cells #[.int .i64 k, .int .i64 op, .bool no, .int .i64 vk, .int .i64 vi, .string vt, .string tb, .string nm, .slice p n c, .slice q n' c'] 30)).cell? ⟨w.heap.size, 6, none⟩ = some (.string tb) := by go_simp
  have x7 : (w.alloc (.cells #[.int .i64 k, .int .i64 op, .bool no, .int .i64 vk, .int .i64 vi, .string vt, .string tb, .string nm, .slice p n c, .slice q n' c'] 30)).cell? ⟨w.heap.size, 7, none⟩ = some (.string nm) := by go_simp
  have x8 : (w.alloc (.cells #[.int .i64 k, .int .i64 op, .bool no, .int .i64 vk, .int .i64 vi, .string vt, .string tb, .string nm, .slice p n c, .slice q n' c'] 30)).cell? ⟨w.heap.size, 8, none⟩ = some (.slice p n c) := by go_simp
  have x9 : (w.alloc (.cells #[.int .i64 k, .int .i64 op, .bool no, .int .i64 vk, .int .i64 vi, .string vt, .string tb, .string nm, .slice p n c, .slice q n' c'] 30)).cell? ⟨w.heap.size, 9, none⟩ = some (.slice q n' c') := by go_simp
  generalize w.alloc _ = W at *
--BLK
  have L1 : Hid (∀ u, Below W.heap.size W u → u.cell? ⟨w.heap.size, 1, none⟩ = some (.int .i64 op)) := Lib.hid fun u hb => by rw [hb.cell (by exact hl)]; exact x1
  have L2 : Hid (∀ u, Below W.heap.size W u → u.cell? ⟨w.heap.size, 2, none⟩ = some (.bool no)) := Lib.hid fun u hb => by rw [hb.cell (by exact hl)]; exact x2
  have L3 : Hid (∀ u, Below W.heap.size W u → u.cell? ⟨w.heap.size, 3, none⟩ = some (.int .i64 vk)) := Lib.hid fun u hb => by rw [hb.cell (by exact hl)]; exact x3
  have L4 : Hid (∀ u, Below W.heap.size W u → u.cell? ⟨w.heap.size, 4, none⟩ = some (.int .i64 vi)) := Lib.hid fun u hb => by rw [hb.cell (by exact hl)]; exact x4
  have L5 : Hid (∀ u, Below W.heap.size W u → u.cell? ⟨w.heap.size, 5, none⟩ = some (.string vt)) := Lib.hid fun u hb => by rw [hb.cell (by exact hl)]; exact x5
  have L6 : Hid (∀ u, Below W.heap.size W u → u.cell? ⟨w.heap.size, 6, none⟩ = some (.string tb)) := Lib.hid fun u hb => by rw [hb.cell (by exact hl)]; exact x6
  have L7 : Hid (∀ u, Below W.heap.size W u → u.cell? ⟨w.heap.size, 7, none⟩ = some (.string nm)) := Lib.hid fun u hb => by rw [hb.cell (by exact hl)]; exact x7
  have L8 : Hid (∀ u, Below W.heap.size W u → u.cell? ⟨w.heap.size, 8, none⟩ = some (.slice p n c)) := Lib.hid fun u hb => by rw [hb.cell (by exact hl)]; exact x8
  have L9 : Hid (∀ u, Below W.heap.size W u → u.cell? ⟨w.heap.size, 9, none⟩ = some (.slice q n' c')) := Lib.hid fun u hb => by rw [hb.cell (by exact hl)]; exact x9
  clear x1 x2 x3 x4 x5 x6 x7 x8 x9 hl
  refine wp_region_late (use := [[], [0], [1], [], [3], [], [5], [], [6, 7], [], [9], [10], [], [12], [13], [], [15], [16], [17], [], [19], [20], [21], [2, 4, 8, 11, 14, 18, 22], [23], [24]]) (sl := [[3], [4], [5], [6], [7], [8], [9], [10], [11], [12], [13], [14], [15], [16], [17], [18], [19], [20], [21], [22], [23], [24], [25], [26], [27], [2]]) (live := [[], [], [], [], [], [], [], [], [], [], [], [], [], [], [], [], [], [], [], [], [], [], [], [], [], []]) (late := []) (brk := []) (B := W.heap.size) (J := fun u => Below W.heap.size W u) (Φ := fun ix f u => match ix with | 0 => f 3 = .pointer (some ⟨w.heap.size, 1, none⟩) | 1 => f 4 = .int .i64 op | 2 => f 5 = .bool (op != 0) | 3 => f 6 = .pointer (some ⟨w.heap.size, 2, none⟩) | 4 => f 7 = .bool no | 5 => f 8 = .pointer (some ⟨w.heap.size, 3, none⟩) | 6 => f 9 = .agg #[.int .i64 vk, .int .i64 vi, .string vt] | 7 => f 10 = .agg #[.int .i64 0, .int .i64 0, .string ⟨#[]⟩] | 8 => f 11 = .bool (!sameV vk vi vt 0 0 ⟨#[]⟩) | 9 => f 12 = .pointer (some ⟨w.heap.size, 6, none⟩) | 10 => f 13 = .string tb | 11 => f 14 = .bool (!tb.toList.isEmpty) | 12 => f 15 = .pointer (some ⟨w.heap.size, 7, none⟩) | 13 => f 16 = .string nm | 14 => f 17 = .bool (!nm.toList.isEmpty) | 15 => f 18 = .pointer (some ⟨w.heap.size, 8, none⟩) | 16 => f 19 = .slice p n c | 17 => f 20 = .int .i64 n | 18 => f 21 = .bool (decide (0 < n)) | 19 => f 22 = .pointer (some ⟨w.heap.size, 9, none⟩) | 20 => f 23 = .slice q n' c' | 21 => f 24 = .int .i64 n' | 22 => f 25 = .bool (decide (0 < n')) | 23 => ∃ k, f 26 = .slice (some ⟨k, 0, none⟩) 7 7 ∧ SevenAt u k (op != 0) no (!sameV vk vi vt 0 0 ⟨#[]⟩) (!tb.toList.isEmpty) (!nm.toList.isEmpty) (decide (0 < n)) (decide (0 < n')) | 24 => f 27 = .int .i64 (bits7 (op != 0) no (!sameV vk vi vt 0 0 ⟨#[]⟩) (!tb.toList.isEmpty) (!nm.toList.isEmpty) (decide (0 < n)) (decide (0 < n'))) | 25 => f 2 = .int .i64 (bits7 (op != 0) no (!sameV vk vi vt 0 0 ⟨#[]⟩) (!tb.toList.isEmpty) (!nm.toList.isEmpty) (decide (0 < n)) (decide (0 < n'))) | _ => True) (by kernel_rfl) _ rfl (by kernel_rfl) (by kernel_rfl) (Nat.le_refl _) ((Below.refl W.heap.size W).drew) (fun u v h hb => below_next h hb) ?_ ?_ ?_ ?_
  · intro jx f g u u2 hs hb h
    match jx, hs, h with
    | 0, hs, h =>
      have e3 := hs 3 (by decide)
      simp only [e3]
      exact h
    | 1, hs, h =>
      have e4 := hs 4 (by decide)
      simp only [e4]
      exact h
    | 2, hs, h =>
      have e5 := hs 5 (by decide)
      simp only [e5]
      exact h
    | 3, hs, h =>
      have e6 := hs 6 (by decide)
      simp only [e6]
      exact h
    | 4, hs, h =>
      have e7 := hs 7 (by decide)
      simp only [e7]
      exact h
    | 5, hs, h =>
      have e8 := hs 8 (by decide)
      simp only [e8]
      exact h
    | 6, hs, h =>
      have e9 := hs 9 (by decide)
      simp only [e9]
      exact h
    | 7, hs, h =>
      have e10 := hs 10 (by decide)
      simp only [e10]
      exact h
    | 8, hs, h =>
      have e11 := hs 11 (by decide)
      simp only [e11]
      exact h
    | 9, hs, h =>
      have e12 := hs 12 (by decide)
      simp only [e12]
      exact h
    | 10, hs, h =>
      have e13 := hs 13 (by decide)
      simp only [e13]
      exact h
    | 11, hs, h =>
      have e14 := hs 14 (by decide)
      simp only [e14]
      exact h
    | 12, hs, h =>
      have e15 := hs 15 (by decide)
      simp only [e15]
      exact h
    | 13, hs, h =>
      have e16 := hs 16 (by decide)
      simp only [e16]
      exact h
    | 14, hs, h =>
      have e17 := hs 17 (by decide)
      simp only [e17]
      exact h
    | 15, hs, h =>
      have e18 := hs 18 (by decide)
      simp only [e18]
      exact h
    | 16, hs, h =>
      have e19 := hs 19 (by decide)
      simp only [e19]
      exact h
    | 17, hs, h =>
      have e20 := hs 20 (by decide)
      simp only [e20]
      exact h
    | 18, hs, h =>
      have e21 := hs 21 (by decide)
      simp only [e21]
      exact h
    | 19, hs, h =>
      have e22 := hs 22 (by decide)
      simp only [e22]
      exact h
    | 20, hs, h =>
      have e23 := hs 23 (by decide)
      simp only [e23]
      exact h
    | 21, hs, h =>
      have e24 := hs 24 (by decide)
      simp only [e24]
      exact h
    | 22, hs, h =>
      have e25 := hs 25 (by decide)
      simp only [e25]
      exact h
    | 23, hs, h =>
      have e26 := hs 26 (by decide)
      simp only [e26]
      exact (by obtain ⟨k, h1, h2⟩ := h; exact ⟨k, h1, h2.low hb⟩)
    | 24, hs, h =>
      have e27 := hs 27 (by decide)
      simp only [e27]
      exact h
    | 25, hs, h =>
      have e2 := hs 2 (by decide)
      simp only [e2]
      exact h
    | _ + 26, _, h => exact h
  · intro ix o hix hne f u hold hbe hgr hJ huse
    obtain ⟨kt, kc, kf⟩ := evF_all f
    match ix, hix, hne with
    | 0, hix, _ =>
      simp only [List.getElem?_cons_zero, Option.some.injEq] at hix
      subst hix
      have h1 : f 1 = .pointer (some ⟨w.heap.size, 0, none⟩) := (hold 1 (by kernel_rfl)).trans rfl
      refine gives_K fun K hK => ?_
      go_simp
      exact gives_value (hK _ _ ⟨Below.refl _ _, by simp [upF]⟩)
    | 1, hix, _ =>
      simp only [List.getElem?_cons_zero, List.getElem?_cons_succ, Option.some.injEq] at hix
      subst hix
      have u0 := huse 0 (by decide)
      simp only at u0
      have hJw := hJ (by kernel_rfl)
      have x := L1.out u hJw
      refine gives_K fun K hK => ?_
      go_simp
      exact gives_value (hK _ _ ⟨Below.refl _ _, by simp [upF]⟩)
    | 2, hix, _ =>
      simp only [List.getElem?_cons_zero, List.getElem?_cons_succ, Option.some.injEq] at hix
      subst hix
      have u1 := huse 1 (by decide)
      simp only at u1
      refine gives_K fun K hK => ?_
      go_simp
      exact gives_value (hK _ _ ⟨Below.refl _ _, by simp [upF]⟩)
    | 3, hix, _ =>
      simp only [List.getElem?_cons_zero, List.getElem?_cons_succ, Option.some.injEq] at hix
      subst hix
      have h1 : f 1 = .pointer (some ⟨w.heap.size, 0, none⟩) := (hold 1 (by kernel_rfl)).trans rfl
      refine gives_K fun K hK => ?_
      go_simp
      exact gives_value (hK _ _ ⟨Below.refl _ _, by simp [upF]⟩)
    | 4, hix, _ =>
      simp only [List.getElem?_cons_zero, List.getElem?_cons_succ, Option.some.injEq] at hix
      subst hix
      have u3 := huse 3 (by decide)
      simp only at u3
      have hJw := hJ (by kernel_rfl)
      have x := L2.out u hJw
      refine gives_K fun K hK => ?_
      go_simp
      exact gives_value (hK _ _ ⟨Below.refl _ _, by simp [upF]⟩)
    | 5, hix, _ =>
      simp only [List.getElem?_cons_zero, List.getElem?_cons_succ, Option.some.injEq] at hix
      subst hix
      have h1 : f 1 = .pointer (some ⟨w.heap.size, 0, none⟩) := (hold 1 (by kernel_rfl)).trans rfl
      refine gives_K fun K hK => ?_
      go_simp
      exact gives_value (hK _ _ ⟨Below.refl _ _, by simp [upF]⟩)
    | 6, hix, _ =>
      simp only [List.getElem?_cons_zero, List.getElem?_cons_succ, Option.some.injEq] at hix
      subst hix
      have u5 := huse 5 (by decide)
      simp only at u5
      have hJw := hJ (by kernel_rfl)
      have x := L3.out u hJw
      have x' := L4.out u hJw
      have x'' := L5.out u hJw
      refine gives_K fun K hK => ?_
      go_simp
      exact gives_value (hK _ _ ⟨Below.refl _ _, by simp [upF]⟩)
    | 7, hix, _ =>
      simp only [List.getElem?_cons_zero, List.getElem?_cons_succ, Option.some.injEq] at hix
      subst hix
      refine gives_K fun K hK => ?_
      go_simp
      exact gives_value (hK _ _ ⟨Below.refl _ _, by simp [upF]⟩)
    | 8, hix, _ =>
      simp only [List.getElem?_cons_zero, List.getElem?_cons_succ, Option.some.injEq] at hix
      subst hix
      have u6 := huse 6 (by decide)
      have u7 := huse 7 (by decide)
      simp only at u6 u7
      have hq := neq_val vk vi vt 0 0 ⟨#[]⟩
      refine gives_K fun K hK => ?_
      go_simp
      exact gives_value (hK _ _ ⟨Below.refl _ _, by simp [upF]⟩)
    | 9, hix, _ =>
      simp only [List.getElem?_cons_zero, List.getElem?_cons_succ, Option.some.injEq] at hix
      subst hix
      have h1 : f 1 = .pointer (some ⟨w.heap.size, 0, none⟩) := (hold 1 (by kernel_rfl)).trans rfl
      refine gives_K fun K hK => ?_
      go_simp
      exact gives_value (hK _ _ ⟨Below.refl _ _, by simp [upF]⟩)
    | 10, hix, _ =>
      simp only [List.getElem?_cons_zero, List.getElem?_cons_succ, Option.some.injEq] at hix
      subst hix
      have u9 := huse 9 (by decide)
      simp only at u9
      have hJw := hJ (by kernel_rfl)
      have x := L6.out u hJw
      refine gives_K fun K hK => ?_
      go_simp
      exact gives_value (hK _ _ ⟨Below.refl _ _, by simp [upF]⟩)
    | 11, hix, _ =>
      simp only [List.getElem?_cons_zero, List.getElem?_cons_succ, Option.some.injEq] at hix
      subst hix
      have u10 := huse 10 (by decide)
      simp only at u10
      refine gives_K fun K hK => ?_
      go_simp
      exact gives_value (hK _ _ ⟨Below.refl _ _, by simp [upF]⟩)
    | 12, hix, _ =>
      simp only [List.getElem?_cons_zero, List.getElem?_cons_succ, Option.some.injEq] at hix
      subst hix
      have h1 : f 1 = .pointer (some ⟨w.heap.size, 0, none⟩) := (hold 1 (by kernel_rfl)).trans rfl
      refine gives_K fun K hK => ?_
      go_simp
      exact gives_value (hK _ _ ⟨Below.refl _ _, by simp [upF]⟩)
    | 13, hix, _ =>
      simp only [List.getElem?_cons_zero, List.getElem?_cons_succ, Option.some.injEq] at hix
      subst hix
      have u12 := huse 12 (by decide)
      simp only at u12
      have hJw := hJ (by kernel_rfl)
      have x := L7.out u hJw
      refine gives_K fun K hK => ?_
      go_simp
      exact gives_value (hK _ _ ⟨Below.refl _ _, by simp [upF]⟩)
    | 14, hix, _ =>
      simp only [List.getElem?_cons_zero, List.getElem?_cons_succ, Option.some.injEq] at hix
      subst hix
      have u13 := huse 13 (by decide)
      simp only at u13
      refine gives_K fun K hK => ?_
      go_simp
      exact gives_value (hK _ _ ⟨Below.refl _ _, by simp [upF]⟩)
    | 15, hix, _ =>
      simp only [List.getElem?_cons_zero, List.getElem?_cons_succ, Option.some.injEq] at hix
      subst hix
      have h1 : f 1 = .pointer (some ⟨w.heap.size, 0, none⟩) := (hold 1 (by kernel_rfl)).trans rfl
      refine gives_K fun K hK => ?_
      go_simp
      exact gives_value (hK _ _ ⟨Below.refl _ _, by simp [upF]⟩)
    | 16, hix, _ =>
      simp only [List.getElem?_cons_zero, List.getElem?_cons_succ, Option.some.injEq] at hix
      subst hix
      have u15 := huse 15 (by decide)
      simp only at u15
      have hJw := hJ (by kernel_rfl)
      have x := L8.out u hJw
      refine gives_K fun K hK => ?_
      go_simp
      exact gives_value (hK _ _ ⟨Below.refl _ _, by simp [upF]⟩)
    | 17, hix, _ =>
      simp only [List.getElem?_cons_zero, List.getElem?_cons_succ, Option.some.injEq] at hix
      subst hix
      have u16 := huse 16 (by decide)
      simp only at u16
      refine gives_K fun K hK => ?_
      go_simp
      exact gives_value (hK _ _ ⟨Below.refl _ _, by simp [upF]⟩)
    | 18, hix, _ =>
      simp only [List.getElem?_cons_zero, List.getElem?_cons_succ, Option.some.injEq] at hix
      subst hix
      have u17 := huse 17 (by decide)
      simp only at u17
      refine gives_K fun K hK => ?_
      go_simp
      exact gives_value (hK _ _ ⟨Below.refl _ _, by simp [upF]⟩)
    | 19, hix, _ =>
      simp only [List.getElem?_cons_zero, List.getElem?_cons_succ, Option.some.injEq] at hix
      subst hix
      have h1 : f 1 = .pointer (some ⟨w.heap.size, 0, none⟩) := (hold 1 (by kernel_rfl)).trans rfl
      refine gives_K fun K hK => ?_
      go_simp
      exact gives_value (hK _ _ ⟨Below.refl _ _, by simp [upF]⟩)
    | 20, hix, _ =>
      simp only [List.getElem?_cons_zero, List.getElem?_cons_succ, Option.some.injEq] at hix
      subst hix
      have u19 := huse 19 (by decide)
      simp only at u19
      have hJw := hJ (by kernel_rfl)
      have x := L9.out u hJw
      refine gives_K fun K hK => ?_
      go_simp
      exact gives_value (hK _ _ ⟨Below.refl _ _, by simp [upF]⟩)
    | 21, hix, _ =>
      simp only [List.getElem?_cons_zero, List.getElem?_cons_succ, Option.some.injEq] at hix
      subst hix
      have u20 := huse 20 (by decide)
      simp only at u20
      refine gives_K fun K hK => ?_
      go_simp
      exact gives_value (hK _ _ ⟨Below.refl _ _, by simp [upF]⟩)
    | 22, hix, _ =>
      simp only [List.getElem?_cons_zero, List.getElem?_cons_succ, Option.some.injEq] at hix
      subst hix
      have u21 := huse 21 (by decide)
      simp only at u21
      refine gives_K fun K hK => ?_
      go_simp
      exact gives_value (hK _ _ ⟨Below.refl _ _, by simp [upF]⟩)
    | 23, hix, _ =>
      simp only [List.getElem?_cons_zero, List.getElem?_cons_succ, Option.some.injEq] at hix
      subst hix
      have u2 := huse 2 (by decide)
      have u4 := huse 4 (by decide)
      have u8 := huse 8 (by decide)
      have u11 := huse 11 (by decide)
      have u14 := huse 14 (by decide)
      have u18 := huse 18 (by decide)
      have u22 := huse 22 (by decide)
      simp only at u2 u4 u8 u11 u14 u18 u22
      refine gives_K fun K hK => ?_
      go_simp
      exact gives_value (hK _ _ ⟨below_alloc _ _, u.heap.size, by simp [upF], seven_new u (op != 0) no (!sameV vk vi vt 0 0 ⟨#[]⟩) (!tb.toList.isEmpty) (!nm.toList.isEmpty) (decide (0 < n)) (decide (0 < n')) _⟩)
    | 24, hix, _ =>
      simp only [List.getElem?_cons_zero, List.getElem?_cons_succ, Option.some.injEq] at hix
      subst hix
      have u23 := huse 23 (by decide)
      simp only at u23
      obtain ⟨k, h26, h7⟩ := u23
      have HC := set7_any u k (op != 0) no (!sameV vk vi vt 0 0 ⟨#[]⟩) (!tb.toList.isEmpty) (!nm.toList.isEmpty) (decide (0 < n)) (decide (0 < n')) h7
      refine gives_K fun K hK => ?_
      go_simp
      refine gives_enter (HC.mono ?_)
      rintro e w2 ⟨rfl, rfl⟩
      exact ⟨_, rfl, hK _ _ ⟨Below.refl _ _, by simp [upF]⟩⟩
    | 25, hix, _ =>
      simp only [List.getElem?_cons_zero, List.getElem?_cons_succ, Option.some.injEq] at hix
      subst hix
      have u24 := huse 24 (by decide)
      simp only at u24
      refine gives_K fun K hK => ?_
      go_simp
      exact gives_value (hK _ _ ⟨Below.refl _ _, by simp [upF]⟩)
    | ix + 26, hix, _ => simp at hix
  · intro ix o hix hin f u hold hbe hgr hJ huse
    obtain ⟨kt, kc, kf⟩ := evF_all f
    match ix, hix, hin with
    | 0, _, hin => exact absurd hin (by decide)
    | 1, _, hin => exact absurd hin (by decide)
    | 2, _, hin => exact absurd hin (by decide)
    | 3, _, hin => exact absurd hin (by decide)
    | 4, _, hin => exact absurd hin (by decide)
    | 5, _, hin => exact absurd hin (by decide)
    | 6, _, hin => exact absurd hin (by decide)
    | 7, _, hin => exact absurd hin (by decide)
    | 8, _, hin => exact absurd hin (by decide)
    | 9, _, hin => exact absurd hin (by decide)
    | 10, _, hin => exact absurd hin (by decide)
    | 11, _, hin => exact absurd hin (by decide)
    | 12, _, hin => exact absurd hin (by decide)
    | 13, _, hin => exact absurd hin (by decide)
    | 14, _, hin => exact absurd hin (by decide)
    | 15, _, hin => exact absurd hin (by decide)
    | 16, _, hin => exact absurd hin (by decide)
    | 17, _, hin => exact absurd hin (by decide)
    | 18, _, hin => exact absurd hin (by decide)
    | 19, _, hin => exact absurd hin (by decide)
    | 20, _, hin => exact absurd hin (by decide)
    | 21, _, hin => exact absurd hin (by decide)
    | 22, _, hin => exact absurd hin (by decide)
    | 23, _, hin => exact absurd hin (by decide)
    | 24, _, hin => exact absurd hin (by decide)
    | 25, _, hin => exact absurd hin (by decide)
    | ix + 26, hix, _ => simp at hix
  · intro f2 u2 hbe hall
    have u25 := hall 25 (by decide) (by kernel_rfl)
    simp only at u25
    clear hall
    simp only [putAll, List.foldl_cons, List.foldl_nil, Act.put, List.setIfInBounds_toArray, List.set_cons_succ, List.set_cons_zero]
    rw [u25]
    have HBE := Lib.hid (below_next HB0.out (Below.trans ((Below.refl W.heap.size W).drew) hbe))
    clear hbe u25 L1 L2 L3 L4 L5 L6 L7 L8 L9
    go_wp2
    go_ret
    exact ⟨rfl, HBE.out⟩
--ENDBLK
end Go.Proofs.YtdlehlbahkikgaaDoor
