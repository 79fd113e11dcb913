/-
  Several texts in one.
-/
import Derived.Test.YtgaihglploedaaaDoorPk26
import Derived.Test.YtgaihglploedaaaDoorPk21
import Derived.Test.YtgaihglploedaaaDoorPk27
import Derived.Test.YtgaihglploedaaaDoorPk16
import Derived.Test.YtgaihglploedaaaDoorPk22
/-
  What spoiling a table turns in memory.
-/
namespace Go.Proofs.YtgaihglploedaaaDoor
set_option maxRecDepth 100000
open Go.RowKit
variable {ls : List Nat}

theorem tAt_set {R : List TRow} {j i : Nat} {r : TRow} (hj : j < R.length) : tAt (R.set j r) i = if i = j then r else tAt R i := by
  unfold tAt
  rw [List.getD, List.getElem?_set]
  by_cases h : j = i
  · subst h
    rw [if_pos rfl, if_pos hj, if_pos rfl]; rfl
  · rw [if_neg h, if_neg (fun e => h e.symm)]; rfl
theorem grAt_lt {G : List GRow} {i : Nat} (h : i < G.length) : (tabR G).length = G.length ∧ tAt (tabR G) i = ((grAt G i).1, (grAt G i).2.2) := ⟨tabR_length G, tabR_at h⟩
/-- The number or the values of a row are set. -/
theorem TOwn.put {u v : World} {base g c j : Nat} {G : List GRow} (h : TOwn u base (.slice (some ⟨g, 0, none⟩) G.length c) G) (hj : j < G.length) (r : TRow) (q' : Option Addr) (cp' : Nat) (hz : u.heap.size ≤ v.heap.size) (hk : ∀ k, k ≠ g → k < u.heap.size → v.heap[k]? = u.heap[k]?)
    (ho : ∀ i, i ≠ j → v.cell? ⟨g, i * 2, none⟩ = u.cell? ⟨g, i * 2, none⟩ ∧ v.cell? ⟨g, i * 2 + 1, none⟩ = u.cell? ⟨g, i * 2 + 1, none⟩)
    (h0 : v.cell? ⟨g, j * 2, none⟩ = some (.int .i64 r.1)) (h1 : v.cell? ⟨g, j * 2 + 1, none⟩ = some (.slice q' r.2.length cp')) (hr : RowAt v q' r.2) (hs : r.2.length * 32 ≤ 140737488355328) (hn : q' = none → r.2 = [] ∧ cp' = 0) (hq : ∀ a, q' = some a → base ≤ a.block ∧ a.block < v.heap.size) :
    TRowsIn base v (some ⟨g, 0, none⟩) ((tabR G).set j r) := by
  obtain ⟨g', c', he, hg, hgs, -, hc⟩ := h.slot (by omega)
  injection he with he
  injection he with he
  injection he with he
  subst he
  intro i hi
  have hi' : i < G.length := by rw [List.length_set, tabR_length] at hi; exact hi
  have hj' : j < (tabR G).length := by rw [tabR_length]; exact hj
  rw [tAt_set hj']
  by_cases hij : i = j
  · subst hij
    rw [if_pos rfl]
    exact ⟨g, q', cp', rfl, hg, by omega, h0, h1, hr, hs, hn, hq⟩
  · rw [if_neg hij]
    obtain ⟨g2, q, cp, he, -, -, c0, c1, hr2, hs2, hn2, hq2⟩ := h.rowsIn i (by rw [tabR_length]; exact hi')
    have he : (some ⟨g, 0, none⟩ : Option Addr) = some ⟨g2, 0, none⟩ := he
    cases he
    obtain ⟨o0, o1⟩ := ho i hij
    refine ⟨g, q, cp, rfl, hg, by omega, by rw [o0]; exact c0, by rw [o1]; exact c1, hr2.keep hz fun a ha => hk _ (fun e => ?_) (hq2 a ha).2, hs2, hn2, fun a ha => ⟨(hq2 a ha).1, by have := (hq2 a ha).2; omega⟩⟩
    obtain ⟨-, d1, d2⟩ := hc i hi'
    rw [tabR_at hi'] at c1
    rw [c1] at d1
    have d1 := Option.some.inj d1
    rw [← d1, ha] at d2
    exact d2 (by show some a.block = some g; rw [e])
/-- The first value of a row is set. -/
theorem TOwn.putVal {u : World} {base g c h' : Nat} {G : List GRow} (h : TOwn u base (.slice (some ⟨g, 0, none⟩) G.length c) G) (hpos : ∀ i, i < G.length → 0 < (grAt G i).2.2.length) (hg' : h' ≠ g) (hsz : ∀ r ∈ tabR G, ValsSized r.2) (x : Val) (hx : x.2.2.size ≤ 9223372036854775807) :
    ∃ R, R.length = G.length ∧ (∀ r ∈ R, ValsSized r.2) ∧ TRowsIn base (((u.setCell ⟨h', 0, none⟩ (.int .i64 x.1)).setCell ⟨h', 1, none⟩ (.int .i64 x.2.1)).setCell ⟨h', 2, none⟩ (.string x.2.2)) (some ⟨g, 0, none⟩) R := by
  generalize hV : ((u.setCell ⟨h', 0, none⟩ (.int .i64 x.1)).setCell ⟨h', 1, none⟩ (.int .i64 x.2.1)).setCell ⟨h', 2, none⟩ (.string x.2.2) = V
  have hVb : ∀ k, k ≠ h' → V.heap[k]? = u.heap[k]? := fun k hk => by
    rw [← hV]
    exact ((Below.heap_setCell _ _ _ _ hk).trans (Below.heap_setCell _ _ _ _ hk)).trans (Below.heap_setCell _ _ _ _ hk)
  have hVz : V.heap.size = u.heap.size := by rw [← hV, set_size, set_size, set_size]
  let F : GRow → TRow := fun q => (q.1, if q.2.1.ownBlock = some h' then q.2.2.set 0 x else q.2.2)
  have hF : ∀ i, i < G.length → tAt (G.map F) i = F (grAt G i) := fun i hi => by
    unfold tAt grAt
    rw [List.getD, List.getElem?_map, List.getD, List.getElem?_eq_getElem hi]; rfl
  have hin : ∀ i, i < G.length → ((grAt G i).1, (grAt G i).2.2) ∈ tabR G := fun i hi => List.mem_map.2 ⟨_, grAt_mem hi, rfl⟩
  refine ⟨G.map F, List.length_map _, fun r hr => ?_, fun i hi => ?_⟩
  · obtain ⟨q, hq, rfl⟩ := List.mem_map.1 hr
    have hs := hsz (q.1, q.2.2) (List.mem_map.2 ⟨q, hq, rfl⟩)
    obtain ⟨i, hi, he⟩ := List.getElem_of_mem hq
    have hp := hpos i hi
    have he2 : grAt G i = q := by unfold grAt; rw [List.getD, List.getElem?_eq_getElem hi, ← he]; rfl
    rw [he2] at hp
    show ValsSized (if q.2.1.ownBlock = some h' then q.2.2.set 0 x else q.2.2)
    split
    · exact ValsSized.set hs hp hx
    · exact hs
  · have hi' : i < G.length := by rw [List.length_map] at hi; exact hi
    rw [hF i hi']
    obtain ⟨g2, c2, he, hg, hgs, -, hc⟩ := h.slot (by omega)
    injection he with he
    injection he with he
    injection he with he
    subst he
    obtain ⟨c0, c1, hne⟩ := hc i hi'
    obtain ⟨k, cp, hv, hk, hks, -, hob, hr, -⟩ := (h.inn _ (grAt_mem hi')).slot (hpos i hi')
    have hl := (h.inn _ (grAt_mem hi')).2
    have hgb : V.heap[g]? = u.heap[g]? := hVb g (fun e => hg' e.symm)
    have hlen : (F (grAt G i)).2.length = (grAt G i).2.2.length := by
      show (if (grAt G i).2.1.ownBlock = some h' then (grAt G i).2.2.set 0 x else (grAt G i).2.2).length = _
      split
      · rw [List.length_set]
      · rfl
    refine ⟨g, some ⟨k, 0, none⟩, cp, rfl, hg, by omega, by rw [World.cell?_of_block (w := u) hgb]; exact c0, by rw [World.cell?_of_block (w := u) hgb, c1, hv, hlen], ?_, by rw [hlen]; exact hl, fun e => (by cases e), fun a ha => by cases ha; exact ⟨hk, by show k < V.heap.size; omega⟩⟩
    show RowAt V (some ⟨k, 0, none⟩) (if (grAt G i).2.1.ownBlock = some h' then (grAt G i).2.2.set 0 x else (grAt G i).2.2)
    by_cases hkh : k = h'
    · subst hkh
      rw [if_pos hob, ← hV]
      have := RowAt.put hr (hpos i hi') x
      simp only [Nat.zero_mul, Nat.zero_add] at this
      exact this
    · rw [if_neg (fun e => hkh (Option.some.inj (hob.symm.trans e)))]
      exact hr.keep (by omega) fun a ha => by cases ha; exact hVb k hkh
theorem cell_off {u : World} {g a b : Nat} {y : Value} (h : a ≠ b) : (u.setCell ⟨g, a, none⟩ y).cell? ⟨g, b, none⟩ = u.cell? ⟨g, b, none⟩ := World.cell?_setCell_other _ _ _ _ (by intro e; exact h (Addr.mk.inj e).2.1)
theorem TOwn.putCell0 {u : World} {base g m c j : Nat} {G : List GRow} (h : TOwn u base (.slice (some ⟨g, 0, none⟩) m c) G) (hm : G.length = m) (hj : j < G.length) (hp : 0 < (grAt G j).2.2.length) (id : Int) :
    TRowsIn base (u.setCell ⟨g, j * 2, none⟩ (.int .i64 id)) (some ⟨g, 0, none⟩) ((tabR G).set j (id, (grAt G j).2.2)) := by
  subst hm
  obtain ⟨g', c', he, hg, hgs, -, hc⟩ := h.slot (by omega)
  injection he with he
  injection he with he
  injection he with he
  subst he
  obtain ⟨c0, c1, hne⟩ := hc j hj
  have hin := h.inn _ (grAt_mem hj)
  obtain ⟨k, cp, hv, hk, hks, -, hob, hr, -⟩ := hin.slot hp
  have hkg : k ≠ g := fun e => hne (e ▸ hob)
  refine h.put hj (id, (grAt G j).2.2) (some ⟨k, 0, none⟩) cp (by rw [set_size]; exact Nat.le_refl _) (fun i hi _ => Below.heap_setCell _ _ _ _ hi) (fun i hi => ⟨cell_off (by omega), cell_off (by omega)⟩) (World.cell?_setCell_same _ _ _ c0) (by rw [cell_off (by omega), c1, hv]) (hr.keep (by rw [set_size]; exact Nat.le_refl _) fun a ha => by cases ha; exact Below.heap_setCell _ _ _ _ hkg) hin.2 (fun e => by cases e) (fun a ha => by cases ha; exact ⟨hk, by rw [set_size]; exact hks⟩)
theorem TOwn.putCell1 {u : World} {base g m c j cp : Nat} {G : List GRow} {q : Option Addr} {l : List Val} (h : TOwn u base (.slice (some ⟨g, 0, none⟩) m c) G) (hm : G.length = m) (hj : j < G.length) (hr : RowAt u q l) (hs : l.length * 32 ≤ 140737488355328) (hn : q = none → l = [] ∧ cp = 0) (hq : ∀ a, q = some a → base ≤ a.block ∧ a.block < u.heap.size ∧ a.block ≠ g) :
    TRowsIn base (u.setCell ⟨g, j * 2 + 1, none⟩ (.slice q l.length cp)) (some ⟨g, 0, none⟩) ((tabR G).set j ((grAt G j).1, l)) := by
  subst hm
  obtain ⟨g', c', he, hg, hgs, -, hc⟩ := h.slot (by omega)
  injection he with he
  injection he with he
  injection he with he
  subst he
  obtain ⟨c0, c1, hne⟩ := hc j hj
  refine h.put hj ((grAt G j).1, l) q cp (by rw [set_size]; exact Nat.le_refl _) (fun i hi _ => Below.heap_setCell _ _ _ _ hi) (fun i hi => ⟨cell_off (by omega), cell_off (by omega)⟩) (by rw [cell_off (by omega)]; exact c0) (World.cell?_setCell_same _ _ _ c1) (hr.keep (by rw [set_size]; exact Nat.le_refl _) fun a ha => Below.heap_setCell _ _ _ _ (hq a ha).2.2) hs hn (fun a ha => ⟨(hq a ha).1, by rw [set_size]; exact (hq a ha).2.1⟩)
theorem sized_set {R : List TRow} {j : Nat} {r : TRow} (h : ∀ x ∈ R, ValsSized x.2) (hr : ValsSized r.2) : ∀ x ∈ R.set j r, ValsSized x.2 := fun x hx => by
  rcases List.mem_or_eq_of_mem_set hx with h1 | rfl
  · exact h x h1
  · exact hr
theorem sized_drop {l : List Val} (h : ValsSized l) : ValsSized (l.drop 1) := fun i hi => by
  rw [List.length_drop] at hi
  have h1 := h (1 + i) (by omega)
  have h2 : vAt (l.drop 1) i = vAt l (1 + i) := by unfold vAt; rw [List.getD, List.getElem?_drop]; rfl
  rw [h2]
  exact h1
end Go.Proofs.YtgaihglploedaaaDoor
/-
  Spoiled of the world, for tables: what it keeps; appends at a step of a region that draws its order.
-/
namespace Go.Proofs.YtgaihglploedaaaDoor
set_option maxRecDepth 100000
open Go.RowKit
variable {ls : List Nat}

section
variable {b : Nat} {w u v : World}
/-- The variable out, the result, the tape. -/
structure RstT (b : Nat) (w : World) (o0 o1 o2 o3 : Value) (u : World) : Prop where
  out : Cell4 u (w.heap.size + 2) o0 o1 o2 o3
  res : Cell4 u (w.heap.size + 1) (.string ⟨#[]⟩) (.slice none 0 0) (.int .i64 0) (.slice none 0 0)
  tape : TapeAt u b
  step : StepT b w u
  bw : b < w.heap.size
variable {o0 o1 o2 o3 : Value}
theorem RstT.setG (h : RstT b w o0 o1 o2 o3 u) {g o : Nat} (hg : w.heap.size + 3 ≤ g) (y : Value) : RstT b w o0 o1 o2 o3 (u.setCell ⟨g, o, none⟩ y) :=
  ⟨h.out.far (by omega) _, h.res.far (by omega) _, h.tape.setCell (by have := h.bw; show b < g; omega) _, h.step.set2 (by omega) _ _ _, h.bw⟩
theorem RstT.next (h : RstT b w o0 o1 o2 o3 u) (hs : StepT b u v) (ht : TapeAt v b) : RstT b w o0 o1 o2 o3 v :=
  ⟨h.out.step hs (by have := h.bw; omega), h.res.step hs (by have := h.bw; omega), ht, h.step.trans hs, h.bw⟩
theorem RstT.set0 (h : RstT b w o0 o1 o2 o3 u) (y : Value) : RstT b w y o1 o2 o3 (u.setCell ⟨w.heap.size + 2, 0, none⟩ y) :=
  ⟨h.out.set0 y, h.res.far (by omega) _, h.tape.setCell (by have := h.bw; show b < w.heap.size + 2; omega) _, h.step.set2 (by omega) _ _ _, h.bw⟩
theorem RstT.set1 (h : RstT b w o0 o1 o2 o3 u) (y : Value) : RstT b w o0 y o2 o3 (u.setCell ⟨w.heap.size + 2, 1, none⟩ y) :=
  ⟨h.out.set1 y, h.res.far (by omega) _, h.tape.setCell (by have := h.bw; show b < w.heap.size + 2; omega) _, h.step.set2 (by omega) _ _ _, h.bw⟩
theorem RstT.set2 (h : RstT b w o0 o1 o2 o3 u) (y : Value) : RstT b w o0 o1 y o3 (u.setCell ⟨w.heap.size + 2, 2, none⟩ y) :=
  ⟨h.out.set2 y, h.res.far (by omega) _, h.tape.setCell (by have := h.bw; show b < w.heap.size + 2; omega) _, h.step.set2 (by omega) _ _ _, h.bw⟩
theorem RstT.set3 (h : RstT b w o0 o1 o2 o3 u) (y : Value) : RstT b w o0 o1 o2 y (u.setCell ⟨w.heap.size + 2, 3, none⟩ y) :=
  ⟨h.out.set3 y, h.res.far (by omega) _, h.tape.setCell (by have := h.bw; show b < w.heap.size + 2; omega) _, h.step.set2 (by omega) _ _ _, h.bw⟩
theorem RstT.grown (h : RstT b w o0 o1 o2 o3 u) {row : Option Nat} (hg : u.grownBy v row) (hr : ∀ k, row = some k → w.heap.size + 3 ≤ k) : RstT b w o0 o1 o2 o3 v :=
  ⟨h.out.grown hg (fun k hk => by have := hr k hk; omega), h.res.grown hg (fun k hk => by have := hr k hk; omega), h.tape.grown hg (fun k hk => by have := hr k hk; have := h.bw; omega), step_grown_from h.step hg (fun k hk => by have := hr k hk; omega), h.bw⟩
/-- All but the tape and the result are as they were. -/
def Agr (b : Nat) (w u v : World) : Prop := u.heap.size ≤ v.heap.size ∧ ∀ k, k < u.heap.size → k ≠ b → k ≠ w.heap.size + 1 → v.heap[k]? = u.heap[k]?
/-- What Spoiled returns: a table of m rows. -/
structure FinT (b : Nat) (w u : World) (T : Tab) (m : Nat) : Prop where
  rst : RstT b w (.string T.nm) (.slice T.pc T.n T.cc) (.int .i64 T.nx) (.slice T.pr m T.cr) u
  len : T.R.length = m
  tab : ∀ v, Agr b w u v → TabAt v T
  cap : T.R.length ≤ T.cr
theorem cols_fin {pc : Option Addr} {n : Nat} {f : Nat → Col} (HC : ColsAt w pc n f) (hn : 0 < n) (hcb : ∀ a, pc = some a → a.block ≠ b) (hs : StepT b w u) : ∀ v, Agr b w u v → ColsAt v pc n f := fun v ha => by
  obtain ⟨c, o, hp, hc⟩ := HC.ptr hn
  refine HC.keep (Nat.le_trans hs.size ha.1) fun a hpa => ?_
  rw [hp] at hpa
  cases hpa
  have hcb' := hcb _ hp
  have hz := hs.size
  exact (ha.2 c (by omega) hcb' (by omega)).trans (hs.block c hc hcb')
theorem cols_own {p : Option Addr} {n : Nat} {f : Nat → Col} (HC : ColsAt u p n f) (hb : b < w.heap.size) (hq : ∀ q, p = some q → w.heap.size + 3 ≤ q.block ∧ q.block < u.heap.size) : ∀ v, Agr b w u v → ColsAt v p n f := fun v ha =>
  HC.keep ha.1 fun a hpa => ha.2 _ (hq a hpa).2 (by have := (hq a hpa).1; omega) (by have := (hq a hpa).1; omega)
theorem rows_fin {p : Option Addr} {R : List TRow} (h : TRowsIn (w.heap.size + 3) u p R) (hb : b < w.heap.size) : ∀ v, Agr b w u v → TRowsAt v p R := fun _ ha =>
  h.at ha.1 fun k h1 h2 => ha.2 k h2 (by omega) (by omega)
theorem FinT.done {T : Tab} {m : Nat} (h : FinT b w u T m) :
    (∀ v, StepT b ((((u.setCell ⟨w.heap.size + 1, 0, none⟩ (.string T.nm)).setCell ⟨w.heap.size + 1, 1, none⟩ (.slice T.pc T.n T.cc)).setCell ⟨w.heap.size + 1, 2, none⟩ (.int .i64 T.nx)).setCell ⟨w.heap.size + 1, 3, none⟩ (.slice T.pr m T.cr)) v → TabAt v T) ∧
    TapeAt ((((u.setCell ⟨w.heap.size + 1, 0, none⟩ (.string T.nm)).setCell ⟨w.heap.size + 1, 1, none⟩ (.slice T.pc T.n T.cc)).setCell ⟨w.heap.size + 1, 2, none⟩ (.int .i64 T.nx)).setCell ⟨w.heap.size + 1, 3, none⟩ (.slice T.pr m T.cr)) b ∧
    StepT b w ((((u.setCell ⟨w.heap.size + 1, 0, none⟩ (.string T.nm)).setCell ⟨w.heap.size + 1, 1, none⟩ (.slice T.pc T.n T.cc)).setCell ⟨w.heap.size + 1, 2, none⟩ (.int .i64 T.nx)).setCell ⟨w.heap.size + 1, 3, none⟩ (.slice T.pr m T.cr)) := by
  have hbw := h.rst.bw
  refine ⟨fun v hs => h.tab v ⟨?_, fun k h1 h2 h3 => ?_⟩, (((h.rst.tape.setCell (by show b < w.heap.size + 1; omega) _).setCell (by show b < w.heap.size + 1; omega) _).setCell (by show b < w.heap.size + 1; omega) _).setCell (by show b < w.heap.size + 1; omega) _,
    (((h.rst.step.set2 (by omega) _ _ _).set2 (by omega) _ _ _).set2 (by omega) _ _ _).set2 (by omega) _ _ _⟩
  · have := hs.size
    rw [set_size, set_size, set_size, set_size] at this
    exact this
  · have h4 := hs.block k (by rw [set_size, set_size, set_size, set_size]; exact h1) h2
    rw [h4]
    exact (((Below.heap_setCell _ _ _ _ h3).trans (Below.heap_setCell _ _ _ _ h3)).trans (Below.heap_setCell _ _ _ _ h3)).trans (Below.heap_setCell _ _ _ _ h3)

def SpoiledTPost (b : Nat) (w : World) (e : Ending) (w' : World) : Prop := ∃ T : Tab, e = .returned T.v ∧ (∀ v, StepT b w' v → TabAt v T) ∧ TapeAt w' b ∧ StepT b w w'
def SpoiledTCPost (b : Nat) (w : World) (e : Ending) (w' : World) : Prop := ∃ T : Tab, e = .returned T.v ∧ (∀ v, StepT b w' v → TabAt v T) ∧ TapeAt w' b ∧ StepT b w w' ∧ T.R.length ≤ T.cr
theorem FinT.post {T : Tab} {m : Nat} (h : FinT b w u T m) : SpoiledTCPost b w (.returned (.agg #[.string T.nm, .slice T.pc T.n T.cc, .int .i64 T.nx, .slice T.pr m T.cr]))
    ((((u.setCell ⟨w.heap.size + 1, 0, none⟩ (.string T.nm)).setCell ⟨w.heap.size + 1, 1, none⟩ (.slice T.pc T.n T.cc)).setCell ⟨w.heap.size + 1, 2, none⟩ (.int .i64 T.nx)).setCell ⟨w.heap.size + 1, 3, none⟩ (.slice T.pr m T.cr)) :=
  ⟨T, by rw [← h.len]; rfl, h.done.1, h.done.2.1, h.done.2.2, h.cap⟩
theorem fin_own {nm : ByteArray} {pc : Option Addr} {n cc : Nat} {f : Nat → Col} {nx : Int} {p : Option Addr} {c : Nat} {R : List TRow} {G : List GRow} (hr : RstT b w (.string nm) (.slice pc n cc) (.int .i64 nx) (.slice p R.length c) u) (ho : TOwn u (w.heap.size + 3) (.slice p R.length c) G) (hG : tabR G = R)
    (hc : ∀ v, Agr b w u v → ColsAt v pc n f) (h1 : nm.size ≤ 9223372036854775807) (h2 : n ≤ 9223372036854775807) (h3 : R.length ≤ 1000) (h4 : ∀ r ∈ R, ValsSized r.2) (h5 : nx ≤ 9223372036854775807) : FinT b w u ⟨nm, pc, n, cc, f, nx, p, c, R⟩ R.length :=
  ⟨hr, rfl, fun v ha => ⟨h1, h2, hc v ha, rows_fin (by have := ho.rowsIn; rw [hG] at this; exact this) hr.bw v ha, h3, h4, h5⟩, by have := owns_cap ho.own; show R.length ≤ c; omega⟩
theorem fin_rows {nm : ByteArray} {pc : Option Addr} {n cc m : Nat} {f : Nat → Col} {nx : Int} {p : Option Addr} {c : Nat} {R : List TRow} (hr : RstT b w (.string nm) (.slice pc n cc) (.int .i64 nx) (.slice p m c) u) (hm : R.length = m) (ho : TRowsIn (w.heap.size + 3) u p R)
    (hc : ∀ v, Agr b w u v → ColsAt v pc n f) (h1 : nm.size ≤ 9223372036854775807) (h2 : n ≤ 9223372036854775807) (h3 : m ≤ 1000) (h4 : ∀ r ∈ R, ValsSized r.2) (h5 : nx ≤ 9223372036854775807) (h6 : m ≤ c) : FinT b w u ⟨nm, pc, n, cc, f, nx, p, c, R⟩ m :=
  ⟨hr, hm, fun v ha => ⟨h1, h2, hc v ha, rows_fin ho hr.bw v ha, by show R.length ≤ 1000; omega, h4, h5⟩, by show R.length ≤ c; omega⟩

/-- What Spoiled has while it copies the rows. -/
structure SpT (b : Nat) (w : World) (nm : ByteArray) (pc : Option Addr) (n cc : Nat) (nx : Int) (pr : Option Addr) (m cr : Nat) (vr : Value) (G : List GRow) (u : World) : Prop where
  src : Cell4 u w.heap.size (.string nm) (.slice pc n cc) (.int .i64 nx) (.slice pr m cr)
  rst : RstT b w (.string nm) (.slice pc n cc) (.int .i64 nx) vr u
  own : TOwn u (w.heap.size + 3) vr G
variable {nm : ByteArray} {pc : Option Addr} {n cc : Nat} {nx : Int} {pr : Option Addr} {m cr : Nat} {vr : Value} {G : List GRow}
theorem SpT.next (h : SpT b w nm pc n cc nx pr m cr vr G u) (hs : StepT b u v) (ht : TapeAt v b) : SpT b w nm pc n cc nx pr m cr vr G v :=
  ⟨h.src.step hs (by have := h.rst.bw; omega), h.rst.next hs ht, h.own.step (by have := h.rst.bw; omega) hs⟩
theorem SpT.low (h : SpT b w nm pc n cc nx pr m cr vr G u) (hb : Below u.heap.size u v) : SpT b w nm pc n cc nx pr m cr vr G v := h.next (step_low hb) (h.rst.tape.below hb)
theorem SpT.lo (h : SpT b w nm pc n cc nx pr m cr vr G u) : w.heap.size + 3 ≤ u.heap.size := h.rst.out.lt
theorem SpT.push {w8 : World} {v8 : Value} {g : GRow} {o : Obj} (h : SpT b w nm pc n cc nx pr m cr vr G u) (hz : InRow u (w.heap.size + 3) (g.2.1, g.2.2))
    (ho : w8.ownsRow (w.heap.size + 3) 68 2 v8 (G ++ [g]).length (tcells (G ++ [g]))) (hg : (u.alloc o).grownBy w8 vr.ownBlock) :
    Cell4 w8 (w.heap.size + 2) (.string nm) (.slice pc n cc) (.int .i64 nx) vr ∧ SpT b w nm pc n cc nx pr m cr v8 (G ++ [g]) (w8.setCell ⟨w.heap.size + 2, 3, none⟩ v8) := by
  have h7 := h.low (below_alloc u o)
  have hk : ∀ k, vr.ownBlock = some k → w.heap.size + 3 ≤ k := fun k hk => (h.own.own.lt k hk).1
  have hr := h7.rst.grown hg hk
  exact ⟨hr.out, (h7.src.grown hg (fun k hk' => by have := hk k hk'; omega)).far (by omega) _, hr.set3 v8, (h.own.push hz ho hg).set (by omega) _⟩
end
theorem TOwn.slotAt {u : World} {base g m c j : Nat} {G : List GRow} (h : TOwn u base (.slice (some ⟨g, 0, none⟩) m c) G) (hj : j < G.length) : base ≤ g ∧ g < u.heap.size ∧ (∀ o, u.frozen? ⟨g, o, none⟩ = false) ∧ u.cell? ⟨g, j * 2, none⟩ = some (.int .i64 (grAt G j).1) ∧ u.cell? ⟨g, j * 2 + 1, none⟩ = some (grAt G j).2.1 ∧ (grAt G j).2.1.ownBlock ≠ some g := by
  obtain ⟨g', c', he, hg, hgs, hf, hc⟩ := h.slot (by omega)
  injection he with he
  injection he with he
  injection he with he
  subst he
  obtain ⟨c0, c1, c2⟩ := hc j hj
  exact ⟨hg, hgs, hf, c0, c1, c2⟩
theorem keepSo {u : World} {X Y o o' : Nat} {x y : Value} (hne : X ≠ Y) (h : u.cell? ⟨X, o', none⟩ = some x ∧ X < u.heap.size) : (u.setCell ⟨Y, o, none⟩ y).cell? ⟨X, o', none⟩ = some x ∧ X < (u.setCell ⟨Y, o, none⟩ y).heap.size := by
  have hb : (u.setCell ⟨Y, o, none⟩ y).heap[X]? = u.heap[X]? := Below.heap_setCell _ _ _ _ hne
  exact ⟨by rw [World.cell?_of_block (w := u) hb]; exact h.1, by rw [set_size]; exact h.2⟩
end Go.Proofs.YtgaihglploedaaaDoor
