/-
  Several texts in one.
-/
import Derived.Test.YtlnbpobipmejfaaGreatDoorPk23
import Derived.Test.YtlnbpobipmejfaaGreatDoorPk10
import Derived.Test.YtlnbpobipmejfaaGreatDoorPk15
import Derived.Deep.RegionLaw
import Derived.Deep.CutRange
/-
  ChangeOf of the world.
-/
namespace Go.Proofs.YtlnbpobipmejfaaGreatDoor
set_option maxRecDepth 100000
open Go.RowKit
variable {ls : List Nat}

/-- What ChangeOf gives. -/
def ChangeOfPost (b : Nat) (w : World) (e : Ending) (w' : World) : Prop := ∃ C : Chg, e = .returned C.v ∧ (∀ v, StepT b w' v → ChgAt v C) ∧ TapeAt w' b ∧ StepT b w w' ∧ C.I.length ≤ 3 ∧ C.D.length ≤ 40 ∧ C.U.length ≤ 40
/-- The state of ChangeOf. -/
structure ChoW (ls : List Nat) (b : Nat) (w : World) (nm : ByteArray) (pc : Option Addr) (n cc : Nat) (nx : Int) (pr : Option Addr) (m cr : Nat) (vi vd vu : Value) (G : List (Value × List Val)) (D : List Int) (P : List GPair) (v : World) : Prop where
  src : Cell4 v w.heap.size (.string nm) (.slice pc n cc) (.int .i64 nx) (.slice pr m cr)
  res : Cell3 v (w.heap.size + 1) (.slice none 0 0) (.slice none 0 0) (.slice none 0 0)
  cho : ChoC b (w.heap.size + 2) vi vd vu G D P v
  tape : TapeAt v b
  env : Env ls v
  step : StepT b w v
section
variable {b : Nat} {w u v w8 : World} {nm : ByteArray} {pc : Option Addr} {n cc : Nat} {nx : Int} {pr : Option Addr} {m cr : Nat} {vi vd vu v8 : Value} {G : List (Value × List Val)} {D : List Int} {P : List GPair}
theorem ChoW.next (h : ChoW ls b w nm pc n cc nx pr m cr vi vd vu G D P u) (hlt : b < w.heap.size) (h8 : 2 ≤ b) (hs : StepT b u v) (ht : TapeAt v b) : ChoW ls b w nm pc n cc nx pr m cr vi vd vu G D P v :=
  ⟨h.src.step hs (by omega), h.res.step hs (by omega), h.cho.next hs, ht, h.env.step hs h8, h.step.trans hs⟩
theorem ChoW.low (h : ChoW ls b w nm pc n cc nx pr m cr vi vd vu G D P u) (hlt : b < w.heap.size) (h8 : 2 ≤ b) (hb : Below u.heap.size u v) : ChoW ls b w nm pc n cc nx pr m cr vi vd vu G D P v :=
  h.next hlt h8 (StepT.of_below hb) (h.tape.below hb)
theorem ChoW.back (h : ChoW ls b w nm pc n cc nx pr m cr vi vd vu G D P u) (hlt : b < w.heap.size) (h8 : 2 ≤ b) {vi' vd' vu' : Value} {G' : List (Value × List Val)} {D' : List Int} {P' : List GPair} {row : Option Nat} {o : Obj} {k : Nat} {y : Value} (hg : (u.alloc o).grownBy w8 row) (hr : ∀ k, row = some k → w.heap.size + 3 ≤ k)
    (hc : ChoC b (w.heap.size + 2) vi' vd' vu' G' D' P' (w8.setCell ⟨w.heap.size + 2, k, none⟩ y)) : ChoW ls b w nm pc n cc nx pr m cr vi' vd' vu' G' D' P' (w8.setCell ⟨w.heap.size + 2, k, none⟩ y) := by
  have h7 := h.low hlt h8 (below_alloc u o)
  have hz : (w8.setCell ⟨w.heap.size + 2, k, none⟩ y).heap.size = w8.heap.size := by simp [World.setCell]
  have hk : ∀ j, j < w.heap.size + 2 → j < (u.alloc o).heap.size → (w8.setCell ⟨w.heap.size + 2, k, none⟩ y).heap[j]? = (u.alloc o).heap[j]? := fun j h1 h2 => (Below.heap_setCell _ _ _ _ (by show j ≠ w.heap.size + 2; omega)).trans (hg.block j h2 (fun e => by have := hr j e.symm; omega))
  have h4 : ∀ {X : Nat} {x y' z t : Value}, X < w.heap.size + 2 → Cell4 (u.alloc o) X x y' z t → Cell4 (w8.setCell ⟨w.heap.size + 2, k, none⟩ y) X x y' z t := fun hX hc4 => by
    have hb := hk _ hX hc4.lt
    exact ⟨by rw [hz]; exact Nat.lt_of_lt_of_le hc4.lt hg.size, by rw [World.cell?_of_block (w := u.alloc o) hb]; exact hc4.c0, by rw [World.cell?_of_block (w := u.alloc o) hb]; exact hc4.c1, by rw [World.cell?_of_block (w := u.alloc o) hb]; exact hc4.c2, by rw [World.cell?_of_block (w := u.alloc o) hb]; exact hc4.c3, fun o' => by rw [World.frozen?_of_block (w := u.alloc o) hb]; exact hc4.fz o'⟩
  have h3 : ∀ {X : Nat} {x y' z : Value}, X < w.heap.size + 2 → Cell3 (u.alloc o) X x y' z → Cell3 (w8.setCell ⟨w.heap.size + 2, k, none⟩ y) X x y' z := fun hX hc4 => by
    have hb := hk _ hX hc4.lt
    exact ⟨by rw [hz]; exact Nat.lt_of_lt_of_le hc4.lt hg.size, by rw [World.cell?_of_block (w := u.alloc o) hb]; exact hc4.c0, by rw [World.cell?_of_block (w := u.alloc o) hb]; exact hc4.c1, by rw [World.cell?_of_block (w := u.alloc o) hb]; exact hc4.c2, fun o' => by rw [World.frozen?_of_block (w := u.alloc o) hb]; exact hc4.fz o'⟩
  have hst : StepT b w8 (w8.setCell ⟨w.heap.size + 2, k, none⟩ y) ∨ True := .inr trivial
  have hsz := h7.step.size
  refine ⟨h4 (by omega) h7.src, h3 (by omega) h7.res, hc, ?_, ?_, ?_⟩
  · exact (h7.tape.grown hg (fun j hj => by have := hr j hj; omega)).setCell (show b < w.heap.size + 2 by omega) _
  · exact h7.env.keep (by rw [hz]; exact hg.size) (fun j hj => hk j (by omega) (by omega))
  · exact (step_grown_from h7.step hg (fun j hj => by have := hr j hj; omega)).set2 (by omega) _ _ _
end
theorem cell2_stepT {b X : Nat} {u v : World} {x y : Value} (h : Cell2 u X x y) (hs : StepT b u v) (hn : X ≠ b) : Cell2 v X x y :=
  ⟨Nat.lt_of_lt_of_le h.lt hs.size, by rw [hs.cell (by exact h.lt) (by exact hn)]; exact h.c0, by rw [hs.cell (by exact h.lt) (by exact hn)]; exact h.c1, fun o => by rw [hs.frozen (by exact h.lt) (by exact hn)]; exact h.fz o⟩
theorem one_new (u : World) (x : Value) (t : TypeId) : ∀ j y, ([x] : List Value)[j]? = some y → (u.alloc (.cells #[x] t)).cell? ((⟨u.heap.size, 0, none⟩ : Addr).add j) = some y := by
  intro j y hj
  have h0 : j = 0 := by
    have := (List.getElem?_eq_some_iff.1 hj).1
    simp at this; omega
  subst h0
  obtain rfl := Option.some.inj hj
  have hadd : (⟨u.heap.size, 0, none⟩ : Addr).add 0 = ⟨u.heap.size, 0, none⟩ := by unfold Addr.add; split <;> simp_all
  rw [hadd]
  go_simp
/-- A world whose block b holds nothing. -/
def bare (b : Nat) (w : World) : World := { w with heap := w.heap.setIfInBounds b (.cells #[] 0 (0, 0)) }
theorem bare_step (b : Nat) (w : World) : StepT b w (bare b w) := ⟨rfl, rfl, rfl, by show w.heap.size ≤ (w.heap.setIfInBounds b _).size; simp, fun k _ hne => by show (w.heap.setIfInBounds b _)[k]? = _; rw [Array.getElem?_setIfInBounds_ne (fun e => hne e.symm)]⟩
theorem bare_cell {b o : Nat} {w : World} {x : Value} (h : (bare b w).cell? ⟨b, o, none⟩ = some x) : False := by
  unfold bare World.cell? at h
  by_cases hb : b < w.heap.size
  · simp [hb] at h
  · simp [hb] at h
/-- A row of a table that the tape leaves alone: its blocks are not the tape's. -/
theorem rows_apart {b k : Nat} {w wr : World} {pr : Option Addr} {R : List TRow} (HT : ∀ v, StepT b w v → TRowsAt v pr R) (hs : StepT b w wr) (hk : k < R.length) (hpos : 0 < (tAt R k).2.length) :
    ∃ (c o cq oq cp : Nat), pr = some ⟨c, o, none⟩ ∧ c < wr.heap.size ∧ wr.cell? ⟨c, o + k * 2, none⟩ = some (.int .i64 (tAt R k).1) ∧ wr.cell? ⟨c, o + k * 2 + 1, none⟩ = some (.slice (some ⟨cq, oq, none⟩) (tAt R k).2.length cp) ∧ RowAt wr (some ⟨cq, oq, none⟩) (tAt R k).2 ∧ (tAt R k).2.length * 32 ≤ 140737488355328 ∧ cq ≠ b ∧ cq < wr.heap.size := by
  obtain ⟨c, o, q, cp, hp, hc, h0, h1, hr, hz, hn⟩ := HT wr hs k hk
  obtain ⟨cq, oq, hq, hcq, -⟩ := hr 0 hpos
  subst hq
  obtain ⟨c', o', q', cp', hp', -, h0', h1', hr', -⟩ := HT (bare b wr) (hs.trans (bare_step b wr)) k hk
  rw [hp] at hp'
  cases hp'
  have hcb : c ≠ b := fun e => by subst e; exact bare_cell h0'
  have h2 : (bare b wr).cell? ⟨c, o + k * 2 + 1, none⟩ = wr.cell? ⟨c, o + k * 2 + 1, none⟩ := (bare_step b wr).cell (by exact hc) (by exact hcb)
  rw [h2, h1] at h1'
  injection h1' with h1'
  injection h1' with h3 h4 h5
  subst h3
  obtain ⟨c2, o2, hq2, -, k0, -⟩ := hr' 0 hpos
  cases hq2
  exact ⟨c, o, cq, oq, cp, hp, hc, h0, h1, hr, hz, fun e => by subst e; exact bare_cell k0, hcq⟩
theorem row_step {b cq oq : Nat} {u v : World} {l : List Val} (h : RowAt u (some ⟨cq, oq, none⟩) l) (hc : cq ≠ b) (hq : cq < u.heap.size) (hs : StepT b u v) : RowAt v (some ⟨cq, oq, none⟩) l :=
  h.keep hs.size fun a ha => by cases ha; exact hs.block cq hq hc
/-- New values in a block of their own, made since u0. -/
def NewRel (b n : Nat) (u0 : World) (s : Value) (v : World) : Prop := ∃ (g c : Nat) (l : List Val), s = .slice (some ⟨g, 0, none⟩) n c ∧ l.length = n ∧ ValsSized l ∧ NewAt u0.heap.size v (.slice (some ⟨g, 0, none⟩) l.length c) l ∧ StepT b u0 v ∧ TapeAt v b
/-- The cells of one of the new values. -/
theorem NewAt.cells {lo g c r : Nat} {u : World} {l : List Val} (h : NewAt lo u (.slice (some ⟨g, 0, none⟩) l.length c) l) (hr : r < l.length) :
    lo ≤ g ∧ g < u.heap.size ∧ (∀ o, u.frozen? ⟨g, o, none⟩ = false) ∧ u.cell? ⟨g, r * 3, none⟩ = some (.int .i64 (vAt l r).1) ∧ u.cell? ⟨g, r * 3 + 1, none⟩ = some (.int .i64 (vAt l r).2.1) ∧ u.cell? ⟨g, r * 3 + 2, none⟩ = some (.string (vAt l r).2.2) := by
  obtain ⟨g', c', cur, hx, hg, hh, hrow, hc⟩ := h
  injection hx with h1 h2 h3
  injection h1 with h1
  injection h1 with h1
  subst h1
  obtain ⟨c2, o2, hp, hc2, k0, k1, k2⟩ := hrow r hr
  cases hp
  rw [Nat.zero_add] at k0 k1 k2
  exact ⟨hg, (Array.getElem?_eq_some_iff.1 hh).1, fun o => by simp [World.frozen?, hh], k0, k1, k2⟩
/-- The first value of a row. -/
theorem row_first {cq oq : Nat} {u : World} {l : List Val} (h : RowAt u (some ⟨cq, oq, none⟩) l) (hl : 0 < l.length) : u.cell? ⟨cq, oq, none⟩ = some (.int .i64 (vAt l 0).1) ∧ u.cell? ⟨cq, oq + 1, none⟩ = some (.int .i64 (vAt l 0).2.1) ∧ u.cell? ⟨cq, oq + 2, none⟩ = some (.string (vAt l 0).2.2) := by
  obtain ⟨c2, o2, hp, hc2, k0, k1, k2⟩ := h 0 hl
  cases hp
  rw [Nat.zero_mul] at k0 k1 k2
  exact ⟨k0, k1, k2⟩
/-- A new value is set. -/
theorem NewRel.put {b n g c r : Nat} {u0 u : World} {l : List Val} (hl : l.length = n) (hs : ValsSized l) (hn : NewAt u0.heap.size u (.slice (some ⟨g, 0, none⟩) l.length c) l) (hst : StepT b u0 u) (ht : TapeAt u b) (hb : b < u0.heap.size) (hr : r < n) (x : Val) (hx : x.2.2.size ≤ 9223372036854775807) :
    NewRel b n u0 (.slice (some ⟨g, 0, none⟩) n c) (((u.setCell ⟨g, r * 3, none⟩ (.int .i64 x.1)).setCell ⟨g, r * 3 + 1, none⟩ (.int .i64 x.2.1)).setCell ⟨g, r * 3 + 2, none⟩ (.string x.2.2)) := by
  have hr' : r < l.length := by omega
  obtain ⟨hg, -⟩ := hn.cells hr'
  exact ⟨g, c, l.set r x, rfl, by rw [List.length_set]; exact hl, hs.set hr' hx, by rw [List.length_set]; exact hn.put hr' x, ((hst.set2 hg _ _ _).set2 hg _ _ _).set2 hg _ _ _, ((ht.setCell (show b < g by omega) _).setCell (show b < g by omega) _).setCell (show b < g by omega) _⟩
theorem NewRel.next {b n : Nat} {u0 u v : World} {s : Value} (h : NewRel b n u0 s u) (hb : b < u0.heap.size) (hs : StepT b u v) (ht : TapeAt v b) : NewRel b n u0 s v := by
  obtain ⟨g, c, l, h1, h2, h3, h4, h5, h6⟩ := h
  exact ⟨g, c, l, h1, h2, h3, h4.keep hs.size fun k h7 h8 => hs.block k h8 (by omega), h5.trans hs, ht⟩
theorem NewRel.tape {b n : Nat} {u0 u : World} {s : Value} (h : NewRel b n u0 s u) : TapeAt u b := by
  obtain ⟨g, c, l, h1, h2, h3, h4, h5, h6⟩ := h
  exact h6
theorem NewRel.of {b n : Nat} {u0 u v : World} {s : Value} {l : List Val} (hl : l.length = n) (hs : ValsSized l) (hn : NewAt u.heap.size v s l) (hst : StepT b u0 u) (hb : Below u.heap.size u v) (ht : TapeAt u b) : NewRel b n u0 s v := by
  obtain ⟨g, c, cur, hx, h2⟩ := hn
  subst hx
  exact ⟨g, c, l, by rw [hl], hl, hs, ⟨g, c, cur, rfl, Nat.le_trans hst.size h2.1, h2.2⟩, hst.trans (StepT.of_below hb), ht.below hb⟩
theorem NewRel.ex {b n : Nat} {u0 u : World} {s : Value} (h : NewRel b n u0 s u) : ∃ g c, s = .slice (some ⟨g, 0, none⟩) n c := by
  obtain ⟨g, c, l, h1, -⟩ := h
  exact ⟨g, c, h1⟩
theorem NewRel.open {b n g c : Nat} {u0 u : World} (h : NewRel b n u0 (.slice (some ⟨g, 0, none⟩) n c) u) : ∃ l, l.length = n ∧ ValsSized l ∧ NewAt u0.heap.size u (.slice (some ⟨g, 0, none⟩) l.length c) l ∧ StepT b u0 u ∧ TapeAt u b := by
  obtain ⟨g', c', l, h1, h2, h3, h4, h5, h6⟩ := h
  injection h1 with e1 _ e2
  injection e1 with e1
  injection e1 with e1
  subst e1 e2
  exact ⟨l, h2, h3, h4, h5, h6⟩
theorem cell3_put (u : World) {X : Nat} {a b c : Value} (h : Cell3 u X a b c) (x y z : Value) : Cell3 (((u.setCell ⟨X, 0, none⟩ x).setCell ⟨X, 1, none⟩ y).setCell ⟨X, 2, none⟩ z) X x y z := by
  obtain ⟨hl, c0, c1, c2, fz⟩ := h
  refine ⟨by simpa [World.setCell] using hl, ?_, ?_, ?_, fun o => ?_⟩
  · go_simp
  · go_simp
  · go_simp
  · rw [World.frozen?_setCell, World.frozen?_setCell, World.frozen?_setCell]; exact fz o
theorem step_append_pair {w : World} {ops : Array Oper} {o : Oper} {a : Act} {K : Act → World → Prop} {Q : Exit → Act → World → Prop} {E : Prop} (hgd : o.guard = none) (s x : Operand)
    (ho : o.op = .call { callee := .builtin .append, args := #[s, x], argTypes := #[23, 23] })
    (base : Nat) (v : Value) (P : List GPair) (hs : a.eval s = v) (hown : w.ownsRow base 75 3 v P.length (pcells P))
    (N : Nat) (p : GPair) (hx : a.eval x = .slice (some ⟨N, 0, none⟩) 1 1) (h0 : w.cell? ⟨N, 0, none⟩ = some (.int .i64 p.1)) (h1 : w.cell? ⟨N, 1, none⟩ = some p.2.1.1) (h2 : w.cell? ⟨N, 2, none⟩ = some p.2.2.1) (hy : p.2.1.1.oneCell' = true) (hz : p.2.2.1.oneCell' = true) (hsum : P.length ≤ 1000) (hbase : base ≤ w.heap.size)
    (h : ∀ v' w', w'.ownsRow base 75 3 v' (P ++ [p]).length (pcells (P ++ [p])) → w.grownBy w' v.ownBlock → K (a.put o.dst v') w') : if Region.wanted o (yielded ops a.tmps) = true then Oper.wp Tryz.prog o a w K Q else E := by
  obtain ⟨i0, hi, hz0, hz1, hz2⟩ := info_parts info_pair
  refine step_of hgd (wp_append_own w s x 23 ho base 75 i0 _ 3 56 Tryz.underlying23 hi hz0 hz1 hz2 rfl (by decide) v P.length (pcells P) hs hown ⟨N, 0, none⟩ 1 1 [.int .i64 p.1, p.2.1.1, p.2.2.1] hx rfl (pair_news h0 h1 h2) (fun u hu => by
    rcases List.mem_cons.1 hu with rfl | hu
    · rfl
    · rcases List.mem_cons.1 hu with rfl | hu
      · exact hy
      · obtain rfl := List.mem_singleton.1 hu
        exact hz) (by unfold maxLen; omega) (by omega) hbase ?_)
  intro v' w' h1 h2 _
  refine h v' w' ?_ h2
  rw [List.length_append, List.length_singleton, pcells_append]
  exact h1
set_option maxHeartbeats 16000000 in
theorem changeof_any (b : Nat) (w : World) (h8b : 2 ≤ b) (ht : TapeAt w b) (hE : Env ls w) (hlw : 0 ∈ ls) (nm : ByteArray) (a : Addr) (n cc : Nat) (f : Nat → Col) (nx : Int) (pr : Option Addr) (cr : Nat) (R : List TRow)
    (HT0 : ∀ v, StepT b w v → TabAt v ⟨nm, some a, n, cc, f, nx, pr, cr, R⟩) (hval : validT nm n f nx R = true) (hR : R.length ≤ 40) (hab : a.block ≠ b) (haw : a.block < w.heap.size) :
    Calls Tryz.prog 34 #[.pointer (some ⟨b, 0, none⟩), .agg #[.string nm, .slice (some a) n cc, .int .i64 nx, .slice pr R.length cr]] w (ChangeOfPost b w) := by
  have hlt := ht.lt
  obtain ⟨hso, -, -, -, hrows, -⟩ := validT_parts hval
  obtain ⟨hn1, hn6⟩ := schemaOK_range hso
  have hgood := schemaOK_good hso
  have HTY : Hid (∀ i, i < n → 1 ≤ (f i).ty ∧ (f i).ty ≤ 3) := Lib.hid fun i hi => (hgood i hi).ty
  have HLEN : Hid (∀ i, i < R.length → (tAt R i).2.length = n) := Lib.hid fun i hi => fitsRow_zero (hrows i hi).2.2.2
  have HT := Lib.hid HT0
  have HW : Hid (ChoW ls b w nm (some a) n cc nx pr R.length cr (.slice none 0 0) (.slice none 0 0) (.slice none 0 0) [] [] [] (((w.alloc (.cells #[.string nm, .slice (some a) n cc, .int .i64 nx, .slice pr R.length cr] 34)).alloc (.cells #[.slice none 0 0, .slice none 0 0, .slice none 0 0] 80)).alloc (.cells #[.slice none 0 0, .slice none 0 0, .slice none 0 0] 80))) :=
    Lib.hid ⟨((cell4_new w _ _ _ _ _).low (below_alloc _ _)).low (below_alloc _ _), ((cell3_new (w.alloc _) _ _ _ _).at (size_alloc _ _)).low (below_alloc _ _),
      ⟨(cell3_new ((w.alloc _).alloc _) _ _ _ _).at (by rw [size_alloc, size_alloc]), ⟨rfl, Or.inl ⟨rfl, rfl⟩⟩, ⟨rfl, Or.inl ⟨rfl, rfl⟩⟩, ⟨rfl, Or.inl ⟨rfl, rfl⟩⟩, fun g hg => (by cases hg), fun g hg => (by cases hg), by omega⟩,
      ((ht.alloc _).alloc _).alloc _, ((hE.alloc _).alloc _).alloc _, (((StepT.refl b w).alloc _).alloc _).alloc _⟩
  clear hso hrows HT0 hE hval ht hgood
  go_enter Tryz.func34, Tryz.ntmps34
  go_upto_region 2 with (fail)
  generalize World.alloc _ _ = u0 at HW ⊢
  rw [show w.heap.size + 1 + 1 = w.heap.size + 2 from rfl]
  obtain ⟨xl, x0, x1, x2, x3, -⟩ := HW.out.src
  go_wp2_with fail
  go_loopw [14] (fun i v => ∃ (k : Nat) (vd vu : Value) (D : List Int) (P : List GPair), k ≤ R.length ∧ i = .int .i64 k ∧ D.length ≤ k ∧ P.length ≤ k ∧ ChoW ls b w nm (some a) n cc nx pr R.length cr (.slice none 0 0) vd vu [] D P v) (fun i _ => R.length - (intOf i).toNat)
  case atStart => exact ⟨0, _, _, [], [], Nat.zero_le _, rfl, Nat.le_refl _, Nat.le_refl _, HW.out⟩
  clear HW x0 x1 x2 x3 xl
  case round =>
    obtain ⟨k, vd, vu, D, P, hk, rfl, hD, hP, hw⟩ := hrel
    have HW := Lib.hid hw
    clear hw
    by_cases hlt' : k < R.length
    · have hltd : decide ((k : Int) < R.length) = true := decide_eq_true (by omega)
      have hpos : 0 < (tAt R k).2.length := by rw [HLEN.out k hlt']; omega
      obtain ⟨c, o, cq, oq, cp, hpr, hc, h0, h1, hr, hsz, hcqb, hcq⟩ := rows_apart (fun v hv => (HT.out v hv).rows) HW.out.step hlt' hpos
      have hsv := (HT.out wr HW.out.step).sized _ (tAt_mem hlt')
      dsimp only at hpr hsv
      subst hpr
      have hln := HLEN.out k hlt'
      rw [hln] at h1
      obtain ⟨id, hid⟩ : ∃ id, (tAt R k).1 = id := ⟨_, rfl⟩
      obtain ⟨l, hl⟩ : ∃ l, (tAt R k).2 = l := ⟨_, rfl⟩
      rw [hid] at h0
      rw [hl] at hr hsz hsv hln hpos
      have HLN := Lib.hid hln
      have hbn := below_alloc wr (.cells #[.int .i64 id, .slice (some ⟨cq, oq, none⟩) n cp] 58)
      have HW1 := Lib.hid (HW.out.low hlt h8b hbn)
      have HX1 := Lib.hid (cell2_new wr (.int .i64 id) (.slice (some ⟨cq, oq, none⟩) n cp) 58)
      have HR1 := Lib.hid (hr.low hbn)
      have hcq1 : cq < (wr.alloc (.cells #[.int .i64 id, .slice (some ⟨cq, oq, none⟩) n cp] 58)).heap.size := Nat.lt_of_lt_of_le hcq hbn.size
      have HSZ := Lib.hid hsz
      have HSV := Lib.hid hsv
      have HPX : Hid (w.heap.size + 3 ≤ wr.heap.size) := Lib.hid HW.out.cho.box.lt
      clear hr HW hbn hsz hsv hln hl hid hcq
      go_upto_region 5 with (fail)
      clear h0 h1 hc
      generalize World.alloc _ _ = W1 at HW1 HX1 HR1 hcq1 ⊢
      generalize wr.heap.size = X at HX1 HPX ⊢
      go_wp2_with fail
      refine (next_any b 4 _ (by omega) (by omega) HW1.out.tape).mono ?_
      rintro e W2 ⟨r, rfl, hr0, hr1, ht2, hs2⟩
      have HW2 := Lib.hid (HW1.out.next hlt h8b hs2 ht2)
      have HX2 := Lib.hid (cell2_stepT HX1.out hs2 (by have := HPX.out; omega))
      have HR2 := Lib.hid (row_step HR1.out hcqb hcq1 hs2)
      have hcq2 : cq < W2.heap.size := Nat.lt_of_lt_of_le hcq1 hs2.size
      clear HW1 HX1 HR1 hcq1 ht2 hs2
      by_cases hr2 : r = 0
      · subst hr2
        have HDL : Hid (D.length ≤ 40) := Lib.hid (by omega)
        have HL2 := Lib.hid (HW2.out.low hlt h8b (below_alloc W2 (.cells #[.int .i64 id] 3)))
        have HLO : Hid (w.heap.size + 3 ≤ (W2.alloc (.cells #[.int .i64 id] 3)).heap.size) := Lib.hid HL2.out.cho.box.lt
        have HNW := Lib.hid (one_new W2 (.int .i64 id) 3)
        obtain ⟨i0, hi0, hz0, hz1, hz2⟩ := info_parts info_int7
        obtain ⟨xl, x0, x1, x2, xf⟩ := HW2.out.cho.box
        obtain ⟨pl, p0, p1, pf⟩ := HX2.out
        go_wp2_with (at_builtin; refine wpList_append_own _ rfl (.tmp 23) (.tmp 26) 29 rfl (w.heap.size + 3) 3 i0 _ 1 8 Tryz.underlying29 hi0 hz0 hz1 hz2 rfl (by decide) vd D.length (icells D) (by rfl) HL2.out.cho.num ⟨W2.heap.size, 0, none⟩ 1 1 [.int .i64 id] (by rfl) rfl HNW.out (by intro u hu; obtain rfl := List.mem_singleton.1 hu; rfl) (by have := HDL.out; unfold maxLen; omega) (by have := HDL.out; omega) HLO.out ?_; intro v8 w8 hown8 hg8 _; (have hk8 := owns_block HL2.out.cho.num); obtain ⟨⟨zl, z0, z1, z2, zf⟩, hs8⟩ := HW2.out.cho.pushD (z := id) (by rw [List.length_append]; unfold icells at hown8 ⊢; rw [List.map_append]; exact hown8) hg8; (have hw8 := HW2.out.back hlt h8b hg8 hk8 hs8); obtain ⟨p8, c8, e8⟩ := own_ex hown8; subst e8; (have HS8 := Lib.hid hw8); clear hs8 hown8 hg8 hw8 hk8 HW2 HL2 HLO HNW xl x0 x1 x2 xf pl p0 p1 pf)
        go_roundw
        case rel => exact ⟨k + 1, _, vu, D ++ [id], P, by omega, by go_num, by rw [List.length_append, List.length_singleton]; omega, by omega, HS8.out⟩
        case measure => simp [intOf]; omega
      · by_cases hr3 : r = 1
        · subst hr3
          have HCOL : Hid (ColsAt W2 (some a) n f) := Lib.hid (HT.out W2 HW2.out.step).cols
          have haw2 : a.block < W2.heap.size := by have := HW2.out.step.size; omega
          have HB2 : Hid (w.heap.size + 3 ≤ W2.heap.size) := Lib.hid HW2.out.cho.box.lt
          obtain ⟨xl, x0, x1, x2, x3, -⟩ := HW2.out.src
          go_wp2_with fail
          refine (row_any b _ h8b HW2.out.tape HW2.out.env hlw nm a n cc f (by omega) HCOL.out hab haw2 HTY.out).mono ?_
          rintro e W3 ⟨v3, l3, rfl, ho3, hl3, hf3, ht3, hs3⟩
          have hnew3 : NewAt W2.heap.size W3 v3 l3 := (NewAt.of ho3 (by omega)).mono (Nat.le_succ _)
          have hsv3 : ValsSized l3 := fun i hi => by have := (hf3 i hi).2; omega
          have hnc := hnew3
          obtain ⟨g3, c3, cur3, hv3, hrest⟩ := hnc
          clear hrest cur3 ho3 hf3
          subst hv3
          rw [hl3]
          have HN3 : Hid (NewRel b n W2 (.slice (some ⟨g3, 0, none⟩) n c3) W3) := Lib.hid ⟨g3, c3, l3, rfl, hl3, hsv3, hnew3, hs3, ht3⟩
          clear hnew3 hsv3 hl3 hs3 ht3 xl x0 x1 x2 x3 HCOL haw2
          go_upto_region 10 with (fail)
          go_wp2_with fail
          refine (tbool_any b 2 _ (by omega) (by omega) HN3.out.tape).mono ?_
          rintro e W5 ⟨r5, rfl, ht5, hs5⟩
          have HN5 := Lib.hid (HN3.out.next (by have := HB2.out; omega) hs5 ht5)
          clear ht5 hs5 HN3
          go_upto_if 36 with (fail)
          go_cut [8] from 37 to 42 (fun s8 wx => NewRel b n W2 s8 wx)
          case first =>
            cases r5
            · go_wp2_with fail
              go_meet
              exact HN5.out
            · obtain ⟨l5, hl5, hsv5, hn5, hst5, ht5⟩ := HN5.out.open
              have HX5 := Lib.hid (cell2_stepT HX2.out hst5 (by have := HPX.out; omega))
              have HR5 := Lib.hid (row_step HR2.out hcqb hcq2 hst5)
              obtain ⟨pl, p0, p1, pf⟩ := HX5.out
              obtain ⟨q0, q1, q2⟩ := row_first HR5.out hpos
              obtain ⟨-, gl, gf, g0, g1, g2⟩ := hn5.cells (r := 0) (by omega)
              simp only [Nat.zero_mul, Nat.zero_add] at g0 g1 g2
              have hput := NewRel.put (r := 0) hl5 hsv5 hn5 hst5 ht5 (by have := HB2.out; omega) (by omega) (vAt l 0) (by have := HSV.out 0 hpos; omega)
              simp only [Nat.zero_mul, Nat.zero_add] at hput
              have HPUT := Lib.hid hput
              clear hl5 hsv5 hn5 hst5 ht5 hput HN5
              go_wp2_with fail
              go_meet
              exact HPUT.out
          case rest =>
            obtain ⟨g6, c6, h6⟩ := hcut.ex
            subst h6
            have HN6 := Lib.hid hcut
            clear hcut HN5
            go_upto_region 12 with (fail)
            go_wp2_with fail
            refine (tbool_any b 8 _ (by omega) (by omega) HN6.out.tape).mono ?_
            rintro e W7 ⟨r7, rfl, ht7, hs7⟩
            have HN7 := Lib.hid (HN6.out.next (by have := HB2.out; omega) hs7 ht7)
            clear ht7 hs7 HN6
            go_upto_if 44 with (fail)
            go_cut [8] from 45 to 47 (fun s8 wx => NewRel b n W2 s8 wx)
            case first =>
              cases r7
              · go_wp2_with fail
                go_meet
                exact HN7.out
              · obtain ⟨l5, hl5, hsv5, hn5, hst5, ht5⟩ := HN7.out.open
                have HX5 := Lib.hid (cell2_stepT HX2.out hst5 (by have := HPX.out; omega))
                have HR5 := Lib.hid (row_step HR2.out hcqb hcq2 hst5)
                obtain ⟨pl, p0, p1, pf⟩ := HX5.out
                have HTP := Lib.hid ht5
                have HST := Lib.hid hst5
                have HO : Hid (W7.ownsRow W7.heap.size 55 3 (.slice none 0 0) 0 (vcells [])) := Lib.hid ⟨rfl, Or.inl ⟨rfl, rfl⟩⟩
                clear hl5 hsv5 hn5 hst5 ht5 HN7
                go_wp2_with (at_builtin; refine wpList_append_vals rfl _ (.tmp 46) rfl W7.heap.size _ 0 [] rfl HO.out (some ⟨cq, oq, none⟩) l cp (by rw [HLN.out]; rfl) HR5.out (fun e => by cases e) (by have := HSZ.out; omega) (Nat.le_refl _) ?_; intro v7 w7 hown7 hgr7; rw [Nat.zero_add, List.nil_append] at hown7; (have hn7 := NewAt.of hown7 hpos); (have hb7 := grown_below (Below.refl W7.heap.size W7) (Nat.le_refl _) hgr7 (fun k hk => by cases hk)); (have hr7 := NewRel.of HLN.out HSV.out hn7 HST.out hb7 HTP.out); (have HR7 := Lib.hid hr7); clear hown7 hgr7 hn7 hb7 hr7)
                go_meet
                exact HR7.out
            case rest =>
              obtain ⟨g8, c8, h8⟩ := hcut.ex
              subst h8
              have HN8 := Lib.hid hcut
              clear hcut HN7
              go_upto_region 14 with (fail)
              go_wp2_with fail
              refine (tbool_any b 12 _ (by omega) (by omega) HN8.out.tape).mono ?_
              rintro e W9 ⟨r9, rfl, ht9, hs9⟩
              have HN9 := Lib.hid (HN8.out.next (by have := HB2.out; omega) hs9 ht9)
              clear ht9 hs9 HN8
              go_upto_if 49 with (fail)
              go_cut [8] from 50 to 57 (fun s8 wx => NewRel b n W2 s8 wx)
              case first =>
                cases r9
                · go_wp2_with fail
                  go_meet
                  exact HN9.out
                · obtain ⟨l5, hl5, hsv5, hn5, hst5, ht5⟩ := HN9.out.open
                  go_wp2_with fail
                  refine (next_any b n _ (by omega) (by omega) ht5).mono ?_
                  rintro e Wa ⟨ra, rfl, ha0, ha1, hta, hsa⟩
                  obtain ⟨j, rfl⟩ := Int.eq_ofNat_of_zero_le ha0
                  have HNa := Lib.hid (HN9.out.next (by have := HB2.out; omega) hsa hta)
                  clear hl5 hsv5 hn5 ht5 HN9
                  go_wp2_with fail
                  refine (value_any b _ (by omega) hta ((HW2.out.next hlt h8b (hst5.trans hsa) hta).env.words hlw)).mono ?_
                  rintro e Wb ⟨kb, nb, sb, rfl, hvb, -, htb, hsb⟩
                  have HNb := HNa.out.next (by have := HB2.out; omega) hsb htb
                  obtain ⟨l6, hl6, hsv6, hn6, hst6, ht6⟩ := HNb.open
                  obtain ⟨-, gl, gf, g0, g1, g2⟩ := hn6.cells (r := j) (by omega)
                  have hput := NewRel.put (r := j) hl6 hsv6 hn6 hst6 ht6 (by have := HB2.out; omega) (by omega) (kb, nb, sb) (by have := hvb.size; dsimp only; omega)
                  have HPUT := Lib.hid hput
                  have hj2 : (j : Int) < (n : Int) := ha1
                  clear hl6 hsv6 hn6 hst6 ht6 hput HNb HNa htb hsb hta hsa hst5
                  go_wp2_with fail
                  go_meet
                  exact HPUT.out
              case rest =>
                obtain ⟨g9, c9, h9⟩ := hcut.ex
                subst h9
                have hre := hcut
                clear hcut HN9
                go_upto_region 16 with (fail)
                rename World => W9
                obtain ⟨l9, hl9, hsv9, hn9', hst9, ht9⟩ := hre.open
                have hn9 : NewAt W2.heap.size W9 (.slice (some ⟨g9, 0, none⟩) n c9) l9 := by have := hn9'; rw [hl9] at this; exact this
                have hdr : Below W9.heap.size W9 W9.drew := (Below.refl W9.heap.size W9).drew
                have HS1 := Lib.hid ((HW2.out.next hlt h8b hst9 ht9).low hlt h8b hdr)
                have HN1 := Lib.hid ((hn9.mono HB2.out).keep (v := W9.drew) hdr.size (fun k _ h => hdr.block k h))
                have HX1 := Lib.hid (cell2_stepT HX2.out hst9 (by have := HPX.out; omega))
                have HR1 := Lib.hid ((row_step HR2.out hcqb hcq2 hst9).low hdr)
                have HL9 := Lib.hid hl9
                have HV9 := Lib.hid hsv9
                have hl10 : l9.length ≤ 10 := by omega
                have hlq10 : l.length ≤ 10 := by have := HLN.out; omega
                clear hdr hl9 hsv9 hn9 hn9' hst9 ht9 hre HW2 HX2 HR2
                obtain ⟨pl, p0, p1, pf⟩ := HX1.out
                obtain ⟨xl, x0, x1, x2, xf⟩ := HS1.out.cho.box
                go_region_law (first
                  | (refine step_copy_vals (by rfl) (.const (.slice none 0 0)) (.tmp 63) (by rfl) (w.heap.size + 3) (by rfl) ⟨cq, oq, none⟩ l cp (by simp [Act.eval, HLN.out]) HR1.out HSZ.out (by exact HS1.out.cho.box.lt) ?_; intro v2 w2 hin2 hb2; (have hn2 : NewAt (w.heap.size + 3) w2 v2 l := NewAt.of hin2.1 hpos); obtain ⟨g2, c2, cur2, hv2, -⟩ := _root_.id hn2; subst hv2; (have hs2 := Lib.hid (HS1.out.low hlt h8b hb2)); (have HN2 := Lib.hid hn2); (have HM2 := Lib.hid (HN1.out.keep hb2.size (fun k _ h => hb2.block k h))); obtain ⟨q0, q1, ql⟩ := keepCT hb2 ⟨p0, p1, pl⟩; (have y2 := hs2.out.cho.box.c2); (have yl := hs2.out.cho.box.lt); clear hin2 hn2)
                  | (refine step_append_pair (by rfl) (.tmp 59) (.tmp 67) (by rfl) (w.heap.size + 3) vu P (by simp [Act.eval]) (hs2.out.cho.to (below_alloc _ _)).upd w2.heap.size (id, (.slice (some ⟨g2, 0, none⟩) l.length c2, l), (.slice (some ⟨g9, 0, none⟩) n c9, l9)) (by simp [Act.eval]) (cell3_new _ _ _ _ _).c0 (cell3_new _ _ _ _ _).c1 (cell3_new _ _ _ _ _).c2 rfl rfl (by omega) (by rw [size_alloc]; exact Nat.le_succ_of_le hs2.out.cho.box.lt) ?_; intro v8 w8 hown8 hgr8; (have hk8 := owns_block hs2.out.cho.upd); obtain ⟨⟨zl, z0, z1, z2, zf⟩, hs8⟩ := hs2.out.cho.pushU (p := (id, (.slice (some ⟨g2, 0, none⟩) l.length c2, l), (.slice (some ⟨g9, 0, none⟩) n c9, l9))) ⟨⟨HN2.out, hlq10⟩, HM2.out, HV9.out, hl10⟩ hown8 hgr8; (have hw8 := hs2.out.back hlt h8b hgr8 hk8 hs8); obtain ⟨p8, c8, e8⟩ := own_ex hown8; subst e8; rw [List.length_append, List.length_singleton] at hw8; (have HS8 := Lib.hid hw8); clear hs8 hown8 hgr8 hw8 hk8))
                all_goals
                  clear q0 q1 ql y2 yl zl z0 z1 z2 zf p0 p1 pl pf xl x0 x1 x2 xf hs2 HN2 HM2 HX1 HR1 HS1 HN1
                  generalize World.setCell _ _ _ = W10 at HS8 ⊢
                  go_wp2
                  go_roundw
                  case rel => exact ⟨k + 1, vd, _, D, P ++ [(id, (.slice (some ⟨g2, 0, none⟩) l.length c2, l), (.slice (some ⟨g9, 0, none⟩) n c9, l9))], by omega, by go_num, by omega, by rw [List.length_append, List.length_singleton]; omega, HS8.out⟩
                  case measure => simp [intOf]; omega
        · have g0 : (r == 0) = false := beq_eq_false_iff_ne.2 hr2
          have g1 : (r == 1) = false := beq_eq_false_iff_ne.2 hr3
          go_wp2
          go_roundw
          case rel => exact ⟨k + 1, vd, vu, D, P, by omega, by go_num, by omega, by omega, HW2.out⟩
          case measure => simp [intOf]; omega
    · have hltd : decide ((k : Int) < R.length) = false := decide_eq_false (by omega)
      have HDL : Hid (D.length ≤ 40) := Lib.hid (by omega)
      have HPL : Hid (P.length ≤ 40) := Lib.hid (by omega)
      clear hD hP
      go_upto_region 18 with (fail)
      go_wp2_with fail
      refine (next_any b 4 _ (by omega) (by omega) HW.out.tape).mono ?_
      rintro e W2 ⟨r, rfl, hr0, hr1, ht2, hs2⟩
      obtain ⟨r, rfl⟩ := Int.eq_ofNat_of_zero_le hr0
      have HW2 := Lib.hid (HW.out.next hlt h8b hs2 ht2)
      clear HW ht2 hs2
      go_wp2_with fail
      go_loopw [9] (fun i v => ∃ (t : Nat) (vi : Value) (G : List (Value × List Val)), i = .int .i64 t ∧ t + G.length ≤ 3 ∧ ChoW ls b w nm (some a) n cc nx pr R.length cr vi vd vu G D P v) (fun i _ => (intOf i).toNat)
      case atStart => exact ⟨r, _, [], rfl, by simp; omega, HW2.out⟩
      clear HW2
      case round =>
        obtain ⟨t, vi, G, rfl, htG, hw⟩ := hrel
        have HW := Lib.hid hw
        clear hw
        by_cases ht0 : 0 < t
        · obtain ⟨s, rfl⟩ : ∃ s, t = s + 1 := ⟨t - 1, by omega⟩
          have hd0 : decide ((0 : Int) < ((s + 1 : Nat) : Int)) = true := decide_eq_true (by omega)
          obtain ⟨W2, hW2⟩ : ∃ u, wr = u := ⟨_, rfl⟩
          subst hW2
          have HCOL : Hid (ColsAt wr (some a) n f) := Lib.hid (HT.out wr HW.out.step).cols
          have haw2 : a.block < wr.heap.size := by have := HW.out.step.size; omega
          have HB2 : Hid (w.heap.size + 3 ≤ wr.heap.size) := Lib.hid HW.out.cho.box.lt
          obtain ⟨xl, x0, x1, x2, x3, -⟩ := HW.out.src
          go_wp2_with fail
          refine (row_any b _ h8b HW.out.tape HW.out.env hlw nm a n cc f (by omega) HCOL.out hab haw2 HTY.out).mono ?_
          rintro e W3 ⟨v3, l3, rfl, ho3, hl3, hf3, ht3, hs3⟩
          have hnew3 : NewAt wr.heap.size W3 v3 l3 := (NewAt.of ho3 (by omega)).mono (Nat.le_succ _)
          have hsv3 : ValsSized l3 := fun i hi => by have := (hf3 i hi).2; omega
          obtain ⟨g3, c3, cur3, hv3, hrest⟩ := id hnew3
          clear hrest cur3 ho3 hf3
          subst hv3
          rw [hl3]
          have HN3 : Hid (NewRel b n wr (.slice (some ⟨g3, 0, none⟩) n c3) W3) := Lib.hid ⟨g3, c3, l3, rfl, hl3, hsv3, hnew3, hs3, ht3⟩
          clear hnew3 hsv3 hl3 hs3 ht3 xl x0 x1 x2 x3 HCOL haw2
          go_wp2_with fail
          refine (tbool_any b 12 _ (by omega) (by omega) HN3.out.tape).mono ?_
          rintro e W9 ⟨r9, rfl, ht9, hs9⟩
          have HN9 := Lib.hid (HN3.out.next (by have := HB2.out; omega) hs9 ht9)
          clear ht9 hs9 HN3
          go_upto_if 82 with (fail)
          go_cut [10] from 83 to 90 (fun s8 wx => NewRel b n wr s8 wx)
          case first =>
            cases r9
            · go_wp2_with fail
              go_meet
              exact HN9.out
            · obtain ⟨l5, hl5, hsv5, hn5, hst5, ht5⟩ := HN9.out.open
              go_wp2_with fail
              refine (next_any b n _ (by omega) (by omega) ht5).mono ?_
              rintro e Wa ⟨ra, rfl, ha0, ha1, hta, hsa⟩
              obtain ⟨j, rfl⟩ := Int.eq_ofNat_of_zero_le ha0
              have HNa := Lib.hid (HN9.out.next (by have := HB2.out; omega) hsa hta)
              clear hl5 hsv5 hn5 ht5 HN9
              go_wp2_with fail
              refine (value_any b _ (by omega) hta ((HW.out.next hlt h8b (hst5.trans hsa) hta).env.words hlw)).mono ?_
              rintro e Wb ⟨kb, nb, sb, rfl, hvb, -, htb, hsb⟩
              have HNb := HNa.out.next (by have := HB2.out; omega) hsb htb
              obtain ⟨l6, hl6, hsv6, hn6, hst6, ht6⟩ := HNb.open
              obtain ⟨-, gl, gf, g0, g1, g2⟩ := hn6.cells (r := j) (by omega)
              have hput := NewRel.put (r := j) hl6 hsv6 hn6 hst6 ht6 (by have := HB2.out; omega) (by omega) (kb, nb, sb) (by have := hvb.size; dsimp only; omega)
              have HPUT := Lib.hid hput
              have hj2 : (j : Int) < (n : Int) := ha1
              clear hl6 hsv6 hn6 hst6 ht6 hput HNb HNa htb hsb hta hsa hst5
              go_wp2_with fail
              go_meet
              exact HPUT.out
          case rest =>
            obtain ⟨g9, c9, h9⟩ := hcut.ex
            subst h9
            have hre := hcut
            clear hcut HN9
            go_upto_region 24 with (fail)
            rename World => W9
            obtain ⟨l9, hl9, hsv9, hn9', hst9, ht9⟩ := hre.open
            have hn9 : NewAt wr.heap.size W9 (.slice (some ⟨g9, 0, none⟩) n c9) l9 := by have := hn9'; rw [hl9] at this; exact this
            have HS1 := Lib.hid (HW.out.next hlt h8b hst9 ht9)
            have HN1 := Lib.hid (hn9.mono HB2.out)
            have HV9 := Lib.hid hsv9
            have hl10 : l9.length ≤ 10 := by omega
            clear hl9 hsv9 hn9 hn9' hst9 ht9 hre HW
            have HL2 := Lib.hid (HS1.out.low hlt h8b (below_alloc W9 (.cells #[.slice (some ⟨g9, 0, none⟩) n c9] 56)))
            have HLO : Hid (w.heap.size + 3 ≤ (W9.alloc (.cells #[.slice (some ⟨g9, 0, none⟩) n c9] 56)).heap.size) := Lib.hid HL2.out.cho.box.lt
            have HNW := Lib.hid (one_new W9 (.slice (some ⟨g9, 0, none⟩) n c9) 56)
            obtain ⟨i0, hi0, hz0, hz1, hz2⟩ := info_parts info_row7
            obtain ⟨xl, x0, x1, x2, xf⟩ := HS1.out.cho.box
            go_wp2_with (at_builtin; refine wpList_append_own _ rfl (.tmp 92) (.tmp 94) 43 rfl (w.heap.size + 3) 56 i0 _ 1 24 Tryz.underlying43 hi0 hz0 hz1 hz2 rfl (by decide) vi G.length (G.map (·.1)) (by rfl) HL2.out.cho.ins ⟨W9.heap.size, 0, none⟩ 1 1 [.slice (some ⟨g9, 0, none⟩) n c9] (by rfl) rfl HNW.out (by intro u hu; obtain rfl := List.mem_singleton.1 hu; rfl) (by unfold maxLen; omega) (by omega) HLO.out ?_; intro v8 w8 hown8 hg8 _; (have hk8 := owns_block HL2.out.cho.ins); obtain ⟨⟨zl, z0, z1, z2, zf⟩, hs8⟩ := HS1.out.cho.pushI (g := (.slice (some ⟨g9, 0, none⟩) n c9, l9)) ⟨HN1.out, HV9.out, hl10⟩ (by rw [List.length_append, List.map_append]; exact hown8) hg8; (have hw8 := HS1.out.back hlt h8b hg8 hk8 hs8); obtain ⟨p8, c8, e8⟩ := own_ex hown8; subst e8; (have HS8 := Lib.hid hw8); clear hs8 hown8 hg8 hw8 hk8 HL2 HLO HNW xl x0 x1 x2 xf HS1)
            go_roundw
            case rel => exact ⟨s, _, G ++ [(.slice (some ⟨g9, 0, none⟩) n c9, l9)], by go_num, by rw [List.length_append, List.length_singleton]; omega, HS8.out⟩
            case measure => simp [intOf] <;> omega
        · obtain rfl : t = 0 := by omega
          obtain ⟨pi, ci, ei⟩ := own_ex HW.out.cho.ins
          obtain ⟨pd, cd, ed⟩ := own_ex HW.out.cho.num
          obtain ⟨pu, cu, eu⟩ := own_ex HW.out.cho.upd
          subst ei ed eu
          obtain ⟨xl, x0, x1, x2, xf⟩ := HW.out.cho.box
          obtain ⟨yl, y0, y1, y2, yf⟩ := HW.out.res
          have HCH := Lib.hid HW.out.cho
          have HST := Lib.hid HW.out.step
          have HTP := Lib.hid HW.out.tape
          have HYS := Lib.hid (cell3_put wr HW.out.res (.slice pi G.length ci) (.slice pd D.length cd) (.slice pu P.length cu))
          clear HW
          go_wp2
          obtain ⟨-, s0, s1, s2, -⟩ := HYS.out
          refine bodyPost_ret (v := .agg #[.slice pi G.length ci, .slice pd D.length cd, .slice pu P.length cu]) (by simp [results, Tryz.results34, go_sem, s0, s1, s2]) rfl
            ⟨⟨pi, ci, G.map (·.2), pd, cd, D, pu, cu, P.map fun p => (p.1, p.2.1.2, p.2.2.2)⟩, by simp [Chg.v], fun v hv => ?_, ((HTP.out.setCell (show b < w.heap.size + 1 by omega) _).setCell (show b < w.heap.size + 1 by omega) _).setCell (show b < w.heap.size + 1 by omega) _, ((HST.out.set2 (show w.heap.size ≤ w.heap.size + 1 by omega) _ _ _).set2 (show w.heap.size ≤ w.heap.size + 1 by omega) _ _ _).set2 (show w.heap.size ≤ w.heap.size + 1 by omega) _ _ _, by dsimp only; rw [List.length_map]; omega, HDL.out, by dsimp only; rw [List.length_map]; exact HPL.out⟩
          refine (ChoC.next (ChoC.keep HCH.out (v := ((wr.setCell ⟨w.heap.size + 1, 0, none⟩ (.slice pi G.length ci)).setCell ⟨w.heap.size + 1, 1, none⟩ (.slice pd D.length cd)).setCell ⟨w.heap.size + 1, 2, none⟩ (.slice pu P.length cu)) (by rw [set_size, set_size, set_size]; exact Nat.le_refl _) fun k h1 _ => ?_) hv).chg (by omega) (by have := HDL.out; omega) (by have := HPL.out; omega)
          rw [Below.heap_setCell _ _ _ _ (show k ≠ w.heap.size + 1 by omega), Below.heap_setCell _ _ _ _ (show k ≠ w.heap.size + 1 by omega), Below.heap_setCell _ _ _ _ (show k ≠ w.heap.size + 1 by omega)]
end Go.Proofs.YtlnbpobipmejfaaGreatDoor
