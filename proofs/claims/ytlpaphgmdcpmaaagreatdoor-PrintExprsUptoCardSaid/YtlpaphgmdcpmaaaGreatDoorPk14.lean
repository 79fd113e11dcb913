/-
  Several texts in one.
-/
import Derived.Test.YtlpaphgmdcpmaaaGreatDoorPk04
import Derived.Test.YtlpaphgmdcpmaaaGreatDoorPk13
import Derived.OneCell
import Derived.Test.YtlpaphgmdcpmaaaGreatDoorPk01
import Derived.Test.YtlpaphgmdcpmaaaGreatDoorPk03
import Derived.Lib.CountLaws
import Derived.Lib.SplitLaws
/-
  The writer of package print: what stands while it is written on; put.
-/
namespace Go.Proofs.YtlpaphgmdcpmaaaGreatDoor
set_option maxRecDepth 100000
open Go.RowKit
variable {ls : List Nat}

def wcells (L : List ByteArray) : List Value := L.map Value.string
theorem wcells_length (L : List ByteArray) : (wcells L).length = L.length := List.length_map _
theorem wcells_append (a b : List ByteArray) : wcells (a ++ b) = wcells a ++ wcells b := List.map_append
theorem wcells_one (L : List ByteArray) : ∀ u ∈ wcells L, u.oneCell' = true := by
  intro u hu
  obtain ⟨s, -, rfl⟩ := List.mem_map.1 hu
  rfl
theorem info_text : (Tryz.prog.info? 9).map (fun i => (i.zero, i.size, i.bytes)) = some (some (.string ⟨#[]⟩), 1, 16) := by kernel_rfl
/-- What stands while the writer at q is written on: all that lies below it, and all above it that is no row of texts. -/
structure WF (q : Nat) (u v : World) : Prop where
  os : v.os = u.os
  tape : v.tape = u.tape
  output : v.output = u.output
  size : u.heap.size ≤ v.heap.size
  low : ∀ k, k < q → k < u.heap.size → v.heap[k]? = u.heap[k]?
  keep : ∀ k, k < u.heap.size → k ≠ q → (∀ cs fr, u.heap[k]? ≠ some (.cells cs 9 fr)) → v.heap[k]? = u.heap[k]?
theorem WF.refl (q : Nat) (u : World) : WF q u u := ⟨rfl, rfl, rfl, Nat.le_refl _, fun _ _ _ => rfl, fun _ _ _ _ => rfl⟩
theorem WF.trans {q : Nat} {u v w : World} (h : WF q u v) (k : WF q v w) : WF q u w :=
  ⟨k.os.trans h.os, k.tape.trans h.tape, k.output.trans h.output, Nat.le_trans h.size k.size, fun i hi hu => (k.low i hi (Nat.lt_of_lt_of_le hu h.size)).trans (h.low i hi hu),
    fun i hu hn ht => by
      have h1 := h.keep i hu hn ht
      exact (k.keep i (Nat.lt_of_lt_of_le hu h.size) hn (by rw [h1]; exact ht)).trans h1⟩
theorem WF.of_below {q : Nat} {u v : World} (h : Below u.heap.size u v) : WF q u v := ⟨h.os, h.tape, h.output, h.size, fun k _ hk => h.block k hk, fun k hk _ _ => h.block k hk⟩
theorem WF.below {q B : Nat} {u v : World} (h : WF q u v) (hB : B ≤ q) (hu : B ≤ u.heap.size) : Below B u v := ⟨h.os, h.tape, h.output, h.size, fun k hk => h.low k (by omega) (by omega)⟩
/-- A block that is no row of texts. -/
def NoStr (u : World) (X : Nat) : Prop := ∀ cs fr, u.heap[X]? ≠ some (.cells cs 9 fr)
theorem NoStr.wf {q X : Nat} {u v : World} (h : NoStr u X) (hx : X < u.heap.size) (hw : WF q u v) (hn : X ≠ q) : NoStr v X := fun cs fr => by rw [hw.keep X hx hn h]; exact h cs fr
theorem NoStr.new (w : World) (cs : Array Value) (t : TypeId) (ht : t ≠ 9) : NoStr (w.alloc (.cells cs t)) w.heap.size := by
  intro c f h
  have : (w.alloc (.cells cs t)).heap[w.heap.size]? = some (.cells cs t (0, 0)) := by
    show (w.heap.push _)[w.heap.size]? = _
    simp
  rw [this] at h
  injection h with h
  injection h with _ h _
  exact ht h
/-- A box of an expression, of a query, above the writer. -/
structure XB (q : Nat) (u : World) (X : Nat) (e : Ex) : Prop where
  box : ExB u X e
  no : NoStr u X
  gt : q < X
theorem XB.wf {q X : Nat} {u v : World} {e : Ex} (h : XB q u X e) (hw : WF q u v) : XB q v X e := by
  have hg := h.gt
  exact ⟨h.box.keep hw.size (hw.keep X h.box.lt (by omega) h.no), h.no.wf h.box.lt hw (by omega), h.gt⟩
structure QB (q : Nat) (u : World) (X : Nat) (e : Qu) : Prop where
  box : QuBx u X e
  no : NoStr u X
  gt : q < X
theorem QB.wf {q X : Nat} {u v : World} {e : Qu} (h : QB q u X e) (hw : WF q u v) : QB q v X e := by
  have hg := h.gt
  exact ⟨h.box.keep hw.size (hw.keep X h.box.lt (by omega) h.no), h.no.wf h.box.lt hw (by omega), h.gt⟩
theorem ExAt.wf {q d : Nat} {u v : World} {e : Ex} (h : ExAt (fun c => c < q) u d e) (hw : WF q u v) : ExAt (fun c => c < q) v d e := ExAt.keep hw.size (fun c hc hn => ⟨hw.low c hn hc, hn⟩) d e h
theorem LAt.wf {q d : Nat} {u v : World} {p : Option Addr} {l : List Ex} (h : LAt (fun c => c < q) u (ExAt (fun c => c < q) u d) p l) (hw : WF q u v) : LAt (fun c => c < q) v (ExAt (fun c => c < q) v d) p l :=
  LAt.keep h hw.size (fun c hc hn => ⟨hw.low c hn hc, hn⟩) fun _ hx => hx.wf hw
theorem QuIn.wf {q d : Nat} {u v : World} {e : Qu} (h : QuIn (fun c => c < q) u (ExAt (fun c => c < q) u d) e) (hw : WF q u v) : QuIn (fun c => c < q) v (ExAt (fun c => c < q) v d) e :=
  QuIn.keep h hw.size (fun c hc hn => ⟨hw.low c hn hc, hn⟩) fun _ hx => hx.wf hw
theorem QAt.wf {q d : Nat} {u v : World} {p : Option Addr} {l : List Qu} (h : QAt (fun c => c < q) u (ExAt (fun c => c < q) u d) p l) (hw : WF q u v) : QAt (fun c => c < q) v (ExAt (fun c => c < q) v d) p l :=
  QAt.keep h hw.size (fun c hc hn => ⟨hw.low c hn hc, hn⟩) fun _ hx => hx.wf hw
theorem Env.wf {q : Nat} {u v : World} (h : Env ls u) (hw : WF q u v) (hq : 13 ≤ q) : Env ls v := h.keep hw.size (fun k hk => hw.low k (by omega) (by have := h.size; omega))
/-- The writer at q holds these texts. -/
structure WrAt (q : Nat) (l : List ByteArray) (u : World) : Prop where
  lt : q < u.heap.size
  row : ∃ v, u.heap[q]? = some (.cells #[v] 64 (0, 0)) ∧ u.ownsRow (q + 1) 9 1 v l.length (wcells l)
theorem WrAt.low {q : Nat} {l : List ByteArray} {u v : World} (h : WrAt q l u) (hb : Below u.heap.size u v) : WrAt q l v := by
  obtain ⟨x, h1, h2⟩ := h.row
  exact ⟨Nat.lt_of_lt_of_le h.lt hb.size, x, (hb.block q h.lt).trans h1, owns_below h2 hb⟩
theorem WrAt.new (w : World) : WrAt w.heap.size [] (w.alloc (.cells #[.slice none 0 0] 64)) := by
  refine ⟨by simp, .slice none 0 0, ?_, rfl, .inl ⟨rfl, rfl⟩⟩
  show (w.heap.push _)[w.heap.size]? = _
  simp
theorem own_exW {u : World} {base : Nat} {vr : Value} {e : TypeId} {s n : Nat} {xs : List Value} (h : u.ownsRow base e s vr n xs) : ∃ p c, vr = .slice p n c := by
  rcases h.2 with ⟨rfl, rfl⟩ | ⟨g, cap, cur, rfl, -⟩
  · exact ⟨none, 0, rfl⟩
  · exact ⟨_, cap, rfl⟩
set_option maxHeartbeats 1000000 in
theorem put_any (q g c : Nat) (l ts : List ByteArray) (u : World) (hW : WrAt q l u) (hT : ∀ j, (h : j < ts.length) → u.cell? ⟨g, j, none⟩ = some (.string ts[j])) (hz : l.length + ts.length ≤ 1000000000000) :
    Calls Tryz.prog 43 #[.pointer (some ⟨q, 0, none⟩), .slice (some ⟨g, 0, none⟩) ts.length c] u fun e u' => e = .returned (.tuple #[]) ∧ WF q u u' ∧ WrAt q (l ++ ts) u' := by
  obtain ⟨hlt, v, hq, hown⟩ := hW
  obtain ⟨i0, hi0, hz0, hz1, hz2⟩ := info_parts info_text
  have HO := Lib.hid hown
  have HQ := Lib.hid hq
  have hsrc : ∀ ad, some (⟨g, 0, none⟩ : Addr) = some ad → ∀ j x, (wcells ts)[j]? = some x → u.cell? (ad.add j) = some x := by
    intro ad he j x hj
    cases he
    have hj1 := (List.getElem?_eq_some_iff.1 hj).1
    rw [wcells_length] at hj1
    have hadd : (⟨g, 0, none⟩ : Addr).add j = ⟨g, j, none⟩ := by unfold Addr.add; split <;> simp_all
    unfold wcells at hj
    rw [List.getElem?_map, List.getElem?_eq_getElem hj1] at hj
    rw [hadd, hT j hj1]
    exact hj
  have HSR := Lib.hid hsrc
  have hc : u.cell? ⟨q, 0, none⟩ = some v := by simp [World.cell?, hq]
  obtain ⟨p, cp, rfl⟩ : ∃ p cp, v = .slice p l.length cp := by
    rcases hown.2 with ⟨rfl, h0⟩ | ⟨g, cap, cur, rfl, -⟩
    · exact ⟨none, 0, by rw [h0]⟩
    · exact ⟨_, cap, rfl⟩
  have hl : (l ++ ts).length = l.length + ts.length := List.length_append
  have HL := Lib.hid hl
  clear hown hq hsrc hT hl
  generalize ts.length = n at *
  go_enter Tryz.func43, Tryz.ntmps43
  go_wp2_with (at_builtin; refine wpList_append_any rfl (.tmp 8) (.tmp 9) 47 9 rfl (q + 1) i0 _ 1 16 Tryz.underlying47 hi0 hz0 hz1 hz2 rfl (by decide) (.slice p l.length cp) l.length (wcells l) (by rfl) HO.out (some ⟨g, 0, none⟩) n c (wcells ts) (by rfl) (by rw [wcells_length, Nat.mul_one]; have := HL.out; simp only [List.length_append] at this; omega) HSR.out (fun e => by cases e) (wcells_one _) (by unfold maxLen; omega) (by omega) (by omega) ?_; intro v2 w2 hown2 hg2; (have hq2 : w2.heap[q]? = some (.cells #[.slice p l.length cp] 64 (0, 0)) := (hg2.block q hlt (fun e => by have := owns_block HO.out q e.symm; omega)).trans HQ.out); (have hc2 : w2.cell? ⟨q, 0, none⟩ = some (.slice p l.length cp) := by simp [World.cell?, hq2]); (have hf2 : w2.frozen? ⟨q, 0, none⟩ = false := by simp [World.frozen?, hq2]); (have HO2 := Lib.hid hown2); (have HG2 := Lib.hid hg2); (have HQ2 := Lib.hid hq2); obtain ⟨p2, c2, e2⟩ := own_exW hown2; subst e2; clear hown2 hg2 hq2)
  go_end0
  have hset : ∀ k, k ≠ q → (w2.setCell ⟨q, 0, none⟩ (.slice p2 (l.length + n) c2)).heap[k]? = w2.heap[k]? := fun k hk => Below.heap_setCell _ _ _ _ hk
  have hsz : (w2.setCell ⟨q, 0, none⟩ (.slice p2 (l.length + n) c2)).heap.size = w2.heap.size := by simp [World.setCell]
  have hg := HG2.out
  refine ⟨rfl, ⟨hg.os, hg.tape, hg.output, by rw [hsz]; exact hg.size, fun k hk hu => (hset k (by omega)).trans (hg.block k hu fun e => by have := owns_block HO.out k e.symm; omega), fun k hu hn ht => (hset k hn).trans (hg.block k hu fun e => ?_)⟩, by rw [hsz]; exact Nat.lt_of_lt_of_le hlt hg.size, .slice p2 (l.length + n) c2, one_setCell HQ2.out, ?_⟩
  · rcases HO.out.2 with ⟨h1, -⟩ | ⟨g', cap, cur, h1, -, hh, -⟩
    · rw [h1] at e; cases e
    · rw [h1] at e
      obtain rfl : k = g' := by simpa [Value.ownBlock] using e
      exact ht _ _ hh
  · rw [HL.out, wcells_append]
    exact owns_keep HO2.out fun k hk => hset k (by have := owns_block HO2.out k hk; omega)
theorem cells_one (u : World) (s : ByteArray) (t : TypeId) : ∀ j, (h : j < [s].length) → (u.alloc (.cells #[.string s] t)).cell? ⟨u.heap.size, j, none⟩ = some (.string [s][j]) := by
  intro j h
  obtain rfl : j = 0 := by simpa using h
  go_simp
theorem cells_two (u : World) (s r : ByteArray) (t : TypeId) : ∀ j, (h : j < [s, r].length) → (u.alloc (.cells #[.string s, .string r] t)).cell? ⟨u.heap.size, j, none⟩ = some (.string [s, r][j]) := by
  intro j h
  have h : j < 2 := h
  obtain rfl | rfl : j = 0 ∨ j = 1 := by omega
  all_goals go_simp
theorem cells_four (u : World) (s r x y : ByteArray) (t : TypeId) : ∀ j, (h : j < [s, r, x, y].length) → (u.alloc (.cells #[.string s, .string r, .string x, .string y] t)).cell? ⟨u.heap.size, j, none⟩ = some (.string [s, r, x, y][j]) := by
  intro j h
  have h : j < 4 := h
  obtain rfl | rfl | rfl | rfl : j = 0 ∨ j = 1 ∨ j = 2 ∨ j = 3 := by omega
  all_goals go_simp
/-- put of a literal. -/
theorem put_one {q : Nat} {l : List ByteArray} {u : World} (s : ByteArray) (hW : WrAt q l u) (hz : l.length + 1 ≤ 1000000000000) :
    Calls Tryz.prog 43 #[.pointer (some ⟨q, 0, none⟩), .slice (some ⟨u.heap.size, 0, none⟩) 1 1] (u.alloc (.cells #[.string s] 9)) fun e u' => e = .returned (.tuple #[]) ∧ WF q u u' ∧ WrAt q (l ++ [s]) u' :=
  (put_any q u.heap.size 1 l [s] _ (hW.low (below_alloc _ _)) (cells_one u s _) hz).mono fun _ _ ⟨h1, h2, h3⟩ => ⟨h1, (WF.of_below (below_alloc _ _)).trans h2, h3⟩
theorem put_two {q : Nat} {l : List ByteArray} {u : World} (s r : ByteArray) (hW : WrAt q l u) (hz : l.length + 2 ≤ 1000000000000) :
    Calls Tryz.prog 43 #[.pointer (some ⟨q, 0, none⟩), .slice (some ⟨u.heap.size, 0, none⟩) 2 2] (u.alloc (.cells #[.string s, .string r] 9)) fun e u' => e = .returned (.tuple #[]) ∧ WF q u u' ∧ WrAt q (l ++ [s, r]) u' :=
  (put_any q u.heap.size 2 l [s, r] _ (hW.low (below_alloc _ _)) (cells_two u s r _) hz).mono fun _ _ ⟨h1, h2, h3⟩ => ⟨h1, (WF.of_below (below_alloc _ _)).trans h2, h3⟩
theorem put_four {q : Nat} {l : List ByteArray} {u : World} (s r x y : ByteArray) (hW : WrAt q l u) (hz : l.length + 4 ≤ 1000000000000) :
    Calls Tryz.prog 43 #[.pointer (some ⟨q, 0, none⟩), .slice (some ⟨u.heap.size, 0, none⟩) 4 4] (u.alloc (.cells #[.string s, .string r, .string x, .string y] 9)) fun e u' => e = .returned (.tuple #[]) ∧ WF q u u' ∧ WrAt q (l ++ [s, r, x, y]) u' :=
  (put_any q u.heap.size 4 l [s, r, x, y] _ (hW.low (below_alloc _ _)) (cells_four u s r x y _) hz).mono fun _ _ ⟨h1, h2, h3⟩ => ⟨h1, (WF.of_below (below_alloc _ _)).trans h2, h3⟩
end Go.Proofs.YtlpaphgmdcpmaaaGreatDoor
/-
  WELL-FORMED TREES: what they are like, and that those made of parts are, plain. No program.
-/
namespace Go.Proofs.YtlpaphgmdcpmaaaGreatDoor
set_option maxRecDepth 100000
open Go

/-- What makes an expression well-formed. -/
structure FineV (V : Ex → Bool) (e : Ex) : Prop where
  lo : 1 ≤ e.k
  hi : e.k ≤ 12
  argn : e.args.length = argN e.k
  subn : e.sub.length = subN e.k
  op5 : e.k = 5 → 1 ≤ e.op ∧ e.op ≤ 13
  op0 : e.k ≠ 5 → e.op = 0
  no6 : e.k ≠ 6 → e.no = false
  lit : e.k = 1 → validB e.vk e.vi e.vt = true ∧ 0 ≤ e.vi ∧ eqT e.tb ⟨#[]⟩ = true ∧ eqT e.nm ⟨#[]⟩ = true
  col : e.k = 2 → noVal e = true ∧ qualB e.tb = true ∧ nameOK e.nm = true
  rest : e.k ≠ 1 → e.k ≠ 2 → plainB e = true ∧ (∀ a ∈ e.args, V a = true) ∧ ∀ q ∈ e.sub, quB V e.k q = true
theorem vOf_iff {V : Ex → Bool} {e : Ex} : vOf V e = true ↔ FineV V e := by
  unfold vOf
  simp only [Bool.and_eq_true, decide_eq_true_eq]
  constructor
  · rintro ⟨⟨⟨⟨⟨h1, h2⟩, h3⟩, h4⟩, h5⟩, h6⟩
    refine ⟨h1.1, h1.2, h2, h3, fun hk => ?_, fun hk => ?_, fun hk => ?_, fun hk => ?_, fun hk => ?_, fun hk hk2 => ?_⟩
    · rw [if_pos hk] at h4; exact of_decide_eq_true h4
    · rw [if_neg hk] at h4; exact of_decide_eq_true h4
    · cases hn : e.no
      · rfl
      · rw [hn] at h5; simp at h5; exact absurd h5 hk
    · rw [if_pos hk] at h6
      simp only [Bool.and_eq_true, decide_eq_true_eq] at h6
      exact ⟨h6.1.1.1, h6.1.1.2, h6.1.2, h6.2⟩
    · rw [if_neg (by omega), if_pos hk] at h6
      simp only [Bool.and_eq_true] at h6
      exact ⟨h6.1.1, h6.1.2, h6.2⟩
    · rw [if_neg hk, if_neg hk2] at h6
      simp only [Bool.and_eq_true, List.all_eq_true] at h6
      exact ⟨h6.1.1, h6.1.2, h6.2⟩
  · intro h
    refine ⟨⟨⟨⟨⟨⟨h.lo, h.hi⟩, h.argn⟩, h.subn⟩, ?_⟩, ?_⟩, ?_⟩
    · split
      · exact decide_eq_true (h.op5 (by assumption))
      · exact decide_eq_true (h.op0 (by assumption))
    · by_cases hk : e.k = 6
      · simp [hk]
      · simp [h.no6 hk]
    · split
      · obtain ⟨g1, g2, g3, g4⟩ := h.lit (by assumption)
        simp [g1, g2, g3, g4]
      · split
        · obtain ⟨g1, g2, g3⟩ := h.col (by assumption)
          simp [g1, g2, g3]
        · obtain ⟨g1, g2, g3⟩ := h.rest (by assumption) (by assumption)
          simp only [Bool.and_eq_true, List.all_eq_true]
          exact ⟨⟨g1, g2⟩, g3⟩
/-- An expression with arguments, one with a query, a column, a literal. -/
def argEx (k op : Int) (no : Bool) (pa : Option Addr) (ca : Nat) (args : List Ex) : Ex := .mk k op no 0 0 ⟨#[]⟩ ⟨#[]⟩ ⟨#[]⟩ pa ca args none 0 []
def subEx (k : Int) (ps : Option Addr) (cs : Nat) (q : Qu) : Ex := .mk k 0 false 0 0 ⟨#[]⟩ ⟨#[]⟩ ⟨#[]⟩ none 0 [] ps cs [q]
def colEx (tb nm : ByteArray) : Ex := .mk 2 0 false 0 0 ⟨#[]⟩ tb nm none 0 [] none 0 []
def litEx (vk vi : Int) (vt : ByteArray) : Ex := .mk 1 0 false vk vi vt ⟨#[]⟩ ⟨#[]⟩ none 0 [] none 0 []
theorem eqT_none : eqT ⟨#[]⟩ ⟨#[]⟩ = true := eqT_self _
theorem plain_none {e : Ex} (h0 : e.vk = 0) (h1 : e.vi = 0) (h2 : e.vt = ⟨#[]⟩) (h3 : e.tb = ⟨#[]⟩) (h4 : e.nm = ⟨#[]⟩) : plainB e = true := by
  unfold plainB noVal; rw [h2, h3, h4, eqT_none]; simp [h0, h1]
theorem vOf_args {V : Ex → Bool} {k op : Int} {no : Bool} {pa : Option Addr} {ca : Nat} {args : List Ex} (h1 : 3 ≤ k) (h2 : k ≤ 7) (ha : args.length = argN k) (hop : k = 5 → 1 ≤ op ∧ op ≤ 13) (hop0 : k ≠ 5 → op = 0) (hno : k ≠ 6 → no = false) (hV : ∀ a ∈ args, V a = true) :
    vOf V (argEx k op no pa ca args) = true :=
  vOf_iff.2 ⟨by show 1 ≤ k; omega, by show k ≤ 12; omega, ha, by show 0 = subN k; unfold subN; rw [if_neg (by omega)], hop, hop0, hno, fun h => by have h : k = 1 := h; omega, fun h => by have h : k = 2 := h; omega,
    fun _ _ => ⟨plain_none rfl rfl rfl rfl rfl, hV, fun q hq => by cases hq⟩⟩
theorem vOf_sub {V : Ex → Bool} {k : Int} {ps : Option Addr} {cs : Nat} {q : Qu} (h1 : 8 ≤ k) (h2 : k ≤ 12) (hq : quB V k q = true) : vOf V (subEx k ps cs q) = true :=
  vOf_iff.2 ⟨by show 1 ≤ k; omega, h2, by show 0 = argN k; unfold argN; rw [if_neg (by omega), if_neg (by omega), if_neg (by omega)], by show 1 = subN k; unfold subN; rw [if_pos ⟨h1, h2⟩], fun h => by have h : k = 5 := h; omega, fun _ => rfl, fun _ => rfl, fun h => by have h : k = 1 := h; omega, fun h => by have h : k = 2 := h; omega,
    fun _ _ => ⟨plain_none rfl rfl rfl rfl rfl, (fun a ha => by cases ha), fun q' hq' => by obtain rfl := List.mem_singleton.1 hq'; exact hq⟩⟩
theorem quB_mk {V : Ex → Bool} {k : Int} {q : Qu} (h1 : q.st = decide (k = 8)) (h2 : q.items.length = itemN k) (h3 : q.wh.length ≤ 1) (h4 : srcB q.fr = true) (h5 : ∀ a ∈ q.items, V a = true) (h6 : ∀ a ∈ q.wh, V a = true) : quB V k q = true := by
  unfold quB
  rw [h1, decide_eq_true h2, decide_eq_true h3, h4, List.all_eq_true.2 h5, List.all_eq_true.2 h6]
  simp
theorem vOf_col {V : Ex → Bool} {tb nm : ByteArray} (h1 : qualB tb = true) (h2 : nameOK nm = true) : vOf V (colEx tb nm) = true :=
  vOf_iff.2 ⟨by show (1 : Int) ≤ 2; omega, by show (2 : Int) ≤ 12; omega, rfl, rfl, fun h => by have h : (2 : Int) = 5 := h; omega, fun _ => rfl, fun _ => rfl, fun h => by have h : (2 : Int) = 1 := h; omega, fun _ => ⟨by unfold noVal; show (true && true && eqT ⟨#[]⟩ ⟨#[]⟩) = true; rw [eqT_none]; rfl, h1, h2⟩,
    fun _ h => absurd rfl h⟩
theorem vOf_lit {V : Ex → Bool} {vk vi : Int} {vt : ByteArray} (h1 : validB vk vi vt = true) (h2 : 0 ≤ vi) : vOf V (litEx vk vi vt) = true :=
  vOf_iff.2 ⟨by show (1 : Int) ≤ 1; omega, by show (1 : Int) ≤ 12; omega, rfl, rfl, fun h => by have h : (1 : Int) = 5 := h; omega, fun _ => rfl, fun _ => rfl, fun _ => ⟨h1, h2, eqT_none, eqT_none⟩, fun h => by have h : (1 : Int) = 2 := h; omega,
    fun h => absurd rfl h⟩
theorem vE_succ (d : Nat) (e : Ex) : vE (d + 1) e = vOf (vE d) e := rfl
theorem FineV.fine {V : Ex → Bool} {e : Ex} (h : FineV V e) : Fine V e := vOf_fine (vOf_iff.2 h)
end Go.Proofs.YtlpaphgmdcpmaaaGreatDoor
/-
  Format, of the program and of the reference.
-/
namespace Go.Proofs.YtlpaphgmdcpmaaaGreatDoor
set_option maxRecDepth 100000
open Go.RowKit
variable {ls : List Nat}

/-- The text of a value: '?' if it is not valid. -/
def quoteB (s : ByteArray) : ByteArray := ⟨#[39]⟩ ++ ⟨(Lib.replaceAll s.data.toList [39] [39, 39]).toArray⟩ ++ ⟨#[39]⟩
def fmtB (k n : Int) (s : ByteArray) : ByteArray :=
  if validB k n s then (if k = 1 then ⟨(Lib.itoa n).toArray⟩ else if k = 2 then (if n = 1 then ⟨#[84, 82, 85, 69]⟩ else ⟨#[70, 65, 76, 83, 69]⟩) else if k = 3 then quoteB s else ⟨#[78, 85, 76, 76]⟩) else ⟨#[63]⟩

theorem replaceK_len (old new : List UInt8) (k : Nat) (s : List UInt8) : (Lib.replaceK old new k s).length ≤ s.length + k * new.length := by
  induction k generalizing s with
  | zero => simp [Lib.replaceK]
  | succ k ih =>
    rw [Lib.replaceK]
    split
    · omega
    · have := ih (s.drop ((Lib.index s old).toNat + old.length))
      simp only [List.length_append, List.length_take, List.length_drop] at this ⊢
      rw [Nat.succ_mul]
      omega
theorem quote_len (s : List UInt8) (h : s.length ≤ 64) : (Lib.replaceAll s [39] [39, 39]).length ≤ 300 := by
  unfold Lib.replaceAll Lib.replace
  split
  · omega
  · have h1 := replaceK_len [39] [39, 39] (Lib.replaceNum s [39] (-1)) s
    have h2 : Lib.replaceNum s [39] (-1) = Lib.count s [39] := by unfold Lib.replaceNum; rw [if_pos (Or.inl (by decide))]
    have h3 := Lib.count_le s [39]
    rw [h2] at h1
    simp only [List.length_cons, List.length_nil] at h1
    rw [h2]
    omega

theorem ret_str {a b : ByteArray} (h : a = b) : Ending.returned (.string a) = .returned (.string b) := by rw [h]

set_option maxHeartbeats 400000 in
theorem format_bad (k n : Int) (s : ByteArray) (w : World) (hs : s.size ≤ 9223372036854775807) (hv : validB k n s = false) :
    Calls Tryz.prog 44 #[.agg #[.int .i64 k, .int .i64 n, .string s]] w fun e w' => e = .returned (.string (fmtB k n s)) ∧ Below w.heap.size w w' := by
  have hf : fmtB k n s = ⟨#[63]⟩ := by unfold fmtB; rw [hv]; rfl
  have HF := Lib.hid hf
  have HV := Lib.hid hv
  clear hf hv
  go_enter Tryz.func44, Tryz.ntmps44
  go_wp2_with fail
  refine (valid_any k n s _ hs).mono ?_
  rintro e w' ⟨rfl, hb⟩
  rw [HV.out]
  go_wp2
  go_ret
  exact ⟨ret_str HF.out.symm, Below.of_alloc hb⟩

set_option maxHeartbeats 400000 in
theorem format_null (w : World) :
    Calls Tryz.prog 44 #[.agg #[.int .i64 0, .int .i64 0, .string ⟨#[]⟩]] w fun e w' => e = .returned (.string ⟨#[78, 85, 76, 76]⟩) ∧ Below w.heap.size w w' := by
  have HV := Lib.hid (show validB 0 0 ⟨#[]⟩ = true by simp [validB])
  go_enter Tryz.func44, Tryz.ntmps44
  go_wp2_with fail
  refine (valid_any 0 0 ⟨#[]⟩ _ (by decide)).mono ?_
  rintro e w' ⟨rfl, hb⟩
  rw [HV.out]
  obtain ⟨c0, c1, c2, -⟩ := box3 hb
  go_wp2
  go_ret
  exact ⟨rfl, Below.of_alloc hb⟩

set_option maxHeartbeats 400000 in
theorem format_num (n : Int) (w : World) (hE : Env ls w) (hP : 7 ∈ ls) (h1 : -9223372036854775808 ≤ n) (h2 : n ≤ 9223372036854775807) :
    Calls Tryz.prog 44 #[.agg #[.int .i64 1, .int .i64 n, .string ⟨#[]⟩]] w fun e w' => e = .returned (.string ⟨(Lib.itoa n).toArray⟩) ∧ Below w.heap.size w w' := by
  have HV := Lib.hid (show validB 1 n ⟨#[]⟩ = true by simp [validB])
  go_enter Tryz.func44, Tryz.ntmps44
  go_wp2_with fail
  refine (valid_any 1 n ⟨#[]⟩ _ (by decide)).mono ?_
  rintro e w' ⟨rfl, hb⟩
  rw [HV.out]
  obtain ⟨c0, c1, c2, -⟩ := box3 hb
  have hb' := Below.of_alloc hb
  have hp := (hE.low hb').pow hP
  clear HV hb hE
  go_wp2_with (go_at_call 72; refine (Tryz.strconv_FormatInt_10 n h1 h2 _ hp).mono ?_; rintro e w2 ⟨rfl, kk, os, rfl⟩)
  go_ret
  exact ⟨rfl, Below.next hb' (below_grow _ _ _)⟩

set_option maxHeartbeats 400000 in
theorem format_truth (n : Int) (w : World) (hE : Env ls w) (hN : 5 ∈ ls) (hn : n = 0 ∨ n = 1) :
    Calls Tryz.prog 44 #[.agg #[.int .i64 2, .int .i64 n, .string ⟨#[]⟩]] w fun e w' => e = .returned (.string (if n = 1 then ⟨#[84, 82, 85, 69]⟩ else ⟨#[70, 65, 76, 83, 69]⟩)) ∧ Below w.heap.size w w' := by
  rcases hn with rfl | rfl
  · have HV := Lib.hid (show validB 2 0 ⟨#[]⟩ = true by simp [validB])
    go_enter Tryz.func44, Tryz.ntmps44
    go_wp2_with fail
    refine (valid_any 2 0 ⟨#[]⟩ _ (by decide)).mono ?_
    rintro e w' ⟨rfl, hb⟩
    rw [HV.out]
    obtain ⟨c0, c1, c2, -⟩ := box3 hb
    have hb' := Below.of_alloc hb
    have hp := (hE.low hb').no hN
    go_wp2
    go_ret
    exact ⟨rfl, hb'⟩
  · have HV := Lib.hid (show validB 2 1 ⟨#[]⟩ = true by simp [validB])
    go_enter Tryz.func44, Tryz.ntmps44
    go_wp2_with fail
    refine (valid_any 2 1 ⟨#[]⟩ _ (by decide)).mono ?_
    rintro e w' ⟨rfl, hb⟩
    rw [HV.out]
    obtain ⟨c0, c1, c2, -⟩ := box3 hb
    have hb' := Below.of_alloc hb
    have hp := (hE.low hb').yes hN
    go_wp2
    go_ret
    exact ⟨rfl, hb'⟩

set_option maxHeartbeats 400000 in
theorem format_text (s : ByteArray) (w : World) (hE : Env ls w) (hv : textOK s.data.toList = true) :
    Calls Tryz.prog 44 #[.agg #[.int .i64 3, .int .i64 0, .string s]] w fun e w' => e = .returned (.string (quoteB s)) ∧ Below w.heap.size w w' := by
  have hl := textOK_len hv
  have hl' : s.size ≤ 64 := by simpa using hl
  have HV := Lib.hid (show validB 3 0 s = true by rw [validB_text, hv])
  clear hv hl
  go_enter Tryz.func44, Tryz.ntmps44
  go_wp2_with fail
  refine (valid_any 3 0 s _ (by omega)).mono ?_
  rintro e w' ⟨rfl, hb⟩
  rw [HV.out]
  obtain ⟨c0, c1, c2, -⟩ := box3 hb
  have hb' := Below.of_alloc hb
  obtain ⟨m, hm⟩ := (hE.low hb').maxlen
  clear HV hb hE
  have hq := quote_len s.data.toList (by simpa using hl')
  have hlen : s.size + Lib.countB s ⟨#[39]⟩ * (⟨#[39, 39]⟩ : ByteArray).size ≤ 140737488355328 := by
    have h1 := Lib.countB_le ⟨#[39]⟩ (by decide) s.size s (Nat.le_refl _)
    have h2 : (⟨#[39, 39]⟩ : ByteArray).size = 2 := rfl
    rw [h2]; omega
  go_wp2_with fail
  refine (Tryz.strings_ReplaceAll s ⟨#[39]⟩ ⟨#[39, 39]⟩ m _ (by omega) hm (by decide) hlen).mono ?_
  rintro e w2 ⟨rfl, hb2⟩
  go_wp2
  go_ret
  exact ⟨ret_str (by simp [quoteB]), Below.next hb' hb2⟩

theorem validB_cases {k n : Int} {s : ByteArray} (h : validB k n s = true) :
    (k = 0 ∧ n = 0 ∧ s = ⟨#[]⟩) ∨ (k = 1 ∧ s = ⟨#[]⟩) ∨ (k = 2 ∧ (n = 0 ∨ n = 1) ∧ s = ⟨#[]⟩) ∨ (k = 3 ∧ n = 0 ∧ textOK s.data.toList = true) := by
  have he : s.toList.isEmpty = true → s = ⟨#[]⟩ := fun h => by
    rw [ByteArray.toList_eq] at h
    exact WideShapes.bytes_inj (by simpa using h)
  unfold validB at h
  split at h
  · simp only [Bool.and_eq_true, beq_iff_eq] at h; exact Or.inl ⟨by assumption, h.1, he h.2⟩
  · split at h
    · exact Or.inr (Or.inl ⟨by assumption, he h⟩)
    · split at h
      · simp only [Bool.and_eq_true, Bool.or_eq_true, beq_iff_eq] at h; exact Or.inr (Or.inr (Or.inl ⟨by assumption, h.1, he h.2⟩))
      · split at h
        · simp only [Bool.and_eq_true, beq_iff_eq] at h; exact Or.inr (Or.inr (Or.inr ⟨by assumption, h.1, h.2⟩))
        · cases h
theorem fmtB_null : fmtB 0 0 ⟨#[]⟩ = ⟨#[78, 85, 76, 76]⟩ := by unfold fmtB; rw [show validB 0 0 ⟨#[]⟩ = true by simp [validB]]; rfl
theorem fmtB_num (n : Int) : fmtB 1 n ⟨#[]⟩ = ⟨(Lib.itoa n).toArray⟩ := by unfold fmtB; rw [show validB 1 n ⟨#[]⟩ = true by simp [validB]]; rfl
theorem fmtB_truth (n : Int) (h : n = 0 ∨ n = 1) : fmtB 2 n ⟨#[]⟩ = if n = 1 then ⟨#[84, 82, 85, 69]⟩ else ⟨#[70, 65, 76, 83, 69]⟩ := by
  unfold fmtB; rw [show validB 2 n ⟨#[]⟩ = true by simp [validB]; exact h]; rfl
theorem fmtB_text (s : ByteArray) (h : textOK s.data.toList = true) : fmtB 3 0 s = quoteB s := by unfold fmtB; rw [show validB 3 0 s = true by rw [validB_text, h]]; rfl

theorem format_txt (s : ByteArray) (w : World) (hE : Env ls w) (hs : s.size ≤ 9223372036854775807) :
    Calls Tryz.prog 44 #[.agg #[.int .i64 3, .int .i64 0, .string s]] w fun e w' => e = .returned (.string (fmtB 3 0 s)) ∧ Below w.heap.size w w' := by
  cases hv : validB 3 0 s
  · exact format_bad 3 0 s w hs hv
  · rcases validB_cases hv with ⟨h, -, -⟩ | ⟨h, -⟩ | ⟨h, -, -⟩ | ⟨-, -, ht⟩
    · exact absurd h (by decide)
    · exact absurd h (by decide)
    · exact absurd h (by decide)
    · rw [fmtB_text s ht]; exact format_text s w hE ht
theorem format_any (k n : Int) (s : ByteArray) (w : World) (hE : Env ls w) (hN : 5 ∈ ls) (hP : 7 ∈ ls) (hs : s.size ≤ 9223372036854775807) (h1 : -9223372036854775808 ≤ n) (h2 : n ≤ 9223372036854775807) :
    Calls Tryz.prog 44 #[.agg #[.int .i64 k, .int .i64 n, .string s]] w fun e w' => e = .returned (.string (fmtB k n s)) ∧ Below w.heap.size w w' := by
  cases hv : validB k n s
  · exact format_bad k n s w hs hv
  · rcases validB_cases hv with ⟨rfl, rfl, rfl⟩ | ⟨rfl, rfl⟩ | ⟨rfl, hn, rfl⟩ | ⟨rfl, rfl, ht⟩
    · rw [fmtB_null]; exact format_null w
    · rw [fmtB_num]; exact format_num n w hE hP h1 h2
    · rw [fmtB_truth n hn]; exact format_truth n w hE hN hn
    · rw [fmtB_text s ht]; exact format_text s w hE ht
end Go.Proofs.YtlpaphgmdcpmaaaGreatDoor
/-
  The words of an expression, plain.
-/
namespace Go.Proofs.YtlpaphgmdcpmaaaGreatDoor
set_option maxRecDepth 100000
open Go

def argT (T : Ex → List ByteArray) (e : Ex) (i : Nat) : List ByteArray := if inPar e i then [⟨#[40]⟩] ++ T (eAt e.args i) ++ [⟨#[41]⟩] else T (eAt e.args i)
def whT (T : Ex → List ByteArray) (l : List Ex) : List ByteArray := l.flatMap fun a => [⟨#[87, 72, 69, 82, 69]⟩] ++ T a
def fromT (T : Ex → List ByteArray) (q : Qu) : List ByteArray := [⟨#[70, 82, 79, 77]⟩, q.fr] ++ whT T q.wh
def aggS (k : Int) : ByteArray := if k = 10 then ⟨#[83, 85, 77]⟩ else if k = 11 then ⟨#[77, 73, 78]⟩ else ⟨#[77, 65, 88]⟩
def headT (T : Ex → List ByteArray) (k : Int) (q : Qu) : List ByteArray :=
  if k = 8 then [⟨#[42]⟩] else if k = 9 then [⟨#[67, 79, 85, 78, 84]⟩, ⟨#[40]⟩, ⟨#[42]⟩, ⟨#[41]⟩] else [aggS k] ++ ([⟨#[40]⟩] ++ T (eAt q.items 0) ++ [⟨#[41]⟩])
def subT (T : Ex → List ByteArray) (k : Int) (q : Qu) : List ByteArray :=
  (if k = 8 then [⟨#[69, 88, 73, 83, 84, 83]⟩] else []) ++ [⟨#[40]⟩, ⟨#[83, 69, 76, 69, 67, 84]⟩] ++ headT T k q ++ fromT T q ++ [⟨#[41]⟩]
def colT (tb nm : ByteArray) : List ByteArray := (if eqT tb ⟨#[]⟩ then [] else [tb, ⟨#[46]⟩]) ++ [nm]
def nullT (no : Bool) : List ByteArray := [⟨#[73, 83]⟩] ++ (if no then [⟨#[78, 79, 84]⟩] else []) ++ [⟨#[78, 85, 76, 76]⟩]
/-- The words of an expression, by those of its parts. -/
def wOf (T : Ex → List ByteArray) (e : Ex) : List ByteArray :=
  if e.k = 1 then [fmtB e.vk e.vi e.vt]
  else if e.k = 2 then colT e.tb e.nm
  else if e.k = 3 then [⟨#[78, 79, 84]⟩] ++ argT T e 0
  else if e.k = 4 then [⟨#[45]⟩] ++ argT T e 0
  else if e.k = 5 then argT T e 0 ++ [opS e.op.toNat] ++ argT T e 1
  else if e.k = 6 then argT T e 0 ++ nullT e.no
  else if e.k = 7 then argT T e 0 ++ [⟨#[66, 69, 84, 87, 69, 69, 78]⟩] ++ argT T e 1 ++ [⟨#[65, 78, 68]⟩] ++ argT T e 2
  else subT T e.k (qAt e.sub 0)
def wT : Nat → Ex → List ByteArray
  | 0 => fun _ => []
  | d + 1 => wOf (wT d)
theorem wOf_lit {T : Ex → List ByteArray} {e : Ex} (h : e.k = 1) : wOf T e = [fmtB e.vk e.vi e.vt] := by unfold wOf; rw [if_pos h]
theorem wOf_col {T : Ex → List ByteArray} {e : Ex} (h : e.k = 2) : wOf T e = colT e.tb e.nm := by unfold wOf; rw [if_neg (by omega), if_pos h]
theorem wOf_not {T : Ex → List ByteArray} {e : Ex} (h : e.k = 3) : wOf T e = [⟨#[78, 79, 84]⟩] ++ argT T e 0 := by unfold wOf; rw [if_neg (by omega), if_neg (by omega), if_pos h]
theorem wOf_neg {T : Ex → List ByteArray} {e : Ex} (h : e.k = 4) : wOf T e = [⟨#[45]⟩] ++ argT T e 0 := by unfold wOf; rw [if_neg (by omega), if_neg (by omega), if_neg (by omega), if_pos h]
theorem wOf_bin {T : Ex → List ByteArray} {e : Ex} (h : e.k = 5) : wOf T e = argT T e 0 ++ [opS e.op.toNat] ++ argT T e 1 := by unfold wOf; rw [if_neg (by omega), if_neg (by omega), if_neg (by omega), if_neg (by omega), if_pos h]
theorem wOf_null {T : Ex → List ByteArray} {e : Ex} (h : e.k = 6) : wOf T e = argT T e 0 ++ nullT e.no := by unfold wOf; rw [if_neg (by omega), if_neg (by omega), if_neg (by omega), if_neg (by omega), if_neg (by omega), if_pos h]
theorem wOf_btw {T : Ex → List ByteArray} {e : Ex} (h : e.k = 7) : wOf T e = argT T e 0 ++ [⟨#[66, 69, 84, 87, 69, 69, 78]⟩] ++ argT T e 1 ++ [⟨#[65, 78, 68]⟩] ++ argT T e 2 := by unfold wOf; rw [if_neg (by omega), if_neg (by omega), if_neg (by omega), if_neg (by omega), if_neg (by omega), if_neg (by omega), if_pos h]
theorem wOf_sub {T : Ex → List ByteArray} {e : Ex} (h : 8 ≤ e.k) : wOf T e = subT T e.k (qAt e.sub 0) := by unfold wOf; rw [if_neg (by omega), if_neg (by omega), if_neg (by omega), if_neg (by omega), if_neg (by omega), if_neg (by omega), if_neg (by omega)]
theorem wT_succ (d : Nat) (e : Ex) : wT (d + 1) e = wOf (wT d) e := rfl
end Go.Proofs.YtlpaphgmdcpmaaaGreatDoor
