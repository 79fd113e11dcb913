/-
  Several texts in one.
-/
import Derived.Test.YtlpaphgmdcpmaaaGreatDoorPk21
import Derived.Test.YtlpaphgmdcpmaaaGreatDoorPk19
import Derived.Test.YtlpaphgmdcpmaaaGreatDoorPk03
import Derived.Test.YtlpaphgmdcpmaaaGreatDoorPk14
/-
  Places of expressions in memory: frames and tables; Home.
-/
namespace Go.Proofs.YtlpaphgmdcpmaaaGreatDoor
set_option maxRecDepth 100000
open Go.RowKit
variable {ls : List Nat}

/-- A frame, a schema, a place, with the places of their lists. -/
structure Fr where
  nm : ByteArray
  st : Bool
  pc : Option Addr
  nc : Nat
  cc : Nat
  col : Nat → Col
  pv : Option Addr
  nv : Nat
  cv : Nat
structure Sc where
  nm : ByteArray
  pc : Option Addr
  nc : Nat
  cc : Nat
  col : Nat → Col
structure Pl where
  pf : Option Addr
  cf : Nat
  fr : List Fr
  pt : Option Addr
  ct : Nat
  tb : List Sc
def plV (P : Pl) : Value := .agg #[.slice P.pf P.fr.length P.cf, .slice P.pt P.tb.length P.ct]
def scV (s : Sc) : Value := .agg #[.string s.nm, .slice s.pc s.nc s.cc]
def frcs (x : Fr) : List Value := [.string x.nm, .bool x.st, .slice x.pc x.nc x.cc, .slice x.pv x.nv x.cv]
def fcells (l : List Fr) : List Value := l.flatMap frcs
/-- Columns whose names and types are fine, in blocks with N. -/
structure ColIn (N : Nat → Prop) (w : World) (pc : Option Addr) (nc : Nat) (col : Nat → Col) : Prop where
  n : nc ≤ 100
  at' : ColsAt w pc nc col
  blk : ∀ a, pc = some a → N a.block ∧ a.block < w.heap.size
  nm : ∀ j, j < nc → nameOK (col j).nm = true
  ty : ∀ j, j < nc → 1 ≤ (col j).ty ∧ (col j).ty ≤ 3
theorem ColIn.keep {N M : Nat → Prop} {u v : World} {pc : Option Addr} {nc : Nat} {col : Nat → Col} (h : ColIn N u pc nc col) (hz : u.heap.size ≤ v.heap.size) (hk : ∀ c, c < u.heap.size → N c → v.heap[c]? = u.heap[c]? ∧ M c) : ColIn M v pc nc col :=
  ⟨h.n, h.at'.keep hz fun a ha => (hk _ (h.blk a ha).2 (h.blk a ha).1).1, fun a ha => ⟨(hk _ (h.blk a ha).2 (h.blk a ha).1).2, Nat.lt_of_lt_of_le (h.blk a ha).2 hz⟩, h.nm, h.ty⟩
structure FrIn (N : Nat → Prop) (w : World) (x : Fr) : Prop where
  ns : x.nm.size ≤ 9223372036854775807
  q : qualB x.nm = true
  cols : ColIn N w x.pc x.nc x.col
structure ScIn (N : Nat → Prop) (w : World) (x : Sc) : Prop where
  ns : x.nm.size ≤ 9223372036854775807
  q : srcB x.nm = true
  cols : ColIn N w x.pc x.nc x.col
def FrsAt (N : Nat → Prop) (w : World) (p : Option Addr) (l : List Fr) : Prop := ∀ i (hi : i < l.length), ∃ c o : Nat, p = some ⟨c, o, none⟩ ∧ c < w.heap.size ∧ N c ∧ (∀ j, j < 4 → w.cell? ⟨c, o + i * 4 + j, none⟩ = (frcs l[i])[j]?) ∧ FrIn N w l[i]
def ScsAt (N : Nat → Prop) (w : World) (p : Option Addr) (l : List Sc) : Prop := ∀ i (hi : i < l.length), ∃ c o : Nat, p = some ⟨c, o, none⟩ ∧ c < w.heap.size ∧ N c ∧ w.cell? ⟨c, o + i * 2, none⟩ = some (.string l[i].nm) ∧ w.cell? ⟨c, o + i * 2 + 1, none⟩ = some (.slice l[i].pc l[i].nc l[i].cc) ∧ ScIn N w l[i]
structure PlAt (N : Nat → Prop) (w : World) (P : Pl) : Prop where
  nf : P.fr.length ≤ 100
  nt : P.tb.length ≤ 100
  frs : FrsAt N w P.pf P.fr
  tbs : ScsAt N w P.pt P.tb
section
variable {N M : Nat → Prop} {u v : World}
theorem FrsAt.keep {p : Option Addr} {l : List Fr} (h : FrsAt N u p l) (hz : u.heap.size ≤ v.heap.size) (hk : ∀ c, c < u.heap.size → N c → v.heap[c]? = u.heap[c]? ∧ M c) : FrsAt M v p l := by
  intro i hi
  obtain ⟨c, o, hp, hc, hn, hx, hq⟩ := h i hi
  exact ⟨c, o, hp, Nat.lt_of_lt_of_le hc hz, (hk c hc hn).2, fun j hj => (World.cell?_of_block (w := u) (hk c hc hn).1).trans (hx j hj), hq.ns, hq.q, hq.cols.keep hz hk⟩
theorem ScsAt.keep {p : Option Addr} {l : List Sc} (h : ScsAt N u p l) (hz : u.heap.size ≤ v.heap.size) (hk : ∀ c, c < u.heap.size → N c → v.heap[c]? = u.heap[c]? ∧ M c) : ScsAt M v p l := by
  intro i hi
  obtain ⟨c, o, hp, hc, hn, hx, hy, hq⟩ := h i hi
  exact ⟨c, o, hp, Nat.lt_of_lt_of_le hc hz, (hk c hc hn).2, (World.cell?_of_block (w := u) (hk c hc hn).1).trans hx, (World.cell?_of_block (w := u) (hk c hc hn).1).trans hy, hq.ns, hq.q, hq.cols.keep hz hk⟩
theorem PlAt.keep {P : Pl} (h : PlAt N u P) (hz : u.heap.size ≤ v.heap.size) (hk : ∀ c, c < u.heap.size → N c → v.heap[c]? = u.heap[c]? ∧ M c) : PlAt M v P := ⟨h.nf, h.nt, h.frs.keep hz hk, h.tbs.keep hz hk⟩
theorem PlAt.low {P : Pl} (h : PlAt N u P) (hb : Below u.heap.size u v) : PlAt N v P := h.keep hb.size fun c hc hn => ⟨hb.block c hc, hn⟩
theorem PlAt.weak {P : Pl} (h : PlAt N u P) (hM : ∀ c, c < u.heap.size → N c → M c) : PlAt M u P := h.keep (Nat.le_refl _) fun c hc hn => ⟨rfl, hM c hc hn⟩
theorem PlAt.step {P : Pl} {b : Nat} (h : PlAt N u P) (hs : StepT b u v) (hN : ∀ c, N c → c ≠ b) : PlAt N v P := h.keep hs.size fun c hc hn => ⟨hs.block c hc (hN c hn), hn⟩
theorem ScIn.low {x : Sc} (h : ScIn N u x) (hb : Below u.heap.size u v) : ScIn N v x := ⟨h.ns, h.q, h.cols.keep hb.size fun c hc hn => ⟨hb.block c hc, hn⟩⟩
theorem ScIn.step {x : Sc} {b : Nat} (h : ScIn N u x) (hs : StepT b u v) (hN : ∀ c, N c → c ≠ b) : ScIn N v x := ⟨h.ns, h.q, h.cols.keep hs.size fun c hc hn => ⟨hs.block c hc (hN c hn), hn⟩⟩
end
theorem qual_src {s : ByteArray} (h : srcB s = true) : qualB s = true := by unfold qualB; rw [h]; simp
theorem qual_empty : qualB ⟨#[]⟩ = true := qual_none
theorem fcells_length (l : List Fr) : (fcells l).length = l.length * 4 := by
  induction l with
  | nil => rfl
  | cons e l ih => show (frcs e ++ fcells l).length = _; rw [List.length_append, ih, List.length_cons]; show 4 + _ = _; omega
theorem fcells_append (a b : List Fr) : fcells (a ++ b) = fcells a ++ fcells b := List.flatMap_append
theorem fcells_at (l : List Fr) : ∀ i (hi : i < l.length), ∀ j, j < 4 → (fcells l)[i * 4 + j]? = (frcs l[i])[j]? := by
  induction l with
  | nil => intro i hi; simp at hi
  | cons e l ih =>
    intro i hi j hj
    have h0 : fcells (e :: l) = frcs e ++ fcells l := rfl
    rw [h0]
    cases i with
    | zero => rw [List.getElem?_append_left (by show 0 * 4 + j < 4; omega), Nat.zero_mul, Nat.zero_add]; rfl
    | succ i =>
      rw [List.getElem?_append_right (by show 4 ≤ _; omega), show (i + 1) * 4 + j - (frcs e).length = i * 4 + j by show (i + 1) * 4 + j - 4 = _; omega, ih i (by simpa using hi) j hj]
      rfl
theorem frcs_one (e : Fr) : ∀ u ∈ frcs e, u.oneCell' = true := by
  intro u hu
  simp only [frcs, List.mem_cons, List.not_mem_nil, or_false] at hu
  rcases hu with rfl | rfl | rfl | rfl <;> rfl
theorem fcells_one (l : List Fr) : ∀ u ∈ fcells l, u.oneCell' = true := by
  intro u hu
  obtain ⟨e, -, h⟩ := List.mem_flatMap.1 hu
  exact frcs_one e u h
theorem FrsAt.src {N : Nat → Prop} {w : World} {p : Option Addr} {l : List Fr} (h : FrsAt N w p l) : (∀ ad, p = some ad → ∀ j x, (fcells l)[j]? = some x → w.cell? (ad.add j) = some x) ∧ (p = none → fcells l = []) := by
  constructor
  · intro ad he j x hj
    have hj1 := (List.getElem?_eq_some_iff.1 hj).1
    rw [fcells_length] at hj1
    obtain ⟨g, o, hp, -, -, hc, -⟩ := h (j / 4) (by omega)
    rw [he] at hp
    obtain rfl := Option.some.inj hp
    have hadd : (⟨g, o, none⟩ : Addr).add j = ⟨g, o + j, none⟩ := by unfold Addr.add; split <;> simp_all
    have h2 := fcells_at l (j / 4) (by omega) (j % 4) (by omega)
    have h3 := hc (j % 4) (by omega)
    rw [show j / 4 * 4 + j % 4 = j by omega, hj] at h2
    rw [hadd, show o + j = o + j / 4 * 4 + j % 4 by omega, h3, ← h2]
  · intro hn
    cases l with
    | nil => rfl
    | cons s L =>
      obtain ⟨g, o, hp, -⟩ := h 0 (by simp)
      rw [hn] at hp; cases hp
theorem info_frame : (Tryz.prog.info? 72).map (fun i => (i.zero, i.size, i.bytes)) = some (some (.agg #[.string ⟨#[]⟩, .bool false, .slice none 0 0, .slice none 0 0]), 4, 72) := by kernel_rfl
/-- A list of frames that the call owns lies in memory. -/
theorem FrsAt.own {N : Nat → Prop} {u : World} {base n : Nat} {v : Value} {l : List Fr} (h : u.ownsRow base 72 4 v n (fcells l)) (hN : ∀ k, v.ownBlock = some k → N k) (hP : ∀ e ∈ l, FrIn N u e) :
    ∃ p c, v = .slice p n c ∧ n = l.length ∧ FrsAt N u p l := by
  obtain ⟨hl, h⟩ := h
  rw [fcells_length] at hl
  have hn : n = l.length := by omega
  rcases h with ⟨rfl, h0⟩ | ⟨g, cap, cur, rfl, hg, hh, hcap, hm, hcur, htake⟩
  · refine ⟨none, 0, by rw [h0], hn, fun i hi => by omega⟩
  · refine ⟨_, cap, rfl, hn, fun i hi => ⟨g, 0, rfl, (Array.getElem?_eq_some_iff.1 hh).1, hN g rfl, ?_, hP _ (List.getElem_mem _)⟩⟩
    intro j hj
    have hj2 := fcells_at l i hi j hj
    rw [← htake, List.getElem?_take, if_pos (by omega)] at hj2
    rw [← hj2, Nat.zero_add]
    simp [World.cell?, hh]
def homeSc (Y Z U : Nat) : List Sc := [⟨⟨#[108, 111, 103]⟩, some ⟨Y, 0, none⟩, 2, 2, colLog⟩, ⟨⟨#[116]⟩, some ⟨Z, 0, none⟩, 4, 4, colTs⟩, ⟨⟨#[117]⟩, some ⟨U, 0, none⟩, 3, 3, colU⟩]
theorem colLog_ok : ∀ j : Fin 2, nameOK (colLog j.val).nm = true ∧ 1 ≤ (colLog j.val).ty ∧ (colLog j.val).ty ≤ 3 := by decide +kernel
theorem colTs_ok : ∀ j : Fin 4, nameOK (colTs j.val).nm = true ∧ 1 ≤ (colTs j.val).ty ∧ (colTs j.val).ty ≤ 3 := by decide +kernel
theorem colU_ok : ∀ j : Fin 3, nameOK (colU j.val).nm = true ∧ 1 ≤ (colU j.val).ty ∧ (colU j.val).ty ≤ 3 := by decide +kernel
theorem homeNm_ok : srcB ⟨#[108, 111, 103]⟩ = true ∧ srcB ⟨#[116]⟩ = true ∧ srcB ⟨#[117]⟩ = true := by decide +kernel
theorem colIn_of {N : Nat → Prop} {w : World} {Z n : Nat} {f : Nat → Col} (hn : n ≤ 100) (h : ColsAt w (some ⟨Z, 0, none⟩) n f) (hp : 0 < n) (hN : N Z) (hf : ∀ j : Fin n, nameOK (f j.val).nm = true ∧ 1 ≤ (f j.val).ty ∧ (f j.val).ty ≤ 3) : ColIn N w (some ⟨Z, 0, none⟩) n f := by
  refine ⟨hn, h, fun a ha => ?_, fun j hj => (hf ⟨j, hj⟩).1, fun j hj => (hf ⟨j, hj⟩).2⟩
  obtain rfl := Option.some.inj ha
  obtain ⟨c, o, he, hc, -⟩ := h 0 hp
  cases he
  exact ⟨hN, hc⟩
theorem home_scs {N : Nat → Prop} {w : World} {X Y Z U : Nat} (h : SchemasAt w X Y Z U) (h1 : N X) (h2 : N Y) (h3 : N Z) (h4 : N U) : ScsAt N w (some ⟨X, 0, none⟩) (homeSc Y Z U) := by
  intro i hi
  have hi3 : i < 3 := hi
  obtain rfl | rfl | rfl : i = 0 ∨ i = 1 ∨ i = 2 := by omega
  · exact ⟨X, 0, rfl, h.lt, h1, h.c0, h.c1, ⟨by show (⟨#[108, 111, 103]⟩ : ByteArray).size ≤ _; decide, homeNm_ok.1, colIn_of (show 2 ≤ 100 by decide) h.logC (show 0 < 2 by decide) h2 colLog_ok⟩⟩
  · exact ⟨X, 0, rfl, h.lt, h1, h.c2, h.c3, ⟨by show (⟨#[116]⟩ : ByteArray).size ≤ _; decide, homeNm_ok.2.1, colIn_of (show 4 ≤ 100 by decide) h.tC (show 0 < 4 by decide) h3 colTs_ok⟩⟩
  · exact ⟨X, 0, rfl, h.lt, h1, h.c4, h.c5, ⟨by show (⟨#[117]⟩ : ByteArray).size ≤ _; decide, homeNm_ok.2.2, colIn_of (show 3 ≤ 100 by decide) h.uC (show 0 < 3 by decide) h4 colU_ok⟩⟩
/-- Home: no frames, the three tables. -/
theorem home_any (w : World) : Calls Tryz.prog 8 #[] w fun e w' => ∃ P : Pl, e = .returned (plV P) ∧ P.fr = [] ∧ P.tb.length = 3 ∧ PlAt (fun c => w.heap.size < c) w' P ∧ Below w.heap.size w w' := by
  go_enter Tryz.func8, Tryz.ntmps8
  go_wp2_with fail
  refine (schemas_any _).mono ?_
  rintro e w1 ⟨X, Y, Z, U, rfl, hS, hX, hY, hZ, hU, hb⟩
  obtain ⟨hq, hb'⟩ := two_one hb
  rw [size_alloc] at hX hY hZ hU
  have HS := Lib.hid hS
  have HB := Lib.hid hb'
  clear hS hb hb'
  obtain ⟨hl, c0, c1, fz⟩ := id hq
  go_wp2
  obtain ⟨-, s0, s1, -⟩ := cell2_set hq (.slice none 0 0) (.slice (some ⟨X, 0, none⟩) 3 3)
  refine bodyPost_ret (v := plV ⟨none, 0, [], some ⟨X, 0, none⟩, 3, homeSc Y Z U⟩) (by simp [results, Tryz.results8, go_sem, s0, s1, plV, homeSc]) rfl ⟨_, rfl, rfl, rfl, ⟨show 0 ≤ 100 by decide, show 3 ≤ 100 by decide, fun i hi => by simp at hi, ?_⟩, ?_⟩
  · exact (home_scs (N := fun c => w.heap.size < c) HS.out (by omega) (by omega) (by omega) (by omega)).keep (by simp [World.setCell]) fun c hc hn => ⟨(Below.heap_setCell _ _ _ _ (by exact Nat.ne_of_gt hn)).trans (Below.heap_setCell _ _ _ _ (by exact Nat.ne_of_gt hn)), hn⟩
  · exact (HB.out.setCell (by exact Nat.le_refl _) _).setCell (by exact Nat.le_refl _) _
end Go.Proofs.YtlpaphgmdcpmaaaGreatDoor
/-
  column of the world's tape: a column of a place that has the wanted type, if there is one.
-/
namespace Go.Proofs.YtlpaphgmdcpmaaaGreatDoor
set_option maxRecDepth 100000
open Go.RowKit
variable {ls : List Nat}

/-- A column of an expression whose names are fine. -/
def IsCol (e : Ex) : Prop := ∃ tb nm, e = colEx tb nm ∧ qualB tb = true ∧ nameOK nm = true
theorem IsCol.good {e : Ex} (h : IsCol e) (D : Nat) : vE (D + 1) e = true := by
  obtain ⟨tb, nm, rfl, h1, h2⟩ := h
  exact vOf_col h1 h2
theorem IsCol.at' {e : Ex} (h : IsCol e) (N : Nat → Prop) (w : World) (D : Nat) : ExAt N w (D + 1) e := by
  obtain ⟨tb, nm, rfl, h1, h2⟩ := h
  exact ExAt.leaf N w D 2 0 false 0 0 (by decide) (Nat.le_trans (qualB_size h1) (by decide)) (Nat.le_trans (nameOK_size h2) (by decide))
/-- What column gives. -/
def ColPost (b : Nat) (w : World) (e : Ending) (w' : World) : Prop := ∃ (E : Ex) (ok : Bool), e = .returned (.tuple #[exV E, .bool ok]) ∧ (ok = true → IsCol E) ∧ TapeAt w' b ∧ StepT b w w'
/-- What column keeps while it looks. -/
structure ClW (W : World) (N : Nat → Prop) (P : Pl) (A : Nat) (L : List Ex) (t : Value) (u : World) : Prop where
  low : Below W.heap.size W u
  own : u.ownsRow W.heap.size 27 10 t L.length (ecells L)
  cols : ∀ e ∈ L, IsCol e
theorem ClW.next {W : World} {N : Nat → Prop} {P : Pl} {A : Nat} {L : List Ex} {t : Value} {u v : World} (h : ClW W N P A L t u) (hb : Below u.heap.size u v) : ClW W N P A L t v := ⟨below_next h.low hb, owns_below h.own hb, h.cols⟩
theorem ClW.push {W : World} {N : Nat → Prop} {P : Pl} {A : Nat} {L : List Ex} {t t2 : Value} {u v : World} (h : ClW W N P A L t u) {E : Ex} (hE : IsCol E) (hown : v.ownsRow W.heap.size 27 10 t2 (L.length + 1) (ecells L ++ excs E)) (hg : u.grownBy v t.ownBlock) : ClW W N P A (L ++ [E]) t2 v := by
  refine ⟨h.low.grown hg h.low.size fun j hj => owns_block h.own j hj, ?_, fun e he => ?_⟩
  · rw [List.length_append, List.length_singleton, ecells_append, ecells_single]; exact hown
  · rcases List.mem_append.1 he with he | he
    · exact h.cols e he
    · obtain rfl := List.mem_singleton.1 he; exact hE
/-- A box that is not the list's own block stays. -/
theorem Cell4.grow {u v : World} {X : Nat} {a b c d : Value} {t : Value} (h : Cell4 u X a b c d) (hg : u.grownBy v t.ownBlock) (hn : t.ownBlock ≠ some X) : Cell4 v X a b c d :=
  ⟨Nat.lt_of_lt_of_le h.lt hg.size, (World.cell?_of_block (w := u) (hg.block X h.lt hn.symm)).trans h.c0, (World.cell?_of_block (w := u) (hg.block X h.lt hn.symm)).trans h.c1, (World.cell?_of_block (w := u) (hg.block X h.lt hn.symm)).trans h.c2, (World.cell?_of_block (w := u) (hg.block X h.lt hn.symm)).trans h.c3, fun o => (World.frozen?_of_block (w := u) (hg.block X h.lt hn.symm)).trans (h.fz o)⟩
theorem own_ne {u : World} {base n X : Nat} {v : Value} {L : List Ex} {s : ByteArray} {b c d : Value} (h : u.ownsRow base 27 10 v n (ecells L)) (hL : 0 < L.length) (hc : Cell4 u X (.string s) b c d) : v.ownBlock ≠ some X := by
  intro e
  obtain ⟨p, c1, hv, hn, hA, hq⟩ := LAt.own (N := fun k => v.ownBlock = some k) (P := fun _ => True) h (fun k hk => hk) (fun _ _ => trivial)
  obtain ⟨g, o, hp, -, hN, hC, -⟩ := hA 0 hL
  have h0 := (hq _ hp).2
  simp only at h0
  subst h0
  rw [e] at hN
  obtain rfl := Option.some.inj hN
  have h1 := hC.c0
  rw [Nat.zero_mul, Nat.add_zero, hc.c0] at h1
  cases h1
theorem isCol_of {tb nm : ByteArray} (h1 : qualB tb = true) (h2 : nameOK nm = true) : IsCol (colEx tb nm) := ⟨tb, nm, rfl, h1, h2⟩
set_option maxHeartbeats 8000000 in
theorem tcolumn_any {N : Nat → Prop} (b : Nat) (P : Pl) (want : Int) (w : World) (hP : PlAt N w P) (ht : TapeAt w b) (_hN : ∀ c, N c → c ≠ b) :
    Calls Tryz.prog 18 #[.pointer (some ⟨b, 0, none⟩), plV P, .int .i64 want] w (ColPost b w) := by
  obtain ⟨i0, hi0, hz0, hz1, hz2⟩ := info_parts info_expr
  have hb1 := below_alloc w (.cells #[.slice P.pf P.fr.length P.cf, .slice P.pt P.tb.length P.ct] 37)
  have hq := cell2_new w (.slice P.pf P.fr.length P.cf) (.slice P.pt P.tb.length P.ct) 37
  have hx : ExB ((w.alloc (.cells #[.slice P.pf P.fr.length P.cf, .slice P.pt P.tb.length P.ct] 37)).alloc (.cells #[.int .i64 0, .int .i64 0, .bool false, .int .i64 0, .int .i64 0, .string ⟨#[]⟩, .string ⟨#[]⟩, .string ⟨#[]⟩, .slice none 0 0, .slice none 0 0] 27)) (w.heap.size + 1) ex0 := (ExB.new (w.alloc (.cells #[.slice P.pf P.fr.length P.cf, .slice P.pt P.tb.length P.ct] 37)) ex0 27).at (size_alloc _ _)
  have hb2 := below_alloc (w.alloc (.cells #[.slice P.pf P.fr.length P.cf, .slice P.pt P.tb.length P.ct] 37)) (.cells #[.int .i64 0, .int .i64 0, .bool false, .int .i64 0, .int .i64 0, .string ⟨#[]⟩, .string ⟨#[]⟩, .string ⟨#[]⟩, .slice none 0 0, .slice none 0 0] 27)
  have hbb := below_next hb1 hb2
  have HB0 := Lib.hid hbb
  have HQ := Lib.hid (hq.low hb2)
  have HX := Lib.hid hx
  have HP := Lib.hid (hP.low hbb)
  have HT := Lib.hid (ht.below hbb)
  have hlt := ht.lt
  have HZ := Lib.hid (show ((w.alloc (.cells #[.slice P.pf P.fr.length P.cf, .slice P.pt P.tb.length P.ct] 37)).alloc (.cells #[.int .i64 0, .int .i64 0, .bool false, .int .i64 0, .int .i64 0, .string ⟨#[]⟩, .string ⟨#[]⟩, .string ⟨#[]⟩, .slice none 0 0, .slice none 0 0] 27)).heap.size = w.heap.size + 2 by rw [size_alloc, size_alloc])
  have hnf := hP.nf
  clear hb1 hq hx hb2 hbb hP ht
  unfold plV
  go_enter Tryz.func18, Tryz.ntmps18
  go_upto_region 1 with (fail)
  generalize World.alloc (World.alloc w _) _ = W at *
  obtain ⟨ql, q0, q1, qf⟩ := HQ.out
  generalize hnn : P.fr.length = n at *
  have HNN := Lib.hid hnn
  clear hnn
  go_wp2_with fail
  go_loopw [8, 16] (fun t i v => ∃ (k : Nat) (L : List Ex), k ≤ n ∧ i = .int .i64 k ∧ L.length ≤ k * 200 ∧ ClW W N P 0 L t v) (fun _ i _ => n - (intOf i).toNat)
  case atStart => exact ⟨0, [], Nat.zero_le _, rfl, Nat.zero_le _, ⟨Below.refl _ _, ⟨rfl, .inl ⟨rfl, rfl⟩⟩, fun e he => by cases he⟩⟩
  case round =>
    obtain ⟨k, L, hk, rfl, hL, hW⟩ := hrel
    have HW := Lib.hid hW
    have HQ1 := Lib.hid (HQ.out.low HW.out.low)
    clear hW ql q0 q1 qf
    by_cases hlt2 : k < n
    · have hltI : (k : Int) < n := by omega
      have hltB : decide ((k : Int) < n) = true := decide_eq_true (by omega)
      obtain ⟨c, o, hpf, hc, -, hcl, hI⟩ := HP.out.frs k (by rw [HNN.out]; exact hlt2)
      rw [show P.pf = some ⟨c, o, none⟩ from hpf]
      clear hpf
      have HI := Lib.hid hI
      generalize P.fr[k]'(by rw [HNN.out]; exact hlt2) = f at *
      have hk4 : ∀ j, wr.cell? ⟨c, o + k * 4 + j, none⟩ = W.cell? ⟨c, o + k * 4 + j, none⟩ := fun j => HW.out.low.cell (by exact hc)
      have g0 : wr.cell? ⟨c, o + k * 4, none⟩ = some (.string f.nm) := (hk4 0).trans (hcl 0 (by decide))
      have g1 : wr.cell? ⟨c, o + k * 4 + 1, none⟩ = some (.bool f.st) := (hk4 1).trans (hcl 1 (by decide))
      have g2 : wr.cell? ⟨c, o + k * 4 + 2, none⟩ = some (.slice f.pc f.nc f.cc) := (hk4 2).trans (hcl 2 (by decide))
      have g3 : wr.cell? ⟨c, o + k * 4 + 3, none⟩ = some (.slice f.pv f.nv f.cv) := (hk4 3).trans (hcl 3 (by decide))
      clear hcl hk4 hI hc
      obtain ⟨pt0, ct0, rfl⟩ := own_exW HW.out.own
      have hal := below_alloc wr (.cells #[.string f.nm, .bool f.st, .slice f.pc f.nc f.cc, .slice f.pv f.nv f.cv] 72)
      have HC4 := Lib.hid (cell4_new wr (.string f.nm) (.bool f.st) (.slice f.pc f.nc f.cc) (.slice f.pv f.nv f.cv) 72)
      have HWF := Lib.hid (HW.out.next hal)
      have HOB := Lib.hid (fun j (hj : (Value.slice pt0 L.length ct0).ownBlock = some j) => owns_lt HW.out.own j hj)
      have HLE := Lib.hid hL
      clear hal hL
      go_upto_region 5 with (fail)
      clear g0 g1 g2 g3
      generalize World.alloc wr _ = W5 at *
      generalize hF : wr.heap.size = FX at *
      have HF := Lib.hid hF
      clear hF
      obtain ⟨fl, f0, f1, f2, f3, ff⟩ := HC4.out
      go_wp2_with fail
      clear fl f0 f1 f2 f3 ff
      go_loopw [8, 24] (fun t i v => ∃ (j : Nat) (L2 : List Ex), j ≤ f.nc ∧ i = .int .i64 j ∧ L2.length ≤ k * 200 + j * 2 ∧ ClW W N P 0 L2 t v ∧ Cell4 v FX (.string f.nm) (.bool f.st) (.slice f.pc f.nc f.cc) (.slice f.pv f.nv f.cv) ∧ t.ownBlock ≠ some FX) (fun _ i _ => f.nc - (intOf i).toNat)
      case atStart => exact ⟨0, L, Nat.zero_le _, rfl, by have := HLE.out; omega, HWF.out, HC4.out, fun e => by have := HOB.out _ e; have := HF.out; omega⟩
      case round =>
        obtain ⟨j, L2, hj, rfl, hL2, hW2, hC2, hO2⟩ := hrel
        have HW2 := Lib.hid hW2
        have HC2 := Lib.hid hC2
        have HL2 := Lib.hid hL2
        have hnc := HI.out.cols.n
        obtain ⟨pt1, ct1, rfl⟩ := own_exW HW2.out.own
        have HO2 := Lib.hid hO2
        clear hW2 hC2 hL2 hO2
        by_cases hlt3 : j < f.nc
        · have hjI : (j : Int) < f.nc := by omega
          have hjB : decide ((j : Int) < f.nc) = true := decide_eq_true (by omega)
          obtain ⟨c2, o2, hpc, hc2, hsz2, k0, k1, k2, k3⟩ := HI.out.cols.at' j hlt3
          have hcn := HI.out.cols.nm j hlt3
          have hkk : ∀ q, wr.cell? ⟨c2, q, none⟩ = W.cell? ⟨c2, q, none⟩ := fun q => HW2.out.low.cell (by exact hc2)
          rw [← hkk] at k0 k1 k2 k3
          clear hkk hc2
          have HPC := Lib.hid hpc
          generalize f.col j = cj at *
          have HCN := Lib.hid hcn
          have hal := below_alloc wr (.cells #[.string cj.nm, .int .i64 cj.ty, .bool cj.nn, .bool cj.key] 74)
          have HK4 := Lib.hid (cell4_new wr (.string cj.nm) (.int .i64 cj.ty) (.bool cj.nn) (.bool cj.key) 74)
          have HW3 := Lib.hid (HW2.out.next hal)
          have HC3 := Lib.hid (HC2.out.low hal)
          have HOC := Lib.hid (fun q (hq : (Value.slice pt1 L2.length ct1).ownBlock = some q) => owns_lt HW2.out.own q hq)
          clear hal hcn hpc
          rw [show f.pc = some ⟨c2, o2, none⟩ from HPC.out]
          go_upto_region 8 with (fail)
          clear k0 k1 k2 k3
          generalize hCX : wr.heap.size = CX at *
          have HCX := Lib.hid hCX
          generalize World.alloc wr _ = W8 at *
          obtain ⟨yl, y0, y1, y2, y3, yf⟩ := HK4.out
          by_cases hty : cj.ty = want
          · have e1 : (cj.ty == want) = true := beq_iff_eq.2 hty
            have e2 : (cj.ty != want) = false := by rw [bne, e1]; rfl
            obtain ⟨fl, f0, f1, f2, f3, ff⟩ := HC3.out
            go_wp2_with fail
            clear fl f0 f1 f2 f3 ff yl y0 y1 y2 y3 yf
            refine (col_agg f.nm cj.nm _).mono ?_
            rintro e' w9 ⟨rfl, hb9⟩
            have hal9 := below_next hb9 (below_alloc w9 (.cells #[.int .i64 2, .int .i64 0, .bool false, .int .i64 0, .int .i64 0, .string ⟨#[]⟩, .string f.nm, .string cj.nm, .slice none 0 0, .slice none 0 0] 27))
            have HN9 := Lib.hid (news_of (ExB.new w9 (colEx f.nm cj.nm) 27))
            have HW9 := Lib.hid (HW3.out.next hal9)
            have HC9 := Lib.hid (HC3.out.low hal9)
            have HK9 := Lib.hid (HK4.out.low hal9)
            have HE9 := Lib.hid (isCol_of (tb := f.nm) (nm := cj.nm) HI.out.q HCN.out)
            have hbs9 := HW9.out.low.size
            clear hal9 hb9
            have hll := HL2.out
            go_upto_region 10 with (at_builtin; go_loud (refine wpList_append_any rfl (.tmp 32) (.tmp 38) 24 27 rfl W.heap.size i0 _ 10 136 Tryz.underlying24 hi0 hz0 hz1 hz2 rfl (by decide) (.slice pt1 L2.length ct1) (L2).length (ecells (L2)) (by rfl) HW9.out.own (some ⟨w9.heap.size, 0, none⟩) 1 1 (excs (colEx f.nm cj.nm)) (by rfl) rfl (fun ad he => by cases he; exact HN9.out) (fun e => by cases e) (excs_one _) (by (try simp only [List.length_append, List.length_singleton]); unfold maxLen; omega) (by (try simp only [List.length_append, List.length_singleton]); omega) hbs9 ?_; intro v9 x9 hown hg; (have HW9b := Lib.hid (HW9.out.push HE9.out hown hg)); (have HC9b := Lib.hid (HC9.out.grow hg (HO2.out))); (have HK9b := Lib.hid (HK9.out.grow hg ((fun e => by have := HOC.out _ e; have := HCX.out; omega)))); clear hown hg))
            have hne9 : v9.ownBlock ≠ some FX := own_ne HW9b.out.own (by simp) HC9b.out
            have hnk9 : v9.ownBlock ≠ some CX := own_ne HW9b.out.own (by simp) HK9b.out
            have HQ9 := Lib.hid (HQ.out.low HW9b.out.low)
            have HNE9 := Lib.hid hne9
            have HNK9 := Lib.hid hnk9
            clear hne9 hnk9
            obtain ⟨fl, f0, f1, f2, f3, ff⟩ := HC9b.out
            obtain ⟨ql, q0, q1, qf⟩ := HQ9.out
            have hw1 : IntKind.i64.wrap ((n : Int) - 1) = (n : Int) - 1 := i64w (by omega) (by omega)
            have fin : ClW W N P 0 (L2 ++ [colEx f.nm cj.nm]) v9 x9 := HW9b.out
            have FIN := Lib.hid fin
            clear fin
            rcases Bool.eq_false_or_eq_true f.st with hst | hst
            rotate_left
            · rw [hst] at f1
              clear hst
              by_cases hlast : (k : Int) = (n : Int) - 1
              · have e3 : ((k : Int) == (n : Int) - 1) = true := beq_iff_eq.2 hlast
                obtain ⟨yl, y0, y1, y2, y3, yf⟩ := HK9b.out
                have HLAST := Lib.hid hlast
                clear hlast
                go_wp2_with fail
                clear fl f0 f1 f2 f3 ff yl y0 y1 y2 y3 yf ql q0 q1 qf
                refine (col_agg ⟨#[]⟩ cj.nm _).mono ?_
                rintro e' w10 ⟨rfl, hb10⟩
                have hal10 := below_next hb10 (below_alloc w10 (.cells #[.int .i64 2, .int .i64 0, .bool false, .int .i64 0, .int .i64 0, .string ⟨#[]⟩, .string ⟨#[]⟩, .string cj.nm, .slice none 0 0, .slice none 0 0] 27))
                have HN10 := Lib.hid (news_of (ExB.new w10 (colEx ⟨#[]⟩ cj.nm) 27))
                have HW10 := Lib.hid (HW9b.out.next hal10)
                have HC10 := Lib.hid (HC9b.out.low hal10)
                have HK10 := Lib.hid (HK9b.out.low hal10)
                have HE10 := Lib.hid (isCol_of (tb := ⟨#[]⟩) (nm := cj.nm) qual_empty HCN.out)
                have hbs10 := HW10.out.low.size
                clear hal10 hb10
                have hll := HL2.out
                go_wp2_with (at_builtin; go_loud (refine wpList_append_any rfl (.tmp 51) (.tmp 55) 24 27 rfl W.heap.size i0 _ 10 136 Tryz.underlying24 hi0 hz0 hz1 hz2 rfl (by decide) v9 (L2 ++ [colEx f.nm cj.nm]).length (ecells (L2 ++ [colEx f.nm cj.nm])) (by rfl) HW10.out.own (some ⟨w10.heap.size, 0, none⟩) 1 1 (excs (colEx ⟨#[]⟩ cj.nm)) (by rfl) rfl (fun ad he => by cases he; exact HN10.out) (fun e => by cases e) (excs_one _) (by (try simp only [List.length_append, List.length_singleton]); unfold maxLen; omega) (by (try simp only [List.length_append, List.length_singleton]); omega) hbs10 ?_; intro v10 x10 hown hg; (have HW10b := Lib.hid (HW10.out.push HE10.out hown hg)); (have HC10b := Lib.hid (HC10.out.grow hg (HNE9.out))); (have HK10b := Lib.hid (HK10.out.grow hg (HNK9.out))); clear hown hg))
                go_roundw
                case rel => exact ⟨j + 1, _, by omega, by go_num, by have := HL2.out; simp only [List.length_append, List.length_singleton]; omega, HW10b.out, by rw [← HPC.out]; exact HC10b.out, own_ne HW10b.out.own (by simp) HC10b.out⟩
                case measure => simp [intOf]; omega
              · have e3 : ((k : Int) == (n : Int) - 1) = false := beq_eq_false_iff_ne.2 hlast
                go_wp2_with fail
                go_roundw
                case rel => exact ⟨j + 1, _, by omega, by go_num, by have := HL2.out; simp only [List.length_append, List.length_singleton]; omega, FIN.out, by rw [← HPC.out]; exact HC9b.out, HNE9.out⟩
                case measure => simp [intOf]; omega
            · rw [hst] at f1
              clear hst
              go_wp2_with fail
              go_roundw
              case rel => exact ⟨j + 1, _, by omega, by go_num, by have := HL2.out; simp only [List.length_append, List.length_singleton]; omega, FIN.out, by rw [← HPC.out]; exact HC9b.out, HNE9.out⟩
              case measure => simp [intOf]; omega
          · have e1 : (cj.ty == want) = false := beq_eq_false_iff_ne.2 hty
            have e2 : (cj.ty != want) = true := by rw [bne, e1]; rfl
            go_wp2_with fail
            go_roundw
            case rel => exact ⟨j + 1, L2, by omega, by go_num, by have := HL2.out; omega, HW3.out, by rw [← HPC.out]; exact HC3.out, HO2.out⟩
            case measure => simp [intOf]; omega
        · obtain rfl : j = f.nc := by omega
          have hjB : decide ((f.nc : Int) < f.nc) = false := decide_eq_false (by omega)
          go_wp2_with fail
          go_roundw
          case rel => exact ⟨k + 1, L2, by omega, by go_num, by have := HL2.out; omega, HW2.out⟩
          case measure => simp [intOf]; omega
    · obtain rfl : k = n := by omega
      have hltB : decide ((k : Int) < k) = false := decide_eq_false (by omega)
      obtain ⟨pt0, ct0, rfl⟩ := own_exW HW.out.own
      have HXW := Lib.hid (HX.out.low HW.out.low)
      have HTW := Lib.hid (HT.out.below HW.out.low)
      have HB9 := Lib.hid (below_next HB0.out HW.out.low)
      have hsz := HW.out.low.size
      have hz2 := HZ.out
      by_cases h0 : L.length = 0
      · have e0 : ((L.length : Int) == 0) = true := beq_iff_eq.2 (by omega)
        obtain ⟨xl, x0, x1, x2, x3, x4, x5, x6, x7, x8, x9, xf⟩ := HXW.out
        have hbx := but_ten wr (w.heap.size + 1) (.int .i64 0) (.int .i64 0) (.bool false) (.int .i64 0) (.int .i64 0) (.string ⟨#[]⟩) (.string ⟨#[]⟩) (.string ⟨#[]⟩) (.slice none 0 0) (.slice none 0 0)
        have HBX := Lib.hid hbx
        clear hbx
        go_wp2
        obtain ⟨s0, s1, s2, s3, s4, s5, s6, s7, s8, s9⟩ := set_ten HXW.out (.int .i64 0) (.int .i64 0) (.bool false) (.int .i64 0) (.int .i64 0) (.string ⟨#[]⟩) (.string ⟨#[]⟩) (.string ⟨#[]⟩) (.slice none 0 0) (.slice none 0 0)
        refine bodyPost_ret (v := .tuple #[exV ex0, .bool false]) (by simp [results, Tryz.results18, go_sem, s0, s1, s2, s3, s4, s5, s6, s7, s8, s9, exV, ex0, Ex.mk_k, Ex.mk_op, Ex.mk_no, Ex.mk_vk, Ex.mk_vi, Ex.mk_vt, Ex.mk_tb, Ex.mk_nm, Ex.mk_pa, Ex.mk_ca, Ex.mk_args, Ex.mk_ps, Ex.mk_cs, Ex.mk_sub]) rfl ?_
        exact ⟨ex0, false, rfl, fun h => (by cases h), HTW.out.but HBX.out (by omega), (StepT.of_below HB9.out).but HBX.out (by omega)⟩
      · have e0 : ((L.length : Int) == 0) = false := beq_eq_false_iff_ne.2 (by omega)
        have HLB := Lib.hid (show L.length ≤ 20000 by omega)
        go_wp2_with fail
        refine (next_any b _ wr (by omega) (by have := HLB.out; omega) HTW.out).mono ?_
        rintro e' w9 ⟨r9, rfl, hr0, hr1, ht9, hs9⟩
        obtain ⟨m, rfl⟩ : ∃ m : Nat, r9 = m := ⟨r9.toNat, by omega⟩
        have hmL : m < L.length := by omega
        have hown9 := owns_step HW.out.own (by omega) hs9
        obtain ⟨p9, c9, hv9, hn9, hA9, hq9⟩ := LAt.own (N := fun k => W.heap.size ≤ k) (P := IsCol) hown9 (fun k hk => owns_block hown9 k hk) HW.out.cols
        injection hv9 with hp9 hl9 hc9
        subst hp9
        obtain ⟨g, o, hpt, hg, hgN, hC, hcol⟩ := hA9 m hmL
        have HX9 := Lib.hid (HXW.out.step hs9 (by omega))
        have HS9 := Lib.hid ((StepT.of_below HB9.out).trans hs9)
        have HT9 := Lib.hid ht9
        have HCOL := Lib.hid hcol
        clear hown9 hA9 hq9 hs9 ht9 hcol
        generalize eAt L m = E at *
        obtain ⟨y0, y1, y2, y3, y4, y5, y6, y7, y8, y9⟩ := hC
        obtain ⟨xl, x0, x1, x2, x3, x4, x5, x6, x7, x8, x9, xf⟩ := HX9.out
        rw [hpt]
        have HBX := Lib.hid (but_ten w9 (w.heap.size + 1) (.int .i64 E.k) (.int .i64 E.op) (.bool E.no) (.int .i64 E.vk) (.int .i64 E.vi) (.string E.vt) (.string E.tb) (.string E.nm) (.slice E.pa E.args.length E.ca) (.slice E.ps E.sub.length E.cs))
        have hmI : (m : Int) < L.length := by omega
        go_wp2
        obtain ⟨s0, s1, s2, s3, s4, s5, s6, s7, s8, s9⟩ := set_ten HX9.out (.int .i64 E.k) (.int .i64 E.op) (.bool E.no) (.int .i64 E.vk) (.int .i64 E.vi) (.string E.vt) (.string E.tb) (.string E.nm) (.slice E.pa E.args.length E.ca) (.slice E.ps E.sub.length E.cs)
        refine bodyPost_ret (v := .tuple #[exV E, .bool true]) (by simp [results, Tryz.results18, go_sem, s0, s1, s2, s3, s4, s5, s6, s7, s8, s9, exV]) rfl ?_
        exact ⟨E, true, rfl, fun _ => HCOL.out, HT9.out.but HBX.out (by omega), HS9.out.but HBX.out (by omega)⟩
end Go.Proofs.YtlpaphgmdcpmaaaGreatDoor
/-
  Different values of the tape are written differently. Plain.
-/
namespace Go.Proofs.YtlpaphgmdcpmaaaGreatDoor
set_option maxRecDepth 100000
open Go

theorem digit_nat (d : Nat) (h : d < 10) : (UInt8.ofNat (48 + d)).toNat = 48 + d := by
  simp; omega
theorem dec_val (u : Nat) : (Lib.decDigits u).foldl (fun a c => a * 10 + (c.toNat - 48)) 0 = u := by
  induction u using Nat.strongRecOn with
  | _ u ih =>
    rw [Lib.decDigits]
    split
    · rename_i h
      simp only [List.foldl_cons, List.foldl_nil]
      rw [digit_nat u h]; omega
    · rename_i h
      rw [List.foldl_append, ih (u / 10) (by omega)]
      simp only [List.foldl_cons, List.foldl_nil]
      rw [digit_nat (u % 10) (by omega)]; omega
theorem dec_inj {a b : Nat} (h : Lib.decDigits a = Lib.decDigits b) : a = b := by rw [← dec_val a, ← dec_val b, h]
theorem dec_head (u : Nat) : ∃ c l, Lib.decDigits u = c :: l ∧ 48 ≤ c.toNat ∧ c.toNat ≤ 57 := by
  induction u using Nat.strongRecOn with
  | _ u ih =>
    rw [Lib.decDigits]
    split
    · rename_i h
      exact ⟨_, _, rfl, by rw [digit_nat u h]; omega, by rw [digit_nat u h]; omega⟩
    · obtain ⟨c, l, hc, h1, h2⟩ := ih (u / 10) (by omega)
      exact ⟨c, _, by rw [hc]; rfl, h1, h2⟩
theorem itoa_head (n : Int) : ∃ c l, Lib.itoa n = c :: l ∧ (c = 45 ∨ 48 ≤ c.toNat) ∧ c.toNat ≤ 57 := by
  unfold Lib.itoa
  split
  · exact ⟨_, _, rfl, Or.inl rfl, by decide⟩
  · obtain ⟨c, l, hc, h1, h2⟩ := dec_head n.toNat
    exact ⟨c, l, hc, Or.inr h1, h2⟩
theorem itoa_inj {a b : Int} (h : Lib.itoa a = Lib.itoa b) : a = b := by
  unfold Lib.itoa at h
  split at h <;> split at h
  · have := dec_inj (List.cons.inj h).2; omega
  · obtain ⟨c, l, hc, h1, -⟩ := dec_head b.toNat
    rw [hc] at h; have := (List.cons.inj h).1; rw [← this] at h1; exact absurd h1 (by decide)
  · obtain ⟨c, l, hc, h1, -⟩ := dec_head a.toNat
    rw [hc] at h; have := (List.cons.inj h).1; rw [this] at h1; exact absurd h1 (by decide)
  · have := dec_inj h; omega

/-- The first byte of a text. -/
def firstB (s : ByteArray) : Option UInt8 := s.data.toList.head?
/-- Which kind a text shows by its first byte. -/
theorem fmt_first {k n : Int} {s : ByteArray} (h : IsVal k n s) :
    ∃ c, firstB (fmtB k n s) = some c ∧ ((k = 0 ∧ c = 78) ∨ (k = 1 ∧ (c = 45 ∨ 48 ≤ c.toNat) ∧ c.toNat ≤ 57) ∨ (k = 2 ∧ (c = 84 ∨ c = 70)) ∨ (k = 3 ∧ c = 39)) := by
  rcases h with ⟨rfl, rfl, rfl⟩ | ⟨rfl, hn, rfl⟩ | ⟨rfl, h0, h1, rfl⟩ | ⟨rfl, rfl, hs⟩
  · rw [fmtB_null]; exact ⟨_, rfl, Or.inl ⟨rfl, rfl⟩⟩
  · rw [fmtB_num]
    obtain ⟨c, l, hc, h1, h2⟩ := itoa_head n
    exact ⟨c, by simp [firstB, hc], Or.inr (Or.inl ⟨rfl, h1, h2⟩)⟩
  · rw [fmtB_truth n (by omega)]
    by_cases h : n = 1
    · rw [if_pos h]; exact ⟨_, rfl, Or.inr (Or.inr (Or.inl ⟨rfl, Or.inl rfl⟩))⟩
    · rw [if_neg h]; exact ⟨_, rfl, Or.inr (Or.inr (Or.inl ⟨rfl, Or.inr rfl⟩))⟩
  · rw [fmtB_text s (by rw [← validB_text]; exact IsVal.valid (Or.inr (Or.inr (Or.inr ⟨rfl, rfl, hs⟩))))]
    exact ⟨39, by simp [firstB, quoteB], Or.inr (Or.inr (Or.inr ⟨rfl, rfl⟩))⟩
theorem fmt_mark {k n : Int} {s : ByteArray} (h : IsVal k n s) : fmtB k n s ≠ ⟨#[63]⟩ := by
  intro he
  obtain ⟨c, hc, h2⟩ := fmt_first h
  rw [he] at hc
  have : c = 63 := (Option.some.inj hc).symm
  subst this
  rcases h2 with ⟨-, h⟩ | ⟨-, -, h⟩ | ⟨-, h⟩ | ⟨-, h⟩ <;> revert h <;> decide

def word (i : Nat) : ByteArray := match i with | 0 => ⟨#[]⟩ | 1 => ⟨#[97]⟩ | 2 => ⟨#[98]⟩ | 3 => ⟨#[105, 116, 39, 115]⟩ | 4 => ⟨#[90, 32, 122]⟩ | _ => ⟨#[126]⟩
theorem word_of {s : ByteArray} (h : IsWord s) : ∃ i, i < 6 ∧ s = word i := by
  rcases h with rfl | rfl | rfl | rfl | rfl | rfl
  · exact ⟨0, by decide, rfl⟩
  · exact ⟨1, by decide, rfl⟩
  · exact ⟨2, by decide, rfl⟩
  · exact ⟨3, by decide, rfl⟩
  · exact ⟨4, by decide, rfl⟩
  · exact ⟨5, by decide, rfl⟩
theorem quote_words : ∀ i, i < 6 → ∀ j, j < 6 → (quoteB (word i)).data.toList = (quoteB (word j)).data.toList → i = j := by decide +kernel
theorem quote_inj {s t : ByteArray} (hs : IsWord s) (ht : IsWord t) (h : quoteB s = quoteB t) : s = t := by
  obtain ⟨i, hi, rfl⟩ := word_of hs
  obtain ⟨j, hj, rfl⟩ := word_of ht
  rw [quote_words i hi j hj (by rw [h])]

theorem fmt_inj {k n : Int} {s : ByteArray} {k' n' : Int} {s' : ByteArray} (h : IsVal k n s) (h' : IsVal k' n' s') (he : fmtB k n s = fmtB k' n' s') : k = k' ∧ n = n' ∧ s = s' := by
  have hk : k = k' := by
    obtain ⟨c, hc, h2⟩ := fmt_first h
    obtain ⟨c', hc', h2'⟩ := fmt_first h'
    rw [he, hc'] at hc
    obtain rfl := Option.some.inj hc
    clear he hc' hc h h'
    rcases h2 with ⟨rfl, h⟩ | ⟨rfl, h, h3⟩ | ⟨rfl, h⟩ | ⟨rfl, h⟩ <;> rcases h2' with ⟨rfl, h'⟩ | ⟨rfl, h', h3'⟩ | ⟨rfl, h'⟩ | ⟨rfl, h'⟩ <;> first | rfl | (exfalso; simp_all; done) | (exfalso; rcases h with rfl | rfl <;> simp_all; done) | (exfalso; rcases h' with rfl | rfl <;> simp_all; done)
  subst hk
  rcases h with ⟨rfl, rfl, rfl⟩ | ⟨rfl, hn, rfl⟩ | ⟨rfl, h0, h1, rfl⟩ | ⟨rfl, rfl, hs⟩ <;> rcases h' with ⟨hk, hn', hs'⟩ | ⟨hk, hn', hs'⟩ | ⟨hk, h0', h1', hs'⟩ | ⟨hk, hn', hs'⟩ <;> try (exact absurd hk (by decide))
  · exact ⟨rfl, hn'.symm, hs'.symm⟩
  · subst hs'
    rw [fmtB_num, fmtB_num] at he
    exact ⟨rfl, itoa_inj (by simpa using he), rfl⟩
  · subst hs'
    rw [fmtB_truth n (by omega), fmtB_truth n' (by omega)] at he
    refine ⟨rfl, ?_, rfl⟩
    by_cases a : n = 1 <;> by_cases b : n' = 1 <;> simp [a, b] at he <;> omega
  · subst hn'
    have hv : ∀ t, IsWord t → textOK t.data.toList = true := fun t ht => by rw [← validB_text]; exact IsVal.valid (Or.inr (Or.inr (Or.inr ⟨rfl, rfl, ht⟩)))
    rw [fmtB_text s (hv s hs), fmtB_text s' (hv s' hs')] at he
    exact ⟨rfl, rfl, quote_inj hs hs' he⟩
end Go.Proofs.YtlpaphgmdcpmaaaGreatDoor
/-
  Words are read back, plain: a reader of the words of an expression, and that it gives the tree back.
-/
namespace Go.Proofs.YtlpaphgmdcpmaaaGreatDoor
set_option maxRecDepth 100000
open Go

abbrev tNOT : ByteArray := ⟨#[78, 79, 84]⟩
abbrev tMIN : ByteArray := ⟨#[45]⟩
abbrev tEXI : ByteArray := ⟨#[69, 88, 73, 83, 84, 83]⟩
abbrev tLP : ByteArray := ⟨#[40]⟩
abbrev tRP : ByteArray := ⟨#[41]⟩
abbrev tSEL : ByteArray := ⟨#[83, 69, 76, 69, 67, 84]⟩
abbrev tCNT : ByteArray := ⟨#[67, 79, 85, 78, 84]⟩
abbrev tSTAR : ByteArray := ⟨#[42]⟩
abbrev tFROM : ByteArray := ⟨#[70, 82, 79, 77]⟩
abbrev tWHE : ByteArray := ⟨#[87, 72, 69, 82, 69]⟩
abbrev tDOT : ByteArray := ⟨#[46]⟩
abbrev tIS : ByteArray := ⟨#[73, 83]⟩
abbrev tNUL : ByteArray := ⟨#[78, 85, 76, 76]⟩
abbrev tBTW : ByteArray := ⟨#[66, 69, 84, 87, 69, 69, 78]⟩
abbrev tAND : ByteArray := ⟨#[65, 78, 68]⟩
abbrev tTRU : ByteArray := ⟨#[84, 82, 85, 69]⟩
abbrev tFAL : ByteArray := ⟨#[70, 65, 76, 83, 69]⟩
/-- The number of an operator's text, or 0. -/
def binOf (t : ByteArray) : Nat := (((List.range 13).find? fun i => decide (opS (i + 1) = t)).map (· + 1)).getD 0
theorem binOf_op : ∀ j : Fin 14, binOf (opS j) = j := by decide +kernel
/-- How tightly the operator at the head binds. -/
def hpC (t : ByteArray) : Int := if binOf t ≠ 0 then prec 5 (binOf t) else if t = tIS ∨ t = tBTW then 4 else 0
def hp : List ByteArray → Int
  | [] => 0
  | t :: _ => hpC t
inductive PM where
  | ex (p : Int)
  | prim
  | rest (p : Int) (a : Ex)
abbrev PF := PM → List ByteArray → Option (Ex × List ByteArray)
def parFromC (f : PF) (fr : ByteArray) (t : List ByteArray) : Option ((ByteArray × List Ex) × List ByteArray) := if t.head? = some tWHE then (f (.ex 1) (t.drop 1)).bind fun x => some ((fr, [x.1]), x.2.drop 1) else some ((fr, []), t.drop 1)
def parFrom (f : PF) : List ByteArray → Option ((ByteArray × List Ex) × List ByteArray)
  | _ :: fr :: t => parFromC f fr t
  | _ => none
def quN (st : Bool) (items : List Ex) (y : ByteArray × List Ex) : Qu := ⟨st, none, 0, items, y.1, none, 0, y.2⟩
def aggK (u : ByteArray) : Int := if u = ⟨#[83, 85, 77]⟩ then 10 else if u = ⟨#[77, 73, 78]⟩ then 11 else 12
/-- Is a word a literal? -/
def litT (s : ByteArray) : Bool := decide (s = tNUL) || decide (s = tTRU) || decide (s = tFAL) || (match s.data.toList with | c :: _ => decide (48 ≤ c.toNat ∧ c.toNat ≤ 57) || decide (c = 39) | [] => false)
open Classical in
noncomputable def litOf (s : ByteArray) : Ex := if h : ∃ v : Int × Int × ByteArray, validB v.1 v.2.1 v.2.2 = true ∧ 0 ≤ v.2.1 ∧ fmtB v.1 v.2.1 v.2.2 = s then litEx h.choose.1 h.choose.2.1 h.choose.2.2 else ex0
noncomputable def parPrimC (f : PF) (s : ByteArray) (t : List ByteArray) : Option (Ex × List ByteArray) :=
    if s = tNOT then (f (.ex 3) t).bind fun x => some (argEx 3 0 false none 0 [x.1], x.2)
    else if s = tMIN then (f (.ex 7) t).bind fun x => some (argEx 4 0 false none 0 [x.1], x.2)
    else if s = tEXI then (parFrom f (t.drop 3)).bind fun y => some (subEx 8 none 0 (quN true [] y.1), y.2)
    else if s = tLP then
      (if t.head? = some tSEL then
        (if (t.drop 1).head? = some tCNT then (parFrom f (t.drop 5)).bind fun y => some (subEx 9 none 0 (quN false [] y.1), y.2)
        else (f (.ex 1) (t.drop 3)).bind fun x => (parFrom f (x.2.drop 1)).bind fun y => some (subEx (aggK ((t.drop 1).headD ⟨#[]⟩)) none 0 (quN false [x.1] y.1), y.2))
      else (f (.ex 1) t).bind fun x => some (x.1, x.2.drop 1))
    else if litT s then some (litOf s, t)
    else if t.head? = some tDOT then some (colEx s ((t.drop 1).headD ⟨#[]⟩), t.drop 2)
    else some (colEx ⟨#[]⟩ s, t)
noncomputable def parPrim (f : PF) : List ByteArray → Option (Ex × List ByteArray)
  | [] => none
  | s :: t => parPrimC f s t
def parRestC (f : PF) (p : Int) (a : Ex) (s : ByteArray) (t : List ByteArray) : Option (Ex × List ByteArray) :=
    if hp (s :: t) < p ∨ hp (s :: t) = 0 then some (a, s :: t)
    else if binOf s ≠ 0 then (f (.ex (least 5 (binOf s) 1)) t).bind fun x => f (.rest p (argEx 5 (binOf s) false none 0 [a, x.1])) x.2
    else if s = tIS then
      (if t.head? = some tNOT then f (.rest p (argEx 6 0 true none 0 [a])) (t.drop 2) else f (.rest p (argEx 6 0 false none 0 [a])) (t.drop 1))
    else (f (.ex 5) t).bind fun x => (f (.ex 5) (x.2.drop 1)).bind fun y => f (.rest p (argEx 7 0 false none 0 [a, x.1, y.1])) y.2
def parRest (f : PF) (p : Int) (a : Ex) : List ByteArray → Option (Ex × List ByteArray)
  | [] => some (a, [])
  | s :: t => parRestC f p a s t
noncomputable def parF (f : PF) : PF
  | .ex p, t => (f .prim t).bind fun x => f (.rest p x.1) x.2
  | .prim, t => parPrim f t
  | .rest p a, t => parRest f p a t
noncomputable def par : Nat → PF
  | 0 => fun _ _ => none
  | n + 1 => parF (par n)
def PLe (f g : PF) : Prop := ∀ m t x, f m t = some x → g m t = some x
theorem from_mono {f g : PF} (h : PLe f g) {t : List ByteArray} {x : (ByteArray × List Ex) × List ByteArray} (hx : parFrom f t = some x) : parFrom g t = some x := by
  match t, hx with
  | _ :: fr :: t, hx =>
    have hx : parFromC f fr t = some x := hx
    show parFromC g fr t = some x
    unfold parFromC at hx ⊢
    split at hx
    · rename_i hw
      obtain ⟨y, hy, hx⟩ := Option.bind_eq_some_iff.1 hx
      rw [if_pos hw, h _ _ _ hy]; exact hx
    · rename_i hw
      rw [if_neg hw]; exact hx
theorem prim_mono {f g : PF} (h : PLe f g) {t : List ByteArray} {x : Ex × List ByteArray} (hx : parPrim f t = some x) : parPrim g t = some x := by
  match t, hx with
  | s :: t, hx =>
    have hx : parPrimC f s t = some x := hx
    show parPrimC g s t = some x
    unfold parPrimC at hx ⊢
    by_cases h1 : s = tNOT
    · rw [if_pos h1] at hx ⊢
      obtain ⟨y, hy, hx⟩ := Option.bind_eq_some_iff.1 hx
      rw [h _ _ _ hy]; exact hx
    rw [if_neg h1] at hx ⊢
    by_cases h2 : s = tMIN
    · rw [if_pos h2] at hx ⊢
      obtain ⟨y, hy, hx⟩ := Option.bind_eq_some_iff.1 hx
      rw [h _ _ _ hy]; exact hx
    rw [if_neg h2] at hx ⊢
    by_cases h3 : s = tEXI
    · rw [if_pos h3] at hx ⊢
      obtain ⟨y, hy, hx⟩ := Option.bind_eq_some_iff.1 hx
      rw [from_mono h hy]; exact hx
    rw [if_neg h3] at hx ⊢
    by_cases h4 : s = tLP
    · rw [if_pos h4] at hx ⊢
      by_cases h5 : t.head? = some tSEL
      · rw [if_pos h5] at hx ⊢
        by_cases h6 : (t.drop 1).head? = some tCNT
        · rw [if_pos h6] at hx ⊢
          obtain ⟨y, hy, hx⟩ := Option.bind_eq_some_iff.1 hx
          rw [from_mono h hy]; exact hx
        · rw [if_neg h6] at hx ⊢
          obtain ⟨y, hy, hx⟩ := Option.bind_eq_some_iff.1 hx
          obtain ⟨z, hz, hx⟩ := Option.bind_eq_some_iff.1 hx
          rw [h _ _ _ hy, Option.bind_some, from_mono h hz]; exact hx
      · rw [if_neg h5] at hx ⊢
        obtain ⟨y, hy, hx⟩ := Option.bind_eq_some_iff.1 hx
        rw [h _ _ _ hy]; exact hx
    rw [if_neg h4] at hx ⊢
    exact hx
theorem rest_mono {f g : PF} (h : PLe f g) {p : Int} {a : Ex} {t : List ByteArray} {x : Ex × List ByteArray} (hx : parRest f p a t = some x) : parRest g p a t = some x := by
  match t, hx with
  | [], hx => exact hx
  | s :: t, hx =>
    have hx : parRestC f p a s t = some x := hx
    show parRestC g p a s t = some x
    unfold parRestC at hx ⊢
    by_cases h1 : hp (s :: t) < p ∨ hp (s :: t) = 0
    · rw [if_pos h1] at hx ⊢; exact hx
    rw [if_neg h1] at hx ⊢
    by_cases h2 : binOf s ≠ 0
    · rw [if_pos h2] at hx ⊢
      obtain ⟨y, hy, hx⟩ := Option.bind_eq_some_iff.1 hx
      rw [h _ _ _ hy]; exact h _ _ _ hx
    rw [if_neg h2] at hx ⊢
    by_cases h3 : s = tIS
    · rw [if_pos h3] at hx ⊢
      split at hx
      · rename_i h4; rw [if_pos h4]; exact h _ _ _ hx
      · rename_i h4; rw [if_neg h4]; exact h _ _ _ hx
    rw [if_neg h3] at hx ⊢
    obtain ⟨y, hy, hx⟩ := Option.bind_eq_some_iff.1 hx
    obtain ⟨z, hz, hx⟩ := Option.bind_eq_some_iff.1 hx
    rw [h _ _ _ hy, Option.bind_some, h _ _ _ hz]; exact h _ _ _ hx
theorem parF_mono {f g : PF} (h : PLe f g) : PLe (parF f) (parF g) := by
  intro m t x hx
  match m, hx with
  | .ex p, hx =>
    have hx : ((f .prim t).bind fun x => f (.rest p x.1) x.2) = some x := hx
    show ((g .prim t).bind fun x => g (.rest p x.1) x.2) = some x
    obtain ⟨y, hy, hx⟩ := Option.bind_eq_some_iff.1 hx
    rw [h _ _ _ hy]; exact h _ _ _ hx
  | .prim, hx => exact prim_mono h hx
  | .rest p a, hx => exact rest_mono h hx
theorem par_step : ∀ n, PLe (par n) (par (n + 1))
  | 0 => fun _ _ _ h => by cases h
  | n + 1 => parF_mono (par_step n)
theorem par_mono {n m : Nat} (h : n ≤ m) : PLe (par n) (par m) := by
  induction h with
  | refl => exact fun _ _ _ h => h
  | step _ ih => exact fun _ _ _ hx => par_step _ _ _ _ (ih _ _ _ hx)
/-- What is read. -/
def Rd (m : PM) (t : List ByteArray) (x : Ex × List ByteArray) : Prop := ∃ n, par n m t = some x
theorem Rd.det {m : PM} {t : List ByteArray} {x y : Ex × List ByteArray} (h : Rd m t x) (k : Rd m t y) : x = y := by
  obtain ⟨n, hn⟩ := h
  obtain ⟨o, ho⟩ := k
  have h1 := par_mono (Nat.le_max_left n o) _ _ _ hn
  have h2 := par_mono (Nat.le_max_right n o) _ _ _ ho
  rw [h1] at h2
  exact Option.some.inj h2
def RdF (t : List ByteArray) (x : (ByteArray × List Ex) × List ByteArray) : Prop := ∃ n, parFrom (par n) t = some x
section
variable {p : Int} {a b e : Ex} {t r : List ByteArray} {x : Ex × List ByteArray}
theorem Rd.two {m1 m2 : PM} {t1 t2 : List ByteArray} {x1 x2 : Ex × List ByteArray} (h : Rd m1 t1 x1) (k : Rd m2 t2 x2) : ∃ n, par n m1 t1 = some x1 ∧ par n m2 t2 = some x2 := by
  obtain ⟨n, hn⟩ := h
  obtain ⟨o, ho⟩ := k
  exact ⟨max n o, par_mono (Nat.le_max_left n o) _ _ _ hn, par_mono (Nat.le_max_right n o) _ _ _ ho⟩
theorem Rd.ex (h : Rd .prim t (e, r)) (k : Rd (.rest p e) r x) : Rd (.ex p) t x := by
  obtain ⟨n, h1, h2⟩ := h.two k
  exact ⟨n + 1, by show (par n .prim t).bind _ = _; rw [h1]; exact h2⟩
theorem Rd.stop (h : hp r < p ∨ hp r = 0) : Rd (.rest p e) r (e, r) := by
  refine ⟨1, ?_⟩
  match r, h with
  | [], _ => rfl
  | s :: t, h => show parRestC _ p e s t = _; unfold parRestC; rw [if_pos h]
theorem Rd.bin {s : ByteArray} (hj : binOf s ≠ 0) (hq : p ≤ prec 5 (binOf s)) (h : Rd (.ex (least 5 (binOf s) 1)) t (b, r)) (k : Rd (.rest p (argEx 5 (binOf s) false none 0 [a, b])) r x) : Rd (.rest p a) (s :: t) x := by
  obtain ⟨n, h1, h2⟩ := h.two k
  refine ⟨n + 1, ?_⟩
  have hh : hp (s :: t) = prec 5 (binOf s) := by show hpC _ = _; unfold hpC; rw [if_pos hj]
  have h0 := prec_pos 5 (binOf s)
  show parRestC (par n) p a s (t) = some x
  unfold parRestC
  rw [if_neg (by rw [hh]; omega), if_pos hj, h1]
  exact h2
theorem hp_is (t : List ByteArray) : hp (tIS :: t) = 4 := by show hpC _ = _; unfold hpC; rw [if_neg (by decide +kernel), if_pos (.inl rfl)]
theorem hp_btw (t : List ByteArray) : hp (tBTW :: t) = 4 := by show hpC _ = _; unfold hpC; rw [if_neg (by decide +kernel), if_pos (.inr rfl)]
theorem hp_and (t : List ByteArray) : hp (tAND :: t) = 2 := by show hpC _ = _; unfold hpC; rw [if_pos (by decide +kernel)]; decide +kernel
theorem hp_rp (t : List ByteArray) : hp (tRP :: t) = 0 := by show hpC _ = _; unfold hpC; rw [if_neg (by decide +kernel), if_neg (by decide +kernel)]
theorem Rd.null (hq : p ≤ 4) (k : Rd (.rest p (argEx 6 0 false none 0 [a])) r x) : Rd (.rest p a) (tIS :: tNUL :: r) x := by
  obtain ⟨n, h1⟩ := k
  refine ⟨n + 1, ?_⟩
  show parRestC (par n) p a tIS (tNUL :: r) = some x
  unfold parRestC
  rw [if_neg (by rw [hp_is]; omega), if_neg (by decide +kernel), if_pos rfl, if_neg (by show ¬ some tNUL = some tNOT; decide +kernel)]
  exact h1
theorem Rd.nullN (hq : p ≤ 4) (k : Rd (.rest p (argEx 6 0 true none 0 [a])) r x) : Rd (.rest p a) (tIS :: tNOT :: tNUL :: r) x := by
  obtain ⟨n, h1⟩ := k
  refine ⟨n + 1, ?_⟩
  show parRestC (par n) p a tIS (tNOT :: tNUL :: r) = some x
  unfold parRestC
  rw [if_neg (by rw [hp_is]; omega), if_neg (by decide +kernel), if_pos rfl, if_pos (by rfl)]
  exact h1
theorem Rd.btw {c : Ex} {u : List ByteArray} (hq : p ≤ 4) (h : Rd (.ex 5) t (b, tAND :: u)) (k : Rd (.ex 5) u (c, r)) (l : Rd (.rest p (argEx 7 0 false none 0 [a, b, c])) r x) : Rd (.rest p a) (tBTW :: t) x := by
  obtain ⟨n, h1⟩ := h
  obtain ⟨m, h2, h3⟩ := k.two l
  refine ⟨max n m + 1, ?_⟩
  have g1 := par_mono (Nat.le_max_left n m) _ _ _ h1
  have g2 := par_mono (Nat.le_max_right n m) _ _ _ h2
  have g3 := par_mono (Nat.le_max_right n m) _ _ _ h3
  show parRestC (par (max n m)) p a tBTW (t) = some x
  unfold parRestC
  rw [if_neg (by rw [hp_btw]; omega), if_neg (by decide +kernel), if_neg (by decide +kernel), g1, Option.bind_some]
  show (par (max n m) (.ex 5) u).bind _ = _
  rw [g2]
  exact g3
theorem Rd.not (h : Rd (.ex 3) t (a, r)) : Rd .prim (tNOT :: t) (argEx 3 0 false none 0 [a], r) := by
  obtain ⟨n, h1⟩ := h
  refine ⟨n + 1, ?_⟩
  show parPrimC (par n) tNOT t = _
  unfold parPrimC
  rw [if_pos rfl, h1]; rfl
theorem Rd.neg (h : Rd (.ex 7) t (a, r)) : Rd .prim (tMIN :: t) (argEx 4 0 false none 0 [a], r) := by
  obtain ⟨n, h1⟩ := h
  refine ⟨n + 1, ?_⟩
  show parPrimC (par n) tMIN t = _
  unfold parPrimC
  rw [if_neg (by decide +kernel), if_pos rfl, h1]; rfl
theorem RdF.none {fr : ByteArray} : RdF (tFROM :: fr :: tRP :: r) ((fr, []), r) := by
  refine ⟨0, ?_⟩
  show parFromC _ fr (tRP :: r) = _
  unfold parFromC
  rw [if_neg (by show ¬ some tRP = some tWHE; decide +kernel)]; rfl
theorem RdF.some {fr : ByteArray} (h : Rd (.ex 1) t (a, tRP :: r)) : RdF (tFROM :: fr :: tWHE :: t) ((fr, [a]), r) := by
  obtain ⟨n, h1⟩ := h
  refine ⟨n, ?_⟩
  show parFromC _ fr (tWHE :: t) = _
  unfold parFromC
  rw [if_pos (by rfl)]
  show (par n (.ex 1) t).bind _ = _
  rw [h1]; rfl
theorem Rd.exi {y : ByteArray × List Ex} (h : RdF t (y, r)) : Rd .prim (tEXI :: tLP :: tSEL :: tSTAR :: t) (subEx 8 none 0 (quN true [] y), r) := by
  obtain ⟨n, h1⟩ := h
  refine ⟨n + 1, ?_⟩
  show parPrimC (par n) tEXI (tLP :: tSEL :: tSTAR :: t) = _
  unfold parPrimC
  rw [if_neg (by decide +kernel), if_neg (by decide +kernel), if_pos rfl]
  show (parFrom (par n) t).bind _ = _
  rw [h1]; rfl
theorem Rd.cnt {y : ByteArray × List Ex} (h : RdF t (y, r)) : Rd .prim (tLP :: tSEL :: tCNT :: tLP :: tSTAR :: tRP :: t) (subEx 9 none 0 (quN false [] y), r) := by
  obtain ⟨n, h1⟩ := h
  refine ⟨n + 1, ?_⟩
  show parPrimC (par n) tLP (tSEL :: tCNT :: tLP :: tSTAR :: tRP :: t) = _
  unfold parPrimC
  rw [if_neg (by decide +kernel), if_neg (by decide +kernel), if_neg (by decide +kernel), if_pos rfl, if_pos (by rfl), if_pos (by rfl)]
  show (parFrom (par n) t).bind _ = _
  rw [h1]; rfl
theorem Rd.agg {y : ByteArray × List Ex} {s : ByteArray} {u : List ByteArray} (hs : s ≠ tCNT) (k : Rd (.ex 1) t (a, tRP :: u)) (h : RdF u (y, r)) : Rd .prim (tLP :: tSEL :: s :: tLP :: t) (subEx (aggK s) none 0 (quN false [a] y), r) := by
  obtain ⟨n, h1⟩ := k
  obtain ⟨m, h2⟩ := h
  refine ⟨max n m + 1, ?_⟩
  have g1 := par_mono (Nat.le_max_left n m) _ _ _ h1
  have g2 := from_mono (par_mono (Nat.le_max_right n m)) h2
  show parPrimC (par (max n m)) tLP (tSEL :: s :: tLP :: t) = _
  unfold parPrimC
  rw [if_neg (by decide +kernel), if_neg (by decide +kernel), if_neg (by decide +kernel), if_pos rfl, if_pos (by rfl), if_neg (by show ¬ Option.some s = Option.some tCNT; simpa using hs)]
  show (par (max n m) (.ex 1) t).bind _ = _
  rw [g1, Option.bind_some]
  show (parFrom (par (max n m)) u).bind _ = _
  rw [g2]; rfl
theorem Rd.paren (hs : t.head? ≠ Option.some tSEL) (h : Rd (.ex 1) t (a, tRP :: r)) : Rd .prim (tLP :: t) (a, r) := by
  obtain ⟨n, h1⟩ := h
  refine ⟨n + 1, ?_⟩
  show parPrimC (par n) tLP t = _
  unfold parPrimC
  rw [if_neg (by decide +kernel), if_neg (by decide +kernel), if_neg (by decide +kernel), if_pos rfl, if_neg hs, h1]; rfl
/-- A word that is neither a keyword nor a symbol of expressions. -/
def Free (s : ByteArray) : Prop := s ≠ tNOT ∧ s ≠ tMIN ∧ s ≠ tEXI ∧ s ≠ tLP
theorem Rd.lit {s : ByteArray} (hf : Free s) (hl : litT s = true) : Rd .prim (s :: r) (litOf s, r) := by
  refine ⟨1, ?_⟩
  show parPrimC (par 0) s r = _
  unfold parPrimC
  rw [if_neg hf.1, if_neg hf.2.1, if_neg hf.2.2.1, if_neg hf.2.2.2, if_pos hl]
theorem Rd.col {s : ByteArray} (hf : Free s) (hl : litT s = false) (hd : r.head? ≠ Option.some tDOT) : Rd .prim (s :: r) (colEx ⟨#[]⟩ s, r) := by
  refine ⟨1, ?_⟩
  show parPrimC (par 0) s r = _
  unfold parPrimC
  rw [if_neg hf.1, if_neg hf.2.1, if_neg hf.2.2.1, if_neg hf.2.2.2, if_neg (by rw [hl]; decide), if_neg hd]
theorem Rd.colq {s u : ByteArray} (hf : Free s) (hl : litT s = false) : Rd .prim (s :: tDOT :: u :: r) (colEx s u, r) := by
  refine ⟨1, ?_⟩
  show parPrimC (par 0) s (tDOT :: u :: r) = _
  unfold parPrimC
  rw [if_neg hf.1, if_neg hf.2.1, if_neg hf.2.2.1, if_neg hf.2.2.2, if_neg (by rw [hl]; decide), if_pos (by rfl)]
  rfl
end
end Go.Proofs.YtlpaphgmdcpmaaaGreatDoor
