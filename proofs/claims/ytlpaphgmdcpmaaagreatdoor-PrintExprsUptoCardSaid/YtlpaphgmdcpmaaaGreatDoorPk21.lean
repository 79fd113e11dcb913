/-
  Several texts in one.
-/
import Derived.Test.YtlpaphgmdcpmaaaGreatDoorPk20
import Derived.Deep.AppendLies
import Derived.Test.YtlpaphgmdcpmaaaGreatDoorPk01
import Derived.Test.YtlpaphgmdcpmaaaGreatDoorPk09
import Derived.Test.YtlpaphgmdcpmaaaGreatDoorPk12
import Derived.Test.YtlpaphgmdcpmaaaGreatDoorPk16
/-
  The arguments that AnyExpr appends.
-/
namespace Go.Proofs.YtlpaphgmdcpmaaaGreatDoor
set_option maxRecDepth 100000
open Go.RowKit
variable {ls : List Nat}

/-- The cells of an expression, of a list of them. -/
def excs (e : Ex) : List Value := [.int .i64 e.k, .int .i64 e.op, .bool e.no, .int .i64 e.vk, .int .i64 e.vi, .string e.vt, .string e.tb, .string e.nm, .slice e.pa e.args.length e.ca, .slice e.ps e.sub.length e.cs]
def ecells (l : List Ex) : List Value := l.flatMap excs
theorem ecells_length (l : List Ex) : (ecells l).length = l.length * 10 := by
  induction l with
  | nil => rfl
  | cons e l ih => show (excs e ++ ecells l).length = _; rw [List.length_append, ih, List.length_cons]; show 10 + _ = _; omega
theorem ecells_append (a b : List Ex) : ecells (a ++ b) = ecells a ++ ecells b := List.flatMap_append
theorem ecells_single (e : Ex) : ecells [e] = excs e := by unfold ecells; simp
theorem ecells_at (l : List Ex) : ∀ i, i < l.length → ∀ j, j < 10 → (ecells l)[i * 10 + j]? = (excs (eAt l i))[j]? := by
  induction l with
  | nil => intro i hi; simp at hi
  | cons e l ih =>
    intro i hi j hj
    have h0 : ecells (e :: l) = excs e ++ ecells l := rfl
    rw [h0]
    cases i with
    | zero => rw [List.getElem?_append_left (by show 0 * 10 + j < 10; omega), Nat.zero_mul, Nat.zero_add]; rfl
    | succ i =>
      rw [List.getElem?_append_right (by show 10 ≤ _; omega), show (i + 1) * 10 + j - (excs e).length = i * 10 + j by show (i + 1) * 10 + j - 10 = _; omega, ih i (by simpa using hi) j hj]
      rfl
theorem excs_one (e : Ex) : ∀ u ∈ excs e, u.oneCell' = true := by
  intro u hu
  simp only [excs, List.mem_cons, List.not_mem_nil, or_false] at hu
  rcases hu with rfl | rfl | rfl | rfl | rfl | rfl | rfl | rfl | rfl | rfl <;> rfl
theorem ecells_one (l : List Ex) : ∀ u ∈ ecells l, u.oneCell' = true := by
  intro u hu
  obtain ⟨e, -, h⟩ := List.mem_flatMap.1 hu
  exact excs_one e u h
/-- A list that the call owns lies in memory. -/
theorem LAt.own {N : Nat → Prop} {P : Ex → Prop} {u : World} {base n : Nat} {v : Value} {l : List Ex} (h : u.ownsRow base 27 10 v n (ecells l)) (hN : ∀ k, v.ownBlock = some k → N k) (hP : ∀ e ∈ l, P e) :
    ∃ p c, v = .slice p n c ∧ n = l.length ∧ LAt N u P p l ∧ ∀ q, p = some q → base ≤ q.block ∧ q.off = 0 := by
  obtain ⟨hl, h⟩ := h
  rw [ecells_length] at hl
  have hn : n = l.length := by omega
  rcases h with ⟨rfl, h0⟩ | ⟨g, cap, cur, rfl, hg, hh, hcap, hm, hcur, htake⟩
  · refine ⟨none, 0, by rw [h0], hn, fun i hi => by omega, fun q hq => by cases hq⟩
  · refine ⟨_, cap, rfl, hn, fun i hi => ⟨g, 0, rfl, (Array.getElem?_eq_some_iff.1 hh).1, hN g rfl, ?_, hP _ (eAt_mem hi)⟩, fun q hq => by cases hq; exact ⟨hg, rfl⟩⟩
    have key : ∀ j, j < 10 → u.cell? ⟨g, 0 + i * 10 + j, none⟩ = (excs (eAt l i))[j]? := by
      intro j hj
      have hj2 := ecells_at l i hi j hj
      rw [← htake] at hj2
      rw [List.getElem?_take, if_pos (by omega)] at hj2
      rw [← hj2, Nat.zero_add]
      simp [World.cell?, hh]
    exact ⟨key 0 (by decide), key 1 (by decide), key 2 (by decide), key 3 (by decide), key 4 (by decide), key 5 (by decide), key 6 (by decide), key 7 (by decide), key 8 (by decide), key 9 (by decide)⟩
theorem own_nil (u : World) (base : Nat) : u.ownsRow base 27 10 (.slice none 0 0) 0 (ecells []) := ⟨rfl, Or.inl ⟨rfl, rfl⟩⟩
/-- The cells of a new literal list. -/
theorem news_of {u : World} {X : Nat} {e : Ex} (h : ExB u X e) : ∀ j v, (excs e)[j]? = some v → u.cell? ((⟨X, 0, none⟩ : Addr).add j) = some v := by
  intro j v hj
  have hlt : j < 10 := (List.getElem?_eq_some_iff.1 hj).1
  have hadd : (⟨X, 0, none⟩ : Addr).add j = ⟨X, j, none⟩ := by unfold Addr.add; split <;> simp_all
  rw [hadd, ← hj]
  have h10 : j = 0 ∨ j = 1 ∨ j = 2 ∨ j = 3 ∨ j = 4 ∨ j = 5 ∨ j = 6 ∨ j = 7 ∨ j = 8 ∨ j = 9 := by omega
  rcases h10 with rfl | rfl | rfl | rfl | rfl | rfl | rfl | rfl | rfl | rfl
  · exact h.c0
  · exact h.c1
  · exact h.c2
  · exact h.c3
  · exact h.c4
  · exact h.c5
  · exact h.c6
  · exact h.c7
  · exact h.c8
  · exact h.c9
abbrev NOwn (X : Nat) (gb : Option Nat) : Nat → Prop := fun c => X < c ∧ gb ≠ some c
/-- An expression with the arguments so far. -/
abbrev argsEx (kd op : Int) (no : Bool) (vp : Option Addr) (vc : Nat) (args : List Ex) (ps : Option Addr) (cs : Nat) (sub : List Qu) : Ex := .mk kd op no 0 0 ⟨#[]⟩ ⟨#[]⟩ ⟨#[]⟩ vp vc args ps cs sub
structure LpAt (b X D : Nat) (w : World) (kd op : Int) (no : Bool) (ps : Option Addr) (cs : Nat) (sub : List Qu) (vp : Option Addr) (vc : Nat) (args : List Ex) (u : World) : Prop where
  an : AnW b w u
  box : ExB u X (argsEx kd op no vp vc args ps cs sub)
  xw : w.heap.size < X
  own : u.ownsRow (X + 1) 27 10 (.slice vp args.length vc) args.length (ecells args)
  arg : ∀ a ∈ args, ExAt (NOwn X (Value.slice vp args.length vc).ownBlock) u D a
  subs : QAt (NOwn X (Value.slice vp args.length vc).ownBlock) u (ExAt (NOwn X (Value.slice vp args.length vc).ownBlock) u D) ps sub
  vals : ∀ a ∈ args, vE D a = true
section
variable {b X D : Nat} {w u v : World} {kd op : Int} {no : Bool} {ps : Option Addr} {cs : Nat} {sub : List Qu} {vp : Option Addr} {vc : Nat} {args : List Ex}
theorem LpAt.next (h : LpAt b X D w kd op no ps cs sub vp vc args u) (hs : StepT b u v) (ht : TapeAt v b) : LpAt b X D w kd op no ps cs sub vp vc args v := by
  have hlt := h.an.lt
  have hxw := h.xw
  exact ⟨h.an.next hs ht, h.box.step hs (by omega), h.xw, owns_step h.own (by omega) hs, fun a ha => (h.arg a ha).step hs (fun c hc => by have := hc.1; omega), h.subs.step hs (fun c hc => by have := hc.1; omega), h.vals⟩
theorem LpAt.low (h : LpAt b X D w kd op no ps cs sub vp vc args u) (hb : Below u.heap.size u v) : LpAt b X D w kd op no ps cs sub vp vc args v := h.next (StepT.of_below hb) (h.an.tape.below hb)
/-- An expression that was made since may be appended. -/
theorem LpAt.new (h : LpAt b X D w kd op no ps cs sub vp vc args u) {E : Ex} (hE : ExAt (fun c => u.heap.size < c) v D E) : ExAt (NOwn X (Value.slice vp args.length vc).ownBlock) v D E :=
  hE.weak fun c _ hc => ⟨Nat.lt_trans h.box.lt hc, fun e => by have := owns_lt h.own c e; omega⟩
theorem LpAt.push {x w8 : World} (h : LpAt b X D w kd op no ps cs sub vp vc args x) {E : Ex} (hE : ExAt (NOwn X (Value.slice vp args.length vc).ownBlock) x D E) (hV : vE D E = true) {g cap : Nat}
    (hown : w8.ownsRow (X + 1) 27 10 (.slice (some ⟨g, 0, none⟩) (args.length + 1) cap) (args.length + 1) (ecells args ++ excs E)) (hg : x.grownBy w8 (Value.slice vp args.length vc).ownBlock) (hat : (Value.slice vp args.length vc).ownBlock = some g ∨ g = x.heap.size) :
    ExB w8 X (argsEx kd op no vp vc args ps cs sub) ∧ LpAt b X D w kd op no ps cs sub (some ⟨g, 0, none⟩) cap (args ++ [E]) (w8.setCell ⟨X, 8, none⟩ (.slice (some ⟨g, 0, none⟩) (args.length + 1) cap)) := by
  have hxw := h.xw
  have hlt := h.an.lt
  have hob : ∀ k, (Value.slice vp args.length vc).ownBlock = some k → X + 1 ≤ k := fun k hk => owns_block h.own k hk
  have hbx : ExB w8 X (argsEx kd op no vp vc args ps cs sub) := h.box.keep hg.size (hg.block X h.box.lt fun e => by have := hob X e.symm; omega)
  have hlen : (args ++ [E]).length = args.length + 1 := by simp
  refine ⟨hbx, ?_⟩
  have hset := (ButX.refl X w8).set 8 none (.slice (some ⟨g, 0, none⟩) (args.length + 1) cap)
  have hN : ∀ c, c < x.heap.size → NOwn X (Value.slice vp args.length vc).ownBlock c → (w8.setCell ⟨X, 8, none⟩ (.slice (some ⟨g, 0, none⟩) (args.length + 1) cap)).heap[c]? = x.heap[c]? ∧ NOwn X (Value.slice (some ⟨g, 0, none⟩) (args.length + 1) cap).ownBlock c := by
    intro c hc hn
    refine ⟨(hset.block c (by have := hn.1; omega)).trans (hg.block c hc fun e => hn.2 e.symm), hn.1, fun e => ?_⟩
    obtain rfl : g = c := Option.some.inj e
    rcases hat with h1 | h1
    · exact hn.2 h1
    · omega
  have hz : x.heap.size ≤ (w8.setCell ⟨X, 8, none⟩ (.slice (some ⟨g, 0, none⟩) (args.length + 1) cap)).heap.size := by rw [hset.size]; exact hg.size
  have hst : StepT b w w8 := ⟨hg.os.trans h.an.step.os, hg.tape.trans h.an.step.tape, hg.output.trans h.an.step.output, Nat.le_trans h.an.step.size hg.size, fun k hk hkb => (hg.block k (Nat.lt_of_lt_of_le hk h.an.step.size) fun e => by have := hob k e.symm; omega).trans (h.an.step.block k hk hkb)⟩
  have htp : TapeAt w8 b := h.an.tape.keep (fun k hk => hg.block k (by have := h.an.tape.lt; omega) fun e => by have := hob k e.symm; omega) hg.size
  have hrs : ExB w8 w.heap.size ex0 := h.an.res.keep hg.size (hg.block _ h.an.res.lt fun e => by have := hob _ e.symm; omega)
  refine ⟨AnW.but ⟨htp, hst, hrs, h.an.lt⟩ hset hxw, ?_, hxw, ?_, ?_, ?_, ?_⟩
  · obtain ⟨hl, c0, c1, c2, c3, c4, c5, c6, c7, c8, c9, fz⟩ := hbx
    refine ⟨by simpa [World.setCell] using hl, ?_, ?_, ?_, ?_, ?_, ?_, ?_, ?_, ?_, ?_, fun o => by rw [World.frozen?_setCell]; exact fz o⟩
    all_goals simp only [Ex.mk_k, Ex.mk_op, Ex.mk_no, Ex.mk_vk, Ex.mk_vi, Ex.mk_vt, Ex.mk_tb, Ex.mk_nm, Ex.mk_pa, Ex.mk_ca, Ex.mk_args, Ex.mk_ps, Ex.mk_cs, Ex.mk_sub, hlen] at *
    all_goals go_simp
  · rw [hlen, ecells_append, ecells_single]
    exact owns_keep hown fun k hk => hset.block k (by have := owns_block hown k hk; omega)
  · rw [hlen]
    intro a ha
    rcases List.mem_append.1 ha with ha | ha
    · exact ExAt.keep hz hN D a (h.arg a ha)
    · obtain rfl := List.mem_singleton.1 ha
      exact ExAt.keep hz hN D a hE
  · rw [hlen]
    exact QAt.keep h.subs hz hN fun e he => ExAt.keep hz hN D e he
  · intro a ha
    rcases List.mem_append.1 ha with ha | ha
    · exact h.vals a ha
    · obtain rfl := List.mem_singleton.1 ha; exact hV
/-- All arguments are there: the tree. -/
theorem LpAt.tree (h : LpAt b X D w kd op no ps cs sub vp vc args u) (hl : args.length ≤ 3) (hs : sub.length ≤ 1) : ExAt (fun c => X < c) u (D + 1) (argsEx kd op no vp vc args ps cs sub) := by
  obtain ⟨p, c, hv, -, hA, -⟩ := LAt.own (N := fun c => X < c) (P := ExAt (fun c => X < c) u D) h.own (fun k hk => by have := owns_block h.own k hk; omega) (fun e he => (h.arg e he).weak fun c _ hc => hc.1)
  injection hv with h1 h2 h3
  subst h1
  have e0 : (⟨#[]⟩ : ByteArray).size ≤ 9223372036854775807 := by decide
  exact ⟨e0, e0, e0, by show args.length ≤ _; omega, by show sub.length ≤ _; omega, hA, h.subs.weak fun c _ hc => hc.1, i64_zero⟩
end
end Go.Proofs.YtlpaphgmdcpmaaaGreatDoor
/-
  Equal texts.
-/
namespace Go.Proofs.YtlpaphgmdcpmaaaGreatDoor
set_option maxRecDepth 100000
open Go.RowKit
theorem eq_texts {a b : ByteArray} (h : a = b) : (a.toList == b.toList) = true := by rw [h]; exact beq_self_eq_true _
theorem ne_texts {a b : ByteArray} (h : a ≠ b) : (a.toList == b.toList) = false := by
  rw [beq_eq_false_iff_ne, ByteArray.toList_eq, ByteArray.toList_eq]
  exact fun hc => h (ByteArray.ext (Array.toList_inj.1 hc))

end Go.Proofs.YtlpaphgmdcpmaaaGreatDoor
/-
  The schemas of the world.
-/
namespace Go.Proofs.YtlpaphgmdcpmaaaGreatDoor
set_option maxRecDepth 100000
open Go.RowKit
variable {ls : List Nat}

def colLog : Nat → Col := fun i => match i with | 0 => ⟨⟨#[110]⟩, 1, false, false⟩ | _ => ⟨⟨#[115]⟩, 3, false, false⟩
def colTs : Nat → Col := fun i => match i with | 0 => ⟨⟨#[105, 100]⟩, 1, true, true⟩ | 1 => ⟨⟨#[110]⟩, 1, false, false⟩ | 2 => ⟨⟨#[98]⟩, 2, false, false⟩ | _ => ⟨⟨#[115]⟩, 3, false, false⟩
def colU : Nat → Col := fun i => match i with | 0 => ⟨⟨#[105, 100]⟩, 1, true, true⟩ | 1 => ⟨⟨#[110]⟩, 1, true, false⟩ | _ => ⟨⟨#[109]⟩, 1, false, false⟩
/-- The list of the three schemas. -/
structure SchemasAt (u : World) (X Y Z U : Nat) : Prop where
  lt : X < u.heap.size
  c0 : u.cell? ⟨X, 0, none⟩ = some (.string ⟨#[108, 111, 103]⟩)
  c1 : u.cell? ⟨X, 1, none⟩ = some (.slice (some ⟨Y, 0, none⟩) 2 2)
  c2 : u.cell? ⟨X, 2, none⟩ = some (.string ⟨#[116]⟩)
  c3 : u.cell? ⟨X, 3, none⟩ = some (.slice (some ⟨Z, 0, none⟩) 4 4)
  c4 : u.cell? ⟨X, 4, none⟩ = some (.string ⟨#[117]⟩)
  c5 : u.cell? ⟨X, 5, none⟩ = some (.slice (some ⟨U, 0, none⟩) 3 3)
  logC : ColsAt u (some ⟨Y, 0, none⟩) 2 colLog
  tC : ColsAt u (some ⟨Z, 0, none⟩) 4 colTs
  uC : ColsAt u (some ⟨U, 0, none⟩) 3 colU
theorem SchemasAt.low {u v : World} {X Y Z U : Nat} (h : SchemasAt u X Y Z U) (hb : Below u.heap.size u v) : SchemasAt v X Y Z U := by
  obtain ⟨hl, c0, c1, c2, c3, c4, c5, a, b, c⟩ := h
  exact ⟨Nat.lt_of_lt_of_le hl hb.size, by rw [hb.cell (by exact hl)]; exact c0, by rw [hb.cell (by exact hl)]; exact c1, by rw [hb.cell (by exact hl)]; exact c2, by rw [hb.cell (by exact hl)]; exact c3, by rw [hb.cell (by exact hl)]; exact c4, by rw [hb.cell (by exact hl)]; exact c5, a.low hb, b.low hb, c.low hb⟩

theorem log_new (w : World) (t : TypeId) : ColsAt (w.alloc (.cells #[.string ⟨#[110]⟩, .int .i64 1, .bool false, .bool false, .string ⟨#[115]⟩, .int .i64 3, .bool false, .bool false] t)) (some ⟨w.heap.size, 0, none⟩) 2 colLog := by
  intro i hi
  obtain rfl | rfl : i = 0 ∨ i = 1 := by omega
  all_goals
    refine ⟨w.heap.size, 0, rfl, by simp, by decide, ?_, ?_, ?_, ?_⟩
    all_goals simp only [colLog]; go_simp
theorem t_new (w : World) (t : TypeId) : ColsAt (w.alloc (.cells #[.string ⟨#[105, 100]⟩, .int .i64 1, .bool true, .bool true, .string ⟨#[110]⟩, .int .i64 1, .bool false, .bool false, .string ⟨#[98]⟩, .int .i64 2, .bool false, .bool false, .string ⟨#[115]⟩, .int .i64 3, .bool false, .bool false] t)) (some ⟨w.heap.size, 0, none⟩) 4 colTs := by
  intro i hi
  obtain rfl | rfl | rfl | rfl : i = 0 ∨ i = 1 ∨ i = 2 ∨ i = 3 := by omega
  all_goals
    refine ⟨w.heap.size, 0, rfl, by simp, by decide, ?_, ?_, ?_, ?_⟩
    all_goals simp only [colTs]; go_simp
theorem u_new (w : World) (t : TypeId) : ColsAt (w.alloc (.cells #[.string ⟨#[105, 100]⟩, .int .i64 1, .bool true, .bool true, .string ⟨#[110]⟩, .int .i64 1, .bool true, .bool false, .string ⟨#[109]⟩, .int .i64 1, .bool false, .bool false] t)) (some ⟨w.heap.size, 0, none⟩) 3 colU := by
  intro i hi
  obtain rfl | rfl | rfl : i = 0 ∨ i = 1 ∨ i = 2 := by omega
  all_goals
    refine ⟨w.heap.size, 0, rfl, by simp, by decide, ?_, ?_, ?_, ?_⟩
    all_goals simp only [colU]; go_simp

def SchemasPost (w : World) (e : Ending) (w' : World) : Prop := ∃ X Y Z U : Nat, e = .returned (.slice (some ⟨X, 0, none⟩) 3 3) ∧ SchemasAt w' X Y Z U ∧ w.heap.size ≤ X ∧ w.heap.size ≤ Y ∧ w.heap.size ≤ Z ∧ w.heap.size ≤ U ∧ Below w.heap.size w w'
set_option maxHeartbeats 1000000 in
theorem schemas_any (w : World) :
    Calls Tryz.prog 25 #[] w (SchemasPost w) := by
  go_enter Tryz.func25, Tryz.ntmps25
  go_wp2
  go_ret
  refine ⟨w.heap.size + 1 + 1 + 1, w.heap.size, w.heap.size + 1, w.heap.size + 1 + 1, rfl, ⟨by simp, ?_, ?_, ?_, ?_, ?_, ?_, ?_, ?_, ?_⟩, by omega, by omega, by omega, by omega, ?_⟩
  · go_simp
  · go_simp
  · go_simp
  · go_simp
  · go_simp
  · go_simp
  · exact (((log_new w _).low (below_alloc _ _)).low (below_alloc _ _)).low (below_alloc _ _)
  · exact ColsAt.low (ColsAt.low (cols_at (size_alloc _ _) (t_new _ _)) (below_alloc _ _)) (below_alloc _ _)
  · exact ColsAt.low (cols_at (by rw [size_alloc, size_alloc]) (u_new _ _)) (below_alloc _ _)
  · exact below_new (below_new (below_new (below_new (Below.refl _ _) _) _) _) _

def SchemaTPost (w : World) (e : Ending) (w' : World) : Prop := ∃ Z : Nat, e = .returned (schV ⟨#[116]⟩ (some ⟨Z, 0, none⟩) 4 4) ∧ ColsAt w' (some ⟨Z, 0, none⟩) 4 colTs ∧ w.heap.size < Z ∧ Below w.heap.size w w'
end Go.Proofs.YtlpaphgmdcpmaaaGreatDoor
/-
  A drawn region whose operations move the world along a relation: each operation is shown once, from the facts of those that it waits for. (As XLate, whose operations only make memory.)
-/
namespace Go.Proofs.YtlpaphgmdcpmaaaGreatDoor
set_option maxRecDepth 100000
open Go.RowKit

section
variable {P : Program} {l : List Oper} {Q : Exit → Act → World → Prop} {a0 : Act} {w0 : World} (use sl : List (List Nat)) (live : List (List Nat)) (late brk : List Nat) (B : Nat) (R : World → World → Prop) (J : World → Prop) (Φ : Nat → (Nat → Value) → World → Prop)
theorem wpAny_rel {listed : Array Bool} {a : Act} {w : World} (hB : lateB l use sl live late = true) (hR : ∀ w w', R w w' → w.heap.size ≤ w'.heap.size ∧ (Below B w0 w → w0.heap.size ≤ w.heap.size → Below B w0 w')) (hJ : ∀ w w', J w → R w w' → J w')
    (hstab : ∀ j f g w w', (∀ s ∈ sl.getD j [], g s = f s) → R w w' → Φ j f w → Φ j g w')
    (hstep : ∀ i o, l[i]? = some o → i ∉ late → ∀ a w, a.tmps.size = a0.tmps.size → (∀ s, (∀ o ∈ l, o.dst ≠ some s) → slotF a s = slotF a0 s) → Below B w0 w → w0.heap.size ≤ w.heap.size → ((brk.all fun t => reach l.toArray l.length t i) = true → J w) → (∀ k ∈ use.getD i [], Φ k (slotF a) w) →
      Oper.wp P o a w (fun a' w' => ∃ v, a' = a.put o.dst v ∧ R w w' ∧ Φ i (slotF a') w') Q)
    (hlate : ∀ i o, l[i]? = some o → i ∈ late → ∀ a w, a.tmps.size = a0.tmps.size → (∀ s, (∀ o ∈ l, o.dst ≠ some s) → slotF a s = slotF a0 s) → Below B w0 w → w0.heap.size ≤ w.heap.size → ((brk.all fun t => reach l.toArray l.length t i || t == i) = true → J w) → (∀ k ∈ use.getD i [], Φ k (slotF a) w) →
      Oper.wp P o a w (fun a' w' => ∃ v, a' = a.put o.dst v ∧ w.heap.size ≤ w'.heap.size ∧ Below B w0 w' ∧ Φ i (slotF a') w' ∧ (i ∉ brk → J w') ∧ ∀ j, j ≠ i → (live.getD j []).contains i = true → reach l.toArray l.length j i = false → (∀ s ∈ sl.getD j [], slotF a' s = slotF a s) → Φ j (slotF a) w → Φ j (slotF a') w') Q)
    (hend : ∀ (f : Nat → Value) w, Below B w0 w → (∀ i, i < l.length → (late.all fun t => (live.getD i []).contains t || t == i || reach l.toArray l.length i t) = true → Φ i f w) → Q .normal (putAll l f a0) w) :
    ∀ (fuel : Nat), (listed.toList.count false ≤ fuel) → LateAt l a0 w0 live late brk B J Φ listed a w → wpAny P .any l.toArray Q fuel listed a w := by
  intro fuel
  unfold lateB at hB
  simp only [Bool.and_eq_true, List.all_eq_true, List.mem_range, Bool.or_eq_true] at hB
  obtain ⟨hg, hB⟩ := hB
  have hdone : ∀ (listed : Array Bool) (a : Act) (w : World), LateAt l a0 w0 live late brk B J Φ listed a w → (∀ i, i < l.length → listed.getD i false = true) → Q .normal a w := by
    intro listed a w h hall
    have he : a = putAll l (slotF a) a0 := by
      have hz := putAll_size l (slotF a) a0
      refine act_eq (h.tmps.trans hz.1.symm) (h.defs.trans hz.2.symm) fun s hs => ?_
      rw [putAll_slot _ _ _ _ (by rw [← h.tmps]; exact hs)]
      split
      · rfl
      · rename_i hno
        exact h.old s fun o ho hd => hno ⟨o, ho, hd⟩
    rw [he]
    refine hend (slotF a) w h.low (fun i hi' hl => h.fact i (hall i hi') ?_)
    intro t ht _
    have := List.all_eq_true.1 hl t ht
    rw [Bool.or_eq_true, Bool.or_eq_true] at this
    rcases this with (h1 | h1) | h1
    · exact .inl h1
    · exact .inr (.inl (beq_iff_eq.1 h1))
    · exact .inr (.inr h1)
  have hmem : ∀ (listed : Array Bool), listed.size = l.length → ∀ i, i < l.length → listed.getD i true = listed.getD i false := by
    intro listed hz i hi
    simp [show i < listed.size by omega]
  have hready : ∀ (listed : Array Bool), listed.size = l.length → Region.ready .any l.toArray listed = [] → ∀ i, i < l.length → listed.getD i false = true := by
    intro listed hz hr i
    induction i using Nat.strongRecOn with
    | ind i ih =>
      intro hi
      cases hc : listed.getD i false with
      | true => rfl
      | false =>
        have h1 : i ∈ Region.ready .any l.toArray listed := by
          refine mem_ready.2 ⟨by rw [hmem listed hz i hi]; exact hc, l[i], by simp [hi], fun e he hb => ?_⟩
          have h2 := (hB i hi).1.1
          rw [List.getElem?_eq_getElem hi] at h2
          simp only [Array.all_eq_true'] at h2
          have h3 := h2 e he
          rw [hb] at h3
          have h4 : e.on < i := by simpa using h3
          exact ih e.on h4 (by omega)
        rw [hr] at h1
        cases h1
  induction fuel generalizing listed a w with
  | zero =>
    intro hc h
    have hall : ∀ i, i < l.length → listed.getD i false = true := by
      intro i hi
      have h0 : listed.toList.count false = 0 := by omega
      have h1 := List.count_eq_zero.1 h0
      have hi' : i < listed.size := by rw [h.size]; exact hi
      cases hv : listed[i] with
      | true => simp [hi', hv]
      | false => exact absurd (by rw [← hv]; simp) h1
    refine ⟨?_, hdone listed a w h hall⟩
    rw [List.eq_nil_iff_forall_not_mem]
    intro i hi
    obtain ⟨h1, o, ho, -⟩ := mem_ready.1 hi
    have hlt : i < l.length := by
      have := (Array.getElem?_eq_some_iff.1 ho).1
      simpa using this
    rw [hmem listed h.size i hlt, hall i hlt] at h1
    cases h1
  | succ fuel ih =>
    intro hc h
    refine ⟨fun h0 => hdone listed a w h (hready listed h.size h0), fun i hi' => ?_⟩
    obtain ⟨hun, o, ho, hdeps⟩ := mem_ready.1 hi'
    have hlt : i < l.length := by
      have := (Array.getElem?_eq_some_iff.1 ho).1
      simpa using this
    have hlo : l[i]? = some o := by simpa using ho
    have hol : o ∈ l := List.mem_of_getElem? hlo
    have hun' : listed.getD i false = false := by rw [← hmem listed h.size i hlt]; exact hun
    have hwant : Region.wanted o (yielded l.toArray a.tmps) = true := by
      have := hg o hol
      unfold Region.wanted
      rw [Option.isNone_iff_eq_none.1 this]
    have hsl : i < listed.size := by rw [h.size]; exact hlt
    have hcnt : (listed.setIfInBounds i true).toList.count false ≤ fuel := by
      rw [Array.toList_setIfInBounds, List.count_set (by simpa using hsl)]
      have hv : listed.toList[i]'(by simpa using hsl) = false := by
        have : listed[i] = false := by simpa [hsl] using hun'
        simpa using this
      have h1 : 0 < listed.toList.count false := List.count_pos_iff.2 (by rw [← hv]; exact List.getElem_mem _)
      rw [hv]
      simp
      simp at hc h1
      omega
    have hone : ∀ t, reach l.toArray l.length t i = true → listed.getD t false = false := by
      intro t hr
      cases hs : listed.getD t false with
      | false => rfl
      | true =>
        cases hos : l.toArray[t]? with
        | none =>
          cases hn : l.length with
          | zero => omega
          | succ m => rw [hn] at hr; unfold reach at hr; rw [hos] at hr; cases hr
        | some os =>
          have := reach_listed h.shut l.length t i os hos (h.shut t os hos hs) hr
          rw [hun'] at this
          cases this
    have hfirst : (∀ t ∈ brk, reach l.toArray l.length t i = true ∨ t = i) → ∀ t ∈ brk, listed.getD t false = false := by
      intro hr t ht
      rcases hr t ht with h1 | rfl
      · exact hone t h1
      · exact hun'
    have huse : ∀ k ∈ use.getD i [], listed.getD k false = true ∧ Φ k (slotF a) w := by
      intro k hk
      obtain ⟨h1, h2⟩ := (hB i hlt).1.2 k hk
      have h3 := reach_listed h.shut l.length i k o ho hdeps h1
      refine ⟨h3, h.fact k h3 ?_⟩
      intro t ht hlt2
      rcases h2 t ht with (((h4 | h4) | h4) | h4) | h4
      · exact .inl h4
      · rw [hone t h4] at hlt2; cases hlt2
      · rw [beq_iff_eq.1 h4, hun'] at hlt2; cases hlt2
      · exact .inr (.inl (beq_iff_eq.1 h4))
      · exact .inr (.inr h4)
    have hsame : ∀ v j, j ≠ i → listed.getD j false = true → ∀ s ∈ sl.getD j [], slotF (a.put o.dst v) s = slotF a s := by
      intro v j hji hj s hs
      refine slot_put _ _ _ _ fun hd => ?_
      have hjl : j < l.length := by
        rw [← h.size]
        apply Classical.byContradiction
        intro hc'
        simp [hc'] at hj
      rcases (hB i hlt).2 j hjl with (h1 | h1) | h1
      · exact hji (beq_iff_eq.1 h1).symm
      · have hoj : l.toArray[j]? = some l[j] := by simp [hjl]
        have := reach_listed h.shut l.length j i l[j] hoj (h.shut j l[j] hoj hj) h1
        rw [hun'] at this
        cases this
      · rw [hlo] at h1
        simp only [Option.bind_some, hd] at h1
        simp at h1
        exact h1 hs
    have hshut : Shut l.toArray (listed.setIfInBounds i true) := by
      intro j oj hoj hj e he hb
      rw [listed_set hsl] at hj ⊢
      rcases hj with rfl | hj
      · rw [ho] at hoj
        cases hoj
        exact .inr (hdeps e he hb)
      · exact .inr (h.shut j oj hoj hj e he hb)
    have hnot : ∀ t, (listed.setIfInBounds i true).getD t false = false → listed.getD t false = false := by
      intro t hl
      cases hs : listed.getD t false with
      | false => rfl
      | true => rw [(listed_set hsl).2 (.inr hs)] at hl; cases hl
    have hend' : ∀ v w' (hs : w.heap.size ≤ w'.heap.size) (hlow : Below B w0 w') (hinv : (∀ t ∈ brk, (listed.setIfInBounds i true).getD t false = false) → J w')
        (hf : ∀ j, j ≠ i → listed.getD j false = true → (∀ t ∈ late, (listed.setIfInBounds i true).getD t false = true → (live.getD j []).contains t = true ∨ t = j ∨ reach l.toArray l.length j t = true) → Φ j (slotF (a.put o.dst v)) w')
        (hi0 : Φ i (slotF (a.put o.dst v)) w'),
        wpAny P .any l.toArray Q fuel (listed.setIfInBounds i true) (a.put o.dst v) w' := by
      intro v w' hs hlow hinv hf hi0
      refine ih hcnt ⟨by rw [Array.size_setIfInBounds]; exact h.size, hshut, (size_put _ _ _).trans h.tmps, (defers_put _ _ _).trans h.defs, fun s hs' => (slot_put _ _ _ _ (hs' o hol)).trans (h.old s hs'), hlow, Nat.le_trans h.grow hs, hinv, fun j hj hl => ?_⟩
      by_cases hji : j = i
      · rw [hji]; exact hi0
      · rcases (listed_set hsl).1 hj with e | hj
        · exact absurd e.symm hji
        · exact hf j hji hj hl
    have hrf : ∀ j, listed.getD j false = true → reach l.toArray l.length j i = false := by
      intro j hj
      cases hr : reach l.toArray l.length j i with
      | false => rfl
      | true => rw [hone j hr] at hj; cases hj
    unfold wpOp
    simp only [ho, hwant, if_true]
    refine .inl ?_
    by_cases hie : i ∈ late
    · refine Oper.wp_mono ?_ (hlate i o hlo hie a w h.tmps h.old h.low h.grow (fun hr => h.inv (hfirst fun t ht => by
        have := List.all_eq_true.1 hr t ht
        rw [Bool.or_eq_true] at this
        exact this.imp id fun e => beq_iff_eq.1 e)) (fun k hk => (huse k hk).2))
      rintro a' w' ⟨v, rfl, hs, hlow, hi0, hjk, hkeep⟩
      refine hend' v w' hs hlow (fun hc' => hjk fun hib => ?_) (fun j hji hj hl => ?_) hi0
      · have := hc' i hib
        rw [(listed_set hsl).2 (.inl rfl)] at this
        cases this
      · rcases hl i hie ((listed_set hsl).2 (.inl rfl)) with e | e | e
        · exact hkeep j hji e (hrf j hj) (hsame v j hji hj) (h.fact j hj fun t ht hlt2 => hl t ht ((listed_set hsl).2 (.inr hlt2)))
        · exact absurd e.symm hji
        · rw [hrf j hj] at e; cases e
    · refine Oper.wp_mono ?_ (hstep i o hlo hie a w h.tmps h.old h.low h.grow (fun hr => h.inv (hfirst fun t ht => .inl (List.all_eq_true.1 hr t ht))) fun k hk => (huse k hk).2)
      rintro a' w' ⟨v, rfl, hb, hi0⟩
      refine hend' v w' (hR _ _ hb).1 ((hR _ _ hb).2 h.low h.grow) (fun hc' => hJ _ _ (h.inv fun t ht => hnot t (hc' t ht)) hb) (fun j hji hj hl => ?_) hi0
      exact hstab j _ _ _ _ (hsame v j hji hj) hb (h.fact j hj fun t ht hlt2 => hl t ht ((listed_set hsl).2 (.inr hlt2)))
/-- A drawn region whose operations move the world along R, with late operations, over a function of slots. W: the world behind the draw. -/
theorem wp_region_rel {id : Nat} {w : World} (hm : P.follows .mixedOrders = true) (W : World) (hW : w.drew = W) (hB : lateB l use sl live late = true) (hD : (l.all fun o => match o.dst with | some d => decide (d < a0.tmps.size) | none => true) = true) (hR : ∀ w w', R w w' → w.heap.size ≤ w'.heap.size ∧ (Below B W w → W.heap.size ≤ w.heap.size → Below B W w')) (hJ0 : J W) (hJ : ∀ w w', J w → R w w' → J w')
    (hstab : ∀ j f g w w', (∀ s ∈ sl.getD j [], g s = f s) → R w w' → Φ j f w → Φ j g w')
    (hstep : ∀ i o, l[i]? = some o → i ∉ late → ∀ (f : Nat → Value) w, (∀ s, (l.all fun o => o.dst != some s) = true → f s = slotF a0 s) → Below B W w → W.heap.size ≤ w.heap.size → ((brk.all fun t => reach l.toArray l.length t i) = true → J w) → (∀ k ∈ use.getD i [], Φ k f w) →
      gives P (fun v w' => R w w' ∧ Φ i (upF f o.dst v) w') ((execOp (evF f) o).run P w))
    (hlate : ∀ i o, l[i]? = some o → i ∈ late → ∀ (f : Nat → Value) w, (∀ s, (l.all fun o => o.dst != some s) = true → f s = slotF a0 s) → Below B W w → W.heap.size ≤ w.heap.size → ((brk.all fun t => reach l.toArray l.length t i || t == i) = true → J w) → (∀ k ∈ use.getD i [], Φ k f w) →
      gives P (fun v w' => w.heap.size ≤ w'.heap.size ∧ Below B W w' ∧ Φ i (upF f o.dst v) w' ∧ (i ∉ brk → J w') ∧ ∀ j, j ≠ i → (live.getD j []).contains i = true → reach l.toArray l.length j i = false → (∀ s ∈ sl.getD j [], upF f o.dst v s = f s) → Φ j f w → Φ j (upF f o.dst v) w') ((execOp (evF f) o).run P w))
    (hend : ∀ (f : Nat → Value) w, Below B W w → (∀ i, i < l.length → (late.all fun t => (live.getD i []).contains t || t == i || reach l.toArray l.length i t) = true → Φ i f w) → Q .normal (putAll l f a0) w) :
    (Code.region id l.toArray true).wp P Q a0 w := by
  subst hW
  rw [List.all_eq_true] at hD
  have hd : ∀ o ∈ l, ∀ (a : Act), a.tmps.size = a0.tmps.size → ∀ x, o.dst = some x → x < a.tmps.size := by
    intro o ho a ha x hx
    have := hD o ho
    rw [hx] at this
    rw [ha]
    exact of_decide_eq_true this
  have hold : ∀ a : Act, (∀ s, (∀ o ∈ l, o.dst ≠ some s) → slotF a s = slotF a0 s) → ∀ s, (l.all fun o => o.dst != some s) = true → slotF a s = slotF a0 s := by
    intro a h s hs
    rw [List.all_eq_true] at hs
    exact h s fun o ho => bne_iff_ne.1 (hs o ho)
  have hno : ∀ i, (Array.replicate l.length false).getD i false = true → False := by
    intro i h
    by_cases hi : i < l.length
    · simp [hi] at h
    · simp [hi] at h
  refine wp_region_any hm (wpAny_rel (w0 := w.drew) use sl live late brk B R J Φ hB hR hJ hstab ?_ ?_ hend _ (by simp) ⟨by simp, fun j o hj h => ?_, rfl, rfl, fun s _ => rfl, Below.refl _ _, Nat.le_refl _, fun _ => hJ0, fun i h => ?_⟩)
  · intro i o hi hne a w hz ho hb hg hj hu
    refine Oper.wp_mono ?_ (wp_of_gives (Q := Q) (hstep i o hi hne (slotF a) w (hold a ho) hb hg hj hu))
    rintro a' w' ⟨v, rfl, h2, h3⟩
    refine ⟨v, rfl, h2, ?_⟩
    rw [upF_put a o.dst v (hd o (List.mem_of_getElem? hi) a hz)]
    exact h3
  · intro i o hi hin a w hz ho hb hg hj hu
    refine Oper.wp_mono ?_ (wp_of_gives (Q := Q) (hlate i o hi hin (slotF a) w (hold a ho) hb hg hj hu))
    rintro a' w' ⟨v, rfl, h2⟩
    refine ⟨v, rfl, ?_⟩
    rw [upF_put a o.dst v (hd o (List.mem_of_getElem? hi) a hz)]
    exact h2
  all_goals
    simp only [List.size_toArray] at h
    exact (hno _ h).elim
end
end Go.Proofs.YtlpaphgmdcpmaaaGreatDoor
