/-
  Several texts in one.
-/
import Derived.Test.YtdlehlbahkikgaaDoorPk06
import Derived.Test.YtdlehlbahkikgaaDoorPk03
import Derived.OwnWalk
import Derived.Laws.AppendOwn
import Derived.Deep.AppendLies
import Derived.Deep.RegionLaw
import Derived.Deep.RegionWith
import Derived.Deep.CutRange
import Derived.Deep.CutBlock
/-
  Expressions of the tape: columns, literals; what AnyExpr keeps while it draws.
-/
namespace Go.Proofs.YtdlehlbahkikgaaDoor
set_option maxRecDepth 100000
open Go.RowKit
variable {ls : List Nat}

theorem info_expr : (Tryd.prog.info? 30).map (fun i => (i.zero, i.size, i.bytes)) = some (some (.agg #[.int .i64 0, .int .i64 0, .bool false, .int .i64 0, .int .i64 0, .string ⟨#[]⟩, .string ⟨#[]⟩, .string ⟨#[]⟩, .slice none 0 0, .slice none 0 0]), 10, 136) := by kernel_rfl
theorem col_any (tb nm : ByteArray) (w : World) : Calls Tryd.prog 15 #[.string tb, .string nm] w fun e w' => e = .returned (exV (colEx tb nm)) ∧ Below w.heap.size w w' := by
  go_enter Tryd.func15, Tryd.ntmps15
  go_wp2
  exact bodyPost_ret (v := exV (colEx tb nm)) (by simp [results, Tryd.results15, go_sem, exV, colEx, Ex.mk_k, Ex.mk_op, Ex.mk_no, Ex.mk_vk, Ex.mk_vi, Ex.mk_vt, Ex.mk_tb, Ex.mk_nm, Ex.mk_pa, Ex.mk_ca, Ex.mk_args, Ex.mk_ps, Ex.mk_cs, Ex.mk_sub]) rfl ⟨rfl, below_alloc _ _⟩
theorem lit_any (k n : Int) (s : ByteArray) (w : World) : Calls Tryd.prog 18 #[.agg #[.int .i64 k, .int .i64 n, .string s]] w fun e w' => e = .returned (exV (litEx k n s)) ∧ Below w.heap.size w w' := by
  go_enter Tryd.func18, Tryd.ntmps18
  go_wp2
  exact bodyPost_ret (v := exV (litEx k n s)) (by simp [results, Tryd.results18, go_sem, exV, litEx, Ex.mk_k, Ex.mk_op, Ex.mk_no, Ex.mk_vk, Ex.mk_vi, Ex.mk_vt, Ex.mk_tb, Ex.mk_nm, Ex.mk_pa, Ex.mk_ca, Ex.mk_args, Ex.mk_ps, Ex.mk_cs, Ex.mk_sub]) rfl ⟨rfl, below_new (below_alloc _ _) _⟩
theorem col_agg (tb nm : ByteArray) (w : World) : Calls Tryd.prog 15 #[.string tb, .string nm] w fun e w' => e = .returned (.agg #[.int .i64 2, .int .i64 0, .bool false, .int .i64 0, .int .i64 0, .string ⟨#[]⟩, .string tb, .string nm, .slice none 0 0, .slice none 0 0]) ∧ Below w.heap.size w w' := col_any tb nm w
theorem lit_agg (k n : Int) (s : ByteArray) (w : World) : Calls Tryd.prog 18 #[.agg #[.int .i64 k, .int .i64 n, .string s]] w fun e w' => e = .returned (.agg #[.int .i64 1, .int .i64 0, .bool false, .int .i64 k, .int .i64 n, .string s, .string ⟨#[]⟩, .string ⟨#[]⟩, .slice none 0 0, .slice none 0 0]) ∧ Below w.heap.size w w' := lit_any k n s w
/-- What AnyExpr keeps: the tape, the box of its result. -/
structure AnW (b : Nat) (w u : World) : Prop where
  tape : TapeAt u b
  step : StepT b w u
  res : ExB u w.heap.size ex0
  lt : b < w.heap.size
theorem AnW.next {b : Nat} {w u v : World} (h : AnW b w u) (hs : StepT b u v) (ht : TapeAt v b) : AnW b w v :=
  ⟨ht, h.step.trans hs, h.res.step hs (by have := h.lt; omega), h.lt⟩
theorem AnW.low {b : Nat} {w u v : World} (h : AnW b w u) (hb : Below u.heap.size u v) : AnW b w v := h.next (StepT.of_below hb) (h.tape.below hb)
/-- All but block X is as it was. -/
structure ButX (X : Nat) (u v : World) : Prop where
  os : v.os = u.os
  tape : v.tape = u.tape
  output : v.output = u.output
  size : v.heap.size = u.heap.size
  block : ∀ k, k ≠ X → v.heap[k]? = u.heap[k]?
theorem ButX.refl (X : Nat) (u : World) : ButX X u u := ⟨rfl, rfl, rfl, rfl, fun _ _ => rfl⟩
theorem ButX.set {X : Nat} {u v : World} (h : ButX X u v) (o : Nat) (f : Option Nat) (y : Value) : ButX X u (v.setCell ⟨X, o, f⟩ y) :=
  ⟨h.os, h.tape, h.output, by simpa [World.setCell] using h.size, fun k hk => (Below.heap_setCell _ _ _ _ hk).trans (h.block k hk)⟩
theorem ButX.drew {X : Nat} {u v : World} (h : ButX X u v) : ButX X u v.drew := ⟨h.os, h.tape, h.output, h.size, h.block⟩
theorem StepT.but {b X : Nat} {w u v : World} (h : StepT b w u) (hb : ButX X u v) (hX : w.heap.size ≤ X) : StepT b w v :=
  ⟨hb.os.trans h.os, hb.tape.trans h.tape, hb.output.trans h.output, by rw [hb.size]; exact h.size, fun k hk hkb => (hb.block k (by omega)).trans (h.block k hk hkb)⟩
theorem TapeAt.but {b X : Nat} {u v : World} (h : TapeAt u b) (hb : ButX X u v) (hX : b < X) : TapeAt v b := h.keep (fun k hk => hb.block k (by omega)) (by rw [hb.size]; exact Nat.le_refl _)
theorem ExB.but {X Y : Nat} {u v : World} {e : Ex} (h : ExB u Y e) (hb : ButX X u v) (hn : Y ≠ X) : ExB v Y e := h.keep (by rw [hb.size]; exact Nat.le_refl _) (hb.block Y hn)
theorem ExAt.but {N M : Nat → Prop} {X d : Nat} {u v : World} {e : Ex} (h : ExAt N u d e) (hb : ButX X u v) (hN : ∀ c, c < u.heap.size → N c → c ≠ X ∧ M c) : ExAt M v d e :=
  ExAt.keep (by rw [hb.size]; exact Nat.le_refl _) (fun c hc hn => ⟨hb.block c (hN c hc hn).1, (hN c hc hn).2⟩) d e h
theorem LAt.but {N M : Nat → Prop} {X d : Nat} {u v : World} {p : Option Addr} {l : List Ex} (h : LAt N u (ExAt N u d) p l) (hb : ButX X u v) (hN : ∀ c, c < u.heap.size → N c → c ≠ X ∧ M c) : LAt M v (ExAt M v d) p l :=
  LAt.keep h (by rw [hb.size]; exact Nat.le_refl _) (fun c hc hn => ⟨hb.block c (hN c hc hn).1, (hN c hc hn).2⟩) fun _ hx => hx.but hb hN
theorem QAt.but {N M : Nat → Prop} {X d : Nat} {u v : World} {p : Option Addr} {l : List Qu} (h : QAt N u (ExAt N u d) p l) (hb : ButX X u v) (hN : ∀ c, c < u.heap.size → N c → c ≠ X ∧ M c) : QAt M v (ExAt M v d) p l :=
  QAt.keep h (by rw [hb.size]; exact Nat.le_refl _) (fun c hc hn => ⟨hb.block c (hN c hc hn).1, (hN c hc hn).2⟩) fun _ hx => hx.but hb hN
theorem AnW.but {b X : Nat} {w u v : World} (h : AnW b w u) (hb : ButX X u v) (hX : w.heap.size < X) : AnW b w v :=
  ⟨h.tape.but hb (by have := h.lt; omega), h.step.but hb (by omega), h.res.but hb (by omega), h.lt⟩
theorem Env.but {X : Nat} {u v : World} (h : Env ls u) (hb : ButX X u v) (hX : 4 ≤ X) : Env ls v := h.keep (by rw [hb.size]; exact Nat.le_refl _) (fun k hk => hb.block k (by omega))
/-- The ten cells of a box are set. -/
theorem set_ten {u : World} {X : Nat} {a : Ex} (h : ExB u X a) (v0 v1 v2 v3 v4 v5 v6 v7 v8 v9 : Value) : ((((((((((u.setCell ⟨X, 0, none⟩ v0).setCell ⟨X, 1, none⟩ v1).setCell ⟨X, 2, none⟩ v2).setCell ⟨X, 3, none⟩ v3).setCell ⟨X, 4, none⟩ v4).setCell ⟨X, 5, none⟩ v5).setCell ⟨X, 6, none⟩ v6).setCell ⟨X, 7, none⟩ v7).setCell ⟨X, 8, none⟩ v8).setCell ⟨X, 9, none⟩ v9).cell? ⟨X, 0, none⟩ = some v0 ∧ ((((((((((u.setCell ⟨X, 0, none⟩ v0).setCell ⟨X, 1, none⟩ v1).setCell ⟨X, 2, none⟩ v2).setCell ⟨X, 3, none⟩ v3).setCell ⟨X, 4, none⟩ v4).setCell ⟨X, 5, none⟩ v5).setCell ⟨X, 6, none⟩ v6).setCell ⟨X, 7, none⟩ v7).setCell ⟨X, 8, none⟩ v8).setCell ⟨X, 9, none⟩ v9).cell? ⟨X, 1, none⟩ = some v1 ∧ ((((((((((u.setCell ⟨X, 0, none⟩ v0).setCell ⟨X, 1, none⟩ v1).setCell ⟨X, 2, none⟩ v2).setCell ⟨X, 3, none⟩ v3).setCell ⟨X, 4, none⟩ v4).setCell ⟨X, 5, none⟩ v5).setCell ⟨X, 6, none⟩ v6).setCell ⟨X, 7, none⟩ v7).setCell ⟨X, 8, none⟩ v8).setCell ⟨X, 9, none⟩ v9).cell? ⟨X, 2, none⟩ = some v2 ∧ ((((((((((u.setCell ⟨X, 0, none⟩ v0).setCell ⟨X, 1, none⟩ v1).setCell ⟨X, 2, none⟩ v2).setCell ⟨X, 3, none⟩ v3).setCell ⟨X, 4, none⟩ v4).setCell ⟨X, 5, none⟩ v5).setCell ⟨X, 6, none⟩ v6).setCell ⟨X, 7, none⟩ v7).setCell ⟨X, 8, none⟩ v8).setCell ⟨X, 9, none⟩ v9).cell? ⟨X, 3, none⟩ = some v3 ∧ ((((((((((u.setCell ⟨X, 0, none⟩ v0).setCell ⟨X, 1, none⟩ v1).setCell ⟨X, 2, none⟩ v2).setCell ⟨X, 3, none⟩ v3).setCell ⟨X, 4, none⟩ v4).setCell ⟨X, 5, none⟩ v5).setCell ⟨X, 6, none⟩ v6).setCell ⟨X, 7, none⟩ v7).setCell ⟨X, 8, none⟩ v8).setCell ⟨X, 9, none⟩ v9).cell? ⟨X, 4, none⟩ = some v4 ∧ ((((((((((u.setCell ⟨X, 0, none⟩ v0).setCell ⟨X, 1, none⟩ v1).setCell ⟨X, 2, none⟩ v2).setCell ⟨X, 3, none⟩ v3).setCell ⟨X, 4, none⟩ v4).setCell ⟨X, 5, none⟩ v5).setCell ⟨X, 6, none⟩ v6).setCell ⟨X, 7, none⟩ v7).setCell ⟨X, 8, none⟩ v8).setCell ⟨X, 9, none⟩ v9).cell? ⟨X, 5, none⟩ = some v5 ∧ ((((((((((u.setCell ⟨X, 0, none⟩ v0).setCell ⟨X, 1, none⟩ v1).setCell ⟨X, 2, none⟩ v2).setCell ⟨X, 3, none⟩ v3).setCell ⟨X, 4, none⟩ v4).setCell ⟨X, 5, none⟩ v5).setCell ⟨X, 6, none⟩ v6).setCell ⟨X, 7, none⟩ v7).setCell ⟨X, 8, none⟩ v8).setCell ⟨X, 9, none⟩ v9).cell? ⟨X, 6, none⟩ = some v6 ∧ ((((((((((u.setCell ⟨X, 0, none⟩ v0).setCell ⟨X, 1, none⟩ v1).setCell ⟨X, 2, none⟩ v2).setCell ⟨X, 3, none⟩ v3).setCell ⟨X, 4, none⟩ v4).setCell ⟨X, 5, none⟩ v5).setCell ⟨X, 6, none⟩ v6).setCell ⟨X, 7, none⟩ v7).setCell ⟨X, 8, none⟩ v8).setCell ⟨X, 9, none⟩ v9).cell? ⟨X, 7, none⟩ = some v7 ∧ ((((((((((u.setCell ⟨X, 0, none⟩ v0).setCell ⟨X, 1, none⟩ v1).setCell ⟨X, 2, none⟩ v2).setCell ⟨X, 3, none⟩ v3).setCell ⟨X, 4, none⟩ v4).setCell ⟨X, 5, none⟩ v5).setCell ⟨X, 6, none⟩ v6).setCell ⟨X, 7, none⟩ v7).setCell ⟨X, 8, none⟩ v8).setCell ⟨X, 9, none⟩ v9).cell? ⟨X, 8, none⟩ = some v8 ∧ ((((((((((u.setCell ⟨X, 0, none⟩ v0).setCell ⟨X, 1, none⟩ v1).setCell ⟨X, 2, none⟩ v2).setCell ⟨X, 3, none⟩ v3).setCell ⟨X, 4, none⟩ v4).setCell ⟨X, 5, none⟩ v5).setCell ⟨X, 6, none⟩ v6).setCell ⟨X, 7, none⟩ v7).setCell ⟨X, 8, none⟩ v8).setCell ⟨X, 9, none⟩ v9).cell? ⟨X, 9, none⟩ = some v9 := by
  obtain ⟨hl, c0, c1, c2, c3, c4, c5, c6, c7, c8, c9, fz⟩ := h
  refine ⟨?_, ?_, ?_, ?_, ?_, ?_, ?_, ?_, ?_, ?_⟩
  all_goals go_simp
theorem but_ten (u : World) (X : Nat) (v0 v1 v2 v3 v4 v5 v6 v7 v8 v9 : Value) : ButX X u ((((((((((u.setCell ⟨X, 0, none⟩ v0).setCell ⟨X, 1, none⟩ v1).setCell ⟨X, 2, none⟩ v2).setCell ⟨X, 3, none⟩ v3).setCell ⟨X, 4, none⟩ v4).setCell ⟨X, 5, none⟩ v5).setCell ⟨X, 6, none⟩ v6).setCell ⟨X, 7, none⟩ v7).setCell ⟨X, 8, none⟩ v8).setCell ⟨X, 9, none⟩ v9) :=
  ((((((((((ButX.refl X u).set _ _ _).set _ _ _).set _ _ _).set _ _ _).set _ _ _).set _ _ _).set _ _ _).set _ _ _).set _ _ _).set _ _ _
theorem Cell3.step3 {u v : World} {X b : Nat} {x y z : Value} (h : Cell3 u X x y z) (hs : StepT b u v) (hn : X ≠ b) : Cell3 v X x y z :=
  ⟨Nat.lt_of_lt_of_le h.lt hs.size, by rw [hs.cell (by exact h.lt) (by exact hn)]; exact h.c0, by rw [hs.cell (by exact h.lt) (by exact hn)]; exact h.c1, by rw [hs.cell (by exact h.lt) (by exact hn)]; exact h.c2, fun o => by rw [hs.frozen (by exact h.lt) (by exact hn)]; exact h.fz o⟩
/-- What AnyExpr gives: a well-formed tree of at most D storeys. -/
def AExPost (b D : Nat) (w : World) (e : Ending) (w' : World) : Prop := ∃ E : Ex, e = .returned (exV E) ∧ ExAt (fun c => w.heap.size < c) w' D E ∧ vE D E = true ∧ TapeAt w' b ∧ StepT b w w'
/-- A leaf. -/
theorem ExAt.leaf (N : Nat → Prop) (w : World) (D : Nat) (k op : Int) (no : Bool) (vk vi : Int) {vt tb nm : ByteArray} (h1 : vt.size ≤ 9223372036854775807) (h2 : tb.size ≤ 9223372036854775807) (h3 : nm.size ≤ 9223372036854775807) : ExAt N w (D + 1) (.mk k op no vk vi vt tb nm none 0 [] none 0 []) :=
  ⟨h1, h2, h3, Nat.zero_le _, Nat.zero_le _, LAt.nil _ _ _ _, QAt.nil _ _ _ _⟩
theorem names_fine : ∀ i : Fin 8, nameOK (nameS i) = true ∧ (nameS i).size ≤ 9223372036854775807 := by decide +kernel
def qualL : List (List UInt8) := [[78, 69, 87], [79, 76, 68], [73, 78, 83, 69, 82, 84, 69, 68], [116], [117]]
def qualS (i : Nat) : ByteArray := ⟨(qualL.getD i []).toArray⟩
theorem quals_fine : ∀ i : Fin 5, qualB (qualS i) = true ∧ (qualS i).size ≤ 9223372036854775807 := by decide +kernel
def srcL : List (List UInt8) := [[116], [117], [108, 111, 103], [73, 78, 83, 69, 82, 84, 69, 68], [68, 69, 76, 69, 84, 69, 68]]
def srcS (i : Nat) : ByteArray := ⟨(srcL.getD i []).toArray⟩
theorem srcs_fine : ∀ i : Fin 5, srcB (srcS i) = true ∧ (srcS i).size ≤ 9223372036854775807 := by decide +kernel
theorem qual_none : qualB ⟨#[]⟩ = true := by decide +kernel
theorem qual_at {u v : World} {b : Nat} {t : TypeId} (hs : StepT b (u.alloc (.cells #[.string ⟨#[78, 69, 87]⟩, .string ⟨#[79, 76, 68]⟩, .string ⟨#[73, 78, 83, 69, 82, 84, 69, 68]⟩, .string ⟨#[116]⟩, .string ⟨#[117]⟩] t)) v) (hb : b < u.heap.size) {i : Nat} (hi : i < 5) : v.cell? ⟨u.heap.size, i, none⟩ = some (.string (qualS i)) ∧ u.heap.size < v.heap.size := by
  have hz := hs.size
  rw [size_alloc] at hz
  refine ⟨?_, by omega⟩
  rw [hs.cell (by rw [size_alloc]; exact Nat.lt_succ_self _) (by show u.heap.size ≠ b; omega)]
  have h5 : i = 0 ∨ i = 1 ∨ i = 2 ∨ i = 3 ∨ i = 4 := by omega
  rcases h5 with rfl | rfl | rfl | rfl | rfl
  all_goals (go_simp; rfl)
theorem src_at {u v : World} {b : Nat} {t : TypeId} (hs : StepT b (u.alloc (.cells #[.string ⟨#[116]⟩, .string ⟨#[117]⟩, .string ⟨#[108, 111, 103]⟩, .string ⟨#[73, 78, 83, 69, 82, 84, 69, 68]⟩, .string ⟨#[68, 69, 76, 69, 84, 69, 68]⟩] t)) v) (hb : b < u.heap.size) {i : Nat} (hi : i < 5) : v.cell? ⟨u.heap.size, i, none⟩ = some (.string (srcS i)) ∧ u.heap.size < v.heap.size := by
  have hz := hs.size
  rw [size_alloc] at hz
  refine ⟨?_, by omega⟩
  rw [hs.cell (by rw [size_alloc]; exact Nat.lt_succ_self _) (by show u.heap.size ≠ b; omega)]
  have h5 : i = 0 ∨ i = 1 ∨ i = 2 ∨ i = 3 ∨ i = 4 := by omega
  rcases h5 with rfl | rfl | rfl | rfl | rfl
  all_goals (go_simp; rfl)
end Go.Proofs.YtdlehlbahkikgaaDoor
/-
  What AnyExpr keeps while it makes an expression with arguments or a query.
-/
namespace Go.Proofs.YtdlehlbahkikgaaDoor
set_option maxRecDepth 100000
open Go.RowKit
variable {ls : List Nat}

/-- An expression without arguments, as yet. -/
abbrev bareEx (kd op : Int) (no : Bool) (ps : Option Addr) (cs : Nat) (sub : List Qu) : Ex := .mk kd op no 0 0 ⟨#[]⟩ ⟨#[]⟩ ⟨#[]⟩ none 0 [] ps cs sub
/-- Behind the switch over kinds: the expression in the box X wants m arguments. -/
structure SwAt (b X D : Nat) (w : World) (kd : Int) (m : Nat) (op : Int) (no : Bool) (ps : Option Addr) (cs : Nat) (sub : List Qu) (u : World) : Prop where
  an : AnW b w u
  box : ExB u X (bareEx kd op no ps cs sub)
  xw : w.heap.size < X
  subs : QAt (fun c => X < c) u (ExAt (fun c => X < c) u D) ps sub
  lens : sub.length ≤ 1
  m3 : m ≤ 3
  good : ∀ pa ca args, args.length = m → (∀ a ∈ args, vE D a = true) → vOf (vE D) (.mk kd op no 0 0 ⟨#[]⟩ ⟨#[]⟩ ⟨#[]⟩ pa ca args ps cs sub) = true
theorem good_args {D : Nat} {kd op : Int} {no : Bool} {m : Nat} (h1 : 3 ≤ kd) (h2 : kd ≤ 7) (hm : m = argN kd) (hop : kd = 5 → 1 ≤ op ∧ op ≤ 13) (hop0 : kd ≠ 5 → op = 0) (hno : kd ≠ 6 → no = false) :
    ∀ pa ca args, args.length = m → (∀ a ∈ args, vE D a = true) → vOf (vE D) (.mk kd op no 0 0 ⟨#[]⟩ ⟨#[]⟩ ⟨#[]⟩ pa ca args none 0 []) = true :=
  fun _ _ _ hl hV => vOf_args h1 h2 (hl.trans hm) hop hop0 hno hV
theorem good_sub {D : Nat} {kd : Int} {ps : Option Addr} {cs : Nat} {q : Qu} (h1 : 8 ≤ kd) (h2 : kd ≤ 12) (hq : quB (vE D) kd q = true) :
    ∀ pa ca args, args.length = 0 → (∀ a ∈ args, vE D a = true) → vOf (vE D) (.mk kd 0 false 0 0 ⟨#[]⟩ ⟨#[]⟩ ⟨#[]⟩ pa ca args ps cs [q]) = true := by
  intro pa ca args hl _
  obtain rfl := List.eq_nil_of_length_eq_zero hl
  refine vOf_iff.2 ⟨by show 1 ≤ kd; omega, h2, by show 0 = argN kd; unfold argN; rw [if_neg (by omega), if_neg (by omega), if_neg (by omega)], by show 1 = subN kd; unfold subN; rw [if_pos ⟨h1, h2⟩], fun h => by have h : kd = 5 := h; omega, fun _ => rfl, fun _ => rfl, fun h => by have h : kd = 1 := h; omega, fun h => by have h : kd = 2 := h; omega,
    fun _ _ => ⟨plain_none rfl rfl rfl rfl rfl, (fun a ha => by cases ha), fun q' hq' => by obtain rfl := List.mem_singleton.1 hq'; exact hq⟩⟩
/-- A cell of a box is set. -/
theorem ExB.setOp {u : World} {X : Nat} {kd op : Int} {no : Bool} {ps : Option Addr} {cs : Nat} {sub : List Qu} (h : ExB u X (bareEx kd op no ps cs sub)) (op' : Int) : ExB (u.setCell ⟨X, 1, none⟩ (.int .i64 op')) X (bareEx kd op' no ps cs sub) := by
  obtain ⟨hl, c0, c1, c2, c3, c4, c5, c6, c7, c8, c9, fz⟩ := h
  refine ⟨by simpa [World.setCell] using hl, ?_, ?_, ?_, ?_, ?_, ?_, ?_, ?_, ?_, ?_, fun o => by rw [World.frozen?_setCell]; exact fz o⟩
  all_goals simp only [Ex.mk_k, Ex.mk_op, Ex.mk_no, Ex.mk_vk, Ex.mk_vi, Ex.mk_vt, Ex.mk_tb, Ex.mk_nm, Ex.mk_pa, Ex.mk_ca, Ex.mk_args, Ex.mk_ps, Ex.mk_cs, Ex.mk_sub] at *
  all_goals go_simp
theorem ExB.setNo {u : World} {X : Nat} {kd op : Int} {no : Bool} {ps : Option Addr} {cs : Nat} {sub : List Qu} (h : ExB u X (bareEx kd op no ps cs sub)) (no' : Bool) : ExB (u.setCell ⟨X, 2, none⟩ (.bool no')) X (bareEx kd op no' ps cs sub) := by
  obtain ⟨hl, c0, c1, c2, c3, c4, c5, c6, c7, c8, c9, fz⟩ := h
  refine ⟨by simpa [World.setCell] using hl, ?_, ?_, ?_, ?_, ?_, ?_, ?_, ?_, ?_, ?_, fun o => by rw [World.frozen?_setCell]; exact fz o⟩
  all_goals simp only [Ex.mk_k, Ex.mk_op, Ex.mk_no, Ex.mk_vk, Ex.mk_vi, Ex.mk_vt, Ex.mk_tb, Ex.mk_nm, Ex.mk_pa, Ex.mk_ca, Ex.mk_args, Ex.mk_ps, Ex.mk_cs, Ex.mk_sub] at *
  all_goals go_simp
theorem ExB.setSub {u : World} {X : Nat} {kd op : Int} {no : Bool} {ps : Option Addr} {cs : Nat} {sub : List Qu} (h : ExB u X (bareEx kd op no ps cs sub)) (p : Option Addr) (c : Nat) (q : Qu) : ExB (u.setCell ⟨X, 9, none⟩ (.slice p 1 c)) X (bareEx kd op no p c [q]) := by
  obtain ⟨hl, c0, c1, c2, c3, c4, c5, c6, c7, c8, c9, fz⟩ := h
  refine ⟨by simpa [World.setCell] using hl, ?_, ?_, ?_, ?_, ?_, ?_, ?_, ?_, ?_, ?_, fun o => by rw [World.frozen?_setCell]; exact fz o⟩
  all_goals simp only [Ex.mk_k, Ex.mk_op, Ex.mk_no, Ex.mk_vk, Ex.mk_vi, Ex.mk_vt, Ex.mk_tb, Ex.mk_nm, Ex.mk_pa, Ex.mk_ca, Ex.mk_args, Ex.mk_ps, Ex.mk_cs, Ex.mk_sub, List.length_singleton] at *
  all_goals go_simp
/-- A query that is made in the box Y. -/
structure QbAt (b X Y D : Nat) (w : World) (kd : Int) (fr : ByteArray) (pi : Option Addr) (ci : Nat) (items : List Ex) (pw : Option Addr) (cw : Nat) (wh : List Ex) (u : World) : Prop where
  an : AnW b w u
  box : ExB u X (bareEx kd 0 false none 0 [])
  xw : w.heap.size < X
  qb : QuBx u Y ⟨kd == 8, pi, ci, items, fr, pw, cw, wh⟩
  yx : X < Y
  frs : fr.size ≤ 9223372036854775807
  its : LAt (fun c => Y < c) u (ExAt (fun c => Y < c) u D) pi items
  whs : LAt (fun c => Y < c) u (ExAt (fun c => Y < c) u D) pw wh
theorem QbAt.next {b X Y D : Nat} {w u v : World} {kd : Int} {fr : ByteArray} {pi : Option Addr} {ci : Nat} {items : List Ex} {pw : Option Addr} {cw : Nat} {wh : List Ex} (h : QbAt b X Y D w kd fr pi ci items pw cw wh u) (hs : StepT b u v) (ht : TapeAt v b) : QbAt b X Y D w kd fr pi ci items pw cw wh v := by
  have hlt := h.an.lt
  have := h.xw
  have := h.yx
  exact ⟨h.an.next hs ht, h.box.step hs (by omega), h.xw, h.qb.step hs (by omega), h.yx, h.frs, h.its.step hs (fun c hc => by omega), h.whs.step hs (fun c hc => by omega)⟩
/-- A literal list of one expression. -/
theorem one_ex {N : Nat → Prop} {u : World} {D : Nat} {E : Ex} (h : ExAt N u D E) (hN : N u.heap.size) (t : TypeId) :
    LAt N (u.alloc (.cells #[.int .i64 E.k, .int .i64 E.op, .bool E.no, .int .i64 E.vk, .int .i64 E.vi, .string E.vt, .string E.tb, .string E.nm, .slice E.pa E.args.length E.ca, .slice E.ps E.sub.length E.cs] t)) (ExAt N (u.alloc (.cells #[.int .i64 E.k, .int .i64 E.op, .bool E.no, .int .i64 E.vk, .int .i64 E.vi, .string E.vt, .string E.tb, .string E.nm, .slice E.pa E.args.length E.ca, .slice E.ps E.sub.length E.cs] t)) D) (some ⟨u.heap.size, 0, none⟩) [E] := by
  intro i hi
  have hi0 : i = 0 := by simpa using hi
  subst hi0
  obtain ⟨hl, c0, c1, c2, c3, c4, c5, c6, c7, c8, c9, -⟩ := ExB.new u E t
  exact ⟨u.heap.size, 0, rfl, hl, hN, ⟨c0, c1, c2, c3, c4, c5, c6, c7, c8, c9⟩, h.low (below_alloc _ _)⟩
theorem QbAt.items {b X Y D : Nat} {w u : World} {kd : Int} {fr : ByteArray} {pi : Option Addr} {ci : Nat} {items : List Ex} {pw : Option Addr} {cw : Nat} {wh : List Ex} (h : QbAt b X Y D w kd fr pi ci items pw cw wh u) {E : Ex} (hE : ExAt (fun c => Y < c) u D E) (t : TypeId) :
    QbAt b X Y D w kd fr (some ⟨u.heap.size, 0, none⟩) 1 [E] pw cw wh ((u.setCell ⟨Y, 1, none⟩ (.slice (some ⟨u.heap.size, 0, none⟩) 1 1)).alloc (.cells #[.int .i64 E.k, .int .i64 E.op, .bool E.no, .int .i64 E.vk, .int .i64 E.vi, .string E.vt, .string E.tb, .string E.nm, .slice E.pa E.args.length E.ca, .slice E.ps E.sub.length E.cs] t)) := by
  rw [← World.setCell_alloc_past _ _ _ _ h.qb.lt]
  have hb := below_alloc u (.cells #[.int .i64 E.k, .int .i64 E.op, .bool E.no, .int .i64 E.vk, .int .i64 E.vi, .string E.vt, .string E.tb, .string E.nm, .slice E.pa E.args.length E.ca, .slice E.ps E.sub.length E.cs] t)
  have hone := one_ex hE h.qb.lt t
  have hq := h.qb.low hb
  have h2 := h.next (StepT.of_below hb) (h.an.tape.below hb)
  generalize u.alloc (.cells #[.int .i64 E.k, .int .i64 E.op, .bool E.no, .int .i64 E.vk, .int .i64 E.vi, .string E.vt, .string E.tb, .string E.nm, .slice E.pa E.args.length E.ca, .slice E.ps E.sub.length E.cs] t) = v at *
  generalize u.heap.size = Z at *
  have hx := (ButX.refl Y v).set 1 none (.slice (some ⟨Z, 0, none⟩) 1 1)
  have := h.xw
  have := h.yx
  have hN : ∀ c, c < v.heap.size → Y < c → c ≠ Y ∧ Y < c := fun c _ hc => ⟨by omega, hc⟩
  refine ⟨h2.an.but hx (by omega), h2.box.but hx (by omega), h.xw, ?_, h.yx, h.frs, hone.but hx hN, h2.whs.but hx hN⟩
  obtain ⟨hl, c0, c1, c2, c3, fz⟩ := hq
  refine ⟨by simpa [World.setCell] using hl, ?_, ?_, ?_, ?_, fun o => by rw [World.frozen?_setCell]; exact fz o⟩
  all_goals simp only [List.length_singleton] at *
  all_goals go_simp
theorem QbAt.wheres {b X Y D : Nat} {w u : World} {kd : Int} {fr : ByteArray} {pi : Option Addr} {ci : Nat} {items : List Ex} {pw : Option Addr} {cw : Nat} {wh : List Ex} (h : QbAt b X Y D w kd fr pi ci items pw cw wh u) {E : Ex} (hE : ExAt (fun c => Y < c) u D E) (t : TypeId) :
    QbAt b X Y D w kd fr pi ci items (some ⟨u.heap.size, 0, none⟩) 1 [E] ((u.setCell ⟨Y, 3, none⟩ (.slice (some ⟨u.heap.size, 0, none⟩) 1 1)).alloc (.cells #[.int .i64 E.k, .int .i64 E.op, .bool E.no, .int .i64 E.vk, .int .i64 E.vi, .string E.vt, .string E.tb, .string E.nm, .slice E.pa E.args.length E.ca, .slice E.ps E.sub.length E.cs] t)) := by
  rw [← World.setCell_alloc_past _ _ _ _ h.qb.lt]
  have hb := below_alloc u (.cells #[.int .i64 E.k, .int .i64 E.op, .bool E.no, .int .i64 E.vk, .int .i64 E.vi, .string E.vt, .string E.tb, .string E.nm, .slice E.pa E.args.length E.ca, .slice E.ps E.sub.length E.cs] t)
  have hone := one_ex hE h.qb.lt t
  have hq := h.qb.low hb
  have h2 := h.next (StepT.of_below hb) (h.an.tape.below hb)
  generalize u.alloc (.cells #[.int .i64 E.k, .int .i64 E.op, .bool E.no, .int .i64 E.vk, .int .i64 E.vi, .string E.vt, .string E.tb, .string E.nm, .slice E.pa E.args.length E.ca, .slice E.ps E.sub.length E.cs] t) = v at *
  generalize u.heap.size = Z at *
  have hx := (ButX.refl Y v).set 3 none (.slice (some ⟨Z, 0, none⟩) 1 1)
  have := h.xw
  have := h.yx
  have hN : ∀ c, c < v.heap.size → Y < c → c ≠ Y ∧ Y < c := fun c _ hc => ⟨by omega, hc⟩
  refine ⟨h2.an.but hx (by omega), h2.box.but hx (by omega), h.xw, ?_, h.yx, h.frs, h2.its.but hx hN, hone.but hx hN⟩
  obtain ⟨hl, c0, c1, c2, c3, fz⟩ := hq
  refine ⟨by simpa [World.setCell] using hl, ?_, ?_, ?_, ?_, fun o => by rw [World.frozen?_setCell]; exact fz o⟩
  all_goals simp only [List.length_singleton] at *
  all_goals go_simp
/-- The query is put into the expression. -/
theorem QbAt.put {b X Y D : Nat} {w u : World} {kd : Int} {fr : ByteArray} {pi : Option Addr} {ci : Nat} {items : List Ex} {pw : Option Addr} {cw : Nat} {wh : List Ex} (h : QbAt b X Y D w kd fr pi ci items pw cw wh u) (h8 : 8 ≤ kd) (h12 : kd ≤ 12) (hli : items.length = itemN kd) (hlw : wh.length ≤ 1) (hfr : srcB fr = true) (hVi : ∀ a ∈ items, vE D a = true) (hVw : ∀ a ∈ wh, vE D a = true) (t : TypeId) :
    SwAt b X D w kd 0 0 false (some ⟨u.heap.size, 0, none⟩) 1 [⟨kd == 8, pi, ci, items, fr, pw, cw, wh⟩] ((u.setCell ⟨X, 9, none⟩ (.slice (some ⟨u.heap.size, 0, none⟩) 1 1)).alloc (.cells #[.bool (kd == 8), .slice pi items.length ci, .string fr, .slice pw wh.length cw] t)) := by
  rw [← World.setCell_alloc_past _ _ _ _ h.box.lt]
  have hb := below_alloc u (.cells #[.bool (kd == 8), .slice pi items.length ci, .string fr, .slice pw wh.length cw] t)
  obtain ⟨hl, c0, c1, c2, c3, -⟩ := QuBx.new u ⟨kd == 8, pi, ci, items, fr, pw, cw, wh⟩ t
  have h2 := h.next (StepT.of_below hb) (h.an.tape.below hb)
  have hZ : Y < u.heap.size := h.qb.lt
  simp only at hl c0 c1 c2 c3
  generalize u.alloc (.cells #[.bool (kd == 8), .slice pi items.length ci, .string fr, .slice pw wh.length cw] t) = v at *
  generalize u.heap.size = Z at *
  have hx := (ButX.refl X v).set 9 none (.slice (some ⟨Z, 0, none⟩) 1 1)
  have := h.xw
  have hyx := h.yx
  have hN : ∀ c, c < v.heap.size → Y < c → c ≠ X ∧ X < c := fun c _ hc => ⟨by omega, by omega⟩
  refine ⟨h2.an.but hx (by omega), h2.box.setSub _ _ _, h.xw, ?_, Nat.le_refl _, Nat.zero_le _, good_sub h8 h12 (quB_mk (by rfl) hli hlw hfr hVi hVw)⟩
  intro i hi
  have hi0 : i = 0 := by simpa using hi
  subst hi0
  refine ⟨Z, 0, rfl, by rw [hx.size]; exact hl, by omega, QuC.keep (u := v) ⟨c0, c1, c2, c3⟩ (hx.block Z (by omega)), ⟨h.frs, ?_, ?_, h2.its.but hx hN, h2.whs.but hx hN⟩⟩
  · show items.length ≤ _; rw [hli]; unfold itemN; split <;> omega
  · show wh.length ≤ _; omega
end Go.Proofs.YtdlehlbahkikgaaDoor
/-
  The arguments that AnyExpr appends.
-/
namespace Go.Proofs.YtdlehlbahkikgaaDoor
set_option maxRecDepth 100000
open Go.RowKit
variable {ls : List Nat}

/-- The cells of an expression, of a list of them. -/
def excs (e : Ex) : List Value := [.int .i64 e.k, .int .i64 e.op, .bool e.no, .int .i64 e.vk, .int .i64 e.vi, .string e.vt, .string e.tb, .string e.nm, .slice e.pa e.args.length e.ca, .slice e.ps e.sub.length e.cs]
def ecells (l : List Ex) : List Value := l.flatMap excs
theorem ecells_length (l : List Ex) : (ecells l).length = l.length * 10 := by
  induction l with
  | nil => rfl
  | cons e l ih => show (excs e ++ ecells l).length = _; rw [List.length_append, ih, List.length_cons]; show 10 + _ = _; omega
theorem ecells_append (a b : List Ex) : ecells (a ++ b) = ecells a ++ ecells b := List.flatMap_append
theorem ecells_single (e : Ex) : ecells [e] = excs e := by unfold ecells; simp
theorem ecells_at (l : List Ex) : ∀ i, i < l.length → ∀ j, j < 10 → (ecells l)[i * 10 + j]? = (excs (eAt l i))[j]? := by
  induction l with
  | nil => intro i hi; simp at hi
  | cons e l ih =>
    intro i hi j hj
    have h0 : ecells (e :: l) = excs e ++ ecells l := rfl
    rw [h0]
    cases i with
    | zero => rw [List.getElem?_append_left (by show 0 * 10 + j < 10; omega), Nat.zero_mul, Nat.zero_add]; rfl
    | succ i =>
      rw [List.getElem?_append_right (by show 10 ≤ _; omega), show (i + 1) * 10 + j - (excs e).length = i * 10 + j by show (i + 1) * 10 + j - 10 = _; omega, ih i (by simpa using hi) j hj]
      rfl
theorem excs_one (e : Ex) : ∀ u ∈ excs e, u.oneCell' = true := by
  intro u hu
  simp only [excs, List.mem_cons, List.not_mem_nil, or_false] at hu
  rcases hu with rfl | rfl | rfl | rfl | rfl | rfl | rfl | rfl | rfl | rfl <;> rfl
theorem ecells_one (l : List Ex) : ∀ u ∈ ecells l, u.oneCell' = true := by
  intro u hu
  obtain ⟨e, -, h⟩ := List.mem_flatMap.1 hu
  exact excs_one e u h
/-- A list that the call owns lies in memory. -/
theorem LAt.own {N : Nat → Prop} {P : Ex → Prop} {u : World} {base n : Nat} {v : Value} {l : List Ex} (h : u.ownsRow base 30 10 v n (ecells l)) (hN : ∀ k, v.ownBlock = some k → N k) (hP : ∀ e ∈ l, P e) :
    ∃ p c, v = .slice p n c ∧ n = l.length ∧ LAt N u P p l ∧ ∀ q, p = some q → base ≤ q.block ∧ q.off = 0 := by
  obtain ⟨hl, h⟩ := h
  rw [ecells_length] at hl
  have hn : n = l.length := by omega
  rcases h with ⟨rfl, h0⟩ | ⟨g, cap, cur, rfl, hg, hh, hcap, hm, hcur, htake⟩
  · refine ⟨none, 0, by rw [h0], hn, fun i hi => by omega, fun q hq => by cases hq⟩
  · refine ⟨_, cap, rfl, hn, fun i hi => ⟨g, 0, rfl, (Array.getElem?_eq_some_iff.1 hh).1, hN g rfl, ?_, hP _ (eAt_mem hi)⟩, fun q hq => by cases hq; exact ⟨hg, rfl⟩⟩
    have key : ∀ j, j < 10 → u.cell? ⟨g, 0 + i * 10 + j, none⟩ = (excs (eAt l i))[j]? := by
      intro j hj
      have hj2 := ecells_at l i hi j hj
      rw [← htake] at hj2
      rw [List.getElem?_take, if_pos (by omega)] at hj2
      rw [← hj2, Nat.zero_add]
      simp [World.cell?, hh]
    exact ⟨key 0 (by decide), key 1 (by decide), key 2 (by decide), key 3 (by decide), key 4 (by decide), key 5 (by decide), key 6 (by decide), key 7 (by decide), key 8 (by decide), key 9 (by decide)⟩
theorem own_nil (u : World) (base : Nat) : u.ownsRow base 30 10 (.slice none 0 0) 0 (ecells []) := ⟨rfl, Or.inl ⟨rfl, rfl⟩⟩
/-- The cells of a new literal list. -/
theorem news_of {u : World} {X : Nat} {e : Ex} (h : ExB u X e) : ∀ j v, (excs e)[j]? = some v → u.cell? ((⟨X, 0, none⟩ : Addr).add j) = some v := by
  intro j v hj
  have hlt : j < 10 := (List.getElem?_eq_some_iff.1 hj).1
  have hadd : (⟨X, 0, none⟩ : Addr).add j = ⟨X, j, none⟩ := by unfold Addr.add; split <;> simp_all
  rw [hadd, ← hj]
  have h10 : j = 0 ∨ j = 1 ∨ j = 2 ∨ j = 3 ∨ j = 4 ∨ j = 5 ∨ j = 6 ∨ j = 7 ∨ j = 8 ∨ j = 9 := by omega
  rcases h10 with rfl | rfl | rfl | rfl | rfl | rfl | rfl | rfl | rfl | rfl
  · exact h.c0
  · exact h.c1
  · exact h.c2
  · exact h.c3
  · exact h.c4
  · exact h.c5
  · exact h.c6
  · exact h.c7
  · exact h.c8
  · exact h.c9
abbrev NOwn (X : Nat) (gb : Option Nat) : Nat → Prop := fun c => X < c ∧ gb ≠ some c
/-- An expression with the arguments so far. -/
abbrev argsEx (kd op : Int) (no : Bool) (vp : Option Addr) (vc : Nat) (args : List Ex) (ps : Option Addr) (cs : Nat) (sub : List Qu) : Ex := .mk kd op no 0 0 ⟨#[]⟩ ⟨#[]⟩ ⟨#[]⟩ vp vc args ps cs sub
structure LpAt (b X D : Nat) (w : World) (kd op : Int) (no : Bool) (ps : Option Addr) (cs : Nat) (sub : List Qu) (vp : Option Addr) (vc : Nat) (args : List Ex) (u : World) : Prop where
  an : AnW b w u
  box : ExB u X (argsEx kd op no vp vc args ps cs sub)
  xw : w.heap.size < X
  own : u.ownsRow (X + 1) 30 10 (.slice vp args.length vc) args.length (ecells args)
  arg : ∀ a ∈ args, ExAt (NOwn X (Value.slice vp args.length vc).ownBlock) u D a
  subs : QAt (NOwn X (Value.slice vp args.length vc).ownBlock) u (ExAt (NOwn X (Value.slice vp args.length vc).ownBlock) u D) ps sub
  vals : ∀ a ∈ args, vE D a = true
section
variable {b X D : Nat} {w u v : World} {kd op : Int} {no : Bool} {ps : Option Addr} {cs : Nat} {sub : List Qu} {vp : Option Addr} {vc : Nat} {args : List Ex}
theorem LpAt.next (h : LpAt b X D w kd op no ps cs sub vp vc args u) (hs : StepT b u v) (ht : TapeAt v b) : LpAt b X D w kd op no ps cs sub vp vc args v := by
  have hlt := h.an.lt
  have hxw := h.xw
  exact ⟨h.an.next hs ht, h.box.step hs (by omega), h.xw, owns_step h.own (by omega) hs, fun a ha => (h.arg a ha).step hs (fun c hc => by have := hc.1; omega), h.subs.step hs (fun c hc => by have := hc.1; omega), h.vals⟩
theorem LpAt.low (h : LpAt b X D w kd op no ps cs sub vp vc args u) (hb : Below u.heap.size u v) : LpAt b X D w kd op no ps cs sub vp vc args v := h.next (StepT.of_below hb) (h.an.tape.below hb)
/-- An expression that was made since may be appended. -/
theorem LpAt.new (h : LpAt b X D w kd op no ps cs sub vp vc args u) {E : Ex} (hE : ExAt (fun c => u.heap.size < c) v D E) : ExAt (NOwn X (Value.slice vp args.length vc).ownBlock) v D E :=
  hE.weak fun c _ hc => ⟨Nat.lt_trans h.box.lt hc, fun e => by have := owns_lt h.own c e; omega⟩
theorem LpAt.push {x w8 : World} (h : LpAt b X D w kd op no ps cs sub vp vc args x) {E : Ex} (hE : ExAt (NOwn X (Value.slice vp args.length vc).ownBlock) x D E) (hV : vE D E = true) {g cap : Nat}
    (hown : w8.ownsRow (X + 1) 30 10 (.slice (some ⟨g, 0, none⟩) (args.length + 1) cap) (args.length + 1) (ecells args ++ excs E)) (hg : x.grownBy w8 (Value.slice vp args.length vc).ownBlock) (hat : (Value.slice vp args.length vc).ownBlock = some g ∨ g = x.heap.size) :
    ExB w8 X (argsEx kd op no vp vc args ps cs sub) ∧ LpAt b X D w kd op no ps cs sub (some ⟨g, 0, none⟩) cap (args ++ [E]) (w8.setCell ⟨X, 8, none⟩ (.slice (some ⟨g, 0, none⟩) (args.length + 1) cap)) := by
  have hxw := h.xw
  have hlt := h.an.lt
  have hob : ∀ k, (Value.slice vp args.length vc).ownBlock = some k → X + 1 ≤ k := fun k hk => owns_block h.own k hk
  have hbx : ExB w8 X (argsEx kd op no vp vc args ps cs sub) := h.box.keep hg.size (hg.block X h.box.lt fun e => by have := hob X e.symm; omega)
  have hlen : (args ++ [E]).length = args.length + 1 := by simp
  refine ⟨hbx, ?_⟩
  have hset := (ButX.refl X w8).set 8 none (.slice (some ⟨g, 0, none⟩) (args.length + 1) cap)
  have hN : ∀ c, c < x.heap.size → NOwn X (Value.slice vp args.length vc).ownBlock c → (w8.setCell ⟨X, 8, none⟩ (.slice (some ⟨g, 0, none⟩) (args.length + 1) cap)).heap[c]? = x.heap[c]? ∧ NOwn X (Value.slice (some ⟨g, 0, none⟩) (args.length + 1) cap).ownBlock c := by
    intro c hc hn
    refine ⟨(hset.block c (by have := hn.1; omega)).trans (hg.block c hc fun e => hn.2 e.symm), hn.1, fun e => ?_⟩
    obtain rfl : g = c := Option.some.inj e
    rcases hat with h1 | h1
    · exact hn.2 h1
    · omega
  have hz : x.heap.size ≤ (w8.setCell ⟨X, 8, none⟩ (.slice (some ⟨g, 0, none⟩) (args.length + 1) cap)).heap.size := by rw [hset.size]; exact hg.size
  have hst : StepT b w w8 := ⟨hg.os.trans h.an.step.os, hg.tape.trans h.an.step.tape, hg.output.trans h.an.step.output, Nat.le_trans h.an.step.size hg.size, fun k hk hkb => (hg.block k (Nat.lt_of_lt_of_le hk h.an.step.size) fun e => by have := hob k e.symm; omega).trans (h.an.step.block k hk hkb)⟩
  have htp : TapeAt w8 b := h.an.tape.keep (fun k hk => hg.block k (by have := h.an.tape.lt; omega) fun e => by have := hob k e.symm; omega) hg.size
  have hrs : ExB w8 w.heap.size ex0 := h.an.res.keep hg.size (hg.block _ h.an.res.lt fun e => by have := hob _ e.symm; omega)
  refine ⟨AnW.but ⟨htp, hst, hrs, h.an.lt⟩ hset hxw, ?_, hxw, ?_, ?_, ?_, ?_⟩
  · obtain ⟨hl, c0, c1, c2, c3, c4, c5, c6, c7, c8, c9, fz⟩ := hbx
    refine ⟨by simpa [World.setCell] using hl, ?_, ?_, ?_, ?_, ?_, ?_, ?_, ?_, ?_, ?_, fun o => by rw [World.frozen?_setCell]; exact fz o⟩
    all_goals simp only [Ex.mk_k, Ex.mk_op, Ex.mk_no, Ex.mk_vk, Ex.mk_vi, Ex.mk_vt, Ex.mk_tb, Ex.mk_nm, Ex.mk_pa, Ex.mk_ca, Ex.mk_args, Ex.mk_ps, Ex.mk_cs, Ex.mk_sub, hlen] at *
    all_goals go_simp
  · rw [hlen, ecells_append, ecells_single]
    exact owns_keep hown fun k hk => hset.block k (by have := owns_block hown k hk; omega)
  · rw [hlen]
    intro a ha
    rcases List.mem_append.1 ha with ha | ha
    · exact ExAt.keep hz hN D a (h.arg a ha)
    · obtain rfl := List.mem_singleton.1 ha
      exact ExAt.keep hz hN D a hE
  · rw [hlen]
    exact QAt.keep h.subs hz hN fun e he => ExAt.keep hz hN D e he
  · intro a ha
    rcases List.mem_append.1 ha with ha | ha
    · exact h.vals a ha
    · obtain rfl := List.mem_singleton.1 ha; exact hV
/-- All arguments are there: the tree. -/
theorem LpAt.tree (h : LpAt b X D w kd op no ps cs sub vp vc args u) (hl : args.length ≤ 3) (hs : sub.length ≤ 1) : ExAt (fun c => X < c) u (D + 1) (argsEx kd op no vp vc args ps cs sub) := by
  obtain ⟨p, c, hv, -, hA, -⟩ := LAt.own (N := fun c => X < c) (P := ExAt (fun c => X < c) u D) h.own (fun k hk => by have := owns_block h.own k hk; omega) (fun e he => (h.arg e he).weak fun c _ hc => hc.1)
  injection hv with h1 h2 h3
  subst h1
  have e0 : (⟨#[]⟩ : ByteArray).size ≤ 9223372036854775807 := by decide
  exact ⟨e0, e0, e0, by show args.length ≤ _; omega, by show sub.length ≤ _; omega, hA, h.subs.weak fun c _ hc => hc.1⟩
end
end Go.Proofs.YtdlehlbahkikgaaDoor
/-
  AnyExpr of the tape gives well-formed trees.
-/
namespace Go.Proofs.YtdlehlbahkikgaaDoor
set_option maxRecDepth 100000
open Go.RowKit
variable {ls : List Nat}

/-- AnyExpr for depths below D. -/
def AnyDoes (ls : List Nat) (D : Nat) : Prop := ∀ (b : Nat) (depth : Int) (w : World), depth < D → -1000 ≤ depth → 4 ≤ b → TapeAt w b → Env ls w →
    Calls Tryd.prog 6 #[.pointer (some ⟨b, 0, none⟩), .int .i64 depth] w (AExPost b D w)
theorem leaf_end {b D : Nat} {w u : World} {E : Ex} (hW : AnW b w u) (hE : ∀ v, ExAt (fun c => w.heap.size < c) v D E) (hV : vE D E = true) {v : World} (hb : ButX w.heap.size u v) {e : Ending} (he : e = .returned (exV E)) : AExPost b D w e v :=
  ⟨E, he, hE v, hV, hW.tape.but hb hW.lt, hW.step.but hb (Nat.le_refl _)⟩
theorem tree_end {b X D : Nat} {w u : World} {E : Ex} (hW : AnW b w u) (hE : ExAt (fun c => X < c) u D E) (hX : w.heap.size < X) (hV : vE D E = true) {v : World} (hb : ButX w.heap.size u v) {e : Ending} (he : e = .returned (exV E)) : AExPost b D w e v :=
  ⟨E, he, hE.but hb fun c _ hc => ⟨by omega, by omega⟩, hV, hW.tape.but hb hW.lt, hW.step.but hb (Nat.le_refl _)⟩
set_option maxHeartbeats 4000000 in
theorem anyExpr_step {D : Nat} (hD : D ≤ 100) (H : 1 ≤ D → AnyDoes ls D) (hn : 0 ∈ ls) (hlw : 3 ∈ ls) : AnyDoes ls (D + 1) := by
  intro b depth w hd hd2 h8 ht hE
  have hlt := ht.lt
  have hW0 : AnW b w (w.alloc (.cells #[.int .i64 0, .int .i64 0, .bool false, .int .i64 0, .int .i64 0, .string ⟨#[]⟩, .string ⟨#[]⟩, .string ⟨#[]⟩, .slice none 0 0, .slice none 0 0] 30)) :=
    ⟨ht.alloc _, (StepT.refl b w).alloc _, ExB.new w ex0 _, hlt⟩
  have HW0 := Lib.hid hW0
  have HE := Lib.hid hE
  have hb4 : b ≠ 3 := Nat.ne_of_gt (Nat.lt_of_lt_of_le (show 3 < 4 by decide) h8)
  have HD := Lib.hid H
  clear hW0 hE ht H
  go_enter Tryd.func6, Tryd.ntmps6
  go_wp2_with fail
  refine (next_any b _ _ (by omega) (by omega) HW0.out.tape).mono ?_
  rintro e w1 ⟨r, rfl, hr0, hr1, ht1, hs1⟩
  have HW1 := Lib.hid (HW0.out.next hs1 ht1)
  clear hs1 ht1 HW0
  rcases (show depth ≤ 0 ∨ (0 < depth ∧ r ≤ 1) ∨ (0 < depth ∧ 2 ≤ r) by omega) with h0 | ⟨h0, h1⟩ | ⟨h0, h1⟩
  · have e1 : decide (depth ≤ 0) = true := decide_eq_true h0
    go_wp2_with fail
    refine (tbool_any b 2 _ (by omega) (by omega) HW1.out.tape).mono ?_
    rintro e w2 ⟨q1, rfl, ht2, hs2⟩
    have HW2 := Lib.hid (HW1.out.next hs2 ht2)
    clear hs2 ht2 HW1
    cases q1
    · have HE2 := Lib.hid (HE.out.step HW2.out.step h8)
      go_wp2_with fail
      refine (value_any b _ hb4 HW2.out.tape (HE2.out.words hlw)).mono ?_
      rintro e w3 ⟨k, n, sv, rfl, hv, -, ht3, hs3⟩
      have HV := Lib.hid hv
      have HW3 := Lib.hid (HW2.out.next hs3 ht3)
      clear hv hs3 ht3 HW2
      have hsz : sv.size ≤ 9223372036854775807 := by have := HV.out.size; omega
      by_cases hneg : k = 1 ∧ n < 0
      · obtain ⟨rfl, hn0⟩ := hneg
        obtain ⟨yl, y0, y1, y2, yf⟩ := cell3_new w3 (.int .i64 1) (.int .i64 n) (.string sv) 26
        have HW4 := Lib.hid (HW3.out.low (below_alloc w3 (.cells #[.int .i64 1, .int .i64 n, .string sv] 26)))
        go_wp2_with fail
        refine (next_any b _ _ (by omega) (by omega) HW4.out.tape).mono ?_
        rintro e w4 ⟨m, rfl, hm0, hm1, ht4, hs4⟩
        have HW5 := Lib.hid (HW4.out.next hs4 ht4)
        have hbv : w3.heap.size ≠ b := by have := HW3.out.tape.lt; omega
        have hy := (cell3_new w3 (.int .i64 1) (.int .i64 n) (.string sv) 26).step3 hs4 hbv
        have hwl : w.heap.size < w3.heap.size := HW3.out.res.lt
        clear hs4 ht4 yl y0 y1 y2 yf
        obtain ⟨yl, y0, y1, y2, yf⟩ := hy
        have hbx := (ButX.refl w3.heap.size w4).set 1 none (.int .i64 m)
        have HW6 := Lib.hid (HW5.out.but hbx hwl)
        go_wp2_with fail
        refine (lit_agg 1 m sv _).mono ?_
        rintro e w6 ⟨rfl, hb6⟩
        have HW7 := Lib.hid (HW6.out.low hb6)
        have HVL := Lib.hid (show vE (D + 1) (litEx 1 m sv) = true from vOf_lit (by rcases HV.out with ⟨h, -⟩ | ⟨-, -, rfl⟩ | ⟨h, -⟩ | ⟨h, -⟩ <;> first | omega | simp [validB]) hm0)
        clear hb6 HW3 HW4 HW5 HW6 yl y0 y1 y2 yf hbx
        obtain ⟨xl, c0, c1, c2, c3, c4, c5, c6, c7, c8, c9, xf⟩ := HW7.out.res
        go_wp2
        obtain ⟨x0, x1, x2, x3, x4, x5, x6, x7, x8, x9⟩ := set_ten HW7.out.res (.int .i64 1) (.int .i64 0) (.bool false) (.int .i64 1) (.int .i64 m) (.string sv) (.string ⟨#[]⟩) (.string ⟨#[]⟩) (.slice none 0 0) (.slice none 0 0)
        refine bodyPost_ret (v := .agg #[.int .i64 1, .int .i64 0, .bool false, .int .i64 1, .int .i64 m, .string sv, .string ⟨#[]⟩, .string ⟨#[]⟩, .slice none 0 0, .slice none 0 0]) (by simp [results, Tryd.results6, go_sem, x0, x1, x2, x3, x4, x5, x6, x7, x8, x9]) rfl ?_
        exact leaf_end (E := litEx 1 m sv) HW7.out (fun v => ExAt.leaf _ v D 1 0 false 1 m hsz (by decide) (by decide)) HVL.out (but_ten _ _ _ _ _ _ _ _ _ _ _ _) rfl
      · have HVL := Lib.hid (show vE (D + 1) (litEx k n sv) = true from vOf_lit HV.out.valid (by rcases HV.out with ⟨-, rfl, -⟩ | ⟨rfl, -, -⟩ | ⟨-, h, -, -⟩ | ⟨-, rfl, -⟩ <;> omega))
        have HW4 := Lib.hid (HW3.out.low (below_alloc w3 (.cells #[.int .i64 k, .int .i64 n, .string sv] 26)))
        have e5 : (k == 1 && decide (n < 0)) = false := by
          by_cases h : k = 1
          · simp [h] at hneg ⊢; omega
          · simp [h]
        have hval := lit_agg k n sv
        by_cases hk1 : k = 1
        · have e6 : decide (n < 0) = false := decide_eq_false (by omega)
          subst hk1
          go_wp2_with fail
          refine (hval _).mono ?_
          rintro e w6 ⟨rfl, hb6⟩
          have HW7 := Lib.hid (HW4.out.low hb6)
          clear hb6 HW3 HW4
          obtain ⟨xl, c0, c1, c2, c3, c4, c5, c6, c7, c8, c9, xf⟩ := HW7.out.res
          go_wp2
          obtain ⟨x0, x1, x2, x3, x4, x5, x6, x7, x8, x9⟩ := set_ten HW7.out.res (.int .i64 1) (.int .i64 0) (.bool false) (.int .i64 1) (.int .i64 n) (.string sv) (.string ⟨#[]⟩) (.string ⟨#[]⟩) (.slice none 0 0) (.slice none 0 0)
          refine bodyPost_ret (v := .agg #[.int .i64 1, .int .i64 0, .bool false, .int .i64 1, .int .i64 n, .string sv, .string ⟨#[]⟩, .string ⟨#[]⟩, .slice none 0 0, .slice none 0 0]) (by simp [results, Tryd.results6, go_sem, x0, x1, x2, x3, x4, x5, x6, x7, x8, x9]) rfl ?_
          exact leaf_end (E := litEx 1 n sv) HW7.out (fun v => ExAt.leaf _ v D 1 0 false 1 n hsz (by decide) (by decide)) HVL.out (but_ten _ _ _ _ _ _ _ _ _ _ _ _) rfl
        · have e6 : (k == 1) = false := beq_eq_false_iff_ne.2 hk1
          go_wp2_with fail
          refine (hval _).mono ?_
          rintro e w6 ⟨rfl, hb6⟩
          have HW7 := Lib.hid (HW4.out.low hb6)
          clear hb6 HW3 HW4
          obtain ⟨xl, c0, c1, c2, c3, c4, c5, c6, c7, c8, c9, xf⟩ := HW7.out.res
          go_wp2
          obtain ⟨x0, x1, x2, x3, x4, x5, x6, x7, x8, x9⟩ := set_ten HW7.out.res (.int .i64 1) (.int .i64 0) (.bool false) (.int .i64 k) (.int .i64 n) (.string sv) (.string ⟨#[]⟩) (.string ⟨#[]⟩) (.slice none 0 0) (.slice none 0 0)
          refine bodyPost_ret (v := .agg #[.int .i64 1, .int .i64 0, .bool false, .int .i64 k, .int .i64 n, .string sv, .string ⟨#[]⟩, .string ⟨#[]⟩, .slice none 0 0, .slice none 0 0]) (by simp [results, Tryd.results6, go_sem, x0, x1, x2, x3, x4, x5, x6, x7, x8, x9]) rfl ?_
          exact leaf_end (E := litEx k n sv) HW7.out (fun v => ExAt.leaf _ v D 1 0 false k n hsz (by decide) (by decide)) HVL.out (but_ten _ _ _ _ _ _ _ _ _ _ _ _) rfl
    · go_wp2_with fail
      refine (tbool_any b 3 _ (by omega) (by omega) HW2.out.tape).mono ?_
      rintro e w3 ⟨q2, rfl, ht3, hs3⟩
      have HW3 := Lib.hid (HW2.out.next hs3 ht3)
      clear hs3 ht3 HW2
      cases q2
      · go_wp2_with fail
        refine (name_any b _ h8 HW3.out.tape (HE.out.step HW3.out.step h8) hn).mono ?_
        rintro e w4 ⟨i, rfl, hi, ht4, hs4⟩
        have HW4 := Lib.hid (HW3.out.next hs4 ht4)
        have HVL := Lib.hid (show vE (D + 1) (colEx ⟨#[]⟩ (nameS i)) = true from vOf_col qual_none (names_fine ⟨i, hi⟩).1)
        have hsz := (names_fine ⟨i, hi⟩).2
        simp only at hsz
        clear hs4 ht4 HW3
        generalize nameS i = nv at *
        go_wp2_with fail
        refine (col_agg ⟨#[]⟩ nv _).mono ?_
        rintro e w6 ⟨rfl, hb6⟩
        have HW7 := Lib.hid (HW4.out.low hb6)
        clear hb6 HW4
        obtain ⟨xl, c0, c1, c2, c3, c4, c5, c6, c7, c8, c9, xf⟩ := HW7.out.res
        go_wp2
        obtain ⟨x0, x1, x2, x3, x4, x5, x6, x7, x8, x9⟩ := set_ten HW7.out.res (.int .i64 2) (.int .i64 0) (.bool false) (.int .i64 0) (.int .i64 0) (.string ⟨#[]⟩) (.string ⟨#[]⟩) (.string nv) (.slice none 0 0) (.slice none 0 0)
        refine bodyPost_ret (v := .agg #[.int .i64 2, .int .i64 0, .bool false, .int .i64 0, .int .i64 0, .string ⟨#[]⟩, .string ⟨#[]⟩, .string nv, .slice none 0 0, .slice none 0 0]) (by simp [results, Tryd.results6, go_sem, x0, x1, x2, x3, x4, x5, x6, x7, x8, x9]) rfl ?_
        exact leaf_end (E := colEx ⟨#[]⟩ nv) HW7.out (fun v => ExAt.leaf _ v D 2 0 false 0 0 (by decide) (by decide) hsz) HVL.out (but_ten _ _ _ _ _ _ _ _ _ _ _ _) rfl
      · go_wp2_with fail
        refine (next_any b _ _ (by omega) (by omega) (HW3.out.low (below_alloc _ _)).tape).mono ?_
        rintro e w4 ⟨r4, rfl, hr40, hr41, ht4, hs4⟩
        obtain ⟨j, rfl⟩ : ∃ j : Nat, r4 = j := ⟨r4.toNat, by omega⟩
        have hj5 : j < 5 := by omega
        obtain ⟨hq, hql⟩ := qual_at hs4 HW3.out.tape.lt hj5
        have HW4 := Lib.hid ((HW3.out.low (below_alloc _ _)).next hs4 ht4)
        have hqf := quals_fine ⟨j, hj5⟩
        simp only at hqf
        have HQF := Lib.hid hqf
        clear hs4 ht4 HW3 hqf
        generalize qualS j = qv at *
        go_wp2_with fail
        refine (name_any b _ h8 HW4.out.tape (HE.out.step HW4.out.step h8) hn).mono ?_
        rintro e w5 ⟨i, rfl, hi, ht5, hs5⟩
        have HW5 := Lib.hid (HW4.out.next hs5 ht5)
        have HVL := Lib.hid (show vE (D + 1) (colEx qv (nameS i)) = true from vOf_col HQF.out.1 (names_fine ⟨i, hi⟩).1)
        have hsz := (names_fine ⟨i, hi⟩).2
        simp only at hsz
        clear hs5 ht5 HW4 hq hql
        generalize nameS i = nv at *
        go_wp2_with fail
        refine (col_agg qv nv _).mono ?_
        rintro e w6 ⟨rfl, hb6⟩
        have HW7 := Lib.hid (HW5.out.low hb6)
        clear hb6 HW5
        obtain ⟨xl, c0, c1, c2, c3, c4, c5, c6, c7, c8, c9, xf⟩ := HW7.out.res
        go_wp2
        obtain ⟨x0, x1, x2, x3, x4, x5, x6, x7, x8, x9⟩ := set_ten HW7.out.res (.int .i64 2) (.int .i64 0) (.bool false) (.int .i64 0) (.int .i64 0) (.string ⟨#[]⟩) (.string qv) (.string nv) (.slice none 0 0) (.slice none 0 0)
        refine bodyPost_ret (v := .agg #[.int .i64 2, .int .i64 0, .bool false, .int .i64 0, .int .i64 0, .string ⟨#[]⟩, .string qv, .string nv, .slice none 0 0, .slice none 0 0]) (by simp [results, Tryd.results6, go_sem, x0, x1, x2, x3, x4, x5, x6, x7, x8, x9]) rfl ?_
        exact leaf_end (E := colEx qv nv) HW7.out (fun v => ExAt.leaf _ v D 2 0 false 0 0 (by decide) HQF.out.2 hsz) HVL.out (but_ten _ _ _ _ _ _ _ _ _ _ _ _) rfl
  · have e1 : decide (depth ≤ 0) = false := decide_eq_false (by omega)
    have e2 : decide (1 + r ≤ 2) = true := decide_eq_true (by omega)
    go_wp2_with fail
    refine (tbool_any b 2 _ (by omega) (by omega) HW1.out.tape).mono ?_
    rintro e w2 ⟨q1, rfl, ht2, hs2⟩
    have HW2 := Lib.hid (HW1.out.next hs2 ht2)
    clear hs2 ht2 HW1
    cases q1
    · have HE2 := Lib.hid (HE.out.step HW2.out.step h8)
      go_wp2_with fail
      refine (value_any b _ hb4 HW2.out.tape (HE2.out.words hlw)).mono ?_
      rintro e w3 ⟨k, n, sv, rfl, hv, -, ht3, hs3⟩
      have HV := Lib.hid hv
      have HW3 := Lib.hid (HW2.out.next hs3 ht3)
      clear hv hs3 ht3 HW2
      have hsz : sv.size ≤ 9223372036854775807 := by have := HV.out.size; omega
      by_cases hneg : k = 1 ∧ n < 0
      · obtain ⟨rfl, hn0⟩ := hneg
        obtain ⟨yl, y0, y1, y2, yf⟩ := cell3_new w3 (.int .i64 1) (.int .i64 n) (.string sv) 26
        have HW4 := Lib.hid (HW3.out.low (below_alloc w3 (.cells #[.int .i64 1, .int .i64 n, .string sv] 26)))
        go_wp2_with fail
        refine (next_any b _ _ (by omega) (by omega) HW4.out.tape).mono ?_
        rintro e w4 ⟨m, rfl, hm0, hm1, ht4, hs4⟩
        have HW5 := Lib.hid (HW4.out.next hs4 ht4)
        have hbv : w3.heap.size ≠ b := by have := HW3.out.tape.lt; omega
        have hy := (cell3_new w3 (.int .i64 1) (.int .i64 n) (.string sv) 26).step3 hs4 hbv
        have hwl : w.heap.size < w3.heap.size := HW3.out.res.lt
        clear hs4 ht4 yl y0 y1 y2 yf
        obtain ⟨yl, y0, y1, y2, yf⟩ := hy
        have hbx := (ButX.refl w3.heap.size w4).set 1 none (.int .i64 m)
        have HW6 := Lib.hid (HW5.out.but hbx hwl)
        go_wp2_with fail
        refine (lit_agg 1 m sv _).mono ?_
        rintro e w6 ⟨rfl, hb6⟩
        have HW7 := Lib.hid (HW6.out.low hb6)
        have HVL := Lib.hid (show vE (D + 1) (litEx 1 m sv) = true from vOf_lit (by rcases HV.out with ⟨h, -⟩ | ⟨-, -, rfl⟩ | ⟨h, -⟩ | ⟨h, -⟩ <;> first | omega | simp [validB]) hm0)
        clear hb6 HW3 HW4 HW5 HW6 yl y0 y1 y2 yf hbx
        obtain ⟨xl, c0, c1, c2, c3, c4, c5, c6, c7, c8, c9, xf⟩ := HW7.out.res
        go_wp2
        obtain ⟨x0, x1, x2, x3, x4, x5, x6, x7, x8, x9⟩ := set_ten HW7.out.res (.int .i64 1) (.int .i64 0) (.bool false) (.int .i64 1) (.int .i64 m) (.string sv) (.string ⟨#[]⟩) (.string ⟨#[]⟩) (.slice none 0 0) (.slice none 0 0)
        refine bodyPost_ret (v := .agg #[.int .i64 1, .int .i64 0, .bool false, .int .i64 1, .int .i64 m, .string sv, .string ⟨#[]⟩, .string ⟨#[]⟩, .slice none 0 0, .slice none 0 0]) (by simp [results, Tryd.results6, go_sem, x0, x1, x2, x3, x4, x5, x6, x7, x8, x9]) rfl ?_
        exact leaf_end (E := litEx 1 m sv) HW7.out (fun v => ExAt.leaf _ v D 1 0 false 1 m hsz (by decide) (by decide)) HVL.out (but_ten _ _ _ _ _ _ _ _ _ _ _ _) rfl
      · have HVL := Lib.hid (show vE (D + 1) (litEx k n sv) = true from vOf_lit HV.out.valid (by rcases HV.out with ⟨-, rfl, -⟩ | ⟨rfl, -, -⟩ | ⟨-, h, -, -⟩ | ⟨-, rfl, -⟩ <;> omega))
        have HW4 := Lib.hid (HW3.out.low (below_alloc w3 (.cells #[.int .i64 k, .int .i64 n, .string sv] 26)))
        have e5 : (k == 1 && decide (n < 0)) = false := by
          by_cases h : k = 1
          · simp [h] at hneg ⊢; omega
          · simp [h]
        have hval := lit_agg k n sv
        by_cases hk1 : k = 1
        · have e6 : decide (n < 0) = false := decide_eq_false (by omega)
          subst hk1
          go_wp2_with fail
          refine (hval _).mono ?_
          rintro e w6 ⟨rfl, hb6⟩
          have HW7 := Lib.hid (HW4.out.low hb6)
          clear hb6 HW3 HW4
          obtain ⟨xl, c0, c1, c2, c3, c4, c5, c6, c7, c8, c9, xf⟩ := HW7.out.res
          go_wp2
          obtain ⟨x0, x1, x2, x3, x4, x5, x6, x7, x8, x9⟩ := set_ten HW7.out.res (.int .i64 1) (.int .i64 0) (.bool false) (.int .i64 1) (.int .i64 n) (.string sv) (.string ⟨#[]⟩) (.string ⟨#[]⟩) (.slice none 0 0) (.slice none 0 0)
          refine bodyPost_ret (v := .agg #[.int .i64 1, .int .i64 0, .bool false, .int .i64 1, .int .i64 n, .string sv, .string ⟨#[]⟩, .string ⟨#[]⟩, .slice none 0 0, .slice none 0 0]) (by simp [results, Tryd.results6, go_sem, x0, x1, x2, x3, x4, x5, x6, x7, x8, x9]) rfl ?_
          exact leaf_end (E := litEx 1 n sv) HW7.out (fun v => ExAt.leaf _ v D 1 0 false 1 n hsz (by decide) (by decide)) HVL.out (but_ten _ _ _ _ _ _ _ _ _ _ _ _) rfl
        · have e6 : (k == 1) = false := beq_eq_false_iff_ne.2 hk1
          go_wp2_with fail
          refine (hval _).mono ?_
          rintro e w6 ⟨rfl, hb6⟩
          have HW7 := Lib.hid (HW4.out.low hb6)
          clear hb6 HW3 HW4
          obtain ⟨xl, c0, c1, c2, c3, c4, c5, c6, c7, c8, c9, xf⟩ := HW7.out.res
          go_wp2
          obtain ⟨x0, x1, x2, x3, x4, x5, x6, x7, x8, x9⟩ := set_ten HW7.out.res (.int .i64 1) (.int .i64 0) (.bool false) (.int .i64 k) (.int .i64 n) (.string sv) (.string ⟨#[]⟩) (.string ⟨#[]⟩) (.slice none 0 0) (.slice none 0 0)
          refine bodyPost_ret (v := .agg #[.int .i64 1, .int .i64 0, .bool false, .int .i64 k, .int .i64 n, .string sv, .string ⟨#[]⟩, .string ⟨#[]⟩, .slice none 0 0, .slice none 0 0]) (by simp [results, Tryd.results6, go_sem, x0, x1, x2, x3, x4, x5, x6, x7, x8, x9]) rfl ?_
          exact leaf_end (E := litEx k n sv) HW7.out (fun v => ExAt.leaf _ v D 1 0 false k n hsz (by decide) (by decide)) HVL.out (but_ten _ _ _ _ _ _ _ _ _ _ _ _) rfl
    · go_wp2_with fail
      refine (tbool_any b 3 _ (by omega) (by omega) HW2.out.tape).mono ?_
      rintro e w3 ⟨q2, rfl, ht3, hs3⟩
      have HW3 := Lib.hid (HW2.out.next hs3 ht3)
      clear hs3 ht3 HW2
      cases q2
      · go_wp2_with fail
        refine (name_any b _ h8 HW3.out.tape (HE.out.step HW3.out.step h8) hn).mono ?_
        rintro e w4 ⟨i, rfl, hi, ht4, hs4⟩
        have HW4 := Lib.hid (HW3.out.next hs4 ht4)
        have HVL := Lib.hid (show vE (D + 1) (colEx ⟨#[]⟩ (nameS i)) = true from vOf_col qual_none (names_fine ⟨i, hi⟩).1)
        have hsz := (names_fine ⟨i, hi⟩).2
        simp only at hsz
        clear hs4 ht4 HW3
        generalize nameS i = nv at *
        go_wp2_with fail
        refine (col_agg ⟨#[]⟩ nv _).mono ?_
        rintro e w6 ⟨rfl, hb6⟩
        have HW7 := Lib.hid (HW4.out.low hb6)
        clear hb6 HW4
        obtain ⟨xl, c0, c1, c2, c3, c4, c5, c6, c7, c8, c9, xf⟩ := HW7.out.res
        go_wp2
        obtain ⟨x0, x1, x2, x3, x4, x5, x6, x7, x8, x9⟩ := set_ten HW7.out.res (.int .i64 2) (.int .i64 0) (.bool false) (.int .i64 0) (.int .i64 0) (.string ⟨#[]⟩) (.string ⟨#[]⟩) (.string nv) (.slice none 0 0) (.slice none 0 0)
        refine bodyPost_ret (v := .agg #[.int .i64 2, .int .i64 0, .bool false, .int .i64 0, .int .i64 0, .string ⟨#[]⟩, .string ⟨#[]⟩, .string nv, .slice none 0 0, .slice none 0 0]) (by simp [results, Tryd.results6, go_sem, x0, x1, x2, x3, x4, x5, x6, x7, x8, x9]) rfl ?_
        exact leaf_end (E := colEx ⟨#[]⟩ nv) HW7.out (fun v => ExAt.leaf _ v D 2 0 false 0 0 (by decide) (by decide) hsz) HVL.out (but_ten _ _ _ _ _ _ _ _ _ _ _ _) rfl
      · go_wp2_with fail
        refine (next_any b _ _ (by omega) (by omega) (HW3.out.low (below_alloc _ _)).tape).mono ?_
        rintro e w4 ⟨r4, rfl, hr40, hr41, ht4, hs4⟩
        obtain ⟨j, rfl⟩ : ∃ j : Nat, r4 = j := ⟨r4.toNat, by omega⟩
        have hj5 : j < 5 := by omega
        obtain ⟨hq, hql⟩ := qual_at hs4 HW3.out.tape.lt hj5
        have HW4 := Lib.hid ((HW3.out.low (below_alloc _ _)).next hs4 ht4)
        have hqf := quals_fine ⟨j, hj5⟩
        simp only at hqf
        have HQF := Lib.hid hqf
        clear hs4 ht4 HW3 hqf
        generalize qualS j = qv at *
        go_wp2_with fail
        refine (name_any b _ h8 HW4.out.tape (HE.out.step HW4.out.step h8) hn).mono ?_
        rintro e w5 ⟨i, rfl, hi, ht5, hs5⟩
        have HW5 := Lib.hid (HW4.out.next hs5 ht5)
        have HVL := Lib.hid (show vE (D + 1) (colEx qv (nameS i)) = true from vOf_col HQF.out.1 (names_fine ⟨i, hi⟩).1)
        have hsz := (names_fine ⟨i, hi⟩).2
        simp only at hsz
        clear hs5 ht5 HW4 hq hql
        generalize nameS i = nv at *
        go_wp2_with fail
        refine (col_agg qv nv _).mono ?_
        rintro e w6 ⟨rfl, hb6⟩
        have HW7 := Lib.hid (HW5.out.low hb6)
        clear hb6 HW5
        obtain ⟨xl, c0, c1, c2, c3, c4, c5, c6, c7, c8, c9, xf⟩ := HW7.out.res
        go_wp2
        obtain ⟨x0, x1, x2, x3, x4, x5, x6, x7, x8, x9⟩ := set_ten HW7.out.res (.int .i64 2) (.int .i64 0) (.bool false) (.int .i64 0) (.int .i64 0) (.string ⟨#[]⟩) (.string qv) (.string nv) (.slice none 0 0) (.slice none 0 0)
        refine bodyPost_ret (v := .agg #[.int .i64 2, .int .i64 0, .bool false, .int .i64 0, .int .i64 0, .string ⟨#[]⟩, .string qv, .string nv, .slice none 0 0, .slice none 0 0]) (by simp [results, Tryd.results6, go_sem, x0, x1, x2, x3, x4, x5, x6, x7, x8, x9]) rfl ?_
        exact leaf_end (E := colEx qv nv) HW7.out (fun v => ExAt.leaf _ v D 2 0 false 0 0 (by decide) HQF.out.2 hsz) HVL.out (but_ten _ _ _ _ _ _ _ _ _ _ _ _) rfl
  · skip
    have e1 : decide (depth ≤ 0) = false := decide_eq_false (by omega)
    have e2 : decide (1 + r ≤ 2) = false := decide_eq_false (by omega)
    have hD1 : 1 ≤ D := by omega
    have HDD := Lib.hid (HD.out hD1)
    clear HD
    go_upto_block 0 with (fail)
    obtain ⟨kd, hkd⟩ : ∃ kd, 1 + r = kd := ⟨_, rfl⟩
    rw [hkd]
    have hk3 : 3 ≤ kd := by omega
    have hk12 : kd ≤ 12 := by omega
    clear hkd h1 hr0 hr1 e1 e2
    have hbx := below_alloc w1 (.cells #[.int .i64 kd, .int .i64 0, .bool false, .int .i64 0, .int .i64 0, .string ⟨#[]⟩, .string ⟨#[]⟩, .string ⟨#[]⟩, .slice none 0 0, .slice none 0 0] 30)
    have HX2 := Lib.hid (ExB.new w1 (bareEx kd 0 false none 0 []) 30)
    have HW2 := Lib.hid (HW1.out.low hbx)
    have HXW := Lib.hid HW1.out.res.lt
    simp only [Ex.mk_k, Ex.mk_op, Ex.mk_no, Ex.mk_vk, Ex.mk_vi, Ex.mk_vt, Ex.mk_tb, Ex.mk_nm, Ex.mk_pa, Ex.mk_ca, Ex.mk_args, Ex.mk_ps, Ex.mk_cs, Ex.mk_sub, List.length_nil] at HX2
    clear HW1 hbx
    generalize w1.alloc (.cells #[.int .i64 kd, .int .i64 0, .bool false, .int .i64 0, .int .i64 0, .string ⟨#[]⟩, .string ⟨#[]⟩, .string ⟨#[]⟩, .slice none 0 0, .slice none 0 0] 30) = w2 at *
    generalize w1.heap.size = X at *
    have hXb : X ≠ b := by have := HXW.out; omega
    go_cut [9] from 51 to 94 (fun s9 wx => ∃ (m : Nat) (op : Int) (no : Bool) (ps : Option Addr) (cs : Nat) (sub : List Qu), s9 = .int .i64 m ∧ SwAt b X D w kd m op no ps cs sub wx)
    case first =>
      have hkk : (kd = 3 ∨ kd = 4) ∨ kd = 6 ∨ kd = 5 ∨ kd = 7 ∨ (8 ≤ kd ∧ kd ≤ 9) ∨ 10 ≤ kd := by omega
      rcases hkk with hk | hk | hk | hk | hk | hk
      · rcases hk with rfl | rfl
        all_goals
          go_wp2
          go_meet
          case rel => exact ⟨1, 0, false, none, 0, [], rfl, HW2.out, HX2.out, HXW.out, QAt.nil _ _ _ _, Nat.zero_le _, by decide, good_args (by decide) (by decide) rfl (fun h => absurd h (by decide)) (fun _ => rfl) (fun _ => rfl)⟩
      · subst hk
        go_wp2_with fail
        refine (tbool_any b 2 _ (by omega) (by omega) HW2.out.tape).mono ?_
        rintro e w3 ⟨q1, rfl, ht3, hs3⟩
        have HW3 := Lib.hid (HW2.out.next hs3 ht3)
        have HX3 := Lib.hid (HX2.out.step hs3 hXb)
        clear ht3 hs3
        obtain ⟨xl, x0, x1, x2, x3, x4, x5, x6, x7, x8, x9, xf⟩ := HX3.out
        simp only [Ex.mk_k, Ex.mk_op, Ex.mk_no, Ex.mk_vk, Ex.mk_vi, Ex.mk_vt, Ex.mk_tb, Ex.mk_nm, Ex.mk_pa, Ex.mk_ca, Ex.mk_args, Ex.mk_ps, Ex.mk_cs, Ex.mk_sub, List.length_nil] at x0 x1 x2 x3 x4 x5 x6 x7 x8 x9
        have HW4 := Lib.hid (HW3.out.but ((ButX.refl X w3).set 2 none (.bool q1)) HXW.out)
        have HX4 := Lib.hid (HX3.out.setNo q1)
        go_wp2
        go_meet
        case rel => exact ⟨1, 0, q1, none, 0, [], rfl, HW4.out, HX4.out, HXW.out, QAt.nil _ _ _ _, Nat.zero_le _, by decide, good_args (by decide) (by decide) rfl (fun h => absurd h (by decide)) (fun _ => rfl) (fun h => absurd rfl h)⟩
      · subst hk
        go_wp2_with fail
        refine (next_any b _ _ (by omega) (by omega) HW2.out.tape).mono ?_
        rintro e w3 ⟨n3, rfl, hn0, hn1, ht3, hs3⟩
        have HW3 := Lib.hid (HW2.out.next hs3 ht3)
        have HX3 := Lib.hid (HX2.out.step hs3 hXb)
        clear ht3 hs3
        obtain ⟨xl, x0, x1, x2, x3, x4, x5, x6, x7, x8, x9, xf⟩ := HX3.out
        simp only [Ex.mk_k, Ex.mk_op, Ex.mk_no, Ex.mk_vk, Ex.mk_vi, Ex.mk_vt, Ex.mk_tb, Ex.mk_nm, Ex.mk_pa, Ex.mk_ca, Ex.mk_args, Ex.mk_ps, Ex.mk_cs, Ex.mk_sub, List.length_nil] at x0 x1 x2 x3 x4 x5 x6 x7 x8 x9
        have HW4 := Lib.hid (HW3.out.but ((ButX.refl X w3).set 1 none (.int .i64 (1 + n3))) HXW.out)
        have HX4 := Lib.hid (HX3.out.setOp (1 + n3))
        go_wp2
        go_meet
        case rel => exact ⟨2, 1 + n3, false, none, 0, [], rfl, HW4.out, HX4.out, HXW.out, QAt.nil _ _ _ _, Nat.zero_le _, by decide, good_args (by decide) (by decide) rfl (fun _ => ⟨by omega, by omega⟩) (fun h => absurd rfl h) (fun _ => rfl)⟩
      · subst hk
        go_wp2
        go_meet
        case rel => exact ⟨3, 0, false, none, 0, [], rfl, HW2.out, HX2.out, HXW.out, QAt.nil _ _ _ _, Nat.zero_le _, by decide, good_args (by decide) (by decide) rfl (fun h => absurd h (by decide)) (fun _ => rfl) (fun _ => rfl)⟩
      · skip
        have k3 : (kd == 3) = false := beq_eq_false_iff_ne.2 (by omega)
        have k4 : (kd == 4) = false := beq_eq_false_iff_ne.2 (by omega)
        have k5 : (kd == 5) = false := beq_eq_false_iff_ne.2 (by omega)
        have k6 : (kd == 6) = false := beq_eq_false_iff_ne.2 (by omega)
        have k7 : (kd == 7) = false := beq_eq_false_iff_ne.2 (by omega)
        have k10 : decide (10 ≤ kd) = false := decide_eq_false (by omega)
        go_wp2_with fail
        refine (next_any b _ _ (by omega) (by omega) (HW2.out.low (below_alloc _ _)).tape).mono ?_
        rintro e w3 ⟨r3, rfl, hr30, hr31, ht3, hs3⟩
        obtain ⟨j, rfl⟩ : ∃ j : Nat, r3 = j := ⟨r3.toNat, by omega⟩
        have hj5 : j < 5 := by omega
        obtain ⟨hq, hql⟩ := src_at hs3 HW2.out.tape.lt hj5
        have HW3 := Lib.hid ((HW2.out.low (below_alloc _ _)).next hs3 ht3)
        have HX3 := Lib.hid ((HX2.out.low (below_alloc _ _)).step hs3 hXb)
        have hqf := srcs_fine ⟨j, hj5⟩
        simp only at hqf
        have HQF := Lib.hid hqf
        clear hs3 ht3 HW2 HX2 hqf
        generalize srcS j = fr at *
        have HQ : Hid (QbAt b X w3.heap.size D w kd fr none 0 [] none 0 [] (w3.alloc (.cells #[.bool (kd == 8), .slice none 0 0, .string fr, .slice none 0 0] 34))) := Lib.hid ⟨HW3.out.low (below_alloc _ _), HX3.out.low (below_alloc _ _), HXW.out, QuBx.new w3 ⟨kd == 8, none, 0, [], fr, none, 0, []⟩ _, HX3.out.lt, HQF.out.2, LAt.nil _ _ _ _, LAt.nil _ _ _ _⟩
        clear HW3 HX3
        go_upto_region 18 with (fail)
        clear hq hql
        generalize w3.alloc (.cells #[.bool (kd == 8), .slice none 0 0, .string fr, .slice none 0 0] 34) = w4 at *
        generalize w3.heap.size = Y at *
        go_wp2_with fail
        refine (tbool_any b 2 _ (by omega) (by omega) HQ.out.an.tape).mono ?_
        rintro e w7 ⟨q1, rfl, ht7, hs7⟩
        have HQ3 := Lib.hid (HQ.out.next hs7 ht7)
        clear ht7 hs7 HQ
        cases q1
        · have HS := Lib.hid (HQ3.out.put (by omega) hk12 (by show 0 = itemN kd; unfold itemN; rw [if_neg (by omega)]) (by decide) HQF.out.1 (fun a ha => by cases ha) (fun a ha => by cases ha) 34)
          have HXX := Lib.hid HQ3.out.box
          obtain ⟨yl, y0, y1, y2, y3, yf⟩ := HQ3.out.qb
          simp only [List.length_nil] at y0 y1 y2 y3 HS
          obtain ⟨xl, x0, x1, x2, x3, x4, x5, x6, x7, x8, x9, xf⟩ := HXX.out
          simp only [Ex.mk_k, Ex.mk_op, Ex.mk_no, Ex.mk_vk, Ex.mk_vi, Ex.mk_vt, Ex.mk_tb, Ex.mk_nm, Ex.mk_pa, Ex.mk_ca, Ex.mk_args, Ex.mk_ps, Ex.mk_cs, Ex.mk_sub, List.length_nil] at x0 x1 x2 x3 x4 x5 x6 x7 x8 x9
          go_wp2
          go_meet
          case rel => exact ⟨0, 0, false, _, 1, _, rfl, HS.out⟩
        · skip
          go_wp2_with fail
          refine (HDD.out b (depth - 2) _ (by omega) (by omega) h8 HQ3.out.an.tape (HE.out.step HQ3.out.an.step h8)).mono ?_
          rintro e w5 ⟨E2, rfl, hE5, hV5, ht5, hs5⟩
          have hN5 := hE5.weak (M := fun c => Y < c) (fun c _ hc => Nat.lt_trans HQ3.out.qb.lt hc)
          have HQ3' := Lib.hid (HQ3.out.next hs5 ht5)
          have HQ4 := Lib.hid (HQ3'.out.wheres hN5 30)
          have HVE2 := Lib.hid hV5
          clear hE5 hV5 ht5 hs5 hN5 HQ3
          obtain ⟨yl, y0, y1, y2, y3, yf⟩ := HQ3'.out.qb
          simp only at y0 y1 y2 y3
          dsimp only [exV]
          go_upto_region 20 with (fail)
          clear yl y0 y1 y2 y3 yf HQ3'
          generalize World.alloc _ _ = w8 at *
          have HS := Lib.hid (HQ4.out.put (by omega) hk12 (by show 0 = itemN kd; unfold itemN; rw [if_neg (by omega)]) (Nat.le_refl 1) HQF.out.1 (fun a ha => by cases ha) (by intro a ha; obtain rfl := List.mem_singleton.1 ha; exact HVE2.out) 34)
          have HXX := Lib.hid HQ4.out.box
          obtain ⟨yl, y0, y1, y2, y3, yf⟩ := HQ4.out.qb
          simp only [List.length_singleton] at y0 y1 y2 y3 HS
          obtain ⟨xl, x0, x1, x2, x3, x4, x5, x6, x7, x8, x9, xf⟩ := HXX.out
          simp only [Ex.mk_k, Ex.mk_op, Ex.mk_no, Ex.mk_vk, Ex.mk_vi, Ex.mk_vt, Ex.mk_tb, Ex.mk_nm, Ex.mk_pa, Ex.mk_ca, Ex.mk_args, Ex.mk_ps, Ex.mk_cs, Ex.mk_sub, List.length_nil] at x0 x1 x2 x3 x4 x5 x6 x7 x8 x9
          go_wp2
          go_meet
          case rel => exact ⟨0, 0, false, _, 1, _, rfl, HS.out⟩
      · skip
        have k3 : (kd == 3) = false := beq_eq_false_iff_ne.2 (by omega)
        have k4 : (kd == 4) = false := beq_eq_false_iff_ne.2 (by omega)
        have k5 : (kd == 5) = false := beq_eq_false_iff_ne.2 (by omega)
        have k6 : (kd == 6) = false := beq_eq_false_iff_ne.2 (by omega)
        have k7 : (kd == 7) = false := beq_eq_false_iff_ne.2 (by omega)
        have k10 : decide (10 ≤ kd) = true := decide_eq_true (by omega)
        go_wp2_with fail
        refine (next_any b _ _ (by omega) (by omega) (HW2.out.low (below_alloc _ _)).tape).mono ?_
        rintro e w3 ⟨r3, rfl, hr30, hr31, ht3, hs3⟩
        obtain ⟨j, rfl⟩ : ∃ j : Nat, r3 = j := ⟨r3.toNat, by omega⟩
        have hj5 : j < 5 := by omega
        obtain ⟨hq, hql⟩ := src_at hs3 HW2.out.tape.lt hj5
        have HW3 := Lib.hid ((HW2.out.low (below_alloc _ _)).next hs3 ht3)
        have HX3 := Lib.hid ((HX2.out.low (below_alloc _ _)).step hs3 hXb)
        have hqf := srcs_fine ⟨j, hj5⟩
        simp only at hqf
        have HQF := Lib.hid hqf
        clear hs3 ht3 HW2 HX2 hqf
        generalize srcS j = fr at *
        have HQ : Hid (QbAt b X w3.heap.size D w kd fr none 0 [] none 0 [] (w3.alloc (.cells #[.bool (kd == 8), .slice none 0 0, .string fr, .slice none 0 0] 34))) := Lib.hid ⟨HW3.out.low (below_alloc _ _), HX3.out.low (below_alloc _ _), HXW.out, QuBx.new w3 ⟨kd == 8, none, 0, [], fr, none, 0, []⟩ _, HX3.out.lt, HQF.out.2, LAt.nil _ _ _ _, LAt.nil _ _ _ _⟩
        clear HW3 HX3
        go_upto_region 17 with (fail)
        clear hq hql
        generalize w3.alloc (.cells #[.bool (kd == 8), .slice none 0 0, .string fr, .slice none 0 0] 34) = w4 at *
        generalize w3.heap.size = Y at *
        go_wp2_with fail
        refine (HDD.out b (depth - 2) _ (by omega) (by omega) h8 HQ.out.an.tape (HE.out.step HQ.out.an.step h8)).mono ?_
        rintro e w5 ⟨E1, rfl, hE5, hV5, ht5, hs5⟩
        have hN5 := hE5.weak (M := fun c => Y < c) (fun c _ hc => Nat.lt_trans HQ.out.qb.lt hc)
        have HQ' := Lib.hid (HQ.out.next hs5 ht5)
        have HQ2 := Lib.hid (HQ'.out.items hN5 30)
        have HVE1 := Lib.hid hV5
        clear hE5 hV5 ht5 hs5 hN5 HQ
        obtain ⟨yl, y0, y1, y2, y3, yf⟩ := HQ'.out.qb
        simp only at y0 y1 y2 y3
        dsimp only [exV]
        go_upto_region 18 with (fail)
        clear yl y0 y1 y2 y3 yf HQ'
        generalize World.alloc _ _ = w6 at *
        go_wp2_with fail
        refine (tbool_any b 2 _ (by omega) (by omega) HQ2.out.an.tape).mono ?_
        rintro e w7 ⟨q1, rfl, ht7, hs7⟩
        have HQ3 := Lib.hid (HQ2.out.next hs7 ht7)
        clear ht7 hs7 HQ2
        cases q1
        · have HS := Lib.hid (HQ3.out.put (by omega) hk12 (by show 1 = itemN kd; unfold itemN; rw [if_pos (by omega)]) (by decide) HQF.out.1 (by intro a ha; obtain rfl := List.mem_singleton.1 ha; exact HVE1.out) (fun a ha => by cases ha) 34)
          have HXX := Lib.hid HQ3.out.box
          obtain ⟨yl, y0, y1, y2, y3, yf⟩ := HQ3.out.qb
          simp only [List.length_nil] at y0 y1 y2 y3 HS
          obtain ⟨xl, x0, x1, x2, x3, x4, x5, x6, x7, x8, x9, xf⟩ := HXX.out
          simp only [Ex.mk_k, Ex.mk_op, Ex.mk_no, Ex.mk_vk, Ex.mk_vi, Ex.mk_vt, Ex.mk_tb, Ex.mk_nm, Ex.mk_pa, Ex.mk_ca, Ex.mk_args, Ex.mk_ps, Ex.mk_cs, Ex.mk_sub, List.length_nil] at x0 x1 x2 x3 x4 x5 x6 x7 x8 x9
          go_wp2
          go_meet
          case rel => exact ⟨0, 0, false, _, 1, _, rfl, HS.out⟩
        · skip
          go_wp2_with fail
          refine (HDD.out b (depth - 2) _ (by omega) (by omega) h8 HQ3.out.an.tape (HE.out.step HQ3.out.an.step h8)).mono ?_
          rintro e w5 ⟨E2, rfl, hE5, hV5, ht5, hs5⟩
          have hN5 := hE5.weak (M := fun c => Y < c) (fun c _ hc => Nat.lt_trans HQ3.out.qb.lt hc)
          have HQ3' := Lib.hid (HQ3.out.next hs5 ht5)
          have HQ4 := Lib.hid (HQ3'.out.wheres hN5 30)
          have HVE2 := Lib.hid hV5
          clear hE5 hV5 ht5 hs5 hN5 HQ3
          obtain ⟨yl, y0, y1, y2, y3, yf⟩ := HQ3'.out.qb
          simp only at y0 y1 y2 y3
          dsimp only [exV]
          go_upto_region 20 with (fail)
          clear yl y0 y1 y2 y3 yf HQ3'
          generalize World.alloc _ _ = w8 at *
          have HS := Lib.hid (HQ4.out.put (by omega) hk12 (by show 1 = itemN kd; unfold itemN; rw [if_pos (by omega)]) (Nat.le_refl 1) HQF.out.1 (by intro a ha; obtain rfl := List.mem_singleton.1 ha; exact HVE1.out) (by intro a ha; obtain rfl := List.mem_singleton.1 ha; exact HVE2.out) 34)
          have HXX := Lib.hid HQ4.out.box
          obtain ⟨yl, y0, y1, y2, y3, yf⟩ := HQ4.out.qb
          simp only [List.length_singleton] at y0 y1 y2 y3 HS
          obtain ⟨xl, x0, x1, x2, x3, x4, x5, x6, x7, x8, x9, xf⟩ := HXX.out
          simp only [Ex.mk_k, Ex.mk_op, Ex.mk_no, Ex.mk_vk, Ex.mk_vi, Ex.mk_vt, Ex.mk_tb, Ex.mk_nm, Ex.mk_pa, Ex.mk_ca, Ex.mk_args, Ex.mk_ps, Ex.mk_cs, Ex.mk_sub, List.length_nil] at x0 x1 x2 x3 x4 x5 x6 x7 x8 x9
          go_wp2
          go_meet
          case rel => exact ⟨0, 0, false, _, 1, _, rfl, HS.out⟩
    case rest =>
      obtain ⟨m, op, no, ps, cs, sub, rfl, hS⟩ := hcut
      have HG := Lib.hid hS.good
      have HL1 := Lib.hid hS.lens
      have hm3 := hS.m3
      have hLP : LpAt b X D w kd op no ps cs sub none 0 [] wc := ⟨hS.an, hS.box, hS.xw, own_nil _ _, fun a ha => (by cases ha), hS.subs.weak fun c _ hc => ⟨hc, fun e => by cases e⟩, fun a ha => by cases ha⟩
      have HLP := Lib.hid hLP
      clear hS hLP HW2 HX2
      obtain ⟨i0, hi0, hz0, hs0, hb0⟩ := info_parts info_expr
      go_wp2_with fail
      go_loopw [11] (fun s11 wx => ∃ (vp : Option Addr) (vc : Nat) (args : List Ex), args.length ≤ m ∧ s11 = .int .i64 args.length ∧ LpAt b X D w kd op no ps cs sub vp vc args wx) (fun s11 _ => m - (intOf s11).toNat)
      case atStart => exact ⟨none, 0, [], Nat.zero_le _, rfl, HLP.out⟩
      case round =>
        obtain ⟨vp, vc, args, hla, rfl, hP⟩ := hrel
        have HP := Lib.hid hP
        clear hP HLP
        by_cases hlt2 : args.length < m
        · have hlt' : decide ((args.length : Int) < m) = true := decide_eq_true (by omega)
          go_upto_region 35 with (fail)
          have HPd := Lib.hid (HP.out.low ((Below.refl wr.heap.size wr).drew))
          have HEd := Lib.hid (HE.out.step HPd.out.an.step h8)
          have HCALL := Lib.hid (HDD.out b (depth - 1) wr.drew (by omega) (by omega) h8 HPd.out.an.tape HEd.out)
          obtain ⟨xl, x0, x1, x2, x3, x4, x5, x6, x7, x8, x9, xf⟩ := HPd.out.box
          simp only [Ex.mk_k, Ex.mk_op, Ex.mk_no, Ex.mk_vk, Ex.mk_vi, Ex.mk_vt, Ex.mk_tb, Ex.mk_nm, Ex.mk_pa, Ex.mk_ca, Ex.mk_args, Ex.mk_ps, Ex.mk_cs, Ex.mk_sub] at x0 x1 x2 x3 x4 x5 x6 x7 x8 x9
          have hdw : IntKind.i64.wrap (depth - 1) = depth - 1 := by rw [IntKind.wrap_i64]; omega
          go_region_law (first
            | (go_simp; go_at_call 6; refine HCALL.out.mono ?_; rintro e w5 ⟨E1, rfl, hE5, hV5, ht5, hs5⟩; (have HP5 := Lib.hid (HPd.out.next hs5 ht5)); (have HN5 := Lib.hid (HPd.out.new hE5)); (have HV5 := Lib.hid hV5); clear hE5 hV5 ht5 hs5 xl x0 x1 x2 x3 x4 x5 x6 x7 x8 x9 xf; obtain ⟨xl, x0, x1, x2, x3, x4, x5, x6, x7, x8, x9, xf⟩ := HP5.out.box; simp only [Ex.mk_k, Ex.mk_op, Ex.mk_no, Ex.mk_vk, Ex.mk_vi, Ex.mk_vt, Ex.mk_tb, Ex.mk_nm, Ex.mk_pa, Ex.mk_ca, Ex.mk_args, Ex.mk_ps, Ex.mk_cs, Ex.mk_sub] at x0 x1 x2 x3 x4 x5 x6 x7 x8 x9; dsimp only [exV])
            | (refine step_append_lies _ (by rfl) (.tmp 101) (.tmp 106) 27 (by rfl) (X + 1) 30 i0 _ 10 136 Tryd.underlying27 hi0 hz0 hs0 hb0 rfl (by decide) (.slice vp args.length vc) args.length (ecells args) (by rfl) (HP5.out.low (below_alloc _ _)).own ⟨w5.heap.size, 0, none⟩ 1 1 (excs E1) (by rfl) rfl (news_of (ExB.new w5 E1 _)) (excs_one _) (by omega) (by unfold maxLen; omega) (by omega) (by rw [size_alloc]; have := HP5.out.box.lt; omega) _ rfl ?_; intro g8 c8 w8 hown8 hgr8 hat8 hlt8; obtain ⟨hb8, hp8⟩ := (HP5.out.low (below_alloc _ _)).push (HN5.out.low (below_alloc _ _)) HV5.out hown8 hgr8 hat8; (have HP8 := Lib.hid hp8); clear hown8 hgr8 hat8 hp8 xl x0 x1 x2 x3 x4 x5 x6 x7 x8 x9 xf; obtain ⟨xl, x0, x1, x2, x3, x4, x5, x6, x7, x8, x9, xf⟩ := hb8; simp only [Ex.mk_k, Ex.mk_op, Ex.mk_no, Ex.mk_vk, Ex.mk_vi, Ex.mk_vt, Ex.mk_tb, Ex.mk_nm, Ex.mk_pa, Ex.mk_ca, Ex.mk_args, Ex.mk_ps, Ex.mk_cs, Ex.mk_sub] at x0 x1 x2 x3 x4 x5 x6 x7 x8 x9))
          all_goals
            clear xl x0 x1 x2 x3 x4 x5 x6 x7 x8 x9 xf hlt8 HP5 HN5 HPd HCALL HP
            generalize World.setCell _ _ _ = W9 at HP8 ⊢
            go_wp2
            go_roundw
            case rel => exact ⟨_, _, args ++ [E1], by rw [List.length_append]; show args.length + 1 ≤ m; omega, by rw [List.length_append]; show _ = Value.int .i64 ((args.length + 1 : Nat) : Int); go_num, HP8.out⟩
            case measure => simp [intOf]; omega
        · have hlt' : decide ((args.length : Int) < m) = false := decide_eq_false (by omega)
          have hlm : m = args.length := by omega
          subst hlm
          have HVV := Lib.hid (show vE (D + 1) (argsEx kd op no vp vc args ps cs sub) = true from HG.out vp vc args rfl HP.out.vals)
          have HTR := Lib.hid (HP.out.tree (by omega) HL1.out)
          obtain ⟨xl, x0, x1, x2, x3, x4, x5, x6, x7, x8, x9, xf⟩ := HP.out.box
          simp only [Ex.mk_k, Ex.mk_op, Ex.mk_no, Ex.mk_vk, Ex.mk_vi, Ex.mk_vt, Ex.mk_tb, Ex.mk_nm, Ex.mk_pa, Ex.mk_ca, Ex.mk_args, Ex.mk_ps, Ex.mk_cs, Ex.mk_sub] at x0 x1 x2 x3 x4 x5 x6 x7 x8 x9
          obtain ⟨rl, r0, r1, r2, r3, r4, r5, r6, r7, r8, r9, rf⟩ := HP.out.an.res
          go_wp2
          obtain ⟨y0, y1, y2, y3, y4, y5, y6, y7, y8, y9⟩ := set_ten HP.out.an.res (.int .i64 kd) (.int .i64 op) (.bool no) (.int .i64 0) (.int .i64 0) (.string ⟨#[]⟩) (.string ⟨#[]⟩) (.string ⟨#[]⟩) (.slice vp args.length vc) (.slice ps sub.length cs)
          refine bodyPost_ret (v := .agg #[.int .i64 kd, .int .i64 op, .bool no, .int .i64 0, .int .i64 0, .string ⟨#[]⟩, .string ⟨#[]⟩, .string ⟨#[]⟩, .slice vp args.length vc, .slice ps sub.length cs]) (by simp [results, Tryd.results6, go_sem, y0, y1, y2, y3, y4, y5, y6, y7, y8, y9]) rfl ?_
          exact tree_end (E := argsEx kd op no vp vc args ps cs sub) HP.out.an HTR.out HP.out.xw HVV.out (but_ten _ _ _ _ _ _ _ _ _ _ _ _) rfl
theorem anyExpr_any (hn : 0 ∈ ls) (hlw : 3 ∈ ls) : ∀ D, D ≤ 100 → AnyDoes ls (D + 1)
  | 0, h => anyExpr_step h (fun h => absurd h (by decide)) hn hlw
  | D + 1, h => anyExpr_step h (fun _ => anyExpr_any hn hlw D (by omega)) hn hlw
end Go.Proofs.YtdlehlbahkikgaaDoor
