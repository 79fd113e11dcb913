/-
  Several texts in one.
-/
import Derived.Test.YtgaihglploedaaaProg
import Derived.WalkKit
import Derived.WalkSpells
import Derived.WalkLawsBesides
import Derived.Deep.QuietTactic
import Derived.BigQuiet
import Derived.Lib.Hide
import Derived.Test.YtgaihglploedaaaRows
import Derived.ProofKit
import Derived.OpenShut
import Derived.Deep.DeepHandedRow
import Derived.Lib.LaidTab
import Derived.Lib.LaidU8
import Derived.Lay
import Derived.LaidMore
import Derived.SevenTiedAt
import Derived.MakeChecks
import Derived.Clock
import Derived.Shelf.Vars
import Derived.Stop.LaidErr
/-
  THE TAPE OF THE STATEMENTS' HELPER PACKAGE: what New, Mod, Next, Bool, Word, Number, Typed, Value do.
-/
namespace Go.Proofs.Ytgaihglploedaaa
set_option maxRecDepth 100000
open Go.RowKit

/-- All but block b is as it was, and no block has gone. -/
structure StepT (b : Nat) (w w' : World) : Prop where
  os : w'.os = w.os
  tape : w'.tape = w.tape
  output : w'.output = w.output
  size : w.heap.size ≤ w'.heap.size
  block : ∀ k, k < w.heap.size → k ≠ b → w'.heap[k]? = w.heap[k]?

theorem StepT.refl (b : Nat) (w : World) : StepT b w w := ⟨rfl, rfl, rfl, Nat.le_refl _, fun _ _ _ => rfl⟩
theorem StepT.trans {b : Nat} {u v w : World} (h : StepT b u v) (k : StepT b v w) : StepT b u w :=
  ⟨k.os.trans h.os, k.tape.trans h.tape, k.output.trans h.output, Nat.le_trans h.size k.size, fun i hi hb => (k.block i (Nat.lt_of_lt_of_le hi h.size) hb).trans (h.block i hi hb)⟩

/-- Block b holds a tape: a slice of ints that lies elsewhere, and a place in it. -/
def TapeAt (w : World) (b : Nat) : Prop :=
  ∃ (p : Option Addr) (len cap k : Nat), k ≤ len ∧ len ≤ 500 ∧ w.cell? ⟨b, 0, none⟩ = some (.slice p len cap) ∧ w.cell? ⟨b, 1, none⟩ = some (.int .i64 k) ∧ w.frozen? ⟨b, 1, none⟩ = false ∧ b < w.heap.size
    ∧ ∀ i, i < len → ∃ (c o : Nat) (z : Int), p = some ⟨c, o, none⟩ ∧ c < b ∧ w.cell? ⟨c, o + i, none⟩ = some (.int .i64 z) ∧ -9223372036854775808 ≤ z ∧ z ≤ 9223372036854775807

theorem tmod_range (v n : Int) (hn : 1 ≤ n) : -n < v.tmod n ∧ v.tmod n < n := by
  have h1 := Int.tmod_lt_of_pos v (by omega : 0 < n)
  have h2 := Int.tmod_lt_of_pos (-v) (by omega : 0 < n)
  rw [Int.neg_tmod] at h2
  omega

/-- What Mod computes. -/
def modI (v n : Int) : Int := if v.tmod n < 0 then v.tmod n + n else v.tmod n
theorem modI_range (v n : Int) (hn : 1 ≤ n) : 0 ≤ modI v n ∧ modI v n < n := by
  have := tmod_range v n hn
  unfold modI
  split <;> omega
theorem modI_neg {v n : Int} (h : v.tmod n < 0) : v.tmod n + n = modI v n := by unfold modI; rw [if_pos h]
theorem modI_pos {v n : Int} (h : 0 ≤ v.tmod n) : v.tmod n = modI v n := by unfold modI; rw [if_neg (by omega)]
theorem ret_int {k : IntKind} {a b : Int} (h : a = b) : Ending.returned (.int k a) = .returned (.int k b) := by rw [h]

set_option maxHeartbeats 400000 in
theorem mod_any (v n : Int) (w : World) (hn : 1 ≤ n) (hn2 : n ≤ 100000) :
    Calls Try.prog 6 #[.int .i64 v, .int .i64 n] w fun e w' => e = .returned (.int .i64 (modI v n)) ∧ w' = w := by
  have hm := tmod_range v n hn
  go_enter Try.func6, Try.ntmps6
  go_wp2
  all_goals go_ret
  · exact ⟨ret_int (modI_neg (by assumption)), rfl⟩
  · exact ⟨ret_int (modI_pos (by assumption)), rfl⟩

/-- A draw turns no block; a store into block b turns no other. -/
theorem StepT.drewN {b : Nat} {u v : World} (h : StepT b u v) (n : Nat) : StepT b u (v.drewN n) := ⟨h.os, h.tape, h.output, h.size, h.block⟩
theorem StepT.setCell {b : Nat} {u v : World} (h : StepT b u v) (o : Nat) (f : Option Nat) (x : Value) : StepT b u (v.setCell ⟨b, o, f⟩ x) :=
  h.trans ⟨rfl, rfl, rfl, by simp [World.setCell], fun _ _ hb => Below.heap_setCell _ _ _ _ hb⟩
theorem StepT.below {b : Nat} {u v : World} (h : StepT b u v) {B : Nat} (hB : B ≤ b) (hB' : B ≤ u.heap.size) : Below B u v :=
  ⟨h.os, h.tape, h.output, h.size, fun k hk => h.block k (by omega) (by omega)⟩
theorem StepT.of_below {b : Nat} {u v : World} (h : Below u.heap.size u v) : StepT b u v := ⟨h.os, h.tape, h.output, h.size, fun k hk _ => h.block k hk⟩
theorem StepT.cell {b : Nat} {u v : World} (h : StepT b u v) {p : Addr} (hp : p.block < u.heap.size) (hb : p.block ≠ b) : v.cell? p = u.cell? p := World.cell?_of_block (w := u) (h.block p.block hp hb)
theorem StepT.frozen {b : Nat} {u v : World} (h : StepT b u v) {p : Addr} (hp : p.block < u.heap.size) (hb : p.block ≠ b) : v.frozen? p = u.frozen? p := World.frozen?_of_block (w := u) (h.block p.block hp hb)
/-- A tape stays where no block up to its own is turned. -/
theorem TapeAt.keep {b : Nat} {u v : World} (h : TapeAt u b) (hb : ∀ k, k ≤ b → v.heap[k]? = u.heap[k]?) (hz : u.heap.size ≤ v.heap.size) : TapeAt v b := by
  obtain ⟨p, len, cap, k, hk, hl, h0, h1, hf, hs, hc⟩ := h
  refine ⟨p, len, cap, k, hk, hl, by rw [World.cell?_of_block (w := u) (hb b (Nat.le_refl _))]; exact h0, by rw [World.cell?_of_block (w := u) (hb b (Nat.le_refl _))]; exact h1, by rw [World.frozen?_of_block (w := u) (hb b (Nat.le_refl _))]; exact hf, Nat.lt_of_lt_of_le hs hz, fun i hi => ?_⟩
  obtain ⟨c, o, z, hp, hcb, hz, hz1⟩ := hc i hi
  exact ⟨c, o, z, hp, hcb, by rw [World.cell?_of_block (w := u) (hb c (Nat.le_of_lt hcb))]; exact hz, hz1⟩
theorem TapeAt.lt {w : World} {b : Nat} (h : TapeAt w b) : b < w.heap.size := by
  obtain ⟨p, len, cap, k, hk, hl, h0, h1, hf, hs, hc⟩ := h
  exact hs
theorem TapeAt.below {b : Nat} {u v : World} (h : TapeAt u b) (hb : Below u.heap.size u v) : TapeAt v b :=
  h.keep (fun k hk => hb.block k (Nat.lt_of_le_of_lt hk h.lt)) hb.size
theorem TapeAt.setCell {b : Nat} {u : World} (h : TapeAt u b) {p : Addr} (hp : b < p.block) (x : Value) : TapeAt (u.setCell p x) b :=
  h.keep (fun k hk => Below.heap_setCell _ _ _ _ (by omega)) (by simp [World.setCell])
theorem TapeAt.drewN {b : Nat} {w : World} (h : TapeAt w b) (n : Nat) : TapeAt (w.drewN n) b := h
/-- The place moves on by one. -/
theorem TapeAt.moved {b : Nat} {w : World} {p : Option Addr} {len cap k : Nat} (hk : k < len) (hl : len ≤ 500) (h0 : w.cell? ⟨b, 0, none⟩ = some (.slice p len cap)) (h1 : w.cell? ⟨b, 1, none⟩ = some (.int .i64 k)) (hf : w.frozen? ⟨b, 1, none⟩ = false) (hb : b < w.heap.size)
    (hc : ∀ i, i < len → ∃ (c o : Nat) (z : Int), p = some ⟨c, o, none⟩ ∧ c < b ∧ w.cell? ⟨c, o + i, none⟩ = some (.int .i64 z) ∧ -9223372036854775808 ≤ z ∧ z ≤ 9223372036854775807) :
    TapeAt (w.setCell ⟨b, 1, none⟩ (.int .i64 ((k : Int) + 1))) b := by
  refine ⟨p, len, cap, k + 1, by omega, hl, ?_, ?_, ?_, by simpa [World.setCell] using hb, fun i hi => ?_⟩
  · go_simp
  · go_simp
  · go_simp
  · obtain ⟨c, o, z, hp, hcb, hz, hz1⟩ := hc i hi
    refine ⟨c, o, z, hp, hcb, ?_, hz1⟩
    rw [World.cell?_of_block (w := w) (Below.heap_setCell _ _ _ _ (show c ≠ b by omega))]; exact hz

/-- What one step of the tape leaves. -/
def NextPost (b : Nat) (n : Int) (w : World) (e : Ending) (w' : World) : Prop := ∃ r : Int, e = .returned (.int .i64 r) ∧ 0 ≤ r ∧ r < n ∧ TapeAt w' b ∧ StepT b w w'

/-- What Bool leaves: any answer. -/
def BoolPost (b : Nat) (w : World) (e : Ending) (w' : World) : Prop := ∃ r : Bool, e = .returned (.bool r) ∧ TapeAt w' b ∧ StepT b w w'


/-- The numbers that Number gives. -/
def IsNum (n : Int) : Prop := (9223372036854775805 ≤ n ∧ n ≤ 9223372036854775807) ∨ (-9223372036854775808 ≤ n ∧ n ≤ -9223372036854775806) ∨ (-8 ≤ n ∧ n ≤ 8)
def NumPost (b : Nat) (w : World) (e : Ending) (w' : World) : Prop := ∃ n : Int, e = .returned (.int .i64 n) ∧ IsNum n ∧ TapeAt w' b ∧ StepT b w w'

theorem StepT.alloc {b : Nat} {u v : World} (h : StepT b u v) (o : Obj) : StepT b u (v.alloc o) := h.trans (StepT.of_below ((Below.refl _ _).alloc (Nat.le_refl _) _))
theorem TapeAt.alloc {b : Nat} {w : World} (h : TapeAt w b) (o : Obj) : TapeAt (w.alloc o) b := h.below ((Below.refl _ _).alloc (Nat.le_refl _) _)
/-- What is known of a new block of three cells, behind a step of the tape. -/
theorem new3 {b : Nat} {w w' : World} {x y z : Value} {t : TypeId} (hs : StepT b (w.alloc (.cells #[x, y, z] t)) w') (hb : b < w.heap.size) :
    w'.cell? ⟨w.heap.size, 0, none⟩ = some x ∧ w'.cell? ⟨w.heap.size, 1, none⟩ = some y ∧ w'.cell? ⟨w.heap.size, 2, none⟩ = some z
    ∧ w'.frozen? ⟨w.heap.size, 0, none⟩ = false ∧ w'.frozen? ⟨w.heap.size, 1, none⟩ = false ∧ w'.frozen? ⟨w.heap.size, 2, none⟩ = false ∧ w.heap.size < w'.heap.size := by
  have hz := hs.size
  have hz' : (w.alloc (.cells #[x, y, z] t)).heap.size = w.heap.size + 1 := by simp
  rw [hz'] at hz
  refine ⟨?_, ?_, ?_, ?_, ?_, ?_, by omega⟩
  all_goals (first | rw [hs.cell (by rw [hz']; exact Nat.lt_succ_self _) (by show w.heap.size ≠ b; omega)] | rw [hs.frozen (by rw [hz']; exact Nat.lt_succ_self _) (by show w.heap.size ≠ b; omega)])
  all_goals go_simp
theorem StepT.set2 {b : Nat} {u v : World} (h : StepT b u v) {B : Nat} (hB : u.heap.size ≤ B) (o : Nat) (f : Option Nat) (y : Value) : StepT b u (v.setCell ⟨B, o, f⟩ y) :=
  ⟨h.os, h.tape, h.output, by simpa [World.setCell] using h.size, fun k hk hb => by
    rw [Below.heap_setCell _ _ _ _ (show k ≠ B by omega)]; exact h.block k hk hb⟩
theorem StepT.of_alloc {b : Nat} {u v : World} {o : Obj} (h : StepT b (u.alloc o) v) : StepT b u v := ((StepT.refl b u).trans (StepT.of_below ((Below.refl _ _).alloc (Nat.le_refl _) _))).trans h
end Go.Proofs.Ytgaihglploedaaa
/-
  THE VALUES OF THE TAPE: Typed, Value, New.
-/
namespace Go.Proofs.Ytgaihglploedaaa
set_option maxRecDepth 100000
open Go.RowKit

/-- An argument that is a slice of ints. -/
def IntsAt (w : World) (p : Option Addr) (len : Nat) : Prop :=
  ∀ i, i < len → ∃ (c o : Nat) (z : Int), p = some ⟨c, o, none⟩ ∧ c < w.heap.size ∧ w.cell? ⟨c, o + i, none⟩ = some (.int .i64 z) ∧ -9223372036854775808 ≤ z ∧ z ≤ 9223372036854775807

end Go.Proofs.Ytgaihglploedaaa
/-
  FROM A WALK TO A STATEMENT: what all laws share. The listed variables give the environment; a law that turns nothing old leaves its arguments as they were.
-/
namespace Go.Proofs.Ytgaihglploedaaa
set_option maxRecDepth 100000
open Go.ChangeShapes Go.WideShapes Go.ChangeAt Go.RowKit

theorem own : ownKnob Try.prog.godebug = none := by kernel_rfl
theorem laidOut : laidOutB Try.prog = true := by kernel_rfl

section
variable {H : Type} {enc : TypeId × Value → H} {P : Program}
theorem trodAll_below (hl : laidOutB P = true) {W W' : World} (hb : Below W.heap.size W W') : ∀ (ts : List TypeId) (vs : List Value) (ds : List (DataW H)) (ps : List MemPlace),
    (ts.all fun t => P.readableRec t && decide (t < P.types.size)) = true → DataW.TrodAll enc P W 0 (fun _ => true) true ts vs ds ps → (∀ x ∈ ps, x.block < W.heap.size) →
    DataW.TrodAll enc P W' 0 (fun b => decide (b < W.heap.size)) true ts vs ds ps
  | [], vs, ds, ps, _, h, _ => by
    obtain ⟨rfl, rfl, rfl⟩ := trodAll_nil h
    exact trodAll_mk0
  | t :: ts, vs, ds, ps, hr, h, hp => by
    obtain ⟨v, vs, d, ds, p, q, rfl, rfl, rfl, h1, h2⟩ := trodAll_cons h
    simp only [List.all_cons, Bool.and_eq_true, decide_eq_true_eq] at hr
    exact trodAll_cons_mk (Below.trod hl hr.1.1 hr.1.2 h1 hb (fun x hx => hp x (List.mem_append.2 (Or.inl hx))))
      (trodAll_below hl hb ts vs ds q hr.2 h2 (fun x hx => hp x (List.mem_append.2 (Or.inr hx))))
end

/-- A law that returns true and turns nothing old. -/
theorem law_post {H : Type} {enc : TypeId × Value → H} {s : ChangeSpec} {f : Func} {W W' : World} {args : Array Value} {ds gs : List (DataW H)} {before : List MemPlace}
    (hv : s.vars = []) (hf : f.resultTypes = #[4]) (hr : (f.params.toList.all fun t => Try.prog.readableRec t && decide (t < Try.prog.types.size)) = true)
    (hW : DataW.Whole enc Try.prog f.params.toList s.vars false W args.toList ds gs before)
    (hfn : s.fn H ds = { results := [.lit (.bool true)], args := ds }) (hb : Below W.heap.size W W') :
    s.post enc Try.prog f false true false false W args (.bool true) W' := by
  have hW' := hW
  have hlt := hW.lt
  obtain ⟨p, q, hA, hV, rfl, hfz, hnd⟩ := hW
  rw [hv] at hV
  obtain ⟨rfl, rfl⟩ := trodVars_none hV
  refine ⟨ds, [], p ++ [], [], p, [], hW', ?_, ?_, ?_, hb.frame _, fun h => by cases h⟩
  · rw [List.append_nil, hfn, hf]
    exact trodAll_mk1 (shut_bool Try.underlying4 true)
  · rw [List.append_nil, hfn]
    exact trodAll_below laidOut hb _ _ _ _ hr hA (fun x hx => hlt x (List.mem_append.2 (Or.inl hx)))
  · rw [List.append_nil, hfn, hv]
    rfl

/-- A cell of a listed array of strings. -/
theorem text_cell {W : World} {n : String} {g t : Nat} {l : List (List UInt8)} (hg : Try.prog.globalNamed n = some g) (hty : (Try.prog.globals[g]?).map (·.type) = some t)
    (ht : Try.prog.underlying t = some (.array l.length 9)) (h : Lib.VarReads Try.prog W n (.agg (l.map fun b => .lit (.string b)))) (i : Nat) (hi : i < l.length) :
    W.cell? ⟨g, i, none⟩ = some (.string ⟨(l.getD i []).toArray⟩) := by
  obtain ⟨g', t', cs, fuel, p, hg', ht', hv, hd⟩ := h
  obtain rfl := Option.some.inj (hg.symm.trans hg')
  obtain rfl := Option.some.inj (hty.symm.trans ht')
  obtain ⟨xs, m, _, ex, _, hl, hel⟩ := DataW.trod_array ht hd
  have c9 : Try.prog.cellsOf 9 = 1 := by kernel_rfl
  have hE := hel i hi
  rw [c9, Nat.mul_one, List.getElem?_eq_getElem (by omega)] at hE
  obtain ⟨s, e1, e2, _⟩ := DataW.trod_string Try.underlying9 hE
  have e3 : (xs.map (·.1)) = l.map fun b => .lit (.string b) := (DataW.agg.inj (Prod.mk.inj ex).1).symm
  have e4 : (xs.map (·.1))[i]? = (l.map fun b => (DataW.lit (.string b) : DataW Unit))[i]? := by rw [e3]
  rw [List.getElem?_map, List.getElem?_map, List.getElem?_eq_getElem (by omega : i < xs.length), List.getElem?_eq_getElem hi, e2] at e4
  have hs : s = ⟨(l.getD i []).toArray⟩ := by
    simp only [Option.map_some, Option.some.injEq, DataW.lit.injEq, Lit.string.injEq] at e4
    apply bytes_inj
    rw [e4, List.getD, List.getElem?_eq_getElem hi]; simp
  rw [World.var?_cell hg hv i, ← hs]
  have : cs.toList[i]? = some (.string s) := by
    have h0 : ((cs.toList.drop i).take 1)[0]? = some (.string s) := by rw [e1]; rfl
    simpa using h0
  simpa using this

theorem table_is {W : World} {n : String} {g t : Nat} {k : IntKind} {e : TypeId} {zs : List Int} {d : DataW Unit} (hg : Try.prog.globalNamed n = some g) (hty : (Try.prog.globals[g]?).map (·.type) = some t)
    (ht : Try.prog.underlying t = some (.array zs.length e)) (he : Try.prog.underlying e = some (.int k)) (hce : Try.prog.cellsOf e = 1) (hct : Try.prog.cellsOf t = zs.length) (hd : d = Lib.tabData k zs) (h : Lib.VarReads Try.prog W n d) :
    Lib.TabIs Try.prog W n k zs := by
  subst hd
  obtain ⟨g', t', cs, fuel, p, hg', ht', hv, hd⟩ := h
  obtain rfl := Option.some.inj (hg.symm.trans hg')
  obtain rfl := Option.some.inj (hty.symm.trans ht')
  unfold Lib.TabIs
  rw [hv, ← Lib.cells_of_tab ht he hce hct hd]

/-- A cell of a listed array of arrays of ints. -/
theorem grid_cell {W : World} {n : String} {g t e u : Nat} {k : IntKind} {m c : Nat} {L : List (List Int)} (hg : Try.prog.globalNamed n = some g) (hty : (Try.prog.globals[g]?).map (·.type) = some t)
    (ht : Try.prog.underlying t = some (.array m e)) (he : Try.prog.underlying e = some (.array c u)) (hu : Try.prog.underlying u = some (.int k)) (hce : Try.prog.cellsOf e = c) (hcu : Try.prog.cellsOf u = 1) (hL : ∀ i, i < m → (L.getD i []).length = c)
    (h : Lib.VarReads Try.prog W n (.agg (L.map (Lib.tabData k)))) (i j : Nat) (hi : i < m) (hj : j < c) :
    W.cell? ⟨g, i * c + j, none⟩ = some (.int k ((L.getD i []).getD j 0)) := by
  obtain ⟨g', t', cs, fuel, p, hg', ht', hv, hd⟩ := h
  obtain rfl := Option.some.inj (hg.symm.trans hg')
  obtain rfl := Option.some.inj (hty.symm.trans ht')
  obtain ⟨fuel', d, q, hdi, hx⟩ := Lib.array_elem ht hd i hi
  rw [hce] at hx
  have hil : i < L.length := by
    rw [List.getElem?_map] at hdi
    have := Option.map_eq_some_iff.1 hdi
    obtain ⟨l, hl, -⟩ := this
    exact (List.getElem?_eq_some_iff.1 hl).1
  rw [List.getElem?_map, List.getElem?_eq_getElem hil, Option.map_some, Option.some.injEq] at hdi
  subst hdi
  have hl := hL i hi
  have hLi : L.getD i [] = L[i] := by simp [List.getElem?_eq_getElem hil]
  rw [hLi] at hl ⊢
  have hcs := Lib.cells_of_tab he hu hcu hce hx
  rw [World.var?_cell hg hv (i * c + j), ← Array.getElem?_toList]
  have h1 := congrArg (·[j]?) hcs
  simp only [List.getElem?_take, List.getElem?_drop, if_pos hj] at h1
  rw [h1, List.getElem?_map, List.getElem?_eq_getElem (by omega : j < L[i].length)]
  simp [List.getElem?_eq_getElem (by omega : j < L[i].length)]
end Go.Proofs.Ytgaihglploedaaa
/-
  The listed variables give the environment.
-/
namespace Go.Proofs.Ytgaihglploedaaa
set_option maxRecDepth 100000
open Go.ChangeShapes Go.WideShapes Go.ChangeAt Go.RowKit


end Go.Proofs.Ytgaihglploedaaa
