/-
  Several texts in one.
-/
import Derived.Test.YtlnbpobipmejfaaGreatDoorPk37
import Derived.Test.YtlnbpobipmejfaaGreatDoorPk08
import Derived.Shelf.SlSortCmp.NoneTotal
import Derived.Test.YtlnbpobipmejfaaGreatDoorPk33
import Derived.Deep.AppendLies
/-
  A list of the call's own with the rows in order: slices.SortFunc by its contract.
-/
namespace Go.Proofs.YtlnbpobipmejfaaGreatDoor
set_option maxRecDepth 100000
open Go.RowKit
variable {ls : List Nat}

/-- A row's head: where it lies, and what it holds. -/
structure Hd where
  p : Option Addr
  c : Nat
  l : List Val
def Hd.v (x : Hd) : Value := .slice x.p x.l.length x.c
def HdIn (w : World) (x : Hd) : Prop := RowAt w x.p x.l ∧ x.l.length * 32 ≤ 140737488355328 ∧ (x.p = none → x.l = [] ∧ x.c = 0)
abbrev HdT (w : World) := { x : Hd // HdIn w x }
instance (w : World) : Inhabited (HdT w) := ⟨⟨⟨none, 0, []⟩, ⟨fun i hi => by simp at hi, by simp, fun _ => ⟨rfl, rfl⟩⟩⟩⟩
def HdT.v {w : World} (x : HdT w) : Value := x.1.v
def HdT.l {w : World} (x : HdT w) : List Val := x.1.l
/-- The order of heads. -/
def cfH (w : World) (x y : HdT w) : Int := cmpRow x.l y.l

theorem cmpRow_lt {a b c : List Val} (h : cmpRow a b < 0) (k : cmpRow b c < 0) : cmpRow a c < 0 := by
  have h1 := cmpRow_trans (a := a) (b := b) (c := c) (by omega) (by omega)
  by_cases h0 : cmpRow a c = 0
  · have e := (cmpRow_zero a c).1 h0
    subst e
    have := cmpRow_neg a b
    omega
  · omega
theorem swoH (w : World) : Go.Sort.SWO (ltOf (cfH w)) where
  irrefl x := by
    have := (cmpRow_zero x.l x.l).2 rfl
    simp [ltOf, cfH, this]
  trans x y z h k := decide_eq_true (cmpRow_lt (a := x.l) (b := y.l) (c := z.l) (of_decide_eq_true h) (of_decide_eq_true k))
  ntrans x y z h k := by
    have h1 : ¬ cmpRow x.l y.l < 0 := of_decide_eq_false h
    have h2 : ¬ cmpRow y.l z.l < 0 := of_decide_eq_false k
    refine decide_eq_false (p := cmpRow x.l z.l < 0) ?_
    have h3 := cmpRow_neg x.l y.l
    have h4 := cmpRow_neg y.l z.l
    have h5 := cmpRow_neg x.l z.l
    have := cmpRow_trans (a := z.l) (b := y.l) (c := x.l) (by omega) (by omega)
    omega

/-- The heads of a slice of rows. -/
theorem RowsAt.hds {w : World} {p : Option Addr} {L : List (List Val)} (h : RowsAt w p L) :
    ∃ ys : List (HdT w), ys.map HdT.l = L ∧ ∀ i x, ys[i]? = some x → ∃ c o, p = some ⟨c, o, none⟩ ∧ c < w.heap.size ∧ w.cell? ⟨c, o + i, none⟩ = some x.v := by
  have h' : ∀ i : Fin L.length, ∃ x : HdT w, x.l = L[i] ∧ ∃ c o, p = some ⟨c, o, none⟩ ∧ c < w.heap.size ∧ w.cell? ⟨c, o + i, none⟩ = some x.v := by
    intro i
    obtain ⟨c, o, q, cp, hp, hc, h0, hr, hs, hn⟩ := h i i.2
    rw [rAt_get i.2] at h0 hr hs hn
    exact ⟨⟨⟨q, cp, L[i]⟩, hr, hs, hn⟩, rfl, c, o, hp, hc, h0⟩
  obtain ⟨f, hf⟩ := Classical.axiomOfChoice h'
  refine ⟨List.ofFn f, ?_, fun i x hx => ?_⟩
  · apply List.ext_getElem
    · simp
    · intro i h1 h2
      simp only [List.getElem_map, List.getElem_ofFn]
      exact (hf ⟨i, h2⟩).1
  · rw [List.getElem?_ofFn] at hx
    by_cases hi : i < L.length
    · rw [dif_pos hi] at hx
      obtain rfl := Option.some.inj hx
      exact (hf ⟨i, hi⟩).2
    · rw [dif_neg hi] at hx; cases hx
theorem heads_of_hds {w : World} (ys : List (HdT w)) : HeadsAt w (ys.map HdT.v) (ys.map HdT.l) := by
  refine ⟨by rw [List.length_map, List.length_map], fun i hi => ?_⟩
  rw [List.length_map] at hi
  have e : rAt (ys.map HdT.l) i = ys[i].l := by rw [rAt_get (by rw [List.length_map]; exact hi), List.getElem_map]
  rw [e]
  exact ⟨ys[i].1.p, ys[i].1.c, by rw [List.getElem?_map, List.getElem?_eq_getElem hi]; rfl, ys[i].2.1, ys[i].2.2.1, ys[i].2.2.2⟩

theorem run_append_none_cap {P : Program} {w : World} (base : Nat) (t ty e : TypeId) (i : TypeInfo) (size : Nat) (ht : P.underlying t = some (.slice e)) (hi : P.info? e = some i)
    (v : Value) (n c : Nat) (xs : List Value) (hown : w.ownsRow base e size v n xs) :
    (Builtin.append_ #[t, t] ty #[v, .slice none 0 c]).run P w = .ok v w := by
  rcases hown.2 with ⟨rfl, rfl⟩ | ⟨g, cap, cur, rfl, _, _, hnc, _⟩
  · simp [Builtin.append_, run_underlying ht, sizeOf, typeInfo, hi, Builtin.lenOf, Builtin.firstCells]
  · simp [Builtin.append_, run_underlying ht, sizeOf, typeInfo, hi, Builtin.lenOf, Builtin.firstCells, hnc, storeCells]
/-- Rows that lie in memory are appended. -/
theorem wpList_append_rows {w : World} {ops : Array Oper} {rest : List Oper} {o : Oper} {a : Act} {Q : Exit → Act → World → Prop} (hgd : o.guard = none) (s x : Operand)
    (ho : o.op = .call { callee := .builtin .append, args := #[s, x], argTypes := #[43, 43] })
    (base : Nat) (v : Value) (n : Nat) (xs : List Value) (hs : a.eval s = v) (hown : w.ownsRow base 56 1 v n xs)
    (px : Option Addr) (m cx : Nat) (ys : List Value) (hx : a.eval x = .slice px m cx) (hl : ys.length = m) (hsrc : ∀ i u, ys[i]? = some u → ∃ c o', px = some ⟨c, o', none⟩ ∧ w.cell? ⟨c, o' + i, none⟩ = some u) (h1 : ∀ u ∈ ys, u.oneCell' = true) (hsum : (n + m) * 24 ≤ 140737488355328) (hbase : base ≤ w.heap.size)
    (h : ∀ v' w', w'.ownsRow base 56 1 v' (n + m) (xs ++ ys) → w.grownBy w' v.ownBlock → wpList Tryz.prog ops Q rest (a.put o.dst v') w') : wpList Tryz.prog ops Q (o :: rest) a w := by
  obtain ⟨i0, hi, hz0, hz1, hz2⟩ := info_parts info_row
  cases px with
  | none =>
    have hys : ys = [] := by
      cases ys with
      | nil => rfl
      | cons y ys => obtain ⟨c, o', hp, -⟩ := hsrc 0 y rfl; cases hp
    subst hys
    obtain rfl : 0 = m := hl
    refine wpList_plain hgd fun K hK => ?_
    have hrun := run_append_none_cap (P := Tryz.prog) (w := w) base 43 o.type 56 i0 1 Tryz.underlying43 hi v n cx xs hown
    unfold Oper.wp
    simp [execOp, ho, resolve, invoke, builtin, hs, hx, hrun, Result.andThen]
    exact hK _ _ (h v w (by simpa using hown) (World.grownBy.refl w _))
  | some ad =>
    refine wpList_append_own w hgd s x 43 ho base 56 i0 _ 1 24 Tryz.underlying43 hi hz0 hz1 hz2 rfl (by decide) v n xs hs hown ad m cx ys hx (by rw [hl, Nat.mul_one]) (fun j u hj => ?_) h1 (by unfold maxLen; omega) hsum hbase ?_
    · obtain ⟨c, o', hp, hc⟩ := hsrc j u hj
      obtain rfl := Option.some.inj hp
      rw [show (⟨c, o', none⟩ : Addr).add j = ⟨c, o' + j, none⟩ from by unfold Addr.add; split <;> simp_all]
      exact hc
    · intro v' w' h1 h2 _
      exact h v' w' h1 h2

open Go.Sort in
theorem sortWorld_low {α : Type} [Inhabited α] {enc : α → Value} {w0 w : World} {g m : Nat} {dk : Array α} {os : Array Obj} (hb : Go.RowKit.Below w0.heap.size w0 w) (hg : w0.heap.size ≤ g) : Go.RowKit.Below w0.heap.size w0 (sortWorld enc w g 0 m dk os) := by
  refine hb.trans ⟨rfl, rfl, rfl, ?_, fun k hk => ?_⟩
  · show w.heap.size ≤ (sortWorld enc w g 0 m dk os).heap.size
    unfold sortWorld
    rw [size_grow, size_putRow]
    show w.heap.size ≤ w.heap.size + _
    omega
  · unfold sortWorld
    have hz := hb.size
    rw [heap_grow_old _ _ (by rw [size_putRow]; show k < w.heap.size; omega)]
    show (w.heap.modify g _)[k]? = _
    rw [Array.getElem?_modify, if_neg (by omega)]
open Go.Sort in
/-- The block behind the sort. -/
theorem sortWorld_block {α : Type} [Inhabited α] {enc : α → Value} {w : World} {g m : Nat} {d : Array α} {os : Array Obj} {cur : List Value} {t : TypeId} (hg : w.heap[g]? = some (.cells cur.toArray t (0, 0))) (hd : d.size ≤ cur.length) :
    ∃ cur' : List Value, (sortWorld enc w g 0 m d os).heap[g]? = some (.cells cur'.toArray t (0, 0)) ∧ cur'.length = cur.length ∧ cur'.take d.size = d.toList.map enc := by
  have hlt : g < w.heap.size := (Array.getElem?_eq_some_iff.1 hg).1
  refine ⟨(putCells enc 0 d cur.toArray).toList, ?_, ?_, ?_⟩
  · unfold sortWorld
    rw [heap_grow_old _ _ (by rw [size_putRow]; exact hlt)]
    show (w.heap.modify g _)[g]? = _
    rw [Array.getElem?_modify, if_pos rfl, hg]
    rfl
  · simp [putCells]
  · apply List.ext_getElem?
    intro i
    rw [List.getElem?_take]
    by_cases hi : i < d.size
    · rw [if_pos hi]
      have hc : i < cur.length := by omega
      simp [putCells, hi, hc]
    · rw [if_neg hi, List.getElem?_eq_none (by simp; omega)]

/-- A row of the call's own with the heads of rows that were there before. -/
structure OrdAt (w w' : World) (v : Value) (S : List (List Val)) : Prop where
  low : Below w.heap.size w w'
  row : ∃ xs, w'.ownsRow w.heap.size 56 1 v S.length xs ∧ HeadsAt w xs S
theorem srt_of_hds {w : World} {ys zs : List (HdT w)} {L : List (List Val)} (hy : ys.map HdT.l = L) (hp : zs.Perm ys) (hs : zs.Pairwise (fun x y => ¬ cfH w y x < 0)) : zs.map HdT.l = srt L := by
  refine srt_unique (by rw [← hy]; exact hp.map _) ?_
  unfold Sorted
  rw [List.pairwise_map]
  refine hs.imp fun {x y} h => leR_iff.2 ?_
  unfold cfH at h
  have := cmpRow_neg x.l y.l
  omega

theorem enters_cmp : ∀ args w, (callFunc 77 args).run Tryz.prog w = .ok (.enter 77 args) w := enters_of Tryz.func77 (by kernel_rfl) rfl
set_option maxHeartbeats 1000000 in
theorem sortfunc_any {w w2 : World} {v : Value} {L : List (List Val)} (ys : List (HdT w)) (hy : ys.map HdT.l = L) (hL : L.length ≤ 1000) (hb : Below w.heap.size w w2) (ho : w2.ownsRow w.heap.size 56 1 v L.length (ys.map HdT.v)) :
    Calls Tryz.prog 76 #[v, .func (.func 77) #[] #[]] w2 fun e w' => e = .returned (.tuple #[]) ∧ OrdAt w w' v (srt L) := by
  have hlen : ys.length = L.length := by rw [← hy, List.length_map]
  by_cases h0 : L.length = 0
  · obtain ⟨p, c, rfl⟩ : ∃ p c, v = .slice p 0 c := by
      rcases ho.2 with ⟨rfl, -⟩ | ⟨g, cap, cur, rfl, -⟩
      · exact ⟨none, 0, rfl⟩
      · exact ⟨_, cap, by rw [h0]⟩
    have hS := AnyF.slices_SortFunc_none (P := Tryz.prog) (ρ := Tryz.sortL_ren) { Tryz.sortL with } p c (.func (.func 77) #[] #[]) w2
    refine Calls.mono (show Calls Tryz.prog 76 _ _ _ from hS) ?_
    rintro e w' ⟨rfl, rfl⟩
    obtain rfl : L = [] := List.eq_nil_of_length_eq_zero h0
    have hys : ys = [] := List.eq_nil_of_length_eq_zero (by omega)
    subst hys
    have e0 : srt [] = [] := by simp [srt]
    rw [e0]
    exact ⟨rfl, hb, [], ho, HeadsAt.nil w⟩
  · obtain ⟨g, c, rfl⟩ : ∃ g c, v = .slice (some ⟨g, 0, none⟩) L.length c := by
      rcases ho.2 with ⟨-, h1⟩ | ⟨g, cap, cur, rfl, -⟩
      · exact absurd h1 h0
      · exact ⟨g, cap, rfl⟩
    obtain ⟨cur, hcur, hg, hnc, hm, hl, ht⟩ := own_block ho
    have hglt : g < w2.heap.size := (Array.getElem?_eq_some_iff.1 hcur).1
    have hds : ys.toArray.size = L.length := by simpa using hlen
    have hH : Go.Sort.Holds HdT.v w2 g 0 ys.toArray := by
      intro j hj
      have hj' : j < ys.length := by simpa using hj
      rw [Nat.zero_add]
      refine ⟨?_, Joins.unfrozen_of_block hcur j⟩
      rw [Joins.cell_of_block hcur]
      have : (cur.take L.length)[j]? = (ys.map HdT.v)[j]? := by rw [ht]
      rw [List.getElem?_take, if_pos (by omega), List.getElem?_map, List.getElem?_eq_getElem hj'] at this
      rw [getElem!_pos ys.toArray j hj]
      simpa using this
    have hcmp : CmpLays1 Tryz.prog 77 #[] HdT.v (cfH w) g 0 ys.toArray.size w2 := by
      intro m os dk _ x y
      have hlow := sortWorld_low (enc := HdT.v) (m := m) (dk := dk) (os := os) hb hg
      have hx := x.2.2.1
      have hy := y.2.2.1
      refine Calls.mono (show Calls Tryz.prog 77 _ _ _ from comparerowsG_any x.1.p y.1.p x.1.l y.1.l x.1.c y.1.c _ (by omega) (by omega) (x.2.1.low hlow) (y.2.1.low hlow)) ?_
      rintro e w' ⟨rfl, hgro⟩
      exact ⟨rfl, hgro.eq⟩
    have hS := Any.slices_SortFunc Tryz.sortL HdT.v (fun _ => rfl) (cfH w) (swoH w) 77 #[] g 0 c ys.toArray w2 enters_cmp hcmp hH hglt (by rw [hds]; omega)
    rw [hds] at hS
    refine Calls.mono (show Calls Tryz.prog 76 _ _ _ from hS) ?_
    rintro e w' ⟨rfl, d', n, os, hP, hSo, rfl⟩
    obtain ⟨hsz, -, hperm⟩ := hP
    rw [hds] at hsz
    have e1 : d'.extract 0 L.length = d' := by rw [← hsz]; exact Array.extract_size
    have e2 : ys.toArray.extract 0 L.length = ys.toArray := by rw [← hds]; exact Array.extract_size
    rw [e1, e2] at hperm
    have hsrt : d'.toList.map HdT.l = srt L := by
      refine srt_of_hds hy (by simpa using hperm) ?_
      rw [List.pairwise_iff_getElem]
      intro i j hi hj hij
      have hi' : i < d'.size := by simpa using hi
      have hj' : j < d'.size := by simpa using hj
      have := hSo i j (Nat.zero_le _) hij (by omega)
      rw [getElem!_pos d' j hj', getElem!_pos d' i hi'] at this
      simpa [ltOf] using this
    obtain ⟨cur', hc', hl', ht'⟩ := sortWorld_block (enc := HdT.v) (m := n) (os := os) hcur (d := d') (by omega)
    refine ⟨rfl, sortWorld_low hb hg, d'.toList.map HdT.v, ?_, ?_⟩
    · rw [srt_length]
      exact block_own hc' hg hnc hm (by rw [hl', hl]) (by rw [← hsz]; exact ht') (by simp [hsz])
    · rw [← hsrt]
      exact heads_of_hds _

def OrdPost (L : List (List Val)) (w : World) (e : Ending) (w' : World) : Prop := ∃ v, e = .returned v ∧ OrdAt w w' v (srt L)
theorem hds_one {w : World} (ys : List (HdT w)) : ∀ u ∈ ys.map HdT.v, u.oneCell' = true := by
  intro u hu
  obtain ⟨x, -, rfl⟩ := List.mem_map.1 hu
  rfl
set_option maxHeartbeats 1000000 in
theorem ordered_any (L : List (List Val)) (p : Option Addr) (cap : Nat) (w : World) (hL : L.length ≤ 1000) (hp : RowsAt w p L) :
    Calls Tryz.prog 58 #[.slice p L.length cap] w (OrdPost L w) := by
  obtain ⟨ys, hy, hsrc⟩ := hp.hds
  have hlen : ys.length = L.length := by rw [← hy, List.length_map]
  have HY := Lib.hid hy
  have HSRC : Hid (∀ i u, (ys.map HdT.v)[i]? = some u → ∃ c o', p = some ⟨c, o', none⟩ ∧ w.cell? ⟨c, o' + i, none⟩ = some u) := Lib.hid (by
    intro i u hu
    rw [List.getElem?_map] at hu
    obtain ⟨x, hx, rfl⟩ := Option.map_eq_some_iff.1 hu
    obtain ⟨c, o, h1, -, h2⟩ := hsrc i x hx
    exact ⟨c, o, h1, h2⟩)
  have hown0 : w.ownsRow w.heap.size 56 1 (.slice none 0 0) 0 [] := ⟨rfl, Or.inl ⟨rfl, rfl⟩⟩
  have HO := Lib.hid hown0
  have HLEN : Hid ((ys.map HdT.v).length = L.length) := Lib.hid (by rw [List.length_map]; exact hlen)
  clear hp hy hsrc hown0 hlen
  go_enter Tryz.func58, Tryz.ntmps58
  go_wp2_with (at_builtin; refine wpList_append_rows rfl _ (.tmp 4) rfl w.heap.size _ 0 [] rfl HO.out p L.length cap (ys.map HdT.v) rfl HLEN.out HSRC.out (hds_one ys) (by omega) (Nat.le_refl _) ?_; intro v2 w2 hown2 hgr2; (have HO2 := Lib.hid hown2); (have HB2 := Lib.hid (grown_below (Below.refl w.heap.size w) (Nat.le_refl _) hgr2 (fun k hk => by cases hk))); clear hown2 hgr2)
  have ho2 := HO2.out
  rw [Nat.zero_add, List.nil_append] at ho2
  refine (sortfunc_any ys HY.out hL HB2.out ho2).mono ?_
  rintro e w3 ⟨rfl, hord⟩
  have HORD := Lib.hid hord
  clear hord ho2
  go_wp2
  go_ret
  exact ⟨_, rfl, HORD.out⟩
end Go.Proofs.YtlnbpobipmejfaaGreatDoor
/-
  The small functions of package tuple, SameBag and Count.
-/
namespace Go.Proofs.YtlnbpobipmejfaaGreatDoor
set_option maxRecDepth 100000
open Go.RowKit
variable {ls : List Nat}

set_option maxHeartbeats 1000000 in
theorem copyrow_any (t : List Val) (q : Option Addr) (cp : Nat) (w : World) (hr : RowAt w q t) (hz : t.length * 32 ≤ 140737488355328) (hn : q = none → t = [] ∧ cp = 0) :
    Calls Tryz.prog 59 #[.slice q t.length cp] w (CopyPost t w) := by
  have hown0 : w.ownsRow w.heap.size 55 3 (.slice none 0 0) 0 (vcells []) := ⟨rfl, Or.inl ⟨rfl, rfl⟩⟩
  have HO := Lib.hid hown0
  have HR := Lib.hid hr
  clear hown0 hr
  go_enter Tryz.func59, Tryz.ntmps59
  go_wp2_with (at_builtin; refine wpList_append_vals rfl _ (.tmp 3) rfl w.heap.size _ 0 [] rfl HO.out q t cp rfl HR.out hn (by omega) (Nat.le_refl _) ?_; intro v2 w2 hown2 hgr2)
  go_ret
  rw [Nat.zero_add, List.nil_append] at hown2
  exact ⟨_, rfl, ⟨hown2, hz⟩, grown_below (Below.refl _ _) (Nat.le_refl _) hgr2 (fun k hk => by cases hk)⟩
theorem OrdAt.rows {w w' : World} {v : Value} {S : List (List Val)} (h : OrdAt w w' v S) : ∃ p c, v = .slice p S.length c ∧ RowsAt w' p S ∧ S.length ≤ c := by
  obtain ⟨xs, ho, hH⟩ := h.row
  refine ⟨_, _, (own_src ho).1, rows_of_heads ho (hH.low h.low), ?_⟩
  rcases ho.2 with ⟨rfl, h0⟩ | ⟨g, cap, cur, rfl, -, -, hc, -⟩
  · rw [h0]; exact Nat.zero_le _
  · exact hc
end Go.Proofs.YtlnbpobipmejfaaGreatDoor
/-
  Sort of package tuple.
-/
namespace Go.Proofs.YtlnbpobipmejfaaGreatDoor
set_option maxRecDepth 100000
open Go.RowKit
variable {ls : List Nat}

/-- The list while its rows are copied: G are copies, the rest is as it was. -/
structure SortIn (w u : World) (v : Value) (S : List (List Val)) (xs : List Value) (G : List (Value × List Val)) : Prop where
  own : u.ownsRow w.heap.size 56 1 v S.length (G.map (·.1) ++ xs.drop G.length)
  inn : ∀ z ∈ G, InRow u w.heap.size z
  pre : G.map (·.2) = S.take G.length
  low : Below w.heap.size w u
  heads : HeadsAt w xs S
theorem SortIn.keep {w u u2 : World} {v : Value} {S : List (List Val)} {xs : List Value} {G : List (Value × List Val)} (h : SortIn w u v S xs G) (hb : Below u.heap.size u u2) : SortIn w u2 v S xs G :=
  ⟨owns_below h.own hb, fun z hz => (h.inn z hz).low hb, h.pre, below_next h.low hb, h.heads⟩
/-- The head that is read next. -/
theorem SortIn.read {w u : World} {v : Value} {S : List (List Val)} {xs : List Value} {G : List (Value × List Val)} (h : SortIn w u v S xs G) (hk : G.length < S.length) :
    ∃ (g c : Nat) (q : Option Addr) (cp : Nat), v = .slice (some ⟨g, 0, none⟩) S.length c ∧ g < u.heap.size ∧ u.cell? ⟨g, G.length, none⟩ = some (.slice q (rAt S G.length).length cp) ∧ u.frozen? ⟨g, G.length, none⟩ = false ∧ RowAt w q (rAt S G.length) ∧ (rAt S G.length).length * 32 ≤ 140737488355328 ∧ (q = none → rAt S G.length = [] ∧ cp = 0) := by
  obtain ⟨q, cp, h0, h1, h2, h3⟩ := h.heads.2 G.length hk
  obtain ⟨g, c, rfl⟩ : ∃ g c, v = .slice (some ⟨g, 0, none⟩) S.length c := by
    rcases h.own.2 with ⟨-, hz⟩ | ⟨g, cap, cur, rfl, -⟩
    · omega
    · exact ⟨g, cap, rfl⟩
  obtain ⟨cur, hcur, hg, hnc, hm, hl, ht⟩ := own_block h.own
  refine ⟨g, c, q, cp, rfl, (Array.getElem?_eq_some_iff.1 hcur).1, ?_, Joins.unfrozen_of_block hcur _, h1, h2, h3⟩
  rw [Joins.cell_of_block hcur]
  have : (cur.take S.length)[G.length]? = (G.map (·.1) ++ xs.drop G.length)[G.length]? := by rw [ht]
  rw [List.getElem?_take, if_pos hk, List.getElem?_append_right (by rw [List.length_map]; exact Nat.le_refl _), List.length_map, List.getElem?_drop, Nat.sub_self, Nat.add_zero, h0] at this
  simpa using this
theorem SortIn.put {w u u2 : World} {g c : Nat} {S : List (List Val)} {xs : List Value} {G : List (Value × List Val)} {z : Value × List Val} (h : SortIn w u (.slice (some ⟨g, 0, none⟩) S.length c) S xs G) (hk : G.length < S.length) (hb : Below u.heap.size u u2) (hz : InRow u2 u.heap.size z) (he : z.2 = rAt S G.length) :
    SortIn w (u2.setCell ⟨g, G.length, none⟩ z.1) (.slice (some ⟨g, 0, none⟩) S.length c) S xs (G ++ [z]) ∧ (∃ y, u2.cell? ⟨g, G.length, none⟩ = some y) ∧ u2.frozen? ⟨g, G.length, none⟩ = false := by
  have h2 := h.keep hb
  have hz2 : InRow u2 w.heap.size z := hz.base h.low.size
  obtain ⟨cur, hcur, hg, hnc, hm, hl, ht⟩ := own_block h2.own
  have hap : ∀ x b, InRow u2 b x → InRow (u2.setCell ⟨g, G.length, none⟩ z.1) b x := fun x b hx => hx.apart h2.own fun k hk hne => Below.heap_setCell _ _ _ _ (fun e => hne (by rw [e]; rfl))
  have hset := Joins.block_setCell (i := G.length) hcur z.1
  rw [List.setIfInBounds_toArray] at hset
  have hgl : G.length < cur.length := by omega
  refine ⟨⟨?_, ?_, ?_, h2.low.setCell (by exact hg) _, h.heads⟩, ?_, Joins.unfrozen_of_block hcur _⟩
  · refine block_own hset hg hnc hm (by rw [List.length_set, hl]) ?_ ?_
    · rw [List.take_set, ht, List.length_append, List.length_singleton, List.map_append, List.map_singleton, List.append_assoc]
      rw [List.set_append_right _ _ (by rw [List.length_map]; exact Nat.le_refl _), List.length_map, Nat.sub_self]
      have hx : G.length < xs.length := by rw [h.heads.1]; exact hk
      rw [List.drop_eq_getElem_cons hx]
      rfl
    · have hx := h.heads.1
      rw [List.length_append, List.length_map, List.length_drop, List.length_append, List.length_singleton]
      omega
  · intro x hx
    rcases List.mem_append.1 hx with hx | hx
    · exact hap _ _ (h2.inn x hx)
    · obtain rfl := List.mem_singleton.1 hx
      exact hap _ _ hz2
  · rw [List.map_append, List.map_singleton, List.length_append, List.length_singleton, take_row hk, h.pre, he]
  · rw [Joins.cell_of_block hcur]
    exact ⟨cur[G.length], by rw [List.getElem?_toArray, List.getElem?_eq_getElem]⟩
theorem SortIn.done {w u : World} {v : Value} {S : List (List Val)} {xs : List Value} {G : List (Value × List Val)} (h : SortIn w u v S xs G) (hk : G.length = S.length) : RowsAt u (rowP v) S := by
  have e : G.map (·.2) = S := by rw [h.pre, hk, List.take_length]
  have hx : xs.drop G.length = [] := List.drop_eq_nil_of_le (by rw [h.heads.1]; omega)
  have ho := h.own
  rw [hx, List.append_nil, ← hk] at ho
  have hr : Rows2 u w.heap.size v G := ⟨ho, h.inn⟩
  have := rows_of_heads hr.1 hr.heads
  rw [e] at this
  exact this

set_option maxHeartbeats 1000000 in
theorem sort_any (L : List (List Val)) (p : Option Addr) (cap : Nat) (w : World) (hL : L.length ≤ 1000) (hp : RowsAt w p L) :
    Calls Tryz.prog 35 #[.slice p L.length cap] w (SortedPost L w) := by
  have HP := Lib.hid hp
  clear hp
  have hln : (srt L).length = L.length := srt_length L
  unfold SortedPost
  go_enter Tryz.func35, Tryz.ntmps35
  go_wp2_with fail
  refine (ordered_any L p cap _ hL HP.out).mono ?_
  rintro e w1 ⟨v, rfl, hord⟩
  obtain ⟨hlow, xs, hown, hH⟩ := hord
  have hsh := (own_src hown).1
  have hS0 : SortIn w w1 v (srt L) xs [] := ⟨by simpa using hown, (fun z hz => by cases hz), by simp, hlow, hH⟩
  generalize hPV : rowP v = pv at hsh
  generalize hCV : rowC v = cv at hsh
  clear hPV hCV
  have HS0 := Lib.hid hS0
  have HLN := Lib.hid hln
  have hz : (srt L).length ≤ 1000 := by omega
  clear hS0 hown hH hlow hln
  generalize hSE : srt L = S at *
  have HSE := Lib.hid hSE
  clear hSE
  subst hsh
  go_wp2_with fail
  go_loopw [10] (fun i u => ∃ G : List (Value × List Val), i = .int .i64 G.length ∧ G.length ≤ S.length ∧ SortIn w u (.slice pv S.length cv) S xs G) (fun i _ => S.length - (intOf i).toNat)
  case atStart => exact ⟨[], rfl, Nat.zero_le _, HS0.out⟩
  clear HS0
  case round =>
    obtain ⟨G, rfl, hk, hs⟩ := hrel
    have HS := Lib.hid hs
    by_cases hlt : G.length < S.length
    · have hlt' : decide ((G.length : Int) < S.length) = true := decide_eq_true (by omega)
      obtain ⟨g, c, q, cp, hsl, hg, h0, hf0, hr, hrz, hn⟩ := hs.read hlt
      injection hsl with hp1 _ hp2
      subst hp1 hp2
      have hgI : (G.length : Int) < (S.length : Int) := by omega
      have HR := Lib.hid hr
      have HN := Lib.hid hn
      have HF := Lib.hid hf0
      clear hs hr hn hf0
      go_wp2_with fail
      refine (copyrow_any (rAt S G.length) q cp _ (HR.out.low HS.out.low) hrz HN.out).mono ?_
      rintro e u2 ⟨z, rfl, hzin, hb2⟩
      obtain ⟨hput, ⟨y, hy⟩, hf⟩ := HS.out.put (z := (z, rAt S G.length)) hlt hb2 hzin rfl
      have hzs : z = .slice (rowP z) (rAt S G.length).length (rowC z) := (owned_shape hzin.1).1
      clear hb2 hzin h0 hg HS HR
      generalize rowP z = pz at hzs
      generalize rowC z = cz at hzs
      subst hzs
      have HPUT := Lib.hid hput
      clear hput
      go_wp2
      go_roundw
      case rel => exact ⟨G ++ [(.slice pz (rAt S G.length).length cz, rAt S G.length)], by rw [List.length_append]; go_num, by rw [List.length_append, List.length_singleton]; omega, HPUT.out⟩
      case measure => simp [intOf]; omega
    · have hlt' : decide ((G.length : Int) < S.length) = false := decide_eq_false (by omega)
      have hG : G.length = S.length := by omega
      have HD := Lib.hid (hs.done hG)
      have HB := Lib.hid hs.low
      clear hs HS
      go_wp2
      go_ret
      rw [HSE.out]
      exact ⟨pv, cv, rfl, HD.out, HLN.out, HB.out⟩
end Go.Proofs.YtlnbpobipmejfaaGreatDoor
/-
  Bags of package delta: the rows that left, and those that came, in order.
-/
namespace Go.Proofs.YtlnbpobipmejfaaGreatDoor
set_option maxRecDepth 100000
open Go.RowKit
variable {ls : List Nat}

/-- The rows that left, and those that came. -/
def leftR (E : Dlt) : List (List Val) := E.D.map (·.2) ++ E.U.map (·.2.1)
def cameR (E : Dlt) : List (List Val) := E.I.map (·.2) ++ E.U.map (·.2.2)
/-- What Bags gives. -/
def BagsPost (E : Dlt) (w : World) (e : Ending) (w' : World) : Prop := ∃ (p1 : Option Addr) (c1 : Nat) (p2 : Option Addr) (c2 : Nat), e = .returned (.tuple #[.slice p1 (srt (leftR E)).length c1, .slice p2 (srt (cameR E)).length c2]) ∧ RowsAt w' p1 (srt (leftR E)) ∧ RowsAt w' p2 (srt (cameR E)) ∧ Below w.heap.size w w'
/-- Two lists of heads that grow. -/
structure BgW (w : World) (a b c d : Value) (vl vc : Value) (L M : List (List Val)) (v : World) : Prop where
  box : Cell4 v w.heap.size a b c d
  l : ∃ xs, v.ownsRow (w.heap.size + 1) 56 1 vl L.length xs ∧ HeadsAt w xs L
  c : ∃ xs, v.ownsRow (w.heap.size + 1) 56 1 vc M.length xs ∧ HeadsAt w xs M
  ne : ∀ g, vl.ownBlock = some g → vc.ownBlock ≠ some g
  low : Below w.heap.size w v
section
variable {w u v w8 : World} {a b c d vl vc : Value} {L M : List (List Val)} {xs : List Value} {l : List Val} {q : Option Addr} {cq g8 c8 : Nat}
theorem BgW.to (h : BgW w a b c d vl vc L M u) (hb : Below u.heap.size u v) : BgW w a b c d vl vc L M v := by
  obtain ⟨xs, h1, h2⟩ := h.l
  obtain ⟨ys, h3, h4⟩ := h.c
  exact ⟨h.box.low hb, ⟨xs, owns_below h1 hb, h2⟩, ⟨ys, owns_below h3 hb, h4⟩, h.ne, below_next h.low hb⟩
theorem BgW.pushL {n : Nat} (h : BgW w a b c d vl vc L M u) (hn : L.length = n) (hx : HeadsAt w (xs ++ [.slice q l.length cq]) (L ++ [l])) (ho : u.ownsRow (w.heap.size + 1) 56 1 vl n xs)
    (h8 : w8.ownsRow (w.heap.size + 1) 56 1 (.slice (some ⟨g8, 0, none⟩) (n + 1) c8) (n + 1) (xs ++ [.slice q l.length cq])) (hgr : u.grownBy w8 vl.ownBlock) (hat : vl.ownBlock = some g8 ∨ g8 = u.heap.size) :
    BgW w a b c d (.slice (some ⟨g8, 0, none⟩) (n + 1) c8) vc (L ++ [l]) M w8 := by
  subst hn
  obtain ⟨ys, h3, h4⟩ := h.c
  have hr : ∀ k, vl.ownBlock = some k → w.heap.size + 1 ≤ k := fun k hk => owns_block ho k hk
  refine ⟨h.box.grown hgr fun k hk => (by have := hr k hk; omega), ⟨_, by rw [List.length_append]; exact h8, hx⟩, ⟨ys, owns_keep h3 fun k hk => hgr.block k (owns_lt h3 k hk) (fun e => h.ne k e.symm hk), h4⟩, fun g hg he => ?_, grown_below h.low (Nat.le_trans (Nat.le_succ _) (Nat.succ_le_of_lt h.box.lt)) hgr fun k hk => (by have := hr k hk; omega)⟩
  obtain rfl : g8 = g := by
    have hg : some g8 = some g := hg
    exact Option.some.inj hg
  rcases hat with h1 | h1
  · exact h.ne _ h1 he
  · have := owns_lt h3 _ he
    omega
theorem BgW.pushC {n : Nat} (h : BgW w a b c d vl vc L M u) (hn : M.length = n) (hx : HeadsAt w (xs ++ [.slice q l.length cq]) (M ++ [l])) (ho : u.ownsRow (w.heap.size + 1) 56 1 vc n xs)
    (h8 : w8.ownsRow (w.heap.size + 1) 56 1 (.slice (some ⟨g8, 0, none⟩) (n + 1) c8) (n + 1) (xs ++ [.slice q l.length cq])) (hgr : u.grownBy w8 vc.ownBlock) (hat : vc.ownBlock = some g8 ∨ g8 = u.heap.size) :
    BgW w a b c d vl (.slice (some ⟨g8, 0, none⟩) (n + 1) c8) L (M ++ [l]) w8 := by
  subst hn
  obtain ⟨ys, h3, h4⟩ := h.l
  have hr : ∀ k, vc.ownBlock = some k → w.heap.size + 1 ≤ k := fun k hk => owns_block ho k hk
  refine ⟨h.box.grown hgr fun k hk => (by have := hr k hk; omega), ⟨ys, owns_keep h3 fun k hk => hgr.block k (owns_lt h3 k hk) (fun e => h.ne k hk e.symm), h4⟩, ⟨_, by rw [List.length_append]; exact h8, hx⟩, fun g hg he => ?_, grown_below h.low (Nat.le_trans (Nat.le_succ _) (Nat.succ_le_of_lt h.box.lt)) hgr fun k hk => (by have := hr k hk; omega)⟩
  obtain rfl : g8 = g := by
    have he : some g8 = some g := he
    exact Option.some.inj he
  rcases hat with h1 | h1
  · exact h.ne _ hg h1
  · have := owns_lt h3 _ hg
    omega
theorem BgW.shapeL (h : BgW w a b c d vl vc L M u) : ∃ p n, vl = .slice p L.length n := by
  obtain ⟨xs, h1, -⟩ := h.l
  exact own_ex h1
theorem BgW.shapeC (h : BgW w a b c d vl vc L M u) : ∃ p n, vc = .slice p M.length n := by
  obtain ⟨xs, h1, -⟩ := h.c
  exact own_ex h1
theorem cell3_grownR {X : Nat} {x y z : Value} {row : Option Nat} (h : Cell3 u X x y z) (hg : u.grownBy v row) (hr : ∀ k, row = some k → k < X) : Cell3 v X x y z := by
  have hb := hg.block X h.lt (fun e => by have := hr X e.symm; omega)
  exact ⟨Nat.lt_of_lt_of_le h.lt hg.size, by rw [World.cell?_of_block (w := u) hb]; exact h.c0, by rw [World.cell?_of_block (w := u) hb]; exact h.c1, by rw [World.cell?_of_block (w := u) hb]; exact h.c2, fun o => by rw [World.frozen?_of_block (w := u) hb]; exact h.fz o⟩
theorem upd_take1 {U : List PRow} {k : Nat} (h : k < U.length) : (U.take (k + 1)).map (·.2.1) = (U.take k).map (·.2.1) ++ [(pAt U k).2.1] := by
  rw [← List.take_append_getElem h, List.map_append, pAt_get h]; rfl
theorem upd_take2 {U : List PRow} {k : Nat} (h : k < U.length) : (U.take (k + 1)).map (·.2.2) = (U.take k).map (·.2.2) ++ [(pAt U k).2.2] := by
  rw [← List.take_append_getElem h, List.map_append, pAt_get h]; rfl
end
set_option maxHeartbeats 4000000 in
theorem dbags_any (E : Dlt) (w : World) (hE : DltAt w E) (hl : E.D.length + E.I.length + E.U.length ≤ 1000) :
    Calls Tryz.prog 12 #[.agg #[.string E.nm, .slice E.pi E.I.length E.ci, .slice E.pd E.D.length E.cd, .slice E.pu E.U.length E.cu]] w (BagsPost E w) := by
  obtain ⟨nm, pi, ci, I, pd, cd, D, pu, cu, U⟩ := E
  dsimp only at hl ⊢
  obtain ⟨i25, hi25, hz25, hs25, hb25⟩ := info_parts info_row
  have HE := Lib.hid hE
  have HW0 := Lib.hid (BgW.mk (cell4_new w (.string nm) (.slice pi I.length ci) (.slice pd D.length cd) (.slice pu U.length cu) 25) ⟨[], ⟨rfl, Or.inl ⟨rfl, rfl⟩⟩, HeadsAt.nil _⟩ ⟨[], ⟨rfl, Or.inl ⟨rfl, rfl⟩⟩, HeadsAt.nil _⟩ (fun g hg => by cases hg) (below_alloc w (.cells #[.string nm, .slice pi I.length ci, .slice pd D.length cd, .slice pu U.length cu] 25)) : BgW w (.string nm) (.slice pi I.length ci) (.slice pd D.length cd) (.slice pu U.length cu) (.slice none 0 0) (.slice none 0 0) [] [] _)
  clear hE
  go_enter Tryz.func12, Tryz.ntmps12
  go_upto_region 1 with (fail)
  generalize World.alloc _ _ = W1 at HW0 ⊢
  obtain ⟨bl, b0, b1, b2, b3, -⟩ := HW0.out.box
  go_wp2_with fail
  go_loopw [4, 15] (fun s i v => ∃ k : Nat, k ≤ D.length ∧ i = .int .i64 k ∧ BgW w (.string nm) (.slice pi I.length ci) (.slice pd D.length cd) (.slice pu U.length cu) s (.slice none 0 0) ((D.take k).map (·.2)) [] v) (fun _ i _ => D.length - (intOf i).toNat)
  case atStart => exact ⟨0, Nat.zero_le _, rfl, HW0.out⟩
  clear HW0
  case round =>
    rename_i s
    obtain ⟨k, hk, rfl, hw⟩ := hrel
    obtain ⟨p1, n1, hs⟩ := hw.shapeL
    have hLn : ((D.take k).map (·.2)).length = k := by rw [List.length_map, List.length_take]; omega
    rw [hLn] at hs
    subst hs
    have HW := Lib.hid hw
    clear hw
    by_cases hlt : k < D.length
    · have hlt' : decide ((k : Int) < D.length) = true := decide_eq_true (by omega)
      obtain ⟨c, o, q, cp, hp, hc', h0', h1', hr, hs, hqn⟩ := HE.out.del k hlt
      dsimp only at hc' h0' h1' hr hs hqn
      have hc := Nat.lt_of_lt_of_le hc' HW.out.low.size
      have h0 : wr.cell? ⟨c, o + k * 2, none⟩ = some (.int .i64 (tAt D k).1) := by rw [HW.out.low.cell (by exact hc')]; exact h0'
      have h1 : wr.cell? ⟨c, o + k * 2 + 1, none⟩ = some (.slice q (tAt D k).2.length cp) := by rw [HW.out.low.cell (by exact hc')]; exact h1'
      have hb7 := below_new (below_new (Below.refl wr.heap.size wr) (.cells #[.int .i64 (tAt D k).1, .slice q (tAt D k).2.length cp] 58)) (.cells #[.slice q (tAt D k).2.length cp] 56)
      have HW7 := Lib.hid (HW.out.to hb7)
      obtain ⟨xs, ho7, hg7⟩ := HW7.out.l
      rw [hLn] at ho7
      have HO7 := Lib.hid ho7
      have HX := Lib.hid (heads_add hg7 hr hs hqn)
      have HNEW := Lib.hid (head_news wr (.cells #[.int .i64 (tAt D k).1, .slice q (tAt D k).2.length cp] 58) (.slice q (tAt D k).2.length cp))
      have HZ : Hid (w.heap.size + 1 ≤ ((wr.alloc (.cells #[.int .i64 (tAt D k).1, .slice q (tAt D k).2.length cp] 58)).alloc (.cells #[.slice q (tAt D k).2.length cp] 56)).heap.size) := Lib.hid (Nat.succ_le_of_lt HW7.out.box.lt)
      clear hr hqn h0' h1' hc' hb7 ho7 hg7
      dsimp only at hp
      subst hp
      go_wp2_with (at_builtin; refine wpList_append_lies _ rfl (.tmp 19) (.tmp 22) 43 rfl (w.heap.size + 1) 56 i25 _ 1 24 Tryz.underlying43 hi25 hz25 hs25 hb25 rfl (by decide) (.slice p1 k n1) k xs (by rfl) HO7.out ⟨wr.heap.size + 1, 0, none⟩ 1 1 [.slice q (tAt D k).2.length cp] (by rfl) rfl HNEW.out (by intro u hu; obtain rfl := List.mem_singleton.1 hu; rfl) (by decide) (by unfold maxLen; omega) (by omega) HZ.out _ rfl ?_; intro g8 c8 w8 hown8 hgr8 hat8 hlt8; (have HW8 := Lib.hid (HW7.out.pushL hLn HX.out HO7.out hown8 hgr8 hat8)); clear hown8 hgr8 hat8 hlt8)
      go_roundw
      case rel => exact ⟨k + 1, by omega, by go_num, by rw [bag_take hlt]; exact HW8.out⟩
      case measure => simp [intOf]; omega
    · have hlt' : decide ((k : Int) < D.length) = false := decide_eq_false (by omega)
      obtain rfl : k = D.length := by omega
      have hw := HW.out
      rw [List.take_length] at hw
      have HWA := Lib.hid hw
      obtain ⟨bl, b0, b1, b2, b3, -⟩ := HWA.out.box
      clear hw HW hLn
      go_wp2_with fail
      go_loopw [5, 28] (fun s i v => ∃ k : Nat, k ≤ I.length ∧ i = .int .i64 k ∧ BgW w (.string nm) (.slice pi I.length ci) (.slice pd D.length cd) (.slice pu U.length cu) (.slice p1 D.length n1) s (D.map (·.2)) ((I.take k).map (·.2)) v) (fun _ i _ => I.length - (intOf i).toNat)
      case atStart => exact ⟨0, Nat.zero_le _, rfl, HWA.out⟩
      clear HWA
      case round =>
        rename_i s
        obtain ⟨k, hk, rfl, hw⟩ := hrel
        obtain ⟨p2, n2, hs⟩ := hw.shapeC
        have hLn : ((I.take k).map (·.2)).length = k := by rw [List.length_map, List.length_take]; omega
        rw [hLn] at hs
        subst hs
        have HW := Lib.hid hw
        clear hw
        by_cases hlt : k < I.length
        · have hlt' : decide ((k : Int) < I.length) = true := decide_eq_true (by omega)
          obtain ⟨c, o, q, cp, hp, hc', h0', h1', hr, hs, hqn⟩ := HE.out.ins k hlt
          dsimp only at hc' h0' h1' hr hs hqn
          have hc := Nat.lt_of_lt_of_le hc' HW.out.low.size
          have h0 : wr.cell? ⟨c, o + k * 2, none⟩ = some (.int .i64 (tAt I k).1) := by rw [HW.out.low.cell (by exact hc')]; exact h0'
          have h1 : wr.cell? ⟨c, o + k * 2 + 1, none⟩ = some (.slice q (tAt I k).2.length cp) := by rw [HW.out.low.cell (by exact hc')]; exact h1'
          have hb7 := below_new (below_new (Below.refl wr.heap.size wr) (.cells #[.int .i64 (tAt I k).1, .slice q (tAt I k).2.length cp] 58)) (.cells #[.slice q (tAt I k).2.length cp] 56)
          have HW7 := Lib.hid (HW.out.to hb7)
          obtain ⟨xs, ho7, hg7⟩ := HW7.out.c
          rw [hLn] at ho7
          have HO7 := Lib.hid ho7
          have HX := Lib.hid (heads_add hg7 hr hs hqn)
          have HNEW := Lib.hid (head_news wr (.cells #[.int .i64 (tAt I k).1, .slice q (tAt I k).2.length cp] 58) (.slice q (tAt I k).2.length cp))
          have HZ : Hid (w.heap.size + 1 ≤ ((wr.alloc (.cells #[.int .i64 (tAt I k).1, .slice q (tAt I k).2.length cp] 58)).alloc (.cells #[.slice q (tAt I k).2.length cp] 56)).heap.size) := Lib.hid (Nat.succ_le_of_lt HW7.out.box.lt)
          clear hr hqn h0' h1' hc' hb7 ho7 hg7
          dsimp only at hp
          subst hp
          go_wp2_with (at_builtin; refine wpList_append_lies _ rfl (.tmp 32) (.tmp 35) 43 rfl (w.heap.size + 1) 56 i25 _ 1 24 Tryz.underlying43 hi25 hz25 hs25 hb25 rfl (by decide) (.slice p2 k n2) k xs (by rfl) HO7.out ⟨wr.heap.size + 1, 0, none⟩ 1 1 [.slice q (tAt I k).2.length cp] (by rfl) rfl HNEW.out (by intro u hu; obtain rfl := List.mem_singleton.1 hu; rfl) (by decide) (by unfold maxLen; omega) (by omega) HZ.out _ rfl ?_; intro g8 c8 w8 hown8 hgr8 hat8 hlt8; (have HW8 := Lib.hid (HW7.out.pushC hLn HX.out HO7.out hown8 hgr8 hat8)); clear hown8 hgr8 hat8 hlt8)
          go_roundw
          case rel => exact ⟨k + 1, by omega, by go_num, by rw [bag_take hlt]; exact HW8.out⟩
          case measure => simp [intOf]; omega
        · have hlt' : decide ((k : Int) < I.length) = false := decide_eq_false (by omega)
          obtain rfl : k = I.length := by omega
          have hw := HW.out
          rw [List.take_length] at hw
          have HWB := Lib.hid hw
          obtain ⟨bl, b0, b1, b2, b3, -⟩ := HWB.out.box
          clear hw HW hLn
          go_wp2_with fail
          go_loopw [4, 5, 41] (fun sl sc i v => ∃ k : Nat, k ≤ U.length ∧ i = .int .i64 k ∧ BgW w (.string nm) (.slice pi I.length ci) (.slice pd D.length cd) (.slice pu U.length cu) sl sc (D.map (·.2) ++ (U.take k).map (·.2.1)) (I.map (·.2) ++ (U.take k).map (·.2.2)) v) (fun _ _ i _ => U.length - (intOf i).toNat)
          case atStart => exact ⟨0, Nat.zero_le _, rfl, by simpa using HWB.out⟩
          clear HWB
          case round =>
            rename_i sl sc
            obtain ⟨k, hk, rfl, hw⟩ := hrel
            obtain ⟨pl, nl, hsl⟩ := hw.shapeL
            obtain ⟨pc, nc, hsc⟩ := hw.shapeC
            have hLl : (D.map (·.2) ++ (U.take k).map (·.2.1)).length = D.length + k := by rw [List.length_append, List.length_map, List.length_map, List.length_take]; omega
            have hMl : (I.map (·.2) ++ (U.take k).map (·.2.2)).length = I.length + k := by rw [List.length_append, List.length_map, List.length_map, List.length_take]; omega
            rw [hLl] at hsl
            rw [hMl] at hsc
            subst hsl hsc
            have HW := Lib.hid hw
            clear hw
            by_cases hlt : k < U.length
            · have hlt' : decide ((k : Int) < U.length) = true := decide_eq_true (by omega)
              obtain ⟨c, o, q, cq, r, cr, hp, hc', h0', h1', h2', hr, hr2, hs, hs2, hqn, hrn⟩ := HE.out.upd k hlt
              dsimp only at hc' h0' h1' h2' hr hr2 hs hs2 hqn hrn
              have hc := Nat.lt_of_lt_of_le hc' HW.out.low.size
              have h0 : wr.cell? ⟨c, o + k * 3, none⟩ = some (.int .i64 (pAt U k).1) := by rw [HW.out.low.cell (by exact hc')]; exact h0'
              have h1 : wr.cell? ⟨c, o + k * 3 + 1, none⟩ = some (.slice q (pAt U k).2.1.length cq) := by rw [HW.out.low.cell (by exact hc')]; exact h1'
              have h2 : wr.cell? ⟨c, o + k * 3 + 2, none⟩ = some (.slice r (pAt U k).2.2.length cr) := by rw [HW.out.low.cell (by exact hc')]; exact h2'
              have HWP := Lib.hid (HW.out.to (below_alloc wr (.cells #[.int .i64 (pAt U k).1, .slice q (pAt U k).2.1.length cq, .slice r (pAt U k).2.2.length cr] 75)))
              have HP := Lib.hid (cell3_new wr (.int .i64 (pAt U k).1) (.slice q (pAt U k).2.1.length cq) (.slice r (pAt U k).2.2.length cr) 75)
              have HRQ := Lib.hid hr
              have HRR := Lib.hid hr2
              have HQN := Lib.hid hqn
              have HRN := Lib.hid hrn
              clear hr hr2 hqn hrn h0' h1' h2' hc'
              obtain ⟨_, ho5, -⟩ := HW.out.l
              have HLT := Lib.hid (owns_lt ho5)
              clear ho5
              dsimp only at hp
              subst hp
              go_upto_region 15 with (fail)
              clear h0 h1 h2 hc HW
              generalize World.alloc _ _ = W5 at HWP HP ⊢
              generalize wr.heap.size = Y at HP HLT ⊢
              have HW6 := Lib.hid (HWP.out.to (below_alloc W5 (.cells #[.slice q (pAt U k).2.1.length cq] 56)))
              obtain ⟨xs, ho6, hg6⟩ := HW6.out.l
              rw [hLl] at ho6
              have HO6 := Lib.hid ho6
              have HX := Lib.hid (heads_add hg6 HRQ.out hs HQN.out)
              have HNEW := Lib.hid (one_news W5 (.slice q (pAt U k).2.1.length cq))
              have HZ : Hid (w.heap.size + 1 ≤ (W5.alloc (.cells #[.slice q (pAt U k).2.1.length cq] 56)).heap.size) := Lib.hid (Nat.succ_le_of_lt HW6.out.box.lt)
              have HP6 := Lib.hid (HP.out.low (below_alloc W5 (.cells #[.slice q (pAt U k).2.1.length cq] 56)))
              obtain ⟨yl, y0, y1, y2, -⟩ := HP.out
              clear ho6 hg6
              go_upto_region 16 with (at_builtin; refine wpList_append_lies _ rfl (.tmp 45) (.tmp 48) 43 rfl (w.heap.size + 1) 56 i25 _ 1 24 Tryz.underlying43 hi25 hz25 hs25 hb25 rfl (by decide) (.slice pl (D.length + k) nl) (D.length + k) xs (by rfl) HO6.out ⟨W5.heap.size, 0, none⟩ 1 1 [.slice q (pAt U k).2.1.length cq] (by rfl) rfl HNEW.out (by intro u hu; obtain rfl := List.mem_singleton.1 hu; rfl) (by decide) (by unfold maxLen; omega) (by omega) HZ.out _ rfl ?_; intro g8 c8 w8 hown8 hgr8 hat8 hlt8; (have HW8 := Lib.hid (HW6.out.pushL hLl HX.out HO6.out hown8 hgr8 hat8)); (have HP8 := Lib.hid (cell3_grownR HP6.out hgr8 HLT.out)); clear hown8 hgr8 hat8 hlt8)
              clear HWP HP HW6 HO6 HX HNEW HZ HP6 yl y0 y1 y2
              have HW9 := Lib.hid (HW8.out.to (below_alloc w8 (.cells #[.slice r (pAt U k).2.2.length cr] 56)))
              obtain ⟨ys, ho9, hg9⟩ := HW9.out.c
              rw [hMl] at ho9
              have HO9 := Lib.hid ho9
              have HX := Lib.hid (heads_add hg9 HRR.out hs2 HRN.out)
              have HNEW := Lib.hid (one_news w8 (.slice r (pAt U k).2.2.length cr))
              have HZ : Hid (w.heap.size + 1 ≤ (w8.alloc (.cells #[.slice r (pAt U k).2.2.length cr] 56)).heap.size) := Lib.hid (Nat.succ_le_of_lt HW9.out.box.lt)
              obtain ⟨yl, y0, y1, y2, -⟩ := HP8.out
              clear ho9 hg9
              go_wp2_with (at_builtin; refine wpList_append_lies _ rfl (.tmp 50) (.tmp 53) 43 rfl (w.heap.size + 1) 56 i25 _ 1 24 Tryz.underlying43 hi25 hz25 hs25 hb25 rfl (by decide) (.slice pc (I.length + k) nc) (I.length + k) ys (by rfl) HO9.out ⟨w8.heap.size, 0, none⟩ 1 1 [.slice r (pAt U k).2.2.length cr] (by rfl) rfl HNEW.out (by intro u hu; obtain rfl := List.mem_singleton.1 hu; rfl) (by decide) (by unfold maxLen; omega) (by omega) HZ.out _ rfl ?_; intro g9 c9 w10 hown9 hgr9 hat9 hlt9; (have HWT := Lib.hid (HW9.out.pushC hMl HX.out HO9.out hown9 hgr9 hat9)); clear hown9 hgr9 hat9 hlt9)
              go_roundw
              case rel => exact ⟨k + 1, by omega, by go_num, by rw [upd_take1 hlt, upd_take2 hlt, ← List.append_assoc, ← List.append_assoc]; exact HWT.out⟩
              case measure => simp [intOf]; omega
            · have hlt' : decide ((k : Int) < U.length) = false := decide_eq_false (by omega)
              obtain rfl : k = U.length := by omega
              have hw := HW.out
              rw [List.take_length] at hw
              obtain ⟨xs, ho1, hg1⟩ := hw.l
              obtain ⟨ys, ho2, hg2⟩ := hw.c
              have HL := Lib.hid (rows_of_heads ho1 (hg1.low hw.low) : RowsAt wr pl (leftR ⟨nm, pi, ci, I, pd, cd, D, pu, cu, U⟩))
              have HM := Lib.hid (rows_of_heads ho2 (hg2.low hw.low) : RowsAt wr pc (cameR ⟨nm, pi, ci, I, pd, cd, D, pu, cu, U⟩))
              have HB := Lib.hid hw.low
              have hL9 : (leftR ⟨nm, pi, ci, I, pd, cd, D, pu, cu, U⟩).length ≤ 1000 := by unfold leftR; rw [List.length_append, List.length_map, List.length_map]; dsimp only; omega
              have hM9 : (cameR ⟨nm, pi, ci, I, pd, cd, D, pu, cu, U⟩).length ≤ 1000 := by unfold cameR; rw [List.length_append, List.length_map, List.length_map]; dsimp only; omega
              have hLe : (leftR ⟨nm, pi, ci, I, pd, cd, D, pu, cu, U⟩).length = D.length + U.length := by unfold leftR; rw [List.length_append, List.length_map, List.length_map]
              have hMe : (cameR ⟨nm, pi, ci, I, pd, cd, D, pu, cu, U⟩).length = I.length + U.length := by unfold cameR; rw [List.length_append, List.length_map, List.length_map]
              have HSL := Lib.hid (sort_any (leftR ⟨nm, pi, ci, I, pd, cd, D, pu, cu, U⟩) pl nl _ hL9 HL.out)
              rw [hLe] at HSL
              clear hw HW ho1 ho2 hg1 hg2 hLl hMl
              go_wp2_with fail
              refine HSL.out.mono ?_
              rintro e w3 ⟨p3, c3, rfl, hr3, hl3, hb3⟩
              have HR3 := Lib.hid hr3
              have HM3 := Lib.hid (HM.out.low hb3)
              have HB3 := Lib.hid (below_next HB.out hb3)
              clear hr3 hl3 hb3
              go_wp2_with fail
              have HSM := Lib.hid (sort_any (cameR ⟨nm, pi, ci, I, pd, cd, D, pu, cu, U⟩) pc nc _ hM9 HM3.out)
              rw [hMe] at HSM
              refine HSM.out.mono ?_
              rintro e w4 ⟨p4, c4, rfl, hr4, hl4, hb4⟩
              have HR4 := Lib.hid (HR3.out.low hb4)
              have HR5 := Lib.hid hr4
              have HB4 := Lib.hid (below_next HB3.out hb4)
              clear hr4 hl4 hb4
              go_wp2
              go_ret2
              exact ⟨p3, c3, p4, c4, rfl, HR4.out, HR5.out, HB4.out⟩
end Go.Proofs.YtlnbpobipmejfaaGreatDoor
