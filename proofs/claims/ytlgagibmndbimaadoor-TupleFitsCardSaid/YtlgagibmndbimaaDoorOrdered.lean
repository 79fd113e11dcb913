/-
  A list of the call's own with the rows in order: slices.SortFunc by its contract.
-/
import Derived.Test.YtlgagibmndbimaaDoorCmpGro
import Derived.Test.YtlgagibmndbimaaDoorBagFacts
import Derived.Test.YtlgagibmndbimaaDoorSortLay
import Derived.Shelf.SlSortCmp.NoneTotal
namespace Go.Proofs.YtlgagibmndbimaaDoor
open Go.RowKit
variable {ls : List Nat}

/-- A row's head: where it lies, and what it holds. -/
structure Hd where
  p : Option Addr
  c : Nat
  l : List Val
def Hd.v (x : Hd) : Value := .slice x.p x.l.length x.c
def HdIn (w : World) (x : Hd) : Prop := RowAt w x.p x.l ∧ x.l.length * 32 ≤ 140737488355328 ∧ (x.p = none → x.l = [] ∧ x.c = 0)
abbrev HdT (w : World) := { x : Hd // HdIn w x }
instance (w : World) : Inhabited (HdT w) := ⟨⟨⟨none, 0, []⟩, ⟨fun i hi => by simp at hi, by simp, fun _ => ⟨rfl, rfl⟩⟩⟩⟩
def HdT.v {w : World} (x : HdT w) : Value := x.1.v
def HdT.l {w : World} (x : HdT w) : List Val := x.1.l
/-- The order of heads. -/
def cfH (w : World) (x y : HdT w) : Int := cmpRow x.l y.l

theorem cmpRow_lt {a b c : List Val} (h : cmpRow a b < 0) (k : cmpRow b c < 0) : cmpRow a c < 0 := by
  have h1 := cmpRow_trans (a := a) (b := b) (c := c) (by omega) (by omega)
  by_cases h0 : cmpRow a c = 0
  · have e := (cmpRow_zero a c).1 h0
    subst e
    have := cmpRow_neg a b
    omega
  · omega
theorem swoH (w : World) : Go.Sort.SWO (ltOf (cfH w)) where
  irrefl x := by
    have := (cmpRow_zero x.l x.l).2 rfl
    simp [ltOf, cfH, this]
  trans x y z h k := decide_eq_true (cmpRow_lt (a := x.l) (b := y.l) (c := z.l) (of_decide_eq_true h) (of_decide_eq_true k))
  ntrans x y z h k := by
    have h1 : ¬ cmpRow x.l y.l < 0 := of_decide_eq_false h
    have h2 : ¬ cmpRow y.l z.l < 0 := of_decide_eq_false k
    refine decide_eq_false (p := cmpRow x.l z.l < 0) ?_
    have h3 := cmpRow_neg x.l y.l
    have h4 := cmpRow_neg y.l z.l
    have h5 := cmpRow_neg x.l z.l
    have := cmpRow_trans (a := z.l) (b := y.l) (c := x.l) (by omega) (by omega)
    omega

/-- The heads of a slice of rows. -/
theorem RowsAt.hds {w : World} {p : Option Addr} {L : List (List Val)} (h : RowsAt w p L) :
    ∃ ys : List (HdT w), ys.map HdT.l = L ∧ ∀ i x, ys[i]? = some x → ∃ c o, p = some ⟨c, o, none⟩ ∧ c < w.heap.size ∧ w.cell? ⟨c, o + i, none⟩ = some x.v := by
  have h' : ∀ i : Fin L.length, ∃ x : HdT w, x.l = L[i] ∧ ∃ c o, p = some ⟨c, o, none⟩ ∧ c < w.heap.size ∧ w.cell? ⟨c, o + i, none⟩ = some x.v := by
    intro i
    obtain ⟨c, o, q, cp, hp, hc, h0, hr, hs, hn⟩ := h i i.2
    rw [rAt_get i.2] at h0 hr hs hn
    exact ⟨⟨⟨q, cp, L[i]⟩, hr, hs, hn⟩, rfl, c, o, hp, hc, h0⟩
  obtain ⟨f, hf⟩ := Classical.axiomOfChoice h'
  refine ⟨List.ofFn f, ?_, fun i x hx => ?_⟩
  · apply List.ext_getElem
    · simp
    · intro i h1 h2
      simp only [List.getElem_map, List.getElem_ofFn]
      exact (hf ⟨i, h2⟩).1
  · rw [List.getElem?_ofFn] at hx
    by_cases hi : i < L.length
    · rw [dif_pos hi] at hx
      obtain rfl := Option.some.inj hx
      exact (hf ⟨i, hi⟩).2
    · rw [dif_neg hi] at hx; cases hx
theorem heads_of_hds {w : World} (ys : List (HdT w)) : HeadsAt w (ys.map HdT.v) (ys.map HdT.l) := by
  refine ⟨by rw [List.length_map, List.length_map], fun i hi => ?_⟩
  rw [List.length_map] at hi
  have e : rAt (ys.map HdT.l) i = ys[i].l := by rw [rAt_get (by rw [List.length_map]; exact hi), List.getElem_map]
  rw [e]
  exact ⟨ys[i].1.p, ys[i].1.c, by rw [List.getElem?_map, List.getElem?_eq_getElem hi]; rfl, ys[i].2.1, ys[i].2.2.1, ys[i].2.2.2⟩

theorem run_append_none_cap {P : Program} {w : World} (base : Nat) (t ty e : TypeId) (i : TypeInfo) (size : Nat) (ht : P.underlying t = some (.slice e)) (hi : P.info? e = some i)
    (v : Value) (n c : Nat) (xs : List Value) (hown : w.ownsRow base e size v n xs) :
    (Builtin.append_ #[t, t] ty #[v, .slice none 0 c]).run P w = .ok v w := by
  rcases hown.2 with ⟨rfl, rfl⟩ | ⟨g, cap, cur, rfl, _, _, hnc, _⟩
  · simp [Builtin.append_, run_underlying ht, sizeOf, typeInfo, hi, Builtin.lenOf, Builtin.firstCells]
  · simp [Builtin.append_, run_underlying ht, sizeOf, typeInfo, hi, Builtin.lenOf, Builtin.firstCells, hnc, storeCells]
/-- Rows that lie in memory are appended. -/
theorem wpList_append_rows {w : World} {ops : Array Oper} {rest : List Oper} {o : Oper} {a : Act} {Q : Exit → Act → World → Prop} (hgd : o.guard = none) (s x : Operand)
    (ho : o.op = .call { callee := .builtin .append, args := #[s, x], argTypes := #[39, 39] })
    (base : Nat) (v : Value) (n : Nat) (xs : List Value) (hs : a.eval s = v) (hown : w.ownsRow base 25 1 v n xs)
    (px : Option Addr) (m cx : Nat) (ys : List Value) (hx : a.eval x = .slice px m cx) (hl : ys.length = m) (hsrc : ∀ i u, ys[i]? = some u → ∃ c o', px = some ⟨c, o', none⟩ ∧ w.cell? ⟨c, o' + i, none⟩ = some u) (h1 : ∀ u ∈ ys, u.oneCell' = true) (hsum : (n + m) * 24 ≤ 140737488355328) (hbase : base ≤ w.heap.size)
    (h : ∀ v' w', w'.ownsRow base 25 1 v' (n + m) (xs ++ ys) → w.grownBy w' v.ownBlock → wpList Tryd.prog ops Q rest (a.put o.dst v') w') : wpList Tryd.prog ops Q (o :: rest) a w := by
  obtain ⟨i0, hi, hz0, hz1, hz2⟩ := info_parts info_row
  cases px with
  | none =>
    have hys : ys = [] := by
      cases ys with
      | nil => rfl
      | cons y ys => obtain ⟨c, o', hp, -⟩ := hsrc 0 y rfl; cases hp
    subst hys
    obtain rfl : 0 = m := hl
    refine wpList_plain hgd fun K hK => ?_
    have hrun := run_append_none_cap (P := Tryd.prog) (w := w) base 39 o.type 25 i0 1 Tryd.underlying39 hi v n cx xs hown
    unfold Oper.wp
    simp [execOp, ho, resolve, invoke, builtin, hs, hx, hrun, Result.andThen]
    exact hK _ _ (h v w (by simpa using hown) (World.grownBy.refl w _))
  | some ad =>
    refine wpList_append_own w hgd s x 39 ho base 25 i0 _ 1 24 Tryd.underlying39 hi hz0 hz1 hz2 rfl (by decide) v n xs hs hown ad m cx ys hx (by rw [hl, Nat.mul_one]) (fun j u hj => ?_) h1 (by unfold maxLen; omega) hsum hbase ?_
    · obtain ⟨c, o', hp, hc⟩ := hsrc j u hj
      obtain rfl := Option.some.inj hp
      rw [show (⟨c, o', none⟩ : Addr).add j = ⟨c, o' + j, none⟩ from by unfold Addr.add; split <;> simp_all]
      exact hc
    · intro v' w' h1 h2 _
      exact h v' w' h1 h2

open Go.Sort in
theorem sortWorld_low {α : Type} [Inhabited α] {enc : α → Value} {w0 w : World} {g m : Nat} {dk : Array α} {os : Array Obj} (hb : Go.RowKit.Below w0.heap.size w0 w) (hg : w0.heap.size ≤ g) : Go.RowKit.Below w0.heap.size w0 (sortWorld enc w g 0 m dk os) := by
  refine hb.trans ⟨rfl, rfl, rfl, ?_, fun k hk => ?_⟩
  · show w.heap.size ≤ (sortWorld enc w g 0 m dk os).heap.size
    unfold sortWorld
    rw [size_grow, size_putRow]
    show w.heap.size ≤ w.heap.size + _
    omega
  · unfold sortWorld
    have hz := hb.size
    rw [heap_grow_old _ _ (by rw [size_putRow]; show k < w.heap.size; omega)]
    show (w.heap.modify g _)[k]? = _
    rw [Array.getElem?_modify, if_neg (by omega)]
open Go.Sort in
/-- The block behind the sort. -/
theorem sortWorld_block {α : Type} [Inhabited α] {enc : α → Value} {w : World} {g m : Nat} {d : Array α} {os : Array Obj} {cur : List Value} {t : TypeId} (hg : w.heap[g]? = some (.cells cur.toArray t (0, 0))) (hd : d.size ≤ cur.length) :
    ∃ cur' : List Value, (sortWorld enc w g 0 m d os).heap[g]? = some (.cells cur'.toArray t (0, 0)) ∧ cur'.length = cur.length ∧ cur'.take d.size = d.toList.map enc := by
  have hlt : g < w.heap.size := (Array.getElem?_eq_some_iff.1 hg).1
  refine ⟨(putCells enc 0 d cur.toArray).toList, ?_, ?_, ?_⟩
  · unfold sortWorld
    rw [heap_grow_old _ _ (by rw [size_putRow]; exact hlt)]
    show (w.heap.modify g _)[g]? = _
    rw [Array.getElem?_modify, if_pos rfl, hg]
    rfl
  · simp [putCells]
  · apply List.ext_getElem?
    intro i
    rw [List.getElem?_take]
    by_cases hi : i < d.size
    · rw [if_pos hi]
      have hc : i < cur.length := by omega
      simp [putCells, hi, hc]
    · rw [if_neg hi, List.getElem?_eq_none (by simp; omega)]

/-- A row of the call's own with the heads of rows that were there before. -/
structure OrdAt (w w' : World) (v : Value) (S : List (List Val)) : Prop where
  low : Below w.heap.size w w'
  row : ∃ xs, w'.ownsRow w.heap.size 25 1 v S.length xs ∧ HeadsAt w xs S
theorem srt_of_hds {w : World} {ys zs : List (HdT w)} {L : List (List Val)} (hy : ys.map HdT.l = L) (hp : zs.Perm ys) (hs : zs.Pairwise (fun x y => ¬ cfH w y x < 0)) : zs.map HdT.l = srt L := by
  refine srt_unique (by rw [← hy]; exact hp.map _) ?_
  unfold Sorted
  rw [List.pairwise_map]
  refine hs.imp fun {x y} h => leR_iff.2 ?_
  unfold cfH at h
  have := cmpRow_neg x.l y.l
  omega

theorem enters_cmp : ∀ args w, (callFunc 39 args).run Tryd.prog w = .ok (.enter 39 args) w := enters_of Tryd.func39 (by kernel_rfl) rfl
set_option maxHeartbeats 1000000 in
theorem sortfunc_any {w w2 : World} {v : Value} {L : List (List Val)} (ys : List (HdT w)) (hy : ys.map HdT.l = L) (hL : L.length ≤ 1000) (hb : Below w.heap.size w w2) (ho : w2.ownsRow w.heap.size 25 1 v L.length (ys.map HdT.v)) :
    Calls Tryd.prog 48 #[v, .func (.func 39) #[] #[]] w2 fun e w' => e = .returned (.tuple #[]) ∧ OrdAt w w' v (srt L) := by
  have hlen : ys.length = L.length := by rw [← hy, List.length_map]
  by_cases h0 : L.length = 0
  · obtain ⟨p, c, rfl⟩ : ∃ p c, v = .slice p 0 c := by
      rcases ho.2 with ⟨rfl, -⟩ | ⟨g, cap, cur, rfl, -⟩
      · exact ⟨none, 0, rfl⟩
      · exact ⟨_, cap, by rw [h0]⟩
    have hS := AnyF.slices_SortFunc_none (P := Tryd.prog) (ρ := Tryd.sortL_ren) { Tryd.sortL with } p c (.func (.func 39) #[] #[]) w2
    refine Calls.mono (show Calls Tryd.prog 48 _ _ _ from hS) ?_
    rintro e w' ⟨rfl, rfl⟩
    obtain rfl : L = [] := List.eq_nil_of_length_eq_zero h0
    have hys : ys = [] := List.eq_nil_of_length_eq_zero (by omega)
    subst hys
    have e0 : srt [] = [] := by simp [srt]
    rw [e0]
    exact ⟨rfl, hb, [], ho, HeadsAt.nil w⟩
  · obtain ⟨g, c, rfl⟩ : ∃ g c, v = .slice (some ⟨g, 0, none⟩) L.length c := by
      rcases ho.2 with ⟨-, h1⟩ | ⟨g, cap, cur, rfl, -⟩
      · exact absurd h1 h0
      · exact ⟨g, cap, rfl⟩
    obtain ⟨cur, hcur, hg, hnc, hm, hl, ht⟩ := own_block ho
    have hglt : g < w2.heap.size := (Array.getElem?_eq_some_iff.1 hcur).1
    have hds : ys.toArray.size = L.length := by simpa using hlen
    have hH : Go.Sort.Holds HdT.v w2 g 0 ys.toArray := by
      intro j hj
      have hj' : j < ys.length := by simpa using hj
      rw [Nat.zero_add]
      refine ⟨?_, Joins.unfrozen_of_block hcur j⟩
      rw [Joins.cell_of_block hcur]
      have : (cur.take L.length)[j]? = (ys.map HdT.v)[j]? := by rw [ht]
      rw [List.getElem?_take, if_pos (by omega), List.getElem?_map, List.getElem?_eq_getElem hj'] at this
      rw [getElem!_pos ys.toArray j hj]
      simpa using this
    have hcmp : CmpLays1 Tryd.prog 39 #[] HdT.v (cfH w) g 0 ys.toArray.size w2 := by
      intro m os dk _ x y
      have hlow := sortWorld_low (enc := HdT.v) (m := m) (dk := dk) (os := os) hb hg
      have hx := x.2.2.1
      have hy := y.2.2.1
      refine Calls.mono (show Calls Tryd.prog 39 _ _ _ from comparerowsG_any x.1.p y.1.p x.1.l y.1.l x.1.c y.1.c _ (by omega) (by omega) (x.2.1.low hlow) (y.2.1.low hlow)) ?_
      rintro e w' ⟨rfl, hgro⟩
      exact ⟨rfl, hgro.eq⟩
    have hS := Any.slices_SortFunc Tryd.sortL HdT.v (fun _ => rfl) (cfH w) (swoH w) 39 #[] g 0 c ys.toArray w2 enters_cmp hcmp hH hglt (by rw [hds]; omega)
    rw [hds] at hS
    refine Calls.mono (show Calls Tryd.prog 48 _ _ _ from hS) ?_
    rintro e w' ⟨rfl, d', n, os, hP, hSo, rfl⟩
    obtain ⟨hsz, -, hperm⟩ := hP
    rw [hds] at hsz
    have e1 : d'.extract 0 L.length = d' := by rw [← hsz]; exact Array.extract_size
    have e2 : ys.toArray.extract 0 L.length = ys.toArray := by rw [← hds]; exact Array.extract_size
    rw [e1, e2] at hperm
    have hsrt : d'.toList.map HdT.l = srt L := by
      refine srt_of_hds hy (by simpa using hperm) ?_
      rw [List.pairwise_iff_getElem]
      intro i j hi hj hij
      have hi' : i < d'.size := by simpa using hi
      have hj' : j < d'.size := by simpa using hj
      have := hSo i j (Nat.zero_le _) hij (by omega)
      rw [getElem!_pos d' j hj', getElem!_pos d' i hi'] at this
      simpa [ltOf] using this
    obtain ⟨cur', hc', hl', ht'⟩ := sortWorld_block (enc := HdT.v) (m := n) (os := os) hcur (d := d') (by omega)
    refine ⟨rfl, sortWorld_low hb hg, d'.toList.map HdT.v, ?_, ?_⟩
    · rw [srt_length]
      exact block_own hc' hg hnc hm (by rw [hl', hl]) (by rw [← hsz]; exact ht') (by simp [hsz])
    · rw [← hsrt]
      exact heads_of_hds _

def OrdPost (L : List (List Val)) (w : World) (e : Ending) (w' : World) : Prop := ∃ v, e = .returned v ∧ OrdAt w w' v (srt L)
theorem hds_one {w : World} (ys : List (HdT w)) : ∀ u ∈ ys.map HdT.v, u.oneCell' = true := by
  intro u hu
  obtain ⟨x, -, rfl⟩ := List.mem_map.1 hu
  rfl
set_option maxHeartbeats 1000000 in
theorem ordered_any (L : List (List Val)) (p : Option Addr) (cap : Nat) (w : World) (hL : L.length ≤ 1000) (hp : RowsAt w p L) :
    Calls Tryd.prog 36 #[.slice p L.length cap] w (OrdPost L w) := by
  obtain ⟨ys, hy, hsrc⟩ := hp.hds
  have hlen : ys.length = L.length := by rw [← hy, List.length_map]
  have HY := Lib.hid hy
  have HSRC : Hid (∀ i u, (ys.map HdT.v)[i]? = some u → ∃ c o', p = some ⟨c, o', none⟩ ∧ w.cell? ⟨c, o' + i, none⟩ = some u) := Lib.hid (by
    intro i u hu
    rw [List.getElem?_map] at hu
    obtain ⟨x, hx, rfl⟩ := Option.map_eq_some_iff.1 hu
    obtain ⟨c, o, h1, -, h2⟩ := hsrc i x hx
    exact ⟨c, o, h1, h2⟩)
  have hown0 : w.ownsRow w.heap.size 25 1 (.slice none 0 0) 0 [] := ⟨rfl, Or.inl ⟨rfl, rfl⟩⟩
  have HO := Lib.hid hown0
  have HLEN : Hid ((ys.map HdT.v).length = L.length) := Lib.hid (by rw [List.length_map]; exact hlen)
  clear hp hy hsrc hown0 hlen
  go_enter Tryd.func36, Tryd.ntmps36
  go_wp2_with (at_builtin; refine wpList_append_rows rfl _ (.tmp 4) rfl w.heap.size _ 0 [] rfl HO.out p L.length cap (ys.map HdT.v) rfl HLEN.out HSRC.out (hds_one ys) (by omega) (Nat.le_refl _) ?_; intro v2 w2 hown2 hgr2; (have HO2 := Lib.hid hown2); (have HB2 := Lib.hid (grown_below (Below.refl w.heap.size w) (Nat.le_refl _) hgr2 (fun k hk => by cases hk))); clear hown2 hgr2)
  have ho2 := HO2.out
  rw [Nat.zero_add, List.nil_append] at ho2
  refine (sortfunc_any ys HY.out hL HB2.out ho2).mono ?_
  rintro e w3 ⟨rfl, hord⟩
  have HORD := Lib.hid hord
  clear hord ho2
  go_wp2
  go_ret
  exact ⟨_, rfl, HORD.out⟩
end Go.Proofs.YtlgagibmndbimaaDoor
