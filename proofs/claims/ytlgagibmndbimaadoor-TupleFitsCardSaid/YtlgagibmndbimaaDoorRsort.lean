/-
  Sort of the reference.
-/
import Derived.Test.YtlgagibmndbimaaDoorBagMem
import Derived.Deep.RegionLaw
import Derived.Deep.AppendLies
import Derived.Lib.SmallJoins
namespace Go.Proofs.YtlgagibmndbimaaDoor
open Go.RowKit
variable {ls : List Nat}

/-- A row put into a list of cells at place a. -/
theorem ins_cells {A : Type} {cur heads : List A} {z hd : A} {a n : Nat} (hn : heads.length = n) (htake : cur.take (n + 1) = heads ++ [z]) (ha : a ≤ n) : ((splice cur (a + 1) (heads.drop a)).set a hd).take (n + 1) = heads.take a ++ hd :: heads.drop a := by
  have hl : n + 1 ≤ cur.length := by
    have := congrArg List.length htake
    rw [List.length_take, List.length_append, List.length_singleton] at this
    omega
  have hat : ∀ j, j < n → cur[j]? = heads[j]? := fun j hj => by
    have : (cur.take (n + 1))[j]? = (heads ++ [z])[j]? := by rw [htake]
    rw [List.getElem?_take, if_pos (by omega), List.getElem?_append_left (by omega)] at this
    exact this
  apply List.ext_getElem?
  intro j
  rw [List.getElem?_take]
  by_cases hj : j < n + 1
  · rw [if_pos hj]
    unfold splice
    by_cases hja : j < a
    · rw [List.getElem?_set_ne (by omega), List.getElem?_append_left (by rw [List.length_take]; omega), List.getElem?_take, if_pos (by omega), List.getElem?_append_left (by rw [List.length_take]; omega), List.getElem?_take, if_pos hja]
      exact hat j (by omega)
    · by_cases hje : j = a
      · subst hje
        rw [List.getElem?_set_self (by rw [List.length_append, List.length_take]; omega), List.getElem?_append_right (by rw [List.length_take]; omega), List.length_take]
        have : j - min j heads.length = 0 := by omega
        rw [this]; rfl
      · rw [List.getElem?_set_ne (by omega), List.getElem?_append_right (by rw [List.length_take]; omega), List.length_take, List.getElem?_append_left (by rw [List.length_drop]; omega), List.getElem?_append_right (by rw [List.length_take]; omega), List.length_take]
        have e1 : j - min (a + 1) cur.length = j - (a + 1) := by omega
        have e2 : j - min a heads.length = (j - (a + 1)) + 1 := by omega
        rw [e1, e2, List.getElem?_cons_succ]
  · rw [if_neg hj, List.getElem?_eq_none]
    rw [List.length_append, List.length_take, List.length_cons, List.length_drop]
    omega
theorem splice_length {A : Type} {cur heads : List A} {a n : Nat} (hn : heads.length = n) (ha : a ≤ n) (hl : n + 1 ≤ cur.length) : (splice cur (a + 1) (heads.drop a)).length = cur.length :=
  length_splice _ _ _ (by rw [List.length_drop]; omega)

theorem info_row : (Tryd.prog.info? 25).map (fun i => (i.zero, i.size, i.bytes)) = some (some (.slice none 0 0), 1, 24) := by kernel_rfl

theorem sort_post {L : List (List Val)} {G : List (Value × List Val)} (hs : Sorted (G.map (·.2))) (hp : (G.map (·.2)).Perm (L.take L.length)) : G.map (·.2) = srt L := by
  rw [List.take_length] at hp
  exact srt_unique hp hs
theorem round_sorted {G : List (Value × List Val)} {hd : Value} {t : List Val} {a : Nat} (hs : Sorted (G.map (·.2))) (ha : a ≤ G.length) (h1 : a = 0 ∨ ¬ 0 < cmpRow (rAt (G.map (·.2)) (a - 1)) t) (h2 : ∀ j, a ≤ j → j < G.length → 0 < cmpRow (rAt (G.map (·.2)) j) t) : Sorted ((G.take a ++ (hd, t) :: G.drop a).map (·.2)) := by
  rw [List.map_append, List.map_cons, List.map_take, List.map_drop]
  exact ins_sorted hs (by rw [List.length_map]; exact ha) h1 (fun j hj hl => h2 j hj (by rw [List.length_map] at hl; exact hl))
theorem round_perm {G : List (Value × List Val)} {L : List (List Val)} {hd : Value} {a k : Nat} (hk : k < L.length) (hp : (G.map (·.2)).Perm (L.take k)) : ((G.take a ++ (hd, rAt L k) :: G.drop a).map (·.2)).Perm (L.take (k + 1)) := by
  rw [List.map_append, List.map_cons, List.map_take, List.map_drop, take_row hk]
  exact ins_perm.trans (hp.append_right _)

/-- A row that the call owns, as its block. -/
theorem own_block {u : World} {base g n c : Nat} {e : TypeId} {xs : List Value} (h : u.ownsRow base e 1 (.slice (some ⟨g, 0, none⟩) n c) n xs) : ∃ cur : List Value, u.heap[g]? = some (.cells cur.toArray e (0, 0)) ∧ base ≤ g ∧ n ≤ c ∧ c ≤ maxLen ∧ cur.length = c ∧ cur.take n = xs := by
  rcases h.2 with ⟨h1, -⟩ | ⟨g', cap, cur, h1, h2, h3, h4, h5, h6, h7⟩
  · cases h1
  · injection h1 with e1 _ e3
    have e1 := congrArg Addr.block (Option.some.inj e1)
    simp only at e1
    subst e1 e3
    exact ⟨cur.toList, by simpa using h3, h2, h4, h5, by simpa using h6, by simpa using h7⟩
theorem block_own {u : World} {base g n c : Nat} {e : TypeId} {xs cur : List Value} (hb : u.heap[g]? = some (.cells cur.toArray e (0, 0))) (hg : base ≤ g) (hn : n ≤ c) (hm : c ≤ maxLen) (hl : cur.length = c) (ht : cur.take n = xs) (hx : xs.length = n) : u.ownsRow base e 1 (.slice (some ⟨g, 0, none⟩) n c) n xs :=
  ⟨by omega, .inr ⟨g, c, cur.toArray, rfl, hg, hb, hn, hm, by simpa using hl, by simpa using ht⟩⟩
theorem heads_src {u : World} {g a n : Nat} {e : TypeId} {cur heads : List Value} {z : Value} (hc : u.heap[g]? = some (.cells cur.toArray e (0, 0))) (ht : cur.take (n + 1) = heads ++ [z]) (hn : heads.length = n) : ∀ j v, (heads.drop a)[j]? = some v → u.cell? ((⟨g, a, none⟩ : Addr).add j) = some v := by
  intro j v hj
  have hadd : (⟨g, a, none⟩ : Addr).add j = ⟨g, a + j, none⟩ := by unfold Addr.add; split <;> simp_all
  rw [List.getElem?_drop] at hj
  have hlt := (List.getElem?_eq_some_iff.1 hj).1
  rw [hadd, Joins.cell_of_block hc]
  have : (cur.take (n + 1))[a + j]? = some v := by rw [ht, List.getElem?_append_left hlt]; exact hj
  rw [List.getElem?_take, if_pos (by omega)] at this
  simpa using this
/-- copy within a row that is known whole, as a step of a drawn region: all other blocks stay. -/
theorem step_copy_in {P : Program} {ops : Array Oper} {o : Oper} {a : Act} {w : World} {K : Act → World → Prop} {Q : Exit → Act → World → Prop} {E : Prop} (hgd : o.guard = none) (d s : Operand) (dT sT : TypeId)
    (ho : o.op = .call { callee := .builtin .copy, args := #[d, s], argTypes := #[dT, sT] }) (elem : TypeId) (hu : P.underlying dT = some (.slice elem)) (hsz : (P.info? elem).map (·.size) = some 1)
    (dp sp : Option Addr) (dLen dCap sLen sCap : Nat) (hd : a.eval d = .slice dp dLen dCap) (hs : a.eval s = .slice sp sLen sCap)
    (g off : Nat) (cur : List Value) (t : TypeId) (hg : w.heap[g]? = some (.cells cur.toArray t (0, 0))) (cs : List Value) (hn : cs.length = min sLen dLen)
    (hpos : 0 < cs.length → dp = some ⟨g, off, none⟩ ∧ ∃ ad, sp = some ad ∧ ∀ j v, cs[j]? = some v → w.cell? (ad.add j) = some v)
    (hfit : off + cs.length ≤ cur.length) (h1 : ∀ v ∈ cs, v.oneCell' = true)
    (h : ∀ w', Hid (w'.heap[g]? = some (.cells (splice cur off cs).toArray t (0, 0))) → w.grownBy w' (some g) → K (a.put o.dst (goInt cs.length)) w') :
    if Region.wanted o (yielded ops a.tmps) = true then Oper.wp P o a w K Q else E := by
  have hw : Region.wanted o (yielded ops a.tmps) = true := by simp [Region.wanted, hgd]
  rw [if_pos hw]
  by_cases h0 : cs.length = 0
  · obtain rfl : cs = [] := List.eq_nil_of_length_eq_zero h0
    have hrun := run_copy_none (P := P) w dT sT o.type elem dp sp dLen dCap sLen sCap hu hsz (by simpa using hn.symm)
    unfold Oper.wp
    simp [execOp, ho, resolve, invoke, builtin, hd, hs, hrun, Result.andThen]
    exact h w (show _ = _ by simpa [splice] using hg) (World.grownBy.refl w _)
  · obtain ⟨rfl, ad, rfl, hsrc⟩ := hpos (by omega)
    have hrun := run_copy_row (P := P) w dT sT o.type elem g off dLen dCap ad sLen sCap cur.toArray t cs hu hsz hg hn hsrc (by simpa using hfit) h1
    unfold Oper.wp
    simp [execOp, ho, resolve, invoke, builtin, hd, hs, hrun, Result.andThen]
    exact h _ (show _ = _ by simpa [splice] using setRow_heap w g _ _ t _ hg) ⟨rfl, rfl, rfl, by simp [World.setRow], fun k _ hk => setRow_other w g k _ (fun e => hk (by rw [e]))⟩
theorem step_shift {ops : Array Oper} {o : Oper} {a : Act} {w : World} {K : Act → World → Prop} {Q : Exit → Act → World → Prop} {E : Prop} (hgd : o.guard = none) (d s : Operand)
    (ho : o.op = .call { callee := .builtin .copy, args := #[d, s], argTypes := #[39, 39] }) (g A n : Nat) (cur heads : List Value) (z : Value) (dp : Option Addr) (dCap sCap : Nat) (hd : a.eval d = .slice dp (n - A) dCap) (hs : a.eval s = .slice (some ⟨g, A, none⟩) (n + 1 - A) sCap)
    (hg : w.heap[g]? = some (.cells cur.toArray 25 (0, 0))) (ht : cur.take (n + 1) = heads ++ [z]) (hn : heads.length = n) (hA : A ≤ n) (hdp : A < n → dp = some ⟨g, A + 1, none⟩) (h1 : ∀ v ∈ heads, v.oneCell' = true)
    (h : ∀ w', Hid (w'.heap[g]? = some (.cells (splice cur (A + 1) (heads.drop A)).toArray 25 (0, 0))) → w.grownBy w' (some g) → K (a.put o.dst (goInt ((n - A : Nat) : Int))) w') :
    if Region.wanted o (yielded ops a.tmps) = true then Oper.wp Tryd.prog o a w K Q else E := by
  have hl : n + 1 ≤ cur.length := by
    have := congrArg List.length ht
    rw [List.length_take, List.length_append, List.length_singleton] at this
    omega
  have hlen : (heads.drop A).length = n - A := by rw [List.length_drop, hn]
  refine step_copy_in (P := Tryd.prog) hgd d s _ _ ho 25 Tryd.underlying39 (by kernel_rfl) dp (some ⟨g, A, none⟩) (n - A) dCap (n + 1 - A) sCap hd hs g (A + 1) cur 25 hg (heads.drop A) (by rw [hlen]; omega) (fun h0 => ⟨hdp (by omega), _, rfl, heads_src hg ht hn⟩) (by omega) (fun v hv => h1 v (List.mem_of_mem_drop hv)) ?_
  rw [hlen]
  exact h
/-- The rows behind a round: the new one is put in. -/
theorem round_rows {u : World} {base g n c a : Nat} {cur : List Value} {G : List (Value × List Val)} {hd : Value × List Val} (hb : u.heap[g]? = some (.cells cur.toArray 25 (0, 0))) (hg : base ≤ g) (hc : n + 1 ≤ c) (hm : c ≤ maxLen) (hl : cur.length = c) (hn : G.length = n) (ha : a ≤ n)
    (ht : cur.take (n + 1) = (G.map (·.1)).take a ++ hd.1 :: (G.map (·.1)).drop a) (hin : ∀ x ∈ G, InRow u base x) (hh : InRow u base hd) : Rows2 u base (.slice (some ⟨g, 0, none⟩) (G.take a ++ hd :: G.drop a).length c) (G.take a ++ hd :: G.drop a) := by
  have hlen : (G.take a ++ hd :: G.drop a).length = n + 1 := by rw [List.length_append, List.length_take, List.length_cons, List.length_drop]; omega
  refine ⟨?_, fun x hx => ?_⟩
  · rw [hlen]
    refine block_own hb hg hc hm hl ?_ (by rw [List.length_map, hlen])
    rw [List.map_append, List.map_cons, List.map_take, List.map_drop]
    exact ht
  · rcases List.mem_append.1 hx with hx | hx
    · exact hin x (List.mem_of_mem_take hx)
    · rcases List.mem_cons.1 hx with rfl | hx
      · exact hh
      · exact hin x (List.mem_of_mem_drop hx)
theorem nil_news (v : World) : ∀ j u, ([Value.slice none 0 0] : List Value)[j]? = some u → (v.alloc (.cells #[.slice none 0 0] 25)).cell? ((⟨v.heap.size, 0, none⟩ : Addr).add j) = some u := by
  intro j u hj
  have : j = 0 := by have := (List.getElem?_eq_some_iff.1 hj).1; simp at this; omega
  subst this
  obtain rfl := Option.some.inj hj
  show (v.alloc _).cell? ⟨v.heap.size, 0, none⟩ = _
  go_simp

theorem sort_keep {w wX w8 w9 : World} {G : List (Value × List Val)} {vo : Value} {n n8 c8 g8 : Nat} {xs xs8 : List Value} {o : Obj} (hB : Below w.heap.size w wX) (hin : ∀ x ∈ G, InRow wX w.heap.size x) (ho : wX.ownsRow w.heap.size 25 1 vo n xs) (hg8 : (wX.alloc o).grownBy w8 vo.ownBlock)
    (ho8 : w8.ownsRow w.heap.size 25 1 (.slice (some ⟨g8, 0, none⟩) n8 c8) n8 xs8) (hg9 : w8.drew.grownBy w9 (some g8)) : Below w.heap.size w w9 ∧ ∀ x ∈ G, InRow w9 w.heap.size x := by
  have hB7 := below_new hB o
  have hB8 : Below w.heap.size w w8 := hB7.grown hg8 hB7.size (fun k hk => (ho.lt k hk).1)
  have hg8' : w.heap.size ≤ g8 := (ho8.lt g8 rfl).1
  refine ⟨hB8.drew.grown hg9 hB8.size (fun k hk => by obtain rfl := Option.some.inj hk; exact hg8'), fun x hx => ?_⟩
  have h7 := (hin x hx).low (below_alloc wX o)
  have h8 : InRow w8 w.heap.size x := h7.apart (ho.alloc o) fun k hk hne => hg8.block k hk (fun e => hne e.symm)
  exact InRow.apart (u := w8.drew) (v := w9) h8 (show w8.drew.ownsRow _ _ _ _ _ _ from ho8) fun k hk hne => hg9.block k hk (fun e => hne e.symm)
theorem InRow.base {u : World} {b b' : Nat} {x : Value × List Val} (h : InRow u b x) (hb : b' ≤ b) : InRow u b' x := ⟨owns_base h.1 hb, h.2⟩
theorem sort_round {w w9 w10 : World} {G : List (Value × List Val)} {hd : Value × List Val} {A g8 c8 : Nat} {cur : List Value} {z : Value} (hB9 : Below w.heap.size w w9) (hin : ∀ x ∈ G, InRow w9 w.heap.size x) (hc9 : w9.heap[g8]? = some (.cells (splice cur (A + 1) ((G.map (·.1)).drop A)).toArray 25 (0, 0)))
    (ht : cur.take (G.length + 1) = G.map (·.1) ++ [z]) (hA : A ≤ G.length) (hg : w.heap.size ≤ g8) (hn : G.length + 1 ≤ c8) (hm : c8 ≤ maxLen) (hl : cur.length = c8) (hin10 : InRow w10 w9.heap.size hd) (hb10 : Below w9.heap.size w9 w10) :
    Rows2 (w10.setCell ⟨g8, A, none⟩ hd.1) w.heap.size (.slice (some ⟨g8, 0, none⟩) (G.take A ++ hd :: G.drop A).length c8) (G.take A ++ hd :: G.drop A) ∧ Below w.heap.size w (w10.setCell ⟨g8, A, none⟩ hd.1) ∧ (∃ y, w10.cell? ⟨g8, A, none⟩ = some y) ∧ w10.frozen? ⟨g8, A, none⟩ = false := by
  have hlt : g8 < w9.heap.size := (Array.getElem?_eq_some_iff.1 hc9).1
  have hc10 : w10.heap[g8]? = some (.cells (splice cur (A + 1) ((G.map (·.1)).drop A)).toArray 25 (0, 0)) := by rw [hb10.block g8 hlt]; exact hc9
  have hsl := splice_length (cur := cur) (heads := G.map (·.1)) (a := A) (n := G.length) (List.length_map _) hA (by omega)
  have hB10 := below_next hB9 hb10
  have ho10 : w10.ownsRow w.heap.size 25 1 (.slice (some ⟨g8, 0, none⟩) (G.length + 1) c8) (G.length + 1) ((splice cur (A + 1) ((G.map (·.1)).drop A)).take (G.length + 1)) :=
    block_own hc10 hg hn hm (by rw [hsl, hl]) rfl (by rw [List.length_take, hsl]; omega)
  have hap : ∀ x b, InRow w10 b x → InRow (w10.setCell ⟨g8, A, none⟩ hd.1) b x := fun x b hx => hx.apart ho10 fun k hk hne => Below.heap_setCell _ _ _ _ (fun e => hne (by rw [e]; rfl))
  have hset := Joins.block_setCell (i := A) hc10 hd.1
  rw [List.setIfInBounds_toArray] at hset
  refine ⟨round_rows hset hg hn hm (by rw [List.length_set, hsl, hl]) rfl hA (ins_cells (List.length_map _) ht hA) (fun x hx => hap x _ ((hin x hx).low hb10)) (hap hd _ (hin10.base hB9.size)), hB10.setCell (by exact hg) _, ?_, Joins.unfrozen_of_block hc10 A⟩
  rw [Joins.cell_of_block hc10]
  refine ⟨(splice cur (A + 1) ((G.map (·.1)).drop A))[A]'(by omega), ?_⟩
  rw [List.getElem?_toArray, List.getElem?_eq_getElem]
theorem heads_one {u : World} {base : Nat} {G : List (Value × List Val)} (h : ∀ x ∈ G, InRow u base x) : ∀ v ∈ G.map (·.1), v.oneCell' = true := by
  intro v hv
  obtain ⟨x, hx, rfl⟩ := List.mem_map.1 hv
  rcases (h x hx).1.2 with ⟨h1, -⟩ | ⟨g, cap, cur, h1, -⟩
  · rw [h1]; rfl
  · rw [h1]; rfl

def SortPost (L : List (List Val)) (w : World) (e : Ending) (w' : World) : Prop := ∃ (p : Option Addr) (cap : Nat) (G : List (Value × List Val)), e = .returned (.slice p L.length cap) ∧ G.map (·.2) = srt L ∧ Rows2 w' w.heap.size (.slice p G.length cap) G ∧ Below w.heap.size w w'
set_option maxRecDepth 100000 in
set_option maxHeartbeats 4000000 in
theorem rsort_any (L : List (List Val)) (p : Option Addr) (cap : Nat) (w : World) (hL : L.length ≤ 1000) (hp : RowsAt w p L) :
    Calls Tryd.prog 24 #[.slice p L.length cap] w (SortPost L w) := by
  obtain ⟨i25, hi25, hz25, hs25, hb25⟩ := info_parts info_row
  have HP := Lib.hid hp
  clear hp
  go_enter Tryd.func24, Tryd.ntmps24
  go_wp2_with fail
  go_loopw [3, 9] (fun vo i v => ∃ (k : Nat) (G : List (Value × List Val)) (po : Option Addr) (co : Nat), k ≤ L.length ∧ vo = .slice po G.length co ∧ i = .int .i64 k ∧ Rows2 v w.heap.size (.slice po G.length co) G ∧ Sorted (G.map (·.2)) ∧ (G.map (·.2)).Perm (L.take k) ∧ Below w.heap.size w v) (fun _ i _ => L.length - (intOf i).toNat)
  case atStart => exact ⟨0, [], none, 0, Nat.zero_le _, rfl, rfl, Rows2.nil _ _, List.Pairwise.nil, by simp, Below.refl _ _⟩
  case round =>
    obtain ⟨k, G, po, co, hk, rfl, rfl, hg, hso, hpe, hb⟩ := hrel
    have HG := Lib.hid hg
    have HSO := Lib.hid hso
    have HPE := Lib.hid hpe
    have HB := Lib.hid hb
    have hgl : G.length ≤ k := by have := hpe.length_eq; rw [List.length_map, List.length_take] at this; omega
    clear hg hso hpe hb
    by_cases hlt : k < L.length
    · have hlt' : decide ((k : Int) < L.length) = true := decide_eq_true (by omega)
      obtain ⟨c, o, q, cp, rfl, hc', h0', hr00, hs, hqn⟩ := HP.out k hlt
      have hc : c < wr.heap.size := Nat.lt_of_lt_of_le hc' HB.out.size
      have h0 : wr.cell? ⟨c, o + k, none⟩ = some (.slice q (rAt L k).length cp) := by rw [HB.out.cell (by exact hc')]; exact h0'
      have HQN := Lib.hid hqn
      clear hqn h0'
      go_wp2_with fail
      have HR0 := Lib.hid hr00
      go_loopw [6] (fun x v => ∃ a : Nat, x = .int .i64 a ∧ a ≤ G.length ∧ (∀ j, a ≤ j → j < G.length → 0 < cmpRow (rAt (G.map (·.2)) j) (rAt L k)) ∧ Rows2 v w.heap.size (.slice po G.length co) G ∧ Below w.heap.size w v) (fun x _ => (intOf x).toNat)
      case atStart => exact ⟨G.length, rfl, Nat.le_refl _, fun j h1 h2 => by omega, HG.out, HB.out⟩
      clear HG HB h0 hc hr00
      case round =>
        obtain ⟨a, rfl, ha, hgt, hg, hb⟩ := hrel
        have HGT := Lib.hid hgt
        have HG := Lib.hid hg
        have HB := Lib.hid hb
        clear hgt hg hb
        by_cases ha0 : 0 < a
        · obtain ⟨a, rfl⟩ : ∃ d, a = d + 1 := ⟨a - 1, by omega⟩
          have ha0' : decide ((0 : Int) < ((a + 1 : Nat) : Int)) = true := decide_eq_true (by omega)
          obtain ⟨g, rfl, hgz, g0, hgr, -, hgs⟩ := HG.out.read a (by omega)
          have HGR := Lib.hid hgr
          have HRW := Lib.hid (gAt_row (G := G) (i := a) (by omega))
          clear hgr
          go_wp2_with fail
          refine (rcomparerows_any _ q (gAt G a).2 (rAt L k) _ cp _ (by omega) (by omega) HGR.out (HR0.out.low HB.out)).mono ?_
          rintro e v1 ⟨rfl, hb1⟩
          have HG1 := Lib.hid (HG.out.low hb1)
          have HB1 := Lib.hid (below_next HB.out hb1)
          clear HG HB HGR hb1 g0 hgz hgs
          cases hcmp : decide (0 < cmpRow (gAt G a).2 (rAt L k))
          · have H1 : Hid (a + 1 = 0 ∨ ¬ 0 < cmpRow (rAt (G.map (·.2)) (a + 1 - 1)) (rAt L k)) := Lib.hid (.inr (by rw [Nat.add_sub_cancel, ← HRW.out]; exact of_decide_eq_false hcmp))
            have HG := HG1
            have HB := HB1
            clear HG1 HB1
            have HG7 := Lib.hid (HG.out.1.alloc (.cells #[.slice none 0 0] 25))
            have HNEW := Lib.hid (nil_news v1)
            have HZ7 : Hid (w.heap.size ≤ (v1.alloc (.cells #[.slice none 0 0] 25)).heap.size) := Lib.hid (by rw [size_alloc]; have := HB.out.size; omega)
            have HIN := Lib.hid HG.out.2
            have HGO := Lib.hid HG.out.1
            clear HG
            go_wp2_with (at_builtin; refine wpList_append_lies _ rfl (.tmp 29) (.tmp 30) 39 rfl w.heap.size 25 i25 _ 1 24 Tryd.underlying39 hi25 hz25 hs25 hb25 rfl (by decide) (.slice (some ⟨g, 0, none⟩) G.length co) G.length (G.map (·.1)) (by rfl) HG7.out ⟨v1.heap.size, 0, none⟩ 1 1 [.slice none 0 0] (by rfl) rfl HNEW.out (by intro u hu; obtain rfl := List.mem_singleton.1 hu; rfl) (by decide) (by unfold maxLen; omega) (by omega) HZ7.out _ rfl ?_; intro g8 c8 w8 hown8 hgr8 hat8 hlt8; obtain ⟨cur8, hcur8, hg8, hn8, hm8, hl8, ht8⟩ := own_block hown8; (have HCUR := Lib.hid hcur8); (have HT8 := Lib.hid ht8); (have HGR := Lib.hid hgr8); (have HOWN := Lib.hid hown8); clear hown8 hcur8 ht8 hgr8 hat8)
            have hsz1 : (Tryd.prog.info? 25).map (·.size) = some 1 := by kernel_rfl
            rw [show ((a : Int) + 1) = ((a + 1 : Nat) : Int) by omega]
            generalize a + 1 = A at *
            have hAG : A ≤ G.length := ha
            have hw : IntKind.i64.wrap ((A : Int) + 1) = (A : Int) + 1 := i64w (by omega) (by omega)
            have htn : ((A : Int) + 1).toNat = A + 1 := by omega
            have hb0 : (0 : Int) ≤ (A : Int) + 1 := by omega
            have hb1 : (A : Int) + 1 ≤ (G.length : Int) + 1 := by omega
            have hb2 : (A : Int) ≤ (G.length : Int) + 1 := by omega
            have hb3 : (0 : Int) ≤ (A : Int) := by omega
            have hc8 : ¬ c8 = A := by omega
            have HAG := Lib.hid hAG
            have HN8 := Lib.hid hn8
            have HCURD : Hid (w8.drew.heap[g8]? = some (.cells cur8.toArray 25 (0, 0))) := Lib.hid HCUR.out
            by_cases hcap : c8 = A + 1
            · have HD : Hid (A < G.length → (some ⟨g8, 0, none⟩ : Option Addr) = some ⟨g8, A + 1, none⟩) := Lib.hid (fun h => by omega)
              go_region_law ((refine step_shift (by rfl) (.tmp 35) (.tmp 38) (by rfl) g8 A G.length cur8 (G.map (·.1)) (.slice none 0 0) (some ⟨g8, 0, none⟩) 0 1 (by simp [Act.eval, Act.put]) (by simp [Act.eval, Act.put]) HCURD.out HT8.out (List.length_map _) HAG.out HD.out (heads_one HIN.out) ?_); intro w9 hcur9 hgr9)
              obtain ⟨hB9, hin9⟩ := sort_keep HB.out HIN.out HGO.out HGR.out HOWN.out hgr9
              have HB9 := Lib.hid hB9
              have HIN9 := Lib.hid hin9
              have HC9 := Lib.hid hcur9.out
              clear hB9 hin9 hcur9 hgr9 HB HIN HGO HGR HOWN HCUR HCURD HG7 HNEW HZ7
              go_wp2_with fail
              refine (rcopy_any (rAt L k) q cp _ (HR0.out.low HB9.out) hs HQN.out).mono ?_
              rintro e w10 ⟨v10, rfl, hin10, hb10⟩
              obtain ⟨hR10, hB10, ⟨y10, hy10⟩, hf10⟩ := sort_round HB9.out HIN9.out HC9.out HT8.out HAG.out hg8 HN8.out hm8 hl8 hin10 hb10
              have hv10 : v10 = .slice (rowP v10) (rAt L k).length (rowC v10) := (owned_shape hin10.1).1
              generalize rowP v10 = p10 at hv10
              generalize rowC v10 = c10 at hv10
              subst hv10
              have HR10 := Lib.hid hR10
              have HB10 := Lib.hid hB10
              have hlen : (G.take A ++ (Value.slice p10 (rAt L k).length c10, rAt L k) :: G.drop A).length = G.length + 1 := by rw [List.length_append, List.length_take, List.length_cons, List.length_drop]; omega
              have HLEN := Lib.hid hlen
              have hAI : (A : Int) < (G.length : Int) + 1 := by omega
              clear hR10 hB10 hin10 hb10 hlen
              go_wp2
              go_roundw
              case rel => exact ⟨k + 1, G.take A ++ (Value.slice p10 (rAt L k).length c10, rAt L k) :: G.drop A, some ⟨g8, 0, none⟩, c8, by omega, by rw [HLEN.out]; rw [hcap], by go_num, HR10.out, round_sorted HSO.out HAG.out (by first | exact H1.out | exact H1.out.imp id (fun h => by omega)) HGT.out, round_perm hlt HPE.out, HB10.out⟩
              case measure => simp [intOf]; omega
            · go_region_law ((refine step_shift (by rfl) (.tmp 35) (.tmp 38) (by rfl) g8 A G.length cur8 (G.map (·.1)) (.slice none 0 0) (some ⟨g8, A + 1, none⟩) (c8 - (A + 1)) (c8 - A) (by simp [Act.eval, Act.put]) (by simp [Act.eval, Act.put]) HCURD.out HT8.out (List.length_map _) HAG.out (fun _ => rfl) (heads_one HIN.out) ?_); intro w9 hcur9 hgr9)
              obtain ⟨hB9, hin9⟩ := sort_keep HB.out HIN.out HGO.out HGR.out HOWN.out hgr9
              have HB9 := Lib.hid hB9
              have HIN9 := Lib.hid hin9
              have HC9 := Lib.hid hcur9.out
              clear hB9 hin9 hcur9 hgr9 HB HIN HGO HGR HOWN HCUR HCURD HG7 HNEW HZ7
              go_wp2_with fail
              refine (rcopy_any (rAt L k) q cp _ (HR0.out.low HB9.out) hs HQN.out).mono ?_
              rintro e w10 ⟨v10, rfl, hin10, hb10⟩
              obtain ⟨hR10, hB10, ⟨y10, hy10⟩, hf10⟩ := sort_round HB9.out HIN9.out HC9.out HT8.out HAG.out hg8 HN8.out hm8 hl8 hin10 hb10
              have hv10 : v10 = .slice (rowP v10) (rAt L k).length (rowC v10) := (owned_shape hin10.1).1
              generalize rowP v10 = p10 at hv10
              generalize rowC v10 = c10 at hv10
              subst hv10
              have HR10 := Lib.hid hR10
              have HB10 := Lib.hid hB10
              have hlen : (G.take A ++ (Value.slice p10 (rAt L k).length c10, rAt L k) :: G.drop A).length = G.length + 1 := by rw [List.length_append, List.length_take, List.length_cons, List.length_drop]; omega
              have HLEN := Lib.hid hlen
              have hAI : (A : Int) < (G.length : Int) + 1 := by omega
              clear hR10 hB10 hin10 hb10 hlen
              go_wp2
              go_roundw
              case rel => exact ⟨k + 1, G.take A ++ (Value.slice p10 (rAt L k).length c10, rAt L k) :: G.drop A, some ⟨g8, 0, none⟩, c8, by omega, by rw [HLEN.out], by go_num, HR10.out, round_sorted HSO.out HAG.out (by first | exact H1.out | exact H1.out.imp id (fun h => by omega)) HGT.out, round_perm hlt HPE.out, HB10.out⟩
              case measure => simp [intOf]; omega
          · have hpos := of_decide_eq_true hcmp
            rw [HRW.out] at hpos
            have HPOS := Lib.hid hpos
            clear hpos
            go_wp2
            go_roundw
            case rel => exact ⟨a, by go_num, by omega, fun j h1 h2 => by
              by_cases hja : j = a
              · subst hja; exact HPOS.out
              · exact HGT.out j (by omega) h2, HG1.out, HB1.out⟩
            case measure => simp [intOf]
        · have ha0' : decide ((0 : Int) < (a : Int)) = false := decide_eq_false (by omega)
          obtain ⟨A, rfl⟩ : ∃ A, A = a := ⟨a, rfl⟩
          have H1 : Hid (A = 0 ∨ ¬ 0 < cmpRow (rAt (G.map (·.2)) (A - 1)) (rAt L k)) := Lib.hid (.inl (by omega))
          have HG7 := Lib.hid (HG.out.1.alloc (.cells #[.slice none 0 0] 25))
          have HNEW := Lib.hid (nil_news wr)
          have HZ7 : Hid (w.heap.size ≤ (wr.alloc (.cells #[.slice none 0 0] 25)).heap.size) := Lib.hid (by rw [size_alloc]; have := HB.out.size; omega)
          have HIN := Lib.hid HG.out.2
          have HGO := Lib.hid HG.out.1
          clear HG
          go_wp2_with (at_builtin; refine wpList_append_lies _ rfl (.tmp 29) (.tmp 30) 39 rfl w.heap.size 25 i25 _ 1 24 Tryd.underlying39 hi25 hz25 hs25 hb25 rfl (by decide) (.slice po G.length co) G.length (G.map (·.1)) (by rfl) HG7.out ⟨wr.heap.size, 0, none⟩ 1 1 [.slice none 0 0] (by rfl) rfl HNEW.out (by intro u hu; obtain rfl := List.mem_singleton.1 hu; rfl) (by decide) (by unfold maxLen; omega) (by omega) HZ7.out _ rfl ?_; intro g8 c8 w8 hown8 hgr8 hat8 hlt8; obtain ⟨cur8, hcur8, hg8, hn8, hm8, hl8, ht8⟩ := own_block hown8; (have HCUR := Lib.hid hcur8); (have HT8 := Lib.hid ht8); (have HGR := Lib.hid hgr8); (have HOWN := Lib.hid hown8); clear hown8 hcur8 ht8 hgr8 hat8)
          have hsz1 : (Tryd.prog.info? 25).map (·.size) = some 1 := by kernel_rfl
          skip
          have hAG : A ≤ G.length := ha
          have hw : IntKind.i64.wrap ((A : Int) + 1) = (A : Int) + 1 := i64w (by omega) (by omega)
          have htn : ((A : Int) + 1).toNat = A + 1 := by omega
          have hb0 : (0 : Int) ≤ (A : Int) + 1 := by omega
          have hb1 : (A : Int) + 1 ≤ (G.length : Int) + 1 := by omega
          have hb2 : (A : Int) ≤ (G.length : Int) + 1 := by omega
          have hb3 : (0 : Int) ≤ (A : Int) := by omega
          have hc8 : ¬ c8 = A := by omega
          have HAG := Lib.hid hAG
          have HN8 := Lib.hid hn8
          have HCURD : Hid (w8.drew.heap[g8]? = some (.cells cur8.toArray 25 (0, 0))) := Lib.hid HCUR.out
          by_cases hcap : c8 = A + 1
          · have HD : Hid (A < G.length → (some ⟨g8, 0, none⟩ : Option Addr) = some ⟨g8, A + 1, none⟩) := Lib.hid (fun h => by omega)
            go_region_law ((refine step_shift (by rfl) (.tmp 35) (.tmp 38) (by rfl) g8 A G.length cur8 (G.map (·.1)) (.slice none 0 0) (some ⟨g8, 0, none⟩) 0 1 (by simp [Act.eval, Act.put]) (by simp [Act.eval, Act.put]) HCURD.out HT8.out (List.length_map _) HAG.out HD.out (heads_one HIN.out) ?_); intro w9 hcur9 hgr9)
            obtain ⟨hB9, hin9⟩ := sort_keep HB.out HIN.out HGO.out HGR.out HOWN.out hgr9
            have HB9 := Lib.hid hB9
            have HIN9 := Lib.hid hin9
            have HC9 := Lib.hid hcur9.out
            clear hB9 hin9 hcur9 hgr9 HB HIN HGO HGR HOWN HCUR HCURD HG7 HNEW HZ7
            go_wp2_with fail
            refine (rcopy_any (rAt L k) q cp _ (HR0.out.low HB9.out) hs HQN.out).mono ?_
            rintro e w10 ⟨v10, rfl, hin10, hb10⟩
            obtain ⟨hR10, hB10, ⟨y10, hy10⟩, hf10⟩ := sort_round HB9.out HIN9.out HC9.out HT8.out HAG.out hg8 HN8.out hm8 hl8 hin10 hb10
            have hv10 : v10 = .slice (rowP v10) (rAt L k).length (rowC v10) := (owned_shape hin10.1).1
            generalize rowP v10 = p10 at hv10
            generalize rowC v10 = c10 at hv10
            subst hv10
            have HR10 := Lib.hid hR10
            have HB10 := Lib.hid hB10
            have hlen : (G.take A ++ (Value.slice p10 (rAt L k).length c10, rAt L k) :: G.drop A).length = G.length + 1 := by rw [List.length_append, List.length_take, List.length_cons, List.length_drop]; omega
            have HLEN := Lib.hid hlen
            have hAI : (A : Int) < (G.length : Int) + 1 := by omega
            clear hR10 hB10 hin10 hb10 hlen
            go_wp2
            go_roundw
            case rel => exact ⟨k + 1, G.take A ++ (Value.slice p10 (rAt L k).length c10, rAt L k) :: G.drop A, some ⟨g8, 0, none⟩, c8, by omega, by rw [HLEN.out]; rw [hcap], by go_num, HR10.out, round_sorted HSO.out HAG.out (by first | exact H1.out | exact H1.out.imp id (fun h => by omega)) HGT.out, round_perm hlt HPE.out, HB10.out⟩
            case measure => simp [intOf]; omega
          · go_region_law ((refine step_shift (by rfl) (.tmp 35) (.tmp 38) (by rfl) g8 A G.length cur8 (G.map (·.1)) (.slice none 0 0) (some ⟨g8, A + 1, none⟩) (c8 - (A + 1)) (c8 - A) (by simp [Act.eval, Act.put]) (by simp [Act.eval, Act.put]) HCURD.out HT8.out (List.length_map _) HAG.out (fun _ => rfl) (heads_one HIN.out) ?_); intro w9 hcur9 hgr9)
            obtain ⟨hB9, hin9⟩ := sort_keep HB.out HIN.out HGO.out HGR.out HOWN.out hgr9
            have HB9 := Lib.hid hB9
            have HIN9 := Lib.hid hin9
            have HC9 := Lib.hid hcur9.out
            clear hB9 hin9 hcur9 hgr9 HB HIN HGO HGR HOWN HCUR HCURD HG7 HNEW HZ7
            go_wp2_with fail
            refine (rcopy_any (rAt L k) q cp _ (HR0.out.low HB9.out) hs HQN.out).mono ?_
            rintro e w10 ⟨v10, rfl, hin10, hb10⟩
            obtain ⟨hR10, hB10, ⟨y10, hy10⟩, hf10⟩ := sort_round HB9.out HIN9.out HC9.out HT8.out HAG.out hg8 HN8.out hm8 hl8 hin10 hb10
            have hv10 : v10 = .slice (rowP v10) (rAt L k).length (rowC v10) := (owned_shape hin10.1).1
            generalize rowP v10 = p10 at hv10
            generalize rowC v10 = c10 at hv10
            subst hv10
            have HR10 := Lib.hid hR10
            have HB10 := Lib.hid hB10
            have hlen : (G.take A ++ (Value.slice p10 (rAt L k).length c10, rAt L k) :: G.drop A).length = G.length + 1 := by rw [List.length_append, List.length_take, List.length_cons, List.length_drop]; omega
            have HLEN := Lib.hid hlen
            have hAI : (A : Int) < (G.length : Int) + 1 := by omega
            clear hR10 hB10 hin10 hb10 hlen
            go_wp2
            go_roundw
            case rel => exact ⟨k + 1, G.take A ++ (Value.slice p10 (rAt L k).length c10, rAt L k) :: G.drop A, some ⟨g8, 0, none⟩, c8, by omega, by rw [HLEN.out], by go_num, HR10.out, round_sorted HSO.out HAG.out (by first | exact H1.out | exact H1.out.imp id (fun h => by omega)) HGT.out, round_perm hlt HPE.out, HB10.out⟩
            case measure => simp [intOf]; omega
    · have hlt' : decide ((k : Int) < L.length) = false := decide_eq_false (by omega)
      obtain rfl : k = L.length := by omega
      have hgl2 : G.length = L.length := by have := HPE.out.length_eq; rw [List.length_map, List.length_take, Nat.min_self] at this; exact this
      go_wp2
      go_ret
      exact ⟨po, co, G, by rw [← hgl2]; rfl, sort_post HSO.out HPE.out, HG.out, HB.out⟩
end Go.Proofs.YtlgagibmndbimaaDoor
