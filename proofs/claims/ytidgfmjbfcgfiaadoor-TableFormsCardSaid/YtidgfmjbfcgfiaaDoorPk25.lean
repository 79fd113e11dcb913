/-
  Several texts in one.
-/
import Derived.Test.YtidgfmjbfcgfiaaDoorPk24
import Derived.Test.YtidgfmjbfcgfiaaDoorPk11
import Derived.Test.YtidgfmjbfcgfiaaDoorPk12
/-
  Sort of package tuple.
-/
namespace Go.Proofs.YtidgfmjbfcgfiaaDoor
set_option maxRecDepth 100000
open Go.RowKit
variable {ls : List Nat}

/-- The list while its rows are copied: G are copies, the rest is as it was. -/
structure SortIn (w u : World) (v : Value) (S : List (List Val)) (xs : List Value) (G : List (Value × List Val)) : Prop where
  own : u.ownsRow w.heap.size 52 1 v S.length (G.map (·.1) ++ xs.drop G.length)
  inn : ∀ z ∈ G, InRow u w.heap.size z
  pre : G.map (·.2) = S.take G.length
  low : Below w.heap.size w u
  heads : HeadsAt w xs S
theorem SortIn.keep {w u u2 : World} {v : Value} {S : List (List Val)} {xs : List Value} {G : List (Value × List Val)} (h : SortIn w u v S xs G) (hb : Below u.heap.size u u2) : SortIn w u2 v S xs G :=
  ⟨owns_below h.own hb, fun z hz => (h.inn z hz).low hb, h.pre, below_next h.low hb, h.heads⟩
/-- The head that is read next. -/
theorem SortIn.read {w u : World} {v : Value} {S : List (List Val)} {xs : List Value} {G : List (Value × List Val)} (h : SortIn w u v S xs G) (hk : G.length < S.length) :
    ∃ (g c : Nat) (q : Option Addr) (cp : Nat), v = .slice (some ⟨g, 0, none⟩) S.length c ∧ g < u.heap.size ∧ u.cell? ⟨g, G.length, none⟩ = some (.slice q (rAt S G.length).length cp) ∧ u.frozen? ⟨g, G.length, none⟩ = false ∧ RowAt w q (rAt S G.length) ∧ (rAt S G.length).length * 32 ≤ 140737488355328 ∧ (q = none → rAt S G.length = [] ∧ cp = 0) := by
  obtain ⟨q, cp, h0, h1, h2, h3⟩ := h.heads.2 G.length hk
  obtain ⟨g, c, rfl⟩ : ∃ g c, v = .slice (some ⟨g, 0, none⟩) S.length c := by
    rcases h.own.2 with ⟨-, hz⟩ | ⟨g, cap, cur, rfl, -⟩
    · omega
    · exact ⟨g, cap, rfl⟩
  obtain ⟨cur, hcur, hg, hnc, hm, hl, ht⟩ := own_block h.own
  refine ⟨g, c, q, cp, rfl, (Array.getElem?_eq_some_iff.1 hcur).1, ?_, Joins.unfrozen_of_block hcur _, h1, h2, h3⟩
  rw [Joins.cell_of_block hcur]
  have : (cur.take S.length)[G.length]? = (G.map (·.1) ++ xs.drop G.length)[G.length]? := by rw [ht]
  rw [List.getElem?_take, if_pos hk, List.getElem?_append_right (by rw [List.length_map]; exact Nat.le_refl _), List.length_map, List.getElem?_drop, Nat.sub_self, Nat.add_zero, h0] at this
  simpa using this
theorem SortIn.put {w u u2 : World} {g c : Nat} {S : List (List Val)} {xs : List Value} {G : List (Value × List Val)} {z : Value × List Val} (h : SortIn w u (.slice (some ⟨g, 0, none⟩) S.length c) S xs G) (hk : G.length < S.length) (hb : Below u.heap.size u u2) (hz : InRow u2 u.heap.size z) (he : z.2 = rAt S G.length) :
    SortIn w (u2.setCell ⟨g, G.length, none⟩ z.1) (.slice (some ⟨g, 0, none⟩) S.length c) S xs (G ++ [z]) ∧ (∃ y, u2.cell? ⟨g, G.length, none⟩ = some y) ∧ u2.frozen? ⟨g, G.length, none⟩ = false := by
  have h2 := h.keep hb
  have hz2 : InRow u2 w.heap.size z := hz.base h.low.size
  obtain ⟨cur, hcur, hg, hnc, hm, hl, ht⟩ := own_block h2.own
  have hap : ∀ x b, InRow u2 b x → InRow (u2.setCell ⟨g, G.length, none⟩ z.1) b x := fun x b hx => hx.apart h2.own fun k hk hne => Below.heap_setCell _ _ _ _ (fun e => hne (by rw [e]; rfl))
  have hset := Joins.block_setCell (i := G.length) hcur z.1
  rw [List.setIfInBounds_toArray] at hset
  have hgl : G.length < cur.length := by omega
  refine ⟨⟨?_, ?_, ?_, h2.low.setCell (by exact hg) _, h.heads⟩, ?_, Joins.unfrozen_of_block hcur _⟩
  · refine block_own hset hg hnc hm (by rw [List.length_set, hl]) ?_ ?_
    · rw [List.take_set, ht, List.length_append, List.length_singleton, List.map_append, List.map_singleton, List.append_assoc]
      rw [List.set_append_right _ _ (by rw [List.length_map]; exact Nat.le_refl _), List.length_map, Nat.sub_self]
      have hx : G.length < xs.length := by rw [h.heads.1]; exact hk
      rw [List.drop_eq_getElem_cons hx]
      rfl
    · have hx := h.heads.1
      rw [List.length_append, List.length_map, List.length_drop, List.length_append, List.length_singleton]
      omega
  · intro x hx
    rcases List.mem_append.1 hx with hx | hx
    · exact hap _ _ (h2.inn x hx)
    · obtain rfl := List.mem_singleton.1 hx
      exact hap _ _ hz2
  · rw [List.map_append, List.map_singleton, List.length_append, List.length_singleton, take_row hk, h.pre, he]
  · rw [Joins.cell_of_block hcur]
    exact ⟨cur[G.length], by rw [List.getElem?_toArray, List.getElem?_eq_getElem]⟩
theorem SortIn.done {w u : World} {v : Value} {S : List (List Val)} {xs : List Value} {G : List (Value × List Val)} (h : SortIn w u v S xs G) (hk : G.length = S.length) : RowsAt u (rowP v) S := by
  have e : G.map (·.2) = S := by rw [h.pre, hk, List.take_length]
  have hx : xs.drop G.length = [] := List.drop_eq_nil_of_le (by rw [h.heads.1]; omega)
  have ho := h.own
  rw [hx, List.append_nil, ← hk] at ho
  have hr : Rows2 u w.heap.size v G := ⟨ho, h.inn⟩
  have := rows_of_heads hr.1 hr.heads
  rw [e] at this
  exact this

set_option maxHeartbeats 1000000 in
theorem sort_any (L : List (List Val)) (p : Option Addr) (cap : Nat) (w : World) (hL : L.length ≤ 1000) (hp : RowsAt w p L) :
    Calls Tryd.prog 48 #[.slice p L.length cap] w (SortedPost L w) := by
  have HP := Lib.hid hp
  clear hp
  have hln : (srt L).length = L.length := srt_length L
  unfold SortedPost
  go_enter Tryd.func48, Tryd.ntmps48
  go_wp2_with fail
  refine (ordered_any L p cap _ hL HP.out).mono ?_
  rintro e w1 ⟨v, rfl, hord⟩
  obtain ⟨hlow, xs, hown, hH⟩ := hord
  have hsh := (own_src hown).1
  have hS0 : SortIn w w1 v (srt L) xs [] := ⟨by simpa using hown, (fun z hz => by cases hz), by simp, hlow, hH⟩
  generalize hPV : rowP v = pv at hsh
  generalize hCV : rowC v = cv at hsh
  clear hPV hCV
  have HS0 := Lib.hid hS0
  have HLN := Lib.hid hln
  have hz : (srt L).length ≤ 1000 := by omega
  clear hS0 hown hH hlow hln
  generalize hSE : srt L = S at *
  have HSE := Lib.hid hSE
  clear hSE
  subst hsh
  go_wp2_with fail
  go_loopw [10] (fun i u => ∃ G : List (Value × List Val), i = .int .i64 G.length ∧ G.length ≤ S.length ∧ SortIn w u (.slice pv S.length cv) S xs G) (fun i _ => S.length - (intOf i).toNat)
  case atStart => exact ⟨[], rfl, Nat.zero_le _, HS0.out⟩
  clear HS0
  case round =>
    obtain ⟨G, rfl, hk, hs⟩ := hrel
    have HS := Lib.hid hs
    by_cases hlt : G.length < S.length
    · have hlt' : decide ((G.length : Int) < S.length) = true := decide_eq_true (by omega)
      obtain ⟨g, c, q, cp, hsl, hg, h0, hf0, hr, hrz, hn⟩ := hs.read hlt
      injection hsl with hp1 _ hp2
      subst hp1 hp2
      have hgI : (G.length : Int) < (S.length : Int) := by omega
      have HR := Lib.hid hr
      have HN := Lib.hid hn
      have HF := Lib.hid hf0
      clear hs hr hn hf0
      go_wp2_with fail
      refine (copyrow_any (rAt S G.length) q cp _ (HR.out.low HS.out.low) hrz HN.out).mono ?_
      rintro e u2 ⟨z, rfl, hzin, hb2⟩
      obtain ⟨hput, ⟨y, hy⟩, hf⟩ := HS.out.put (z := (z, rAt S G.length)) hlt hb2 hzin rfl
      have hzs : z = .slice (rowP z) (rAt S G.length).length (rowC z) := (owned_shape hzin.1).1
      clear hb2 hzin h0 hg HS HR
      generalize rowP z = pz at hzs
      generalize rowC z = cz at hzs
      subst hzs
      have HPUT := Lib.hid hput
      clear hput
      go_wp2
      go_roundw
      case rel => exact ⟨G ++ [(.slice pz (rAt S G.length).length cz, rAt S G.length)], by rw [List.length_append]; go_num, by rw [List.length_append, List.length_singleton]; omega, HPUT.out⟩
      case measure => simp [intOf]; omega
    · have hlt' : decide ((G.length : Int) < S.length) = false := decide_eq_false (by omega)
      have hG : G.length = S.length := by omega
      have HD := Lib.hid (hs.done hG)
      have HB := Lib.hid hs.low
      clear hs HS
      go_wp2
      go_ret
      rw [HSE.out]
      exact ⟨pv, cv, rfl, HD.out, HLN.out, HB.out⟩
end Go.Proofs.YtidgfmjbfcgfiaaDoor
/-
  Package table: Get, Bag.
-/
namespace Go.Proofs.YtidgfmjbfcgfiaaDoor
set_option maxRecDepth 100000
open Go.RowKit
variable {ls : List Nat}

set_option maxHeartbeats 1000000 in
theorem get_any (T : Tab) (id : Int) (w : World) (hT : TabAt w T) :
    Calls Tryd.prog 21 #[T.v, .int .i64 id] w (GetPost id T.R w) := by
  obtain ⟨nm, pc, n, cc, f, nx, pr, cr, R⟩ := T
  obtain ⟨hnm, hn, hC, hR, hl, hz⟩ := hT
  unfold Tab.v GetPost
  dsimp only at *
  have HR := Lib.hid hR
  clear hC hR hz
  go_enter Tryd.func21, Tryd.ntmps21
  go_wp2_with fail
  go_loopw [11] (fun i v => ∃ k : Nat, k ≤ R.length ∧ i = .int .i64 k ∧ (∀ j, j < k → (tAt R j).1 ≠ id) ∧ Below w.heap.size w v) (fun i _ => R.length - (intOf i).toNat)
  case atStart => exact ⟨0, Nat.zero_le _, rfl, fun j hj => by omega, below_new (Below.refl _ _) _⟩
  case round =>
    obtain ⟨k, hk, rfl, ha, hb⟩ := hrel
    have HA := Lib.hid ha
    have HB := Lib.hid hb
    clear ha hb
    by_cases hlt : k < R.length
    · have hlt' : decide ((k : Int) < R.length) = true := decide_eq_true (by omega)
      obtain ⟨c, o, q, cp, rfl, hc, h0, h1, hr, hs, hqn⟩ := HR.out.low HB.out k hlt
      have HQ := Lib.hid (hr.low (below_alloc wr (.cells #[.int .i64 (tAt R k).1, .slice q (tAt R k).2.length cp] 54)))
      have HN := Lib.hid hqn
      have hown0 : (wr.alloc (.cells #[.int .i64 (tAt R k).1, .slice q (tAt R k).2.length cp] 54)).ownsRow (wr.alloc (.cells #[.int .i64 (tAt R k).1, .slice q (tAt R k).2.length cp] 54)).heap.size 30 3 (.slice none 0 0) 0 (vcells []) := ⟨rfl, Or.inl ⟨rfl, rfl⟩⟩
      have HO := Lib.hid hown0
      clear hr hqn hown0
      cases he : ((tAt R k).1 == id)
      · have HE := Lib.hid (beq_eq_false_iff_ne.1 he)
        go_wp2
        go_roundw
        case rel => exact ⟨k + 1, by omega, by go_num, all_succ HA.out HE.out, below_new HB.out _⟩
        case measure => simp [intOf]; omega
      · have HE := Lib.hid (beq_iff_eq.1 he)
        go_wp2_with (at_builtin; refine wpList_append_vals rfl _ (.tmp 20) rfl (wr.alloc (.cells #[.int .i64 (tAt R k).1, .slice q (tAt R k).2.length cp] 54)).heap.size _ 0 [] rfl HO.out q (tAt R k).2 cp rfl HQ.out HN.out (by omega) (Nat.le_refl _) ?_; intro v2 w2 hown2 hgr2; (have hb2 := grown_below (Below.refl _ _) (Nat.le_refl _) hgr2 (fun k hk => by cases hk)); rw [Nat.zero_add, List.nil_append] at hown2; obtain ⟨hv2, hr2, -⟩ := owned_shape hown2; (have HR2 := Lib.hid hr2); (have HB2 := Lib.hid (below_next (below_new HB.out _) hb2)); (have HG := Lib.hid (getO_hit hlt HE.out HA.out)); (have HV := Lib.hid hv2); clear hown2 hgr2 hb2 hr2 h0 h1 hc hv2)
        go_ret2
        rw [HG.out]
        exact ⟨_, _, by rw [HV.out]; rfl, HR2.out, hs, HB2.out⟩
    · have hlt' : decide ((k : Int) < R.length) = false := decide_eq_false (by omega)
      obtain rfl : k = R.length := by omega
      have HG := Lib.hid (getO_none HA.out)
      go_wp2
      go_ret2
      rw [HG.out]
      exact ⟨none, 0, rfl, fun i hi => by simp at hi, by simp, HB.out⟩
set_option maxHeartbeats 1000000 in
theorem bag_any (T : Tab) (w : World) (hT : TabAt w T) :
    Calls Tryd.prog 24 #[T.v] w (SortedPost (T.R.map (·.2)) w) := by
  obtain ⟨nm, pc, n, cc, f, nx, pr, cr, R⟩ := T
  obtain ⟨hnm, hn, hC, hR, hl, hz⟩ := hT
  obtain ⟨i25, hi25, hz25, hs25, hb25⟩ := info_parts info_row
  unfold Tab.v
  dsimp only at *
  have HR := Lib.hid hR
  clear hC hR hz
  go_enter Tryd.func24, Tryd.ntmps24
  go_wp2_with fail
  go_loopw [3, 9] (fun vo i v => ∃ (k : Nat) (po : Option Addr) (co : Nat) (xs : List Value), k ≤ R.length ∧ i = .int .i64 k ∧ vo = .slice po k co ∧ v.ownsRow w.heap.size 52 1 (.slice po k co) k xs ∧ HeadsAt w xs ((R.take k).map (·.2)) ∧ Below w.heap.size w v) (fun _ i _ => R.length - (intOf i).toNat)
  case atStart => exact ⟨0, none, 0, [], Nat.zero_le _, rfl, rfl, ⟨rfl, Or.inl ⟨rfl, rfl⟩⟩, HeadsAt.nil _, below_new (Below.refl _ _) _⟩
  case round =>
    obtain ⟨k, po, co, xs, hk, rfl, rfl, ho, hg, hb⟩ := hrel
    have HO := Lib.hid ho
    have HG := Lib.hid hg
    have HB := Lib.hid hb
    clear hg hb ho
    by_cases hlt : k < R.length
    · have hlt' : decide ((k : Int) < R.length) = true := decide_eq_true (by omega)
      obtain ⟨c, o, q, cp, rfl, hc', h0', h1', hr, hs, hqn⟩ := HR.out k hlt
      have HG2 := Lib.hid (heads_add HG.out hr hs hqn)
      have hc := Nat.lt_of_lt_of_le hc' HB.out.size
      have h0 : wr.cell? ⟨c, o + k * 2, none⟩ = some (.int .i64 (tAt R k).1) := by rw [HB.out.cell (by exact hc')]; exact h0'
      have h1 : wr.cell? ⟨c, o + k * 2 + 1, none⟩ = some (.slice q (tAt R k).2.length cp) := by rw [HB.out.cell (by exact hc')]; exact h1'
      have HO7 := Lib.hid ((HO.out.alloc (.cells #[.int .i64 (tAt R k).1, .slice q (tAt R k).2.length cp] 54)).alloc (.cells #[.slice q (tAt R k).2.length cp] 52))
      have HNEW := Lib.hid (head_news wr (.cells #[.int .i64 (tAt R k).1, .slice q (tAt R k).2.length cp] 54) (.slice q (tAt R k).2.length cp))
      have HB7 := Lib.hid (below_new (below_new HB.out (.cells #[.int .i64 (tAt R k).1, .slice q (tAt R k).2.length cp] 54)) (.cells #[.slice q (tAt R k).2.length cp] 52))
      clear hr hqn h0' h1' hc' HG
      go_wp2_with (at_builtin; refine wpList_append_lies _ rfl (.tmp 13) (.tmp 16) 62 rfl w.heap.size 52 i25 _ 1 24 Tryd.underlying62 hi25 hz25 hs25 hb25 rfl (by decide) (.slice po k co) k xs (by rfl) HO7.out ⟨wr.heap.size + 1, 0, none⟩ 1 1 [.slice q (tAt R k).2.length cp] (by rfl) rfl HNEW.out (by intro u hu; obtain rfl := List.mem_singleton.1 hu; rfl) (by decide) (by unfold maxLen; omega) (by omega) HB7.out.size _ rfl ?_; intro g8 c8 w8 hown8 hgr8 hat8 hlt8; (have HO8 := Lib.hid hown8); (have HB8 := Lib.hid (HB7.out.grown hgr8 HB7.out.size (owns_block HO.out))); clear hown8 hgr8 hat8)
      go_roundw
      case rel => exact ⟨k + 1, some ⟨g8, 0, none⟩, c8, xs ++ [.slice q (tAt R k).2.length cp], by omega, by go_num, rfl, HO8.out, by rw [bag_take hlt]; exact HG2.out, HB8.out⟩
      case measure => simp [intOf]; omega
    · have hlt' : decide ((k : Int) < R.length) = false := decide_eq_false (by omega)
      obtain rfl : k = R.length := by omega
      have hrows : RowsAt wr po (R.map (·.2)) := by
        have := rows_of_heads HO.out (HG.out.low HB.out)
        rw [List.take_length] at this
        exact this
      have hsort := sort_any (R.map (·.2)) po co wr (by rw [List.length_map]; exact hl) hrows
      rw [List.length_map] at hsort
      clear HG hrows
      go_wp2_with fail
      refine hsort.mono ?_
      rintro e w3 ⟨p3, c3, rfl, hr3, hl3, hb3⟩
      have HR3 := Lib.hid hr3
      have HL3 := Lib.hid hl3
      have HB3 := Lib.hid (below_next HB.out hb3)
      clear hr3 hl3 hb3 hsort
      go_wp2
      go_ret
      exact ⟨p3, c3, rfl, HR3.out, HL3.out, HB3.out⟩
end Go.Proofs.YtidgfmjbfcgfiaaDoor
/-
  Package table: cell.
-/
namespace Go.Proofs.YtidgfmjbfcgfiaaDoor
set_option maxRecDepth 100000
open Go.RowKit
variable {ls : List Nat}

def cellO (k : Int) (l : List Val) : Val × Bool := match keyV k l with | some v => (v, true) | none => ((0, 0, ⟨#[]⟩), false)
theorem cellO_some {k : Int} {l : List Val} {v : Val} (h : keyV k l = some v) : cellO k l = (v, true) := by unfold cellO; rw [h]
theorem cellO_none {k : Int} {l : List Val} (h : keyV k l = none) : cellO k l = ((0, 0, ⟨#[]⟩), false) := by unfold cellO; rw [h]
set_option maxHeartbeats 1000000 in
theorem cell_any (id : Int) (q : Option Addr) (l : List Val) (cp : Nat) (kk : Int) (w : World) (hR : RowAt w q l) :
    Calls Tryd.prog 46 #[.agg #[.int .i64 id, .slice q l.length cp], .int .i64 kk] w fun e w' => e = .returned (.tuple #[valV (cellO kk l).1, .bool (cellO kk l).2]) ∧ Below w.heap.size w w' := by
  have hb0 : Below w.heap.size w ((w.alloc (.cells #[.int .i64 id, .slice q l.length cp] 54)).alloc (.cells #[.int .i64 0, .int .i64 0, .string ⟨#[]⟩] 30)) := below_new (below_new (Below.refl _ _) _) _
  have HR := Lib.hid (hR.low hb0)
  obtain ⟨p0, p1⟩ := row2_new w (.int .i64 id) (.slice q l.length cp) 54
  have r1 : ((w.alloc (.cells #[.int .i64 id, .slice q l.length cp] 54)).alloc (.cells #[.int .i64 0, .int .i64 0, .string ⟨#[]⟩] 30)).cell? ⟨w.heap.size, 1, none⟩ = some (.slice q l.length cp) := by rw [(below_alloc _ _).cell (by simp)]; exact p1
  clear hR hb0 p0 p1
  by_cases hneg : kk < 0
  · have g1 : decide (kk < 0) = true := decide_eq_true hneg
    have HE := Lib.hid (cellO_none (keyV_neg (l := l) hneg))
    go_enter Tryd.func46, Tryd.ntmps46
    go_wp2
    exact bodyPost_ret (v := .tuple #[valV (0, 0, ⟨#[]⟩), .bool false]) (by simp [results, Tryd.results46, go_sem, valV]) rfl
      ⟨by rw [HE.out], below_new (below_new (Below.refl _ _) _) _⟩
  · obtain ⟨K, rfl⟩ : ∃ K : Nat, kk = K := ⟨kk.toNat, by omega⟩
    have g1 : decide ((K : Int) < 0) = false := decide_eq_false hneg
    by_cases hlen : K < l.length
    · have g2 : decide ((l.length : Int) ≤ (K : Int)) = false := decide_eq_false (by omega)
      have hkI : (K : Int) < (l.length : Int) := by omega
      have HE := Lib.hid (cellO_some (keyV_some hlen))
      obtain ⟨c2, o2, rfl, hc2, v0, v1, v2⟩ := HR.out K hlen
      go_enter Tryd.func46, Tryd.ntmps46
      go_wp2
      exact bodyPost_ret (v := .tuple #[valV (vAt l K), .bool true]) (by simp [results, Tryd.results46, go_sem, valV]) rfl
        ⟨by rw [HE.out], below_new (below_new (Below.refl _ _) _) _⟩
    · have g2 : decide ((l.length : Int) ≤ (K : Int)) = true := decide_eq_true (by omega)
      have HE := Lib.hid (cellO_none (keyV_long (k := K) (l := l) (by omega)))
      go_enter Tryd.func46, Tryd.ntmps46
      go_wp2
      exact bodyPost_ret (v := .tuple #[valV (0, 0, ⟨#[]⟩), .bool false]) (by simp [results, Tryd.results46, go_sem, valV]) rfl
        ⟨by rw [HE.out], below_new (below_new (Below.refl _ _) _) _⟩
end Go.Proofs.YtidgfmjbfcgfiaaDoor
/-
  Package table: Lookup.
-/
namespace Go.Proofs.YtidgfmjbfcgfiaaDoor
set_option maxRecDepth 100000
open Go.RowKit
variable {ls : List Nat}

set_option maxHeartbeats 2000000 in
theorem look_any (T : Tab) (key : Val) (w : World) (hT : TabAt w T) :
    Calls Tryd.prog 23 #[T.v, .agg #[.int .i64 key.1, .int .i64 key.2.1, .string key.2.2]] w fun e w' => e = .returned (.tuple #[.int .i64 (lookO T.key key T.R).1, .bool (lookO T.key key T.R).2]) ∧ Below w.heap.size w w' := by
  obtain ⟨nm, pc, n, cc, f, nx, pr, cr, R⟩ := T
  obtain ⟨hnm, hn, hC, hR, hl, hz⟩ := hT
  unfold Tab.v Tab.key
  dsimp only at *
  have HR := Lib.hid hR
  have hb0 : Below w.heap.size w ((w.alloc (.cells #[.string nm, .slice pc n cc, .int .i64 nx, .slice pr R.length cr] 27)).alloc (.cells #[.int .i64 key.1, .int .i64 key.2.1, .string key.2.2] 30)) := below_new (below_new (Below.refl _ _) _) _
  have HC := Lib.hid (hC.low hb0)
  have HY := Lib.hid (cell3_new (w.alloc (.cells #[.string nm, .slice pc n cc, .int .i64 nx, .slice pr R.length cr] 27)) (.int .i64 key.1) (.int .i64 key.2.1) (.string key.2.2) 30)
  have HX := Lib.hid ((cell4_new w (.string nm) (.slice pc n cc) (.int .i64 nx) (.slice pr R.length cr) 27).low (below_alloc _ (.cells #[.int .i64 key.1, .int .i64 key.2.1, .string key.2.2] 30)))
  have HB0 := Lib.hid hb0
  clear hC hR hz hb0
  obtain ⟨kk, hkk⟩ : ∃ kk, findKey f n = kk := ⟨_, rfl⟩
  rw [hkk]
  have HKK := Lib.hid hkk
  clear hkk
  go_enter Tryd.func23, Tryd.ntmps23
  go_wp2_with fail
  refine (keycol_any nm pc n cc f _ hn HC.out).mono ?_
  rintro e w1 ⟨rfl, hb1⟩
  have hx := HX.out.low hb1
  have hy := (HY.out.low hb1).at (size_alloc _ _)
  have HB1 := Lib.hid (below_next HB0.out hb1)
  have HY1 := Lib.hid hy
  obtain ⟨hxl, x0, x1, x2, x3, -⟩ := hx
  clear HC HX HY HB0 hb1 hy
  rw [HKK.out]
  clear HKK
  go_wp2_with fail
  go_loopw [17] (fun i v => ∃ k : Nat, k ≤ R.length ∧ i = .int .i64 k ∧ (∀ j, j < k → keyV kk (tAt R j).2 ≠ some key) ∧ Below w.heap.size w v ∧ Cell3 v (w.heap.size + 1) (.int .i64 key.1) (.int .i64 key.2.1) (.string key.2.2)) (fun i _ => R.length - (intOf i).toNat)
  case atStart => exact ⟨0, Nat.zero_le _, rfl, fun j hj => by omega, HB1.out, HY1.out⟩
  clear HB1 HY1 x0 x1 x2 x3 hxl
  case round =>
    obtain ⟨k, hk, rfl, ha, hb, hy⟩ := hrel
    have HA := Lib.hid ha
    have HB := Lib.hid hb
    have HY := Lib.hid hy
    clear ha hb hy
    by_cases hlt : k < R.length
    · have hlt' : decide ((k : Int) < R.length) = true := decide_eq_true (by omega)
      obtain ⟨c, o, q, cp, rfl, hc, h0, h1, hr, hs, hqn⟩ := HR.out.low HB.out k hlt
      have HQ := Lib.hid (hr.low (below_alloc wr (.cells #[.int .i64 (tAt R k).1, .slice q (tAt R k).2.length cp] 54)))
      clear hr hqn
      go_wp2_with fail
      have hbn := below_alloc wr (.cells #[.int .i64 (tAt R k).1, .slice q (tAt R k).2.length cp] 54)
      have hXl : wr.heap.size < (wr.alloc (.cells #[.int .i64 (tAt R k).1, .slice q (tAt R k).2.length cp] 54)).heap.size := by simp
      refine (cell_any (tAt R k).1 q (tAt R k).2 cp kk _ HQ.out).mono ?_
      rintro e w2 ⟨rfl, hb2⟩
      have HB2 := Lib.hid (below_next (below_next HB.out hbn) hb2)
      have HY2 := Lib.hid ((HY.out.low hbn).low hb2)
      obtain ⟨p0, p1⟩ := row2_new wr (.int .i64 (tAt R k).1) (.slice q (tAt R k).2.length cp) 54
      have r0 : w2.cell? ⟨wr.heap.size, 0, none⟩ = some (.int .i64 (tAt R k).1) := by rw [hb2.cell (by exact hXl)]; exact p0
      have HXL := Lib.hid (Nat.lt_of_lt_of_le hXl hb2.size)
      clear HB HY HQ hbn hb2 h0 h1 hc p0 p1 hXl
      generalize wr.heap.size = X at r0 HXL ⊢
      cases hkv : keyV kk (tAt R k).2 with
      | none =>
        have HKV := Lib.hid hkv
        rw [cellO_none hkv]
        clear hkv
        unfold valV
        have HB3 := Lib.hid (below_new HB2.out (.cells #[.int .i64 0, .int .i64 0, .string ⟨#[]⟩] 30))
        have HY3 := Lib.hid (HY2.out.low (below_alloc w2 (.cells #[.int .i64 0, .int .i64 0, .string ⟨#[]⟩] 30)))
        clear HB2 HY2
        go_wp2
        go_roundw
        case rel => exact ⟨k + 1, by omega, by go_num, all_succ HA.out (by rw [HKV.out]; exact fun h => by cases h), HB3.out, HY3.out⟩
        case measure => simp [intOf]; omega
      | some v =>
        have HKV := Lib.hid hkv
        rw [cellO_some hkv]
        clear hkv
        unfold valV
        have hbv := below_alloc w2 (.cells #[.int .i64 v.1, .int .i64 v.2.1, .string v.2.2] 30)
        have HB3 := Lib.hid (below_next HB2.out hbv)
        have HY3 := Lib.hid (HY2.out.low hbv)
        have r3 : (w2.alloc (.cells #[.int .i64 v.1, .int .i64 v.2.1, .string v.2.2] 30)).cell? ⟨X, 0, none⟩ = some (.int .i64 (tAt R k).1) := by rw [hbv.cell (by exact HXL.out)]; exact r0
        have hXl := Nat.lt_of_lt_of_le HXL.out hbv.size
        clear HB2 HY2 hbv r0 HXL
        obtain ⟨hyl, y0, y1, y2, -⟩ := HY3.out
        go_wp2_with fail
        refine (same_any v.1 v.2.1 v.2.2 key.1 key.2.1 key.2.2 _).mono ?_
        rintro e w4 ⟨rfl, hb4⟩
        have r4 : w4.cell? ⟨X, 0, none⟩ = some (.int .i64 (tAt R k).1) := by rw [hb4.cell (by exact hXl)]; exact r3
        have HB4 := Lib.hid (below_next HB3.out hb4)
        have HY4 := Lib.hid (HY3.out.low hb4)
        clear r3 hXl hyl y0 y1 y2 hb4 HB3 HY3
        cases hsame : sameV v.1 v.2.1 v.2.2 key.1 key.2.1 key.2.2
        · have HE : Hid (keyV kk (tAt R k).2 ≠ some key) := Lib.hid (fun h => by rw [HKV.out] at h; have e := Option.some.inj h; rw [e, same_vals.2 rfl] at hsame; cases hsame)
          go_wp2
          go_roundw
          case rel => exact ⟨k + 1, by omega, by go_num, all_succ HA.out HE.out, HB4.out, HY4.out⟩
          case measure => simp [intOf]; omega
        · have HG := Lib.hid (lookO_hit hlt (by rw [HKV.out, same_vals.1 hsame]) HA.out)
          go_wp2
          go_ret2
          rw [HG.out]
          exact ⟨rfl, HB4.out⟩
    · have hlt' : decide ((k : Int) < R.length) = false := decide_eq_false (by omega)
      obtain rfl : k = R.length := by omega
      have HG := Lib.hid (lookO_none HA.out)
      go_wp2
      go_ret2
      rw [HG.out]
      exact ⟨rfl, HB.out⟩
end Go.Proofs.YtidgfmjbfcgfiaaDoor
