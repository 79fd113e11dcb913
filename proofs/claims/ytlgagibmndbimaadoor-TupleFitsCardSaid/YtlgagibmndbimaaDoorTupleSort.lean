/-
  Sort of package tuple.
-/
import Derived.Test.YtlgagibmndbimaaDoorTupleOps
namespace Go.Proofs.YtlgagibmndbimaaDoor
open Go.RowKit
variable {ls : List Nat}

/-- The list while its rows are copied: G are copies, the rest is as it was. -/
structure SortIn (w u : World) (v : Value) (S : List (List Val)) (xs : List Value) (G : List (Value × List Val)) : Prop where
  own : u.ownsRow w.heap.size 25 1 v S.length (G.map (·.1) ++ xs.drop G.length)
  inn : ∀ z ∈ G, InRow u w.heap.size z
  pre : G.map (·.2) = S.take G.length
  low : Below w.heap.size w u
  heads : HeadsAt w xs S
theorem SortIn.keep {w u u2 : World} {v : Value} {S : List (List Val)} {xs : List Value} {G : List (Value × List Val)} (h : SortIn w u v S xs G) (hb : Below u.heap.size u u2) : SortIn w u2 v S xs G :=
  ⟨owns_below h.own hb, fun z hz => (h.inn z hz).low hb, h.pre, below_next h.low hb, h.heads⟩
/-- The head that is read next. -/
theorem SortIn.read {w u : World} {v : Value} {S : List (List Val)} {xs : List Value} {G : List (Value × List Val)} (h : SortIn w u v S xs G) (hk : G.length < S.length) :
    ∃ (g c : Nat) (q : Option Addr) (cp : Nat), v = .slice (some ⟨g, 0, none⟩) S.length c ∧ g < u.heap.size ∧ u.cell? ⟨g, G.length, none⟩ = some (.slice q (rAt S G.length).length cp) ∧ u.frozen? ⟨g, G.length, none⟩ = false ∧ RowAt w q (rAt S G.length) ∧ (rAt S G.length).length * 32 ≤ 140737488355328 ∧ (q = none → rAt S G.length = [] ∧ cp = 0) := by
  obtain ⟨q, cp, h0, h1, h2, h3⟩ := h.heads.2 G.length hk
  obtain ⟨g, c, rfl⟩ : ∃ g c, v = .slice (some ⟨g, 0, none⟩) S.length c := by
    rcases h.own.2 with ⟨-, hz⟩ | ⟨g, cap, cur, rfl, -⟩
    · omega
    · exact ⟨g, cap, rfl⟩
  obtain ⟨cur, hcur, hg, hnc, hm, hl, ht⟩ := own_block h.own
  refine ⟨g, c, q, cp, rfl, (Array.getElem?_eq_some_iff.1 hcur).1, ?_, Joins.unfrozen_of_block hcur _, h1, h2, h3⟩
  rw [Joins.cell_of_block hcur]
  have : (cur.take S.length)[G.length]? = (G.map (·.1) ++ xs.drop G.length)[G.length]? := by rw [ht]
  rw [List.getElem?_take, if_pos hk, List.getElem?_append_right (by rw [List.length_map]; exact Nat.le_refl _), List.length_map, List.getElem?_drop, Nat.sub_self, Nat.add_zero, h0] at this
  simpa using this
theorem SortIn.put {w u u2 : World} {g c : Nat} {S : List (List Val)} {xs : List Value} {G : List (Value × List Val)} {z : Value × List Val} (h : SortIn w u (.slice (some ⟨g, 0, none⟩) S.length c) S xs G) (hk : G.length < S.length) (hb : Below u.heap.size u u2) (hz : InRow u2 u.heap.size z) (he : z.2 = rAt S G.length) :
    SortIn w (u2.setCell ⟨g, G.length, none⟩ z.1) (.slice (some ⟨g, 0, none⟩) S.length c) S xs (G ++ [z]) ∧ (∃ y, u2.cell? ⟨g, G.length, none⟩ = some y) ∧ u2.frozen? ⟨g, G.length, none⟩ = false := by
  have h2 := h.keep hb
  have hz2 : InRow u2 w.heap.size z := hz.base h.low.size
  obtain ⟨cur, hcur, hg, hnc, hm, hl, ht⟩ := own_block h2.own
  have hap : ∀ x b, InRow u2 b x → InRow (u2.setCell ⟨g, G.length, none⟩ z.1) b x := fun x b hx => hx.apart h2.own fun k hk hne => Below.heap_setCell _ _ _ _ (fun e => hne (by rw [e]; rfl))
  have hset := Joins.block_setCell (i := G.length) hcur z.1
  rw [List.setIfInBounds_toArray] at hset
  have hgl : G.length < cur.length := by omega
  refine ⟨⟨?_, ?_, ?_, h2.low.setCell (by exact hg) _, h.heads⟩, ?_, Joins.unfrozen_of_block hcur _⟩
  · refine block_own hset hg hnc hm (by rw [List.length_set, hl]) ?_ ?_
    · rw [List.take_set, ht, List.length_append, List.length_singleton, List.map_append, List.map_singleton, List.append_assoc]
      rw [List.set_append_right _ _ (by rw [List.length_map]; exact Nat.le_refl _), List.length_map, Nat.sub_self]
      have hx : G.length < xs.length := by rw [h.heads.1]; exact hk
      rw [List.drop_eq_getElem_cons hx]
      rfl
    · have hx := h.heads.1
      rw [List.length_append, List.length_map, List.length_drop, List.length_append, List.length_singleton]
      omega
  · intro x hx
    rcases List.mem_append.1 hx with hx | hx
    · exact hap _ _ (h2.inn x hx)
    · obtain rfl := List.mem_singleton.1 hx
      exact hap _ _ hz2
  · rw [List.map_append, List.map_singleton, List.length_append, List.length_singleton, take_row hk, h.pre, he]
  · rw [Joins.cell_of_block hcur]
    exact ⟨cur[G.length], by rw [List.getElem?_toArray, List.getElem?_eq_getElem]⟩
theorem SortIn.done {w u : World} {v : Value} {S : List (List Val)} {xs : List Value} {G : List (Value × List Val)} (h : SortIn w u v S xs G) (hk : G.length = S.length) : RowsAt u (rowP v) S := by
  have e : G.map (·.2) = S := by rw [h.pre, hk, List.take_length]
  have hx : xs.drop G.length = [] := List.drop_eq_nil_of_le (by rw [h.heads.1]; omega)
  have ho := h.own
  rw [hx, List.append_nil, ← hk] at ho
  have hr : Rows2 u w.heap.size v G := ⟨ho, h.inn⟩
  have := rows_of_heads hr.1 hr.heads
  rw [e] at this
  exact this

set_option maxHeartbeats 1000000 in
theorem sort_any (L : List (List Val)) (p : Option Addr) (cap : Nat) (w : World) (hL : L.length ≤ 1000) (hp : RowsAt w p L) :
    Calls Tryd.prog 23 #[.slice p L.length cap] w (SortedPost L w) := by
  have HP := Lib.hid hp
  clear hp
  have hln : (srt L).length = L.length := srt_length L
  unfold SortedPost
  go_enter Tryd.func23, Tryd.ntmps23
  go_wp2_with fail
  refine (ordered_any L p cap _ hL HP.out).mono ?_
  rintro e w1 ⟨v, rfl, hord⟩
  obtain ⟨hlow, xs, hown, hH⟩ := hord
  have hsh := (own_src hown).1
  have hS0 : SortIn w w1 v (srt L) xs [] := ⟨by simpa using hown, (fun z hz => by cases hz), by simp, hlow, hH⟩
  generalize hPV : rowP v = pv at hsh
  generalize hCV : rowC v = cv at hsh
  clear hPV hCV
  have HS0 := Lib.hid hS0
  have HLN := Lib.hid hln
  have hz : (srt L).length ≤ 1000 := by omega
  clear hS0 hown hH hlow hln
  generalize hSE : srt L = S at *
  have HSE := Lib.hid hSE
  clear hSE
  subst hsh
  go_wp2_with fail
  go_loopw [10] (fun i u => ∃ G : List (Value × List Val), i = .int .i64 G.length ∧ G.length ≤ S.length ∧ SortIn w u (.slice pv S.length cv) S xs G) (fun i _ => S.length - (intOf i).toNat)
  case atStart => exact ⟨[], rfl, Nat.zero_le _, HS0.out⟩
  clear HS0
  case round =>
    obtain ⟨G, rfl, hk, hs⟩ := hrel
    have HS := Lib.hid hs
    by_cases hlt : G.length < S.length
    · have hlt' : decide ((G.length : Int) < S.length) = true := decide_eq_true (by omega)
      obtain ⟨g, c, q, cp, hsl, hg, h0, hf0, hr, hrz, hn⟩ := hs.read hlt
      injection hsl with hp1 _ hp2
      subst hp1 hp2
      have hgI : (G.length : Int) < (S.length : Int) := by omega
      have HR := Lib.hid hr
      have HN := Lib.hid hn
      have HF := Lib.hid hf0
      clear hs hr hn hf0
      go_wp2_with fail
      refine (copyrow_any (rAt S G.length) q cp _ (HR.out.low HS.out.low) hrz HN.out).mono ?_
      rintro e u2 ⟨z, rfl, hzin, hb2⟩
      obtain ⟨hput, ⟨y, hy⟩, hf⟩ := HS.out.put (z := (z, rAt S G.length)) hlt hb2 hzin rfl
      have hzs : z = .slice (rowP z) (rAt S G.length).length (rowC z) := (owned_shape hzin.1).1
      clear hb2 hzin h0 hg HS HR
      generalize rowP z = pz at hzs
      generalize rowC z = cz at hzs
      subst hzs
      have HPUT := Lib.hid hput
      clear hput
      go_wp2
      go_roundw
      case rel => exact ⟨G ++ [(.slice pz (rAt S G.length).length cz, rAt S G.length)], by rw [List.length_append]; go_num, by rw [List.length_append, List.length_singleton]; omega, HPUT.out⟩
      case measure => simp [intOf]; omega
    · have hlt' : decide ((G.length : Int) < S.length) = false := decide_eq_false (by omega)
      have hG : G.length = S.length := by omega
      have HD := Lib.hid (hs.done hG)
      have HB := Lib.hid hs.low
      clear hs HS
      go_wp2
      go_ret
      rw [HSE.out]
      exact ⟨pv, cv, rfl, HD.out, HLN.out, HB.out⟩
end Go.Proofs.YtlgagibmndbimaaDoor
