/-
  Several texts in one.
-/
import Derived.Test.YtgaihglploedaaaDoorPk09
import Derived.Test.YtgaihglploedaaaDoorPk08
/-
  The small functions of package tuple, SameBag and Count.
-/
namespace Go.Proofs.YtgaihglploedaaaDoor
set_option maxRecDepth 100000
open Go.RowKit
variable {ls : List Nat}

set_option maxHeartbeats 1000000 in
theorem copyrow_any (t : List Val) (q : Option Addr) (cp : Nat) (w : World) (hr : RowAt w q t) (hz : t.length * 32 ≤ 140737488355328) (hn : q = none → t = [] ∧ cp = 0) :
    Calls Tryd.prog 66 #[.slice q t.length cp] w (CopyPost t w) := by
  have hown0 : w.ownsRow w.heap.size 34 3 (.slice none 0 0) 0 (vcells []) := ⟨rfl, Or.inl ⟨rfl, rfl⟩⟩
  have HO := Lib.hid hown0
  have HR := Lib.hid hr
  clear hown0 hr
  go_enter Tryd.func66, Tryd.ntmps66
  go_wp2_with (at_builtin; refine wpList_append_vals rfl _ (.tmp 3) rfl w.heap.size _ 0 [] rfl HO.out q t cp rfl HR.out hn (by omega) (Nat.le_refl _) ?_; intro v2 w2 hown2 hgr2)
  go_ret
  rw [Nat.zero_add, List.nil_append] at hown2
  exact ⟨_, rfl, ⟨hown2, hz⟩, grown_below (Below.refl _ _) (Nat.le_refl _) hgr2 (fun k hk => by cases hk)⟩
set_option maxHeartbeats 1000000 in
theorem samerow_any (p q : Option Addr) (a b : List Val) (ca cb : Nat) (w : World) (hla : a.length ≤ 9223372036854775807) (hlb : b.length ≤ 9223372036854775807) (ha : RowAt w p a) (hb : RowAt w q b) :
    Calls Tryd.prog 63 #[.slice p a.length ca, .slice q b.length cb] w fun e w' => e = .returned (.bool (cmpRow a b == 0)) ∧ Below w.heap.size w w' := by
  go_enter Tryd.func63, Tryd.ntmps63
  go_wp2_with fail
  refine (comparerows_any p q a b ca cb _ hla hlb ha hb).mono ?_
  rintro e w2 ⟨rfl, hb2⟩
  have HB := Lib.hid hb2
  clear hb2
  go_wp2
  go_ret
  exact ⟨rfl, HB.out⟩
theorem same_row {a b : List Val} : (cmpRow a b == 0) = decide (a = b) := by
  by_cases h : a = b
  · rw [decide_eq_true h, (cmpRow_zero a b).2 h]; rfl
  · rw [decide_eq_false h, beq_eq_false_iff_ne]
    exact fun h2 => h ((cmpRow_zero a b).1 h2)
set_option maxHeartbeats 1000000 in
theorem equalfunc_any (A B : List (List Val)) (p q : Option Addr) (ca cb : Nat) (w : World) (hA : A.length ≤ 1000) (hp : RowsAt w p A) (hq : RowsAt w q B) :
    Calls Tryd.prog 61 #[.slice p A.length ca, .slice q B.length cb, .func (.func 63) #[] #[]] w fun e w' => e = .returned (.bool (decide (A = B))) ∧ Below w.heap.size w w' := by
  have HP := Lib.hid hp
  have HQ := Lib.hid hq
  clear hp hq
  by_cases hl : A.length = B.length
  · have hlI : ((A.length : Int) != (B.length : Int)) = false := by simp [hl]
    have HL := Lib.hid hl
    clear hl
    go_enter Tryd.func61, Tryd.ntmps61
    go_wp2_with fail
    go_loopw [17] (fun i v => ∃ k : Nat, k ≤ A.length ∧ i = .int .i64 k ∧ (∀ j, j < k → rAt A j = rAt B j) ∧ Below w.heap.size w v) (fun i _ => A.length - (intOf i).toNat)
    case atStart => exact ⟨0, Nat.zero_le _, rfl, fun j hj => by omega, Below.refl _ _⟩
    case round =>
      obtain ⟨k, hk, rfl, heq, hb⟩ := hrel
      have HEQ := Lib.hid heq
      have HB := Lib.hid hb
      clear heq hb
      by_cases hlt : k < A.length
      · have hlt' : decide ((k : Int) < A.length) = true := decide_eq_true (by omega)
        have hky : k < B.length := by have := HL.out; omega
        have hkI : (k : Int) < (B.length : Int) := by omega
        obtain ⟨c, o, q1, c1, rfl, hc, h0, hr1, hs1, -⟩ := HP.out.low HB.out k hlt
        obtain ⟨c', o', q2, c2, rfl, hc', h0', hr2, hs2, -⟩ := HQ.out.low HB.out k hky
        have HR1 := Lib.hid hr1
        have HR2 := Lib.hid hr2
        clear hr1 hr2
        go_wp2_with fail
        refine (samerow_any q1 q2 (rAt A k) (rAt B k) c1 c2 _ (by omega) (by omega) HR1.out HR2.out).mono ?_
        rintro e v1 ⟨rfl, hb1⟩
        have HB1 := Lib.hid (below_next HB.out hb1)
        clear HB hb1 h0 h0' hc hc' HR1 HR2
        cases hz : (cmpRow (rAt A k) (rAt B k) == 0)
        · have HD : Hid (¬ A = B) := Lib.hid (fun h => by
            rw [h, (cmpRow_zero _ _).2 rfl] at hz
            cases hz)
          go_wp2
          go_ret
          exact ⟨ret_b (decide_eq_false HD.out).symm, HB1.out⟩
        · have HZ := Lib.hid ((cmpRow_zero _ _).1 (beq_iff_eq.1 hz))
          go_wp2
          go_roundw
          case rel => exact ⟨k + 1, by omega, by go_num, fun j hj => by
            by_cases hjk : j = k
            · subst hjk; exact HZ.out
            · exact HEQ.out j (by omega), HB1.out⟩
          case measure => simp [intOf]; omega
      · have hlt' : decide ((k : Int) < A.length) = false := decide_eq_false (by omega)
        obtain rfl : k = A.length := by omega
        have HD : Hid (A = B) := Lib.hid (ext_rows HL.out HEQ.out)
        go_wp2
        go_ret
        exact ⟨ret_b (decide_eq_true HD.out).symm, HB.out⟩
  · have hlI : ((A.length : Int) != (B.length : Int)) = true := bne_iff_ne.2 (by omega)
    have HD : Hid (¬ A = B) := Lib.hid (fun h => hl (by rw [h]))
    clear hl
    go_enter Tryd.func61, Tryd.ntmps61
    go_wp2
    go_ret
    exact ⟨ret_b (decide_eq_false HD.out).symm, Below.refl _ _⟩
theorem OrdAt.rows {w w' : World} {v : Value} {S : List (List Val)} (h : OrdAt w w' v S) : ∃ p c, v = .slice p S.length c ∧ RowsAt w' p S ∧ S.length ≤ c := by
  obtain ⟨xs, ho, hH⟩ := h.row
  refine ⟨_, _, (own_src ho).1, rows_of_heads ho (hH.low h.low), ?_⟩
  rcases ho.2 with ⟨rfl, h0⟩ | ⟨g, cap, cur, rfl, -, -, hc, -⟩
  · rw [h0]; exact Nat.zero_le _
  · exact hc
set_option maxHeartbeats 1000000 in
theorem samebag_any (A B : List (List Val)) (p q : Option Addr) (ca cb : Nat) (w : World) (hA : A.length ≤ 1000) (hB : B.length ≤ 1000) (hp : RowsAt w p A) (hq : RowsAt w q B) :
    Calls Tryd.prog 21 #[.slice p A.length ca, .slice q B.length cb] w fun e w' => e = .returned (.bool (decide (srt A = srt B))) ∧ Below w.heap.size w w' := by
  have HP := Lib.hid hp
  have HQ := Lib.hid hq
  clear hp hq
  go_enter Tryd.func21, Tryd.ntmps21
  go_wp2_with fail
  refine (ordered_any A p ca _ hA HP.out).mono ?_
  rintro e w1 ⟨vx, rfl, hox⟩
  obtain ⟨px, cx, rfl, hx, -⟩ := hox.rows
  have HX := Lib.hid hx
  have HB1 := Lib.hid hox.low
  clear hx hox
  go_wp2_with fail
  refine (ordered_any B q cb _ hB (HQ.out.low HB1.out)).mono ?_
  rintro e w2 ⟨vy, rfl, hoy⟩
  obtain ⟨py, cy, rfl, hy, -⟩ := hoy.rows
  have HY := Lib.hid hy
  have HX2 := Lib.hid (HX.out.low hoy.low)
  have HB2 := Lib.hid (below_next HB1.out hoy.low)
  clear hy hoy HX HB1
  go_wp2_with fail
  refine (equalfunc_any (srt A) (srt B) px py cx cy _ (by rw [srt_length]; exact hA) HX2.out HY.out).mono ?_
  rintro e w3 ⟨rfl, hb3⟩
  have HB3 := Lib.hid (below_next HB2.out hb3)
  clear hb3
  go_wp2
  go_ret
  exact ⟨rfl, HB3.out⟩
theorem count_next {L : List (List Val)} {t : List Val} {k : Nat} (h : k < L.length) : (L.take (k + 1)).count t = (L.take k).count t + if cmpRow (rAt L k) t = 0 then 1 else 0 := by
  rw [take_row h, List.count_append, List.count_singleton]
  congr 1
  by_cases he : rAt L k = t
  · rw [if_pos ((cmpRow_zero _ _).2 he), he, beq_self_eq_true]; rfl
  · rw [if_neg (fun hc => he ((cmpRow_zero _ _).1 hc)), beq_eq_false_iff_ne.2 he]; rfl
set_option maxHeartbeats 1000000 in
theorem count_any (L : List (List Val)) (p : Option Addr) (cap : Nat) (t : List Val) (q : Option Addr) (cp : Nat) (w : World) (hL : L.length ≤ 1000) (ht : t.length * 32 ≤ 140737488355328) (hp : RowsAt w p L) (hq : RowAt w q t) :
    Calls Tryd.prog 26 #[.slice p L.length cap, .slice q t.length cp] w fun e w' => e = .returned (.int .i64 (L.count t : Nat)) ∧ Below w.heap.size w w' := by
  have HP := Lib.hid hp
  have HQ := Lib.hid hq
  clear hp hq
  go_enter Tryd.func26, Tryd.ntmps26
  go_wp2_with fail
  go_loopw [5, 10] (fun n i v => ∃ k : Nat, k ≤ L.length ∧ i = .int .i64 k ∧ n = .int .i64 ((L.take k).count t : Nat) ∧ Below w.heap.size w v) (fun _ i _ => L.length - (intOf i).toNat)
  case atStart => exact ⟨0, Nat.zero_le _, rfl, rfl, Below.refl _ _⟩
  case round =>
    obtain ⟨k, hk, rfl, rfl, hb⟩ := hrel
    have HB := Lib.hid hb
    clear hb
    by_cases hlt : k < L.length
    · have hlt' : decide ((k : Int) < L.length) = true := decide_eq_true (by omega)
      obtain ⟨c, o, q', cp', rfl, hc, h0, hr, hs, -⟩ := HP.out.low HB.out k hlt
      have HR := Lib.hid hr
      have hcl : (L.take k).count t ≤ k := Nat.le_trans (List.count_le_length) (by rw [List.length_take]; omega)
      have HCT := Lib.hid (count_next (t := t) hlt)
      clear hr
      go_wp2_with fail
      refine (samerow_any q' q (rAt L k) t cp' cp _ (by omega) (by omega) HR.out (HQ.out.low HB.out)).mono ?_
      rintro e v1 ⟨rfl, hb1⟩
      have HB1 := Lib.hid (below_next HB.out hb1)
      clear HB hb1 h0 hc
      cases hz : (cmpRow (rAt L k) t == 0)
      · have HZ := Lib.hid (beq_eq_false_iff_ne.1 hz)
        go_wp2
        go_roundw
        case rel => exact ⟨k + 1, by omega, by go_num, by rw [HCT.out, if_neg HZ.out]; rfl, HB1.out⟩
        case measure => simp [intOf]; omega
      · have HZ := Lib.hid (beq_iff_eq.1 hz)
        go_wp2
        go_roundw
        case rel => exact ⟨k + 1, by omega, by go_num, by rw [HCT.out, if_pos HZ.out]; go_num, HB1.out⟩
        case measure => simp [intOf]; omega
    · have hlt' : decide ((k : Int) < L.length) = false := decide_eq_false (by omega)
      obtain rfl : k = L.length := by omega
      go_wp2
      go_ret
      exact ⟨ret_int (by rw [List.take_length]), HB.out⟩
end Go.Proofs.YtgaihglploedaaaDoor
/-
  Sort of package tuple.
-/
namespace Go.Proofs.YtgaihglploedaaaDoor
set_option maxRecDepth 100000
open Go.RowKit
variable {ls : List Nat}

/-- The list while its rows are copied: G are copies, the rest is as it was. -/
structure SortIn (w u : World) (v : Value) (S : List (List Val)) (xs : List Value) (G : List (Value × List Val)) : Prop where
  own : u.ownsRow w.heap.size 25 1 v S.length (G.map (·.1) ++ xs.drop G.length)
  inn : ∀ z ∈ G, InRow u w.heap.size z
  pre : G.map (·.2) = S.take G.length
  low : Below w.heap.size w u
  heads : HeadsAt w xs S
theorem SortIn.keep {w u u2 : World} {v : Value} {S : List (List Val)} {xs : List Value} {G : List (Value × List Val)} (h : SortIn w u v S xs G) (hb : Below u.heap.size u u2) : SortIn w u2 v S xs G :=
  ⟨owns_below h.own hb, fun z hz => (h.inn z hz).low hb, h.pre, below_next h.low hb, h.heads⟩
/-- The head that is read next. -/
theorem SortIn.read {w u : World} {v : Value} {S : List (List Val)} {xs : List Value} {G : List (Value × List Val)} (h : SortIn w u v S xs G) (hk : G.length < S.length) :
    ∃ (g c : Nat) (q : Option Addr) (cp : Nat), v = .slice (some ⟨g, 0, none⟩) S.length c ∧ g < u.heap.size ∧ u.cell? ⟨g, G.length, none⟩ = some (.slice q (rAt S G.length).length cp) ∧ u.frozen? ⟨g, G.length, none⟩ = false ∧ RowAt w q (rAt S G.length) ∧ (rAt S G.length).length * 32 ≤ 140737488355328 ∧ (q = none → rAt S G.length = [] ∧ cp = 0) := by
  obtain ⟨q, cp, h0, h1, h2, h3⟩ := h.heads.2 G.length hk
  obtain ⟨g, c, rfl⟩ : ∃ g c, v = .slice (some ⟨g, 0, none⟩) S.length c := by
    rcases h.own.2 with ⟨-, hz⟩ | ⟨g, cap, cur, rfl, -⟩
    · omega
    · exact ⟨g, cap, rfl⟩
  obtain ⟨cur, hcur, hg, hnc, hm, hl, ht⟩ := own_block h.own
  refine ⟨g, c, q, cp, rfl, (Array.getElem?_eq_some_iff.1 hcur).1, ?_, Joins.unfrozen_of_block hcur _, h1, h2, h3⟩
  rw [Joins.cell_of_block hcur]
  have : (cur.take S.length)[G.length]? = (G.map (·.1) ++ xs.drop G.length)[G.length]? := by rw [ht]
  rw [List.getElem?_take, if_pos hk, List.getElem?_append_right (by rw [List.length_map]; exact Nat.le_refl _), List.length_map, List.getElem?_drop, Nat.sub_self, Nat.add_zero, h0] at this
  simpa using this
theorem SortIn.put {w u u2 : World} {g c : Nat} {S : List (List Val)} {xs : List Value} {G : List (Value × List Val)} {z : Value × List Val} (h : SortIn w u (.slice (some ⟨g, 0, none⟩) S.length c) S xs G) (hk : G.length < S.length) (hb : Below u.heap.size u u2) (hz : InRow u2 u.heap.size z) (he : z.2 = rAt S G.length) :
    SortIn w (u2.setCell ⟨g, G.length, none⟩ z.1) (.slice (some ⟨g, 0, none⟩) S.length c) S xs (G ++ [z]) ∧ (∃ y, u2.cell? ⟨g, G.length, none⟩ = some y) ∧ u2.frozen? ⟨g, G.length, none⟩ = false := by
  have h2 := h.keep hb
  have hz2 : InRow u2 w.heap.size z := hz.base h.low.size
  obtain ⟨cur, hcur, hg, hnc, hm, hl, ht⟩ := own_block h2.own
  have hap : ∀ x b, InRow u2 b x → InRow (u2.setCell ⟨g, G.length, none⟩ z.1) b x := fun x b hx => hx.apart h2.own fun k hk hne => Below.heap_setCell _ _ _ _ (fun e => hne (by rw [e]; rfl))
  have hset := Joins.block_setCell (i := G.length) hcur z.1
  rw [List.setIfInBounds_toArray] at hset
  have hgl : G.length < cur.length := by omega
  refine ⟨⟨?_, ?_, ?_, h2.low.setCell (by exact hg) _, h.heads⟩, ?_, Joins.unfrozen_of_block hcur _⟩
  · refine block_own hset hg hnc hm (by rw [List.length_set, hl]) ?_ ?_
    · rw [List.take_set, ht, List.length_append, List.length_singleton, List.map_append, List.map_singleton, List.append_assoc]
      rw [List.set_append_right _ _ (by rw [List.length_map]; exact Nat.le_refl _), List.length_map, Nat.sub_self]
      have hx : G.length < xs.length := by rw [h.heads.1]; exact hk
      rw [List.drop_eq_getElem_cons hx]
      rfl
    · have hx := h.heads.1
      rw [List.length_append, List.length_map, List.length_drop, List.length_append, List.length_singleton]
      omega
  · intro x hx
    rcases List.mem_append.1 hx with hx | hx
    · exact hap _ _ (h2.inn x hx)
    · obtain rfl := List.mem_singleton.1 hx
      exact hap _ _ hz2
  · rw [List.map_append, List.map_singleton, List.length_append, List.length_singleton, take_row hk, h.pre, he]
  · rw [Joins.cell_of_block hcur]
    exact ⟨cur[G.length], by rw [List.getElem?_toArray, List.getElem?_eq_getElem]⟩
theorem SortIn.done {w u : World} {v : Value} {S : List (List Val)} {xs : List Value} {G : List (Value × List Val)} (h : SortIn w u v S xs G) (hk : G.length = S.length) : RowsAt u (rowP v) S := by
  have e : G.map (·.2) = S := by rw [h.pre, hk, List.take_length]
  have hx : xs.drop G.length = [] := List.drop_eq_nil_of_le (by rw [h.heads.1]; omega)
  have ho := h.own
  rw [hx, List.append_nil, ← hk] at ho
  have hr : Rows2 u w.heap.size v G := ⟨ho, h.inn⟩
  have := rows_of_heads hr.1 hr.heads
  rw [e] at this
  exact this

set_option maxHeartbeats 1000000 in
theorem sort_any (L : List (List Val)) (p : Option Addr) (cap : Nat) (w : World) (hL : L.length ≤ 1000) (hp : RowsAt w p L) :
    Calls Tryd.prog 28 #[.slice p L.length cap] w (SortedPost L w) := by
  have HP := Lib.hid hp
  clear hp
  have hln : (srt L).length = L.length := srt_length L
  unfold SortedPost
  go_enter Tryd.func28, Tryd.ntmps28
  go_wp2_with fail
  refine (ordered_any L p cap _ hL HP.out).mono ?_
  rintro e w1 ⟨v, rfl, hord⟩
  obtain ⟨hlow, xs, hown, hH⟩ := hord
  have hsh := (own_src hown).1
  have hS0 : SortIn w w1 v (srt L) xs [] := ⟨by simpa using hown, (fun z hz => by cases hz), by simp, hlow, hH⟩
  generalize hPV : rowP v = pv at hsh
  generalize hCV : rowC v = cv at hsh
  clear hPV hCV
  have HS0 := Lib.hid hS0
  have HLN := Lib.hid hln
  have hz : (srt L).length ≤ 1000 := by omega
  clear hS0 hown hH hlow hln
  generalize hSE : srt L = S at *
  have HSE := Lib.hid hSE
  clear hSE
  subst hsh
  go_wp2_with fail
  go_loopw [10] (fun i u => ∃ G : List (Value × List Val), i = .int .i64 G.length ∧ G.length ≤ S.length ∧ SortIn w u (.slice pv S.length cv) S xs G) (fun i _ => S.length - (intOf i).toNat)
  case atStart => exact ⟨[], rfl, Nat.zero_le _, HS0.out⟩
  clear HS0
  case round =>
    obtain ⟨G, rfl, hk, hs⟩ := hrel
    have HS := Lib.hid hs
    by_cases hlt : G.length < S.length
    · have hlt' : decide ((G.length : Int) < S.length) = true := decide_eq_true (by omega)
      obtain ⟨g, c, q, cp, hsl, hg, h0, hf0, hr, hrz, hn⟩ := hs.read hlt
      injection hsl with hp1 _ hp2
      subst hp1 hp2
      have hgI : (G.length : Int) < (S.length : Int) := by omega
      have HR := Lib.hid hr
      have HN := Lib.hid hn
      have HF := Lib.hid hf0
      clear hs hr hn hf0
      go_wp2_with fail
      refine (copyrow_any (rAt S G.length) q cp _ (HR.out.low HS.out.low) hrz HN.out).mono ?_
      rintro e u2 ⟨z, rfl, hzin, hb2⟩
      obtain ⟨hput, ⟨y, hy⟩, hf⟩ := HS.out.put (z := (z, rAt S G.length)) hlt hb2 hzin rfl
      have hzs : z = .slice (rowP z) (rAt S G.length).length (rowC z) := (owned_shape hzin.1).1
      clear hb2 hzin h0 hg HS HR
      generalize rowP z = pz at hzs
      generalize rowC z = cz at hzs
      subst hzs
      have HPUT := Lib.hid hput
      clear hput
      go_wp2
      go_roundw
      case rel => exact ⟨G ++ [(.slice pz (rAt S G.length).length cz, rAt S G.length)], by rw [List.length_append]; go_num, by rw [List.length_append, List.length_singleton]; omega, HPUT.out⟩
      case measure => simp [intOf]; omega
    · have hlt' : decide ((G.length : Int) < S.length) = false := decide_eq_false (by omega)
      have hG : G.length = S.length := by omega
      have HD := Lib.hid (hs.done hG)
      have HB := Lib.hid hs.low
      clear hs HS
      go_wp2
      go_ret
      rw [HSE.out]
      exact ⟨pv, cv, rfl, HD.out, HLN.out, HB.out⟩
end Go.Proofs.YtgaihglploedaaaDoor
/-
  Minus of package tuple.
-/
namespace Go.Proofs.YtgaihglploedaaaDoor
set_option maxRecDepth 100000
open Go.RowKit
variable {ls : List Nat}

def lenOf : Value → Nat | .slice _ n _ => n | _ => 0
theorem Rows2.push {u w8 : World} {base : Nat} {vo v8 : Value} {G : List (Value × List Val)} {z : Value × List Val} {o : Obj} (h : Rows2 u base vo G) (hz : InRow u base z)
    (ho : w8.ownsRow base 25 1 v8 (G.length + 1) (G.map (·.1) ++ [z.1])) (hg : (u.alloc o).grownBy w8 vo.ownBlock) : Rows2 w8 base v8 (G ++ [z]) := by
  have h7 := h.low (below_alloc u o)
  have hz7 := hz.low (below_alloc u o)
  have hin : ∀ b q, InRow (u.alloc o) b q → InRow w8 b q := fun b q hq => hq.apart h7.1 fun k hk hne => hg.block k hk (fun e => hne e.symm)
  refine ⟨by simpa using ho, fun q hq => ?_⟩
  rcases List.mem_append.1 hq with hq | hq
  · exact hin _ _ (h7.2 q hq)
  · obtain rfl := List.mem_singleton.1 hq
    exact hin _ _ hz7
theorem RowsAt.head {u : World} {q : Option Addr} {x : List Val} {D : List (List Val)} (h : RowsAt u q (x :: D)) :
    ∃ (c o : Nat) (r : Option Addr) (cp : Nat), q = some ⟨c, o, none⟩ ∧ c < u.heap.size ∧ u.cell? ⟨c, o, none⟩ = some (.slice r x.length cp) ∧ RowAt u r x ∧ x.length * 32 ≤ 140737488355328 ∧ (r = none → x = [] ∧ cp = 0) := by
  obtain ⟨c, o, r, cp, hq, hc, h0, h1, h2, h3⟩ := h 0 (by simp)
  exact ⟨c, o, r, cp, hq, hc, h0, h1, h2, h3⟩
theorem RowsAt.tail {u : World} {c o : Nat} {x : List Val} {D : List (List Val)} (h : RowsAt u (some ⟨c, o, none⟩) (x :: D)) : RowsAt u (some ⟨c, o + 1, none⟩) D := by
  intro i hi
  obtain ⟨c', o', r, cp, hq, hc, h0, h1, h2, h3⟩ := h (i + 1) (by simp; omega)
  injection hq with hq
  injection hq with e1 e2 _
  subst e1 e2
  exact ⟨c, o + 1, r, cp, rfl, hc, by rw [show o + 1 + i = o + (i + 1) by omega]; exact h0, h1, h2, h3⟩
theorem RowsAt.cut {u : World} {c o cd : Nat} {x : List Val} {D : List (List Val)} (h : RowsAt u (some ⟨c, o, none⟩) (x :: D)) (hcd : (x :: D).length ≤ cd) : RowsAt u (if cd = 1 then some ⟨c, o, none⟩ else some ⟨c, o + 1, none⟩) D := by
  by_cases h1 : cd = 1
  · rw [if_pos h1]
    obtain rfl : D = [] := List.eq_nil_of_length_eq_zero (by rw [List.length_cons] at hcd; omega)
    exact fun i hi => by simp at hi
  · rw [if_neg h1]
    exact h.tail
theorem RowsAt.nil (u : World) (q : Option Addr) : RowsAt u q [] := fun i hi => by simp at hi

/-- What the loops of Minus keep. -/
structure MinIn (w w2 v : World) (vo : Value) (G : List (Value × List Val)) : Prop where
  rows : Rows2 v w2.heap.size vo G
  low : Below w2.heap.size w2 v
theorem MinIn.keep {w w2 u v : World} {vo : Value} {G : List (Value × List Val)} (h : MinIn w w2 u vo G) (hb : Below u.heap.size u v) : MinIn w w2 v vo G := ⟨h.rows.low hb, below_next h.low hb⟩
theorem MinIn.add {w w2 u u2 w8 : World} {vo v8 : Value} {G : List (Value × List Val)} {z : Value × List Val} {o : Obj} (h : MinIn w w2 u vo G) (hb : Below u.heap.size u u2) (hz : InRow u2 u.heap.size z)
    (ho : w8.ownsRow w2.heap.size 25 1 v8 (G.length + 1) (G.map (·.1) ++ [z.1])) (hg : (u2.alloc o).grownBy w8 vo.ownBlock) : MinIn w w2 w8 v8 (G ++ [z]) := by
  have h2 := h.keep hb
  have h7 := h2.keep (below_alloc u2 o)
  refine ⟨h2.rows.push (hz.base h.low.size) ho hg, h7.low.grown hg h7.low.size (fun k hk => (h7.rows.1.lt k hk).1)⟩

set_option maxRecDepth 100000 in
set_option maxHeartbeats 2000000 in
theorem minus_any (A B : List (List Val)) (p q : Option Addr) (ca cb : Nat) (w : World) (hA : A.length ≤ 1000) (hB : B.length ≤ 1000) (hp : RowsAt w p A) (hq : RowsAt w q B) :
    Calls Tryd.prog 24 #[.slice p A.length ca, .slice q B.length cb] w (MinusPost A B w) := by
  obtain ⟨i25, hi25, hz25, hs25, hb25⟩ := info_parts info_row
  unfold MinusPost
  have HP := Lib.hid hp
  have HQ := Lib.hid hq
  clear hp hq
  go_enter Tryd.func24, Tryd.ntmps24
  go_wp2_with fail
  refine (ordered_any B q cb _ hB HQ.out).mono ?_
  rintro e w1 ⟨vy, rfl, hoy⟩
  obtain ⟨py, cy, rfl, hy, hcy⟩ := hoy.rows
  have HY := Lib.hid hy
  have HB1 := Lib.hid hoy.low
  clear hy hoy
  go_wp2_with fail
  refine (ordered_any A p ca _ hA (HP.out.low HB1.out)).mono ?_
  rintro e w2 ⟨vx, rfl, hox⟩
  obtain ⟨px, cx, rfl, hx, -⟩ := hox.rows
  have HX := Lib.hid hx
  have HY2 := Lib.hid (HY.out.low hox.low)
  have HB2 := Lib.hid (below_next HB1.out hox.low)
  have hlx : (srt A).length ≤ 1000 := by rw [srt_length]; exact hA
  have HM0 : Hid (mrg (srt A) (srt B) = minR A B) := Lib.hid rfl
  have HMN : Hid (MinIn w w2 w2 (.slice none 0 0) []) := Lib.hid ⟨Rows2.nil _ _, Below.refl _ _⟩
  have hly : (srt B).length ≤ 1000 := by rw [srt_length]; exact hB
  clear hx hox HY HB1 HP HQ
  generalize srt A = X at *
  generalize srt B = Y at *
  generalize hME : minR A B = M at *
  have HME := Lib.hid hME.symm
  clear hME
  go_wp2_with fail
  go_loopw [5, 6, 14] (fun vo go ii v => ∃ (i : Nat) (G : List (Value × List Val)) (po : Option Addr) (co : Nat) (D : List (List Val)) (qd : Option Addr) (cd : Nat), i ≤ X.length ∧ G.length ≤ i ∧ vo = .slice po G.length co ∧ go = .slice qd D.length cd ∧ ii = .int .i64 i ∧ D.length ≤ cd ∧ D.length ≤ 1000 ∧ RowsAt w2 qd D ∧ MinIn w w2 v (.slice po G.length co) G ∧ G.map (·.2) ++ mrg (X.drop i) D = M) (fun _ _ ii _ => X.length - (intOf ii).toNat)
  case atStart => exact ⟨0, [], none, 0, Y, py, cy, Nat.zero_le _, Nat.le_refl _, rfl, rfl, rfl, hcy, hly, HY2.out, HMN.out, HM0.out⟩
  clear HMN HM0 HY2
  case round =>
    obtain ⟨i, G, po, co, D, qd, cd, hi, hgi, rfl, rfl, rfl, hcd, hdz, hD, hm, hmrg⟩ := hrel
    have HM := Lib.hid hm
    have HD := Lib.hid hD
    have HMRG := Lib.hid hmrg
    clear hm hD hmrg
    by_cases hlt : i < X.length
    · have hlt' : decide ((i : Int) < X.length) = true := decide_eq_true (by omega)
      obtain ⟨c, o, r, cr, rfl, hc', h0', hr, hrz, hrn⟩ := HX.out i hlt
      have hc := Nat.lt_of_lt_of_le hc' HM.out.low.size
      have h0 : wr.cell? ⟨c, o + i, none⟩ = some (.slice r (rAt X i).length cr) := by rw [HM.out.low.cell (by exact hc')]; exact h0'
      have HR := Lib.hid hr
      have HRN := Lib.hid hrn
      have HDX : Hid (X.drop i = rAt X i :: X.drop (i + 1)) := Lib.hid (drop_row hlt)
      clear hr hrn h0' hc'
      go_wp2_with fail
      go_loopw [6] (fun go v => ∃ (D : List (List Val)) (qd : Option Addr) (cd : Nat), go = .slice qd D.length cd ∧ D.length ≤ cd ∧ D.length ≤ 1000 ∧ RowsAt w2 qd D ∧ MinIn w w2 v (.slice po G.length co) G ∧ G.map (·.2) ++ mrg (rAt X i :: X.drop (i + 1)) D = M) (fun go _ => lenOf go)
      case atStart => exact ⟨D, qd, cd, rfl, hcd, hdz, HD.out, HM.out, by rw [← HDX.out]; exact HMRG.out⟩
      clear HM HMRG HD h0 hc HDX hcd hdz
      case round =>
        obtain ⟨D, qd, cd, rfl, hcd, hdz, hD, hm, hmrg⟩ := hrel
        have HM := Lib.hid hm
        have HMRG := Lib.hid hmrg
        clear hm hmrg
        have HRX := Lib.hid (HR.out.low HM.out.low)
        cases D with
        | nil =>
          have HKEEP : Hid (mrg (rAt X i :: X.drop (i + 1)) [] = rAt X i :: mrg (X.drop (i + 1)) []) := Lib.hid mrg_end
          go_wp2_with fail
          refine (copyrow_any (rAt X i) r cr _ HRX.out hrz HRN.out).mono ?_
          rintro e u2 ⟨z, rfl, hzin, hb2⟩
          have hzs : z = .slice (rowP z) (rAt X i).length (rowC z) := (owned_shape hzin.1).1
          generalize rowP z = pz at hzs
          generalize rowC z = cz at hzs
          subst hzs
          have HM2 := Lib.hid (HM.out.keep hb2)
          have HO7 := Lib.hid (HM2.out.rows.1.alloc (.cells #[.slice pz (rAt X i).length cz] 25))
          have HNEW := Lib.hid (one_news u2 (.slice pz (rAt X i).length cz))
          have HZ7 : Hid (w2.heap.size ≤ (u2.alloc (.cells #[.slice pz (rAt X i).length cz] 25)).heap.size) := Lib.hid (by rw [size_alloc]; have := HM2.out.low.size; omega)
          have HZIN := Lib.hid hzin
          have HBB := Lib.hid hb2
          clear hzin hb2 HM2
          go_wp2_with (at_builtin; refine wpList_append_lies _ rfl (.tmp 43) (.tmp 46) 39 rfl w2.heap.size 25 i25 _ 1 24 Tryd.underlying39 hi25 hz25 hs25 hb25 rfl (by decide) (.slice po G.length co) G.length (G.map (·.1)) (by rfl) HO7.out ⟨u2.heap.size, 0, none⟩ 1 1 [.slice pz (rAt X i).length cz] (by rfl) rfl HNEW.out (by intro u hu; obtain rfl := List.mem_singleton.1 hu; rfl) (by decide) (by unfold maxLen; omega) (by omega) HZ7.out _ rfl ?_; intro g8 c8 w8 hown8 hgr8 hat8 hlt8; (have hM8 := HM.out.add HBB.out HZIN.out hown8 hgr8); (have HM8 := Lib.hid hM8); clear hM8 hown8 hgr8 hat8)
          go_roundw
          case rel => exact ⟨i + 1, G ++ [(.slice pz (rAt X i).length cz, rAt X i)], some ⟨g8, 0, none⟩, c8, [], qd, cd, by omega, by rw [List.length_append, List.length_singleton]; omega, by rw [List.length_append]; rfl, rfl, by go_num, hcd, hdz, hD, by rw [List.length_append]; exact HM8.out, by rw [List.map_append, List.map_singleton, List.append_assoc, List.singleton_append, ← HKEEP.out]; exact HMRG.out⟩
          case measure => simp [intOf]; omega
        | cons y D =>
          obtain ⟨c2, o2, r2, cr2, rfl, hc2', h02', hr2, hrz2, -⟩ := hD.head
          have hc2 := Nat.lt_of_lt_of_le hc2' HM.out.low.size
          have h02 : wr.cell? ⟨c2, o2, none⟩ = some (.slice r2 y.length cr2) := by rw [HM.out.low.cell (by exact hc2')]; exact h02'
          have HR2 := Lib.hid (hr2.low HM.out.low)
          go_wp2_with fail
          refine (comparerows_any r2 r y (rAt X i) cr2 cr _ (by omega) (by omega) HR2.out HRX.out).mono ?_
          rintro e v1 ⟨rfl, hb1⟩
          have HM1 := Lib.hid (HM.out.keep hb1)
          have h03 : v1.cell? ⟨c2, o2, none⟩ = some (.slice r2 y.length cr2) := by rw [HM1.out.low.cell (by exact hc2')]; exact h02'
          have hc3 := Nat.lt_of_lt_of_le hc2' HM1.out.low.size
          have HR3 := Lib.hid (hr2.low HM1.out.low)
          have HRX3 := Lib.hid (HR.out.low HM1.out.low)
          clear HM hb1 h02 hc2 HR2 HRX hc2' h02' hr2
          cases hneg : decide (cmpRow y (rAt X i) < 0)
          · go_wp2_with fail
            refine (samerow_any r2 r y (rAt X i) cr2 cr _ (by omega) (by omega) HR3.out HRX3.out).mono ?_
            rintro e v2 ⟨rfl, hb2⟩
            have HM := Lib.hid (HM1.out.keep hb2)
            have HRX := Lib.hid (HR.out.low HM.out.low)
            clear HM1 hb2 h03 hc3 HR3 HRX3
            cases hz : (cmpRow y (rAt X i) == 0)
            · have HKEEP : Hid (mrg (rAt X i :: X.drop (i + 1)) (y :: D) = rAt X i :: mrg (X.drop (i + 1)) (y :: D)) := Lib.hid (mrg_keep (of_decide_eq_false hneg) (beq_eq_false_iff_ne.1 hz))
              go_wp2_with fail
              refine (copyrow_any (rAt X i) r cr _ HRX.out hrz HRN.out).mono ?_
              rintro e u2 ⟨z, rfl, hzin, hb2⟩
              have hzs : z = .slice (rowP z) (rAt X i).length (rowC z) := (owned_shape hzin.1).1
              generalize rowP z = pz at hzs
              generalize rowC z = cz at hzs
              subst hzs
              have HM2 := Lib.hid (HM.out.keep hb2)
              have HO7 := Lib.hid (HM2.out.rows.1.alloc (.cells #[.slice pz (rAt X i).length cz] 25))
              have HNEW := Lib.hid (one_news u2 (.slice pz (rAt X i).length cz))
              have HZ7 : Hid (w2.heap.size ≤ (u2.alloc (.cells #[.slice pz (rAt X i).length cz] 25)).heap.size) := Lib.hid (by rw [size_alloc]; have := HM2.out.low.size; omega)
              have HZIN := Lib.hid hzin
              have HBB := Lib.hid hb2
              clear hzin hb2 HM2
              go_wp2_with (at_builtin; refine wpList_append_lies _ rfl (.tmp 43) (.tmp 46) 39 rfl w2.heap.size 25 i25 _ 1 24 Tryd.underlying39 hi25 hz25 hs25 hb25 rfl (by decide) (.slice po G.length co) G.length (G.map (·.1)) (by rfl) HO7.out ⟨u2.heap.size, 0, none⟩ 1 1 [.slice pz (rAt X i).length cz] (by rfl) rfl HNEW.out (by intro u hu; obtain rfl := List.mem_singleton.1 hu; rfl) (by decide) (by unfold maxLen; omega) (by omega) HZ7.out _ rfl ?_; intro g8 c8 w8 hown8 hgr8 hat8 hlt8; (have hM8 := HM.out.add HBB.out HZIN.out hown8 hgr8); (have HM8 := Lib.hid hM8); clear hM8 hown8 hgr8 hat8)
              go_roundw
              case rel => exact ⟨i + 1, G ++ [(.slice pz (rAt X i).length cz, rAt X i)], some ⟨g8, 0, none⟩, c8, y :: D, some ⟨c2, o2, none⟩, cd, by omega, by rw [List.length_append, List.length_singleton]; omega, by rw [List.length_append]; rfl, rfl, by go_num, hcd, hdz, hD, by rw [List.length_append]; exact HM8.out, by rw [List.map_append, List.map_singleton, List.append_assoc, List.singleton_append, ← HKEEP.out]; exact HMRG.out⟩
              case measure => simp [intOf]; omega
            · have HHIT : Hid (mrg (rAt X i :: X.drop (i + 1)) (y :: D) = mrg (X.drop (i + 1)) D) := Lib.hid (mrg_hit (beq_iff_eq.1 hz))
              go_wp2
              go_roundw
              case rel => exact ⟨i + 1, G, po, co, D, _, cd - 1, by omega, by omega, rfl, rfl, by go_num, by rw [List.length_cons] at hcd; omega, by rw [List.length_cons] at hdz; omega, hD.cut hcd, HM.out, by rw [← HHIT.out]; exact HMRG.out⟩
              case measure => simp [intOf]; omega
          · have HSKIP : Hid (mrg (rAt X i :: X.drop (i + 1)) (y :: D) = mrg (rAt X i :: X.drop (i + 1)) D) := Lib.hid (mrg_skip (of_decide_eq_true hneg))
            go_wp2
            go_roundw
            case rel => exact ⟨D, _, cd - 1, rfl, by rw [List.length_cons] at hcd; omega, by rw [List.length_cons] at hdz; omega, hD.cut hcd, HM1.out, by rw [← HSKIP.out]; exact HMRG.out⟩
            case measure => simp [lenOf]
    · have hlt' : decide ((i : Int) < X.length) = false := decide_eq_false (by omega)
      have HE : Hid (G.map (·.2) = minR A B) := Lib.hid (by
        have h1 := HMRG.out
        rw [List.drop_eq_nil_of_le (by omega), mrg, List.append_nil] at h1
        rw [h1, HME.out])
      have HLN : Hid ((minR A B).length = G.length) := Lib.hid (by rw [← HE.out, List.length_map])
      have HRW := Lib.hid HM.out.rows
      have HBL := Lib.hid (HB2.out.trans (HM.out.low.mono HB2.out.size))
      clear HM HD HMRG
      go_wp2
      go_ret
      exact ⟨po, co, by rw [HLN.out]; rfl, by rw [← HE.out]; exact HRW.out.rows, HBL.out⟩
end Go.Proofs.YtgaihglploedaaaDoor
/-
  What package tuple does: the contracts that the walks of the statements ask for.
-/
namespace Go.Proofs.YtgaihglploedaaaDoor
set_option maxRecDepth 100000
open Go.RowKit
theorem tuple_does : TupleDoes := ⟨sort_any, samebag_any, count_any, minus_any⟩
end Go.Proofs.YtgaihglploedaaaDoor
