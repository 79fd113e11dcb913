/-
  Slices of rows in memory; Copy and Count of the reference.
-/
import Derived.Test.YtlgagibmndbimaaDoorBags
import Derived.Laws.CopyOwn
import Derived.Test.YtlgagibmndbimaaDoorCols
namespace Go.Proofs.YtlgagibmndbimaaDoor
open Go.RowKit
variable {ls : List Nat}

/-- A slice of rows. -/
def RowsAt (w : World) (p : Option Addr) (L : List (List Val)) : Prop :=
  ∀ i, i < L.length → ∃ (c o : Nat) (q : Option Addr) (cp : Nat), p = some ⟨c, o, none⟩ ∧ c < w.heap.size ∧ w.cell? ⟨c, o + i, none⟩ = some (.slice q (rAt L i).length cp) ∧ RowAt w q (rAt L i) ∧ (rAt L i).length * 32 ≤ 140737488355328 ∧ (q = none → rAt L i = [] ∧ cp = 0)
theorem RowsAt.low {u v : World} {p : Option Addr} {L : List (List Val)} (h : RowsAt u p L) (hb : Below u.heap.size u v) : RowsAt v p L := by
  intro i hi
  obtain ⟨c, o, q, cp, hp, hc, h0, hr, hs, hn⟩ := h i hi
  exact ⟨c, o, q, cp, hp, Nat.lt_of_lt_of_le hc hb.size, by rw [hb.cell (by exact hc)]; exact h0, hr.low hb, hs, hn⟩

/-- A row of the call's own: its slice, and its values. -/
def InRow (u : World) (base : Nat) (x : Value × List Val) : Prop := u.ownsRow base 34 3 x.1 x.2.length (vcells x.2) ∧ x.2.length * 32 ≤ 140737488355328
/-- Rows of the call's own, in a row of its own. -/
def Rows2 (u : World) (base : Nat) (vo : Value) (G : List (Value × List Val)) : Prop :=
  u.ownsRow base 25 1 vo G.length (G.map (·.1)) ∧ ∀ x ∈ G, InRow u base x
theorem owns_below {w w' : World} {base n size : Nat} {e : TypeId} {v : Value} {xs : List Value} (h : w.ownsRow base e size v n xs) (hb : Below w.heap.size w w') : w'.ownsRow base e size v n xs :=
  owns_keep h fun k hk => hb.block k (owns_lt h k hk)
theorem InRow.low {u v : World} {base : Nat} {x : Value × List Val} (h : InRow u base x) (hb : Below u.heap.size u v) : InRow v base x := ⟨owns_below h.1 hb, h.2⟩
theorem Rows2.low {u v : World} {base : Nat} {vo : Value} {G : List (Value × List Val)} (h : Rows2 u base vo G) (hb : Below u.heap.size u v) : Rows2 v base vo G :=
  ⟨owns_below h.1 hb, fun x hx => (h.2 x hx).low hb⟩
theorem Rows2.nil (w : World) (base : Nat) : Rows2 w base (.slice none 0 0) [] := ⟨⟨rfl, Or.inl ⟨rfl, rfl⟩⟩, fun x hx => by cases hx⟩
/-- Behind a growth of the outer row the inner ones are as they were. -/
theorem InRow.apart {u v : World} {base base' n : Nat} {vo : Value} {xs : List Value} {x : Value × List Val} (h : InRow u base x) (ho : u.ownsRow base' 25 1 vo n xs) (hb : ∀ k, k < u.heap.size → vo.ownBlock ≠ some k → v.heap[k]? = u.heap[k]?) : InRow v base x :=
  ⟨owns_keep h.1 fun k hk => hb k (owns_lt h.1 k hk) (owns_apart h.1 ho (by decide) k hk), h.2⟩
theorem Rows2.shape {u : World} {base : Nat} {vo : Value} {G : List (Value × List Val)} (h : Rows2 u base vo G) : vo = .slice (rowP vo) G.length (rowC vo) := by
  rcases h.1.2 with ⟨rfl, h0⟩ | ⟨g, cap', cur, rfl, -⟩
  · rw [h0]; rfl
  · rfl
theorem Rows2.read {u : World} {base : Nat} {p : Option Addr} {cap : Nat} {G : List (Value × List Val)} (h : Rows2 u base (.slice p G.length cap) G) (i : Nat) (hi : i < G.length) :
    ∃ g : Nat, p = some ⟨g, 0, none⟩ ∧ g < u.heap.size ∧ u.cell? ⟨g, i, none⟩ = some (.slice (rowP (gAt G i).1) (gAt G i).2.length (rowC (gAt G i).1)) ∧ RowAt u (rowP (gAt G i).1) (gAt G i).2 ∧ (rowP (gAt G i).1 = none → (gAt G i).2 = [] ∧ rowC (gAt G i).1 = 0) ∧ (gAt G i).2.length * 32 ≤ 140737488355328 := by
  have hmem : gAt G i ∈ G := by unfold gAt; rw [List.getD, List.getElem?_eq_getElem hi]; exact List.getElem_mem hi
  obtain ⟨hown, hlen⟩ := h.2 _ hmem
  obtain ⟨hv, hr, hn⟩ := owned_shape hown
  rcases h.1.2 with ⟨-, h0⟩ | ⟨g, cap', cur, he, hg, hh, hcap, hm, hcur, htake⟩
  · omega
  · injection he with he1 he2 he3
    refine ⟨g, he1, (Array.getElem?_eq_some_iff.1 hh).1, ?_, hr, hn, hlen⟩
    rw [← hv]
    have hj : (G.map (·.1))[i]? = some (gAt G i).1 := by
      rw [List.getElem?_map, List.getElem?_eq_getElem hi]
      simp [gAt, hi]
    rw [← htake, List.getElem?_take] at hj
    have hj' : cur.toList[i]? = some (gAt G i).1 := by
      split at hj
      · exact hj
      · cases hj
    simp [World.cell?, hh]
    simpa using hj'
theorem gAt_row {G : List (Value × List Val)} {i : Nat} (hi : i < G.length) : (gAt G i).2 = rAt (G.map (·.2)) i := by
  unfold gAt rAt
  rw [List.getD, List.getD, List.getElem?_map, List.getElem?_eq_getElem hi]
  rfl
theorem Rows2.rows {u : World} {base : Nat} {p : Option Addr} {cap : Nat} {G : List (Value × List Val)} (h : Rows2 u base (.slice p G.length cap) G) : RowsAt u p (G.map (·.2)) := by
  intro i hi
  rw [List.length_map] at hi
  obtain ⟨g, hp, hg, h0, h1, h2, h3⟩ := h.read i hi
  rw [gAt_row hi] at h0 h1 h2 h3
  exact ⟨g, 0, _, _, hp, hg, by rw [Nat.zero_add]; exact h0, h1, h3, h2⟩

def CopyPost (t : List Val) (w : World) (e : Ending) (w' : World) : Prop := ∃ v, e = .returned v ∧ InRow w' w.heap.size (v, t) ∧ Below w.heap.size w w'
set_option maxHeartbeats 1000000 in
theorem rcopy_any (t : List Val) (q : Option Addr) (cp : Nat) (w : World) (hr : RowAt w q t) (hz : t.length * 32 ≤ 140737488355328) (hn : q = none → t = [] ∧ cp = 0) :
    Calls Tryd.prog 41 #[.slice q t.length cp] w (CopyPost t w) := by
  have hown0 : w.ownsRow w.heap.size 34 3 (.slice none 0 0) 0 (vcells []) := ⟨rfl, Or.inl ⟨rfl, rfl⟩⟩
  have HO := Lib.hid hown0
  have HR := Lib.hid hr
  clear hown0 hr
  go_enter Tryd.func41, Tryd.ntmps41
  go_wp2_with (at_builtin; refine wpList_append_vals rfl _ (.tmp 3) rfl w.heap.size _ 0 [] rfl HO.out q t cp rfl HR.out hn (by omega) (Nat.le_refl _) ?_; intro v2 w2 hown2 hgr2)
  go_ret
  rw [Nat.zero_add, List.nil_append] at hown2
  exact ⟨_, rfl, ⟨hown2, hz⟩, grown_below (Below.refl _ _) (Nat.le_refl _) hgr2 (fun k hk => by cases hk)⟩
theorem count_take {L : List (List Val)} {t : List Val} {k : Nat} (h : k < L.length) : (L.take (k + 1)).count t = (L.take k).count t + if cmpRow (rAt L k) t = 0 then 1 else 0 := by
  rw [take_row h, List.count_append, List.count_singleton]
  congr 1
  by_cases he : rAt L k = t
  · rw [if_pos ((cmpRow_zero _ _).2 he), he, beq_self_eq_true]; rfl
  · rw [if_neg (fun hc => he ((cmpRow_zero _ _).1 hc)), beq_eq_false_iff_ne.2 he]; rfl
set_option maxHeartbeats 1000000 in
theorem rcount_any (L : List (List Val)) (p : Option Addr) (cap : Nat) (t : List Val) (q : Option Addr) (cp : Nat) (w : World) (hL : L.length ≤ 9223372036854775807) (ht : t.length ≤ 9223372036854775807) (hp : RowsAt w p L) (hq : RowAt w q t) :
    Calls Tryd.prog 22 #[.slice p L.length cap, .slice q t.length cp] w fun e w' => e = .returned (.int .i64 (L.count t : Nat)) ∧ Below w.heap.size w w' := by
  have HP := Lib.hid hp
  have HQ := Lib.hid hq
  clear hp hq
  go_enter Tryd.func22, Tryd.ntmps22
  go_wp2_with fail
  go_loopw [5, 10] (fun n i v => ∃ k : Nat, k ≤ L.length ∧ i = .int .i64 k ∧ n = .int .i64 ((L.take k).count t : Nat) ∧ Below w.heap.size w v) (fun _ i _ => L.length - (intOf i).toNat)
  case atStart => exact ⟨0, Nat.zero_le _, rfl, rfl, Below.refl _ _⟩
  case round =>
    obtain ⟨k, hk, rfl, rfl, hb⟩ := hrel
    have HB := Lib.hid hb
    clear hb
    by_cases hlt : k < L.length
    · have hlt' : decide ((k : Int) < L.length) = true := decide_eq_true (by omega)
      obtain ⟨c, o, q', cp', rfl, hc, h0, hr, hs, -⟩ := HP.out.low HB.out k hlt
      have HR := Lib.hid hr
      have hcl : (L.take k).count t ≤ k := Nat.le_trans (List.count_le_length) (by rw [List.length_take]; omega)
      have HCT := Lib.hid (count_take (t := t) hlt)
      clear hr
      go_wp2_with fail
      refine (rcomparerows_any q' q (rAt L k) t cp' cp _ (by omega) ht HR.out (HQ.out.low HB.out)).mono ?_
      rintro e v1 ⟨rfl, hb1⟩
      have HB1 := Lib.hid (below_next HB.out hb1)
      clear HB hb1 h0 hc
      cases hz : (cmpRow (rAt L k) t == 0)
      · have HZ := Lib.hid (beq_eq_false_iff_ne.1 hz)
        go_wp2
        go_roundw
        case rel => exact ⟨k + 1, by omega, by go_num, by rw [HCT.out, if_neg HZ.out]; rfl, HB1.out⟩
        case measure => simp [intOf]; omega
      · have HZ := Lib.hid (beq_iff_eq.1 hz)
        go_wp2
        go_roundw
        case rel => exact ⟨k + 1, by omega, by go_num, by rw [HCT.out, if_pos HZ.out]; go_num, HB1.out⟩
        case measure => simp [intOf]; omega
    · have hlt' : decide ((k : Int) < L.length) = false := decide_eq_false (by omega)
      obtain rfl : k = L.length := by omega
      go_wp2
      go_ret
      exact ⟨ret_int (by rw [List.take_length]), HB.out⟩
end Go.Proofs.YtlgagibmndbimaaDoor
