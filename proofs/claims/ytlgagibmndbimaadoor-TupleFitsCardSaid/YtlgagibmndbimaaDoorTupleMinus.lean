/-
  Minus of package tuple.
-/
import Derived.Test.YtlgagibmndbimaaDoorTupleSort
namespace Go.Proofs.YtlgagibmndbimaaDoor
open Go.RowKit
variable {ls : List Nat}

def lenOf : Value → Nat | .slice _ n _ => n | _ => 0
theorem Rows2.push {u w8 : World} {base : Nat} {vo v8 : Value} {G : List (Value × List Val)} {z : Value × List Val} {o : Obj} (h : Rows2 u base vo G) (hz : InRow u base z)
    (ho : w8.ownsRow base 25 1 v8 (G.length + 1) (G.map (·.1) ++ [z.1])) (hg : (u.alloc o).grownBy w8 vo.ownBlock) : Rows2 w8 base v8 (G ++ [z]) := by
  have h7 := h.low (below_alloc u o)
  have hz7 := hz.low (below_alloc u o)
  have hin : ∀ b q, InRow (u.alloc o) b q → InRow w8 b q := fun b q hq => hq.apart h7.1 fun k hk hne => hg.block k hk (fun e => hne e.symm)
  refine ⟨by simpa using ho, fun q hq => ?_⟩
  rcases List.mem_append.1 hq with hq | hq
  · exact hin _ _ (h7.2 q hq)
  · obtain rfl := List.mem_singleton.1 hq
    exact hin _ _ hz7
theorem RowsAt.head {u : World} {q : Option Addr} {x : List Val} {D : List (List Val)} (h : RowsAt u q (x :: D)) :
    ∃ (c o : Nat) (r : Option Addr) (cp : Nat), q = some ⟨c, o, none⟩ ∧ c < u.heap.size ∧ u.cell? ⟨c, o, none⟩ = some (.slice r x.length cp) ∧ RowAt u r x ∧ x.length * 32 ≤ 140737488355328 ∧ (r = none → x = [] ∧ cp = 0) := by
  obtain ⟨c, o, r, cp, hq, hc, h0, h1, h2, h3⟩ := h 0 (by simp)
  exact ⟨c, o, r, cp, hq, hc, h0, h1, h2, h3⟩
theorem RowsAt.tail {u : World} {c o : Nat} {x : List Val} {D : List (List Val)} (h : RowsAt u (some ⟨c, o, none⟩) (x :: D)) : RowsAt u (some ⟨c, o + 1, none⟩) D := by
  intro i hi
  obtain ⟨c', o', r, cp, hq, hc, h0, h1, h2, h3⟩ := h (i + 1) (by simp; omega)
  injection hq with hq
  injection hq with e1 e2 _
  subst e1 e2
  exact ⟨c, o + 1, r, cp, rfl, hc, by rw [show o + 1 + i = o + (i + 1) by omega]; exact h0, h1, h2, h3⟩
theorem RowsAt.cut {u : World} {c o cd : Nat} {x : List Val} {D : List (List Val)} (h : RowsAt u (some ⟨c, o, none⟩) (x :: D)) (hcd : (x :: D).length ≤ cd) : RowsAt u (if cd = 1 then some ⟨c, o, none⟩ else some ⟨c, o + 1, none⟩) D := by
  by_cases h1 : cd = 1
  · rw [if_pos h1]
    obtain rfl : D = [] := List.eq_nil_of_length_eq_zero (by rw [List.length_cons] at hcd; omega)
    exact fun i hi => by simp at hi
  · rw [if_neg h1]
    exact h.tail
theorem RowsAt.nil (u : World) (q : Option Addr) : RowsAt u q [] := fun i hi => by simp at hi

/-- What the loops of Minus keep. -/
structure MinIn (w w2 v : World) (vo : Value) (G : List (Value × List Val)) : Prop where
  rows : Rows2 v w2.heap.size vo G
  low : Below w2.heap.size w2 v
theorem MinIn.keep {w w2 u v : World} {vo : Value} {G : List (Value × List Val)} (h : MinIn w w2 u vo G) (hb : Below u.heap.size u v) : MinIn w w2 v vo G := ⟨h.rows.low hb, below_next h.low hb⟩
theorem MinIn.add {w w2 u u2 w8 : World} {vo v8 : Value} {G : List (Value × List Val)} {z : Value × List Val} {o : Obj} (h : MinIn w w2 u vo G) (hb : Below u.heap.size u u2) (hz : InRow u2 u.heap.size z)
    (ho : w8.ownsRow w2.heap.size 25 1 v8 (G.length + 1) (G.map (·.1) ++ [z.1])) (hg : (u2.alloc o).grownBy w8 vo.ownBlock) : MinIn w w2 w8 v8 (G ++ [z]) := by
  have h2 := h.keep hb
  have h7 := h2.keep (below_alloc u2 o)
  refine ⟨h2.rows.push (hz.base h.low.size) ho hg, h7.low.grown hg h7.low.size (fun k hk => (h7.rows.1.lt k hk).1)⟩

set_option maxRecDepth 100000 in
set_option maxHeartbeats 2000000 in
theorem minus_any (A B : List (List Val)) (p q : Option Addr) (ca cb : Nat) (w : World) (hA : A.length ≤ 1000) (hB : B.length ≤ 1000) (hp : RowsAt w p A) (hq : RowsAt w q B) :
    Calls Tryd.prog 19 #[.slice p A.length ca, .slice q B.length cb] w (MinusPost A B w) := by
  obtain ⟨i25, hi25, hz25, hs25, hb25⟩ := info_parts info_row
  unfold MinusPost
  have HP := Lib.hid hp
  have HQ := Lib.hid hq
  clear hp hq
  go_enter Tryd.func19, Tryd.ntmps19
  go_wp2_with fail
  refine (ordered_any B q cb _ hB HQ.out).mono ?_
  rintro e w1 ⟨vy, rfl, hoy⟩
  obtain ⟨py, cy, rfl, hy, hcy⟩ := hoy.rows
  have HY := Lib.hid hy
  have HB1 := Lib.hid hoy.low
  clear hy hoy
  go_wp2_with fail
  refine (ordered_any A p ca _ hA (HP.out.low HB1.out)).mono ?_
  rintro e w2 ⟨vx, rfl, hox⟩
  obtain ⟨px, cx, rfl, hx, -⟩ := hox.rows
  have HX := Lib.hid hx
  have HY2 := Lib.hid (HY.out.low hox.low)
  have HB2 := Lib.hid (below_next HB1.out hox.low)
  have hlx : (srt A).length ≤ 1000 := by rw [srt_length]; exact hA
  have HM0 : Hid (mrg (srt A) (srt B) = minR A B) := Lib.hid rfl
  have HMN : Hid (MinIn w w2 w2 (.slice none 0 0) []) := Lib.hid ⟨Rows2.nil _ _, Below.refl _ _⟩
  have hly : (srt B).length ≤ 1000 := by rw [srt_length]; exact hB
  clear hx hox HY HB1 HP HQ
  generalize srt A = X at *
  generalize srt B = Y at *
  generalize hME : minR A B = M at *
  have HME := Lib.hid hME.symm
  clear hME
  go_wp2_with fail
  go_loopw [5, 6, 14] (fun vo go ii v => ∃ (i : Nat) (G : List (Value × List Val)) (po : Option Addr) (co : Nat) (D : List (List Val)) (qd : Option Addr) (cd : Nat), i ≤ X.length ∧ G.length ≤ i ∧ vo = .slice po G.length co ∧ go = .slice qd D.length cd ∧ ii = .int .i64 i ∧ D.length ≤ cd ∧ D.length ≤ 1000 ∧ RowsAt w2 qd D ∧ MinIn w w2 v (.slice po G.length co) G ∧ G.map (·.2) ++ mrg (X.drop i) D = M) (fun _ _ ii _ => X.length - (intOf ii).toNat)
  case atStart => exact ⟨0, [], none, 0, Y, py, cy, Nat.zero_le _, Nat.le_refl _, rfl, rfl, rfl, hcy, hly, HY2.out, HMN.out, HM0.out⟩
  clear HMN HM0 HY2
  case round =>
    obtain ⟨i, G, po, co, D, qd, cd, hi, hgi, rfl, rfl, rfl, hcd, hdz, hD, hm, hmrg⟩ := hrel
    have HM := Lib.hid hm
    have HD := Lib.hid hD
    have HMRG := Lib.hid hmrg
    clear hm hD hmrg
    by_cases hlt : i < X.length
    · have hlt' : decide ((i : Int) < X.length) = true := decide_eq_true (by omega)
      obtain ⟨c, o, r, cr, rfl, hc', h0', hr, hrz, hrn⟩ := HX.out i hlt
      have hc := Nat.lt_of_lt_of_le hc' HM.out.low.size
      have h0 : wr.cell? ⟨c, o + i, none⟩ = some (.slice r (rAt X i).length cr) := by rw [HM.out.low.cell (by exact hc')]; exact h0'
      have HR := Lib.hid hr
      have HRN := Lib.hid hrn
      have HDX : Hid (X.drop i = rAt X i :: X.drop (i + 1)) := Lib.hid (drop_row hlt)
      clear hr hrn h0' hc'
      go_wp2_with fail
      go_loopw [6] (fun go v => ∃ (D : List (List Val)) (qd : Option Addr) (cd : Nat), go = .slice qd D.length cd ∧ D.length ≤ cd ∧ D.length ≤ 1000 ∧ RowsAt w2 qd D ∧ MinIn w w2 v (.slice po G.length co) G ∧ G.map (·.2) ++ mrg (rAt X i :: X.drop (i + 1)) D = M) (fun go _ => lenOf go)
      case atStart => exact ⟨D, qd, cd, rfl, hcd, hdz, HD.out, HM.out, by rw [← HDX.out]; exact HMRG.out⟩
      clear HM HMRG HD h0 hc HDX hcd hdz
      case round =>
        obtain ⟨D, qd, cd, rfl, hcd, hdz, hD, hm, hmrg⟩ := hrel
        have HM := Lib.hid hm
        have HMRG := Lib.hid hmrg
        clear hm hmrg
        have HRX := Lib.hid (HR.out.low HM.out.low)
        cases D with
        | nil =>
          have HKEEP : Hid (mrg (rAt X i :: X.drop (i + 1)) [] = rAt X i :: mrg (X.drop (i + 1)) []) := Lib.hid mrg_end
          go_wp2_with fail
          refine (copyrow_any (rAt X i) r cr _ HRX.out hrz HRN.out).mono ?_
          rintro e u2 ⟨z, rfl, hzin, hb2⟩
          have hzs : z = .slice (rowP z) (rAt X i).length (rowC z) := (owned_shape hzin.1).1
          generalize rowP z = pz at hzs
          generalize rowC z = cz at hzs
          subst hzs
          have HM2 := Lib.hid (HM.out.keep hb2)
          have HO7 := Lib.hid (HM2.out.rows.1.alloc (.cells #[.slice pz (rAt X i).length cz] 25))
          have HNEW := Lib.hid (one_news u2 (.slice pz (rAt X i).length cz))
          have HZ7 : Hid (w2.heap.size ≤ (u2.alloc (.cells #[.slice pz (rAt X i).length cz] 25)).heap.size) := Lib.hid (by rw [size_alloc]; have := HM2.out.low.size; omega)
          have HZIN := Lib.hid hzin
          have HBB := Lib.hid hb2
          clear hzin hb2 HM2
          go_wp2_with (at_builtin; refine wpList_append_lies _ rfl (.tmp 43) (.tmp 46) 39 rfl w2.heap.size 25 i25 _ 1 24 Tryd.underlying39 hi25 hz25 hs25 hb25 rfl (by decide) (.slice po G.length co) G.length (G.map (·.1)) (by rfl) HO7.out ⟨u2.heap.size, 0, none⟩ 1 1 [.slice pz (rAt X i).length cz] (by rfl) rfl HNEW.out (by intro u hu; obtain rfl := List.mem_singleton.1 hu; rfl) (by decide) (by unfold maxLen; omega) (by omega) HZ7.out _ rfl ?_; intro g8 c8 w8 hown8 hgr8 hat8 hlt8; (have hM8 := HM.out.add HBB.out HZIN.out hown8 hgr8); (have HM8 := Lib.hid hM8); clear hM8 hown8 hgr8 hat8)
          go_roundw
          case rel => exact ⟨i + 1, G ++ [(.slice pz (rAt X i).length cz, rAt X i)], some ⟨g8, 0, none⟩, c8, [], qd, cd, by omega, by rw [List.length_append, List.length_singleton]; omega, by rw [List.length_append]; rfl, rfl, by go_num, hcd, hdz, hD, by rw [List.length_append]; exact HM8.out, by rw [List.map_append, List.map_singleton, List.append_assoc, List.singleton_append, ← HKEEP.out]; exact HMRG.out⟩
          case measure => simp [intOf]; omega
        | cons y D =>
          obtain ⟨c2, o2, r2, cr2, rfl, hc2', h02', hr2, hrz2, -⟩ := hD.head
          have hc2 := Nat.lt_of_lt_of_le hc2' HM.out.low.size
          have h02 : wr.cell? ⟨c2, o2, none⟩ = some (.slice r2 y.length cr2) := by rw [HM.out.low.cell (by exact hc2')]; exact h02'
          have HR2 := Lib.hid (hr2.low HM.out.low)
          go_wp2_with fail
          refine (comparerows_any r2 r y (rAt X i) cr2 cr _ (by omega) (by omega) HR2.out HRX.out).mono ?_
          rintro e v1 ⟨rfl, hb1⟩
          have HM1 := Lib.hid (HM.out.keep hb1)
          have h03 : v1.cell? ⟨c2, o2, none⟩ = some (.slice r2 y.length cr2) := by rw [HM1.out.low.cell (by exact hc2')]; exact h02'
          have hc3 := Nat.lt_of_lt_of_le hc2' HM1.out.low.size
          have HR3 := Lib.hid (hr2.low HM1.out.low)
          have HRX3 := Lib.hid (HR.out.low HM1.out.low)
          clear HM hb1 h02 hc2 HR2 HRX hc2' h02' hr2
          cases hneg : decide (cmpRow y (rAt X i) < 0)
          · go_wp2_with fail
            refine (samerow_any r2 r y (rAt X i) cr2 cr _ (by omega) (by omega) HR3.out HRX3.out).mono ?_
            rintro e v2 ⟨rfl, hb2⟩
            have HM := Lib.hid (HM1.out.keep hb2)
            have HRX := Lib.hid (HR.out.low HM.out.low)
            clear HM1 hb2 h03 hc3 HR3 HRX3
            cases hz : (cmpRow y (rAt X i) == 0)
            · have HKEEP : Hid (mrg (rAt X i :: X.drop (i + 1)) (y :: D) = rAt X i :: mrg (X.drop (i + 1)) (y :: D)) := Lib.hid (mrg_keep (of_decide_eq_false hneg) (beq_eq_false_iff_ne.1 hz))
              go_wp2_with fail
              refine (copyrow_any (rAt X i) r cr _ HRX.out hrz HRN.out).mono ?_
              rintro e u2 ⟨z, rfl, hzin, hb2⟩
              have hzs : z = .slice (rowP z) (rAt X i).length (rowC z) := (owned_shape hzin.1).1
              generalize rowP z = pz at hzs
              generalize rowC z = cz at hzs
              subst hzs
              have HM2 := Lib.hid (HM.out.keep hb2)
              have HO7 := Lib.hid (HM2.out.rows.1.alloc (.cells #[.slice pz (rAt X i).length cz] 25))
              have HNEW := Lib.hid (one_news u2 (.slice pz (rAt X i).length cz))
              have HZ7 : Hid (w2.heap.size ≤ (u2.alloc (.cells #[.slice pz (rAt X i).length cz] 25)).heap.size) := Lib.hid (by rw [size_alloc]; have := HM2.out.low.size; omega)
              have HZIN := Lib.hid hzin
              have HBB := Lib.hid hb2
              clear hzin hb2 HM2
              go_wp2_with (at_builtin; refine wpList_append_lies _ rfl (.tmp 43) (.tmp 46) 39 rfl w2.heap.size 25 i25 _ 1 24 Tryd.underlying39 hi25 hz25 hs25 hb25 rfl (by decide) (.slice po G.length co) G.length (G.map (·.1)) (by rfl) HO7.out ⟨u2.heap.size, 0, none⟩ 1 1 [.slice pz (rAt X i).length cz] (by rfl) rfl HNEW.out (by intro u hu; obtain rfl := List.mem_singleton.1 hu; rfl) (by decide) (by unfold maxLen; omega) (by omega) HZ7.out _ rfl ?_; intro g8 c8 w8 hown8 hgr8 hat8 hlt8; (have hM8 := HM.out.add HBB.out HZIN.out hown8 hgr8); (have HM8 := Lib.hid hM8); clear hM8 hown8 hgr8 hat8)
              go_roundw
              case rel => exact ⟨i + 1, G ++ [(.slice pz (rAt X i).length cz, rAt X i)], some ⟨g8, 0, none⟩, c8, y :: D, some ⟨c2, o2, none⟩, cd, by omega, by rw [List.length_append, List.length_singleton]; omega, by rw [List.length_append]; rfl, rfl, by go_num, hcd, hdz, hD, by rw [List.length_append]; exact HM8.out, by rw [List.map_append, List.map_singleton, List.append_assoc, List.singleton_append, ← HKEEP.out]; exact HMRG.out⟩
              case measure => simp [intOf]; omega
            · have HHIT : Hid (mrg (rAt X i :: X.drop (i + 1)) (y :: D) = mrg (X.drop (i + 1)) D) := Lib.hid (mrg_hit (beq_iff_eq.1 hz))
              go_wp2
              go_roundw
              case rel => exact ⟨i + 1, G, po, co, D, _, cd - 1, by omega, by omega, rfl, rfl, by go_num, by rw [List.length_cons] at hcd; omega, by rw [List.length_cons] at hdz; omega, hD.cut hcd, HM.out, by rw [← HHIT.out]; exact HMRG.out⟩
              case measure => simp [intOf]; omega
          · have HSKIP : Hid (mrg (rAt X i :: X.drop (i + 1)) (y :: D) = mrg (rAt X i :: X.drop (i + 1)) D) := Lib.hid (mrg_skip (of_decide_eq_true hneg))
            go_wp2
            go_roundw
            case rel => exact ⟨D, _, cd - 1, rfl, by rw [List.length_cons] at hcd; omega, by rw [List.length_cons] at hdz; omega, hD.cut hcd, HM1.out, by rw [← HSKIP.out]; exact HMRG.out⟩
            case measure => simp [lenOf]
    · have hlt' : decide ((i : Int) < X.length) = false := decide_eq_false (by omega)
      have HE : Hid (G.map (·.2) = minR A B) := Lib.hid (by
        have h1 := HMRG.out
        rw [List.drop_eq_nil_of_le (by omega), mrg, List.append_nil] at h1
        rw [h1, HME.out])
      have HLN : Hid ((minR A B).length = G.length) := Lib.hid (by rw [← HE.out, List.length_map])
      have HRW := Lib.hid HM.out.rows
      have HBL := Lib.hid (HB2.out.trans (HM.out.low.mono HB2.out.size))
      clear HM HD HMRG
      go_wp2
      go_ret
      exact ⟨po, co, by rw [HLN.out]; rfl, by rw [← HE.out]; exact HRW.out.rows, HBL.out⟩
end Go.Proofs.YtlgagibmndbimaaDoor
