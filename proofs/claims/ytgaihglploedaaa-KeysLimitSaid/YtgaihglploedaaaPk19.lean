/-
  Several texts in one.
-/
import Derived.Test.YtgaihglploedaaaPk18
import Derived.Deep.RegionHeld3
import Derived.Deep.CutBlock
import Derived.Test.YtgaihglploedaaaPk15
import Derived.Deep.RegionLaw
/-
  Package keys: remaining (the loop over the rows).
-/
namespace Go.Proofs.Ytgaihglploedaaa
set_option maxRecDepth 100000
open Go.RowKit
variable {ls : List Nat}

set_option maxHeartbeats 1000000 in
theorem eqvals_any (p q : Option Addr) (a b : List Val) (ca cb : Nat) (w : World) (hla : a.length ≤ 9223372036854775807) (ha : RowAt w p a) (hb : RowAt w q b) :
    Calls Try.prog 41 #[.slice p a.length ca, .slice q b.length cb, .func (.func 33) #[] #[]] w fun e w' => e = .returned (.bool (decide (a = b))) ∧ Below w.heap.size w w' := by
  have HP := Lib.hid ha
  have HQ := Lib.hid hb
  clear ha hb
  by_cases hl : a.length = b.length
  · have hlI : ((a.length : Int) != (b.length : Int)) = false := by simp [hl]
    have HL := Lib.hid hl
    clear hl
    go_enter Try.func41, Try.ntmps41
    go_wp2_with fail
    go_loopw [17] (fun i v => ∃ k : Nat, k ≤ a.length ∧ i = .int .i64 k ∧ (∀ j, j < k → vAt a j = vAt b j) ∧ Below w.heap.size w v) (fun i _ => a.length - (intOf i).toNat)
    case atStart => exact ⟨0, Nat.zero_le _, rfl, fun j hj => by omega, Below.refl _ _⟩
    case round =>
      obtain ⟨k, hk, rfl, heq, hb⟩ := hrel
      have HEQ := Lib.hid heq
      have HB := Lib.hid hb
      clear heq hb
      by_cases hlt : k < a.length
      · have hlt' : decide ((k : Int) < a.length) = true := decide_eq_true (by omega)
        have hkb : k < b.length := by have := HL.out; omega
        have hkI : (k : Int) < (b.length : Int) := by omega
        obtain ⟨c, o, rfl, hc, x0, x1, x2⟩ := HP.out.low HB.out k hlt
        obtain ⟨c', o', rfl, hc', y0, y1, y2⟩ := HQ.out.low HB.out k hkb
        go_wp2_with fail
        refine (same_any _ _ _ _ _ _ _).mono ?_
        rintro e v1 ⟨rfl, hb1⟩
        have HB1 := Lib.hid (below_next (below_new (below_new HB.out _) _) hb1)
        clear HB hb1 x0 x1 x2 y0 y1 y2 hc hc'
        cases hsame : sameV (vAt a k).1 (vAt a k).2.1 (vAt a k).2.2 (vAt b k).1 (vAt b k).2.1 (vAt b k).2.2
        · have HD : Hid (¬ a = b) := Lib.hid (fun h => by
            rw [h] at hsame
            rw [same_vals.2 rfl] at hsame
            cases hsame)
          go_wp2
          go_ret
          exact ⟨ret_b (decide_eq_false HD.out).symm, HB1.out⟩
        · have HS := Lib.hid (same_vals.1 hsame)
          go_wp2
          go_roundw
          case rel => exact ⟨k + 1, by omega, by go_num, fun j hj => by
            by_cases hjk : j = k
            · subst hjk; exact HS.out
            · exact HEQ.out j (by omega), HB1.out⟩
          case measure => simp [intOf]; omega
      · have hlt' : decide ((k : Int) < a.length) = false := decide_eq_false (by omega)
        obtain rfl : k = a.length := by omega
        have HD : Hid (a = b) := Lib.hid (ext_vals HL.out HEQ.out)
        go_wp2
        go_ret
        exact ⟨ret_b (decide_eq_true HD.out).symm, HB.out⟩
  · have hlI : ((a.length : Int) != (b.length : Int)) = true := bne_iff_ne.2 (by omega)
    have HD : Hid (¬ a = b) := Lib.hid (fun h => hl (by rw [h]))
    clear hl
    go_enter Try.func41, Try.ntmps41
    go_wp2
    go_ret
    exact ⟨ret_b (decide_eq_false HD.out).symm, Below.refl _ _⟩
/-- Values that lie in a world. -/
def LiesV (w : World) (v : Value) (l : List Val) : Prop := ∃ (q : Option Addr) (c : Nat), v = .slice q l.length c ∧ RowAt w q l ∧ l.length * 32 ≤ 140737488355328 ∧ (q = none → l = [] ∧ c = 0)
/-- Rows of the call's own; the values lie in w0, but those of the first k, which are the call's own, too. -/
structure MOwn (w0 u : World) (base k : Nat) (vr : Value) (G : List GRow) : Prop where
  own : u.ownsRow base 34 2 vr G.length (tcells G)
  fst : ∀ i, i < k → i < G.length → InRow u base ((grAt G i).2.1, (grAt G i).2.2)
  snd : ∀ i, k ≤ i → i < G.length → LiesV w0 (grAt G i).2.1 (grAt G i).2.2
  low : Below w0.heap.size w0 u
  hb : w0.heap.size ≤ base
theorem MOwn.to {w0 u v : World} {base k : Nat} {vr : Value} {G : List GRow} (h : MOwn w0 u base k vr G) (hb : Below u.heap.size u v) : MOwn w0 v base k vr G :=
  ⟨owns_below h.own hb, fun i hi hl => (h.fst i hi hl).low hb, h.snd, h.low.trans (hb.mono h.low.size), h.hb⟩
theorem MOwn.nil {w0 u : World} (base : Nat) (hb : Below w0.heap.size w0 u) (h : w0.heap.size ≤ base) : MOwn w0 u base 0 (.slice none 0 0) [] :=
  ⟨⟨rfl, Or.inl ⟨rfl, rfl⟩⟩, fun i hi => by omega, fun i _ hi => by simp at hi, hb, h⟩
theorem grAt_left {A B : List GRow} {i : Nat} (h : i < A.length) : grAt (A ++ B) i = grAt A i := by unfold grAt; rw [List.getD, List.getElem?_append_left h]; rfl
theorem grAt_last (A : List GRow) (x : GRow) : grAt (A ++ [x]) A.length = x := by unfold grAt; simp
theorem MOwn.setX {w0 u : World} {base X o : Nat} {vr : Value} {G : List GRow} (h : MOwn w0 u base 0 vr G) (hX : w0.heap.size ≤ X) (hne : ∀ j, vr.ownBlock = some j → j < X) (y : Value) : MOwn w0 (u.setCell ⟨X, o, none⟩ y) base 0 vr G :=
  ⟨owns_keep h.own fun k hk => Below.heap_setCell _ _ _ _ (fun e => by have := hne k hk; have e : k = X := e; omega), fun i hi => by omega, h.snd, h.low.setCell (by exact hX) _, h.hb⟩
/-- A row is added whose values lie in w0. -/
theorem MOwn.push {w0 u w8 : World} {base : Nat} {vr v8 : Value} {G : List GRow} {g : GRow} (h : MOwn w0 u base 0 vr G) (hg : LiesV w0 g.2.1 g.2.2)
    (ho : w8.ownsRow base 34 2 v8 (G ++ [g]).length (tcells (G ++ [g]))) (hgr : u.grownBy w8 vr.ownBlock) (_hbase : base ≤ u.heap.size) : MOwn w0 w8 base 0 v8 (G ++ [g]) := by
  refine ⟨ho, fun i hi => by omega, fun i _ hi => ?_, grown_below h.low h.low.size hgr fun k hk => Nat.le_trans h.hb (owns_block h.own k hk), h.hb⟩
  rw [List.length_append, List.length_singleton] at hi
  by_cases hlt : i < G.length
  · rw [grAt_left hlt]; exact h.snd i (Nat.zero_le _) hlt
  · obtain rfl : i = G.length := by omega
    rw [grAt_last]; exact hg
/-- What remaining gives. -/
def RemPost (R : List TRow) (D : List Int) (U : List PRow) (w0 w : World) (e : Ending) (w' : World) : Prop :=
  ∃ v : Value, e = .returned (.tuple #[v, .bool (remR R D U).isSome]) ∧ Below w.heap.size w w' ∧ ∀ X, remR R D U = some X → ∃ G, tabR G = X ∧ MOwn w0 w' w.heap.size 0 v G
theorem NumAt.tail {w : World} {c o cap : Nat} {D : List Int} (h : NumAt w (some ⟨c, o, none⟩) D) (h0 : 0 < D.length) (hc : D.length ≤ cap) : NumAt w (if cap = 1 then some ⟨c, o, none⟩ else some ⟨c, o + 1, none⟩) (D.drop 1) := fun i hi => by
  rw [List.length_drop] at hi
  rw [if_neg (by omega)]
  obtain ⟨c', o', hp, hs, h1⟩ := h (i + 1) (by omega)
  cases hp
  refine ⟨c, o + 1, rfl, hs, ?_⟩
  have e : iAt (D.drop 1) i = iAt D (i + 1) := by unfold iAt; rw [List.getD, List.getElem?_drop, Nat.add_comm]; rfl
  rw [e, show o + 1 + i = o + (i + 1) by omega]
  exact h1
theorem PairsAt.tail {w : World} {c o cap : Nat} {U : List PRow} (h : PairsAt w (some ⟨c, o, none⟩) U) (h0 : 0 < U.length) (hc : U.length ≤ cap) : PairsAt w (if cap = 1 then some ⟨c, o, none⟩ else some ⟨c, o + 3, none⟩) (U.drop 1) := fun i hi => by
  rw [List.length_drop] at hi
  rw [if_neg (by omega)]
  obtain ⟨c', o', q, cq, r, cr, hp, hs, h1, h2, h3, h4⟩ := h (i + 1) (by omega)
  cases hp
  have e : pAt (U.drop 1) i = pAt U (i + 1) := by unfold pAt; rw [List.getD, List.getElem?_drop, Nat.add_comm]; rfl
  refine ⟨c, o + 3, q, cq, r, cr, rfl, hs, ?_⟩
  rw [e, show o + 3 + i * 3 = o + (i + 1) * 3 by omega]
  exact ⟨h1, h2, h3, h4⟩
theorem rem_head {D : List Int} {z : Int} : D.head? = some z ↔ 0 < D.length ∧ iAt D 0 = z := by
  cases D with
  | nil => simp
  | cons d D => simp [iAt]
theorem rem_headU {U : List PRow} {z : Int} : U.head?.map (·.1) = some z ↔ 0 < U.length ∧ (pAt U 0).1 = z := by
  cases U with
  | nil => simp
  | cons d D => simp [pAt]
theorem rem_nil {D : List Int} {U : List PRow} : remR [] D U = if D.length = 0 ∧ U.length = 0 then some [] else none := by
  show (if D = [] ∧ U = [] then some [] else none) = _
  simp only [List.length_eq_zero_iff]
/-- The rest of the rows, from row k on. -/
structure RemAt (R : List TRow) (D : List Int) (U : List PRow) (k : Nat) (D' : List Int) (U' : List PRow) (X : List TRow) : Prop where
  eq : remR R D U = (remR (R.drop k) D' U').map (X ++ ·)
theorem RemAt.start (R : List TRow) (D : List Int) (U : List PRow) : RemAt R D U 0 D U [] := ⟨by rw [List.drop_zero]; cases remR R D U <;> simp⟩
section
variable {R : List TRow} {D D' : List Int} {U U' : List PRow} {k : Nat} {X : List TRow}
theorem RemAt.del (h : RemAt R D U k D' U' X) (hk : k < R.length) (hd : 0 < D'.length ∧ iAt D' 0 = (tAt R k).1) : RemAt R D U (k + 1) (D'.drop 1) U' X := by
  refine ⟨?_⟩
  rw [h.eq, drop_trow hk]
  show ((if D'.head? = some (tAt R k).1 then _ else _) : Option (List TRow)).map _ = _
  rw [if_pos (rem_head.2 hd), List.drop_one]
theorem RemAt.mis (h : RemAt R D U k D' U' X) (hk : k < R.length) (hd : ¬ (0 < D'.length ∧ iAt D' 0 = (tAt R k).1)) (hu : 0 < U'.length ∧ (pAt U' 0).1 = (tAt R k).1) (ho : ¬ (pAt U' 0).2.1 = (tAt R k).2) : remR R D U = none := by
  rw [h.eq, drop_trow hk]
  show ((if D'.head? = some (tAt R k).1 then _ else if U'.head?.map (·.1) = some (tAt R k).1 then _ else _) : Option (List TRow)).map _ = _
  rw [if_neg (fun hc => hd (rem_head.1 hc)), if_pos (rem_headU.2 hu), if_neg ho]
  rfl
theorem RemAt.upd (h : RemAt R D U k D' U' X) (hk : k < R.length) (hd : ¬ (0 < D'.length ∧ iAt D' 0 = (tAt R k).1)) (hu : 0 < U'.length ∧ (pAt U' 0).1 = (tAt R k).1) (ho : (pAt U' 0).2.1 = (tAt R k).2) : RemAt R D U (k + 1) D' (U'.drop 1) (X ++ [((tAt R k).1, (pAt U' 0).2.2)]) := by
  refine ⟨?_⟩
  rw [h.eq, drop_trow hk]
  show ((if D'.head? = some (tAt R k).1 then _ else if U'.head?.map (·.1) = some (tAt R k).1 then _ else _) : Option (List TRow)).map _ = _
  rw [if_neg (fun hc => hd (rem_head.1 hc)), if_pos (rem_headU.2 hu), if_pos ho, List.drop_one]
  cases remR (R.drop (k + 1)) D' U'.tail <;> simp
theorem RemAt.keep (h : RemAt R D U k D' U' X) (hk : k < R.length) (hd : ¬ (0 < D'.length ∧ iAt D' 0 = (tAt R k).1)) (hu : ¬ (0 < U'.length ∧ (pAt U' 0).1 = (tAt R k).1)) : RemAt R D U (k + 1) D' U' (X ++ [((tAt R k).1, (tAt R k).2)]) := by
  refine ⟨?_⟩
  rw [h.eq, drop_trow hk]
  show ((if D'.head? = some (tAt R k).1 then _ else if U'.head?.map (·.1) = some (tAt R k).1 then _ else _) : Option (List TRow)).map _ = _
  rw [if_neg (fun hc => hd (rem_head.1 hc)), if_neg (fun hc => hu (rem_headU.1 hc))]
  cases remR (R.drop (k + 1)) D' U' <;> simp
theorem RemAt.done (h : RemAt R D U R.length D' U' X) : remR R D U = if D'.length = 0 ∧ U'.length = 0 then some X else none := by
  rw [h.eq, List.drop_length, rem_nil]
  split <;> simp
end
/-- The two lists, as the loop holds them. -/
structure TwoL (w : World) (pd : Option Addr) (cd : Nat) (D : List Int) (pu : Option Addr) (cu : Nat) (U : List PRow) : Prop where
  del : NumAt w pd D
  upd : PairsAt w pu U
  dl : D.length ≤ cd
  ul : U.length ≤ cu
theorem TwoL.dropD {w : World} {c o cd : Nat} {D : List Int} {pu : Option Addr} {cu : Nat} {U : List PRow} (h : TwoL w (some ⟨c, o, none⟩) cd D pu cu U) (h0 : 0 < D.length) : TwoL w (if cd = 1 then some ⟨c, o, none⟩ else some ⟨c, o + 1, none⟩) (cd - 1) (D.drop 1) pu cu U :=
  ⟨h.del.tail h0 h.dl, h.upd, by rw [List.length_drop]; have := h.dl; omega, h.ul⟩
theorem TwoL.dropU {w : World} {c o cd : Nat} {D : List Int} {pd : Option Addr} {cu : Nat} {U : List PRow} (h : TwoL w pd cd D (some ⟨c, o, none⟩) cu U) (h0 : 0 < U.length) : TwoL w pd cd D (if cu = 1 then some ⟨c, o, none⟩ else some ⟨c, o + 3, none⟩) (cu - 1) (U.drop 1) :=
  ⟨h.del, h.upd.tail h0 h.ul, h.dl, by rw [List.length_drop]; have := h.ul; omega⟩
theorem keepKR {u v : World} {c X o : Nat} {x y : Value} (hb : Below u.heap.size u v) (h : u.cell? ⟨c, o, none⟩ = some x ∧ c < u.heap.size ∧ u.cell? ⟨X, 1, none⟩ = some y ∧ X < u.heap.size) : v.cell? ⟨c, o, none⟩ = some x ∧ c < v.heap.size ∧ v.cell? ⟨X, 1, none⟩ = some y ∧ X < v.heap.size := by
  obtain ⟨a, b, d, e⟩ := h
  exact ⟨by rw [hb.cell (by exact b)]; exact a, Nat.lt_of_lt_of_le b hb.size, by rw [hb.cell (by exact e)]; exact d, Nat.lt_of_lt_of_le e hb.size⟩
theorem undrewB {B : Nat} {u v : World} (h : Below B u.drew v) : Below B u v := ⟨h.os, h.tape, h.output, h.size, h.block⟩
theorem cell2_put1 {u : World} {X : Nat} {x y : Value} (h : Cell2 u X x y) (z : Value) : Cell2 (u.setCell ⟨X, 1, none⟩ z) X x z := by
  obtain ⟨hl, c0, c1, fz⟩ := h
  refine ⟨by simpa [World.setCell] using hl, ?_, ?_, fun o => ?_⟩
  · go_simp
  · go_simp
  · rw [World.frozen?_setCell]; exact fz o
/-- The relation of the loop. -/
def RemRel (w0 w : World) (R : List TRow) (D : List Int) (U : List PRow) (r d u i : Value) (v : World) : Prop :=
  ∃ (k : Nat) (vr : Value) (G : List GRow) (pd : Option Addr) (md cd : Nat) (D' : List Int) (pu : Option Addr) (mu cu : Nat) (U' : List PRow), k ≤ R.length ∧ vr = r ∧ d = .slice pd md cd ∧ u = .slice pu mu cu ∧ i = .int .i64 k ∧ md = D'.length ∧ mu = U'.length ∧ G.length ≤ k ∧ TwoL w0 pd cd D' pu cu U' ∧ RemAt R D U k D' U' (tabR G) ∧ MOwn w0 v w.heap.size 0 vr G ∧ Below w.heap.size w v ∧ md ≤ 9223372036854775807 ∧ mu ≤ 9223372036854775807
set_option maxHeartbeats 16000000 in
theorem remaining_any (T : Tab) (C : Chg) (w0 w : World) (hR : TRowsAt w0 T.pr T.R) (hR63 : T.R.length ≤ 1000) (hC : ChgAt w0 C) (hb0 : Below w0.heap.size w0 w) :
    Calls Try.prog 35 #[T.v, C.v] w (RemPost T.R C.D C.U w0 w) := by
  obtain ⟨nm, pc, n, cc, f, nx, pr, cr, R⟩ := T
  obtain ⟨pi, ci, I, pd, cd, D, pu, cu, U⟩ := C
  unfold Tab.v Chg.v
  dsimp only at *
  have hD63 := hC.dl
  have hU63 := hC.ul
  dsimp only at hR63 hD63 hU63
  have HR := Lib.hid hR
  have HW0 := Lib.hid hb0
  have HTL : Hid (TwoL w0 pd cd D pu cu U) := Lib.hid ⟨hC.del, hC.upd, hC.dcap, hC.ucap⟩
  have HB0 : Hid (Below w.heap.size w ((w.alloc (.cells #[.string nm, .slice pc n cc, .int .i64 nx, .slice pr R.length cr] 29)).alloc (.cells #[.slice pi I.length ci, .slice pd D.length cd, .slice pu U.length cu] 46))) := Lib.hid (below_new (below_new (Below.refl _ _) _) _)
  have HX : Hid (Cell4 ((w.alloc (.cells #[.string nm, .slice pc n cc, .int .i64 nx, .slice pr R.length cr] 29)).alloc (.cells #[.slice pi I.length ci, .slice pd D.length cd, .slice pu U.length cu] 46)) w.heap.size (.string nm) (.slice pc n cc) (.int .i64 nx) (.slice pr R.length cr)) := Lib.hid ((cell4_new w _ _ _ _ _).low (below_alloc _ _))
  have HY : Hid (Cell3 ((w.alloc (.cells #[.string nm, .slice pc n cc, .int .i64 nx, .slice pr R.length cr] 29)).alloc (.cells #[.slice pi I.length ci, .slice pd D.length cd, .slice pu U.length cu] 46)) (w.heap.size + 1) (.slice pi I.length ci) (.slice pd D.length cd) (.slice pu U.length cu)) := Lib.hid ((cell3_new (w.alloc _) _ _ _ _).at (size_alloc _ _))
  clear hR hC hb0
  go_enter Try.func35, Try.ntmps35
  go_upto_region 2 with (fail)
  generalize World.alloc _ _ = W0 at HB0 HX HY ⊢
  obtain ⟨xl, x0, x1, x2, x3, -⟩ := HX.out
  obtain ⟨yl, y0, y1, y2, -⟩ := HY.out
  go_quiet (fail)
  go_wp2_with fail
  go_loopw [6, 7, 8, 18] (fun r d u i v => RemRel w0 w R D U r d u i v) (fun _ _ _ i _ => R.length - (intOf i).toNat)
  case atStart => exact ⟨0, .slice none 0 0, [], pd, _, cd, D, pu, _, cu, U, Nat.zero_le _, rfl, rfl, rfl, rfl, rfl, rfl, Nat.le_refl _, HTL.out, RemAt.start R D U, MOwn.nil _ (HW0.out.trans ((below_drewN HB0.out _).mono HW0.out.size)) HW0.out.size, below_drewN HB0.out _, hD63, hU63⟩
  clear HX HY HB0 HTL xl x0 x1 x2 x3 yl y0 y1 y2 hD63 hU63
  case round =>
    obtain ⟨k, vr, G, pd, md, cd, D', pu, mu, cu, U', hk, rfl, rfl, rfl, rfl, hmd, hmu, hGk, htl, hra, hown, hbw, hmd63, hmu63⟩ := hrel
    have HTL := Lib.hid htl
    have HRA := Lib.hid hra
    have HOW := Lib.hid hown
    have HBW := Lib.hid hbw
    have HMD := Lib.hid hmd
    have HMU := Lib.hid hmu
    clear htl hra hown hmd hmu hbw
    by_cases hlt : k < R.length
    · have hlt' : decide ((k : Int) < R.length) = true := decide_eq_true (by omega)
      obtain ⟨c, o, q, cp, rfl, hc', h0', h1', hr, hs, hqn⟩ := HR.out k hlt
      have hc := Nat.lt_of_lt_of_le hc' HOW.out.low.size
      have h0 : wr.cell? ⟨c, o + k * 2, none⟩ = some (.int .i64 (tAt R k).1) := by rw [HOW.out.low.cell (by exact hc')]; exact h0'
      have h1 : wr.cell? ⟨c, o + k * 2 + 1, none⟩ = some (.slice q (tAt R k).2.length cp) := by rw [HOW.out.low.cell (by exact hc')]; exact h1'
      have HLV : Hid (LiesV w0 (.slice q (tAt R k).2.length cp) (tAt R k).2) := Lib.hid ⟨q, cp, rfl, hr, hs, hqn⟩
      have hbn := below_alloc wr (.cells #[.int .i64 (tAt R k).1, .slice q (tAt R k).2.length cp] 34)
      have HOW2 := Lib.hid (HOW.out.to hbn)
      have HBW2 := Lib.hid (below_next HBW.out hbn)
      have HX2 := Lib.hid (cell2_new wr (.int .i64 (tAt R k).1) (.slice q (tAt R k).2.length cp) 34)
      have HRW := Lib.hid hr
      have HSZ := Lib.hid hs
      have HNX0 : Hid (∀ j, vr.ownBlock = some j → j < wr.heap.size) := Lib.hid (owns_lt HOW.out.own)
      have HXW0 : Hid (w0.heap.size ≤ wr.heap.size ∧ w.heap.size ≤ wr.heap.size) := Lib.hid ⟨HOW.out.low.size, HBW.out.size⟩
      clear h0' h1' hc' hr hs hqn hbn
      go_upto_region 6 with (fail)
      clear h0 h1 hc HOW HBW
      generalize World.alloc _ _ = W2 at HOW2 HX2 HBW2 ⊢
      generalize wr.heap.size = X at HX2 HNX0 HXW0 ⊢
      have HNX : Hid (∀ j, vr.ownBlock = some j → j < X) := HNX0
      have HXW : Hid (w0.heap.size ≤ X) := Lib.hid HXW0.out.1
      have HXB : Hid (w.heap.size ≤ X) := Lib.hid HXW0.out.2
      clear HNX0 HXW0
      obtain ⟨rl, r0, r1, rf⟩ := HX2.out
      have hq64 : (tAt R k).2.length ≤ 9223372036854775807 := by have := HSZ.out; omega
      obtain ⟨db, hdb⟩ : ∃ b, decide (0 < D'.length ∧ iAt D' 0 = (tAt R k).1) = b := ⟨_, rfl⟩
      have HDB := Lib.hid hdb
      clear hdb
      go_cut [32] from 22 to 32 (fun s wx => s = .bool db ∧ Below W2.heap.size W2 wx)
      case first =>
        by_cases hd0 : 0 < D'.length
        · obtain ⟨c1, o1, rfl, hc1, n0'⟩ := HTL.out.del 0 hd0
          have n0 : W2.cell? ⟨c1, o1, none⟩ = some (.int .i64 (iAt D' 0)) := by rw [HOW2.out.low.cell (by exact hc1)]; exact n0'
          have hm0 : 0 < md := by have := HMD.out; omega
          have gD : decide (0 < md) = true := decide_eq_true hm0
          have heb : (iAt D' 0 == (tAt R k).1) = db := by
            rw [← HDB.out]
            by_cases he : iAt D' 0 = (tAt R k).1
            · rw [decide_eq_true ⟨hd0, he⟩]; exact beq_iff_eq.2 he
            · rw [decide_eq_false fun hc => he hc.2]; exact beq_eq_false_iff_ne.2 he
          clear n0' hc1 hd0
          go_quiet (fail)
          go_wp2_with fail
          go_meet
          exact ⟨rfl, below_drewN (Below.refl _ _) _⟩
        · have gN : ¬ 0 < md := by have := HMD.out; omega
          have gD : decide (0 < md) = false := decide_eq_false gN
          obtain rfl : false = db := by rw [← HDB.out, decide_eq_false fun hc => hd0 hc.1]
          clear hd0
          go_quiet (fail)
          go_wp2_with fail
          go_meet
          exact ⟨rfl, below_drewN (Below.refl _ _) _⟩
      case rest =>
        obtain ⟨rfl, hbc⟩ := hcut
        have HOW3 := Lib.hid (HOW2.out.to hbc)
        have HX3 := Lib.hid (HX2.out.low hbc)
        have HBW3 := Lib.hid (below_next HBW2.out hbc)
        clear hbc HOW2 HX2 HBW2 rl r0 r1 rf
        obtain ⟨rl, r0, r1, rf⟩ := HX3.out
        cases db
        · have HND : Hid (¬ (0 < D'.length ∧ iAt D' 0 = (tAt R k).1)) := Lib.hid (of_decide_eq_false HDB.out)
          clear HDB
          obtain ⟨ub, hub⟩ : ∃ b, decide (0 < U'.length ∧ (pAt U' 0).1 = (tAt R k).1) = b := ⟨_, rfl⟩
          have HUB := Lib.hid hub
          clear hub
          go_upto_region 8 with (fail)
          generalize wc = wd at *
          go_cut [46] from 35 to 46 (fun s wx => s = .bool ub ∧ Below wd.heap.size wd wx)
          case first =>
            by_cases hu0 : 0 < U'.length
            · obtain ⟨c1, o1, q1, cq1, r1', cr1, rfl, hc1, n0', -⟩ := HTL.out.upd 0 hu0
              have n0 : wd.cell? ⟨c1, o1, none⟩ = some (.int .i64 (pAt U' 0).1) := by rw [HOW3.out.low.cell (by exact hc1)]; rw [Nat.zero_mul] at n0'; exact n0'
              have hm0 : 0 < mu := by have := HMU.out; omega
              have gD : decide (0 < mu) = true := decide_eq_true hm0
              have heb : ((pAt U' 0).1 == (tAt R k).1) = ub := by
                rw [← HUB.out]
                by_cases he : (pAt U' 0).1 = (tAt R k).1
                · rw [decide_eq_true ⟨hu0, he⟩]; exact beq_iff_eq.2 he
                · rw [decide_eq_false fun hc => he hc.2]; exact beq_eq_false_iff_ne.2 he
              clear n0' hc1 hu0
              go_quiet (fail)
              go_wp2_with fail
              go_meet
              exact ⟨rfl, below_drewN (Below.refl _ _) _⟩
            · have gN : ¬ 0 < mu := by have := HMU.out; omega
              have gD : decide (0 < mu) = false := decide_eq_false gN
              obtain rfl : false = ub := by rw [← HUB.out, decide_eq_false fun hc => hu0 hc.1]
              clear hu0
              go_quiet (fail)
              go_wp2_with fail
              go_meet
              exact ⟨rfl, below_drewN (Below.refl _ _) _⟩
          case rest =>
            obtain ⟨rfl, hbc⟩ := hcut
            have HOW4 := Lib.hid (HOW3.out.to hbc)
            have HX4 := Lib.hid (HX3.out.low hbc)
            have HBW4 := Lib.hid (below_next HBW3.out hbc)
            clear hbc HOW3 HX3 HBW3 rl r0 r1 rf
            cases ub
            · have HNU : Hid (¬ (0 < U'.length ∧ (pAt U' 0).1 = (tAt R k).1)) := Lib.hid (of_decide_eq_false HUB.out)
              clear HUB
              obtain ⟨rl, r0, r1, rf⟩ := HX4.out
              have hb5 := below_alloc wc (.cells #[.int .i64 (tAt R k).1, .slice q (tAt R k).2.length cp] 34)
              have HO5 := Lib.hid (HOW4.out.to hb5)
              have HB5 := Lib.hid (below_next HBW4.out hb5)
              have HN5 := Lib.hid (row2_new wc (.int .i64 (tAt R k).1) (.slice q (tAt R k).2.length cp) 34)
              have HLO : Hid (w.heap.size ≤ (wc.alloc (.cells #[.int .i64 (tAt R k).1, .slice q (tAt R k).2.length cp] 34)).heap.size) := Lib.hid HB5.out.size
              clear hb5
              go_wp2_with (at_builtin; refine wpList_append_trow rfl (.tmp 62) (.tmp 64) rfl w.heap.size vr G (by rfl) HO5.out.own wc.heap.size (tAt R k).1 (.slice q (tAt R k).2.length cp) (tAt R k).2 (by rfl) HN5.out.1 HN5.out.2 rfl (by omega) HLO.out ?_; intro v8 w8 hown8 hg8; (have HO8 := Lib.hid (HO5.out.push (g := ((tAt R k).1, .slice q (tAt R k).2.length cp, (tAt R k).2)) HLV.out hown8 hg8 HLO.out)); (have HB8 := Lib.hid (grown_below HB5.out HLO.out hg8 (owns_block HO5.out.own))); clear hown8 hg8)
              go_roundw
              case rel => exact ⟨k + 1, v8, G ++ [((tAt R k).1, .slice q (tAt R k).2.length cp, (tAt R k).2)], pd, md, cd, D', pu, mu, cu, U', by omega, rfl, rfl, rfl, by go_num, HMD.out, HMU.out, by rw [List.length_append, List.length_singleton]; omega, HTL.out, by rw [tabR_append]; exact HRA.out.keep hlt HND.out HNU.out, HO8.out, HB8.out, hmd63, hmu63⟩
              case measure => simp [intOf]; omega
            · have HUU : Hid (0 < U'.length ∧ (pAt U' 0).1 = (tAt R k).1) := Lib.hid (of_decide_eq_true HUB.out)
              clear HUB
              obtain ⟨c1, o1, q1, cq1, q2, cq2, rfl, hc1, -, n1', n2', hr1, hr2, hs1, hs2, -, hn2⟩ := HTL.out.upd 0 HUU.out.1
              have n1 : wc.cell? ⟨c1, o1 + 1, none⟩ = some (.slice q1 (pAt U' 0).2.1.length cq1) := by rw [HOW4.out.low.cell (by exact hc1)]; rw [Nat.zero_mul] at n1'; exact n1'
              have n2 : wc.cell? ⟨c1, o1 + 2, none⟩ = some (.slice q2 (pAt U' 0).2.2.length cq2) := by rw [HOW4.out.low.cell (by exact hc1)]; rw [Nat.zero_mul] at n2'; exact n2'
              have hcw : c1 < wc.heap.size := Nat.lt_of_lt_of_le hc1 HOW4.out.low.size
              have hm0 : 0 < mu := by have := HMU.out; have := HUU.out.1; omega
              have hm1 : (1 : Int) ≤ (mu : Int) := by omega
              have hl1 : (pAt U' 0).2.1.length ≤ 9223372036854775807 := by omega
              have HR1 := Lib.hid ((hr1.low HOW4.out.low).low (Below.refl wc.heap.size wc).drew)
              have HR2 := Lib.hid ((HRW.out.low HOW4.out.low).low (Below.refl wc.heap.size wc).drew)
              have HLU : Hid (LiesV w0 (.slice q2 (pAt U' 0).2.2.length cq2) (pAt U' 0).2.2) := Lib.hid ⟨q2, cq2, rfl, hr2, hs2, hn2⟩
              have HCX : Hid (c1 ≠ X) := Lib.hid (by have := HXW.out; have := HW0.out.size; omega)
              clear hc1 n1' n2' hr1 hr2 hs1 hs2 hn2
              obtain ⟨rl, r0, r1, rf⟩ := HX4.out
              go_upto_region 9 with (fail)
              go_region_held3 (fun u => u.cell? ⟨c1, o1 + 1, none⟩ = some (.slice q1 (pAt U' 0).2.1.length cq1) ∧ c1 < u.heap.size ∧ u.cell? ⟨X, 1, none⟩ = some (.slice q (tAt R k).2.length cp) ∧ X < u.heap.size)
                (first
                  | exact ⟨n1, hcw, r1, rl⟩
                  | with_reducible exact keepKR hb5 (by assumption))
                (first
                  | (go_at_call 41; refine (eqvals_any q1 q (pAt U' 0).2.1 (tAt R k).2 cq1 cp _ hl1 HR1.out HR2.out).mono ?_; rintro e w5 ⟨rfl, hb5⟩))
              rename_i hHeld
              clear hHeld
              have hbd := undrewB hb5
              have HOW5 := Lib.hid (HOW4.out.to hbd)
              have HX5 := Lib.hid (HX4.out.low hbd)
              have HBW5 := Lib.hid (below_next HBW4.out hbd)
              have m2 : w5.cell? ⟨c1, o1 + 2, none⟩ = some (.slice q2 (pAt U' 0).2.2.length cq2) := by rw [hbd.cell (by exact hcw)]; exact n2
              clear hb5 hbd HOW4 HX4 HBW4 HR1 HR2 n1 n2 hcw rl r0 r1 rf
              obtain ⟨rl, r0, r1, rf⟩ := HX5.out
              obtain ⟨eb, heb⟩ : ∃ b, decide ((pAt U' 0).2.1 = (tAt R k).2) = b := ⟨_, rfl⟩
              rw [heb]
              have HEB := Lib.hid heb
              clear heb
              cases eb
              · have HMIS := Lib.hid (HRA.out.mis hlt HND.out HUU.out (of_decide_eq_false HEB.out))
                go_wp2
                go_ret2
                exact ⟨.slice none 0 0, by rw [HMIS.out]; rfl, HBW5.out, fun X hX => by rw [HMIS.out] at hX; cases hX⟩
              · have HEQ : Hid ((pAt U' 0).2.1 = (tAt R k).2) := Lib.hid (of_decide_eq_true HEB.out)
                clear HEB
                have hx6 : Cell2 (w5.setCell ⟨X, 1, none⟩ (.slice q2 (pAt U' 0).2.2.length cq2)) X (.int .i64 (tAt R k).1) (.slice q2 (pAt U' 0).2.2.length cq2) := cell2_put1 HX5.out _
                have HX6 := Lib.hid hx6
                have HOW6 := Lib.hid (HOW5.out.setX (o := 1) HXW.out HNX.out (.slice q2 (pAt U' 0).2.2.length cq2))
                have hbw6 : Below w.heap.size w (w5.setCell ⟨X, 1, none⟩ (.slice q2 (pAt U' 0).2.2.length cq2)) := HBW5.out.setCell (by exact HXB.out) _
                have HBW6 := Lib.hid hbw6
                clear hx6 hbw6
                go_upto_region 12 with (fail)
                clear m2 HX5 HOW5 HBW5 rl r0 r1 rf
                generalize World.setCell _ _ _ = w6 at HX6 HOW6 HBW6 ⊢
                obtain ⟨rl, r0, r1, rf⟩ := HX6.out
                have hb5 := below_alloc w6 (.cells #[.int .i64 (tAt R k).1, .slice q2 (pAt U' 0).2.2.length cq2] 34)
                have HO5 := Lib.hid (HOW6.out.to hb5)
                have HB5 := Lib.hid (below_next HBW6.out hb5)
                have HN5 := Lib.hid (row2_new w6 (.int .i64 (tAt R k).1) (.slice q2 (pAt U' 0).2.2.length cq2) 34)
                have HLO : Hid (w.heap.size ≤ (w6.alloc (.cells #[.int .i64 (tAt R k).1, .slice q2 (pAt U' 0).2.2.length cq2] 34)).heap.size) := Lib.hid HB5.out.size
                clear hb5
                go_wp2_with (at_builtin; refine wpList_append_trow rfl (.tmp 62) (.tmp 64) rfl w.heap.size vr G (by rfl) HO5.out.own w6.heap.size (tAt R k).1 (.slice q2 (pAt U' 0).2.2.length cq2) (pAt U' 0).2.2 (by rfl) HN5.out.1 HN5.out.2 rfl (by omega) HLO.out ?_; intro v8 w8 hown8 hg8; (have HO8 := Lib.hid (HO5.out.push (g := ((tAt R k).1, .slice q2 (pAt U' 0).2.2.length cq2, (pAt U' 0).2.2)) HLU.out hown8 hg8 HLO.out)); (have HB8 := Lib.hid (grown_below HB5.out HLO.out hg8 (owns_block HO5.out.own))); clear hown8 hg8)
                go_roundw
                case rel => exact ⟨k + 1, v8, G ++ [((tAt R k).1, .slice q2 (pAt U' 0).2.2.length cq2, (pAt U' 0).2.2)], pd, md, cd, D', _, mu - 1, cu - 1, U'.drop 1, by omega, rfl, rfl, rfl, by go_num, HMD.out, by rw [List.length_drop, HMU.out], by rw [List.length_append, List.length_singleton]; omega, HTL.out.dropU HUU.out.1, by rw [tabR_append]; exact HRA.out.upd hlt HND.out HUU.out HEQ.out, HO8.out, HB8.out, hmd63, by omega⟩
                case measure => simp [intOf]; omega
        · have HDD : Hid (0 < D'.length ∧ iAt D' 0 = (tAt R k).1) := Lib.hid (of_decide_eq_true HDB.out)
          obtain ⟨c1, o1, rfl, -, -⟩ := HTL.out.del 0 HDD.out.1
          have hm1 : (1 : Int) ≤ (md : Int) := by have := HMD.out; have := HDD.out.1; omega
          clear HDB
          go_wp2
          go_roundw
          case rel => exact ⟨k + 1, vr, G, _, md - 1, cd - 1, D'.drop 1, pu, mu, cu, U', by omega, rfl, rfl, rfl, by go_num, by rw [List.length_drop, HMD.out], HMU.out, by omega, HTL.out.dropD HDD.out.1, HRA.out.del hlt HDD.out, HOW3.out, HBW3.out, by omega, hmu63⟩
          case measure => simp [intOf]; omega
    · have hlt' : decide ((k : Int) < R.length) = false := decide_eq_false (by omega)
      obtain rfl : k = R.length := by omega
      have HDN := Lib.hid HRA.out.done
      by_cases hd0 : md = 0
      · subst hd0
        by_cases hu0 : mu = 0
        · subst hu0
          have HE : Hid (remR R D U = some (tabR G)) := Lib.hid (by rw [HDN.out, if_pos ⟨HMD.out.symm, HMU.out.symm⟩])
          go_wp2
          go_ret2
          exact ⟨vr, by rw [HE.out]; rfl, HBW.out, fun X hX => ⟨G, Option.some.inj (HE.out.symm.trans hX), HOW.out⟩⟩
        · have HE : Hid (remR R D U = none) := Lib.hid (by rw [HDN.out, if_neg fun hc => hu0 (by rw [HMU.out]; exact hc.2)])
          have gU : ((mu : Int) == 0) = false := beq_eq_false_iff_ne.2 (by omega)
          go_wp2
          go_ret2
          exact ⟨vr, by rw [HE.out]; rfl, HBW.out, fun X hX => by rw [HE.out] at hX; cases hX⟩
      · have HE : Hid (remR R D U = none) := Lib.hid (by rw [HDN.out, if_neg fun hc => hd0 (by rw [HMD.out]; exact hc.1)])
        have gD : ((md : Int) == 0) = false := beq_eq_false_iff_ne.2 (by omega)
        go_wp2
        go_ret2
        exact ⟨vr, by rw [HE.out]; rfl, HBW.out, fun X hX => by rw [HE.out] at hX; cases hX⟩
end Go.Proofs.Ytgaihglploedaaa
/-
  Package keys: Valid.
-/
namespace Go.Proofs.Ytgaihglploedaaa
set_option maxRecDepth 100000
open Go.RowKit
variable {ls : List Nat}

/-- The boxes of a table and a change. -/
structure KB (w : World) (nm : ByteArray) (pc : Option Addr) (n cc : Nat) (nx : Int) (pr : Option Addr) (m cr : Nat) (pi : Option Addr) (mi ci : Nat) (pd : Option Addr) (md cd : Nat) (pu : Option Addr) (mu cu : Nat) (v : World) : Prop where
  tab : Cell4 v w.heap.size (.string nm) (.slice pc n cc) (.int .i64 nx) (.slice pr m cr)
  chg : Cell3 v (w.heap.size + 1) (.slice pi mi ci) (.slice pd md cd) (.slice pu mu cu)
  bel : Below w.heap.size w v
section
variable {w u v : World} {nm : ByteArray} {pc : Option Addr} {n cc : Nat} {nx : Int} {pr : Option Addr} {m cr : Nat} {pi : Option Addr} {mi ci : Nat} {pd : Option Addr} {md cd : Nat} {pu : Option Addr} {mu cu : Nat}
theorem KB.low (h : KB w nm pc n cc nx pr m cr pi mi ci pd md cd pu mu cu u) (hb : Below u.heap.size u v) : KB w nm pc n cc nx pr m cr pi mi ci pd md cd pu mu cu v :=
  ⟨h.tab.low hb, h.chg.low hb, below_next h.bel hb⟩
theorem KB.new (w : World) (nm : ByteArray) (pc : Option Addr) (n cc : Nat) (nx : Int) (pr : Option Addr) (m cr : Nat) (pi : Option Addr) (mi ci : Nat) (pd : Option Addr) (md cd : Nat) (pu : Option Addr) (mu cu : Nat) :
    KB w nm pc n cc nx pr m cr pi mi ci pd md cd pu mu cu ((w.alloc (.cells #[.string nm, .slice pc n cc, .int .i64 nx, .slice pr m cr] 29)).alloc (.cells #[.slice pi mi ci, .slice pd md cd, .slice pu mu cu] 46)) :=
  ⟨(cell4_new w _ _ _ _ _).low (below_alloc _ _), (cell3_new (w.alloc _) _ _ _ _).at (size_alloc _ _), below_new (below_new (Below.refl _ _) _) _⟩
end
section
variable (nm : ByteArray) (pc : Option Addr) (n cc : Nat) (f : Nat → Col) (nx : Int) (pr : Option Addr) (cr : Nat) (R : List TRow) (pi : Option Addr) (ci : Nat) (I : List (List Val)) (pd : Option Addr) (cd : Nat) (D : List Int) (pu : Option Addr) (cu : Nat) (U : List PRow) (w : World)
theorem tvalid_eq (hT : TabAt w ⟨nm, pc, n, cc, f, nx, pr, cr, R⟩) {b : Bool} (hv : validT nm n f nx R = b) :
    Calls Try.prog 8 #[.agg #[.string nm, .slice pc n cc, .int .i64 nx, .slice pr R.length cr]] w fun e w' => e = .returned (.bool b) ∧ Below w.heap.size w w' :=
  (tvalid_any ⟨nm, pc, n, cc, f, nx, pr, cr, R⟩ w hT).mono fun _ _ ⟨he, hb⟩ => ⟨by rw [he]; unfold Tab.valid; dsimp only; rw [hv], hb⟩
theorem widths_eq (hn : n ≤ 9223372036854775807) (hC : ChgAt w ⟨pi, ci, I, pd, cd, D, pu, cu, U⟩) {b : Bool} (hv : widthsB n I U = b) :
    Calls Try.prog 34 #[.int .i64 n, .agg #[.slice pi I.length ci, .slice pd D.length cd, .slice pu U.length cu]] w fun e w' => e = .returned (.bool b) ∧ Below w.heap.size w w' :=
  (widths_any n ⟨pi, ci, I, pd, cd, D, pu, cu, U⟩ w hn hC).mono fun _ _ ⟨he, hb⟩ => ⟨by rw [he]; dsimp only; rw [hv], hb⟩
theorem remaining_eq (w0 : World) (hR : TRowsAt w0 pr R) (hR63 : R.length ≤ 1000) (hC : ChgAt w0 ⟨pi, ci, I, pd, cd, D, pu, cu, U⟩) (hb0 : Below w0.heap.size w0 w) :
    Calls Try.prog 35 #[.agg #[.string nm, .slice pc n cc, .int .i64 nx, .slice pr R.length cr], .agg #[.slice pi I.length ci, .slice pd D.length cd, .slice pu U.length cu]] w (RemPost R D U w0 w) :=
  remaining_any ⟨nm, pc, n, cc, cAt [], nx, pr, cr, R⟩ ⟨pi, ci, I, pd, cd, D, pu, cu, U⟩ w0 w hR hR63 hC hb0
set_option maxHeartbeats 2000000 in
theorem kvalid_any (hT : TabAt w ⟨nm, pc, n, cc, f, nx, pr, cr, R⟩) (hC : ChgAt w ⟨pi, ci, I, pd, cd, D, pu, cu, U⟩) :
    Calls Try.prog 22 #[.agg #[.string nm, .slice pc n cc, .int .i64 nx, .slice pr R.length cr], .agg #[.slice pi I.length ci, .slice pd D.length cd, .slice pu U.length cu]] w fun e w' => e = .returned (.bool (validT nm n f nx R && validC n R I D U)) ∧ Below w.heap.size w w' := by
  have HT := Lib.hid hT
  have HC := Lib.hid hC
  have hn63 := hT.n
  have hR63 := hT.len
  dsimp only at hn63 hR63
  have HK := Lib.hid (KB.new w nm pc n cc nx pr R.length cr pi I.length ci pd D.length cd pu U.length cu)
  clear hT hC
  obtain ⟨vb, hvb⟩ : ∃ b, validT nm n f nx R = b := ⟨_, rfl⟩
  rw [hvb]
  have HVB := Lib.hid hvb
  clear hvb
  go_enter Try.func22, Try.ntmps22
  go_upto_region 1 with (fail)
  generalize World.alloc _ _ = W0 at HK ⊢
  obtain ⟨xl, x0, x1, x2, x3, -⟩ := HK.out.tab
  go_wp2_with fail
  refine (tvalid_eq nm pc n cc f nx pr cr R _ (HT.out.low HK.out.bel) HVB.out).mono ?_
  rintro e w1 ⟨rfl, hb1⟩
  have HK1 := Lib.hid (HK.out.low hb1)
  clear HK hb1 xl x0 x1 x2 x3
  cases vb
  · go_wp2
    go_ret
    exact ⟨rfl, HK1.out.bel⟩
  · obtain ⟨xl, x0, x1, x2, x3, -⟩ := HK1.out.tab
    obtain ⟨yl, y0, y1, y2, -⟩ := HK1.out.chg
    obtain ⟨wb, hwb⟩ : ∃ b, widthsB n I U = b := ⟨_, rfl⟩
    have HVC : Hid (validC n R I D U = (wb && (remR R D U).isSome)) := Lib.hid (by rw [← hwb]; exact validC_rem (validT_parts HVB.out).2.2.2.2.1)
    have HWB := Lib.hid hwb
    clear hwb
    go_wp2_with fail
    refine (widths_eq n pi ci I pd cd D pu cu U _ hn63 (HC.out.low HK1.out.bel) HWB.out).mono ?_
    rintro e w2 ⟨rfl, hb2⟩
    have HK2 := Lib.hid (HK1.out.low hb2)
    clear HK1 hb2 xl x0 x1 x2 x3 yl y0 y1 y2
    cases wb
    · go_wp2
      go_ret
      exact ⟨by rw [HVC.out]; rfl, HK2.out.bel⟩
    · obtain ⟨xl, x0, x1, x2, x3, -⟩ := HK2.out.tab
      obtain ⟨yl, y0, y1, y2, -⟩ := HK2.out.chg
      go_wp2_with fail
      refine (remaining_eq nm pc n cc nx pr cr R pi ci I pd cd D pu cu U _ w HT.out.rows hR63 HC.out HK2.out.bel).mono ?_
      rintro e w3 ⟨v3, rfl, hb3, -⟩
      have HB3 := Lib.hid (below_next HK2.out.bel hb3)
      clear HK2 hb3 xl x0 x1 x2 x3 yl y0 y1 y2
      go_wp2
      go_ret
      exact ⟨by rw [HVC.out]; rfl, HB3.out⟩
end
end Go.Proofs.Ytgaihglploedaaa
/-
  Package clone: copies of rows.
-/
namespace Go.Proofs.Ytgaihglploedaaa
set_option maxRecDepth 100000
open Go.RowKit
variable {ls : List Nat}

theorem InRow.keep2 {u v : World} {base : Nat} {x : Value × List Val} (h : InRow u base x) (hk : ∀ k, base ≤ k → k < u.heap.size → v.heap[k]? = u.heap[k]?) : InRow v base x :=
  ⟨owns_keep h.1 fun k hk' => hk k (owns_block h.1 k hk') (owns_lt h.1 k hk'), h.2⟩
/-- What a copy of a row gives. -/
def CopyRowPost (id : Int) (t : List Val) (w : World) (e : Ending) (w' : World) : Prop := ∃ v : Value, e = .returned (.agg #[.int .i64 id, v]) ∧ InRow w' w.heap.size (v, t) ∧ Below w.heap.size w w'
theorem cell2_row (w : World) (id : Int) (y : Value) : Cell2 (w.alloc (.cells #[.int .i64 id, y] 34)) w.heap.size (.int .i64 id) y := cell2_new w _ _ _
theorem cell2_put (u : World) {X : Nat} {a b : Value} (h : Cell2 u X a b) (x y : Value) : Cell2 ((u.setCell ⟨X, 0, none⟩ x).setCell ⟨X, 1, none⟩ y) X x y := by
  obtain ⟨hl, c0, c1, fz⟩ := h
  refine ⟨by simpa [World.setCell] using hl, ?_, ?_, fun o => ?_⟩
  · go_simp
  · go_simp
  · rw [World.frozen?_setCell, World.frozen?_setCell]; exact fz o
set_option maxHeartbeats 1000000 in
theorem dcopy_any (t : List Val) (q : Option Addr) (cp : Nat) (w : World) (hr : RowAt w q t) (hz : t.length * 32 ≤ 140737488355328) (hn : q = none → t = [] ∧ cp = 0) :
    Calls Try.prog 46 #[.slice q t.length cp] w (CopyPost t w) := by
  have hown0 : w.ownsRow w.heap.size 31 3 (.slice none 0 0) 0 (vcells []) := ⟨rfl, Or.inl ⟨rfl, rfl⟩⟩
  have HO := Lib.hid hown0
  have HR := Lib.hid hr
  clear hown0 hr
  go_enter Try.func46, Try.ntmps46
  go_wp2_with (at_builtin; refine wpList_append_vals rfl _ (.tmp 3) rfl w.heap.size _ 0 [] rfl HO.out q t cp rfl HR.out hn (by omega) (Nat.le_refl _) ?_; intro v2 w2 hown2 hgr2)
  go_ret
  rw [Nat.zero_add, List.nil_append] at hown2
  exact ⟨_, rfl, ⟨hown2, hz⟩, grown_below (Below.refl _ _) (Nat.le_refl _) hgr2 (fun k hk => by cases hk)⟩
set_option maxHeartbeats 2000000 in
theorem dcopyrow_any (id : Int) (t : List Val) (q : Option Addr) (cp : Nat) (w : World) (hr : RowAt w q t) (hz : t.length * 32 ≤ 140737488355328) (hn : q = none → t = [] ∧ cp = 0) :
    Calls Try.prog 44 #[.agg #[.int .i64 id, .slice q t.length cp]] w (CopyRowPost id t w) := by
  have HX := Lib.hid ((cell2_row w id (.slice q t.length cp)).low (below_alloc _ (.cells #[.int .i64 0, .slice none 0 0] 34)))
  have hy := cell2_row (w.alloc (.cells #[.int .i64 id, .slice q t.length cp] 34)) 0 (.slice none 0 0)
  rw [size_alloc] at hy
  have HY := Lib.hid hy
  have hb0 := below_new (below_new (Below.refl w.heap.size w) (.cells #[.int .i64 id, .slice q t.length cp] 34)) (.cells #[.int .i64 0, .slice none 0 0] 34)
  have HB := Lib.hid hb0
  have HR := Lib.hid (hr.low hb0)
  have HN := Lib.hid hn
  clear hy hb0 hr hn
  go_enter Try.func44, Try.ntmps44
  go_upto_region 1 with (fail)
  generalize World.alloc _ _ = W1 at HX HY HB HR ⊢
  obtain ⟨xl, x0, x1, -⟩ := HX.out
  have HRD := Lib.hid (HR.out.low (Below.refl W1.heap.size W1).drew)
  have HXD := Lib.hid (HX.out.low (Below.refl W1.heap.size W1).drew)
  have HYD := Lib.hid (HY.out.low (Below.refl W1.heap.size W1).drew)
  have HBD := Lib.hid (below_next HB.out (Below.refl W1.heap.size W1).drew)
  go_region_law (first
    | (go_simp; go_at_call 46; refine (dcopy_any t q cp _ HRD.out hz HN.out).mono ?_; rintro e w3 ⟨v3, rfl, hin, hb3⟩; obtain ⟨p3, c3, e3⟩ := InRow.ex hin; subst e3; (have HIN := Lib.hid hin); (have HB3 := Lib.hid hb3); obtain ⟨zl, z0, z1, -⟩ := HXD.out.low hb3; obtain ⟨yl, y0, y1, yf⟩ := HYD.out.low hb3; clear hin hb3))
  all_goals
    go_wp2
    have hz0 : w.heap.size + 1 < W1.heap.size := HY.out.lt
    have HS := cell2_put w3 (HYD.out.low HB3.out) (.int .i64 id) (.slice p3 t.length c3)
    obtain ⟨-, s0, s1, -⟩ := HS
    exact bodyPost_ret (v := .agg #[.int .i64 id, .slice p3 t.length c3]) (by simp [results, Try.results44, go_sem, s0, s1]) rfl
      ⟨_, rfl, (HIN.out.base (show w.heap.size + 2 ≤ W1.drew.heap.size from by show w.heap.size + 2 ≤ W1.heap.size; omega)).keep2 (fun k h1 _ => by rw [Below.heap_setCell _ _ _ _ (show k ≠ w.heap.size + 1 by omega), Below.heap_setCell _ _ _ _ (show k ≠ w.heap.size + 1 by omega)]) |>.base (by omega),
        ((below_next HBD.out HB3.out).setCell (by show w.heap.size ≤ w.heap.size + 1; omega) _).setCell (by show w.heap.size ≤ w.heap.size + 1; omega) _⟩
end Go.Proofs.Ytgaihglploedaaa
/-
  Tables whose memory lies from a block on.
-/
namespace Go.Proofs.Ytgaihglploedaaa
set_option maxRecDepth 100000
open Go.RowKit
variable {ls : List Nat}

theorem RowAt.keep {u v : World} {p : Option Addr} {l : List Val} (h : RowAt u p l) (hz : u.heap.size ≤ v.heap.size) (hk : ∀ a, p = some a → v.heap[a.block]? = u.heap[a.block]?) : RowAt v p l := fun i hi => by
  obtain ⟨c, o, hp, hc, h0, h1, h2⟩ := h i hi
  have hb : v.heap[c]? = u.heap[c]? := hk _ hp
  exact ⟨c, o, hp, by omega, by rw [World.cell?_of_block (w := u) hb]; exact h0, by rw [World.cell?_of_block (w := u) hb]; exact h1, by rw [World.cell?_of_block (w := u) hb]; exact h2⟩

/-- Rows whose memory lies from block lo on. -/
def TRowsIn (lo : Nat) (w : World) (p : Option Addr) (R : List TRow) : Prop :=
  ∀ i, i < R.length → ∃ (g : Nat) (q : Option Addr) (cp : Nat), p = some ⟨g, 0, none⟩ ∧ lo ≤ g ∧ g < w.heap.size ∧ w.cell? ⟨g, i * 2, none⟩ = some (.int .i64 (tAt R i).1) ∧ w.cell? ⟨g, i * 2 + 1, none⟩ = some (.slice q (tAt R i).2.length cp) ∧ RowAt w q (tAt R i).2 ∧ (tAt R i).2.length * 32 ≤ 140737488355328 ∧ (q = none → (tAt R i).2 = [] ∧ cp = 0) ∧ (∀ a, q = some a → lo ≤ a.block ∧ a.block < w.heap.size)
theorem TRowsIn.at {lo : Nat} {u v : World} {p : Option Addr} {R : List TRow} (h : TRowsIn lo u p R) (hz : u.heap.size ≤ v.heap.size) (hk : ∀ k, lo ≤ k → k < u.heap.size → v.heap[k]? = u.heap[k]?) : TRowsAt v p R := by
  intro i hi
  obtain ⟨g, q, cp, rfl, hg, hgs, h0, h1, hr, hs, hn, hq⟩ := h i hi
  have hb := hk g hg hgs
  exact ⟨g, 0, q, cp, rfl, by omega, by rw [Nat.zero_add, World.cell?_of_block (w := u) hb]; exact h0, by rw [Nat.zero_add, World.cell?_of_block (w := u) hb]; exact h1, hr.keep hz fun a ha => hk _ (hq a ha).1 (hq a ha).2, hs, hn⟩
theorem TRowsIn.mono {lo lo' : Nat} {u : World} {p : Option Addr} {R : List TRow} (h : TRowsIn lo u p R) (hl : lo' ≤ lo) : TRowsIn lo' u p R := by
  intro i hi
  obtain ⟨g, q, cp, hp, hg, hgs, h0, h1, hr, hs, hn, hq⟩ := h i hi
  exact ⟨g, q, cp, hp, by omega, hgs, h0, h1, hr, hs, hn, fun a ha => ⟨by have := (hq a ha).1; omega, (hq a ha).2⟩⟩

/-- Where the rows of the call's own lie. -/
theorem TOwn.slot {u : World} {base : Nat} {vr : Value} {G : List GRow} (h : TOwn u base vr G) (hl : 0 < G.length) : ∃ g c, vr = .slice (some ⟨g, 0, none⟩) G.length c ∧ base ≤ g ∧ g < u.heap.size ∧ (∀ o, u.frozen? ⟨g, o, none⟩ = false) ∧
    (∀ i, i < G.length → u.cell? ⟨g, i * 2, none⟩ = some (.int .i64 (grAt G i).1) ∧ u.cell? ⟨g, i * 2 + 1, none⟩ = some (grAt G i).2.1 ∧ (grAt G i).2.1.ownBlock ≠ some g) := by
  rcases h.own.2 with ⟨-, h0⟩ | ⟨g, cap', cur, rfl, hg, hh, hcap, hm, hcur, htake⟩
  · omega
  · have hget : ∀ j, j < G.length * 2 → cur[j]? = (tcells G)[j]? := fun j hj => by
      rw [← htake, List.getElem?_take, if_pos hj]; simp
    refine ⟨g, cap', rfl, hg, (Array.getElem?_eq_some_iff.1 hh).1, fun o => by simp [World.frozen?, hh], fun i hi => ?_⟩
    obtain ⟨c0, c1⟩ := tcells_at G i hi
    refine ⟨?_, ?_, fun he => ?_⟩
    · simp only [World.cell?, hh]
      rw [if_neg (by simp), hget _ (by omega), c0]
    · simp only [World.cell?, hh]
      rw [if_neg (by simp), hget _ (by omega), c1]
    · exact owns_apart (h.inn _ (grAt_mem hi)).1 h.own (by decide) g he rfl
theorem InRow.slot {u : World} {base : Nat} {v : Value} {l : List Val} (h : InRow u base (v, l)) (hl : 0 < l.length) : ∃ g c, v = .slice (some ⟨g, 0, none⟩) l.length c ∧ base ≤ g ∧ g < u.heap.size ∧ (∀ o, u.frozen? ⟨g, o, none⟩ = false) ∧ v.ownBlock = some g ∧ RowAt u (some ⟨g, 0, none⟩) l ∧ l.length ≤ c := by
  have hs := owned_shape h.1
  rcases h.1.2 with ⟨-, h0⟩ | ⟨g, cap', cur, hv, hg, hh, hcap, hm, hcur, htake⟩
  · exact absurd h0 (by show ¬ l.length = 0; omega)
  · have hv : v = .slice (some ⟨g, 0, none⟩) l.length cap' := hv
    subst hv
    exact ⟨g, cap', rfl, hg, (Array.getElem?_eq_some_iff.1 hh).1, fun o => by simp [World.frozen?, hh], rfl, hs.2.1, hcap⟩
theorem TOwn.rowsIn {u : World} {base : Nat} {vr : Value} {G : List GRow} (h : TOwn u base vr G) : TRowsIn base u (rowP vr) (tabR G) := by
  intro i hi
  have hi' : i < G.length := by rw [tabR_length] at hi; exact hi
  obtain ⟨g, c, rfl, hg, hgs, -, hc⟩ := h.slot (by omega)
  obtain ⟨c0, c1, -⟩ := hc i hi'
  obtain ⟨hv, hr, hn⟩ := owned_shape (h.inn _ (grAt_mem hi')).1
  have hl := (h.inn _ (grAt_mem hi')).2
  rw [tabR_at hi']
  refine ⟨g, rowP (grAt G i).2.1, rowC (grAt G i).2.1, rfl, hg, hgs, c0, by rw [c1, ← hv], hr, hl, hn, fun a ha => ?_⟩
  have hb : (grAt G i).2.1.ownBlock = some a.block := by rw [hv, ha]; rfl
  exact ⟨owns_block (h.inn _ (grAt_mem hi')).1 _ hb, owns_lt (h.inn _ (grAt_mem hi')).1 _ hb⟩
/-- A table that stays whatever is written below block lo. -/
def TabFree (lo : Nat) (u : World) (S : Tab) : Prop := ∀ v, u.heap.size ≤ v.heap.size → (∀ k, lo ≤ k → k < u.heap.size → v.heap[k]? = u.heap[k]?) → TabAt v S
theorem TabFree.at {lo : Nat} {u : World} {S : Tab} (h : TabFree lo u S) : TabAt u S := h u (Nat.le_refl _) fun _ _ _ => rfl
theorem TabFree.low {lo : Nat} {u v : World} {S : Tab} (h : TabFree lo u S) (hb : Below u.heap.size u v) : TabFree lo v S := fun x hz hk =>
  h x (Nat.le_trans hb.size hz) fun k h1 h2 => (hk k h1 (Nat.lt_of_lt_of_le h2 hb.size)).trans (hb.block k h2)
theorem TabFree.set {lo b o : Nat} {u : World} {S : Tab} (h : TabFree lo u S) (hb : b < lo) (y : Value) : TabFree lo (u.setCell ⟨b, o, none⟩ y) S := fun x hz hk =>
  h x (by have e : (u.setCell ⟨b, o, none⟩ y).heap.size = u.heap.size := by simp [World.setCell]
          omega) fun k h1 h2 => (hk k h1 (by simpa [World.setCell] using h2)).trans (Below.heap_setCell _ _ _ _ (by show k ≠ b; omega))
theorem TabFree.mono {lo lo' : Nat} {u : World} {S : Tab} (h : TabFree lo u S) (hl : lo' ≤ lo) : TabFree lo' u S := fun x hz hk => h x hz fun k h1 h2 => hk k (by omega) h2
/-- Such a table, whose rows can be appended to. -/
structure TabMine (lo : Nat) (u : World) (S : Tab) : Prop where
  free : TabFree lo u S
  own : ∃ G, TOwn u lo (.slice S.pr S.R.length S.cr) G ∧ tabR G = S.R
theorem TabMine.at {lo : Nat} {u : World} {S : Tab} (h : TabMine lo u S) : TabAt u S := h.free.at
theorem TabMine.low {lo : Nat} {u v : World} {S : Tab} (h : TabMine lo u S) (hb : Below u.heap.size u v) : TabMine lo v S := ⟨h.free.low hb, by
  obtain ⟨G, h1, h2⟩ := h.own
  exact ⟨G, h1.low hb, h2⟩⟩
theorem TabMine.set {lo b o : Nat} {u : World} {S : Tab} (h : TabMine lo u S) (hb : b < lo) (y : Value) : TabMine lo (u.setCell ⟨b, o, none⟩ y) S := ⟨h.free.set hb y, by
  obtain ⟨G, h1, h2⟩ := h.own
  exact ⟨G, h1.set hb y, h2⟩⟩
theorem TabMine.mono {lo lo' : Nat} {u : World} {S : Tab} (h : TabMine lo u S) (hl : lo' ≤ lo) : TabMine lo' u S := ⟨h.free.mono hl, by
  obtain ⟨G, h1, h2⟩ := h.own
  exact ⟨G, h1.base hl, h2⟩⟩
end Go.Proofs.Ytgaihglploedaaa
