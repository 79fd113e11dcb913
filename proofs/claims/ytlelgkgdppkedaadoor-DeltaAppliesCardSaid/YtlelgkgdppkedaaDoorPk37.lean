/-
  Several texts in one.
-/
import Derived.Test.YtlelgkgdppkedaaDoorPk36
import Derived.Test.YtlelgkgdppkedaaDoorPk23
import Derived.Deep.RegionLaw
import Derived.Test.YtlelgkgdppkedaaDoorPk11
import Derived.Test.YtlelgkgdppkedaaDoorPk22
import Derived.Test.YtlelgkgdppkedaaDoorPk34
import Derived.Test.YtlelgkgdppkedaaDoorPk24
/-
  add of package delta: rows put at the end of a table in a box.
-/
namespace Go.Proofs.YtlelgkgdppkedaaDoor
set_option maxRecDepth 100000
open Go.RowKit
variable {ls : List Nat}

/-- A table in the box Y, whose rows and columns are the call's own and lie elsewhere. -/
structure AdW (w0 : World) (lo Y : Nat) (nm : ByteArray) (p2 : Option Addr) (n c2 : Nat) (f : Nat → Col) (nx : Int) (vr : Value) (G : List GRow) (v : World) : Prop where
  box : Cell4 v Y (.string nm) (.slice p2 n c2) (.int .i64 nx) vr
  own : TOwn v lo vr G
  ne : vr.ownBlock ≠ some Y
  nes : ∀ g ∈ G, g.2.1.ownBlock ≠ some Y
  col : COwn v lo p2 n c2 f
  nec : (Value.slice p2 n c2).ownBlock ≠ some Y
  low : Below w0.heap.size w0 v
  hb : w0.heap.size ≤ lo
  hY : w0.heap.size ≤ Y
  hlo : lo ≤ v.heap.size
/-- What lies below lo stays, the box aside. -/
structure AdK (lo Y : Nat) (w v : World) : Prop where
  size : w.heap.size ≤ v.heap.size
  blk : ∀ k, k < lo → k < w.heap.size → k ≠ Y → v.heap[k]? = w.heap[k]?
section
variable {w0 w u v w8 : World} {lo Y : Nat} {nm : ByteArray} {p2 : Option Addr} {n c2 : Nat} {f : Nat → Col} {nx : Int} {vr v8 : Value} {G : List GRow} {g : GRow} {o : Obj}
theorem AdK.refl (lo Y : Nat) (w : World) : AdK lo Y w w := ⟨Nat.le_refl _, fun _ _ _ _ => rfl⟩
theorem AdK.to (h : AdK lo Y w u) (hb : Below u.heap.size u v) : AdK lo Y w v := ⟨Nat.le_trans h.size hb.size, fun k h1 h2 h3 => (hb.block k (Nat.lt_of_lt_of_le h2 h.size)).trans (h.blk k h1 h2 h3)⟩
theorem AdK.set (h : AdK lo Y w u) (oc : Nat) (y : Value) : AdK lo Y w (u.setCell ⟨Y, oc, none⟩ y) := ⟨by rw [set_size]; exact h.size, fun k h1 h2 h3 => (Below.heap_setCell _ _ _ _ h3).trans (h.blk k h1 h2 h3)⟩
theorem AdK.grown {row : Option Nat} (h : AdK lo Y w u) (hg : u.grownBy v row) (hr : ∀ k, row = some k → lo ≤ k) : AdK lo Y w v := ⟨Nat.le_trans h.size hg.size, fun k h1 h2 h3 => (hg.block k (Nat.lt_of_lt_of_le h2 h.size) (fun e => by have := hr k e.symm; omega)).trans (h.blk k h1 h2 h3)⟩
theorem town_keepY (h : TOwn u lo vr G) (hne : vr.ownBlock ≠ some Y) (hnes : ∀ g ∈ G, g.2.1.ownBlock ≠ some Y) (hk : ∀ k, lo ≤ k → k < u.heap.size → k ≠ Y → v.heap[k]? = u.heap[k]?) : TOwn v lo vr G :=
  ⟨owns_keep h.own fun k hk' => hk k (owns_block h.own k hk') (owns_lt h.own k hk') (fun e => hne (by rw [hk', e])), fun g hg => ⟨owns_keep (h.inn g hg).1 fun k hk' => hk k (owns_block (h.inn g hg).1 k hk') (owns_lt (h.inn g hg).1 k hk') (fun e => hnes g hg (by rw [← e]; exact hk')), (h.inn g hg).2⟩⟩
theorem cown_keepY (h : COwn u lo p2 n c2 f) (hne : (Value.slice p2 n c2).ownBlock ≠ some Y) (hk : ∀ k, lo ≤ k → k < u.heap.size → k ≠ Y → v.heap[k]? = u.heap[k]?) : COwn v lo p2 n c2 f := by
  obtain ⟨l, h1, h2, h3⟩ := h
  exact ⟨l, owns_keep h1 fun k hk' => hk k (owns_block h1 k hk') (owns_lt h1 k hk') (fun e => hne (by rw [hk', e])), h2, h3⟩
theorem AdW.to (h : AdW w0 lo Y nm p2 n c2 f nx vr G u) (hb : Below u.heap.size u v) : AdW w0 lo Y nm p2 n c2 f nx vr G v :=
  ⟨h.box.low hb, h.own.low hb, h.ne, h.nes, h.col.low hb, h.nec, below_next h.low hb, h.hb, h.hY, Nat.le_trans h.hlo hb.size⟩
theorem AdW.setNx (h : AdW w0 lo Y nm p2 n c2 f nx vr G u) (ny : Int) : AdW w0 lo Y nm p2 n c2 f ny vr G (u.setCell ⟨Y, 2, none⟩ (.int .i64 ny)) :=
  have hk : ∀ k, lo ≤ k → k < u.heap.size → k ≠ Y → (u.setCell ⟨Y, 2, none⟩ (.int .i64 ny)).heap[k]? = u.heap[k]? := fun k _ _ h3 => Below.heap_setCell _ _ _ _ h3
  ⟨h.box.set2 _, town_keepY h.own h.ne h.nes hk, h.ne, h.nes, cown_keepY h.col h.nec hk, h.nec, h.low.setCell (by exact h.hY) _, h.hb, h.hY, by rw [set_size]; exact h.hlo⟩
theorem cell4_grownN {X : Nat} {a b c d : Value} {row : Option Nat} (h : Cell4 u X a b c d) (hg : u.grownBy v row) (hr : row ≠ some X) : Cell4 v X a b c d := by
  have hb := hg.block X h.lt (fun e => hr e.symm)
  exact ⟨Nat.lt_of_lt_of_le h.lt hg.size, by rw [World.cell?_of_block (w := u) hb]; exact h.c0, by rw [World.cell?_of_block (w := u) hb]; exact h.c1, by rw [World.cell?_of_block (w := u) hb]; exact h.c2, by rw [World.cell?_of_block (w := u) hb]; exact h.c3, fun o => by rw [World.frozen?_of_block (w := u) hb]; exact h.fz o⟩
theorem cell2_grownN {X : Nat} {a b : Value} {row : Option Nat} (h : Cell2 u X a b) (hg : u.grownBy v row) (hr : row ≠ some X) : Cell2 v X a b := by
  have hb := hg.block X h.lt (fun e => hr e.symm)
  exact ⟨Nat.lt_of_lt_of_le h.lt hg.size, by rw [World.cell?_of_block (w := u) hb]; exact h.c0, by rw [World.cell?_of_block (w := u) hb]; exact h.c1, fun o => by rw [World.frozen?_of_block (w := u) hb]; exact h.fz o⟩
theorem AdW.push (h : AdW w0 lo Y nm p2 n c2 f nx vr G u) (hz : InRow u lo (g.2.1, g.2.2)) (hzY : g.2.1.ownBlock ≠ some Y)
    (ho : w8.ownsRow lo 53 2 v8 (G ++ [g]).length (tcells (G ++ [g]))) (hg : (u.alloc o).grownBy w8 vr.ownBlock) :
    Cell4 w8 Y (.string nm) (.slice p2 n c2) (.int .i64 nx) vr ∧ AdW w0 lo Y nm p2 n c2 f nx v8 (G ++ [g]) (w8.setCell ⟨Y, 3, none⟩ v8) := by
  have h7 := h.to (below_alloc u o)
  have hbox := cell4_grownN h7.box hg h.ne
  have hown := h.own.push hz ho hg
  have hk : ∀ k, lo ≤ k → k < w8.heap.size → k ≠ Y → (w8.setCell ⟨Y, 3, none⟩ v8).heap[k]? = w8.heap[k]? := fun k _ _ h3 => Below.heap_setCell _ _ _ _ h3
  have hne : v8.ownBlock ≠ some Y := fun he => by
    obtain ⟨g', c, e, -, -, -, hc⟩ := hown.slot (by rw [List.length_append]; exact Nat.succ_pos _)
    obtain ⟨c0, -⟩ := hc 0 (by rw [List.length_append]; exact Nat.succ_pos _)
    subst e
    have he : some g' = some Y := he
    obtain rfl : g' = Y := Option.some.inj he
    rw [Nat.zero_mul, hbox.c0] at c0
    cases c0
  have hnes : ∀ x ∈ G ++ [g], x.2.1.ownBlock ≠ some Y := fun x hx => by
    rcases List.mem_append.1 hx with hx | hx
    · exact h.nes x hx
    · obtain rfl := List.mem_singleton.1 hx
      exact hzY
  have hcol : COwn w8 lo p2 n c2 f := by
    obtain ⟨l, h1, h2, h3⟩ := h7.col
    exact ⟨l, owns_keep h1 fun k hk' => hg.block k (owns_lt h1 k hk') (fun e => owns_apart h1 h7.own.own (by decide) k hk' e.symm), h2, h3⟩
  refine ⟨hbox, hbox.set3 v8, town_keepY hown hne hnes hk, hne, hnes, cown_keepY hcol h.nec hk, h.nec, (grown_below h7.low (Nat.le_trans h.hb h7.hlo) hg fun k hk' => Nat.le_trans h.hb (owns_block h.own.own k hk')).setCell (by exact h.hY) _, h.hb, h.hY, by rw [set_size]; exact Nat.le_trans h7.hlo hg.size⟩
end
/-- What add gives. -/
def AddPost (w0 : World) (lo Y : Nat) (nm : ByteArray) (p2 : Option Addr) (n c2 : Nat) (f : Nat → Col) (nx : Int) (G0 : List GRow) (I : List TRow) (w : World) (e : Ending) (w' : World) : Prop :=
  ∃ b : Bool, e = .returned (.bool b) ∧ AdK lo Y w w' ∧ Below w0.heap.size w0 w' ∧ ((b = false ∧ addN nx I = none) ∨ (b = true ∧ ∃ (m : Int) (vr : Value) (G : List GRow), addN nx I = some m ∧ tabR G = tabR G0 ++ I ∧ AdW w0 lo Y nm p2 n c2 f m vr G w'))
theorem addN_step {nx : Int} {I : List TRow} {k : Nat} {id : Int} {l : List Val} (hk : k < I.length) (hr : tAt I k = (id, l)) : addN nx (I.drop k) = if id < nx then none else addN (wrap64 (id + 1)) (I.drop (k + 1)) := by
  rw [List.drop_eq_getElem_cons hk, ← tAt_get hk, hr]; rfl
set_option maxHeartbeats 4000000 in
theorem dadd_any (w0 w : World) (lo Y : Nat) (nm : ByteArray) (p2 : Option Addr) (n c2 : Nat) (f : Nat → Col) (nx : Int) (vr0 : Value) (G0 : List GRow) (pI : Option Addr) (cI : Nat) (I : List TRow)
    (h : AdW w0 lo Y nm p2 n c2 f nx vr0 G0 w) (hI : TRowsAt w0 pI I) (hl : G0.length + I.length ≤ 2000) :
    Calls Tryd.prog 44 #[.pointer (some ⟨Y, 0, none⟩), .slice pI I.length cI] w (AddPost w0 lo Y nm p2 n c2 f nx G0 I w) := by
  have HW := Lib.hid h
  have HI := Lib.hid hI
  clear h hI
  go_enter Tryd.func44, Tryd.ntmps44
  go_wp2_with fail
  go_loopw [9] (fun i v => ∃ (k : Nat) (vr : Value) (G : List GRow) (ny : Int), k ≤ I.length ∧ i = .int .i64 k ∧ addN nx I = addN ny (I.drop k) ∧ tabR G = tabR G0 ++ I.take k ∧ AdW w0 lo Y nm p2 n c2 f ny vr G v ∧ AdK lo Y w v) (fun i _ => I.length - (intOf i).toNat)
  case atStart => exact ⟨0, vr0, G0, nx, Nat.zero_le _, rfl, rfl, by simp, HW.out, AdK.refl _ _ _⟩
  clear HW
  case round =>
    obtain ⟨k, vr, G, ny, hk, rfl, hadd, hG, hw, hK⟩ := hrel
    obtain ⟨p3, c3, e3⟩ := hw.own.ex
    subst e3
    have HADD := Lib.hid hadd
    have HG := Lib.hid hG
    have HW := Lib.hid hw
    have HK := Lib.hid hK
    have HGL : Hid (G.length ≤ G0.length + k) := Lib.hid (by have h1 := congrArg List.length hG; rw [tabR_length, List.length_append, tabR_length, List.length_take] at h1; omega)
    clear hadd hG hw hK
    by_cases hlt : k < I.length
    · have hkd : decide ((k : Int) < I.length) = true := decide_eq_true (by omega)
      obtain ⟨c, o, qb, cb, hp, hc, h0, h1, hr, hs, hn⟩ := HI.out k hlt
      obtain ⟨⟨id, l⟩, hrk⟩ : ∃ x, tAt I k = x := ⟨_, rfl⟩
      rw [hrk] at h0 h1 hr hs hn
      dsimp only at h0 h1 hr hs hn
      subst hp
      rw [← HW.out.low.cell (by exact hc)] at h0 h1
      have hbn := below_alloc wr (.cells #[.int .i64 id, .slice qb l.length cb] 53)
      have HW1 := Lib.hid (HW.out.to hbn)
      have HK1 := Lib.hid (HK.out.to hbn)
      have HY1 := Lib.hid (cell2_new wr (.int .i64 id) (.slice qb l.length cb) 53)
      have HZO : Hid ((Value.slice p3 G.length c3).ownBlock ≠ some wr.heap.size) := Lib.hid (fun e => by have := owns_lt HW.out.own.own _ e; omega)
      have hZY : wr.heap.size ≠ Y := by have := HW.out.box.lt; omega
      have HRV := Lib.hid hr
      have HN := Lib.hid hn
      have HST := Lib.hid (addN_step (nx := ny) hlt hrk)
      have HRK := Lib.hid hrk
      clear HW HK hbn hr hn hrk
      go_upto_region 4 with (fail)
      clear h0 h1
      generalize World.alloc _ _ = W2 at HW1 HK1 HY1 ⊢
      generalize wr.heap.size = Z at HY1 HZO hZY ⊢
      obtain ⟨zl, z0, z1, -⟩ := HY1.out
      obtain ⟨yl, y0, y1, y2, y3, yf⟩ := HW1.out.box
      go_region
      have HW3 := Lib.hid (HW1.out.to (Below.refl W2.heap.size W2).drew)
      have HK3 := Lib.hid (HK1.out.to (Below.refl W2.heap.size W2).drew)
      have HY3 := Lib.hid (HY1.out.low (Below.refl W2.heap.size W2).drew)
      clear HW1 HK1 HY1 zl z0 z1 yl y0 y1 y2 y3 yf
      generalize World.drew _ = W3 at HW3 HK3 HY3 ⊢
      obtain ⟨zl, z0, z1, -⟩ := HY3.out
      obtain ⟨yl, y0, y1, y2, y3, yf⟩ := HW3.out.box
      by_cases hnx : id < ny
      · have hnd : decide (id < ny) = true := decide_eq_true hnx
        have HNO : Hid (addN nx I = none) := Lib.hid (by rw [HADD.out, HST.out, if_pos hnx])
        go_wp2
        exact bodyPost_ret (v := .bool false) (by simp [results, Tryd.results44, go_sem]) rfl ⟨false, rfl, HK3.out, HW3.out.low, .inl ⟨rfl, HNO.out⟩⟩
      · have hnd : decide (id < ny) = false := decide_eq_false hnx
        have HAN : Hid (addN nx I = addN (wrap64 (id + 1)) (I.drop (k + 1))) := Lib.hid (by rw [HADD.out, HST.out, if_neg hnx])
        go_upto_region 6 with (fail)
        have HRD := Lib.hid ((HRV.out.low HW3.out.low).low (Below.refl W3.heap.size W3).drew)
        have HWD := Lib.hid (HW3.out.to (Below.refl W3.heap.size W3).drew)
        have HKD := Lib.hid (HK3.out.to (Below.refl W3.heap.size W3).drew)
        have HYD := Lib.hid (HY3.out.low (Below.refl W3.heap.size W3).drew)
        have hgs : (G.length + 1) * 32 ≤ 140737488355328 := by have := HGL.out; omega
        clear y0 y1 y2
        go_region_law (first
          | (go_simp; go_at_call 68; refine (dcopyrow_any id l qb cb _ HRD.out hs HN.out).mono ?_; rintro e w12 ⟨v12, rfl, hin, hb12⟩; (have HZN : Hid (v12.ownBlock ≠ some Y) := Lib.hid (fun e => by have h9 := owns_block hin.1 _ e; have h8 := HWD.out.box.lt; omega)); obtain ⟨p12, c12, e12⟩ := InRow.ex hin; subst e12; (have HIN := Lib.hid (InRow.base hin HWD.out.hlo)); (have HO12 := Lib.hid (HWD.out.to hb12)); (have HB12 := Lib.hid hb12); (have n3 := HO12.out.box.c3); (have nl := HO12.out.box.lt); clear hin hb12)
          | (refine step_append_trow (by rfl) (.tmp 24) (.tmp 27) (by rfl) lo (.slice p3 G.length c3) G (by simp [Act.eval]) (HO12.out.own.low (below_alloc _ _)).own w12.heap.size id (.slice p12 l.length c12) l (by simp [Act.eval]) (row2_new _ _ _ _).1 (row2_new _ _ _ _).2 rfl hgs (by rw [size_alloc]; exact Nat.le_succ_of_le HO12.out.hlo) ?_; intro v13 w13 hown13 hg13; obtain ⟨⟨yl2, t0, t1, t2, t3, tf⟩, hS13⟩ := HO12.out.push (g := (id, .slice p12 l.length c12, l)) HIN.out HZN.out hown13 hg13; (have HZ13 := Lib.hid (cell2_far (cell2_grownN ((HYD.out.low HB12.out).low (below_alloc _ _)) hg13 HZO.out) hZY v13 : Cell2 (w13.setCell ⟨Y, 3, none⟩ v13) Z (.int .i64 id) (.slice qb l.length cb))); (have HK13 := Lib.hid (((((HKD.out.to HB12.out).to (below_alloc _ _)).grown hg13 (fun j hj => owns_block HO12.out.own.own j hj))).set 3 v13)); obtain ⟨p13, c13, e13⟩ := hS13.own.ex; rw [List.length_append, List.length_singleton] at e13; subst e13; (have HS13 := Lib.hid hS13); clear hS13 hown13 hg13 t0 t1 t2))
        all_goals
          clear HWD HO12 HKD HYD HRD HW3 HK3 HY3 HIN HZN HB12 z0 z1 zl y3 yl yf t3 yl2 tf
          generalize World.setCell _ _ _ = W13 at HS13 HZ13 HK13 ⊢
          obtain ⟨zl, z0, z1, -⟩ := HZ13.out
          obtain ⟨yl, y0, y1, y2, y3, yf⟩ := HS13.out.box
          have HFN := Lib.hid (HS13.out.setNx (wrap64 (id + 1)))
          have HFK := Lib.hid (HK13.out.set 2 (.int .i64 (wrap64 (id + 1))))
          go_wp2_with fail
          go_roundw
          case rel => exact ⟨k + 1, _, G ++ [(id, .slice p12 l.length c12, l)], _, by omega, by go_num, HAN.out, by rw [tabR_append, HG.out, take_trow hlt, HRK.out, List.append_assoc]; rfl, HFN.out, HFK.out⟩
          case measure => simp [intOf]; omega
    · obtain rfl : k = I.length := by omega
      have hkd : decide (((I.length : Nat) : Int) < I.length) = false := decide_eq_false (by omega)
      have hadd := HADD.out
      rw [List.drop_length] at hadd
      have hG := HG.out
      rw [List.take_length] at hG
      have HADD2 := Lib.hid hadd
      have HG2 := Lib.hid hG
      clear hadd hG
      go_wp2
      exact bodyPost_ret (v := .bool true) (by simp [results, Tryd.results44, go_sem]) rfl ⟨true, rfl, HK.out, HW.out.low, .inr ⟨rfl, ny, _, G, HADD2.out, HG2.out, HW.out⟩⟩
end Go.Proofs.YtlelgkgdppkedaaDoor
/-
  Package table: Get.
-/
namespace Go.Proofs.YtlelgkgdppkedaaDoor
set_option maxRecDepth 100000
open Go.RowKit
variable {ls : List Nat}

set_option maxHeartbeats 1000000 in
theorem get_any (T : Tab) (id : Int) (w : World) (hT : TabAt w T) :
    Calls Tryd.prog 75 #[T.v, .int .i64 id] w (GetPost id T.R w) := by
  obtain ⟨nm, pc, n, cc, f, nx, pr, cr, R⟩ := T
  obtain ⟨hnm, hn, hC, hR, hl, hz⟩ := hT
  unfold Tab.v GetPost
  dsimp only at *
  have HR := Lib.hid hR
  clear hC hR hz
  go_enter Tryd.func75, Tryd.ntmps75
  go_wp2_with fail
  go_loopw [11] (fun i v => ∃ k : Nat, k ≤ R.length ∧ i = .int .i64 k ∧ (∀ j, j < k → (tAt R j).1 ≠ id) ∧ Below w.heap.size w v) (fun i _ => R.length - (intOf i).toNat)
  case atStart => exact ⟨0, Nat.zero_le _, rfl, fun j hj => by omega, below_new (Below.refl _ _) _⟩
  case round =>
    obtain ⟨k, hk, rfl, ha, hb⟩ := hrel
    have HA := Lib.hid ha
    have HB := Lib.hid hb
    clear ha hb
    by_cases hlt : k < R.length
    · have hlt' : decide ((k : Int) < R.length) = true := decide_eq_true (by omega)
      obtain ⟨c, o, q, cp, rfl, hc, h0, h1, hr, hs, hqn⟩ := HR.out.low HB.out k hlt
      have HQ := Lib.hid (hr.low (below_alloc wr (.cells #[.int .i64 (tAt R k).1, .slice q (tAt R k).2.length cp] 53)))
      have HN := Lib.hid hqn
      clear hr hqn
      cases he : ((tAt R k).1 == id)
      · have HE := Lib.hid (beq_eq_false_iff_ne.1 he)
        go_wp2
        go_roundw
        case rel => exact ⟨k + 1, by omega, by go_num, all_succ HA.out HE.out, below_new HB.out _⟩
        case measure => simp [intOf]; omega
      · have HE := Lib.hid (beq_iff_eq.1 he)
        have HG := Lib.hid (getO_hit hlt HE.out HA.out)
        have HBN := Lib.hid (below_new HB.out (.cells #[.int .i64 (tAt R k).1, .slice q (tAt R k).2.length cp] 53))
        go_wp2_with fail
        refine (dcopy_any (tAt R k).2 q cp _ HQ.out hs HN.out).mono ?_
        rintro e w2 ⟨v2, rfl, hin2, hb2⟩
        obtain ⟨hv2, hr2, -⟩ := owned_shape hin2.1
        have HR2 := Lib.hid hr2
        have HB2 := Lib.hid (below_next HBN.out hb2)
        have HV := Lib.hid hv2
        clear hin2 hb2 hr2 h0 h1 hc hv2
        go_wp2
        go_ret2
        rw [HG.out]
        exact ⟨_, _, by rw [HV.out]; rfl, HR2.out, hs, HB2.out⟩
    · have hlt' : decide ((k : Int) < R.length) = false := decide_eq_false (by omega)
      obtain rfl : k = R.length := by omega
      have HG := Lib.hid (getO_none HA.out)
      go_wp2
      go_ret2
      rw [HG.out]
      exact ⟨none, 0, rfl, fun i hi => by simp at hi, by simp, HB.out⟩
end Go.Proofs.YtlelgkgdppkedaaDoor
/-
  hold of package delta: does a table have all these rows, with their values?
-/
namespace Go.Proofs.YtlelgkgdppkedaaDoor
set_option maxRecDepth 100000
open Go.RowKit
variable {ls : List Nat}

theorem hold_no {A D : List TRow} {k : Nat} (h : k < D.length) (hn : ¬ ((getO (tAt D k).1 A).2 = true ∧ (getO (tAt D k).1 A).1 = (tAt D k).2)) : holdB A D = false := by
  unfold holdB
  rw [List.all_eq_false]
  refine ⟨_, tAt_mem h, fun hc => hn ?_⟩
  simpa using hc
theorem hold_yes {A D : List TRow} (h : ∀ k, k < D.length → (getO (tAt D k).1 A).2 = true ∧ (getO (tAt D k).1 A).1 = (tAt D k).2) : holdB A D = true := by
  unfold holdB
  rw [List.all_eq_true]
  intro r hr
  obtain ⟨k, hk, rfl⟩ := List.getElem_of_mem hr
  rw [← tAt_get hk]
  simpa using h k hk
set_option maxHeartbeats 4000000 in
theorem dhold_any (T : Tab) (pd : Option Addr) (cd : Nat) (D : List TRow) (w : World) (hT : TabAt w T) (hD : TRowsAt w pd D) (hl : D.length ≤ 9223372036854775807) :
    Calls Tryd.prog 43 #[.agg #[.string T.nm, .slice T.pc T.n T.cc, .int .i64 T.nx, .slice T.pr T.R.length T.cr], .slice pd D.length cd] w fun e w' => e = .returned (.bool (holdB T.R D)) ∧ Below w.heap.size w w' := by
  have HX := Lib.hid (cell4_new w (.string T.nm) (.slice T.pc T.n T.cc) (.int .i64 T.nx) (.slice T.pr T.R.length T.cr) 27)
  have HB0 := Lib.hid (below_alloc w (.cells #[.string T.nm, .slice T.pc T.n T.cc, .int .i64 T.nx, .slice T.pr T.R.length T.cr] 27))
  have HT := Lib.hid hT
  have HD := Lib.hid hD
  clear hT hD
  go_enter Tryd.func43, Tryd.ntmps43
  go_upto_region 1 with (fail)
  generalize World.alloc _ _ = W0 at HX HB0 ⊢
  go_wp2_with fail
  go_loopw [11] (fun i v => ∃ k : Nat, k ≤ D.length ∧ i = .int .i64 k ∧ (∀ j, j < k → (getO (tAt D j).1 T.R).2 = true ∧ (getO (tAt D j).1 T.R).1 = (tAt D j).2) ∧ Cell4 v w.heap.size (.string T.nm) (.slice T.pc T.n T.cc) (.int .i64 T.nx) (.slice T.pr T.R.length T.cr) ∧ Below w.heap.size w v) (fun i _ => D.length - (intOf i).toNat)
  case atStart => exact ⟨0, Nat.zero_le _, rfl, fun j hj => absurd hj (Nat.not_lt_zero j), HX.out, HB0.out⟩
  clear HX HB0
  case round =>
    obtain ⟨k, hk, rfl, ha, hx, hb⟩ := hrel
    have HA := Lib.hid ha
    have HX := Lib.hid hx
    have HB := Lib.hid hb
    clear ha hx hb
    by_cases hlt : k < D.length
    · have hkd : decide ((k : Int) < D.length) = true := decide_eq_true (by omega)
      obtain ⟨c, o, qb, cb, hp, hc, h0, h1, hr, hs, hn⟩ := HD.out k hlt
      obtain ⟨⟨id, l⟩, hrk⟩ : ∃ x, tAt D k = x := ⟨_, rfl⟩
      rw [hrk] at h0 h1 hr hs hn
      dsimp only at h0 h1 hr hs hn
      subst hp
      rw [← HB.out.cell (by exact hc)] at h0 h1
      have hbn := below_alloc wr (.cells #[.int .i64 id, .slice qb l.length cb] 53)
      have HX1 := Lib.hid (HX.out.low hbn)
      have HB1 := Lib.hid (below_next HB.out hbn)
      have HY1 := Lib.hid (cell2_new wr (.int .i64 id) (.slice qb l.length cb) 53)
      have HRV := Lib.hid hr
      have HRK := Lib.hid hrk
      clear HB HX hbn hr hrk
      go_upto_region 4 with (fail)
      clear h0 h1
      generalize World.alloc _ _ = W2 at HX1 HB1 HY1 ⊢
      generalize wr.heap.size = Y at HY1 ⊢
      obtain ⟨yl, y0, y1, -⟩ := HY1.out
      obtain ⟨xl, x0, x1, x2, x3, -⟩ := HX1.out
      go_wp2_with fail
      refine (get_any T id _ (HT.out.low HB1.out)).mono ?_
      rintro e w3 ⟨pv, cv, rfl, hrv, hsv, hbv⟩
      obtain ⟨⟨vs, ok⟩, hgo⟩ : ∃ x, getO id T.R = x := ⟨_, rfl⟩
      rw [hgo] at hrv hsv ⊢
      dsimp only at hrv hsv ⊢
      have HGO := Lib.hid hgo
      have HRW := Lib.hid hrv
      have HX3 := Lib.hid (HX1.out.low hbv)
      have HY3 := Lib.hid (HY1.out.low hbv)
      have HB3 := Lib.hid (below_next HB1.out hbv)
      have HRL := Lib.hid (HRV.out.low HB3.out)
      clear HX1 HY1 HB1 HRV hrv hbv hgo yl y0 y1 xl x0 x1 x2 x3
      obtain ⟨yl, y0, y1, -⟩ := HY3.out
      cases ok
      · have HNO : Hid (holdB T.R D = false) := Lib.hid (hold_no hlt (by rw [HRK.out]; dsimp only; rw [HGO.out]; simp))
        go_wp2
        exact bodyPost_ret (v := .bool false) (by simp [results, Tryd.results43, go_sem]) rfl ⟨by rw [HNO.out], HB3.out⟩
      · go_wp2_with fail
        refine (dsamerow_any pv qb vs l cv cb _ (by omega) HRW.out HRL.out).mono ?_
        rintro e w4 ⟨rfl, hb4⟩
        have HX4 := Lib.hid (HX3.out.low hb4)
        have HB4 := Lib.hid (below_next HB3.out hb4)
        clear HX3 HY3 HB3 HRW HRL hb4 yl y0 y1
        by_cases hvl : vs = l
        · have hvd : decide (vs = l) = true := decide_eq_true hvl
          rw [hvd]
          go_wp2_with fail
          go_roundw
          case rel => exact ⟨k + 1, by omega, by go_num, fun j hj => by
            by_cases hjk : j = k
            · subst hjk
              rw [HRK.out]
              dsimp only
              rw [HGO.out]
              exact ⟨rfl, hvl⟩
            · exact HA.out j (by omega), HX4.out, HB4.out⟩
          case measure => simp [intOf]; omega
        · have hvd : decide (vs = l) = false := decide_eq_false hvl
          have HNO : Hid (holdB T.R D = false) := Lib.hid (hold_no hlt (by rw [HRK.out]; dsimp only; rw [HGO.out]; exact fun hc => hvl hc.2))
          rw [hvd]
          go_wp2
          exact bodyPost_ret (v := .bool false) (by simp [results, Tryd.results43, go_sem]) rfl ⟨by rw [HNO.out], HB4.out⟩
    · obtain rfl : k = D.length := by omega
      have hkd : decide (((D.length : Nat) : Int) < D.length) = false := decide_eq_false (by omega)
      have HYES := Lib.hid (hold_yes HA.out)
      go_wp2
      exact bodyPost_ret (v := .bool true) (by simp [results, Tryd.results43, go_sem]) rfl ⟨by rw [HYES.out], HB.out⟩
end Go.Proofs.YtlelgkgdppkedaaDoor
/-
  A change whose lists are copied: pairs and rows of another's memory in a list of one's own.
-/
namespace Go.Proofs.YtlelgkgdppkedaaDoor
set_option maxRecDepth 100000
open Go.RowKit
variable {ls : List Nat}

/-- A slice value that holds these values. -/
def Holds (v : World) (x : Value × List Val) : Prop := ∃ (q : Option Addr) (c : Nat), x.1 = .slice q x.2.length c ∧ RowAt v q x.2 ∧ x.2.length * 32 ≤ 140737488355328 ∧ (q = none → x.2 = [] ∧ c = 0)
theorem Holds.low {u v : World} {x : Value × List Val} (h : Holds u x) (hb : Below u.heap.size u v) : Holds v x := by
  obtain ⟨q, c, h1, h2, h3, h4⟩ := h
  exact ⟨q, c, h1, h2.low hb, h3, h4⟩
theorem Holds.nil (v : World) : Holds v (.slice none 0 0, []) := ⟨none, 0, rfl, fun i hi => by simp at hi, by simp, fun _ => ⟨rfl, rfl⟩⟩
theorem Holds.one {v : World} {x : Value × List Val} (h : Holds v x) : x.1.oneCell' = true := by
  obtain ⟨q, c, h1, -⟩ := h
  rw [h1]; rfl
abbrev unP (p : GPair) : PRow := (p.1, p.2.1.2, p.2.2.2)
theorem pairsAt_own {base : Nat} {v : World} {p : Option Addr} {n c : Nat} {P : List GPair} (h : v.ownsRow base 86 3 (.slice p n c) P.length (pcells P)) (hG : ∀ x ∈ P, Holds v x.2.1 ∧ Holds v x.2.2) : PairsAt v p (P.map unP) := by
  intro i hi
  have hi' : i < P.length := by rw [List.length_map] at hi; exact hi
  obtain ⟨⟨q, cq, hx, hr, hl, hq⟩, ⟨q', cq', hx', hr', hl', hq'⟩⟩ := hG _ (List.getElem_mem hi')
  obtain ⟨e0, e1, e2⟩ := pcells_at P i hi'
  obtain ⟨b, hp, hc, k0⟩ := own_cell h e0
  obtain ⟨b', hp', -, k1⟩ := own_cell h e1
  rw [hp] at hp'
  cases hp'
  obtain ⟨b', hp', -, k2⟩ := own_cell h e2
  rw [hp] at hp'
  cases hp'
  have e : pAt (P.map unP) i = unP P[i] := by rw [pAt_get hi, List.getElem_map]
  rw [e]
  exact ⟨b, 0, q, cq, q', cq', hp, hc, k0, by rw [← hx]; exact k1, by rw [← hx']; exact k2, hr, hr', hl, hl', hq, hq'⟩
theorem numAt_own {base : Nat} {v : World} {p : Option Addr} {n c : Nat} {D : List Int} (h : v.ownsRow base 3 1 (.slice p n c) D.length (icells D)) : NumAt v p D := by
  intro i hi
  obtain ⟨b, hp, hc, hcell⟩ := own_cell h (i := i) (x := .int .i64 (iAt D i)) (by unfold icells; rw [List.getElem?_map, List.getElem?_eq_getElem hi, iAt_get hi]; rfl)
  exact ⟨b, 0, hp, hc, hcell⟩
theorem rowsAt_own {base : Nat} {v : World} {p : Option Addr} {n c : Nat} {G : List (Value × List Val)} (h : v.ownsRow base 51 1 (.slice p n c) G.length (G.map (·.1))) (hG : ∀ x ∈ G, Holds v x) : RowsAt v p (G.map (·.2)) := by
  intro i hi
  have hi' : i < G.length := by rw [List.length_map] at hi; exact hi
  obtain ⟨q, cq, hx, hr, hl, hq⟩ := hG _ (List.getElem_mem hi')
  obtain ⟨b, hp, hc, hcell⟩ := own_cell h (i := i) (x := G[i].1) (by simp [hi'])
  have e : rAt (G.map (·.2)) i = G[i].2 := by rw [rAt_get hi, List.getElem_map]
  rw [e]
  exact ⟨b, 0, q, cq, hp, hc, by rw [← hx]; exact hcell, hr, hl, hq⟩
/-- The pairs of a change that the tape leaves alone, as values. -/
theorem pairs_list {b : Nat} {w : World} {pu : Option Addr} {U : List PRow} (HP : ∀ v, StepT b w v → PairsAt v pu U) : ∀ m, m ≤ U.length → ∃ P : List GPair, P.length = m ∧ P.map unP = U.take m ∧
    (∀ v, StepT b w v → ∀ x ∈ P, Holds v x.2.1 ∧ Holds v x.2.2) ∧
    (∀ v, StepT b w v → ∀ i (hi : i < P.length), ∃ c o, pu = some ⟨c, o, none⟩ ∧ v.cell? ⟨c, o + i * 3, none⟩ = some (.int .i64 P[i].1) ∧ v.cell? ⟨c, o + i * 3 + 1, none⟩ = some P[i].2.1.1 ∧ v.cell? ⟨c, o + i * 3 + 2, none⟩ = some P[i].2.2.1) := by
  intro m
  induction m with
  | zero => intro _; exact ⟨[], rfl, rfl, fun _ _ x hx => (by cases hx), fun _ _ i hi => (by simp at hi)⟩
  | succ m ih =>
    intro hm
    obtain ⟨P, hP, hU, hG, hC⟩ := ih (by omega)
    have hmU : m < U.length := by omega
    obtain ⟨c, o, q, cq, r, cr, hp, hc, h0, h1, h2, -, -, hl1, hl2, hq, hr⟩ := HP w (StepT.refl b w) m hmU
    subst hp
    have hcb : c ≠ b := fun e => by
      subst e
      obtain ⟨c', o', q', cq', r', cr', hp', -, k0, -⟩ := HP _ (bare_step c w) m hmU
      cases hp'
      exact bare_cell k0
    have hrow : ∀ v, StepT b w v → RowAt v q (pAt U m).2.1 ∧ RowAt v r (pAt U m).2.2 := fun v hv => by
      obtain ⟨c', o', q', cq', r', cr', hp', -, -, k1, k2, hr1, hr2, -⟩ := HP v hv m hmU
      cases hp'
      rw [hv.cell (by exact hc) (by exact hcb), h1] at k1
      rw [hv.cell (by exact hc) (by exact hcb), h2] at k2
      injection k1 with k1
      injection k1 with e1
      injection k2 with k2
      injection k2 with e2
      subst e1 e2
      exact ⟨hr1, hr2⟩
    refine ⟨P ++ [((pAt U m).1, (.slice q (pAt U m).2.1.length cq, (pAt U m).2.1), (.slice r (pAt U m).2.2.length cr, (pAt U m).2.2))], by rw [List.length_append, hP]; rfl, ?_, ?_, ?_⟩
    · rw [List.map_append, hU, List.take_add_one, List.getElem?_eq_getElem hmU, ← pAt_get hmU]
      rfl
    · intro v hv x hx
      rcases List.mem_append.1 hx with hx | hx
      · exact hG v hv x hx
      · obtain rfl := List.mem_singleton.1 hx
        exact ⟨⟨q, cq, rfl, (hrow v hv).1, hl1, hq⟩, ⟨r, cr, rfl, (hrow v hv).2, hl2, hr⟩⟩
    · intro v hv i hi
      by_cases him : i < P.length
      · obtain ⟨c', o', hp', k0, k1, k2⟩ := hC v hv i him
        rw [List.getElem_append_left him]
        exact ⟨c', o', hp', k0, k1, k2⟩
      · have : i = m := by rw [List.length_append, hP] at hi; simp at hi; omega
        subst this
        rw [List.getElem_append_right (by omega)]
        simp only [hP, Nat.sub_self, List.getElem_cons_zero]
        exact ⟨c, o, rfl, by rw [hv.cell (by exact hc) (by exact hcb)]; exact h0, by rw [hv.cell (by exact hc) (by exact hcb)]; exact h1, by rw [hv.cell (by exact hc) (by exact hcb)]; exact h2⟩
theorem pairs_news {v : World} {pu : Option Addr} {P : List GPair} (h : ∀ i (hi : i < P.length), ∃ c o, pu = some ⟨c, o, none⟩ ∧ v.cell? ⟨c, o + i * 3, none⟩ = some (.int .i64 P[i].1) ∧ v.cell? ⟨c, o + i * 3 + 1, none⟩ = some P[i].2.1.1 ∧ v.cell? ⟨c, o + i * 3 + 2, none⟩ = some P[i].2.2.1) (ad : Addr) (hp : pu = some ad) :
    ∀ j y, (pcells P)[j]? = some y → v.cell? (ad.add j) = some y := by
  intro j y hj
  have hlt := (List.getElem?_eq_some_iff.1 hj).1
  rw [pcells_length] at hlt
  obtain ⟨i, k, hk, rfl⟩ : ∃ i k, k < 3 ∧ j = i * 3 + k := ⟨j / 3, j % 3, Nat.mod_lt _ (by decide), by omega⟩
  have hi : i < P.length := by omega
  obtain ⟨c, o, hpu, k0, k1, k2⟩ := h i hi
  rw [hp] at hpu
  cases hpu
  obtain ⟨e0, e1, e2⟩ := pcells_at P i hi
  have hadd : ∀ m, (⟨c, o, none⟩ : Addr).add m = ⟨c, o + m, none⟩ := fun m => by unfold Addr.add; split <;> simp_all
  rw [hadd]
  obtain rfl | rfl | rfl : k = 0 ∨ k = 1 ∨ k = 2 := by omega
  · rw [Nat.add_zero] at hj ⊢
    rw [e0] at hj
    rw [k0]; exact hj
  · rw [e1] at hj
    rw [← Nat.add_assoc, k1]; exact hj
  · rw [e2] at hj
    rw [← Nat.add_assoc, k2]; exact hj
theorem pcells_one {v : World} {P : List GPair} (h : ∀ x ∈ P, Holds v x.2.1 ∧ Holds v x.2.2) : ∀ y ∈ pcells P, y.oneCell' = true := by
  intro y hy
  unfold pcells at hy
  obtain ⟨x, hx, hy⟩ := List.mem_flatMap.1 hy
  obtain ⟨h1, h2⟩ := h x hx
  simp only [List.mem_cons, List.not_mem_nil, or_false] at hy
  rcases hy with rfl | rfl | rfl
  · rfl
  · exact h1.one
  · exact h2.one
theorem nums_news {v : World} {p : Option Addr} {D : List Int} (h : NumAt v p D) (ad : Addr) (hp : p = some ad) : ∀ j y, (icells D)[j]? = some y → v.cell? (ad.add j) = some y := by
  intro j y hj
  unfold icells at hj
  rw [List.getElem?_map] at hj
  by_cases hlt : j < D.length
  · obtain ⟨c, o, hp', hc, hcell⟩ := h j hlt
    rw [hp] at hp'
    cases hp'
    have hadd : (⟨c, o, none⟩ : Addr).add j = ⟨c, o + j, none⟩ := by unfold Addr.add; split <;> simp_all
    rw [hadd, hcell, ← hj, List.getElem?_eq_getElem hlt, iAt_get hlt]
    rfl
  · rw [List.getElem?_eq_none (by omega)] at hj
    cases hj
theorem nums_nil {v : World} {p : Option Addr} {D : List Int} (h : NumAt v p D) (hp : p = none) : icells D = [] := by
  cases D with
  | nil => rfl
  | cons z D => obtain ⟨c, o, hp', -⟩ := h 0 (Nat.succ_pos _); rw [hp] at hp'; cases hp'
theorem icells_one (D : List Int) : ∀ u ∈ icells D, u.oneCell' = true := by
  intro u hu
  obtain ⟨z, -, rfl⟩ := List.mem_map.1 hu
  rfl
theorem iowns_empty (w : World) : (w.alloc (.cells #[] 3)).ownsRow w.heap.size 3 1 (.slice (some ⟨w.heap.size, 0, none⟩) 0 0) 0 (icells []) := by
  refine ⟨rfl, Or.inr ⟨w.heap.size, 0, #[], rfl, Nat.le_refl _, ?_, Nat.le_refl _, by decide, rfl, rfl⟩⟩
  show (w.heap.push _)[w.heap.size]? = _
  simp
theorem powns_empty (w : World) : (w.alloc (.cells #[] 86)).ownsRow w.heap.size 86 3 (.slice (some ⟨w.heap.size, 0, none⟩) 0 0) 0 (pcells []) := by
  refine ⟨rfl, Or.inr ⟨w.heap.size, 0, #[], rfl, Nat.le_refl _, ?_, Nat.le_refl _, by decide, rfl, rfl⟩⟩
  show (w.heap.push _)[w.heap.size]? = _
  simp
/-- The rows of a change that the tape leaves alone, as values. -/
theorem rows_list {b : Nat} {w : World} {pi : Option Addr} {I : List (List Val)} (HP : ∀ v, StepT b w v → RowsAt v pi I) : ∀ m, m ≤ I.length → ∃ G : List (Value × List Val), G.length = m ∧ G.map (·.2) = I.take m ∧
    (∀ v, StepT b w v → ∀ x ∈ G, Holds v x) ∧
    (∀ v, StepT b w v → ∀ i (hi : i < G.length), ∃ c o, pi = some ⟨c, o, none⟩ ∧ v.cell? ⟨c, o + i, none⟩ = some G[i].1) := by
  intro m
  induction m with
  | zero => intro _; exact ⟨[], rfl, rfl, fun _ _ x hx => (by cases hx), fun _ _ i hi => (by simp at hi)⟩
  | succ m ih =>
    intro hm
    obtain ⟨G, hG, hI, hH, hC⟩ := ih (by omega)
    have hmI : m < I.length := by omega
    obtain ⟨c, o, q, cq, hp, hc, h0, -, hl, hq⟩ := HP w (StepT.refl b w) m hmI
    subst hp
    have hcb : c ≠ b := fun e => by
      subst e
      obtain ⟨c', o', q', cq', hp', -, k0, -⟩ := HP _ (bare_step c w) m hmI
      cases hp'
      exact bare_cell k0
    have hrow : ∀ v, StepT b w v → RowAt v q (rAt I m) := fun v hv => by
      obtain ⟨c', o', q', cq', hp', -, k0, hr, -⟩ := HP v hv m hmI
      cases hp'
      rw [hv.cell (by exact hc) (by exact hcb), h0] at k0
      injection k0 with k0
      injection k0 with e1
      subst e1
      exact hr
    refine ⟨G ++ [(.slice q (rAt I m).length cq, rAt I m)], by rw [List.length_append, hG]; rfl, ?_, ?_, ?_⟩
    · rw [List.map_append, hI, List.take_add_one, List.getElem?_eq_getElem hmI, ← rAt_get hmI]
      rfl
    · intro v hv x hx
      rcases List.mem_append.1 hx with hx | hx
      · exact hH v hv x hx
      · obtain rfl := List.mem_singleton.1 hx
        exact ⟨q, cq, rfl, hrow v hv, hl, hq⟩
    · intro v hv i hi
      by_cases him : i < G.length
      · obtain ⟨c', o', hp', k0⟩ := hC v hv i him
        rw [List.getElem_append_left him]
        exact ⟨c', o', hp', k0⟩
      · have : i = m := by rw [List.length_append, hG] at hi; simp at hi; omega
        subst this
        rw [List.getElem_append_right (by omega)]
        simp only [hG, Nat.sub_self, List.getElem_cons_zero]
        exact ⟨c, o, rfl, by rw [hv.cell (by exact hc) (by exact hcb)]; exact h0⟩
theorem rows_news {v : World} {pi : Option Addr} {G : List (Value × List Val)} (h : ∀ i (hi : i < G.length), ∃ c o, pi = some ⟨c, o, none⟩ ∧ v.cell? ⟨c, o + i, none⟩ = some G[i].1) (ad : Addr) (hp : pi = some ad) :
    ∀ j y, (G.map (·.1))[j]? = some y → v.cell? (ad.add j) = some y := by
  intro j y hj
  have hlt := (List.getElem?_eq_some_iff.1 hj).1
  rw [List.length_map] at hlt
  obtain ⟨c, o, hpi, k0⟩ := h j hlt
  rw [hp] at hpi
  cases hpi
  have hadd : (⟨c, o, none⟩ : Addr).add j = ⟨c, o + j, none⟩ := by unfold Addr.add; split <;> simp_all
  rw [hadd, k0, ← hj, List.getElem?_map, List.getElem?_eq_getElem hlt]
  rfl
theorem rows_nil {v : World} {pi : Option Addr} {G : List (Value × List Val)} (h : ∀ i (hi : i < G.length), ∃ c o, pi = some ⟨c, o, none⟩ ∧ v.cell? ⟨c, o + i, none⟩ = some G[i].1) (hp : pi = none) : G.map (·.1) = [] := by
  cases G with
  | nil => rfl
  | cons x G => obtain ⟨c, o, hp', -⟩ := h 0 (Nat.succ_pos _); rw [hp] at hp'; cases hp'
theorem rows_one {v : World} {G : List (Value × List Val)} (h : ∀ x ∈ G, Holds v x) : ∀ y ∈ G.map (·.1), y.oneCell' = true := by
  intro y hy
  obtain ⟨x, hx, rfl⟩ := List.mem_map.1 hy
  exact (h x hx).one
theorem rowns_empty (w : World) : (w.alloc (.cells #[] 51)).ownsRow w.heap.size 51 1 (.slice (some ⟨w.heap.size, 0, none⟩) 0 0) 0 [] := by
  refine ⟨rfl, Or.inr ⟨w.heap.size, 0, #[], rfl, Nat.le_refl _, ?_, Nat.le_refl _, by decide, rfl, rfl⟩⟩
  show (w.heap.push _)[w.heap.size]? = _
  simp
theorem holds_zero (w : World) : Holds (w.alloc (.cells #[.int .i64 0, .int .i64 0, .string ⟨#[]⟩] 57)) (.slice (some ⟨w.heap.size, 0, none⟩) 1 1, [(0, 0, ⟨#[]⟩)]) := by
  refine ⟨some ⟨w.heap.size, 0, none⟩, 1, rfl, fun i hi => ?_, (by show 1 * 32 ≤ 140737488355328; omega), fun e => by cases e⟩
  obtain rfl : i = 0 := by simpa using hi
  have h := cell3_new w (.int .i64 0) (.int .i64 0) (.string ⟨#[]⟩) 57
  exact ⟨w.heap.size, 0, rfl, h.lt, h.c0, h.c1, h.c2⟩
theorem Holds.keepB {u v : World} {q : Addr} {n c : Nat} {l : List Val} (h : Holds u (.slice (some q) n c, l)) (hz : u.heap.size ≤ v.heap.size) (hk : v.heap[q.block]? = u.heap[q.block]?) : Holds v (.slice (some q) n c, l) := by
  obtain ⟨q', c', h1, h2, h3, h4⟩ := h
  injection h1 with e1 e2 e3
  subst e1
  exact ⟨some q, c', by rw [e2, e3], h2.keep hz fun a ha => by cases ha; exact hk, h3, h4⟩
theorem own_setCell {u : World} {base n size g m c j : Nat} {e : TypeId} {xs : List Value} (h : u.ownsRow base e size (.slice (some ⟨g, 0, none⟩) m c) n xs) (y : Value) :
    (u.setCell ⟨g, j, none⟩ y).ownsRow base e size (.slice (some ⟨g, 0, none⟩) m c) n (xs.set j y) := by
  rcases h.2 with ⟨hv, h0⟩ | ⟨g', cap', cur, hv, hg, hh, hcap, hm, hcur, htake⟩
  · cases hv
  · injection hv with h1 h2 h3
    injection h1 with h1
    injection h1 with h1
    subst h1 h2 h3
    refine ⟨by rw [List.length_set]; exact h.1, .inr ⟨g, c, _, rfl, hg, heap_setCell_same _ _ _ _ _ _ hh, hcap, hm, by simp [hcur], ?_⟩⟩
    rw [← htake]
    simp [List.take_set]
theorem pcells_set (P : List GPair) (i : Nat) (hi : i < P.length) (y : Value × List Val) : (pcells P).set (i * 3 + 1) y.1 = pcells (P.set i (P[i].1, y, P[i].2.2)) := by
  induction P generalizing i with
  | nil => simp at hi
  | cons x P ih =>
    have e : ∀ x : GPair, ∀ P, pcells (x :: P) = .int .i64 x.1 :: x.2.1.1 :: x.2.2.1 :: pcells P := fun _ _ => rfl
    cases i with
    | zero => rw [e]; rfl
    | succ i =>
      rw [List.length_cons] at hi
      have := ih i (by omega)
      rw [e, show (i + 1) * 3 + 1 = i * 3 + 1 + 1 + 1 + 1 by omega, List.set_cons_succ, List.set_cons_succ, List.set_cons_succ, this]
      rfl
theorem own_frozen {u : World} {base n size g m c : Nat} {e : TypeId} {xs : List Value} (h : u.ownsRow base e size (.slice (some ⟨g, 0, none⟩) m c) n xs) (o : Nat) : u.frozen? ⟨g, o, none⟩ = false := by
  rcases h.2 with ⟨hv, h0⟩ | ⟨g', cap', cur, hv, hg, hh, -⟩
  · cases hv
  · injection hv with h1 h2 h3
    injection h1 with h1
    injection h1 with h1
    subst h1
    simp [World.frozen?, hh]
end Go.Proofs.YtlelgkgdppkedaaDoor
