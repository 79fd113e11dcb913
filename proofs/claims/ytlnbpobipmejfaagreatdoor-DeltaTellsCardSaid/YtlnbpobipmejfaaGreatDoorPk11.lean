/-
  Several texts in one.
-/
import Derived.Test.YtlnbpobipmejfaaGreatDoorPk09
import Derived.Test.YtlnbpobipmejfaaGreatDoorPk03
import Derived.Test.YtlnbpobipmejfaaGreatDoorPk08
import Derived.Deep.QuietTactic
import Derived.BigQuiet
import Derived.Test.YtlnbpobipmejfaaGreatDoorPk10
import Derived.Test.YtlnbpobipmejfaaGreatDoorPk07
/-
  Tables: Get, Bag, Lookup of the reference.
-/
namespace Go.Proofs.YtlnbpobipmejfaaGreatDoor
set_option maxRecDepth 100000
open Go.RowKit
variable {ls : List Nat}

def getO (id : Int) (R : List TRow) : List Val × Bool := match getR id R with | some l => (l, true) | none => ([], false)
theorem getO_hit {id : Int} {R : List TRow} {i : Nat} (h : i < R.length) (hp : (tAt R i).1 = id) (hn : ∀ j, j < i → (tAt R j).1 ≠ id) : getO id R = ((tAt R i).2, true) := by unfold getO; rw [getR_hit h hp hn]
theorem getO_none {id : Int} {R : List TRow} (hn : ∀ j, j < R.length → (tAt R j).1 ≠ id) : getO id R = ([], false) := by unfold getO; rw [getR_none hn]
def lookO (k : Int) (key : Val) (R : List TRow) : Int × Bool := match lookR k key R with | some i => (i, true) | none => (0, false)
theorem lookO_hit {k : Int} {key : Val} {R : List TRow} {i : Nat} (h : i < R.length) (hp : keyV k (tAt R i).2 = some key) (hn : ∀ j, j < i → keyV k (tAt R j).2 ≠ some key) : lookO k key R = ((tAt R i).1, true) := by unfold lookO; rw [lookR_hit h hp hn]
theorem lookO_none {k : Int} {key : Val} {R : List TRow} (hn : ∀ j, j < R.length → keyV k (tAt R j).2 ≠ some key) : lookO k key R = (0, false) := by unfold lookO; rw [lookR_none hn]
def GetPost (id : Int) (R : List TRow) (w : World) (e : Ending) (w' : World) : Prop := ∃ (p : Option Addr) (cap : Nat), e = .returned (.tuple #[.slice p (getO id R).1.length cap, .bool (getO id R).2]) ∧ RowAt w' p (getO id R).1 ∧ (getO id R).1.length * 32 ≤ 140737488355328 ∧ Below w.heap.size w w'

set_option maxHeartbeats 1000000 in
theorem rget_any (T : Tab) (id : Int) (w : World) (hT : TabAt w T) :
    Calls Tryz.prog 29 #[T.v, .int .i64 id] w (GetPost id T.R w) := by
  obtain ⟨nm, pc, n, cc, f, nx, pr, cr, R⟩ := T
  obtain ⟨hnm, hn, hC, hR, hl, hz⟩ := hT
  unfold Tab.v GetPost
  dsimp only at *
  have HR := Lib.hid hR
  clear hC hR hz
  go_enter Tryz.func29, Tryz.ntmps29
  go_wp2_with fail
  go_loopw [11] (fun i v => ∃ k : Nat, k ≤ R.length ∧ i = .int .i64 k ∧ (∀ j, j < k → (tAt R j).1 ≠ id) ∧ Below w.heap.size w v) (fun i _ => R.length - (intOf i).toNat)
  case atStart => exact ⟨0, Nat.zero_le _, rfl, fun j hj => by omega, below_new (Below.refl _ _) _⟩
  case round =>
    obtain ⟨k, hk, rfl, ha, hb⟩ := hrel
    have HA := Lib.hid ha
    have HB := Lib.hid hb
    clear ha hb
    by_cases hlt : k < R.length
    · have hlt' : decide ((k : Int) < R.length) = true := decide_eq_true (by omega)
      obtain ⟨c, o, q, cp, rfl, hc, h0, h1, hr, hs, hqn⟩ := HR.out.low HB.out k hlt
      have HQ := Lib.hid hr
      have HN := Lib.hid hqn
      clear hr hqn
      cases he : ((tAt R k).1 == id)
      · have HE := Lib.hid (beq_eq_false_iff_ne.1 he)
        go_wp2
        go_roundw
        case rel => exact ⟨k + 1, by omega, by go_num, all_succ HA.out HE.out, below_new HB.out _⟩
        case measure => simp [intOf]; omega
      · have HE := Lib.hid (beq_iff_eq.1 he)
        go_wp2_with fail
        refine (rcopy_any (tAt R k).2 q cp _ (HQ.out.low (below_alloc _ _)) hs HN.out).mono ?_
        rintro e w2 ⟨v2, rfl, hin, hb2⟩
        obtain ⟨hv2, hr2, -⟩ := owned_shape hin.1
        have HR2 := Lib.hid hr2
        have HB2 := Lib.hid (below_next (below_new HB.out _) hb2)
        have HG := Lib.hid (getO_hit hlt HE.out HA.out)
        have HV := Lib.hid hv2
        clear hin hb2 hr2 h0 h1 hc hv2
        go_wp2
        go_ret2
        rw [HG.out]
        exact ⟨_, _, by rw [HV.out]; rfl, HR2.out, hs, HB2.out⟩
    · have hlt' : decide ((k : Int) < R.length) = false := decide_eq_false (by omega)
      obtain rfl : k = R.length := by omega
      have HG := Lib.hid (getO_none HA.out)
      go_wp2
      go_ret2
      rw [HG.out]
      exact ⟨none, 0, rfl, fun i hi => by simp at hi, by simp, HB.out⟩
theorem heads_add {u : World} {xs : List Value} {L : List (List Val)} {l : List Val} {q : Option Addr} {cp : Nat} (h : HeadsAt u xs L) (hr : RowAt u q l) (hs : l.length * 32 ≤ 140737488355328) (hn : q = none → l = [] ∧ cp = 0) : HeadsAt u (xs ++ [.slice q l.length cp]) (L ++ [l]) := by
  refine h.append ⟨rfl, fun i hi => ?_⟩
  have h0 : i = 0 := by simpa using hi
  subst h0
  exact ⟨q, cp, rfl, hr, hs, hn⟩
theorem bag_take {R : List TRow} {k : Nat} (h : k < R.length) : (R.take (k + 1)).map (·.2) = (R.take k).map (·.2) ++ [(tAt R k).2] := by rw [take_trow h, List.map_append]; rfl
theorem head_news (u : World) (o : Obj) (x : Value) : ∀ j y, ([x] : List Value)[j]? = some y → ((u.alloc o).alloc (.cells #[x] 56)).cell? ((⟨u.heap.size + 1, 0, none⟩ : Addr).add j) = some y := by
  have := one_news (u.alloc o) x
  rw [size_alloc] at this
  exact this
end Go.Proofs.YtlnbpobipmejfaaGreatDoor
/-
  Tables: Lookup of the reference.
-/
namespace Go.Proofs.YtlnbpobipmejfaaGreatDoor
set_option maxRecDepth 100000
open Go.RowKit
variable {ls : List Nat}

theorem row2_new (w : World) (x y : Value) (t : TypeId) : (w.alloc (.cells #[x, y] t)).cell? ⟨w.heap.size, 0, none⟩ = some x ∧ (w.alloc (.cells #[x, y] t)).cell? ⟨w.heap.size, 1, none⟩ = some y := by
  constructor <;> go_simp
theorem keyV_ne {k : Nat} {l : List Val} {key : Val} (h : k < l.length) (hs : sameV (vAt l k).1 (vAt l k).2.1 (vAt l k).2.2 key.1 key.2.1 key.2.2 = false) : keyV k l ≠ some key := by
  rw [keyV_some h]
  intro he
  have e := Option.some.inj he
  rw [← e, same_vals.2 rfl] at hs
  cases hs
theorem keyV_eq {k : Nat} {l : List Val} {key : Val} (h : k < l.length) (hs : sameV (vAt l k).1 (vAt l k).2.1 (vAt l k).2.2 key.1 key.2.1 key.2.2 = true) : keyV k l = some key := by
  rw [keyV_some h, same_vals.1 hs]
theorem drewN_low {B : Nat} {a w : World} (h : Below B a w) (n : Nat) : Below B a (w.drewN n) := ⟨h.os, h.tape, h.output, h.size, h.block⟩
end Go.Proofs.YtlnbpobipmejfaaGreatDoor
/-
  Tables: Duplicate of the reference.
-/
namespace Go.Proofs.YtlnbpobipmejfaaGreatDoor
set_option maxRecDepth 100000
open Go.RowKit
variable {ls : List Nat}

theorem wpList_look_seen {w : World} {ops : Array Oper} {rest : List Oper} {o : Oper} {a : Act} {Q : Exit → Act → World → Prop} (hg : o.guard = none) (m x : Operand) (t : TypeId) (hop : o.op = Op.lookup t m x false) (ht : Tryz.prog.underlying t = some (.map 55 4))
    (b : Nat) (S : List Val) (hm : a.eval m = .map (some b)) (hs : SeenAt w b S) (v : Val) (hx : a.eval x = valV v) (h : wpList Tryz.prog ops Q rest (a.put o.dst (.bool (seenB v S))) w) : wpList Tryz.prog ops Q (o :: rest) a w := by
  refine wpList_plain hg fun K' hK' => ?_
  have hrun := hs.look v t ht
  unfold Oper.wp
  simp [execOp, hop, hm, hx, hrun, Result.andThen]
  exact hK' _ _ h
theorem wpList_put_seen {w : World} {ops : Array Oper} {rest : List Oper} {o : Oper} {a : Act} {Q : Exit → Act → World → Prop} (hg : o.guard = none) (m x y : Operand) (t : TypeId) (hop : o.op = Op.mapUpdate t m x y) (ht : Tryz.prog.underlying t = some (.map 55 4))
    (b : Nat) (S : List Val) (hm : a.eval m = .map (some b)) (hs : SeenAt w b S) (v : Val) (hx : a.eval x = valV v) (hy : a.eval y = .bool true) (hn : v ∉ S) (h : ∀ w', SeenAt w' b (S ++ [v]) → w.grownBy w' (some b) → wpList Tryz.prog ops Q rest (a.put o.dst undef) w') : wpList Tryz.prog ops Q (o :: rest) a w := by
  refine wpList_plain hg fun K' hK' => ?_
  obtain ⟨w', hrun, h1, h2⟩ := hs.put v hn t ht
  unfold Oper.wp
  simp [execOp, hop, hm, hx, hy, hrun, Result.andThen]
  exact hK' _ _ (h w' h1 h2)
theorem size_map (w : World) : (w.alloc (.map #[] 0)).heap.size = w.heap.size + 1 := by simp
set_option maxHeartbeats 2000000 in
theorem rdup_any (T : Tab) (w : World) (hT : TabAt w T) :
    Calls Tryz.prog 51 #[T.v] w fun e w' => e = .returned (.bool (dupR T.key T.R)) ∧ Below w.heap.size w w' := by
  obtain ⟨nm, pc, n, cc, f, nx, pr, cr, R⟩ := T
  obtain ⟨hnm, hn, hC, hR, hl, hz⟩ := hT
  unfold Tab.v Tab.key
  dsimp only at *
  have HR := Lib.hid hR
  have hb0 : Below w.heap.size w (w.alloc (.cells #[.string nm, .slice pc n cc, .int .i64 nx, .slice pr R.length cr] 34)) := below_new (Below.refl _ _) _
  have HC := Lib.hid (hC.low hb0)
  have HX := Lib.hid (cell4_new w (.string nm) (.slice pc n cc) (.int .i64 nx) (.slice pr R.length cr) 34)
  have HB0 := Lib.hid hb0
  clear hC hR hz hb0
  obtain ⟨kk, hkk⟩ : ∃ kk, findKey f n = kk := ⟨_, rfl⟩
  rw [hkk]
  have HKK := Lib.hid hkk
  clear hkk
  go_enter Tryz.func51, Tryz.ntmps51
  go_wp2_with fail
  refine (rkeycol_any nm pc n cc f _ hn HC.out).mono ?_
  rintro e w1 ⟨rfl, hb1⟩
  have hx := HX.out.low hb1
  have hB1 := below_next HB0.out hb1
  have HS0 := Lib.hid (SeenAt.new w1)
  have HB1 := Lib.hid (below_new hB1 (.map #[] 0))
  obtain ⟨hxl, x0, x1, x2, x3, -⟩ := hx.low (below_alloc w1 (.map #[] 0))
  have HM : Hid (w.heap.size ≤ w1.heap.size) := Lib.hid hB1.size
  clear HC HX HB0 hb1 hx hB1
  rw [HKK.out]
  clear HKK
  have hmk := run_makeMap (P := Tryz.prog) (w := w1) 106
  go_wp2_with fail
  generalize w1.alloc (.map #[] 0) = W1 at HS0 HB1 hxl x0 x1 x2 x3 ⊢
  generalize hM : w1.heap.size = M at HS0 HM ⊢
  clear hM hmk
  go_wp2_with fail
  go_loopw [14] (fun i v => ∃ k : Nat, k ≤ R.length ∧ i = .int .i64 k ∧ SeenAt v M (keysR kk (R.take k)) ∧ (keysR kk (R.take k)).Nodup ∧ Below w.heap.size w v) (fun i _ => R.length - (intOf i).toNat)
  case atStart => exact ⟨0, Nat.zero_le _, rfl, HS0.out, List.nodup_nil, HB1.out⟩
  clear HB1 HS0 x0 x1 x2 x3 hxl
  case round =>
    obtain ⟨k, hk, rfl, hs, hd, hb⟩ := hrel
    have HS := Lib.hid hs
    have HD := Lib.hid hd
    have HB := Lib.hid hb
    clear hs hd hb
    by_cases hlt : k < R.length
    · have hlt' : decide ((k : Int) < R.length) = true := decide_eq_true (by omega)
      obtain ⟨c, o, q, cp, rfl, hc, h0, h1, hr, hs, hqn⟩ := HR.out.low HB.out k hlt
      have HQ := Lib.hid hr
      clear hr hqn
      have hbn := below_alloc wr (.cells #[.int .i64 (tAt R k).1, .slice q (tAt R k).2.length cp] 58)
      have HB2 := Lib.hid (below_next HB.out hbn)
      have HS2 := Lib.hid (HS.out.low hbn)
      have HQ2 := Lib.hid (HQ.out.low hbn)
      clear HB HS HQ hbn
      by_cases hneg : kk < 0
      · have g1 : decide ((0 : Int) ≤ kk) = false := decide_eq_false (by omega)
        have HE := Lib.hid (keysR_none hlt (keyV_neg (l := (tAt R k).2) hneg))
        go_wp2
        go_roundw
        case rel => exact ⟨k + 1, by omega, by go_num, by rw [HE.out]; exact HS2.out, by rw [HE.out]; exact HD.out, HB2.out⟩
        case measure => simp [intOf]; omega
      · obtain ⟨K, rfl⟩ : ∃ K : Nat, kk = K := ⟨kk.toNat, by omega⟩
        have g1 : decide ((0 : Int) ≤ (K : Int)) = true := decide_eq_true (by omega)
        by_cases hlen : K < (tAt R k).2.length
        · have g2 : decide ((K : Int) < ((tAt R k).2.length : Int)) = true := decide_eq_true (by omega)
          have hkI : (K : Int) < ((tAt R k).2.length : Int) := by omega
          have hKV := keyV_some hlen
          have HKV := Lib.hid hKV
          clear hKV
          obtain ⟨c2, o2, rfl, hc2, v0, v1, v2⟩ := HQ2.out K hlen
          obtain ⟨r0, r1⟩ := row2_new wr (.int .i64 (tAt R k).1) (.slice (some ⟨c2, o2, none⟩) (tAt R k).2.length cp) 58
          cases hseen : seenB (vAt (tAt R k).2 K) (keysR (K : Int) (R.take k))
          · have HNS : Hid (¬ vAt (tAt R k).2 K ∈ keysR (K : Int) (R.take k)) := Lib.hid (fun hm => Bool.false_ne_true (hseen.symm.trans (seenB_iff.2 hm)))
            have HE : Hid (keysR (K : Int) (R.take (k + 1)) = keysR (K : Int) (R.take k) ++ [vAt (tAt R k).2 K]) := Lib.hid (by rw [keysR_take hlt, HKV.out]; rfl)
            go_wp2_with (first | (at_lookup; refine wpList_look_seen rfl (.tmp 27) (.tmp 32) 106 rfl Tryz.underlying106 M _ rfl HS2.out (vAt (tAt R k).2 K) (by rfl) ?_; rw [hseen]) | (at_mapUpdate; refine wpList_put_seen rfl (.tmp 34) (.tmp 39) (.const (.bool true)) 106 rfl Tryz.underlying106 M _ rfl HS2.out (vAt (tAt R k).2 K) (by rfl) rfl HNS.out ?_; intro w5 hs5 hg5; (have HS5 := Lib.hid hs5); (have HB5 := Lib.hid (HB2.out.grown hg5 HB2.out.size (fun j hj => by cases hj; exact HM.out))); clear hs5 hg5))
            go_roundw
            case rel => exact ⟨k + 1, by omega, by go_num, by rw [HE.out]; exact HS5.out, nodup_step hlt HKV.out HD.out HNS.out, HB5.out⟩
            case measure => simp [intOf]; omega
          · have HDUP := Lib.hid (dupR_yes hlt HKV.out (seenB_iff.1 hseen))
            go_wp2_with (at_lookup; refine wpList_look_seen rfl (.tmp 27) (.tmp 32) 106 rfl Tryz.underlying106 M _ rfl HS2.out (vAt (tAt R k).2 K) (by rfl) ?_; rw [hseen])
            go_ret
            exact ⟨ret_b HDUP.out.symm, HB2.out⟩
        · have g2 : decide ((K : Int) < ((tAt R k).2.length : Int)) = false := decide_eq_false (by omega)
          have HE := Lib.hid (keysR_none hlt (keyV_long (k := K) (l := (tAt R k).2) (by omega)))
          go_wp2
          go_roundw
          case rel => exact ⟨k + 1, by omega, by go_num, by rw [HE.out]; exact HS2.out, by rw [HE.out]; exact HD.out, HB2.out⟩
          case measure => simp [intOf]; omega
    · have hlt' : decide ((k : Int) < R.length) = false := decide_eq_false (by omega)
      obtain rfl : k = R.length := by omega
      have HE : Hid (dupR kk R = false) := Lib.hid (dupR_no (by have := HD.out; rw [List.take_length] at this; exact this))
      go_wp2
      go_ret
      exact ⟨ret_b HE.out.symm, HB.out⟩
end Go.Proofs.YtlnbpobipmejfaaGreatDoor
/-
  Valid of schemas, of the program and of the reference.
-/
namespace Go.Proofs.YtlnbpobipmejfaaGreatDoor
set_option maxRecDepth 100000
open Go.RowKit
variable {ls : List Nat}

set_option maxHeartbeats 400000 in
theorem validType_any (t : Int) (w : World) : Calls Tryz.prog 95 #[.int .i64 t] w fun e w' => e = .returned (.bool (tyOK t)) ∧ w = w' := by
  by_cases h1 : t = 1
  · subst h1
    go_enter Tryz.func95, Tryz.ntmps95
    go_wp2
    go_ret
    exact ⟨rfl, rfl⟩
  by_cases h2 : t = 2
  · subst h2
    go_enter Tryz.func95, Tryz.ntmps95
    go_wp2
    go_ret
    exact ⟨rfl, rfl⟩
  by_cases h3 : t = 3
  · subst h3
    go_enter Tryz.func95, Tryz.ntmps95
    go_wp2
    go_ret
    exact ⟨rfl, rfl⟩
  have e1 : (t == 1) = false := beq_eq_false_iff_ne.2 h1
  have e2 : (t == 2) = false := beq_eq_false_iff_ne.2 h2
  have e3 : (t == 3) = false := beq_eq_false_iff_ne.2 h3
  have HT : Hid (tyOK t = false) := Lib.hid (decide_eq_false (by omega))
  clear h1 h2 h3
  go_enter Tryz.func95, Tryz.ntmps95
  go_wp2
  go_ret
  exact ⟨ret_b HT.out.symm, rfl⟩

theorem validType_eq {t : Int} {b : Bool} (h : tyOK t = b) (w : World) : Calls Tryz.prog 95 #[.int .i64 t] w fun e w' => e = .returned (.bool b) ∧ w = w' := by
  subst h; exact validType_any t w
theorem validName_eq {s : ByteArray} {b : Bool} (hs : s.size ≤ 9223372036854775807) (h : nameOK s = b) (w : World) : Calls Tryz.prog 78 #[.string s] w fun e w' => e = .returned (.bool b) ∧ Below w.heap.size w w' := by
  subst h; exact validName_any s w hs
theorem rvalidName_eq {s : ByteArray} {b : Bool} (hs : s.size ≤ 9223372036854775807) (h : nameOK s = b) (w : World) : Calls Tryz.prog 71 #[.string s] w fun e w' => e = .returned (.bool b) ∧ w = w' := by
  subst h; exact rvalidName_any s w hs
set_option maxHeartbeats 1000000 in
theorem validColumn_any (c : Col) (w : World) (hs : c.nm.size ≤ 9223372036854775807) :
    Calls Tryz.prog 80 #[colV c] w fun e w' => e = .returned (.bool (colOK c)) ∧ Below w.heap.size w w' := by
  unfold colV
  obtain ⟨nm, ty, nn, key⟩ := c
  cases hn : nameOK nm
  · have HN := Lib.hid hn
    clear hn
    go_enter Tryz.func80, Tryz.ntmps80
    go_wp2_with fail
    refine (validName_eq hs HN.out _).mono ?_
    rintro e w1 ⟨rfl, hb⟩
    obtain ⟨⟨hz, c0, c1, c2, c3, fz⟩, hb'⟩ := four_one hb
    have HB := Lib.hid hb'
    clear hb hb'
    go_wp2
    go_ret
    exact ⟨ret_b (colOK_name HN.out).symm, HB.out⟩
  cases ht : tyOK ty
  · have HN := Lib.hid hn
    have HT := Lib.hid ht
    clear hn ht
    go_enter Tryz.func80, Tryz.ntmps80
    go_wp2_with fail
    refine (validName_eq hs HN.out _).mono ?_
    rintro e w1 ⟨rfl, hb⟩
    obtain ⟨⟨hz, c0, c1, c2, c3, fz⟩, hb'⟩ := four_one hb
    have HB := Lib.hid hb'
    clear hb hb'
    go_wp2_with fail
    refine (validType_eq HT.out _).mono ?_
    rintro e w2 ⟨rfl, rfl⟩
    go_wp2
    go_ret
    exact ⟨ret_b (by unfold colOK; simp only [HN.out, HT.out]; rfl), HB.out⟩
  have HN := Lib.hid hn
  have HT := Lib.hid ht
  clear hn ht
  cases nn
  · go_enter Tryz.func80, Tryz.ntmps80
    go_wp2_with fail
    refine (validName_eq hs HN.out _).mono ?_
    rintro e w1 ⟨rfl, hb⟩
    obtain ⟨⟨hz, c0, c1, c2, c3, fz⟩, hb'⟩ := four_one hb
    have HB := Lib.hid hb'
    clear hb hb'
    go_wp2_with fail
    refine (validType_eq HT.out _).mono ?_
    rintro e w2 ⟨rfl, rfl⟩
    go_wp2
    go_ret
    exact ⟨ret_b (by unfold colOK; simp only [HN.out, HT.out]; cases key <;> rfl), HB.out⟩
  · go_enter Tryz.func80, Tryz.ntmps80
    go_wp2_with fail
    refine (validName_eq hs HN.out _).mono ?_
    rintro e w1 ⟨rfl, hb⟩
    obtain ⟨⟨hz, c0, c1, c2, c3, fz⟩, hb'⟩ := four_one hb
    have HB := Lib.hid hb'
    clear hb hb'
    go_wp2_with fail
    refine (validType_eq HT.out _).mono ?_
    rintro e w2 ⟨rfl, rfl⟩
    go_wp2
    go_ret
    exact ⟨ret_b (by unfold colOK; simp only [HN.out, HT.out]; cases key <;> rfl), HB.out⟩
theorem validColumn_eq (c : Col) {b : Bool} (hs : c.nm.size ≤ 9223372036854775807) (h : colOK c = b) (w : World) : Calls Tryz.prog 80 #[colV c] w fun e w' => e = .returned (.bool b) ∧ Below w.heap.size w w' := by
  subst h; exact validColumn_any c w hs
set_option maxHeartbeats 2000000 in
theorem svalid_any (nm : ByteArray) (p : Option Addr) (n cap : Nat) (f : Nat → Col) (w : World) (hs : nm.size ≤ 9223372036854775807) (hn : n ≤ 9223372036854775807) (hC : ColsAt w p n f) :
    Calls Tryz.prog 62 #[.agg #[.string nm, .slice p n cap]] w fun e w' => e = .returned (.bool (schemaOK nm n f)) ∧ Below w.heap.size w w' := by
  have HC := Lib.hid hC
  clear hC
  cases hnm : nameOK nm
  · have HN := Lib.hid hnm
    clear hnm
    go_enter Tryz.func62, Tryz.ntmps62
    go_wp2_with fail
    refine (validName_eq hs HN.out _).mono ?_
    rintro e w1 ⟨rfl, hb⟩
    obtain ⟨⟨hz, c0, c1, fz⟩, hb'⟩ := two_one hb
    have HB := Lib.hid hb'
    clear hb hb'
    go_wp2
    go_ret
    exact ⟨ret_b (schemaOK_name HN.out).symm, HB.out⟩
  have HN := Lib.hid hnm
  clear hnm
  by_cases h1 : n < 1
  · have e0 : ((n : Int) == 0) = true := beq_iff_eq.2 (by omega)
    have H1 := Lib.hid h1
    clear h1
    go_enter Tryz.func62, Tryz.ntmps62
    go_wp2_with fail
    refine (validName_eq hs HN.out _).mono ?_
    rintro e w1 ⟨rfl, hb⟩
    obtain ⟨⟨hz, c0, c1, fz⟩, hb'⟩ := two_one hb
    have HB := Lib.hid hb'
    clear hb hb'
    go_wp2
    go_ret
    exact ⟨ret_b (schemaOK_len (.inl H1.out)).symm, HB.out⟩
  have e0 : ((n : Int) == 0) = false := beq_eq_false_iff_ne.2 (by omega)
  by_cases h6 : 6 < n
  · have e6 : decide ((6 : Int) < n) = true := decide_eq_true (by omega)
    have H1 := Lib.hid h6
    clear h6 h1
    go_enter Tryz.func62, Tryz.ntmps62
    go_wp2_with fail
    refine (validName_eq hs HN.out _).mono ?_
    rintro e w1 ⟨rfl, hb⟩
    obtain ⟨⟨hz, c0, c1, fz⟩, hb'⟩ := two_one hb
    have HB := Lib.hid hb'
    clear hb hb'
    go_wp2
    go_ret
    exact ⟨ret_b (schemaOK_len (.inr H1.out)).symm, HB.out⟩
  have e6 : decide ((6 : Int) < n) = false := decide_eq_false (by omega)
  have H1 : Hid (1 ≤ n) := Lib.hid (by omega)
  have H6 : Hid (n ≤ 6) := Lib.hid (by omega)
  clear h1 h6
  · skip
    go_enter Tryz.func62, Tryz.ntmps62
    go_wp2_with fail
    refine (validName_eq hs HN.out _).mono ?_
    rintro e w1 ⟨rfl, hb⟩
    obtain ⟨⟨hz, c0, c1, fz⟩, hb'⟩ := two_one hb
    have HB := Lib.hid hb'
    clear hb hb'
    go_wp2_with fail
    refine (keycol_any nm p n cap f _ hn (HC.out.low HB.out)).mono ?_
    rintro e w2 ⟨rfl, hb2⟩
    have HB2 := Lib.hid (below_next HB.out hb2)
    obtain ⟨dz, d0, d1, dfz⟩ := Cell2.low ⟨hz, c0, c1, fz⟩ hb2
    clear hb2 HB hz c0 c1 fz
    go_wp2_with fail
    go_loopw [27] (fun i v => ∃ k : Nat, k ≤ n ∧ i = .int .i64 k ∧ (∀ i, i < k → Good f i) ∧ Below w.heap.size w v ∧ Cell2 v w.heap.size (.string nm) (.slice p n cap)) (fun i _ => n - (intOf i).toNat)
    case atStart => exact ⟨0, Nat.zero_le _, rfl, fun j hj => by omega, HB2.out, ⟨dz, d0, d1, dfz⟩⟩
    clear HB2 dz d0 d1 dfz
    case round =>
      obtain ⟨k, hk, rfl, ha, hb, hq⟩ := hrel
      have HA := Lib.hid ha
      have HB := Lib.hid hb
      clear ha hb
      by_cases hlt : k < n
      · have hlt' : decide ((k : Int) < n) = true := decide_eq_true (by omega)
        obtain ⟨c, o, rfl, hc, hnm, h0, h1, h2, h3⟩ := HC.out.low HB.out k hlt
        cases hcol : colOK (f k)
        · have HK := Lib.hid hcol
          clear hcol
          go_wp2_with fail
          refine (validColumn_eq (f k) hnm HK.out _).mono ?_
          rintro e v1 ⟨rfl, hb1⟩
          have HB1 := Lib.hid (below_next HB.out (Below.of_alloc hb1))
          clear hb1
          go_wp2
          go_ret
          exact ⟨ret_b (schemaOK_bad hlt (bad_col HK.out)).symm, HB1.out⟩
        have HK := Lib.hid hcol
        clear hcol
        go_wp2_with fail
        refine (validColumn_eq (f k) hnm HK.out _).mono ?_
        rintro e v1 ⟨rfl, hb1⟩
        obtain ⟨⟨qz, q0, q1, q2, q3, qf⟩, hb2⟩ := four_one hb1
        have HB1 := Lib.hid (below_next HB.out hb2)
        have HQ1 := Lib.hid (hq.low hb2)
        obtain ⟨rz, r0, r1, rf⟩ := hq.low hb2
        clear hq hb1 hb2 h0 h1 h2 h3
        go_wp2_with fail
        refine (find_any nm (f k).nm _ n cap f _ hn (HC.out.low HB1.out)).mono ?_
        rintro e v2 ⟨rfl, hb3⟩
        obtain ⟨sz, s0, s1, s2, s3, sf⟩ := Cell4.low ⟨qz, q0, q1, q2, q3, qf⟩ hb3
        have HB2 := Lib.hid (below_next HB1.out hb3)
        have HQ2 := Lib.hid (HQ1.out.low hb3)
        clear hb3 qz q0 q1 q2 q3 qf rz r0 r1 rf HB1 HQ1
        cases hfd : (findName f n (f k).nm == (k : Int))
        · have HF := Lib.hid hfd
          have hne := beq_eq_false_iff_ne.1 hfd
          have hne' := fun h => hne (Eq.symm h)
          clear s1 s2 s3
          go_wp2
          go_ret
          exact ⟨ret_b (schemaOK_bad hlt (bad_find hlt HF.out)).symm, HB2.out⟩
        have HF := Lib.hid hfd
        rw [beq_iff_eq.1 hfd]
        clear hfd
        cases hkey : (f k).key
        · have HY := Lib.hid hkey
          rw [hkey] at s3
          clear hkey
          go_wp2
          go_roundw
          case rel => exact ⟨k + 1, by omega, by go_num, all_succ HA.out (is_good hlt HK.out HF.out (fun h => by rw [HY.out] at h; cases h)), HB2.out, HQ2.out⟩
          case measure => simp [intOf]; omega
        · have HY := Lib.hid hkey
          rw [hkey] at s3
          clear hkey
          cases hkk : (findKey f n == (k : Int))
          · have HW := Lib.hid hkk
            go_wp2
            go_ret
            exact ⟨ret_b (schemaOK_bad hlt (bad_key hlt HY.out HW.out)).symm, HB2.out⟩
          · have HW := Lib.hid hkk
            go_wp2
            go_roundw
            case rel => exact ⟨k + 1, by omega, by go_num, all_succ HA.out (is_good hlt HK.out HF.out (fun _ => HW.out)), HB2.out, HQ2.out⟩
            case measure => simp [intOf]; omega
      · have hlt' : decide ((k : Int) < n) = false := decide_eq_false (by omega)
        obtain rfl : k = n := by omega
        go_wp2
        go_ret
        exact ⟨ret_b (schemaOK_yes HN.out H1.out H6.out HA.out).symm, HB.out⟩
end Go.Proofs.YtlnbpobipmejfaaGreatDoor
