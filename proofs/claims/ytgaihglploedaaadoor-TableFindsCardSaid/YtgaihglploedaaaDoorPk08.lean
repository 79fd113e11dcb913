/-
  Several texts in one.
-/
import Derived.Test.YtgaihglploedaaaDoorPk07
import Derived.Deep.QuietTactic
import Derived.BigQuiet
import Derived.Deep.RegionHeld3
import Derived.Test.YtgaihglploedaaaDoorPk05
/-
  Minus of the reference.
-/
namespace Go.Proofs.YtgaihglploedaaaDoor
set_option maxRecDepth 100000
open Go.RowKit
variable {ls : List Nat}

theorem mrg_skip {t u : List Val} {x y : List (List Val)} (h : cmpRow u t < 0) : mrg (t :: x) (u :: y) = mrg (t :: x) y := by
  rw [mrg, mrg, List.dropWhile_cons, if_pos (by simpa using h)]
theorem mrg_hit {t u : List Val} {x y : List (List Val)} (h : cmpRow u t = 0) : mrg (t :: x) (u :: y) = mrg x y := by
  rw [mrg, List.dropWhile_cons, if_neg (by simp; omega)]
  simp only [if_pos h]
theorem mrg_keep {t u : List Val} {x y : List (List Val)} (h : ¬ cmpRow u t < 0) (h0 : ¬ cmpRow u t = 0) : mrg (t :: x) (u :: y) = t :: mrg x (u :: y) := by
  rw [mrg, List.dropWhile_cons, if_neg (by simpa using h)]
  simp only [if_neg h0]
theorem mrg_end {t : List Val} {x : List (List Val)} : mrg (t :: x) [] = t :: mrg x [] := by rw [mrg]; rfl

/-- The rows that are kept, and the two sorted lists. -/
structure MinAt (w w2 v : World) (vo : Value) (G : List (Value × List Val)) (px : Option Addr) (cx : Nat) (Gx : List (Value × List Val)) (py : Option Addr) (cy : Nat) (Gy : List (Value × List Val)) : Prop where
  own : v.ownsRow w2.heap.size 25 1 vo G.length (G.map (·.1))
  inn : ∀ z ∈ G, InRow v w.heap.size z
  x : Rows2 v w.heap.size (.slice px Gx.length cx) Gx
  y : Rows2 v w.heap.size (.slice py Gy.length cy) Gy
  xb : ∀ k, (Value.slice px Gx.length cx).ownBlock = some k → k < w2.heap.size
  yb : ∀ k, (Value.slice py Gy.length cy).ownBlock = some k → k < w2.heap.size
  low : Below w.heap.size w v
  sz : w2.heap.size ≤ v.heap.size
  ww : w.heap.size ≤ w2.heap.size
theorem MinAt.keep {w w2 u v : World} {vo : Value} {G : List (Value × List Val)} {px : Option Addr} {cx : Nat} {Gx : List (Value × List Val)} {py : Option Addr} {cy : Nat} {Gy : List (Value × List Val)} (h : MinAt w w2 u vo G px cx Gx py cy Gy) (hb : Below u.heap.size u v) : MinAt w w2 v vo G px cx Gx py cy Gy :=
  ⟨owns_below h.own hb, fun z hz => (h.inn z hz).low hb, h.x.low hb, h.y.low hb, h.xb, h.yb, below_next h.low hb, Nat.le_trans h.sz hb.size, h.ww⟩
theorem Rows2.beside {u v : World} {base B n : Nat} {vo vx : Value} {xs : List Value} {G : List (Value × List Val)} (h : Rows2 u base vx G) (ho : u.ownsRow B 25 1 vo n xs) (hg : u.grownBy v vo.ownBlock) (hx : ∀ k, vx.ownBlock = some k → k < B) : Rows2 v base vx G :=
  ⟨owns_keep h.1 fun k hk => hg.block k (owns_lt h.1 k hk) (fun e => by have := (ho.lt k e.symm).1; have := hx k hk; omega), fun z hz => (h.2 z hz).apart ho fun k hk hne => hg.block k hk (fun e => hne e.symm)⟩
theorem MinAt.add {w w2 v w8 : World} {vo v8 : Value} {G : List (Value × List Val)} {px : Option Addr} {cx : Nat} {Gx : List (Value × List Val)} {py : Option Addr} {cy : Nat} {Gy : List (Value × List Val)} {o : Obj} {z : Value × List Val} (h : MinAt w w2 v vo G px cx Gx py cy Gy) (hz : z ∈ Gx)
    (ho : w8.ownsRow w2.heap.size 25 1 v8 (G.length + 1) (G.map (·.1) ++ [z.1])) (hg : (v.alloc o).grownBy w8 vo.ownBlock) : MinAt w w2 w8 v8 (G ++ [z]) px cx Gx py cy Gy := by
  have h7 := h.keep (below_alloc v o)
  have hin : ∀ b q, InRow (v.alloc o) b q → InRow w8 b q := fun b q hq => hq.apart h7.own fun k hk hne => hg.block k hk (fun e => hne e.symm)
  refine ⟨by simpa using ho, fun q hq => ?_, h7.x.beside h7.own hg h.xb, h7.y.beside h7.own hg h.yb, h.xb, h.yb, ?_, Nat.le_trans h7.sz hg.size, h.ww⟩
  · rcases List.mem_append.1 hq with hq | hq
    · exact hin _ _ (h7.inn q hq)
    · obtain rfl := List.mem_singleton.1 hq
      exact hin _ _ (h7.x.2 q hz)
  · refine h7.low.grown hg h7.low.size (fun k hk => ?_)
    have := (h7.own.lt k hk).1
    have := h.ww
    omega
theorem one_news (v : World) (x : Value) : ∀ j u, ([x] : List Value)[j]? = some u → (v.alloc (.cells #[x] 25)).cell? ((⟨v.heap.size, 0, none⟩ : Addr).add j) = some u := by
  intro j u hj
  have : j = 0 := by have := (List.getElem?_eq_some_iff.1 hj).1; simp at this; omega
  subst this
  obtain rfl := Option.some.inj hj
  show (v.alloc _).cell? ⟨v.heap.size, 0, none⟩ = _
  go_simp
theorem gAt_mem {G : List (Value × List Val)} {i : Nat} (hi : i < G.length) : gAt G i ∈ G := by unfold gAt; rw [List.getD, List.getElem?_eq_getElem hi]; exact List.getElem_mem hi
theorem own_size {u : World} {base n size : Nat} {e : TypeId} {v : Value} {xs : List Value} (h : u.ownsRow base e size v n xs) : ∀ k, v.ownBlock = some k → k < u.heap.size := fun k hk => (h.lt k hk).2

def MinusPost (A B : List (List Val)) (w : World) (e : Ending) (w' : World) : Prop := ∃ (p : Option Addr) (cap : Nat), e = .returned (.slice p (minR A B).length cap) ∧ RowsAt w' p (minR A B) ∧ Below w.heap.size w w'
set_option maxRecDepth 100000 in
set_option maxHeartbeats 2000000 in
theorem rminus_any (A B : List (List Val)) (p q : Option Addr) (ca cb : Nat) (w : World) (hA : A.length ≤ 1000) (hB : B.length ≤ 1000) (hp : RowsAt w p A) (hq : RowsAt w q B) :
    Calls Tryd.prog 25 #[.slice p A.length ca, .slice q B.length cb] w (MinusPost A B w) := by
  obtain ⟨i25, hi25, hz25, hs25, hb25⟩ := info_parts info_row
  have HP := Lib.hid hp
  have HQ := Lib.hid hq
  clear hp hq
  go_enter Tryd.func25, Tryd.ntmps25
  go_wp2_with fail
  refine (rsort_any A p ca _ hA HP.out).mono ?_
  rintro e w1 ⟨px, cx, Gx, rfl, hgx, hx, hb1⟩
  have HX := Lib.hid hx
  have HB1 := Lib.hid hb1
  have HGX := Lib.hid hgx
  clear hx hb1 hgx
  go_wp2_with fail
  refine (rsort_any B q cb _ hB (HQ.out.low HB1.out)).mono ?_
  rintro e w2 ⟨py, cy, Gy, rfl, hgy, hy, hb2⟩
  have hlx : Gx.length = A.length := by have := congrArg List.length HGX.out; rw [List.length_map, srt_length] at this; exact this
  have hly : Gy.length = B.length := by have := congrArg List.length hgy; rw [List.length_map, srt_length] at this; exact this
  have HGY := Lib.hid hgy
  have hM : MinAt w w2 w2 (.slice none 0 0) [] px cx Gx py cy Gy := ⟨⟨rfl, Or.inl ⟨rfl, rfl⟩⟩, (fun z hz => by cases hz), HX.out.low hb2, ⟨owns_base hy.1 HB1.out.size, fun z hz => ⟨owns_base (hy.2 z hz).1 HB1.out.size, (hy.2 z hz).2⟩⟩, fun k hk => Nat.lt_of_lt_of_le (own_size HX.out.1 k hk) hb2.size, own_size hy.1, below_next HB1.out hb2, Nat.le_refl _, Nat.le_trans HB1.out.size hb2.size⟩
  have HM := Lib.hid hM
  rw [← hlx, ← hly]
  rw [← hlx] at hA
  rw [← hly] at hB
  clear hM hy hb2 hgy HX HB1 hlx hly HP HQ
  go_wp2_with fail
  go_loopw [7, 8, 17] (fun vo kk ii v => ∃ (i k : Nat) (G : List (Value × List Val)) (po : Option Addr) (co : Nat), i ≤ Gx.length ∧ G.length ≤ i ∧ vo = .slice po G.length co ∧ kk = .int .i64 k ∧ ii = .int .i64 i ∧ k ≤ Gy.length ∧ MinAt w w2 v (.slice po G.length co) G px cx Gx py cy Gy ∧ G.map (·.2) ++ mrg ((Gx.map (·.2)).drop i) ((Gy.map (·.2)).drop k) = minR A B) (fun _ _ ii _ => Gx.length - (intOf ii).toNat)
  case atStart => exact ⟨0, 0, [], none, 0, Nat.zero_le _, Nat.le_refl _, rfl, rfl, rfl, Nat.zero_le _, HM.out, by rw [HGX.out, HGY.out]; rfl⟩
  clear HM HGX HGY
  case round =>
    obtain ⟨i, k, G, po, co, hi, hgi, rfl, rfl, rfl, hk, hm, hmrg⟩ := hrel
    have HM := Lib.hid hm
    have HMRG0 := Lib.hid hmrg
    clear hm hmrg
    by_cases hlt : i < Gx.length
    · have hlt' : decide ((i : Int) < Gx.length) = true := decide_eq_true (by omega)
      obtain ⟨g, rfl, hgz, h0, -, -, hsx⟩ := HM.out.x.read i hlt
      have HMEM := Lib.hid (gAt_mem hlt)
      have HDX : Hid ((Gx.map (·.2)).drop i = (gAt Gx i).2 :: (Gx.map (·.2)).drop (i + 1)) := Lib.hid (by rw [gAt_row hlt]; exact drop_row (by rw [List.length_map]; exact hlt))
      go_wp2_with fail
      go_loopw [8] (fun kk v => ∃ k : Nat, kk = .int .i64 k ∧ k ≤ Gy.length ∧ MinAt w w2 v (.slice po G.length co) G (some ⟨g, 0, none⟩) cx Gx py cy Gy ∧ G.map (·.2) ++ mrg ((gAt Gx i).2 :: (Gx.map (·.2)).drop (i + 1)) ((Gy.map (·.2)).drop k) = minR A B) (fun kk _ => Gy.length - (intOf kk).toNat)
      case atStart => exact ⟨k, rfl, hk, HM.out, by rw [← HDX.out]; exact HMRG0.out⟩
      clear HM HMRG0 h0 hgz hk HDX
      case round =>
        obtain ⟨k, rfl, hk, hm, hmrg⟩ := hrel
        have HM := Lib.hid hm
        have HMRG := Lib.hid hmrg
        obtain ⟨-, -, -, -, hrx, -, -⟩ := hm.x.read i hlt
        have HRX := Lib.hid hrx
        clear hm hmrg hrx
        by_cases hky : k < Gy.length
        · have hky' : decide ((k : Int) < Gy.length) = true := decide_eq_true (by omega)
          obtain ⟨g2, rfl, hgz2, h02, hry, -, hsy⟩ := HM.out.y.read k hky
          have HRY := Lib.hid hry
          have HDY : Hid ((Gy.map (·.2)).drop k = (gAt Gy k).2 :: (Gy.map (·.2)).drop (k + 1)) := Lib.hid (by rw [gAt_row hky]; exact drop_row (by rw [List.length_map]; exact hky))
          clear hry
          go_wp2_with fail
          refine (rcomparerows_any _ _ (gAt Gy k).2 (gAt Gx i).2 _ _ _ (by omega) (by omega) HRY.out HRX.out).mono ?_
          rintro e v1 ⟨rfl, hb1⟩
          have HM1 := Lib.hid (HM.out.keep hb1)
          clear HM HRX HRY hb1 h02 hgz2
          cases hneg : decide (cmpRow (gAt Gy k).2 (gAt Gx i).2 < 0)
          · obtain ⟨-, -, -, -, hrx, -, -⟩ := HM1.out.x.read i hlt
            obtain ⟨g3, hg3, hgz3, h03, hry, -, -⟩ := HM1.out.y.read k hky
            obtain rfl : g2 = g3 := by cases hg3; rfl
            have HRX := Lib.hid hrx
            have HRY := Lib.hid hry
            have HNEG := Lib.hid (of_decide_eq_false hneg)
            clear hrx hry hg3
            go_wp2_with fail
            refine (rcomparerows_any _ _ (gAt Gy k).2 (gAt Gx i).2 _ _ _ (by omega) (by omega) HRY.out HRX.out).mono ?_
            rintro e v2 ⟨rfl, hb2⟩
            have HM := Lib.hid (HM1.out.keep hb2)
            clear HM1 HRX HRY hb2 h03 hgz3
            cases hz : (cmpRow (gAt Gy k).2 (gAt Gx i).2 == 0)
            · have HKEEP : Hid (mrg ((gAt Gx i).2 :: (Gx.map (·.2)).drop (i + 1)) ((Gy.map (·.2)).drop k) = (gAt Gx i).2 :: mrg ((Gx.map (·.2)).drop (i + 1)) ((Gy.map (·.2)).drop k)) := Lib.hid (by rw [HDY.out]; exact mrg_keep (by have := HNEG.out; omega) (beq_eq_false_iff_ne.1 hz))
              obtain ⟨hvx, -, -⟩ := owned_shape (HM.out.x.2 _ HMEM.out).1
              have HO7 := Lib.hid (HM.out.own.alloc (.cells #[.slice (rowP (gAt Gx i).1) (gAt Gx i).2.length (rowC (gAt Gx i).1)] 25))
              have HNEW := Lib.hid (one_news v2 (.slice (rowP (gAt Gx i).1) (gAt Gx i).2.length (rowC (gAt Gx i).1)))
              have HZ7 : Hid (w2.heap.size ≤ (v2.alloc (.cells #[.slice (rowP (gAt Gx i).1) (gAt Gx i).2.length (rowC (gAt Gx i).1)] 25)).heap.size) := Lib.hid (by rw [size_alloc]; have := HM.out.sz; omega)
              have HVX := Lib.hid hvx
              clear hvx
              go_wp2_with (at_builtin; refine wpList_append_lies _ rfl (.tmp 51) (.tmp 53) 39 rfl w2.heap.size 25 i25 _ 1 24 Tryd.underlying39 hi25 hz25 hs25 hb25 rfl (by decide) (.slice po G.length co) G.length (G.map (·.1)) (by rfl) HO7.out ⟨v2.heap.size, 0, none⟩ 1 1 [.slice (rowP (gAt Gx i).1) (gAt Gx i).2.length (rowC (gAt Gx i).1)] (by rfl) rfl HNEW.out (by intro u hu; obtain rfl := List.mem_singleton.1 hu; rfl) (by decide) (by unfold maxLen; omega) (by omega) HZ7.out _ rfl ?_; intro g8 c8 w8 hown8 hgr8 hat8 hlt8; rw [← HVX.out] at hown8; (have hM8 := HM.out.add HMEM.out hown8 hgr8); (have HM8 := Lib.hid hM8); clear hM8 hown8 hgr8 hat8)
              go_roundw
              case rel => exact ⟨i + 1, k, G ++ [gAt Gx i], some ⟨g8, 0, none⟩, c8, by omega, by rw [List.length_append, List.length_singleton]; omega, by rw [List.length_append]; rfl, rfl, by go_num, hk, by rw [List.length_append]; exact HM8.out, by rw [List.map_append, List.map_singleton, List.append_assoc, List.singleton_append, ← HKEEP.out]; exact HMRG.out⟩
              case measure => simp [intOf]; omega
            · have HMRG2 : Hid (G.map (·.2) ++ mrg ((Gx.map (·.2)).drop (i + 1)) ((Gy.map (·.2)).drop (k + 1)) = minR A B) := Lib.hid (by have h1 := HMRG.out; rw [HDY.out, mrg_hit (beq_iff_eq.1 hz)] at h1; exact h1)
              go_wp2
              go_roundw
              case rel => exact ⟨i + 1, k + 1, G, po, co, by omega, by omega, rfl, by go_num, by go_num, by omega, HM.out, HMRG2.out⟩
              case measure => simp [intOf]; omega
          · have HMRG2 : Hid (G.map (·.2) ++ mrg ((gAt Gx i).2 :: (Gx.map (·.2)).drop (i + 1)) ((Gy.map (·.2)).drop (k + 1)) = minR A B) := Lib.hid (by have h1 := HMRG.out; rw [HDY.out, mrg_skip (of_decide_eq_true hneg)] at h1; exact h1)
            go_wp2
            go_roundw
            case rel => exact ⟨k + 1, by go_num, by omega, HM1.out, HMRG2.out⟩
            case measure => simp [intOf]; omega
        · have hky' : decide ((k : Int) < Gy.length) = false := decide_eq_false (by omega)
          have HKEEP : Hid (mrg ((gAt Gx i).2 :: (Gx.map (·.2)).drop (i + 1)) ((Gy.map (·.2)).drop k) = (gAt Gx i).2 :: mrg ((Gx.map (·.2)).drop (i + 1)) ((Gy.map (·.2)).drop k)) := Lib.hid (by
            have e : (Gy.map (·.2)).drop k = [] := List.drop_eq_nil_of_le (by rw [List.length_map]; omega)
            rw [e]; exact mrg_end)
          obtain ⟨hvx, -, -⟩ := owned_shape (HM.out.x.2 _ HMEM.out).1
          have HO7 := Lib.hid (HM.out.own.alloc (.cells #[.slice (rowP (gAt Gx i).1) (gAt Gx i).2.length (rowC (gAt Gx i).1)] 25))
          have HNEW := Lib.hid (one_news wr (.slice (rowP (gAt Gx i).1) (gAt Gx i).2.length (rowC (gAt Gx i).1)))
          have HZ7 : Hid (w2.heap.size ≤ (wr.alloc (.cells #[.slice (rowP (gAt Gx i).1) (gAt Gx i).2.length (rowC (gAt Gx i).1)] 25)).heap.size) := Lib.hid (by rw [size_alloc]; have := HM.out.sz; omega)
          have HVX := Lib.hid hvx
          clear hvx
          go_wp2_with (at_builtin; refine wpList_append_lies _ rfl (.tmp 51) (.tmp 53) 39 rfl w2.heap.size 25 i25 _ 1 24 Tryd.underlying39 hi25 hz25 hs25 hb25 rfl (by decide) (.slice po G.length co) G.length (G.map (·.1)) (by rfl) HO7.out ⟨wr.heap.size, 0, none⟩ 1 1 [.slice (rowP (gAt Gx i).1) (gAt Gx i).2.length (rowC (gAt Gx i).1)] (by rfl) rfl HNEW.out (by intro u hu; obtain rfl := List.mem_singleton.1 hu; rfl) (by decide) (by unfold maxLen; omega) (by omega) HZ7.out _ rfl ?_; intro g8 c8 w8 hown8 hgr8 hat8 hlt8; rw [← HVX.out] at hown8; (have hM8 := HM.out.add HMEM.out hown8 hgr8); (have HM8 := Lib.hid hM8); clear hM8 hown8 hgr8 hat8)
          go_roundw
          case rel => exact ⟨i + 1, k, G ++ [gAt Gx i], some ⟨g8, 0, none⟩, c8, by omega, by rw [List.length_append, List.length_singleton]; omega, by rw [List.length_append]; rfl, rfl, by go_num, hk, by rw [List.length_append]; exact HM8.out, by rw [List.map_append, List.map_singleton, List.append_assoc, List.singleton_append, ← HKEEP.out]; exact HMRG.out⟩
          case measure => simp [intOf]; omega
    · have hlt' : decide ((i : Int) < Gx.length) = false := decide_eq_false (by omega)
      have HD : Hid (G.map (·.2) = minR A B) := Lib.hid (by have h1 := HMRG0.out; rw [List.drop_eq_nil_of_le (by rw [List.length_map]; omega), mrg, List.append_nil] at h1; exact h1)
      have HLN : Hid ((minR A B).length = G.length) := Lib.hid (by rw [← HD.out, List.length_map])
      go_wp2
      go_ret
      exact ⟨po, co, by rw [HLN.out]; rfl, by rw [← HD.out]; exact Rows2.rows ⟨owns_base HM.out.own HM.out.ww, HM.out.inn⟩, HM.out.low⟩
end Go.Proofs.YtgaihglploedaaaDoor
/-
  SameTuples of the world.
-/
namespace Go.Proofs.YtgaihglploedaaaDoor
set_option maxRecDepth 100000
open Go.RowKit
variable {ls : List Nat}

theorem below_drewN {B : Nat} {a w : World} (h : Below B a w) (n : Nat) : Below B a (w.drewN n) := ⟨h.os, h.tape, h.output, h.size, h.block⟩
theorem neq_val (k n : Int) (s : ByteArray) (k' n' : Int) (s' : ByteArray) (w : World) :
    (binOp .neq 34 (.agg #[.int .i64 k, .int .i64 n, .string s]) (.agg #[.int .i64 k', .int .i64 n', .string s'])).run Tryd.prog w = .ok (.bool (!sameV k n s k' n' s')) w := by
  go_simp
  unfold sameV
  by_cases h1 : k = k'
  · by_cases h2 : n = n'
    · by_cases h3 : s = s'
      · simp [h1, h2, h3]
      · have h4 : ¬ s.toList = s'.toList := fun h => h3 (WideShapes.bytes_inj (by rw [ByteArray.toList_eq, ByteArray.toList_eq] at h; exact h))
        simp [h1, h2, h3, h4]
    · simp [h1, h2]
  · simp [h1]
theorem ext_vals {a b : List Val} (hl : a.length = b.length) (h : ∀ i, i < a.length → vAt a i = vAt b i) : a = b := by
  apply List.ext_getElem hl
  intro i h1 h2
  have := h i h1
  unfold vAt at this
  rw [List.getD, List.getD, List.getElem?_eq_getElem h1, List.getElem?_eq_getElem h2] at this
  exact this
theorem same_vals {x y : Val} : sameV x.1 x.2.1 x.2.2 y.1 y.2.1 y.2.2 = true ↔ x = y := by
  rw [sameV_iff]
  obtain ⟨a, b, c⟩ := x
  obtain ⟨a', b', c'⟩ := y
  simp

set_option maxRecDepth 100000 in
set_option maxHeartbeats 1000000 in
theorem equal_any (p q : Option Addr) (a b : List Val) (ca cb : Nat) (w : World) (hla : a.length ≤ 9223372036854775807) (ha : RowAt w p a) (hb : RowAt w q b) :
    Calls Tryd.prog 44 #[.slice p a.length ca, .slice q b.length cb] w fun e w' => e = .returned (.bool (decide (a = b))) ∧ Below w.heap.size w w' := by
  have HP := Lib.hid ha
  have HQ := Lib.hid hb
  clear ha hb
  by_cases hl : a.length = b.length
  · have hlI : ((a.length : Int) != (b.length : Int)) = false := by simp [hl]
    have HL := Lib.hid hl
    clear hl
    go_enter Tryd.func44, Tryd.ntmps44
    go_wp2_with fail
    go_loopw [13] (fun i v => ∃ k : Nat, k ≤ a.length ∧ i = .int .i64 k ∧ (∀ j, j < k → vAt a j = vAt b j) ∧ Below w.heap.size w v) (fun i _ => a.length - (intOf i).toNat)
    case atStart => exact ⟨0, Nat.zero_le _, rfl, fun j hj => by omega, Below.refl _ _⟩
    case round =>
      obtain ⟨k, hk, rfl, heq, hb⟩ := hrel
      have HEQ := Lib.hid heq
      have HB := Lib.hid hb
      clear heq hb
      by_cases hlt : k < a.length
      · have hlt' : decide ((k : Int) < a.length) = true := decide_eq_true (by omega)
        have hkb : k < b.length := by have := HL.out; omega
        have hkI : (k : Int) < (b.length : Int) := by omega
        obtain ⟨c, o, rfl, hc, x0, x1, x2⟩ := HP.out.low HB.out k hlt
        obtain ⟨c', o', rfl, hc', y0, y1, y2⟩ := HQ.out.low HB.out k hkb
        have hq := neq_val (vAt a k).1 (vAt a k).2.1 (vAt a k).2.2 (vAt b k).1 (vAt b k).2.1 (vAt b k).2.2
        cases hsame : sameV (vAt a k).1 (vAt a k).2.1 (vAt a k).2.2 (vAt b k).1 (vAt b k).2.1 (vAt b k).2.2
        · have HD : Hid (¬ a = b) := Lib.hid (fun h => by
            rw [h] at hsame
            rw [same_vals.2 rfl] at hsame
            cases hsame)
          rw [hsame] at hq
          go_wp2_with fail
          go_quiet (fail)
          go_wp2
          go_ret
          exact ⟨ret_b (decide_eq_false HD.out).symm, below_drewN HB.out _⟩
        · have HS := Lib.hid (same_vals.1 hsame)
          rw [hsame] at hq
          go_wp2_with fail
          go_quiet (fail)
          go_wp2
          go_roundw
          case rel => exact ⟨k + 1, by omega, by go_num, fun j hj => by
            by_cases hjk : j = k
            · subst hjk; exact HS.out
            · exact HEQ.out j (by omega), below_drewN HB.out _⟩
          case measure => simp [intOf]; omega
      · have hlt' : decide ((k : Int) < a.length) = false := decide_eq_false (by omega)
        obtain rfl : k = a.length := by omega
        have HD : Hid (a = b) := Lib.hid (ext_vals HL.out HEQ.out)
        go_wp2
        go_ret
        exact ⟨ret_b (decide_eq_true HD.out).symm, HB.out⟩
  · have hlI : ((a.length : Int) != (b.length : Int)) = true := bne_iff_ne.2 (by omega)
    have HD : Hid (¬ a = b) := Lib.hid (fun h => hl (by rw [h]))
    clear hl
    go_enter Tryd.func44, Tryd.ntmps44
    go_wp2
    go_ret
    exact ⟨ret_b (decide_eq_false HD.out).symm, Below.refl _ _⟩
set_option maxHeartbeats 1000000 in
theorem sametuple_any (p q : Option Addr) (a b : List Val) (ca cb : Nat) (w : World) (hla : a.length ≤ 9223372036854775807) (ha : RowAt w p a) (hb : RowAt w q b) :
    Calls Tryd.prog 64 #[.slice p a.length ca, .slice q b.length cb] w fun e w' => e = .returned (.bool (decide (a = b))) ∧ Below w.heap.size w w' := by
  go_enter Tryd.func64, Tryd.ntmps64
  go_wp2_with fail
  refine (equal_any p q a b ca cb _ hla ha hb).mono ?_
  rintro e w2 ⟨rfl, hb2⟩
  have HB := Lib.hid hb2
  clear hb2
  go_wp2
  go_ret
  exact ⟨rfl, HB.out⟩
theorem ext_tuples {A B : List (List Val)} (hl : A.length = B.length) (h : ∀ i, i < A.length → rAt A i = rAt B i) : A = B := by
  apply List.ext_getElem hl
  intro i h1 h2
  have := h i h1
  rw [rAt_get h1, rAt_get h2] at this
  exact this
set_option maxRecDepth 100000 in
set_option maxHeartbeats 2000000 in
theorem equaltuples_any (A B : List (List Val)) (p q : Option Addr) (ca cb : Nat) (w : World) (hA : A.length ≤ 9223372036854775807) (hp : RowsAt w p A) (hq : RowsAt w q B) :
    Calls Tryd.prog 61 #[.slice p A.length ca, .slice q B.length cb, .func (.func 64) #[] #[]] w fun e w' => e = .returned (.bool (decide (A = B))) ∧ Below w.heap.size w w' := by
  have HP := Lib.hid hp
  have HQ := Lib.hid hq
  clear hp hq
  by_cases hl : A.length = B.length
  · have hlI : ((A.length : Int) != (B.length : Int)) = false := by simp [hl]
    have HL := Lib.hid hl
    clear hl
    go_enter Tryd.func61, Tryd.ntmps61
    go_wp2_with fail
    go_loopw [17] (fun i v => ∃ k : Nat, k ≤ A.length ∧ i = .int .i64 k ∧ (∀ j, j < k → rAt A j = rAt B j) ∧ Below w.heap.size w v) (fun i _ => A.length - (intOf i).toNat)
    case atStart => exact ⟨0, Nat.zero_le _, rfl, fun j hj => by omega, Below.refl _ _⟩
    case round =>
      obtain ⟨k, hk, rfl, heq, hb⟩ := hrel
      have HEQ := Lib.hid heq
      have HB := Lib.hid hb
      clear heq hb
      by_cases hlt : k < A.length
      · have hlt' : decide ((k : Int) < A.length) = true := decide_eq_true (by omega)
        have hkb : k < B.length := by have := HL.out; omega
        have hkI : (k : Int) < (B.length : Int) := by omega
        obtain ⟨c, o, q1, c1, rfl, hc, h0, hr1, hs1, -⟩ := HP.out.low HB.out k hlt
        obtain ⟨c', o', q2, c2, rfl, hc', h0', hr2, hs2, -⟩ := HQ.out.low HB.out k hkb
        have HR1 := Lib.hid hr1
        have HR2 := Lib.hid hr2
        clear hr1 hr2
        go_wp2_with fail
        refine (sametuple_any q1 q2 (rAt A k) (rAt B k) c1 c2 _ (by omega) HR1.out HR2.out).mono ?_
        rintro e v1 ⟨rfl, hb1⟩
        have HB1 := Lib.hid (below_next HB.out hb1)
        clear HB hb1 h0 h0' HR1 HR2 hc hc'
        cases hz : decide (rAt A k = rAt B k)
        · have HD : Hid (¬ A = B) := Lib.hid (fun h => of_decide_eq_false hz (by rw [h]))
          go_wp2
          go_ret
          exact ⟨ret_b (decide_eq_false HD.out).symm, HB1.out⟩
        · have HZ := Lib.hid (of_decide_eq_true hz)
          go_wp2
          go_roundw
          case rel => exact ⟨k + 1, by omega, by go_num, fun j hj => by
            by_cases hjk : j = k
            · subst hjk; exact HZ.out
            · exact HEQ.out j (by omega), HB1.out⟩
          case measure => simp [intOf]; omega
      · have hlt' : decide ((k : Int) < A.length) = false := decide_eq_false (by omega)
        obtain rfl : k = A.length := by omega
        have HD : Hid (A = B) := Lib.hid (ext_tuples HL.out HEQ.out)
        go_wp2
        go_ret
        exact ⟨ret_b (decide_eq_true HD.out).symm, HB.out⟩
  · have hlI : ((A.length : Int) != (B.length : Int)) = true := bne_iff_ne.2 (by omega)
    have HD : Hid (¬ A = B) := Lib.hid (fun h => hl (by rw [h]))
    clear hl
    go_enter Tryd.func61, Tryd.ntmps61
    go_wp2
    go_ret
    exact ⟨ret_b (decide_eq_false HD.out).symm, Below.refl _ _⟩
set_option maxHeartbeats 1000000 in
theorem sametuples_any (A B : List (List Val)) (p q : Option Addr) (ca cb : Nat) (w : World) (hA : A.length ≤ 9223372036854775807) (hp : RowsAt w p A) (hq : RowsAt w q B) :
    Calls Tryd.prog 23 #[.slice p A.length ca, .slice q B.length cb] w fun e w' => e = .returned (.bool (decide (A = B))) ∧ Below w.heap.size w w' := by
  go_enter Tryd.func23, Tryd.ntmps23
  go_wp2_with fail
  refine (equaltuples_any A B p q ca cb _ hA hp hq).mono ?_
  rintro e w2 ⟨rfl, hb2⟩
  have HB := Lib.hid hb2
  clear hb2
  go_wp2
  go_ret
  exact ⟨rfl, HB.out⟩
end Go.Proofs.YtgaihglploedaaaDoor
/-
  The sanity check of the statements about tuples holds, if the program's functions do what the contracts say.
-/
namespace Go.Proofs.YtgaihglploedaaaDoor
set_option maxRecDepth 100000
open Go.RowKit
variable {ls : List Nat}

set_option maxHeartbeats 400000 in
theorem rnumber_any (n : Int) (w : World) :
    Calls Tryd.prog 37 #[.int .i64 n] w fun e w' => e = .returned (.agg #[.int .i64 1, .int .i64 n, .string ⟨#[]⟩]) ∧ Below w.heap.size w w' := by
  go_enter Tryd.func37, Tryd.ntmps37
  go_wp2
  exact bodyPost_ret (v := .agg #[.int .i64 1, .int .i64 n, .string ⟨#[]⟩]) (by simp [results, Tryd.results37, go_sem]) rfl ⟨rfl, (Below.refl _ _).alloc (Nat.le_refl _) _⟩
/-- A row of one number. -/
def R1 (n : Int) : List Val := [(1, n, ⟨#[]⟩)]
structure One (w : World) (p : Option Addr) (n : Int) : Prop where
  at' : RowAt w p (R1 n)
  some' : p ≠ none
theorem One.low {u v : World} {p : Option Addr} {n : Int} (h : One u p n) (hb : Below u.heap.size u v) : One v p n := ⟨h.1.low hb, h.2⟩
theorem One.new {u : World} {p : Option Addr} {n : Int} (h : One u p n) (o : Obj) : One (u.alloc o) p n := h.low (below_alloc _ _)
theorem RowsAt.new {u : World} {p : Option Addr} {L : List (List Val)} (h : RowsAt u p L) (o : Obj) : RowsAt (u.alloc o) p L := h.low (below_alloc _ _)
def OnePost (n : Int) (w : World) (e : Ending) (w' : World) : Prop := ∃ (p : Option Addr) (cap : Nat), e = .returned (.slice p 1 cap) ∧ One w' p n ∧ Below w.heap.size w w'
set_option maxHeartbeats 1000000 in
theorem rowN_any (n : Int) (g : Nat) (w : World) (hc : w.cell? ⟨g, 0, none⟩ = some (.int .i64 n)) (hg : g < w.heap.size) :
    Calls Tryd.prog 60 #[.slice (some ⟨g, 0, none⟩) 1 1] w (OnePost n w) := by
  go_enter Tryd.func60, Tryd.ntmps60
  go_wp2_with fail
  go_loopw [3, 8] (fun vo i v => ∃ k : Nat, k ≤ 1 ∧ i = .int .i64 k ∧ v.ownsRow w.heap.size 34 3 vo k (vcells (List.replicate k ((1, n, ⟨#[]⟩) : Val))) ∧ Below w.heap.size w v) (fun _ i _ => 1 - (intOf i).toNat)
  case atStart => exact ⟨0, Nat.zero_le _, rfl, ⟨rfl, Or.inl ⟨rfl, rfl⟩⟩, Below.refl _ _⟩
  case round =>
    obtain ⟨k, hk, rfl, ho, hb⟩ := hrel
    have HB := Lib.hid hb
    have HO := Lib.hid ho
    clear ho
    by_cases hlt : k < 1
    · obtain rfl : k = 0 := by omega
      have h0 : wr.cell? ⟨g, 0, none⟩ = some (.int .i64 n) := by rw [hb.cell (by exact hg)]; exact hc
      clear hb
      go_wp2_with fail
      refine (rnumber_any n _).mono ?_
      rintro e w4 ⟨rfl, hb4⟩
      have HO4 := Lib.hid (owns_below (owns_below HO.out hb4) (below_alloc w4 (.cells #[.int .i64 1, .int .i64 n, .string ⟨#[]⟩] 34)))
      have HB4 := Lib.hid (below_next (below_next HB.out hb4) (below_alloc w4 (.cells #[.int .i64 1, .int .i64 n, .string ⟨#[]⟩] 34)))
      have HROW := Lib.hid (row_new w4 1 n ⟨#[]⟩ 34)
      have HZ : Hid (w.heap.size ≤ (w4.alloc (.cells #[.int .i64 1, .int .i64 n, .string ⟨#[]⟩] 34)).heap.size) := Lib.hid HB4.out.size
      clear hb4 h0
      go_wp2_with (at_builtin; refine wpList_append_vals rfl (.tmp 12) (.tmp 15) rfl w.heap.size _ 0 (List.replicate 0 (1, n, ⟨#[]⟩)) rfl HO4.out _ [(1, n, ⟨#[]⟩)] 1 rfl HROW.out (by intro h; cases h) (by simp only [List.length_singleton]; omega) HZ.out ?_; intro v8 w8 hown8 hgr8; (have HO8 := Lib.hid hown8); (have HB8 := Lib.hid (grown_below HB4.out HZ.out hgr8 (owns_block HO4.out))); clear hown8 hgr8)
      go_roundw
      case rel => exact ⟨1, by omega, by go_num, HO8.out, HB8.out⟩
      case measure => simp [intOf]
    · obtain rfl : k = 1 := by omega
      clear hb
      obtain ⟨hv, hr, hn⟩ := owned_shape (l := [(1, n, ⟨#[]⟩)]) HO.out
      have HR := Lib.hid hr
      have HN := Lib.hid hn
      have HV := Lib.hid hv
      clear hv hr hn
      go_wp2
      go_ret
      exact ⟨_, _, by rw [HV.out]; rfl, ⟨HR.out, fun h => by cases (HN.out h).1⟩, HB.out⟩

theorem rows_two {u : World} {p1 p2 : Option Addr} {c1 c2 : Nat} {a b : Int} (h1 : One u p1 a) (h2 : One u p2 b) (N : Nat) (hN : u.heap.size = N) :
    RowsAt (u.alloc (.cells #[.slice p1 1 c1, .slice p2 1 c2] 25)) (some ⟨N, 0, none⟩) [R1 a, R1 b] := by
  subst hN
  intro i hi
  match i, hi with
  | 0, _ => exact ⟨u.heap.size, 0, p1, c1, rfl, by go_simp, by go_simp; rfl, (h1.new _).1, by show 1 * 32 ≤ 140737488355328; omega, fun h => absurd h h1.2⟩
  | 1, _ => exact ⟨u.heap.size, 0, p2, c2, rfl, by go_simp, by go_simp; rfl, (h2.new _).1, by show 1 * 32 ≤ 140737488355328; omega, fun h => absurd h h2.2⟩
theorem rows_three {u : World} {p1 p2 p3 : Option Addr} {c1 c2 c3 : Nat} {a b c : Int} (h1 : One u p1 a) (h2 : One u p2 b) (h3 : One u p3 c) (N : Nat) (hN : u.heap.size = N) :
    RowsAt (u.alloc (.cells #[.slice p1 1 c1, .slice p2 1 c2, .slice p3 1 c3] 25)) (some ⟨N, 0, none⟩) [R1 a, R1 b, R1 c] := by
  subst hN
  intro i hi
  match i, hi with
  | 0, _ => exact ⟨u.heap.size, 0, p1, c1, rfl, by go_simp, by go_simp; rfl, (h1.new _).1, by show 1 * 32 ≤ 140737488355328; omega, fun h => absurd h h1.2⟩
  | 1, _ => exact ⟨u.heap.size, 0, p2, c2, rfl, by go_simp, by go_simp; rfl, (h2.new _).1, by show 1 * 32 ≤ 140737488355328; omega, fun h => absurd h h2.2⟩
  | 2, _ => exact ⟨u.heap.size, 0, p3, c3, rfl, by go_simp, by go_simp; rfl, (h3.new _).1, by show 1 * 32 ≤ 140737488355328; omega, fun h => absurd h h3.2⟩
theorem r1_inj {a b : Int} : R1 a = R1 b ↔ a = b := by simp [R1]
theorem min_known : minR [R1 2, R1 1, R1 1] [R1 1, R1 3] = [R1 1, R1 2] := by
  refine (minR_unique ?_ fun r => ?_).symm
  · refine List.pairwise_cons.2 ⟨fun x hx => ?_, List.pairwise_singleton _ _⟩
    obtain rfl := List.mem_singleton.1 hx
    decide +kernel
  · have h12 : (R1 1 == R1 2) = false := beq_eq_false_iff_ne.2 (by simp [R1])
    have h21 : (R1 2 == R1 1) = false := beq_eq_false_iff_ne.2 (by simp [R1])
    have h31 : (R1 3 == R1 1) = false := beq_eq_false_iff_ne.2 (by simp [R1])
    have h32 : (R1 3 == R1 2) = false := beq_eq_false_iff_ne.2 (by simp [R1])
    by_cases h1 : R1 1 = r
    · subst h1; simp [List.count_cons, h21, h31]
    · by_cases h2 : R1 2 = r
      · subst h2; simp [List.count_cons, h12, h32]
      · simp [List.count_cons, h1, h2]
theorem count_known : ([R1 1, R1 1] : List (List Val)).count (R1 1) = 2 := by simp

/-- What the program's functions of package tuple do: the contracts that the walks ask for. -/
structure TupleDoes : Prop where
  sort : ∀ (L : List (List Val)) (p : Option Addr) (cap : Nat) (w : World), L.length ≤ 1000 → RowsAt w p L → Calls Tryd.prog 28 #[.slice p L.length cap] w (SortedPost L w)
  same : ∀ (A B : List (List Val)) (p q : Option Addr) (ca cb : Nat) (w : World), A.length ≤ 1000 → B.length ≤ 1000 → RowsAt w p A → RowsAt w q B → Calls Tryd.prog 21 #[.slice p A.length ca, .slice q B.length cb] w fun e w' => e = .returned (.bool (decide (srt A = srt B))) ∧ Below w.heap.size w w'
  count : ∀ (L : List (List Val)) (p : Option Addr) (cap : Nat) (t : List Val) (q : Option Addr) (cp : Nat) (w : World), L.length ≤ 1000 → t.length * 32 ≤ 140737488355328 → RowsAt w p L → RowAt w q t → Calls Tryd.prog 26 #[.slice p L.length cap, .slice q t.length cp] w fun e w' => e = .returned (.int .i64 (L.count t : Nat)) ∧ Below w.heap.size w w'
  minus : ∀ (A B : List (List Val)) (p q : Option Addr) (ca cb : Nat) (w : World), A.length ≤ 1000 → B.length ≤ 1000 → RowsAt w p A → RowsAt w q B → Calls Tryd.prog 24 #[.slice p A.length ca, .slice q B.length cb] w (MinusPost A B w)
theorem TupleDoes.known_minus (hT : TupleDoes) {p q : Option Addr} {w : World} (hp : RowsAt w p [R1 2, R1 1, R1 1]) (hq : RowsAt w q [R1 1, R1 3]) :
    Calls Tryd.prog 24 #[.slice p 3 3, .slice q 2 2] w fun e w' => ∃ (p' : Option Addr) (cap : Nat), e = .returned (.slice p' 2 cap) ∧ RowsAt w' p' [R1 1, R1 2] ∧ Below w.heap.size w w' :=
  (hT.minus _ _ _ _ 3 2 _ (by decide) (by decide) hp hq).mono fun e w' ⟨p', cap, he, hr, hb⟩ => by rw [min_known] at he hr; exact ⟨p', cap, he, hr, hb⟩
theorem known_same {p q : Option Addr} {c : Nat} {w : World} (hp : RowsAt w p [R1 1, R1 2]) (hq : RowsAt w q [R1 1, R1 2]) :
    Calls Tryd.prog 23 #[.slice p 2 c, .slice q 2 2] w fun e w' => e = .returned (.bool true) ∧ Below w.heap.size w w' :=
  (sametuples_any _ _ _ _ c 2 _ (by decide) hp hq).mono fun e w' ⟨he, hb⟩ => ⟨by rw [he, decide_eq_true rfl], hb⟩
theorem TupleDoes.known_count (hT : TupleDoes) {p q : Option Addr} {c : Nat} {w : World} (hp : RowsAt w p [R1 1, R1 1]) (hq : RowAt w q (R1 1)) :
    Calls Tryd.prog 26 #[.slice p 2 2, .slice q 1 c] w fun e w' => e = .returned (.int .i64 2) ∧ Below w.heap.size w w' :=
  (hT.count _ _ 2 _ _ c _ (by decide) (by show 1 * 32 ≤ 140737488355328; omega) hp hq).mono fun e w' ⟨he, hb⟩ => ⟨by rw [he, count_known]; rfl, hb⟩
set_option maxHeartbeats 2000000 in
theorem known5_any (hT : TupleDoes) (w : World) :
    Calls Tryd.prog 19 #[] w fun e w' => e = .returned (.bool true) ∧ Below w.heap.size w w' := by
  go_enter Tryd.func19, Tryd.ntmps19
  have HB0 := Lib.hid (Below.refl w.heap.size w)
  have HB1 := Lib.hid (below_new HB0.out (.cells #[.int .i64 2] 2))
  clear HB0
  go_wp2_with fail
  refine (rowN_any 2 _ _ (by go_simp) (by go_simp)).mono ?_
  rintro e w2 ⟨pA, cA, rfl, h1, hb⟩
  have HB2 := Lib.hid (below_next HB1.out hb)
  have HA_2 := Lib.hid h1
  clear HB1 hb h1
  have HB3 := Lib.hid (below_new HB2.out (.cells #[.int .i64 1] 2))
  have HA_3 := Lib.hid (HA_2.out.new (.cells #[.int .i64 1] 2))
  clear HA_2 HB2
  go_wp2_with fail
  refine (rowN_any 1 _ _ (by go_simp) (by go_simp)).mono ?_
  rintro e w4 ⟨pB, cB, rfl, h1, hb⟩
  have HB4 := Lib.hid (below_next HB3.out hb)
  have HA_4 := Lib.hid (HA_3.out.low hb)
  have HB_4 := Lib.hid h1
  clear HB3 HA_3 hb h1
  have HB5 := Lib.hid (below_new HB4.out (.cells #[.int .i64 1] 2))
  have HA_5 := Lib.hid (HA_4.out.new (.cells #[.int .i64 1] 2))
  have HB_5 := Lib.hid (HB_4.out.new (.cells #[.int .i64 1] 2))
  clear HA_4 HB_4 HB4
  go_wp2_with fail
  refine (rowN_any 1 _ _ (by go_simp) (by go_simp)).mono ?_
  rintro e w6 ⟨pC, cC, rfl, h1, hb⟩
  have HB6 := Lib.hid (below_next HB5.out hb)
  have HA_6 := Lib.hid (HA_5.out.low hb)
  have HB_6 := Lib.hid (HB_5.out.low hb)
  have HC_6 := Lib.hid h1
  clear HB5 HA_5 HB_5 hb h1
  have h1 := rows_three (c1 := cA) (c2 := cB) (c3 := cC) HA_6.out HB_6.out HC_6.out w6.heap.size rfl
  have HB7 := Lib.hid (below_new HB6.out (.cells #[.slice pA 1 cA, .slice pB 1 cB, .slice pC 1 cC] 25))
  have HA_7 := Lib.hid (HA_6.out.new (.cells #[.slice pA 1 cA, .slice pB 1 cB, .slice pC 1 cC] 25))
  have HB_7 := Lib.hid (HB_6.out.new (.cells #[.slice pA 1 cA, .slice pB 1 cB, .slice pC 1 cC] 25))
  have HC_7 := Lib.hid (HC_6.out.new (.cells #[.slice pA 1 cA, .slice pB 1 cB, .slice pC 1 cC] 25))
  clear HA_6 HB_6 HC_6 HB6 HA_7 HB_7 HC_7
  have HX_7 := Lib.hid h1
  clear h1
  have HB8 := Lib.hid (below_new HB7.out (.cells #[.int .i64 1] 2))
  have HX_8 := Lib.hid (HX_7.out.new (.cells #[.int .i64 1] 2))
  clear HX_7 HB7
  go_wp2_with fail
  refine (rowN_any 1 _ _ (by go_simp) (by go_simp)).mono ?_
  rintro e w9 ⟨pD, cD, rfl, h1, hb⟩
  have HB9 := Lib.hid (below_next HB8.out hb)
  have HX_9 := Lib.hid (HX_8.out.low hb)
  have HD_9 := Lib.hid h1
  clear HB8 HX_8 hb h1
  have HB10 := Lib.hid (below_new HB9.out (.cells #[.int .i64 3] 2))
  have HX_10 := Lib.hid (HX_9.out.new (.cells #[.int .i64 3] 2))
  have HD_10 := Lib.hid (HD_9.out.new (.cells #[.int .i64 3] 2))
  clear HX_9 HD_9 HB9
  go_wp2_with fail
  refine (rowN_any 3 _ _ (by go_simp) (by go_simp)).mono ?_
  rintro e w11 ⟨pE, cE, rfl, h1, hb⟩
  have HB11 := Lib.hid (below_next HB10.out hb)
  have HX_11 := Lib.hid (HX_10.out.low hb)
  have HD_11 := Lib.hid (HD_10.out.low hb)
  have HE_11 := Lib.hid h1
  clear HB10 HX_10 HD_10 hb h1
  have h1 := rows_two (c1 := cD) (c2 := cE) HD_11.out HE_11.out w11.heap.size rfl
  have HB12 := Lib.hid (below_new HB11.out (.cells #[.slice pD 1 cD, .slice pE 1 cE] 25))
  have HX_12 := Lib.hid (HX_11.out.new (.cells #[.slice pD 1 cD, .slice pE 1 cE] 25))
  have HD_12 := Lib.hid (HD_11.out.new (.cells #[.slice pD 1 cD, .slice pE 1 cE] 25))
  have HE_12 := Lib.hid (HE_11.out.new (.cells #[.slice pD 1 cD, .slice pE 1 cE] 25))
  clear HX_11 HD_11 HE_11 HB11 HD_12 HE_12
  have HY_12 := Lib.hid h1
  clear h1
  go_wp2_with fail
  refine (hT.known_minus HX_12.out HY_12.out).mono ?_
  rintro e w13 ⟨pM, cM, rfl, h1, hb⟩
  have HB13 := Lib.hid (below_next HB12.out hb)
  have HM_13 := Lib.hid h1
  clear HB12 hb h1
  clear HX_12 HY_12
  have HB14 := Lib.hid (below_new HB13.out (.cells #[.int .i64 1] 2))
  have HM_14 := Lib.hid (HM_13.out.new (.cells #[.int .i64 1] 2))
  clear HM_13 HB13
  go_wp2_with fail
  refine (rowN_any 1 _ _ (by go_simp) (by go_simp)).mono ?_
  rintro e w15 ⟨pF, cF, rfl, h1, hb⟩
  have HB15 := Lib.hid (below_next HB14.out hb)
  have HM_15 := Lib.hid (HM_14.out.low hb)
  have HF_15 := Lib.hid h1
  clear HB14 HM_14 hb h1
  have HB16 := Lib.hid (below_new HB15.out (.cells #[.int .i64 2] 2))
  have HM_16 := Lib.hid (HM_15.out.new (.cells #[.int .i64 2] 2))
  have HF_16 := Lib.hid (HF_15.out.new (.cells #[.int .i64 2] 2))
  clear HM_15 HF_15 HB15
  go_wp2_with fail
  refine (rowN_any 2 _ _ (by go_simp) (by go_simp)).mono ?_
  rintro e w17 ⟨pG, cG, rfl, h1, hb⟩
  have HB17 := Lib.hid (below_next HB16.out hb)
  have HM_17 := Lib.hid (HM_16.out.low hb)
  have HF_17 := Lib.hid (HF_16.out.low hb)
  have HG_17 := Lib.hid h1
  clear HB16 HM_16 HF_16 hb h1
  have h1 := rows_two (c1 := cF) (c2 := cG) HF_17.out HG_17.out w17.heap.size rfl
  have HB18 := Lib.hid (below_new HB17.out (.cells #[.slice pF 1 cF, .slice pG 1 cG] 25))
  have HM_18 := Lib.hid (HM_17.out.new (.cells #[.slice pF 1 cF, .slice pG 1 cG] 25))
  have HF_18 := Lib.hid (HF_17.out.new (.cells #[.slice pF 1 cF, .slice pG 1 cG] 25))
  have HG_18 := Lib.hid (HG_17.out.new (.cells #[.slice pF 1 cF, .slice pG 1 cG] 25))
  clear HM_17 HF_17 HG_17 HB17 HF_18 HG_18
  have HZ_18 := Lib.hid h1
  clear h1
  go_wp2_with fail
  refine (known_same HM_18.out HZ_18.out).mono ?_
  rintro e w19 ⟨rfl, hb⟩
  have HB19 := Lib.hid (below_next HB18.out hb)
  clear HB18 hb
  clear HM_18 HZ_18
  have HB20 := Lib.hid (below_new HB19.out (.cells #[.int .i64 1] 2))
  clear HB19
  go_wp2_with fail
  refine (rowN_any 1 _ _ (by go_simp) (by go_simp)).mono ?_
  rintro e w21 ⟨pI, cI, rfl, h1, hb⟩
  have HB21 := Lib.hid (below_next HB20.out hb)
  have HI_21 := Lib.hid h1
  clear HB20 hb h1
  have HB22 := Lib.hid (below_new HB21.out (.cells #[.int .i64 1] 2))
  have HI_22 := Lib.hid (HI_21.out.new (.cells #[.int .i64 1] 2))
  clear HI_21 HB21
  go_wp2_with fail
  refine (rowN_any 1 _ _ (by go_simp) (by go_simp)).mono ?_
  rintro e w23 ⟨pJ, cJ, rfl, h1, hb⟩
  have HB23 := Lib.hid (below_next HB22.out hb)
  have HI_23 := Lib.hid (HI_22.out.low hb)
  have HJ_23 := Lib.hid h1
  clear HB22 HI_22 hb h1
  have h1 := rows_two (c1 := cI) (c2 := cJ) HI_23.out HJ_23.out w23.heap.size rfl
  have HB24 := Lib.hid (below_new HB23.out (.cells #[.slice pI 1 cI, .slice pJ 1 cJ] 25))
  have HI_24 := Lib.hid (HI_23.out.new (.cells #[.slice pI 1 cI, .slice pJ 1 cJ] 25))
  have HJ_24 := Lib.hid (HJ_23.out.new (.cells #[.slice pI 1 cI, .slice pJ 1 cJ] 25))
  clear HI_23 HJ_23 HB23 HI_24 HJ_24
  have HK_24 := Lib.hid h1
  clear h1
  have HB25 := Lib.hid (below_new HB24.out (.cells #[.int .i64 1] 2))
  have HK_25 := Lib.hid (HK_24.out.new (.cells #[.int .i64 1] 2))
  clear HK_24 HB24
  go_wp2_with fail
  refine (rowN_any 1 _ _ (by go_simp) (by go_simp)).mono ?_
  rintro e w26 ⟨pL, cL, rfl, h1, hb⟩
  have HB26 := Lib.hid (below_next HB25.out hb)
  have HK_26 := Lib.hid (HK_25.out.low hb)
  have HL_26 := Lib.hid h1
  clear HB25 HK_25 hb h1
  go_wp2_with fail
  refine (hT.known_count HK_26.out HL_26.out.1).mono ?_
  rintro e w27 ⟨rfl, hb⟩
  have HB27 := Lib.hid (below_next HB26.out hb)
  clear HB26 hb
  go_wp2
  go_ret
  exact ⟨rfl, HB27.out⟩
end Go.Proofs.YtgaihglploedaaaDoor
/-
  Facts about differences of bags; append of rows to a row of the call's own.
-/
namespace Go.Proofs.YtgaihglploedaaaDoor
set_option maxRecDepth 100000
open Go.RowKit
variable {ls : List Nat}

theorem minR_nil_iff (A B : List (List Val)) : minR A B = [] ↔ ∀ r, A.count r ≤ B.count r := by
  constructor
  · intro h r
    have := minR_count A B r
    rw [h] at this
    simp at this
    omega
  · intro h
    rw [List.eq_nil_iff_forall_not_mem]
    intro r hr
    have h1 := List.count_pos_iff.2 hr
    have h2 := minR_count A B r
    have h3 := h r
    omega
theorem same_iff_minR (A B : List (List Val)) : srt A = srt B ↔ ((minR A B).length = 0 ∧ (minR B A).length = 0) := by
  rw [srt_eq_iff, List.perm_iff_count, List.length_eq_zero_iff, List.length_eq_zero_iff, minR_nil_iff, minR_nil_iff]
  exact ⟨fun h => ⟨fun r => Nat.le_of_eq (h r), fun r => Nat.le_of_eq (h r).symm⟩, fun h r => Nat.le_antisymm (h.1 r) (h.2 r)⟩
theorem minR_len (A B : List (List Val)) : A.length + (minR B A).length = B.length + (minR A B).length := by
  have h : (A ++ minR B A).Perm (B ++ minR A B) := List.perm_iff_count.2 fun r => by
    rw [List.count_append, List.count_append, minR_count, minR_count]
    omega
  simpa using h.length_eq
theorem minR_le (A B : List (List Val)) : (minR A B).length ≤ A.length := by
  have := (mrg_sub (srt A) (srt B)).length_le
  rw [srt_length] at this
  exact this
theorem Grid.rows2 {u : World} {base : Nat} {vo : Value} {G : List (Value × List Val)} (h : Grid u base vo G) : Rows2 u base vo G :=
  ⟨h.1, fun x hx => ⟨(h.2 x hx).1, by have := (h.2 x hx).2; omega⟩⟩
/-- Heads of rows. -/
def HeadsAt (u : World) (xs : List Value) (L : List (List Val)) : Prop :=
  xs.length = L.length ∧ ∀ i, i < L.length → ∃ (q : Option Addr) (cp : Nat), xs[i]? = some (.slice q (rAt L i).length cp) ∧ RowAt u q (rAt L i) ∧ (rAt L i).length * 32 ≤ 140737488355328 ∧ (q = none → rAt L i = [] ∧ cp = 0)
theorem HeadsAt.low {u v : World} {xs : List Value} {L : List (List Val)} (h : HeadsAt u xs L) (hb : Below u.heap.size u v) : HeadsAt v xs L :=
  ⟨h.1, fun i hi => by obtain ⟨q, cp, h0, h1, h2, h3⟩ := h.2 i hi; exact ⟨q, cp, h0, h1.low hb, h2, h3⟩⟩
theorem HeadsAt.one {u : World} {xs : List Value} {L : List (List Val)} (h : HeadsAt u xs L) : ∀ v ∈ xs, v.oneCell' = true := by
  intro v hv
  obtain ⟨i, hi, rfl⟩ := List.getElem_of_mem hv
  obtain ⟨q, cp, h0, -⟩ := h.2 i (h.1 ▸ hi)
  rw [List.getElem?_eq_getElem hi] at h0
  rw [Option.some.inj h0]
  rfl
theorem HeadsAt.nil (u : World) : HeadsAt u [] [] := ⟨rfl, fun i hi => by simp at hi⟩
theorem rAt_left {A B : List (List Val)} {i : Nat} (h : i < A.length) : rAt (A ++ B) i = rAt A i := by unfold rAt; rw [List.getD, List.getElem?_append_left h]; rfl
theorem rAt_right {A B : List (List Val)} {i : Nat} (h : A.length ≤ i) : rAt (A ++ B) i = rAt B (i - A.length) := by unfold rAt; rw [List.getD, List.getElem?_append_right h]; rfl
theorem HeadsAt.append {u : World} {xs ys : List Value} {A B : List (List Val)} (h : HeadsAt u xs A) (k : HeadsAt u ys B) : HeadsAt u (xs ++ ys) (A ++ B) := by
  refine ⟨by rw [List.length_append, List.length_append, h.1, k.1], fun i hi => ?_⟩
  rw [List.length_append] at hi
  by_cases hl : i < A.length
  · rw [rAt_left hl, List.getElem?_append_left (by rw [h.1]; exact hl)]
    exact h.2 i hl
  · rw [rAt_right (by omega), List.getElem?_append_right (by rw [h.1]; omega), h.1]
    exact k.2 (i - A.length) (by omega)
theorem Rows2.heads {u : World} {base : Nat} {vo : Value} {G : List (Value × List Val)} (h : Rows2 u base vo G) : HeadsAt u (G.map (·.1)) (G.map (·.2)) := by
  refine ⟨by rw [List.length_map, List.length_map], fun i hi => ?_⟩
  rw [List.length_map] at hi
  have hmem : gAt G i ∈ G := gAt_mem hi
  obtain ⟨hown, hlen⟩ := h.2 _ hmem
  obtain ⟨hv, hr, hn⟩ := owned_shape hown
  rw [gAt_row hi] at hv hr hn hlen
  refine ⟨_, _, ?_, hr, hlen, hn⟩
  rw [← hv, List.getElem?_map, List.getElem?_eq_getElem hi]
  simp [gAt, hi]
/-- The cells of a row of the call's own. -/
theorem own_src {u : World} {base n : Nat} {e : TypeId} {v : Value} {xs : List Value} (h : u.ownsRow base e 1 v n xs) :
    v = .slice (rowP v) n (rowC v) ∧ (∀ ad, rowP v = some ad → ∀ j x, xs[j]? = some x → u.cell? (ad.add j) = some x) ∧ (rowP v = none → n = 0 ∧ xs = [] ∧ rowC v = 0) := by
  have hl := h.1
  rcases h.2 with ⟨rfl, h0⟩ | ⟨g, cap', cur, rfl, hg, hh, hcap, hm, hcur, htake⟩
  · refine ⟨by rw [h0]; rfl, (fun ad h => by cases h), fun _ => ⟨h0, List.eq_nil_of_length_eq_zero (by omega), rfl⟩⟩
  · refine ⟨rfl, fun ad had j x hj => ?_, fun h => by cases h⟩
    obtain rfl := Option.some.inj had
    have hj' : cur.toList[j]? = some x := by
      rw [← htake, List.getElem?_take] at hj
      split at hj
      · exact hj
      · cases hj
    rw [show (⟨g, 0, none⟩ : Addr).add j = ⟨g, j, none⟩ from by simp [Addr.add]; omega]
    simp [World.cell?, hh]
    simpa using hj'
theorem rows_of_heads {u : World} {base n : Nat} {v : Value} {xs : List Value} {L : List (List Val)} (h : u.ownsRow base 25 1 v n xs) (hH : HeadsAt u xs L) : RowsAt u (rowP v) L := by
  intro i hi
  obtain ⟨q, cp, h0, h1, h2, h3⟩ := hH.2 i hi
  obtain ⟨-, hs, hn⟩ := own_src h
  rcases h.2 with ⟨rfl, hz⟩ | ⟨g, cap', cur, rfl, hg, hh, hcap, hm, hcur, htake⟩
  · have := hn rfl; rw [this.2.1] at h0; simp at h0
  · exact ⟨g, 0, q, cp, rfl, (Array.getElem?_eq_some_iff.1 hh).1, by have := hs _ rfl i _ h0; rw [show (⟨g, 0, none⟩ : Addr).add i = ⟨g, 0 + i, none⟩ from by simp [Addr.add]; omega] at this; exact this, h1, h2, h3⟩
theorem wpList_append_heads {w : World} {ops : Array Oper} {rest : List Oper} {o : Oper} {a : Act} {Q : Exit → Act → World → Prop} (hgd : o.guard = none) (s x : Operand)
    (ho : o.op = .call { callee := .builtin .append, args := #[s, x], argTypes := #[39, 39] })
    (base : Nat) (v : Value) (n : Nat) (xs : List Value) (hs : a.eval s = v) (hown : w.ownsRow base 25 1 v n xs)
    (base' : Nat) (vx : Value) (m : Nat) (ys : List Value) (hx : a.eval x = vx) (hsrc : w.ownsRow base' 25 1 vx m ys) (h1 : ∀ u ∈ ys, u.oneCell' = true) (hsum : (n + m) * 24 ≤ 140737488355328) (hbase : base ≤ w.heap.size)
    (h : ∀ v' w', w'.ownsRow base 25 1 v' (n + m) (xs ++ ys) → w.grownBy w' v.ownBlock → wpList Tryd.prog ops Q rest (a.put o.dst v') w') : wpList Tryd.prog ops Q (o :: rest) a w := by
  obtain ⟨i0, hi, hz0, hz1, hz2⟩ := info_parts info_row
  obtain ⟨hv, hsr, hn⟩ := own_src hsrc
  have hl := hsrc.1
  rw [hv] at hx
  cases hp : rowP vx with
  | none =>
    obtain ⟨rfl, rfl, hc⟩ := hn hp
    rw [hp, hc] at hx
    refine wpList_append_own_none hgd s x 39 ho base 25 i0 1 Tryd.underlying39 hi v n xs hs hown hx ?_
    exact h v w (by simpa using hown) (World.grownBy.refl w _)
  | some ad =>
    rw [hp] at hx
    refine wpList_append_own w hgd s x 39 ho base 25 i0 _ 1 24 Tryd.underlying39 hi hz0 hz1 hz2 rfl (by decide) v n xs hs hown ad m (rowC vx) ys hx hl (hsr ad hp) h1 (by unfold maxLen; omega) hsum hbase ?_
    intro v' w' h1 h2 _
    exact h v' w' h1 h2
theorem owns_none (w : World) : (w.alloc (.cells #[] 25)).ownsRow w.heap.size 25 1 (.slice (some ⟨w.heap.size, 0, none⟩) 0 0) 0 [] := by
  refine ⟨rfl, Or.inr ⟨w.heap.size, 0, #[], rfl, Nat.le_refl _, ?_, Nat.le_refl _, by decide, rfl, rfl⟩⟩
  show (w.heap.push _)[w.heap.size]? = _
  simp
/-- A list of rows in a row of the call's own. -/
structure BagAt (u : World) (base : Nat) (v : Value) (xs : List Value) (L : List (List Val)) : Prop where
  own : u.ownsRow base 25 1 v L.length xs
  heads : HeadsAt u xs L
theorem BagAt.low {u v : World} {base : Nat} {x : Value} {xs : List Value} {L : List (List Val)} (h : BagAt u base x xs L) (hb : Below u.heap.size u v) : BagAt v base x xs L := ⟨owns_below h.own hb, h.heads.low hb⟩
theorem BagAt.rows {u : World} {base : Nat} {x : Value} {xs : List Value} {L : List (List Val)} (h : BagAt u base x xs L) : RowsAt u (rowP x) L := rows_of_heads h.own h.heads
theorem BagAt.shape {u : World} {base : Nat} {x : Value} {xs : List Value} {L : List (List Val)} (h : BagAt u base x xs L) : ∃ p c, x = .slice p L.length c := ⟨_, _, (own_src h.own).1⟩
theorem Grid.bag {u : World} {base : Nat} {vo : Value} {G : List (Value × List Val)} (h : Grid u base vo G) : BagAt u base vo (G.map (·.1)) (G.map (·.2)) := ⟨by rw [List.length_map]; exact h.1, h.rows2.heads⟩
end Go.Proofs.YtgaihglploedaaaDoor
