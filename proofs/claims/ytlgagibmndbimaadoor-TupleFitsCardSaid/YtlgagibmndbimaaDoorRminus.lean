/-
  Minus of the reference.
-/
import Derived.Test.YtlgagibmndbimaaDoorRbags
namespace Go.Proofs.YtlgagibmndbimaaDoor
open Go.RowKit
variable {ls : List Nat}

theorem mrg_skip {t u : List Val} {x y : List (List Val)} (h : cmpRow u t < 0) : mrg (t :: x) (u :: y) = mrg (t :: x) y := by
  rw [mrg, mrg, List.dropWhile_cons, if_pos (by simpa using h)]
theorem mrg_hit {t u : List Val} {x y : List (List Val)} (h : cmpRow u t = 0) : mrg (t :: x) (u :: y) = mrg x y := by
  rw [mrg, List.dropWhile_cons, if_neg (by simp; omega)]
  simp only [if_pos h]
theorem mrg_keep {t u : List Val} {x y : List (List Val)} (h : ¬ cmpRow u t < 0) (h0 : ¬ cmpRow u t = 0) : mrg (t :: x) (u :: y) = t :: mrg x (u :: y) := by
  rw [mrg, List.dropWhile_cons, if_neg (by simpa using h)]
  simp only [if_neg h0]
theorem mrg_end {t : List Val} {x : List (List Val)} : mrg (t :: x) [] = t :: mrg x [] := by rw [mrg]; rfl

/-- The rows that are kept, and the two sorted lists. -/
structure MinAt (w w2 v : World) (vo : Value) (G : List (Value × List Val)) (px : Option Addr) (cx : Nat) (Gx : List (Value × List Val)) (py : Option Addr) (cy : Nat) (Gy : List (Value × List Val)) : Prop where
  own : v.ownsRow w2.heap.size 25 1 vo G.length (G.map (·.1))
  inn : ∀ z ∈ G, InRow v w.heap.size z
  x : Rows2 v w.heap.size (.slice px Gx.length cx) Gx
  y : Rows2 v w.heap.size (.slice py Gy.length cy) Gy
  xb : ∀ k, (Value.slice px Gx.length cx).ownBlock = some k → k < w2.heap.size
  yb : ∀ k, (Value.slice py Gy.length cy).ownBlock = some k → k < w2.heap.size
  low : Below w.heap.size w v
  sz : w2.heap.size ≤ v.heap.size
  ww : w.heap.size ≤ w2.heap.size
theorem MinAt.keep {w w2 u v : World} {vo : Value} {G : List (Value × List Val)} {px : Option Addr} {cx : Nat} {Gx : List (Value × List Val)} {py : Option Addr} {cy : Nat} {Gy : List (Value × List Val)} (h : MinAt w w2 u vo G px cx Gx py cy Gy) (hb : Below u.heap.size u v) : MinAt w w2 v vo G px cx Gx py cy Gy :=
  ⟨owns_below h.own hb, fun z hz => (h.inn z hz).low hb, h.x.low hb, h.y.low hb, h.xb, h.yb, below_next h.low hb, Nat.le_trans h.sz hb.size, h.ww⟩
theorem Rows2.beside {u v : World} {base B n : Nat} {vo vx : Value} {xs : List Value} {G : List (Value × List Val)} (h : Rows2 u base vx G) (ho : u.ownsRow B 25 1 vo n xs) (hg : u.grownBy v vo.ownBlock) (hx : ∀ k, vx.ownBlock = some k → k < B) : Rows2 v base vx G :=
  ⟨owns_keep h.1 fun k hk => hg.block k (owns_lt h.1 k hk) (fun e => by have := (ho.lt k e.symm).1; have := hx k hk; omega), fun z hz => (h.2 z hz).apart ho fun k hk hne => hg.block k hk (fun e => hne e.symm)⟩
theorem MinAt.add {w w2 v w8 : World} {vo v8 : Value} {G : List (Value × List Val)} {px : Option Addr} {cx : Nat} {Gx : List (Value × List Val)} {py : Option Addr} {cy : Nat} {Gy : List (Value × List Val)} {o : Obj} {z : Value × List Val} (h : MinAt w w2 v vo G px cx Gx py cy Gy) (hz : z ∈ Gx)
    (ho : w8.ownsRow w2.heap.size 25 1 v8 (G.length + 1) (G.map (·.1) ++ [z.1])) (hg : (v.alloc o).grownBy w8 vo.ownBlock) : MinAt w w2 w8 v8 (G ++ [z]) px cx Gx py cy Gy := by
  have h7 := h.keep (below_alloc v o)
  have hin : ∀ b q, InRow (v.alloc o) b q → InRow w8 b q := fun b q hq => hq.apart h7.own fun k hk hne => hg.block k hk (fun e => hne e.symm)
  refine ⟨by simpa using ho, fun q hq => ?_, h7.x.beside h7.own hg h.xb, h7.y.beside h7.own hg h.yb, h.xb, h.yb, ?_, Nat.le_trans h7.sz hg.size, h.ww⟩
  · rcases List.mem_append.1 hq with hq | hq
    · exact hin _ _ (h7.inn q hq)
    · obtain rfl := List.mem_singleton.1 hq
      exact hin _ _ (h7.x.2 q hz)
  · refine h7.low.grown hg h7.low.size (fun k hk => ?_)
    have := (h7.own.lt k hk).1
    have := h.ww
    omega
theorem one_news (v : World) (x : Value) : ∀ j u, ([x] : List Value)[j]? = some u → (v.alloc (.cells #[x] 25)).cell? ((⟨v.heap.size, 0, none⟩ : Addr).add j) = some u := by
  intro j u hj
  have : j = 0 := by have := (List.getElem?_eq_some_iff.1 hj).1; simp at this; omega
  subst this
  obtain rfl := Option.some.inj hj
  show (v.alloc _).cell? ⟨v.heap.size, 0, none⟩ = _
  go_simp
theorem gAt_mem {G : List (Value × List Val)} {i : Nat} (hi : i < G.length) : gAt G i ∈ G := by unfold gAt; rw [List.getD, List.getElem?_eq_getElem hi]; exact List.getElem_mem hi
theorem own_size {u : World} {base n size : Nat} {e : TypeId} {v : Value} {xs : List Value} (h : u.ownsRow base e size v n xs) : ∀ k, v.ownBlock = some k → k < u.heap.size := fun k hk => (h.lt k hk).2

def MinusPost (A B : List (List Val)) (w : World) (e : Ending) (w' : World) : Prop := ∃ (p : Option Addr) (cap : Nat), e = .returned (.slice p (minR A B).length cap) ∧ RowsAt w' p (minR A B) ∧ Below w.heap.size w w'
set_option maxRecDepth 100000 in
set_option maxHeartbeats 2000000 in
theorem rminus_any (A B : List (List Val)) (p q : Option Addr) (ca cb : Nat) (w : World) (hA : A.length ≤ 1000) (hB : B.length ≤ 1000) (hp : RowsAt w p A) (hq : RowsAt w q B) :
    Calls Tryd.prog 20 #[.slice p A.length ca, .slice q B.length cb] w (MinusPost A B w) := by
  obtain ⟨i25, hi25, hz25, hs25, hb25⟩ := info_parts info_row
  have HP := Lib.hid hp
  have HQ := Lib.hid hq
  clear hp hq
  go_enter Tryd.func20, Tryd.ntmps20
  go_wp2_with fail
  refine (rsort_any A p ca _ hA HP.out).mono ?_
  rintro e w1 ⟨px, cx, Gx, rfl, hgx, hx, hb1⟩
  have HX := Lib.hid hx
  have HB1 := Lib.hid hb1
  have HGX := Lib.hid hgx
  clear hx hb1 hgx
  go_wp2_with fail
  refine (rsort_any B q cb _ hB (HQ.out.low HB1.out)).mono ?_
  rintro e w2 ⟨py, cy, Gy, rfl, hgy, hy, hb2⟩
  have hlx : Gx.length = A.length := by have := congrArg List.length HGX.out; rw [List.length_map, srt_length] at this; exact this
  have hly : Gy.length = B.length := by have := congrArg List.length hgy; rw [List.length_map, srt_length] at this; exact this
  have HGY := Lib.hid hgy
  have hM : MinAt w w2 w2 (.slice none 0 0) [] px cx Gx py cy Gy := ⟨⟨rfl, Or.inl ⟨rfl, rfl⟩⟩, (fun z hz => by cases hz), HX.out.low hb2, ⟨owns_base hy.1 HB1.out.size, fun z hz => ⟨owns_base (hy.2 z hz).1 HB1.out.size, (hy.2 z hz).2⟩⟩, fun k hk => Nat.lt_of_lt_of_le (own_size HX.out.1 k hk) hb2.size, own_size hy.1, below_next HB1.out hb2, Nat.le_refl _, Nat.le_trans HB1.out.size hb2.size⟩
  have HM := Lib.hid hM
  rw [← hlx, ← hly]
  rw [← hlx] at hA
  rw [← hly] at hB
  clear hM hy hb2 hgy HX HB1 hlx hly HP HQ
  go_wp2_with fail
  go_loopw [7, 8, 17] (fun vo kk ii v => ∃ (i k : Nat) (G : List (Value × List Val)) (po : Option Addr) (co : Nat), i ≤ Gx.length ∧ G.length ≤ i ∧ vo = .slice po G.length co ∧ kk = .int .i64 k ∧ ii = .int .i64 i ∧ k ≤ Gy.length ∧ MinAt w w2 v (.slice po G.length co) G px cx Gx py cy Gy ∧ G.map (·.2) ++ mrg ((Gx.map (·.2)).drop i) ((Gy.map (·.2)).drop k) = minR A B) (fun _ _ ii _ => Gx.length - (intOf ii).toNat)
  case atStart => exact ⟨0, 0, [], none, 0, Nat.zero_le _, Nat.le_refl _, rfl, rfl, rfl, Nat.zero_le _, HM.out, by rw [HGX.out, HGY.out]; rfl⟩
  clear HM HGX HGY
  case round =>
    obtain ⟨i, k, G, po, co, hi, hgi, rfl, rfl, rfl, hk, hm, hmrg⟩ := hrel
    have HM := Lib.hid hm
    have HMRG0 := Lib.hid hmrg
    clear hm hmrg
    by_cases hlt : i < Gx.length
    · have hlt' : decide ((i : Int) < Gx.length) = true := decide_eq_true (by omega)
      obtain ⟨g, rfl, hgz, h0, -, -, hsx⟩ := HM.out.x.read i hlt
      have HMEM := Lib.hid (gAt_mem hlt)
      have HDX : Hid ((Gx.map (·.2)).drop i = (gAt Gx i).2 :: (Gx.map (·.2)).drop (i + 1)) := Lib.hid (by rw [gAt_row hlt]; exact drop_row (by rw [List.length_map]; exact hlt))
      go_wp2_with fail
      go_loopw [8] (fun kk v => ∃ k : Nat, kk = .int .i64 k ∧ k ≤ Gy.length ∧ MinAt w w2 v (.slice po G.length co) G (some ⟨g, 0, none⟩) cx Gx py cy Gy ∧ G.map (·.2) ++ mrg ((gAt Gx i).2 :: (Gx.map (·.2)).drop (i + 1)) ((Gy.map (·.2)).drop k) = minR A B) (fun kk _ => Gy.length - (intOf kk).toNat)
      case atStart => exact ⟨k, rfl, hk, HM.out, by rw [← HDX.out]; exact HMRG0.out⟩
      clear HM HMRG0 h0 hgz hk HDX
      case round =>
        obtain ⟨k, rfl, hk, hm, hmrg⟩ := hrel
        have HM := Lib.hid hm
        have HMRG := Lib.hid hmrg
        obtain ⟨-, -, -, -, hrx, -, -⟩ := hm.x.read i hlt
        have HRX := Lib.hid hrx
        clear hm hmrg hrx
        by_cases hky : k < Gy.length
        · have hky' : decide ((k : Int) < Gy.length) = true := decide_eq_true (by omega)
          obtain ⟨g2, rfl, hgz2, h02, hry, -, hsy⟩ := HM.out.y.read k hky
          have HRY := Lib.hid hry
          have HDY : Hid ((Gy.map (·.2)).drop k = (gAt Gy k).2 :: (Gy.map (·.2)).drop (k + 1)) := Lib.hid (by rw [gAt_row hky]; exact drop_row (by rw [List.length_map]; exact hky))
          clear hry
          go_wp2_with fail
          refine (rcomparerows_any _ _ (gAt Gy k).2 (gAt Gx i).2 _ _ _ (by omega) (by omega) HRY.out HRX.out).mono ?_
          rintro e v1 ⟨rfl, hb1⟩
          have HM1 := Lib.hid (HM.out.keep hb1)
          clear HM HRX HRY hb1 h02 hgz2
          cases hneg : decide (cmpRow (gAt Gy k).2 (gAt Gx i).2 < 0)
          · obtain ⟨-, -, -, -, hrx, -, -⟩ := HM1.out.x.read i hlt
            obtain ⟨g3, hg3, hgz3, h03, hry, -, -⟩ := HM1.out.y.read k hky
            obtain rfl : g2 = g3 := by cases hg3; rfl
            have HRX := Lib.hid hrx
            have HRY := Lib.hid hry
            have HNEG := Lib.hid (of_decide_eq_false hneg)
            clear hrx hry hg3
            go_wp2_with fail
            refine (rcomparerows_any _ _ (gAt Gy k).2 (gAt Gx i).2 _ _ _ (by omega) (by omega) HRY.out HRX.out).mono ?_
            rintro e v2 ⟨rfl, hb2⟩
            have HM := Lib.hid (HM1.out.keep hb2)
            clear HM1 HRX HRY hb2 h03 hgz3
            cases hz : (cmpRow (gAt Gy k).2 (gAt Gx i).2 == 0)
            · have HKEEP : Hid (mrg ((gAt Gx i).2 :: (Gx.map (·.2)).drop (i + 1)) ((Gy.map (·.2)).drop k) = (gAt Gx i).2 :: mrg ((Gx.map (·.2)).drop (i + 1)) ((Gy.map (·.2)).drop k)) := Lib.hid (by rw [HDY.out]; exact mrg_keep (by have := HNEG.out; omega) (beq_eq_false_iff_ne.1 hz))
              obtain ⟨hvx, -, -⟩ := owned_shape (HM.out.x.2 _ HMEM.out).1
              have HO7 := Lib.hid (HM.out.own.alloc (.cells #[.slice (rowP (gAt Gx i).1) (gAt Gx i).2.length (rowC (gAt Gx i).1)] 25))
              have HNEW := Lib.hid (one_news v2 (.slice (rowP (gAt Gx i).1) (gAt Gx i).2.length (rowC (gAt Gx i).1)))
              have HZ7 : Hid (w2.heap.size ≤ (v2.alloc (.cells #[.slice (rowP (gAt Gx i).1) (gAt Gx i).2.length (rowC (gAt Gx i).1)] 25)).heap.size) := Lib.hid (by rw [size_alloc]; have := HM.out.sz; omega)
              have HVX := Lib.hid hvx
              clear hvx
              go_wp2_with (at_builtin; refine wpList_append_lies _ rfl (.tmp 51) (.tmp 53) 39 rfl w2.heap.size 25 i25 _ 1 24 Tryd.underlying39 hi25 hz25 hs25 hb25 rfl (by decide) (.slice po G.length co) G.length (G.map (·.1)) (by rfl) HO7.out ⟨v2.heap.size, 0, none⟩ 1 1 [.slice (rowP (gAt Gx i).1) (gAt Gx i).2.length (rowC (gAt Gx i).1)] (by rfl) rfl HNEW.out (by intro u hu; obtain rfl := List.mem_singleton.1 hu; rfl) (by decide) (by unfold maxLen; omega) (by omega) HZ7.out _ rfl ?_; intro g8 c8 w8 hown8 hgr8 hat8 hlt8; rw [← HVX.out] at hown8; (have hM8 := HM.out.add HMEM.out hown8 hgr8); (have HM8 := Lib.hid hM8); clear hM8 hown8 hgr8 hat8)
              go_roundw
              case rel => exact ⟨i + 1, k, G ++ [gAt Gx i], some ⟨g8, 0, none⟩, c8, by omega, by rw [List.length_append, List.length_singleton]; omega, by rw [List.length_append]; rfl, rfl, by go_num, hk, by rw [List.length_append]; exact HM8.out, by rw [List.map_append, List.map_singleton, List.append_assoc, List.singleton_append, ← HKEEP.out]; exact HMRG.out⟩
              case measure => simp [intOf]; omega
            · have HMRG2 : Hid (G.map (·.2) ++ mrg ((Gx.map (·.2)).drop (i + 1)) ((Gy.map (·.2)).drop (k + 1)) = minR A B) := Lib.hid (by have h1 := HMRG.out; rw [HDY.out, mrg_hit (beq_iff_eq.1 hz)] at h1; exact h1)
              go_wp2
              go_roundw
              case rel => exact ⟨i + 1, k + 1, G, po, co, by omega, by omega, rfl, by go_num, by go_num, by omega, HM.out, HMRG2.out⟩
              case measure => simp [intOf]; omega
          · have HMRG2 : Hid (G.map (·.2) ++ mrg ((gAt Gx i).2 :: (Gx.map (·.2)).drop (i + 1)) ((Gy.map (·.2)).drop (k + 1)) = minR A B) := Lib.hid (by have h1 := HMRG.out; rw [HDY.out, mrg_skip (of_decide_eq_true hneg)] at h1; exact h1)
            go_wp2
            go_roundw
            case rel => exact ⟨k + 1, by go_num, by omega, HM1.out, HMRG2.out⟩
            case measure => simp [intOf]; omega
        · have hky' : decide ((k : Int) < Gy.length) = false := decide_eq_false (by omega)
          have HKEEP : Hid (mrg ((gAt Gx i).2 :: (Gx.map (·.2)).drop (i + 1)) ((Gy.map (·.2)).drop k) = (gAt Gx i).2 :: mrg ((Gx.map (·.2)).drop (i + 1)) ((Gy.map (·.2)).drop k)) := Lib.hid (by
            have e : (Gy.map (·.2)).drop k = [] := List.drop_eq_nil_of_le (by rw [List.length_map]; omega)
            rw [e]; exact mrg_end)
          obtain ⟨hvx, -, -⟩ := owned_shape (HM.out.x.2 _ HMEM.out).1
          have HO7 := Lib.hid (HM.out.own.alloc (.cells #[.slice (rowP (gAt Gx i).1) (gAt Gx i).2.length (rowC (gAt Gx i).1)] 25))
          have HNEW := Lib.hid (one_news wr (.slice (rowP (gAt Gx i).1) (gAt Gx i).2.length (rowC (gAt Gx i).1)))
          have HZ7 : Hid (w2.heap.size ≤ (wr.alloc (.cells #[.slice (rowP (gAt Gx i).1) (gAt Gx i).2.length (rowC (gAt Gx i).1)] 25)).heap.size) := Lib.hid (by rw [size_alloc]; have := HM.out.sz; omega)
          have HVX := Lib.hid hvx
          clear hvx
          go_wp2_with (at_builtin; refine wpList_append_lies _ rfl (.tmp 51) (.tmp 53) 39 rfl w2.heap.size 25 i25 _ 1 24 Tryd.underlying39 hi25 hz25 hs25 hb25 rfl (by decide) (.slice po G.length co) G.length (G.map (·.1)) (by rfl) HO7.out ⟨wr.heap.size, 0, none⟩ 1 1 [.slice (rowP (gAt Gx i).1) (gAt Gx i).2.length (rowC (gAt Gx i).1)] (by rfl) rfl HNEW.out (by intro u hu; obtain rfl := List.mem_singleton.1 hu; rfl) (by decide) (by unfold maxLen; omega) (by omega) HZ7.out _ rfl ?_; intro g8 c8 w8 hown8 hgr8 hat8 hlt8; rw [← HVX.out] at hown8; (have hM8 := HM.out.add HMEM.out hown8 hgr8); (have HM8 := Lib.hid hM8); clear hM8 hown8 hgr8 hat8)
          go_roundw
          case rel => exact ⟨i + 1, k, G ++ [gAt Gx i], some ⟨g8, 0, none⟩, c8, by omega, by rw [List.length_append, List.length_singleton]; omega, by rw [List.length_append]; rfl, rfl, by go_num, hk, by rw [List.length_append]; exact HM8.out, by rw [List.map_append, List.map_singleton, List.append_assoc, List.singleton_append, ← HKEEP.out]; exact HMRG.out⟩
          case measure => simp [intOf]; omega
    · have hlt' : decide ((i : Int) < Gx.length) = false := decide_eq_false (by omega)
      have HD : Hid (G.map (·.2) = minR A B) := Lib.hid (by have h1 := HMRG0.out; rw [List.drop_eq_nil_of_le (by rw [List.length_map]; omega), mrg, List.append_nil] at h1; exact h1)
      have HLN : Hid ((minR A B).length = G.length) := Lib.hid (by rw [← HD.out, List.length_map])
      go_wp2
      go_ret
      exact ⟨po, co, by rw [HLN.out]; rfl, by rw [← HD.out]; exact Rows2.rows ⟨owns_base HM.out.own HM.out.ww, HM.out.inn⟩, HM.out.low⟩
end Go.Proofs.YtlgagibmndbimaaDoor
