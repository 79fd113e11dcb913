/-
  Several texts in one.
-/
import Derived.Test.YtgaihglploedaaaDoorPk08
/-
  THE STATEMENT TupleSorts, as a walk.
-/
namespace Go.Proofs.YtgaihglploedaaaDoor
set_option maxRecDepth 100000
open Go.RowKit
variable {ls : List Nat}

/-- The rows that have been mixed: heads of the tape's rows, in a row of the call's own. -/
structure MixAt (w2 u : World) (b : Nat) (po : Option Addr) (co : Nat) (H : List (Value × List Val)) : Prop where
  step : StepT b w2 u
  tape : TapeAt u b
  own : u.ownsRow w2.heap.size 25 1 (.slice po H.length co) H.length (H.map (·.1))
theorem MixAt.next {w2 u v : World} {b : Nat} {po : Option Addr} {co : Nat} {H : List (Value × List Val)} (h : MixAt w2 u b po co H) (hb : b < w2.heap.size) (hs : StepT b u v) (ht : TapeAt v b) : MixAt w2 v b po co H :=
  ⟨h.step.trans hs, ht, owns_step h.own hb hs⟩
theorem mix_perm {A : Type} {H G : List A} {z : A} {a : Nat} (h : H.Perm G) : (H.take a ++ z :: H.drop a).Perm (G ++ [z]) := by
  refine List.perm_middle.trans ?_
  rw [List.take_append_drop]
  exact (List.perm_append_singleton z H).symm.trans (h.append_right _)
theorem take_pair {G : List (Value × List Val)} {i : Nat} (h : i < G.length) : G.take (i + 1) = G.take i ++ [gAt G i] := by
  rw [show gAt G i = G[i] from by unfold gAt; rw [List.getD, List.getElem?_eq_getElem h]; rfl]; exact (List.take_append_getElem h).symm
theorem heads_mix {u : World} {base : Nat} {vo : Value} {G H : List (Value × List Val)} {k : Nat} (h : Grid u base vo G) (hp : H.Perm (G.take k)) : ∀ v ∈ H.map (·.1), v.oneCell' = true := by
  intro v hv
  obtain ⟨z, hz, rfl⟩ := List.mem_map.1 hv
  obtain ⟨hs, -⟩ := owned_shape (h.2 z (List.mem_of_mem_take (hp.mem_iff.1 hz))).1
  rw [hs]; rfl
theorem MixAt.round {w2 u w8 w9 : World} {b co g8 c8 A : Nat} {po : Option Addr} {H : List (Value × List Val)} {z : Value × List Val} {cur : List Value} {y : Value} {o : Obj} (h : MixAt w2 u b po co H) (hbB : b < w2.heap.size)
    (hg8 : (u.alloc o).grownBy w8 (Value.slice po H.length co).ownBlock) (hg : w2.heap.size ≤ g8) (hg9 : w8.drew.grownBy w9 (some g8)) (hc9 : w9.heap[g8]? = some (.cells (splice cur (A + 1) ((H.map (·.1)).drop A)).toArray 25 (0, 0)))
    (ht : cur.take (H.length + 1) = H.map (·.1) ++ [y]) (hA : A ≤ H.length) (hn : H.length + 1 ≤ c8) (hm : c8 ≤ maxLen) (hl : cur.length = c8) :
    MixAt w2 (w9.setCell ⟨g8, A, none⟩ z.1) b (some ⟨g8, 0, none⟩) c8 (H.take A ++ z :: H.drop A) ∧ (∃ y, w9.cell? ⟨g8, A, none⟩ = some y) ∧ w9.frozen? ⟨g8, A, none⟩ = false := by
  have hsl := splice_length (cur := cur) (heads := H.map (·.1)) (a := A) (n := H.length) (List.length_map _) hA (by omega)
  have hrow : ∀ k, (Value.slice po H.length co).ownBlock = some k → w2.heap.size ≤ k := fun k hk => (h.own.lt k hk).1
  have hs8 : StepT b w2 w8 := step_grown_from (h.step.alloc o) hg8 hrow
  have ht8 : TapeAt w8 b := (h.tape.alloc o).grown hg8 (fun k hk => by have := hrow k hk; omega)
  have hs9 : StepT b w2 w9 := step_grown_from (hs8.drewN 1) hg9 (fun k hk => by obtain rfl := Option.some.inj hk; exact hg)
  have ht9 : TapeAt w9 b := TapeAt.grown (u := w8.drew) (ht8.drewN 1) hg9 (fun k hk => by obtain rfl := Option.some.inj hk; omega)
  have hset := Joins.block_setCell (i := A) hc9 z.1
  rw [List.setIfInBounds_toArray] at hset
  have hlen : (H.take A ++ z :: H.drop A).length = H.length + 1 := by rw [List.length_append, List.length_take, List.length_cons, List.length_drop]; omega
  refine ⟨⟨hs9.set2 hg _ _ _, ht9.setCell (show b < g8 by omega) _, ?_⟩, ?_, Joins.unfrozen_of_block hc9 A⟩
  · rw [hlen]
    refine block_own hset hg hn hm (by rw [List.length_set, hsl, hl]) ?_ (by rw [List.length_map, hlen])
    rw [ins_cells (List.length_map _) ht hA, List.map_append, List.map_cons, List.map_take, List.map_drop]
  · rw [Joins.cell_of_block hc9]
    refine ⟨(splice cur (A + 1) ((H.map (·.1)).drop A))[A]'(by omega), ?_⟩
    rw [List.getElem?_toArray, List.getElem?_eq_getElem]
/-- What the rounds over the sorted rows lean on. -/
structure SortsAt (w u : World) (pa po ps : Option Addr) (LA M S : List (List Val)) : Prop where
  a : RowsAt u pa LA
  m : RowsAt u po M
  s : RowsAt u ps S
  low' : Below w.heap.size w u
theorem SortsAt.low {w u v : World} {pa po ps : Option Addr} {LA M S : List (List Val)} (h : SortsAt w u pa po ps LA M S) (hb : Below u.heap.size u v) : SortsAt w v pa po ps LA M S :=
  ⟨h.a.low hb, h.m.low hb, h.s.low hb, below_next h.low' hb⟩
theorem sorted_at {S : List (List Val)} (h : Sorted S) {i : Nat} (hi : i + 1 < S.length) : ¬ 0 < cmpRow (rAt S i) (rAt S (i + 1)) := by
  have := List.pairwise_iff_getElem.1 h i (i + 1) (by omega) hi (by omega)
  rw [rAt_get (by omega), rAt_get hi]
  have := leR_iff.1 this
  omega
set_option maxRecDepth 100000 in
set_option maxHeartbeats 8000000 in
theorem tsorts_walk (hT : TupleDoes) (w : World) (p : Option Addr) (len cap : Nat) (hl : len ≤ cap) (hm : len ≤ 9223372036854775807) (h : IntsAt w p len) (hE : Env ls w) (hlw : 1 ∈ ls) :
    Calls Tryd.prog 5 #[.slice p len cap] w fun e w' => e = .returned (.bool true) ∧ Below w.heap.size w w' := by
  obtain ⟨i25, hi25, hz25, hs25, hb25⟩ := info_parts info_row
  have HI := Lib.hid h
  clear h
  have hz8 := hE.size
  go_enter Tryd.func5, Tryd.ntmps5
  go_wp2_with fail
  refine (new_any w p len cap hl hm HI.out).mono ?_
  rintro e w1 ⟨b, rfl, hb0, ht, hb1⟩
  have hE1 := hE.low hb1
  have h8b : 3 ≤ b := by omega
  have hbw : b ≠ 1 := by omega
  have hbB : b < w1.heap.size := ht.lt
  go_wp2_with fail
  refine (rows_any b 8 w1 (by omega) hbw ht (hE1.words hlw)).mono ?_
  rintro e w2 ⟨va, GA, rfl, hGA, hna, ht2, hs2⟩
  have hB2 := hb1.trans (hs2.below hb0 hb1.size)
  have hbB2 : b < w2.heap.size := ht2.lt
  have hB12 : w1.heap.size ≤ w2.heap.size := hs2.size
  have HB2 := Lib.hid hB2
  have HGA := Lib.hid hGA
  have HT2 := Lib.hid ht2
  have hla : GA.length ≤ 8 := by omega
  clear HI hE ht hE1 hb1 hGA hs2 ht2 hB2 hna
  obtain ⟨pa, ca, rfl⟩ : ∃ pa ca, va = .slice pa GA.length ca := ⟨_, _, HGA.out.rows2.shape⟩
  go_wp2_with fail
  go_loopw [5, 7, 8, 18] (fun vo _ _ i v => ∃ (k : Nat) (H : List (Value × List Val)) (po : Option Addr) (co : Nat), k ≤ GA.length ∧ vo = .slice po H.length co ∧ i = .int .i64 k ∧ H.Perm (GA.take k) ∧ MixAt w2 v b po co H) (fun _ _ _ i _ => GA.length - (intOf i).toNat)
  case atStart => exact ⟨0, [], none, 0, Nat.zero_le _, rfl, rfl, by simp, ⟨StepT.refl _ _, HT2.out, World.ownsRow_nil _ _ _ _⟩⟩
  case round =>
    obtain ⟨k, H, po, co, hk, rfl, rfl, hpe, hm'⟩ := hrel
    have HPE := Lib.hid hpe
    have HM := Lib.hid hm'
    have hgl : H.length ≤ k := by have := hpe.length_eq; rw [List.length_take] at this; omega
    clear hpe hm'
    by_cases hlt : k < GA.length
    · have hlt' : decide ((k : Int) < GA.length) = true := decide_eq_true (by omega)
      obtain ⟨g, rfl, hgz, g0, -, -, -⟩ := (HGA.out.step hbB HM.out.step).rows2.read k hlt
      go_wp2_with fail
      refine (next_any b _ _ (by omega) (by omega) HM.out.tape).mono ?_
      rintro e v1 ⟨A, rfl, hA0, hA1, ht1, hs1⟩
      obtain ⟨A, rfl⟩ := Int.eq_ofNat_of_zero_le hA0
      have HM2 := Lib.hid (HM.out.next hbB2 hs1 ht1)
      have HG7 := Lib.hid (HM2.out.own.alloc (.cells #[.slice none 0 0] 25))
      have HNEW := Lib.hid (nil_news v1)
      have HZ7 : Hid (w2.heap.size ≤ (v1.alloc (.cells #[.slice none 0 0] 25)).heap.size) := Lib.hid (by rw [size_alloc]; have := HM2.out.step.size; omega)
      have HONE := Lib.hid (heads_mix (HGA.out.step hbB HM2.out.step) HPE.out)
      have hmem : gAt GA k ∈ GA := gAt_mem hlt
      have HZV := Lib.hid (owned_shape (HGA.out.2 _ hmem).1).1
      clear hs1 ht1 HM g0 hgz hmem
      go_wp2_with (at_builtin; refine wpList_append_lies _ rfl (.tmp 27) (.tmp 28) 39 rfl w2.heap.size 25 i25 _ 1 24 Tryd.underlying39 hi25 hz25 hs25 hb25 rfl (by decide) (.slice po H.length co) H.length (H.map (·.1)) (by rfl) HG7.out ⟨v1.heap.size, 0, none⟩ 1 1 [.slice none 0 0] (by rfl) rfl HNEW.out (by intro u hu; obtain rfl := List.mem_singleton.1 hu; rfl) (by decide) (by unfold maxLen; omega) (by omega) HZ7.out _ rfl ?_; intro g8 c8 w8 hown8 hgr8 hat8 hlt8; obtain ⟨cur8, hcur8, hg8, hn8, hm8, hl8, ht8⟩ := own_block hown8; (have HCUR := Lib.hid hcur8); (have HT8 := Lib.hid ht8); (have HGR := Lib.hid hgr8); clear hown8 hcur8 ht8 hgr8 hat8)
      have hsz1 : (Tryd.prog.info? 25).map (·.size) = some 1 := by kernel_rfl
      have hAG : A ≤ H.length := by omega
      have hw : IntKind.i64.wrap ((A : Int) + 1) = (A : Int) + 1 := i64w (by omega) (by omega)
      have htn : ((A : Int) + 1).toNat = A + 1 := by omega
      have hb0' : (0 : Int) ≤ (A : Int) + 1 := by omega
      have hb1 : (A : Int) + 1 ≤ (H.length : Int) + 1 := by omega
      have hb2 : (A : Int) ≤ (H.length : Int) + 1 := by omega
      have hb3 : (0 : Int) ≤ (A : Int) := by omega
      have hc8 : ¬ c8 = A := by omega
      have HAG := Lib.hid hAG
      have HN8 := Lib.hid hn8
      have HCURD : Hid (w8.drew.heap[g8]? = some (.cells cur8.toArray 25 (0, 0))) := Lib.hid HCUR.out
      clear HG7 HNEW HZ7
      by_cases hcap : c8 = A + 1
      · have HD : Hid (A < H.length → (some ⟨g8, 0, none⟩ : Option Addr) = some ⟨g8, A + 1, none⟩) := Lib.hid (fun h => by omega)
        go_region_law ((refine step_shift (by rfl) (.tmp 33) (.tmp 36) (by rfl) g8 A H.length cur8 (H.map (·.1)) (.slice none 0 0) (some ⟨g8, 0, none⟩) 0 1 (by simp [Act.eval, Act.put]) (by simp [Act.eval, Act.put]) HCURD.out HT8.out (List.length_map _) HAG.out HD.out HONE.out ?_); intro w9 hcur9 hgr9)
        obtain ⟨hM9, ⟨y9, hy9⟩, hf9⟩ := HM2.out.round (z := gAt GA k) hbB2 HGR.out hg8 hgr9 hcur9.out HT8.out HAG.out HN8.out hm8 hl8
        have HM9 := Lib.hid hM9
        rw [HZV.out] at hM9
        have HM9 := Lib.hid hM9
        have hAI : (A : Int) < (H.length : Int) + 1 := by omega
        have hlen : (H.take A ++ gAt GA k :: H.drop A).length = H.length + 1 := by rw [List.length_append, List.length_take, List.length_cons, List.length_drop]; omega
        have HLEN := Lib.hid hlen
        clear hM9 hcur9 hgr9 hlen HGR HCUR HCURD HT8
        go_wp2_with fail
        go_roundw
        case rel => exact ⟨k + 1, H.take A ++ gAt GA k :: H.drop A, some ⟨g8, 0, none⟩, c8, by omega, by rw [HLEN.out]; rw [hcap], by go_num, by rw [take_pair hlt]; exact mix_perm HPE.out, HM9.out⟩
        case measure => simp [intOf]; omega
      · go_region_law ((refine step_shift (by rfl) (.tmp 33) (.tmp 36) (by rfl) g8 A H.length cur8 (H.map (·.1)) (.slice none 0 0) (some ⟨g8, A + 1, none⟩) (c8 - (A + 1)) (c8 - A) (by simp [Act.eval, Act.put]) (by simp [Act.eval, Act.put]) HCURD.out HT8.out (List.length_map _) HAG.out (fun _ => rfl) HONE.out ?_); intro w9 hcur9 hgr9)
        obtain ⟨hM9, ⟨y9, hy9⟩, hf9⟩ := HM2.out.round (z := gAt GA k) hbB2 HGR.out hg8 hgr9 hcur9.out HT8.out HAG.out HN8.out hm8 hl8
        have HM9 := Lib.hid hM9
        rw [HZV.out] at hM9
        have HM9 := Lib.hid hM9
        have hAI : (A : Int) < (H.length : Int) + 1 := by omega
        have hlen : (H.take A ++ gAt GA k :: H.drop A).length = H.length + 1 := by rw [List.length_append, List.length_take, List.length_cons, List.length_drop]; omega
        have HLEN := Lib.hid hlen
        clear hM9 hcur9 hgr9 hlen HGR HCUR HCURD HT8
        go_wp2_with fail
        go_roundw
        case rel => exact ⟨k + 1, H.take A ++ gAt GA k :: H.drop A, some ⟨g8, 0, none⟩, c8, by omega, by rw [HLEN.out], by go_num, by rw [take_pair hlt]; exact mix_perm HPE.out, HM9.out⟩
        case measure => simp [intOf]; omega
    · obtain rfl : k = GA.length := by omega
      have hlt' : decide ((GA.length : Int) < GA.length) = false := decide_eq_false (by omega)
      rw [List.take_length] at HPE
      have HG := Lib.hid (HGA.out.step hbB HM.out.step).rows2
      have HMR := Lib.hid (show Rows2 wr w1.heap.size (.slice po H.length co) H from ⟨owns_base HM.out.own hB12, fun x hx => HG.out.2 x (HPE.out.mem_iff.1 hx)⟩)
      have HA := Lib.hid HG.out.rows
      have HMM := Lib.hid HMR.out.rows
      have HLOW := Lib.hid (HB2.out.trans (HM.out.step.below hb0 HB2.out.size))
      have hper : (H.map (·.2)).Perm (GA.map (·.2)) := HPE.out.map _
      have HPER := Lib.hid hper
      have hMl : H.length = (H.map (·.2)).length := (List.length_map _).symm
      have hLl : GA.length = (GA.map (·.2)).length := (List.length_map _).symm
      have hl8 : (GA.map (·.2)).length ≤ 8 := by omega
      have hm8 : (H.map (·.2)).length ≤ 8 := by omega
      rw [hLl] at hlt' ⊢
      rw [hMl]
      clear HPE HMR HG HM hper hMl hLl hgl hk hla
      generalize H.map (·.2) = M at *
      generalize GA.map (·.2) = LA at *
      have hS : srt M = srt LA := srt_congr HPER.out
      have HS := Lib.hid hS
      have HS1 := Lib.hid (fun (u : World) (hu : RowsAt u po M) => hT.sort M po co u (by omega) hu)
      have HS2 := Lib.hid (fun (u : World) (hu : RowsAt u pa LA) => hT.sort LA pa ca u (by omega) hu)
      have HCNT := Lib.hid (fun r : List Val => (srt_perm LA).count_eq r)
      have HSO := Lib.hid (srt_sorted LA)
      have hsl := srt_length LA
      unfold SortedPost at HS1 HS2
      rw [hS] at HS1
      clear hS
      generalize hSL : srt LA = S at HS1 HS2 HCNT HSO hsl
      have HSL := Lib.hid hSL
      clear hSL
      have hq : (((S.length : Nat) : Int) == (LA.length : Int)) = true := beq_iff_eq.2 (by omega)
      have hs8 : S.length ≤ 8 := by omega
      clear hsl
      go_wp2_with fail
      refine (HS1.out _ HMM.out).mono ?_
      rintro e w3 ⟨ps, cs, rfl, hs, -, hb⟩
      have HF3 := Lib.hid (SortsAt.mk (HA.out.low hb) (HMM.out.low hb) hs (below_next HLOW.out hb) : SortsAt w w3 pa po ps LA M S)
      clear hs hb HA HMM HLOW HS1
      go_wp2_with fail
      go_loopw [10, 11, 47] (fun _ _ i v => ∃ k : Nat, k ≤ S.length ∧ i = .int .i64 k ∧ SortsAt w v pa po ps LA M S) (fun _ _ i _ => S.length - (intOf i).toNat)
      case atStart => exact ⟨0, Nat.zero_le _, rfl, HF3.out⟩
      clear HF3
      case round =>
        obtain ⟨k, hk, rfl, hf⟩ := hrel
        have HF := Lib.hid hf
        clear hf
        by_cases hlt : k < S.length
        · have hlt' : decide ((k : Int) < S.length) = true := decide_eq_true (by omega)
          obtain ⟨c, o, q, cp, rfl, hc, h0, hr, hs, -⟩ := HF.out.s k hlt
          have HR := Lib.hid hr
          have ht63 : (rAt S k).length ≤ 9223372036854775807 := by omega
          clear hr
          by_cases hk0 : k = 0
          · have hd0 : decide (0 < k) = false := decide_eq_false (by omega)
            have hd1 : ¬ 0 < k := by omega
            clear hk0
            go_wp2_with fail
            refine (hT.count S _ cs (rAt S k) q cp _ (by omega) hs HF.out.s HR.out).mono ?_
            rintro e v1 ⟨rfl, hb⟩
            have HF1 := Lib.hid (HF.out.low hb)
            have HR1 := Lib.hid (HR.out.low hb)
            rw [HCNT.out]
            clear hb HF HR
            go_wp2_with fail
            refine (rcount_any LA pa ca (rAt S k) q cp _ (by omega) ht63 HF1.out.a HR1.out).mono ?_
            rintro e v2 ⟨rfl, hb⟩
            have HF2 := Lib.hid (HF1.out.low hb)
            clear hb HF1 HR1
            go_wp2_with fail
            go_roundw
            case rel => exact ⟨k + 1, by omega, by go_num, HF2.out⟩
            case measure => simp [intOf]; omega
          · obtain ⟨d, rfl⟩ : ∃ d, k = d + 1 := ⟨k - 1, by omega⟩
            have hd0 : decide ((0 : Int) < ((d + 1 : Nat) : Int)) = true := decide_eq_true (by omega)
            obtain ⟨c', o', q', cp', hp', hc', h0', hr', hs', -⟩ := HF.out.s d (by omega)
            obtain ⟨rfl, rfl⟩ : c = c' ∧ o = o' := by injection hp' with hp'; injection hp' with h1 h2; exact ⟨h1, h2⟩
            have HR' := Lib.hid hr'
            have hcmp : decide (0 < cmpRow (rAt S d) (rAt S (d + 1))) = false := decide_eq_false (sorted_at HSO.out hlt)
            clear hr' hp'
            go_wp2_with fail
            refine (rcomparerows_any q' q (rAt S d) (rAt S (d + 1)) cp' cp _ (by omega) ht63 HR'.out HR.out).mono ?_
            rintro e v0 ⟨rfl, hb⟩
            have HF0 := Lib.hid (HF.out.low hb)
            have HR0 := Lib.hid (HR.out.low hb)
            clear hb HF HR HR' h0 h0' hc hc'
            go_wp2_with fail
            refine (hT.count S _ cs (rAt S (d + 1)) q cp _ (by omega) hs HF0.out.s HR0.out).mono ?_
            rintro e v1 ⟨rfl, hb⟩
            have HF1 := Lib.hid (HF0.out.low hb)
            have HR1 := Lib.hid (HR0.out.low hb)
            rw [HCNT.out]
            clear hb HF0 HR0
            go_wp2_with fail
            refine (rcount_any LA pa ca (rAt S (d + 1)) q cp _ (by omega) ht63 HF1.out.a HR1.out).mono ?_
            rintro e v2 ⟨rfl, hb⟩
            have HF2 := Lib.hid (HF1.out.low hb)
            clear hb HF1 HR1
            go_wp2_with fail
            go_roundw
            case rel => exact ⟨(d + 1) + 1, by omega, by go_num, HF2.out⟩
            case measure => simp [intOf]; omega
        · obtain rfl : k = S.length := by omega
          have hlt' : decide ((S.length : Int) < S.length) = false := decide_eq_false (by omega)
          go_wp2_with fail
          refine (HS2.out _ HF.out.a).mono ?_
          rintro e v1 ⟨p9, c9, rfl, hs9, -, hb⟩
          have HF1 := Lib.hid (HF.out.low hb)
          have HS9 := Lib.hid hs9
          clear hb HF hs9
          go_wp2_with fail
          refine (sametuples_any S S ps p9 cs c9 _ (by omega) HF1.out.s HS9.out).mono ?_
          rintro e v2 ⟨rfl, hb⟩
          have HF2 := Lib.hid (HF1.out.low hb)
          rw [show decide (S = S) = true from decide_eq_true rfl]
          clear hb HF1 HS9
          go_wp2_with fail
          refine (hT.same LA M pa po ca co _ (by omega) (by omega) HF2.out.a HF2.out.m).mono ?_
          rintro e v3 ⟨rfl, hb⟩
          have HF3 := Lib.hid (HF2.out.low hb)
          rw [show decide (srt LA = srt M) = true from decide_eq_true HS.out.symm]
          clear hb HF2
          go_wp2_with fail
          refine (known5_any hT _).mono ?_
          rintro e v4 ⟨rfl, hb⟩
          have HF4 := Lib.hid (HF3.out.low hb)
          clear hb
          go_wp2_with fail
          go_ret
          exact ⟨rfl, HF4.out.low'⟩
end Go.Proofs.YtgaihglploedaaaDoor
