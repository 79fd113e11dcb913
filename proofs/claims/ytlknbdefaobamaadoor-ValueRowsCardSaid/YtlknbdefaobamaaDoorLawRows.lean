/-
  THE STATEMENT ValueRows, as a walk.
-/
import Derived.Test.YtlknbdefaobamaaDoorRowOrder
import Derived.Test.YtlknbdefaobamaaDoorKnown
import Derived.Deep.CutRange
import Derived.BigQuiet
namespace Go.Proofs.YtlknbdefaobamaaDoor
open Go.RowKit

/-- What the rounds lean on. -/
def RowsInv (w u : World) (b B0 : Nat) (vo : Value) (G : List (Value × List Val)) : Prop := Grid u B0 vo G ∧ TapeAt u b ∧ Env u ∧ Below w.heap.size w u
theorem RowsInv.step {w u v : World} {b B0 : Nat} {vo : Value} {G : List (Value × List Val)} (h : RowsInv w u b B0 vo G) (hb : b < B0) (h8 : 8 ≤ b) (hw : w.heap.size ≤ b) (hs : StepT b u v) (ht : TapeAt v b) : RowsInv w v b B0 vo G :=
  ⟨h.1.step hb hs, ht, h.2.2.1.step hs h8, h.2.2.2.trans (hs.below hw h.2.2.2.size)⟩
theorem RowsInv.low {w u v : World} {b B0 : Nat} {vo : Value} {G : List (Value × List Val)} (h : RowsInv w u b B0 vo G) (hb : b < B0) (h8 : 8 ≤ b) (hw : w.heap.size ≤ b) (hs : Below u.heap.size u v) : RowsInv w v b B0 vo G :=
  h.step hb h8 hw (StepT.of_below hs) (h.2.1.below hs)
theorem RowsInv.read {w u : World} {b B0 g cap : Nat} {G : List (Value × List Val)} (h : RowsInv w u b B0 (.slice (some ⟨g, 0, none⟩) G.length cap) G) (i : Nat) (hi : i < G.length) :
    u.cell? ⟨g, i, none⟩ = some (.slice (rowP (gAt G i).1) (gAt G i).2.length (rowC (gAt G i).1)) ∧ RowAt u (rowP (gAt G i).1) (gAt G i).2 ∧ (rowP (gAt G i).1 = none → (gAt G i).2 = [] ∧ rowC (gAt G i).1 = 0) ∧ (gAt G i).2.length ≤ 4 := by
  obtain ⟨g', hp, r⟩ := h.1.read i hi
  injection hp with hp
  injection hp with hp
  subst hp
  exact r

theorem comparerows_n (p q : Option Addr) (a b : List Val) (n m ca cb : Nat) (w : World) (hn : a.length = n) (hm : b.length = m) (hla : n ≤ 9223372036854775807) (hlb : m ≤ 9223372036854775807) (ha : RowAt w p a) (hb : RowAt w q b) :
    Calls Tryd.prog 25 #[.slice p n ca, .slice q m cb] w fun e w' => e = .returned (.int .i64 (cmpRow a b)) ∧ Below w.heap.size w w' := by
  subst hn hm
  exact comparerows_any p q a b ca cb w hla hlb ha hb

theorem neq_val (k n : Int) (s : ByteArray) (k' n' : Int) (s' : ByteArray) (w : World) :
    (binOp .neq 23 (.agg #[.int .i64 k, .int .i64 n, .string s]) (.agg #[.int .i64 k', .int .i64 n', .string s'])).run Tryd.prog w = .ok (.bool (!sameV k n s k' n' s')) w := by
  go_simp
  unfold sameV
  by_cases h1 : k = k'
  · by_cases h2 : n = n'
    · by_cases h3 : s = s'
      · simp [h1, h2, h3]
      · have h4 : ¬ s.toList = s'.toList := fun h => h3 (WideShapes.bytes_inj (by rw [ByteArray.toList_eq, ByteArray.toList_eq] at h; exact h))
        simp [h1, h2, h3, h4]
    · simp [h1, h2]
  · simp [h1]

theorem RowsInv.drew {w u : World} {b B0 : Nat} {vo : Value} {G : List (Value × List Val)} (h : RowsInv w u b B0 vo G) (hb : b < B0) (h8 : 8 ≤ b) (hw : w.heap.size ≤ b) (n : Nat) : RowsInv w (u.drewN n) b B0 vo G :=
  h.step hb h8 hw ((StepT.refl b _).drewN _) h.2.1

theorem keepR {w u v : World} {b B0 ca oa cb ob : Nat} {vo : Value} {G : List (Value × List Val)} {A B : List Val} (hbB : b < B0) (h8b : 8 ≤ b) (hb0 : w.heap.size ≤ b) (hs : Below u.heap.size u v)
    (h : u.cell? ⟨ca, oa, none⟩ = some (.int .i64 (vAt A 0).1) ∧ u.cell? ⟨ca, oa + 1, none⟩ = some (.int .i64 (vAt A 0).2.1) ∧ u.cell? ⟨ca, oa + 2, none⟩ = some (.string (vAt A 0).2.2) ∧ u.cell? ⟨cb, ob, none⟩ = some (.int .i64 (vAt B 0).1) ∧ u.cell? ⟨cb, ob + 1, none⟩ = some (.int .i64 (vAt B 0).2.1) ∧ u.cell? ⟨cb, ob + 2, none⟩ = some (.string (vAt B 0).2.2) ∧ ca < u.heap.size ∧ cb < u.heap.size ∧ RowAt u (some ⟨ca, oa, none⟩) A ∧ RowAt u (some ⟨cb, ob, none⟩) B ∧ RowsInv w u b B0 vo G) :
    v.cell? ⟨ca, oa, none⟩ = some (.int .i64 (vAt A 0).1) ∧ v.cell? ⟨ca, oa + 1, none⟩ = some (.int .i64 (vAt A 0).2.1) ∧ v.cell? ⟨ca, oa + 2, none⟩ = some (.string (vAt A 0).2.2) ∧ v.cell? ⟨cb, ob, none⟩ = some (.int .i64 (vAt B 0).1) ∧ v.cell? ⟨cb, ob + 1, none⟩ = some (.int .i64 (vAt B 0).2.1) ∧ v.cell? ⟨cb, ob + 2, none⟩ = some (.string (vAt B 0).2.2) ∧ ca < v.heap.size ∧ cb < v.heap.size ∧ RowAt v (some ⟨ca, oa, none⟩) A ∧ RowAt v (some ⟨cb, ob, none⟩) B ∧ RowsInv w v b B0 vo G := by
  obtain ⟨x0, x1, x2, y0, y1, y2, hca, hcb, ha, hb, hR⟩ := h
  have hz := hs.size
  exact ⟨by rw [hs.cell (by exact hca)]; exact x0, by rw [hs.cell (by exact hca)]; exact x1, by rw [hs.cell (by exact hca)]; exact x2, by rw [hs.cell (by exact hcb)]; exact y0, by rw [hs.cell (by exact hcb)]; exact y1, by rw [hs.cell (by exact hcb)]; exact y2, by omega, by omega, ha.low hs, hb.low hs, hR.low hbB h8b hb0 hs⟩

set_option maxRecDepth 100000 in
set_option maxHeartbeats 8000000 in
theorem vrows_walk (w : World) (p : Option Addr) (len cap : Nat) (hl : len ≤ cap) (hm : len ≤ 9223372036854775807) (h : IntsAt w p len) (hE : Env w) :
    Calls Tryd.prog 7 #[.slice p len cap] w fun e w' => e = .returned (.bool true) ∧ Below w.heap.size w w' := by
  have HI := Lib.hid h
  clear h
  have hz8 := hE.size
  go_enter Tryd.func7, Tryd.ntmps7
  go_wp2_with fail
  refine (new_any w p len cap hl hm HI.out).mono ?_
  rintro e w1 ⟨b, rfl, hb0, ht, hb1⟩
  have hE1 := hE.low hb1
  have h8b : 8 ≤ b := by omega
  have hbw : b ≠ 1 := by omega
  have hbB : b < w1.heap.size := ht.lt
  go_wp2_with fail
  refine (rows_any b 5 w1 (by omega) hbw ht hE1.words).mono ?_
  rintro e w2 ⟨vo, G, rfl, hG, hn, ht2, hs2⟩
  have hG5 : G.length ≤ 5 := by omega
  have hR : RowsInv w w2 b w1.heap.size vo G := ⟨hG, ht2, hE1.step hs2 h8b, hb1.trans (hs2.below hb0 hb1.size)⟩
  clear hE hE1 hb1 ht ht2 hs2 HI hn
  generalize w1.heap.size = B0 at hbB hR hG
  rcases hG.1.2 with ⟨rfl, h0⟩ | ⟨g, cg, cur, rfl, -⟩
  · clear hG
    have hG0 : G = [] := List.eq_nil_of_length_eq_zero h0
    subst hG0
    go_wp2
    go_loopw [6, 7, 18] (fun _ _ i wr => i = .int .i64 0 ∧ RowsInv w wr b B0 (.slice none 0 0) []) (fun _ _ _ _ => 0)
    case atStart => exact ⟨rfl, hR⟩
    case round =>
      clear hR
      obtain ⟨rfl, hR⟩ := hrel
      go_wp2_with (go_at_call 21; refine (known_any _ hR.2.2.1).mono ?_; rintro e wk ⟨rfl, hk⟩)
      go_ret
      exact ⟨rfl, Below.next hR.2.2.2 hk⟩
  · clear hG
    go_wp2
    go_loopw [6, 7, 18] (fun _ _ i wr => ∃ c : Nat, c ≤ G.length ∧ i = .int .i64 c ∧ RowsInv w wr b B0 (.slice (some ⟨g, 0, none⟩) G.length cg) G) (fun _ _ i _ => G.length - (intOf i).toNat)
    case atStart => exact ⟨0, by omega, rfl, hR⟩
    case round =>
      clear hR
      obtain ⟨c, hc, rfl, hR⟩ := hrel
      by_cases hlt : c < G.length
      · obtain ⟨hcell, hra, hna, hla⟩ := hR.read c hlt
        have hdc : decide ((c : Int) < (G.length : Int)) = true := by simp; omega
        have hR1 := hR.low hbB h8b hb0 (low_alloc wr (.cells #[] 23))
        have hra1 := hra.low (low_alloc wr (.cells #[] 23))
        have hown := owns_empty wr
        go_wp2_with (at_builtin; refine wpList_append_vals rfl (.tmp 22) (.tmp 23) rfl wr.heap.size _ 0 [] rfl hown _ (gAt G c).2 _ rfl hra1 hna ?_ ?_ ?_; (omega); (simp); (intro v3 w3 hown3 hgr3))
        have hbr : b < wr.heap.size := hR.2.1.lt
        have hst3 : StepT b wr w3 := step_grown_from ((StepT.refl b wr).alloc _) hgr3 (by intro k hk; obtain rfl := Option.some.inj hk; exact Nat.le_refl _)
        have ht3 : TapeAt w3 b := (hR.2.1.alloc _).grown hgr3 (by intro k hk; obtain rfl := Option.some.inj hk; exact hbr)
        have hR3 := hR.step hbB h8b hb0 hst3 ht3
        clear hown hra hra1 hR1 hgr3 ht3 hna hcell
        refine (value_any b _ hbw hR3.2.1 hR3.2.2.1.words).mono ?_
        rintro e w4 ⟨kk, nn, ss, rfl, -, -, ht4, hs4⟩
        have hst5 := (hst3.trans hs4).alloc (.cells #[.int .i64 kk, .int .i64 nn, .string ss] 23)
        have ht5 := ht4.alloc (.cells #[.int .i64 kk, .int .i64 nn, .string ss] 23)
        have hown4 := owns_step (owns_step hown3 hbr hs4) hbr ((StepT.refl b w4).alloc (.cells #[.int .i64 kk, .int .i64 nn, .string ss] 23))
        have hrow := row_new w4 kk nn ss 23
        have hz5 : wr.heap.size ≤ (w4.alloc (.cells #[.int .i64 kk, .int .i64 nn, .string ss] 23)).heap.size := hst5.size
        clear hown3 hR3 hs4 ht4 hst3
        go_upto_region 7 with (at_builtin; refine wpList_append_vals rfl (.tmp 24) (.tmp 27) rfl wr.heap.size _ _ _ rfl hown4 _ [(kk, nn, ss)] 1 rfl hrow (by intro h; cases h) ?_ hz5 ?_; (simp only [List.length_singleton]; omega); (intro v6 w6 hown6 hgr6))
        have hst6 : StepT b wr w6 := step_grown_from hst5 hgr6 (owns_block hown4)
        have ht6 : TapeAt w6 b := ht5.grown hgr6 (fun k hk => by have := owns_block hown4 k hk; omega)
        have hR6 := hR.step hbB h8b hb0 hst6 ht6
        obtain ⟨pl, cl, hv6, hn6, hrl⟩ := row_of_owns hown6
        have hv6' : v6 = .slice pl ((gAt G c).2.length + 1) cl := by rw [hv6]; simp
        have hll : ((gAt G c).2 ++ [(kk, nn, ss)]).length = (gAt G c).2.length + 1 := by simp
        rw [List.nil_append] at hrl
        rw [hv6']
        clear hv6 hv6' hn6 hown6 hown4 hgr6 hst5 hst6 ht5 ht6 hrow hz5 hR hbr
        obtain ⟨-, hra, -, -⟩ := hR6.read c hlt
        go_wp2_with fail
        refine (comparerows_n _ pl (gAt G c).2 ((gAt G c).2 ++ [(kk, nn, ss)]) _ _ _ _ _ rfl hll (by omega) (by omega) hra hrl).mono ?_
        rintro e w7 ⟨rfl, hb7⟩
        rw [cmpRow_prefix]
        have hra7 := hra.low hb7
        have hrl7 := hrl.low hb7
        have hR7 := hR6.low hbB h8b hb0 hb7
        clear hra hrl hR6 hb7
        go_wp2_with fail
        refine (comparerows_n pl _ ((gAt G c).2 ++ [(kk, nn, ss)]) (gAt G c).2 _ _ _ _ _ hll rfl (by omega) (by omega) hrl7 hra7).mono ?_
        rintro e w8 ⟨rfl, hb8⟩
        rw [cmpRow_prefix']
        have hR8 := hR7.low hbB h8b hb0 hb8
        clear hra7 hrl7 hR7 hb8 hll
        go_wp2
        go_loopw [9, 41] (fun _ i wr2 => ∃ d : Nat, d ≤ G.length ∧ i = .int .i64 d ∧ RowsInv w wr2 b B0 (.slice (some ⟨g, 0, none⟩) G.length cg) G) (fun _ i _ => G.length - (intOf i).toNat)
        case atStart => exact ⟨0, by omega, rfl, hR8⟩
        case round =>
          clear hR8
          obtain ⟨d, hd, rfl, hR⟩ := hrel
          by_cases hlt2 : d < G.length
          · obtain ⟨hcell, hrb, -, hlb⟩ := hR.read d hlt2
            obtain ⟨-, hra, -, -⟩ := hR.read c hlt
            have hdd : decide ((d : Int) < (G.length : Int)) = true := by simp; omega
            go_wp2_with fail
            refine (comparerows_n _ _ (gAt G c).2 (gAt G d).2 _ _ _ _ _ rfl rfl (by omega) (by omega) hra hrb).mono ?_
            rintro e w9 ⟨rfl, hb9⟩
            have hra9 := hra.low hb9
            have hrb9 := hrb.low hb9
            have hR9 := hR.low hbB h8b hb0 hb9
            have bd1 := (cmpRow_bd (gAt G d).2 (gAt G c).2).1
            have bd2 := (cmpRow_bd (gAt G d).2 (gAt G c).2).2
            have hneg : (cmpRow (gAt G c).2 (gAt G d).2 != - cmpRow (gAt G d).2 (gAt G c).2) = false := by rw [← cmpRow_neg]; simp
            clear hcell hra hrb hR hb9
            go_wp2_with fail
            refine (comparerows_n _ _ (gAt G d).2 (gAt G c).2 _ _ _ _ _ rfl rfl (by omega) (by omega) hrb9 hra9).mono ?_
            rintro e w10 ⟨rfl, hb10⟩
            have hra10 := hra9.low hb10
            have hrb10 := hrb9.low hb10
            have hR10 := hR9.low hbB h8b hb0 hb10
            clear hra9 hrb9 hR9 hb10
            go_upto_region 14 with (fail)
            go_cut [82] from 53 to 82 (fun s82 wx => s82 = .bool false ∧ RowsInv w wx b B0 (.slice (some ⟨g, 0, none⟩) G.length cg) G)
            case first =>
              by_cases la0 : 0 < (gAt G c).2.length
              · have hla0 : (0 : Int) < ((gAt G c).2.length : Int) := by omega
                have hga : decide ((0 : Int) < ((gAt G c).2.length : Int)) = true := by simpa using la0
                by_cases lb0 : 0 < (gAt G d).2.length
                · obtain ⟨ca, oa, hpa, hca, x0, x1, x2⟩ := hra10 0 la0
                  obtain ⟨cb, ob, hpb, hcb, y0, y1, y2⟩ := hrb10 0 lb0
                  have hlb0 : (0 : Int) < ((gAt G d).2.length : Int) := by omega
                  have hgb : decide ((0 : Int) < ((gAt G d).2.length : Int)) = true := decide_eq_true hlb0
                  rw [Nat.zero_mul, Nat.add_zero] at x0 x1 x2 y0 y1 y2
                  have hq := neq_val (vAt (gAt G c).2 0).1 (vAt (gAt G c).2 0).2.1 (vAt (gAt G c).2 0).2.2 (vAt (gAt G d).2 0).1 (vAt (gAt G d).2 0).2.1 (vAt (gAt G d).2 0).2.2
                  rw [hpa, hpb]
                  by_cases hs : sameV (vAt (gAt G c).2 0).1 (vAt (gAt G c).2 0).2.1 (vAt (gAt G c).2 0).2.2 (vAt (gAt G d).2 0).1 (vAt (gAt G d).2 0).2.1 (vAt (gAt G d).2 0).2.2 = true
                  · go_quiet (fail)
                    go_wp2_with fail
                    rw [← hpa, ← hpb]
                    go_meet
                    exact ⟨rfl, hR10.drew hbB h8b hb0 _⟩
                  · have hsf := Bool.eq_false_iff.2 hs
                    have hne : ¬ cmpVal (vAt (gAt G c).2 0) (vAt (gAt G d).2 0) = 0 := fun hz => hs (sameV_iff.2 ((cmpV_zero _ _ _ _ _ _).1 hz))
                    have hcne : (cmpRow (gAt G c).2 (gAt G d).2 != cmpV (vAt (gAt G c).2 0).1 (vAt (gAt G c).2 0).2.1 (vAt (gAt G c).2 0).2.2 (vAt (gAt G d).2 0).1 (vAt (gAt G d).2 0).2.1 (vAt (gAt G d).2 0).2.2) = false := by
                      rw [cmpRow_first la0 lb0 hne]; simp [cmpVal]
                    have hraA : RowAt w10.drew (some ⟨ca, oa, none⟩) (gAt G c).2 := hpa ▸ hra10.low (Below.refl _ _).drew
                    have hrbA : RowAt w10.drew (some ⟨cb, ob, none⟩) (gAt G d).2 := hpb ▸ hrb10.low (Below.refl _ _).drew
                    have hRA := hR10.low hbB h8b hb0 (Below.refl _ _).drew
                    clear hs hne hra10 hrb10 hR10 hneg bd1 bd2
                    go_region_held3 (fun u => u.cell? ⟨ca, oa, none⟩ = some (.int .i64 (vAt (gAt G c).2 0).1) ∧ u.cell? ⟨ca, oa + 1, none⟩ = some (.int .i64 (vAt (gAt G c).2 0).2.1) ∧ u.cell? ⟨ca, oa + 2, none⟩ = some (.string (vAt (gAt G c).2 0).2.2) ∧ u.cell? ⟨cb, ob, none⟩ = some (.int .i64 (vAt (gAt G d).2 0).1) ∧ u.cell? ⟨cb, ob + 1, none⟩ = some (.int .i64 (vAt (gAt G d).2 0).2.1) ∧ u.cell? ⟨cb, ob + 2, none⟩ = some (.string (vAt (gAt G d).2 0).2.2) ∧ ca < u.heap.size ∧ cb < u.heap.size ∧ RowAt u (some ⟨ca, oa, none⟩) (gAt G c).2 ∧ RowAt u (some ⟨cb, ob, none⟩) (gAt G d).2 ∧ RowsInv w u b B0 (.slice (some ⟨g, 0, none⟩) G.length cg) G)
                      (first
                        | exact ⟨x0, x1, x2, y0, y1, y2, hca, hcb, hraA, hrbA, hRA⟩
                        | exact keepR hbB h8b hb0 hbq (by assumption))
                      (first
                        | (go_at_call 25; refine (comparerows_n _ _ (gAt G c).2 (gAt G d).2 _ _ _ _ _ rfl rfl ?_ ?_ ?_ ?_).mono ?_; (omega); (omega); (go_split_ands; assumption); (go_split_ands; assumption); rintro e wq ⟨rfl, hbq⟩)
                        | (go_at_call 22; refine (compare_any _ _ _ _ _ _ _).mono ?_; rintro e wq ⟨rfl, hbq⟩))
                    rename_i hHeld
                    obtain ⟨-, -, -, -, -, -, -, -, -, -, hRX⟩ := hHeld
                    go_wp2_with fail
                    rw [← hpa, ← hpb]
                    go_meet
                    exact ⟨rfl, hRX⟩
                · have hgb : decide ((0 : Int) < ((gAt G d).2.length : Int)) = false := decide_eq_false (by omega)
                  go_quiet (fail)
                  go_wp2_with fail
                  go_meet
                  exact ⟨rfl, hR10.drew hbB h8b hb0 _⟩
              · have hga : decide ((0 : Int) < ((gAt G c).2.length : Int)) = false := decide_eq_false (by omega)
                go_quiet (fail)
                go_wp2_with fail
                go_meet
                exact ⟨rfl, hR10.drew hbB h8b hb0 _⟩
            case rest =>
              clear hra10 hrb10 hR10 hneg bd1 bd2
              obtain ⟨rfl, hR⟩ := hcut
              go_wp2
              go_loopw [11, 85] (fun _ i wr3 => ∃ f : Nat, f ≤ G.length ∧ i = .int .i64 f ∧ RowsInv w wr3 b B0 (.slice (some ⟨g, 0, none⟩) G.length cg) G) (fun _ i _ => G.length - (intOf i).toNat)
              case atStart => exact ⟨0, by omega, rfl, hR⟩
              case round =>
                clear hR
                obtain ⟨f, hf, rfl, hR⟩ := hrel
                by_cases hlt3 : f < G.length
                · obtain ⟨hcell, hrc, -, hlc⟩ := hR.read f hlt3
                  obtain ⟨-, hra, -, -⟩ := hR.read c hlt
                  obtain ⟨-, hrb, -, -⟩ := hR.read d hlt2
                  have hdf : decide ((f : Int) < (G.length : Int)) = true := by simp; omega
                  have TR := Lib.hid (@cmpRow_trans (gAt G c).2 (gAt G d).2 (gAt G f).2)
                  go_wp2_with fail
                  refine (comparerows_n _ _ (gAt G c).2 (gAt G d).2 _ _ _ _ _ rfl rfl (by omega) (by omega) hra hrb).mono ?_
                  rintro e wa ⟨rfl, hba⟩
                  have hra1 := hra.low hba
                  have hrb1 := hrb.low hba
                  have hrc1 := hrc.low hba
                  have hRa := hR.low hbB h8b hb0 hba
                  clear hcell hra hrb hrc hR hba
                  by_cases h1 : cmpRow (gAt G c).2 (gAt G d).2 ≤ 0
                  · go_wp2_with fail
                    refine (comparerows_n _ _ (gAt G d).2 (gAt G f).2 _ _ _ _ _ rfl rfl (by omega) (by omega) hrb1 hrc1).mono ?_
                    rintro e wb ⟨rfl, hbb⟩
                    have hra2 := hra1.low hbb
                    have hrc2 := hrc1.low hbb
                    have hRb := hRa.low hbB h8b hb0 hbb
                    clear hra1 hrb1 hrc1 hRa hbb
                    by_cases h2 : cmpRow (gAt G d).2 (gAt G f).2 ≤ 0
                    · have h3 := TR.out h1 h2
                      go_wp2_with fail
                      refine (comparerows_n _ _ (gAt G c).2 (gAt G f).2 _ _ _ _ _ rfl rfl (by omega) (by omega) hra2 hrc2).mono ?_
                      rintro e wd ⟨rfl, hbd⟩
                      have hRd := hRb.low hbB h8b hb0 hbd
                      clear hra2 hrc2 hRb hbd
                      go_wp2
                      go_roundw
                      case rel => exact ⟨f + 1, by omega, by go_num, hRd⟩
                      case measure => simp [intOf]; omega
                    · go_wp2
                      go_roundw
                      case rel => exact ⟨f + 1, by omega, by go_num, hRb⟩
                      case measure => simp [intOf]; omega
                  · go_wp2
                    go_roundw
                    case rel => exact ⟨f + 1, by omega, by go_num, hRa⟩
                    case measure => simp [intOf]; omega
                · go_wp2
                  go_roundw
                  case rel => exact ⟨d + 1, by omega, by go_num, hR⟩
                  case measure => simp [intOf]; omega
          · go_wp2
            go_roundw
            case rel => exact ⟨c + 1, by omega, by go_num, hR⟩
            case measure => simp [intOf]; omega
      · go_wp2_with (go_at_call 21; refine (known_any _ hR.2.2.1).mono ?_; rintro e wk ⟨rfl, hk⟩)
        go_ret
        exact ⟨rfl, Below.next hR.2.2.2 hk⟩
end Go.Proofs.YtlknbdefaobamaaDoor
