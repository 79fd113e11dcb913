/-
  The sanity check of the statements about tuples holds, if the program's functions do what the contracts say.
-/
import Derived.Test.YtlgagibmndbimaaDoorRminus
import Derived.Test.YtlgagibmndbimaaDoorSameTup
import Derived.Test.YtlgagibmndbimaaDoorTapeRows
namespace Go.Proofs.YtlgagibmndbimaaDoor
open Go.RowKit
variable {ls : List Nat}

set_option maxHeartbeats 400000 in
theorem rnumber_any (n : Int) (w : World) :
    Calls Tryd.prog 47 #[.int .i64 n] w fun e w' => e = .returned (.agg #[.int .i64 1, .int .i64 n, .string ⟨#[]⟩]) ∧ Below w.heap.size w w' := by
  go_enter Tryd.func47, Tryd.ntmps47
  go_wp2
  exact bodyPost_ret (v := .agg #[.int .i64 1, .int .i64 n, .string ⟨#[]⟩]) (by simp [results, Tryd.results47, go_sem]) rfl ⟨rfl, (Below.refl _ _).alloc (Nat.le_refl _) _⟩
/-- A row of one number. -/
def R1 (n : Int) : List Val := [(1, n, ⟨#[]⟩)]
structure One (w : World) (p : Option Addr) (n : Int) : Prop where
  at' : RowAt w p (R1 n)
  some' : p ≠ none
theorem One.low {u v : World} {p : Option Addr} {n : Int} (h : One u p n) (hb : Below u.heap.size u v) : One v p n := ⟨h.1.low hb, h.2⟩
theorem One.new {u : World} {p : Option Addr} {n : Int} (h : One u p n) (o : Obj) : One (u.alloc o) p n := h.low (below_alloc _ _)
theorem RowsAt.new {u : World} {p : Option Addr} {L : List (List Val)} (h : RowsAt u p L) (o : Obj) : RowsAt (u.alloc o) p L := h.low (below_alloc _ _)
def OnePost (n : Int) (w : World) (e : Ending) (w' : World) : Prop := ∃ (p : Option Addr) (cap : Nat), e = .returned (.slice p 1 cap) ∧ One w' p n ∧ Below w.heap.size w w'
set_option maxHeartbeats 1000000 in
theorem rowN_any (n : Int) (g : Nat) (w : World) (hc : w.cell? ⟨g, 0, none⟩ = some (.int .i64 n)) (hg : g < w.heap.size) :
    Calls Tryd.prog 34 #[.slice (some ⟨g, 0, none⟩) 1 1] w (OnePost n w) := by
  go_enter Tryd.func34, Tryd.ntmps34
  go_wp2_with fail
  go_loopw [3, 8] (fun vo i v => ∃ k : Nat, k ≤ 1 ∧ i = .int .i64 k ∧ v.ownsRow w.heap.size 34 3 vo k (vcells (List.replicate k ((1, n, ⟨#[]⟩) : Val))) ∧ Below w.heap.size w v) (fun _ i _ => 1 - (intOf i).toNat)
  case atStart => exact ⟨0, Nat.zero_le _, rfl, ⟨rfl, Or.inl ⟨rfl, rfl⟩⟩, Below.refl _ _⟩
  case round =>
    obtain ⟨k, hk, rfl, ho, hb⟩ := hrel
    have HB := Lib.hid hb
    have HO := Lib.hid ho
    clear ho
    by_cases hlt : k < 1
    · obtain rfl : k = 0 := by omega
      have h0 : wr.cell? ⟨g, 0, none⟩ = some (.int .i64 n) := by rw [hb.cell (by exact hg)]; exact hc
      clear hb
      go_wp2_with fail
      refine (rnumber_any n _).mono ?_
      rintro e w4 ⟨rfl, hb4⟩
      have HO4 := Lib.hid (owns_below (owns_below HO.out hb4) (below_alloc w4 (.cells #[.int .i64 1, .int .i64 n, .string ⟨#[]⟩] 34)))
      have HB4 := Lib.hid (below_next (below_next HB.out hb4) (below_alloc w4 (.cells #[.int .i64 1, .int .i64 n, .string ⟨#[]⟩] 34)))
      have HROW := Lib.hid (row_new w4 1 n ⟨#[]⟩ 34)
      have HZ : Hid (w.heap.size ≤ (w4.alloc (.cells #[.int .i64 1, .int .i64 n, .string ⟨#[]⟩] 34)).heap.size) := Lib.hid HB4.out.size
      clear hb4 h0
      go_wp2_with (at_builtin; refine wpList_append_vals rfl (.tmp 12) (.tmp 15) rfl w.heap.size _ 0 (List.replicate 0 (1, n, ⟨#[]⟩)) rfl HO4.out _ [(1, n, ⟨#[]⟩)] 1 rfl HROW.out (by intro h; cases h) (by simp only [List.length_singleton]; omega) HZ.out ?_; intro v8 w8 hown8 hgr8; (have HO8 := Lib.hid hown8); (have HB8 := Lib.hid (grown_below HB4.out HZ.out hgr8 (owns_block HO4.out))); clear hown8 hgr8)
      go_roundw
      case rel => exact ⟨1, by omega, by go_num, HO8.out, HB8.out⟩
      case measure => simp [intOf]
    · obtain rfl : k = 1 := by omega
      clear hb
      obtain ⟨hv, hr, hn⟩ := owned_shape (l := [(1, n, ⟨#[]⟩)]) HO.out
      have HR := Lib.hid hr
      have HN := Lib.hid hn
      have HV := Lib.hid hv
      clear hv hr hn
      go_wp2
      go_ret
      exact ⟨_, _, by rw [HV.out]; rfl, ⟨HR.out, fun h => by cases (HN.out h).1⟩, HB.out⟩

theorem rows_two {u : World} {p1 p2 : Option Addr} {c1 c2 : Nat} {a b : Int} (h1 : One u p1 a) (h2 : One u p2 b) (N : Nat) (hN : u.heap.size = N) :
    RowsAt (u.alloc (.cells #[.slice p1 1 c1, .slice p2 1 c2] 25)) (some ⟨N, 0, none⟩) [R1 a, R1 b] := by
  subst hN
  intro i hi
  match i, hi with
  | 0, _ => exact ⟨u.heap.size, 0, p1, c1, rfl, by go_simp, by go_simp; rfl, (h1.new _).1, by show 1 * 32 ≤ 140737488355328; omega, fun h => absurd h h1.2⟩
  | 1, _ => exact ⟨u.heap.size, 0, p2, c2, rfl, by go_simp, by go_simp; rfl, (h2.new _).1, by show 1 * 32 ≤ 140737488355328; omega, fun h => absurd h h2.2⟩
theorem rows_three {u : World} {p1 p2 p3 : Option Addr} {c1 c2 c3 : Nat} {a b c : Int} (h1 : One u p1 a) (h2 : One u p2 b) (h3 : One u p3 c) (N : Nat) (hN : u.heap.size = N) :
    RowsAt (u.alloc (.cells #[.slice p1 1 c1, .slice p2 1 c2, .slice p3 1 c3] 25)) (some ⟨N, 0, none⟩) [R1 a, R1 b, R1 c] := by
  subst hN
  intro i hi
  match i, hi with
  | 0, _ => exact ⟨u.heap.size, 0, p1, c1, rfl, by go_simp, by go_simp; rfl, (h1.new _).1, by show 1 * 32 ≤ 140737488355328; omega, fun h => absurd h h1.2⟩
  | 1, _ => exact ⟨u.heap.size, 0, p2, c2, rfl, by go_simp, by go_simp; rfl, (h2.new _).1, by show 1 * 32 ≤ 140737488355328; omega, fun h => absurd h h2.2⟩
  | 2, _ => exact ⟨u.heap.size, 0, p3, c3, rfl, by go_simp, by go_simp; rfl, (h3.new _).1, by show 1 * 32 ≤ 140737488355328; omega, fun h => absurd h h3.2⟩
theorem r1_inj {a b : Int} : R1 a = R1 b ↔ a = b := by simp [R1]
theorem min_known : minR [R1 2, R1 1, R1 1] [R1 1, R1 3] = [R1 1, R1 2] := by
  refine (minR_unique ?_ fun r => ?_).symm
  · refine List.pairwise_cons.2 ⟨fun x hx => ?_, List.pairwise_singleton _ _⟩
    obtain rfl := List.mem_singleton.1 hx
    decide +kernel
  · have h12 : (R1 1 == R1 2) = false := beq_eq_false_iff_ne.2 (by simp [R1])
    have h21 : (R1 2 == R1 1) = false := beq_eq_false_iff_ne.2 (by simp [R1])
    have h31 : (R1 3 == R1 1) = false := beq_eq_false_iff_ne.2 (by simp [R1])
    have h32 : (R1 3 == R1 2) = false := beq_eq_false_iff_ne.2 (by simp [R1])
    by_cases h1 : R1 1 = r
    · subst h1; simp [List.count_cons, h21, h31]
    · by_cases h2 : R1 2 = r
      · subst h2; simp [List.count_cons, h12, h32]
      · simp [List.count_cons, h1, h2]
theorem count_known : ([R1 1, R1 1] : List (List Val)).count (R1 1) = 2 := by simp

/-- What the program's functions of package tuple do: the contracts that the walks ask for. -/
structure TupleDoes : Prop where
  sort : ∀ (L : List (List Val)) (p : Option Addr) (cap : Nat) (w : World), L.length ≤ 1000 → RowsAt w p L → Calls Tryd.prog 23 #[.slice p L.length cap] w (SortedPost L w)
  same : ∀ (A B : List (List Val)) (p q : Option Addr) (ca cb : Nat) (w : World), A.length ≤ 1000 → B.length ≤ 1000 → RowsAt w p A → RowsAt w q B → Calls Tryd.prog 16 #[.slice p A.length ca, .slice q B.length cb] w fun e w' => e = .returned (.bool (decide (srt A = srt B))) ∧ Below w.heap.size w w'
  count : ∀ (L : List (List Val)) (p : Option Addr) (cap : Nat) (t : List Val) (q : Option Addr) (cp : Nat) (w : World), L.length ≤ 1000 → t.length * 32 ≤ 140737488355328 → RowsAt w p L → RowAt w q t → Calls Tryd.prog 21 #[.slice p L.length cap, .slice q t.length cp] w fun e w' => e = .returned (.int .i64 (L.count t : Nat)) ∧ Below w.heap.size w w'
  minus : ∀ (A B : List (List Val)) (p q : Option Addr) (ca cb : Nat) (w : World), A.length ≤ 1000 → B.length ≤ 1000 → RowsAt w p A → RowsAt w q B → Calls Tryd.prog 19 #[.slice p A.length ca, .slice q B.length cb] w (MinusPost A B w)
theorem TupleDoes.known_minus (hT : TupleDoes) {p q : Option Addr} {w : World} (hp : RowsAt w p [R1 2, R1 1, R1 1]) (hq : RowsAt w q [R1 1, R1 3]) :
    Calls Tryd.prog 19 #[.slice p 3 3, .slice q 2 2] w fun e w' => ∃ (p' : Option Addr) (cap : Nat), e = .returned (.slice p' 2 cap) ∧ RowsAt w' p' [R1 1, R1 2] ∧ Below w.heap.size w w' :=
  (hT.minus _ _ _ _ 3 2 _ (by decide) (by decide) hp hq).mono fun e w' ⟨p', cap, he, hr, hb⟩ => by rw [min_known] at he hr; exact ⟨p', cap, he, hr, hb⟩
theorem known_same {p q : Option Addr} {c : Nat} {w : World} (hp : RowsAt w p [R1 1, R1 2]) (hq : RowsAt w q [R1 1, R1 2]) :
    Calls Tryd.prog 18 #[.slice p 2 c, .slice q 2 2] w fun e w' => e = .returned (.bool true) ∧ Below w.heap.size w w' :=
  (sametuples_any _ _ _ _ c 2 _ (by decide) hp hq).mono fun e w' ⟨he, hb⟩ => ⟨by rw [he, decide_eq_true rfl], hb⟩
theorem TupleDoes.known_count (hT : TupleDoes) {p q : Option Addr} {c : Nat} {w : World} (hp : RowsAt w p [R1 1, R1 1]) (hq : RowAt w q (R1 1)) :
    Calls Tryd.prog 21 #[.slice p 2 2, .slice q 1 c] w fun e w' => e = .returned (.int .i64 2) ∧ Below w.heap.size w w' :=
  (hT.count _ _ 2 _ _ c _ (by decide) (by show 1 * 32 ≤ 140737488355328; omega) hp hq).mono fun e w' ⟨he, hb⟩ => ⟨by rw [he, count_known]; rfl, hb⟩
set_option maxHeartbeats 2000000 in
theorem known5_any (hT : TupleDoes) (w : World) :
    Calls Tryd.prog 14 #[] w fun e w' => e = .returned (.bool true) ∧ Below w.heap.size w w' := by
  go_enter Tryd.func14, Tryd.ntmps14
  have HB0 := Lib.hid (Below.refl w.heap.size w)
  have HB1 := Lib.hid (below_new HB0.out (.cells #[.int .i64 2] 2))
  clear HB0
  go_wp2_with fail
  refine (rowN_any 2 _ _ (by go_simp) (by go_simp)).mono ?_
  rintro e w2 ⟨pA, cA, rfl, h1, hb⟩
  have HB2 := Lib.hid (below_next HB1.out hb)
  have HA_2 := Lib.hid h1
  clear HB1 hb h1
  have HB3 := Lib.hid (below_new HB2.out (.cells #[.int .i64 1] 2))
  have HA_3 := Lib.hid (HA_2.out.new (.cells #[.int .i64 1] 2))
  clear HA_2 HB2
  go_wp2_with fail
  refine (rowN_any 1 _ _ (by go_simp) (by go_simp)).mono ?_
  rintro e w4 ⟨pB, cB, rfl, h1, hb⟩
  have HB4 := Lib.hid (below_next HB3.out hb)
  have HA_4 := Lib.hid (HA_3.out.low hb)
  have HB_4 := Lib.hid h1
  clear HB3 HA_3 hb h1
  have HB5 := Lib.hid (below_new HB4.out (.cells #[.int .i64 1] 2))
  have HA_5 := Lib.hid (HA_4.out.new (.cells #[.int .i64 1] 2))
  have HB_5 := Lib.hid (HB_4.out.new (.cells #[.int .i64 1] 2))
  clear HA_4 HB_4 HB4
  go_wp2_with fail
  refine (rowN_any 1 _ _ (by go_simp) (by go_simp)).mono ?_
  rintro e w6 ⟨pC, cC, rfl, h1, hb⟩
  have HB6 := Lib.hid (below_next HB5.out hb)
  have HA_6 := Lib.hid (HA_5.out.low hb)
  have HB_6 := Lib.hid (HB_5.out.low hb)
  have HC_6 := Lib.hid h1
  clear HB5 HA_5 HB_5 hb h1
  have h1 := rows_three (c1 := cA) (c2 := cB) (c3 := cC) HA_6.out HB_6.out HC_6.out w6.heap.size rfl
  have HB7 := Lib.hid (below_new HB6.out (.cells #[.slice pA 1 cA, .slice pB 1 cB, .slice pC 1 cC] 25))
  have HA_7 := Lib.hid (HA_6.out.new (.cells #[.slice pA 1 cA, .slice pB 1 cB, .slice pC 1 cC] 25))
  have HB_7 := Lib.hid (HB_6.out.new (.cells #[.slice pA 1 cA, .slice pB 1 cB, .slice pC 1 cC] 25))
  have HC_7 := Lib.hid (HC_6.out.new (.cells #[.slice pA 1 cA, .slice pB 1 cB, .slice pC 1 cC] 25))
  clear HA_6 HB_6 HC_6 HB6 HA_7 HB_7 HC_7
  have HX_7 := Lib.hid h1
  clear h1
  have HB8 := Lib.hid (below_new HB7.out (.cells #[.int .i64 1] 2))
  have HX_8 := Lib.hid (HX_7.out.new (.cells #[.int .i64 1] 2))
  clear HX_7 HB7
  go_wp2_with fail
  refine (rowN_any 1 _ _ (by go_simp) (by go_simp)).mono ?_
  rintro e w9 ⟨pD, cD, rfl, h1, hb⟩
  have HB9 := Lib.hid (below_next HB8.out hb)
  have HX_9 := Lib.hid (HX_8.out.low hb)
  have HD_9 := Lib.hid h1
  clear HB8 HX_8 hb h1
  have HB10 := Lib.hid (below_new HB9.out (.cells #[.int .i64 3] 2))
  have HX_10 := Lib.hid (HX_9.out.new (.cells #[.int .i64 3] 2))
  have HD_10 := Lib.hid (HD_9.out.new (.cells #[.int .i64 3] 2))
  clear HX_9 HD_9 HB9
  go_wp2_with fail
  refine (rowN_any 3 _ _ (by go_simp) (by go_simp)).mono ?_
  rintro e w11 ⟨pE, cE, rfl, h1, hb⟩
  have HB11 := Lib.hid (below_next HB10.out hb)
  have HX_11 := Lib.hid (HX_10.out.low hb)
  have HD_11 := Lib.hid (HD_10.out.low hb)
  have HE_11 := Lib.hid h1
  clear HB10 HX_10 HD_10 hb h1
  have h1 := rows_two (c1 := cD) (c2 := cE) HD_11.out HE_11.out w11.heap.size rfl
  have HB12 := Lib.hid (below_new HB11.out (.cells #[.slice pD 1 cD, .slice pE 1 cE] 25))
  have HX_12 := Lib.hid (HX_11.out.new (.cells #[.slice pD 1 cD, .slice pE 1 cE] 25))
  have HD_12 := Lib.hid (HD_11.out.new (.cells #[.slice pD 1 cD, .slice pE 1 cE] 25))
  have HE_12 := Lib.hid (HE_11.out.new (.cells #[.slice pD 1 cD, .slice pE 1 cE] 25))
  clear HX_11 HD_11 HE_11 HB11 HD_12 HE_12
  have HY_12 := Lib.hid h1
  clear h1
  go_wp2_with fail
  refine (hT.known_minus HX_12.out HY_12.out).mono ?_
  rintro e w13 ⟨pM, cM, rfl, h1, hb⟩
  have HB13 := Lib.hid (below_next HB12.out hb)
  have HM_13 := Lib.hid h1
  clear HB12 hb h1
  clear HX_12 HY_12
  have HB14 := Lib.hid (below_new HB13.out (.cells #[.int .i64 1] 2))
  have HM_14 := Lib.hid (HM_13.out.new (.cells #[.int .i64 1] 2))
  clear HM_13 HB13
  go_wp2_with fail
  refine (rowN_any 1 _ _ (by go_simp) (by go_simp)).mono ?_
  rintro e w15 ⟨pF, cF, rfl, h1, hb⟩
  have HB15 := Lib.hid (below_next HB14.out hb)
  have HM_15 := Lib.hid (HM_14.out.low hb)
  have HF_15 := Lib.hid h1
  clear HB14 HM_14 hb h1
  have HB16 := Lib.hid (below_new HB15.out (.cells #[.int .i64 2] 2))
  have HM_16 := Lib.hid (HM_15.out.new (.cells #[.int .i64 2] 2))
  have HF_16 := Lib.hid (HF_15.out.new (.cells #[.int .i64 2] 2))
  clear HM_15 HF_15 HB15
  go_wp2_with fail
  refine (rowN_any 2 _ _ (by go_simp) (by go_simp)).mono ?_
  rintro e w17 ⟨pG, cG, rfl, h1, hb⟩
  have HB17 := Lib.hid (below_next HB16.out hb)
  have HM_17 := Lib.hid (HM_16.out.low hb)
  have HF_17 := Lib.hid (HF_16.out.low hb)
  have HG_17 := Lib.hid h1
  clear HB16 HM_16 HF_16 hb h1
  have h1 := rows_two (c1 := cF) (c2 := cG) HF_17.out HG_17.out w17.heap.size rfl
  have HB18 := Lib.hid (below_new HB17.out (.cells #[.slice pF 1 cF, .slice pG 1 cG] 25))
  have HM_18 := Lib.hid (HM_17.out.new (.cells #[.slice pF 1 cF, .slice pG 1 cG] 25))
  have HF_18 := Lib.hid (HF_17.out.new (.cells #[.slice pF 1 cF, .slice pG 1 cG] 25))
  have HG_18 := Lib.hid (HG_17.out.new (.cells #[.slice pF 1 cF, .slice pG 1 cG] 25))
  clear HM_17 HF_17 HG_17 HB17 HF_18 HG_18
  have HZ_18 := Lib.hid h1
  clear h1
  go_wp2_with fail
  refine (known_same HM_18.out HZ_18.out).mono ?_
  rintro e w19 ⟨rfl, hb⟩
  have HB19 := Lib.hid (below_next HB18.out hb)
  clear HB18 hb
  clear HM_18 HZ_18
  have HB20 := Lib.hid (below_new HB19.out (.cells #[.int .i64 1] 2))
  clear HB19
  go_wp2_with fail
  refine (rowN_any 1 _ _ (by go_simp) (by go_simp)).mono ?_
  rintro e w21 ⟨pI, cI, rfl, h1, hb⟩
  have HB21 := Lib.hid (below_next HB20.out hb)
  have HI_21 := Lib.hid h1
  clear HB20 hb h1
  have HB22 := Lib.hid (below_new HB21.out (.cells #[.int .i64 1] 2))
  have HI_22 := Lib.hid (HI_21.out.new (.cells #[.int .i64 1] 2))
  clear HI_21 HB21
  go_wp2_with fail
  refine (rowN_any 1 _ _ (by go_simp) (by go_simp)).mono ?_
  rintro e w23 ⟨pJ, cJ, rfl, h1, hb⟩
  have HB23 := Lib.hid (below_next HB22.out hb)
  have HI_23 := Lib.hid (HI_22.out.low hb)
  have HJ_23 := Lib.hid h1
  clear HB22 HI_22 hb h1
  have h1 := rows_two (c1 := cI) (c2 := cJ) HI_23.out HJ_23.out w23.heap.size rfl
  have HB24 := Lib.hid (below_new HB23.out (.cells #[.slice pI 1 cI, .slice pJ 1 cJ] 25))
  have HI_24 := Lib.hid (HI_23.out.new (.cells #[.slice pI 1 cI, .slice pJ 1 cJ] 25))
  have HJ_24 := Lib.hid (HJ_23.out.new (.cells #[.slice pI 1 cI, .slice pJ 1 cJ] 25))
  clear HI_23 HJ_23 HB23 HI_24 HJ_24
  have HK_24 := Lib.hid h1
  clear h1
  have HB25 := Lib.hid (below_new HB24.out (.cells #[.int .i64 1] 2))
  have HK_25 := Lib.hid (HK_24.out.new (.cells #[.int .i64 1] 2))
  clear HK_24 HB24
  go_wp2_with fail
  refine (rowN_any 1 _ _ (by go_simp) (by go_simp)).mono ?_
  rintro e w26 ⟨pL, cL, rfl, h1, hb⟩
  have HB26 := Lib.hid (below_next HB25.out hb)
  have HK_26 := Lib.hid (HK_25.out.low hb)
  have HL_26 := Lib.hid h1
  clear HB25 HK_25 hb h1
  go_wp2_with fail
  refine (hT.known_count HK_26.out HL_26.out.1).mono ?_
  rintro e w27 ⟨rfl, hb⟩
  have HB27 := Lib.hid (below_next HB26.out hb)
  clear HB26 hb
  go_wp2
  go_ret
  exact ⟨rfl, HB27.out⟩
end Go.Proofs.YtlgagibmndbimaaDoor
