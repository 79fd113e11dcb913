/-
  Several texts in one.
-/
import Derived.Test.YtgaihglploedaabDoorPk06
import Derived.Test.YtgaihglploedaabDoorPk01
import Derived.OwnWalk
import Derived.Laws.AppendOwnNone
import Derived.Deep.LoopGhost
import Derived.WalkMore
import Derived.Test.YtgaihglploedaabDoorPk03
import Derived.Test.YtgaihglploedaabDoorPk05
import Derived.Lib.CountLaws
import Derived.Lib.SplitLaws
/-
  Package token: texts in apostrophes, symbols.
-/
namespace Go.Proofs.YtgaihglploedaabDoor
set_option maxRecDepth 100000
open Go.RowKit
variable {ls : List Nat}

theorem extract_drop (s : ByteArray) (k : Nat) : (s.extract k s.size).data.toList = s.data.toList.drop k := by
  simp [ByteArray.data_extract]
  rw [List.take_of_length_le (by simp)]
/-- Where the text ends whose apostrophe is the first byte, or -1. -/
def optI : Option Nat → Int
  | none => -1
  | some n => (n : Int)
def closeI (l : List UInt8) : Int := optI ((quotL (l.drop 1)).map (·.2))
/-- The walk of closing: from place k on it goes as from place 1 on. -/
def CloseAt (l : List UInt8) (k : Nat) : Prop := (quotL (l.drop 1)).map (·.2) = (quotL (l.drop k)).map fun x => x.2 + (k - 1)
theorem CloseAt.start (l : List UInt8) : CloseAt l 1 := by
  unfold CloseAt
  cases quotL (l.drop 1) with
  | none => rfl
  | some x => rfl
theorem closeI_of {l : List UInt8} {r : Option Nat} (h : (quotL (l.drop 1)).map (·.2) = r) : closeI l = optI r := by
  unfold closeI; rw [h]
theorem CloseAt.done {l : List UInt8} {k : Nat} (h : CloseAt l k) (hk : ¬ k < l.length) : closeI l = -1 := by
  unfold CloseAt at h
  rw [List.drop_of_length_le (by omega : l.length ≤ k)] at h
  exact closeI_of h
theorem CloseAt.plain {l : List UInt8} {k : Nat} (h : CloseAt l k) (h1 : 1 ≤ k) (hk : k < l.length) (hc : l[k] ≠ 39) : CloseAt l (k + 1) := by
  unfold CloseAt at h ⊢
  rw [h, List.drop_eq_getElem_cons hk, quotL_plain hc, Option.map_map]
  congr 1
  funext x
  show x.2 + 1 + (k - 1) = x.2 + (k + 1 - 1)
  omega
theorem CloseAt.two {l : List UInt8} {k : Nat} (h : CloseAt l k) (h1 : 1 ≤ k) (hp : Lib.hasPrefix (l.drop k) [39, 39] = true) : CloseAt l (k + 2) ∧ k + 2 ≤ l.length := by
  obtain ⟨r, hr⟩ := List.isPrefixOf_iff_prefix.1 hp
  have hlen := congrArg List.length hr
  have hd : l.drop (k + 2) = r := by
    rw [← List.drop_drop, ← hr]; rfl
  simp only [List.length_append, List.length_cons, List.length_nil, List.length_drop] at hlen
  refine ⟨?_, by omega⟩
  unfold CloseAt at h ⊢
  rw [h, ← hr, hd]
  show (quotL (39 :: 39 :: r)).map _ = _
  rw [quotL_two, Option.map_map]
  congr 1
  funext x
  show x.2 + 2 + (k - 1) = x.2 + (k + 2 - 1)
  omega
theorem CloseAt.end {l : List UInt8} {k : Nat} (h : CloseAt l k) (h1 : 1 ≤ k) (hk : k < l.length) (hc : l[k] = 39) (hp : Lib.hasPrefix (l.drop k) [39, 39] = false) : closeI l = k := by
  have hh : (l.drop (k + 1)).head? ≠ some 39 := fun e => by
    cases hd : l.drop (k + 1) with
    | nil => rw [hd] at e; cases e
    | cons d r =>
      rw [hd] at e
      obtain rfl : d = 39 := Option.some.inj e
      rw [List.drop_eq_getElem_cons hk, hc, hd] at hp
      exact absurd hp (by simp [Lib.hasPrefix, List.isPrefixOf])
  unfold CloseAt at h
  rw [List.drop_eq_getElem_cons hk, hc, quotL_end hh] at h
  have := closeI_of h
  rw [this]
  show ((1 + (k - 1) : Nat) : Int) = k
  omega
set_option maxHeartbeats 1000000 in
theorem closing_any (s : ByteArray) (w : World) (h0 : 0 < s.size) (hs : s.size ≤ 4096) :
    Calls Tryd.prog 24 #[.string s] w fun e w' => e = .returned (.int .i64 (closeI s.data.toList)) ∧ w = w' := by
  go_enter Tryd.func24, Tryd.ntmps24
  go_wp2
  go_loop [3] (fun i => ∃ k : Nat, 1 ≤ k ∧ k ≤ s.size ∧ i = .int .i64 k ∧ CloseAt s.data.toList k) (fun i => s.size - (intOf i).toNat)
  case atStart => exact ⟨1, Nat.le_refl _, h0, rfl, CloseAt.start _⟩
  case round =>
    obtain ⟨k, h1, hk, rfl, hc⟩ := hrel
    have HC := Lib.hid hc
    clear hc
    by_cases hlt : k < s.size
    · have hlt' : decide ((k : Int) < s.size) = true := decide_eq_true (by omega)
      have hll : k < s.data.toList.length := by simpa using hlt
      by_cases h39 : (s[k].toNat : Int) = 39
      · have e39 : ((s[k].toNat : Int) != 39) = false := by rw [h39]; rfl
        have H39 : Hid (s.data.toList[k] = 39) := Lib.hid (by rw [← UInt8.toNat_inj]; show s[k].toNat = 39; omega)
        clear h39
        cases hp : Lib.hasPrefix (s.data.toList.drop k) [39, 39]
        · have HP : Hid (Lib.hasPrefix (s.extract k s.size).data.toList (⟨#[39, 39]⟩ : ByteArray).data.toList = false) := Lib.hid (by rw [extract_drop]; exact hp)
          have HR := Lib.hid (HC.out.end h1 hll H39.out hp)
          clear hp
          go_wp2_with (go_at_call 26; refine (Tryd.strings_HasPrefix _ _ _).mono ?_; rintro e w' ⟨rfl, rfl⟩; rw [HP.out])
          all_goals
            go_ret
            exact ⟨ret_int HR.out.symm, rfl⟩
        · have HP : Hid (Lib.hasPrefix (s.extract k s.size).data.toList (⟨#[39, 39]⟩ : ByteArray).data.toList = true) := Lib.hid (by rw [extract_drop]; exact hp)
          obtain ⟨hc2, hk2⟩ := HC.out.two h1 hp
          have HC2 := Lib.hid hc2
          have HK2 : Hid (k + 2 ≤ s.size) := Lib.hid (by simpa using hk2)
          clear hp hc2 hk2
          go_wp2_with (go_at_call 26; refine (Tryd.strings_HasPrefix _ _ _).mono ?_; rintro e w' ⟨rfl, rfl⟩; rw [HP.out])
          go_round
          case rel => exact ⟨k + 2, by omega, HK2.out, by go_num, HC2.out⟩
          case measure => have := HK2.out; simp [intOf]; omega
      · have e39 : ((s[k].toNat : Int) != 39) = true := bne_iff_ne.2 h39
        have HC1 := Lib.hid (HC.out.plain h1 hll (fun e => h39 (by show (s.data.toList[k].toNat : Int) = 39; rw [e]; rfl)))
        clear h39
        go_wp2
        go_round
        case rel => exact ⟨k + 1, by omega, by omega, by go_num, HC1.out⟩
        case measure => simp [intOf]; omega
    · have hlt' : decide ((k : Int) < s.size) = false := decide_eq_false (by omega)
      have HR := Lib.hid (HC.out.done (by simpa using hlt))
      go_wp2
      go_ret
      exact ⟨ret_int HR.out.symm, rfl⟩
theorem closeI_none {l : List UInt8} (h : quotL (l.drop 1) = none) : closeI l = -1 := by unfold closeI; rw [h]; rfl
theorem closeI_some {l : List UInt8} {o : List UInt8} {n : Nat} (h : quotL (l.drop 1) = some (o, n)) : closeI l = n := by unfold closeI; rw [h]; rfl
theorem inner_text {s : ByteArray} {o : List UInt8} {n : Nat} (h : quotL (s.data.toList.drop 1) = some (o, n)) : (⟨(Lib.replaceAll (s.extract 1 n).data.toList [39, 39] [39]).toArray⟩ : ByteArray) = ⟨o.toArray⟩ := by
  have h1 := quotL_len _ _ _ h
  have e : (s.extract 1 n).data.toList = (s.data.toList.drop 1).take (n - 1) := by
    simp [ByteArray.data_extract]
  rw [e, quotL_rep _ _ _ h]
theorem quotL_out_len (l : List UInt8) : ∀ o n, quotL l = some (o, n) → o.length ≤ l.length := by
  refine quot_ind (P := fun l => ∀ o n, quotL l = some (o, n) → o.length ≤ l.length) ?_ ?_ ?_ ?_ l.length l (Nat.le_refl _)
  · intro o n h; cases h
  · intro c l hc ih o n h
    rw [quotL_plain hc, Option.map_eq_some_iff] at h
    obtain ⟨⟨o', n'⟩, h1, h2⟩ := h
    have := ih _ _ h1
    simp only [Prod.mk.injEq] at h2
    obtain ⟨rfl, -⟩ := h2
    simp only [List.length_cons]; omega
  · intro r ih o n h
    rw [quotL_two, Option.map_eq_some_iff] at h
    obtain ⟨⟨o', n'⟩, h1, h2⟩ := h
    have := ih _ _ h1
    simp only [Prod.mk.injEq] at h2
    obtain ⟨rfl, -⟩ := h2
    simp only [List.length_cons]; omega
  · intro l hl o n h
    rw [quotL_end hl] at h
    simp only [Option.some.injEq, Prod.mk.injEq] at h
    obtain ⟨rfl, -⟩ := h
    simp
set_option maxHeartbeats 2000000 in
theorem quoted_any (s : ByteArray) (w : World) (hE : Env ls w) (h0 : 0 < s.size) (hs : s.size ≤ 4096) (hc : s[0] = 39) :
    Calls Tryd.prog 17 #[.string s] w fun e w' => e = .returned (tokR (stepT s.data.toList)) ∧ Below w.heap.size w w' := by
  have hx0 := cell3_new w (.int .i64 0) (.string ⟨#[]⟩) (.int .i64 0) 23
  have hb0 := below_new (Below.refl w.heap.size w) (.cells #[.int .i64 0, .string ⟨#[]⟩, .int .i64 0] 23)
  have HX0 := Lib.hid hx0
  have HB0 := Lib.hid hb0
  have HE0 := Lib.hid (hE.low hb0)
  have HQ := Lib.hid (stepT_quot (l := s.data.toList) (by rw [head_num h0, hc]))
  have hXw : w.heap.size ≤ w.heap.size := Nat.le_refl _
  clear hx0 hb0 hE hc
  cases hq : quotL (s.data.toList.drop 1) with
  | none =>
    have HV : Hid (stepT s.data.toList = none) := Lib.hid (by rw [HQ.out, hq])
    have HCL := Lib.hid (closeI_none hq)
    clear hq HQ
    go_enter Tryd.func17, Tryd.ntmps17
    go_wp2_with fail
    generalize World.alloc _ _ = W0 at HX0 HB0 HE0 ⊢
    obtain ⟨xl, x0, x1, x2, xf⟩ := HX0.out
    have HP := Lib.hid (cell3_set HX0.out (.int .i64 0) (.string ⟨#[]⟩) (.int .i64 0))
    refine (closing_any s _ h0 hs).mono ?_
    rintro e w2 ⟨rfl, rfl⟩
    rw [HCL.out]
    go_wp2
    obtain ⟨-, s0, s1, s2, -⟩ := HP.out
    exact bodyPost_ret (v := tokR none) (by simp [results, Tryd.results17, go_sem, s0, s1, s2, tokR]) rfl ⟨ret_val (by rw [HV.out]), ((HB0.out.setCell (by exact hXw) _).setCell (by exact hXw) _).setCell (by exact hXw) _⟩
  | some x =>
    obtain ⟨o, n⟩ := x
    have hn := quotL_len _ _ _ hq
    have HO := Lib.hid (quotL_out_len _ _ _ hq)
    have hnl : n < s.size := by have := hn.2; simp at this; omega
    have HCL := Lib.hid (closeI_some hq)
    have HI := Lib.hid (inner_text hq)
    go_enter Tryd.func17, Tryd.ntmps17
    go_wp2_with fail
    generalize World.alloc _ _ = W0 at HX0 HB0 HE0 ⊢
    obtain ⟨xl, x0, x1, x2, xf⟩ := HX0.out
    refine (closing_any s _ h0 hs).mono ?_
    rintro e w2 ⟨rfl, rfl⟩
    rw [HCL.out]
    obtain ⟨m, hm⟩ := HE0.out.maxlen
    have hxs : (s.extract 1 n).size ≤ 4096 := by rw [ByteArray.size_extract]; omega
    have hlen : (s.extract 1 n).size + Lib.countB (s.extract 1 n) ⟨#[39, 39]⟩ * (⟨#[39]⟩ : ByteArray).size ≤ 140737488355328 := by
      have h1 := Lib.countB_le ⟨#[39, 39]⟩ (by decide) (s.extract 1 n).size (s.extract 1 n) (Nat.le_refl _)
      have h2 : (⟨#[39]⟩ : ByteArray).size = 1 := rfl
      rw [h2]; omega
    have hos : (⟨o.toArray⟩ : ByteArray).size ≤ 9223372036854775807 := by
      have := HO.out
      simp at this
      show o.toArray.size ≤ _
      rw [List.size_toArray]; omega
    have HQ2 : Hid (stepT s.data.toList = if textOK o then some (4, ⟨o.toArray⟩, n + 1) else none) := Lib.hid (by rw [HQ.out, hq])
    clear hq HQ x0 x1 x2 xf HE0
    go_wp2_with fail
    refine (Tryd.strings_ReplaceAll (s.extract 1 n) ⟨#[39, 39]⟩ ⟨#[39]⟩ m _ (by omega) hm (by decide) hlen).mono ?_
    rintro e w3 ⟨rfl, hb3⟩
    rw [HI.out]
    have HX3 := Lib.hid (HX0.out.low hb3)
    have HB3 := Lib.hid (below_next HB0.out hb3)
    clear hb3 HX0 HB0 hm xl
    go_wp2_with fail
    refine (words_any ⟨o.toArray⟩ _ hos).mono ?_
    rintro e w4 ⟨rfl, hb4⟩
    have HX4 := Lib.hid (HX3.out.low hb4)
    have HB4 := Lib.hid (below_next HB3.out hb4)
    clear hb4 HX3 HB3
    have e39 : (⟨o.toArray⟩ : ByteArray).data.toList = o := rfl
    rw [e39]
    cases hto : textOK o
    · have HV : Hid (stepT s.data.toList = none) := Lib.hid (by rw [HQ2.out, hto]; rfl)
      have hws : wordsN ⟨o.toArray⟩ = 0 ∧ wordsS ⟨o.toArray⟩ = ⟨#[]⟩ := by unfold wordsN wordsS; rw [e39, hto]; exact ⟨rfl, rfl⟩
      rw [hws.1, hws.2]
      clear hws hto HQ2 e39
      have hx6 := HX4.out.low (below_alloc w4 (.cells #[.int .i64 0, .int .i64 0, .string ⟨#[]⟩] 41))
      have HP := Lib.hid (cell3_set hx6 (.int .i64 0) (.string ⟨#[]⟩) (.int .i64 0))
      have HB6 := Lib.hid (below_new HB4.out (.cells #[.int .i64 0, .int .i64 0, .string ⟨#[]⟩] 41))
      obtain ⟨xl, x0, x1, x2, xf⟩ := hx6
      go_wp2
      obtain ⟨-, s0, s1, s2, -⟩ := HP.out
      exact bodyPost_ret (v := tokR none) (by simp [results, Tryd.results17, go_sem, s0, s1, s2, tokR]) rfl ⟨ret_val (by rw [HV.out]), ((HB6.out.setCell (by exact hXw) _).setCell (by exact hXw) _).setCell (by exact hXw) _⟩
    · have HV : Hid (stepT s.data.toList = some (4, ⟨o.toArray⟩, n + 1)) := Lib.hid (by rw [HQ2.out, hto]; rfl)
      have hws : wordsN ⟨o.toArray⟩ = 3 ∧ wordsS ⟨o.toArray⟩ = ⟨o.toArray⟩ := by unfold wordsN wordsS; rw [e39, hto]; exact ⟨rfl, rfl⟩
      rw [hws.1, hws.2]
      clear hws hto HQ2 e39
      have hx6 := HX4.out.low (below_alloc w4 (.cells #[.int .i64 3, .int .i64 0, .string ⟨o.toArray⟩] 41))
      have HP := Lib.hid (cell3_set hx6 (.int .i64 4) (.string ⟨o.toArray⟩) (.int .i64 0))
      have HB6 := Lib.hid (below_new HB4.out (.cells #[.int .i64 3, .int .i64 0, .string ⟨o.toArray⟩] 41))
      obtain ⟨xl, x0, x1, x2, xf⟩ := hx6
      go_wp2
      obtain ⟨-, s0, s1, s2, -⟩ := HP.out
      exact bodyPost_ret (v := tokR (some (4, ⟨o.toArray⟩, n + 1))) (by simp [results, Tryd.results17, go_sem, s0, s1, s2, tokR]) rfl ⟨ret_val (by rw [HV.out]), ((HB6.out.setCell (by exact hXw) _).setCell (by exact hXw) _).setCell (by exact hXw) _⟩
theorem find_hit {P : List UInt8 → Bool} : ∀ (L : List (List UInt8)) (k : Nat), k < L.length → (∀ j, j < k → P (L.getD j []) = false) → P (L.getD k []) = true → L.find? P = some (L.getD k [])
  | [], k, h, _, _ => by simp at h
  | x :: L, 0, _, _, hp => by
    have : P x = true := hp
    rw [List.find?_cons_of_pos this]; rfl
  | x :: L, k + 1, h, hj, hp => by
    have h0 : P x = false := hj 0 (by omega)
    rw [List.find?_cons_of_neg (by simp [h0]), find_hit L k (by simpa using h) (fun j hj' => by have := hj (j + 1) (by omega); simpa using this) (by simpa using hp)]
    simp
theorem find_no {P : List UInt8 → Bool} {L : List (List UInt8)} (h : ∀ j, j < L.length → P (L.getD j []) = false) : L.find? P = none := by
  rw [List.find?_eq_none]
  intro x hx
  obtain ⟨j, hj, rfl⟩ := List.mem_iff_getElem.1 hx
  have := h j hj
  rw [List.getD_eq_getElem?_getD, List.getElem?_eq_getElem hj, Option.getD_some] at this
  simp [this]
theorem symL_hit {l : List UInt8} {k : Nat} (hk : k < 16) (ha : ∀ j, j < k → Lib.hasPrefix l (symT j).data.toList = false) (hp : Lib.hasPrefix l (symT k).data.toList = true) : symL l = some (symT k).data.toList :=
  find_hit (P := fun x => x.isPrefixOf l) symS k (by exact hk) ha hp
theorem symL_no {l : List UInt8} (ha : ∀ j, j < 16 → Lib.hasPrefix l (symT j).data.toList = false) : symL l = none :=
  find_no (P := fun x => x.isPrefixOf l) (L := symS) (fun j hj => ha j hj)
theorem index_text16 {cs : Array Value} {k : Nat} {z : ByteArray} (hk : k < 16) (h : cs[k]? = some (.string z)) (w : World) :
    (Instr.index 54 (.agg cs) (.int .i64 (k : Int))).run Tryd.prog w = .ok (.string z) w := by
  have hn : 0 ≤ (k : Int) ∧ (k : Int) < 16 := by omega
  simp [Instr.index, run_underlying Tryd.underlying54, asIntOf, hn, go_sem, h, part, Tryd.sizeOf9, Tryd.isAgg9]
  intro hc; omega
set_option maxHeartbeats 1000000 in
theorem symbol_any (s : ByteArray) (w : World) (hE : Env ls w) (hm : 2 ∈ ls) (h0 : 0 < s.size) (hr : runB s[0] = false) (hc : s[0] ≠ 39) :
    Calls Tryd.prog 18 #[.string s] w fun e w' => e = .returned (tokR (stepT s.data.toList)) ∧ Below w.heap.size w w' := by
  have hx0 := cell3_new w (.int .i64 0) (.string ⟨#[]⟩) (.int .i64 0) 23
  have hb0 := below_new (Below.refl w.heap.size w) (.cells #[.int .i64 0, .string ⟨#[]⟩, .int .i64 0] 23)
  have HX0 := Lib.hid hx0
  have HB0 := Lib.hid hb0
  obtain ⟨cs, t, fr, hg, hz, hcs⟩ := (hE.low hb0).syms hm
  have hi : (Tryd.prog.info? 54).map (·.size) = some cs.size := by rw [hz]; kernel_rfl
  have HC := Lib.hid hcs
  have HQ := Lib.hid (stepT_sym (l := s.data.toList) (head_num h0) hr hc)
  have hXw : w.heap.size ≤ w.heap.size := Nat.le_refl _
  clear hcs hx0 hb0 hr hc hE
  go_enter Tryd.func18, Tryd.ntmps18
  generalize hW0 : World.alloc _ _ = W0 at HX0 HB0 hg ⊢
  go_wp2_with (refine wpList_load_row rfl 54 _ rfl 2 rfl t cs fr _ hg Tryd.underlying54 rfl hi ?_)
  go_loop [5, 7] (fun _ i => ∃ k : Nat, k ≤ 16 ∧ i = .int .i64 k ∧ ∀ j, j < k → Lib.hasPrefix s.data.toList (symT j).data.toList = false) (fun _ i => 16 - (intOf i).toNat)
  case atStart => exact ⟨0, Nat.zero_le _, rfl, fun j hj => by omega⟩
  case round =>
    obtain ⟨k, hk, rfl, ha⟩ := hrel
    have HA := Lib.hid ha
    clear ha
    obtain ⟨xl, x0, x1, x2, xf⟩ := HX0.out
    by_cases hlt : k < 16
    · have hlt' : decide ((k : Int) < 16) = true := decide_eq_true (by omega)
      have hck := index_text16 hlt (HC.out k hlt)
      cases hp : Lib.hasPrefix s.data.toList (symT k).data.toList
      · have HP := Lib.hid hp
        clear hp
        go_wp2_with (go_at_call 26; refine (Tryd.strings_HasPrefix _ _ _).mono ?_; rintro e w' ⟨rfl, rfl⟩; rw [HP.out])
        go_round
        case rel => exact ⟨k + 1, by omega, by go_num, fun j hj => by
          rcases Nat.lt_succ_iff_lt_or_eq.1 hj with h | h
          · exact HA.out j h
          · subst h; exact HP.out⟩
        case measure => simp [intOf]; omega
      · have HP := Lib.hid hp
        have HV : Hid (stepT s.data.toList = some (5, symT k, (symT k).size)) := Lib.hid (by rw [HQ.out, symL_hit hlt HA.out hp]; rfl)
        have HPP := Lib.hid (cell3_set HX0.out (.int .i64 5) (.string (symT k)) (.int .i64 0))
        clear hp
        go_wp2_with (go_at_call 26; refine (Tryd.strings_HasPrefix _ _ _).mono ?_; rintro e w' ⟨rfl, rfl⟩; rw [HP.out])
        obtain ⟨-, s0, s1, s2, -⟩ := HPP.out
        exact bodyPost_ret (v := tokR (some (5, symT k, (symT k).size))) (by simp [results, Tryd.results18, go_sem, s0, s1, s2, tokR]) rfl ⟨ret_val (by rw [HV.out]), ((HB0.out.setCell (by exact hXw) _).setCell (by exact hXw) _).setCell (by exact hXw) _⟩
    · have hlt' : decide ((k : Int) < 16) = false := decide_eq_false (by omega)
      obtain rfl : k = 16 := by omega
      have HV : Hid (stepT s.data.toList = none) := Lib.hid (by rw [HQ.out, symL_no HA.out]; rfl)
      have HPP := Lib.hid (cell3_set HX0.out (.int .i64 0) (.string ⟨#[]⟩) (.int .i64 0))
      go_wp2
      obtain ⟨-, s0, s1, s2, -⟩ := HPP.out
      exact bodyPost_ret (v := tokR none) (by simp [results, Tryd.results18, go_sem, s0, s1, s2, tokR]) rfl ⟨ret_val (by rw [HV.out]), ((HB0.out.setCell (by exact hXw) _).setCell (by exact hXw) _).setCell (by exact hXw) _⟩
end Go.Proofs.YtgaihglploedaabDoor
/-
  Rows that a call owns, behind calls that turn other blocks.
-/
namespace Go.Proofs.YtgaihglploedaabDoor
set_option maxRecDepth 100000
open Go.RowKit

theorem i64w {z : Int} (h : -9223372036854775808 ≤ z) (h2 : z ≤ 9223372036854775807) : IntKind.i64.wrap z = z := by rw [IntKind.wrap_i64]; omega
theorem owns_block {w : World} {base n size : Nat} {e : TypeId} {v : Value} {xs : List Value} (h : w.ownsRow base e size v n xs) : ∀ k, v.ownBlock = some k → base ≤ k := by
  intro k hk
  rcases h.2 with ⟨rfl, -⟩ | ⟨g, cap, cur, rfl, hg, -⟩
  · cases hk
  · obtain rfl := Option.some.inj hk; exact hg
theorem owns_keep {w w' : World} {base n size : Nat} {e : TypeId} {v : Value} {xs : List Value} (h : w.ownsRow base e size v n xs) (hk : ∀ k, v.ownBlock = some k → w'.heap[k]? = w.heap[k]?) : w'.ownsRow base e size v n xs := by
  refine ⟨h.1, ?_⟩
  rcases h.2 with h2 | ⟨g, cap, cur, rfl, hg, hh, r⟩
  · exact Or.inl h2
  · exact Or.inr ⟨g, cap, cur, rfl, hg, by rw [hk g rfl]; exact hh, r⟩
theorem owns_lt {w : World} {base n size : Nat} {e : TypeId} {v : Value} {xs : List Value} (h : w.ownsRow base e size v n xs) : ∀ k, v.ownBlock = some k → k < w.heap.size := by
  intro k hk
  rcases h.2 with ⟨rfl, -⟩ | ⟨g, cap, cur, rfl, hg, hh, -⟩
  · cases hk
  · obtain rfl := Option.some.inj hk; exact (Array.getElem?_eq_some_iff.1 hh).1
theorem owns_base {w : World} {base base' n size : Nat} {e : TypeId} {v : Value} {xs : List Value} (h : w.ownsRow base e size v n xs) (hb : base' ≤ base) : w.ownsRow base' e size v n xs := by
  refine ⟨h.1, ?_⟩
  rcases h.2 with h2 | ⟨g, cap, cur, rfl, hg, r⟩
  · exact Or.inl h2
  · exact Or.inr ⟨g, cap, cur, rfl, Nat.le_trans hb hg, r⟩
theorem owns_step {w w' : World} {b base n size : Nat} {e : TypeId} {v : Value} {xs : List Value} (h : w.ownsRow base e size v n xs) (hb : b < base) (hs : StepT b w w') : w'.ownsRow base e size v n xs :=
  owns_keep h fun k hk => hs.block k (owns_lt h k hk) (by have := owns_block h k hk; omega)
/-- Two rows of different types lie in different blocks. -/
theorem owns_apart {w : World} {base base' n n' size size' : Nat} {e e' : TypeId} {v v' : Value} {xs xs' : List Value} (h : w.ownsRow base e size v n xs) (h' : w.ownsRow base' e' size' v' n' xs') (he : e ≠ e') (k : Nat) (hk : v.ownBlock = some k) : v'.ownBlock ≠ some k := by
  intro hk'
  rcases h.2 with ⟨rfl, -⟩ | ⟨g, cap, cur, rfl, hg, hh, -⟩
  · cases hk
  · rcases h'.2 with ⟨rfl, -⟩ | ⟨g', cap', cur', rfl, hg', hh', -⟩
    · cases hk'
    · obtain rfl := Option.some.inj hk
      have hgg : g' = g := Option.some.inj hk'
      rw [hgg] at hh'
      have hh2 := hh.symm.trans hh'
      injection hh2 with hh2
      injection hh2 with _ h2 _
      exact he h2

theorem step_grown {b : Nat} {u v : World} {row : Option Nat} (hg : u.grownBy v row) (hr : ∀ k, row = some k → u.heap.size ≤ k ∨ k = b) : StepT b u v :=
  ⟨hg.os, hg.tape, hg.output, hg.size, fun k hk hb => hg.block k hk (by intro he; rcases hr k he.symm with h | h <;> omega)⟩
/-- Behind a growth of a row that the call has made since u0. -/
theorem step_grown_from {b : Nat} {u0 u v : World} {row : Option Nat} (h : StepT b u0 u) (hg : u.grownBy v row) (hr : ∀ k, row = some k → u0.heap.size ≤ k) : StepT b u0 v :=
  ⟨hg.os.trans h.os, hg.tape.trans h.tape, hg.output.trans h.output, Nat.le_trans h.size hg.size, fun k hk hb => (hg.block k (Nat.lt_of_lt_of_le hk h.size) (by intro he; have := hr k he.symm; omega)).trans (h.block k hk hb)⟩
theorem TapeAt.grown {b : Nat} {u v : World} {row : Option Nat} (h : TapeAt u b) (hg : u.grownBy v row) (hr : ∀ k, row = some k → b < k) : TapeAt v b :=
  h.keep (fun k hk => hg.block k (Nat.lt_of_le_of_lt hk h.lt) (by intro he; have := hr k he.symm; omega)) hg.size
end Go.Proofs.YtgaihglploedaabDoor
/-
  Package token: Tokens.
-/
namespace Go.Proofs.YtgaihglploedaabDoor
set_option maxRecDepth 100000
open Go.RowKit
variable {ls : List Nat}

/-- The cells of a list of tokens. -/
def kcells (T : List Tok) : List Value := T.flatMap fun x => [.int .i64 x.k, .string x.t, .int .i64 x.a]
theorem kcells_length (T : List Tok) : (kcells T).length = T.length * 3 := by
  induction T with
  | nil => rfl
  | cons g G ih => show (_ :: _ :: _ :: kcells G).length = _; rw [List.length_cons, List.length_cons, List.length_cons, ih, List.length_cons]; omega
theorem kcells_append (G H : List Tok) : kcells (G ++ H) = kcells G ++ kcells H := List.flatMap_append
theorem kcells_at (G : List Tok) (i : Nat) (h : i < G.length) : (kcells G)[i * 3]? = some (.int .i64 G[i].k) ∧ (kcells G)[i * 3 + 1]? = some (.string G[i].t) ∧ (kcells G)[i * 3 + 2]? = some (.int .i64 G[i].a) := by
  induction G generalizing i with
  | nil => simp at h
  | cons g G ih =>
    have e : kcells (g :: G) = .int .i64 g.k :: .string g.t :: .int .i64 g.a :: kcells G := rfl
    rw [e]
    cases i with
    | zero => exact ⟨rfl, rfl, rfl⟩
    | succ i =>
      have := ih i (by simpa using h)
      rw [show (i + 1) * 3 = i * 3 + 1 + 1 + 1 by omega]
      exact this
theorem info_tok : (Tryd.prog.info? 23).map (fun i => (i.zero, i.size, i.bytes)) = some (some (.agg #[.int .i64 0, .string ⟨#[]⟩, .int .i64 0]), 3, 32) := by kernel_rfl
/-- A row of tokens in memory. -/
def KAt (w : World) (p : Option Addr) (T : List Tok) : Prop := ∀ i, (h : i < T.length) → ∃ (c o : Nat), p = some ⟨c, o, none⟩ ∧ c < w.heap.size ∧ w.cell? ⟨c, o + i * 3, none⟩ = some (.int .i64 T[i].k) ∧ w.cell? ⟨c, o + i * 3 + 1, none⟩ = some (.string T[i].t) ∧ w.cell? ⟨c, o + i * 3 + 2, none⟩ = some (.int .i64 T[i].a)
theorem KAt.low {u v : World} {p : Option Addr} {T : List Tok} (h : KAt u p T) (hb : Below u.heap.size u v) : KAt v p T := fun i hi => by
  obtain ⟨c, o, h1, h2, h3, h4, h5⟩ := h i hi
  exact ⟨c, o, h1, Nat.lt_of_lt_of_le h2 hb.size, by rw [hb.cell (by exact h2)]; exact h3, by rw [hb.cell (by exact h2)]; exact h4, by rw [hb.cell (by exact h2)]; exact h5⟩
theorem KAt.nil (w : World) (p : Option Addr) : KAt w p [] := fun i hi => by simp at hi
theorem tok_of_owns {w : World} {base : Nat} {v : Value} {T : List Tok} (h : w.ownsRow base 23 3 v T.length (kcells T)) : ∃ p c, v = .slice p T.length c ∧ KAt w p T ∧ T.length ≤ c := by
  rcases h.2 with ⟨rfl, h0⟩ | ⟨g, cap', cur, rfl, hg, hh, hcap, hm, hcur, htake⟩
  · exact ⟨none, 0, by rw [h0], fun i hi => by omega, by omega⟩
  · refine ⟨_, cap', rfl, fun i hi => ?_, hcap⟩
    have hget : ∀ j, j < T.length * 3 → cur[j]? = (kcells T)[j]? := fun j hj => by
      rw [← htake, List.getElem?_take, if_pos hj]; simp
    obtain ⟨c0, c1, c2⟩ := kcells_at T i hi
    refine ⟨g, 0, rfl, (Array.getElem?_eq_some_iff.1 hh).1, ?_, ?_, ?_⟩
    · rw [Nat.zero_add]
      simp only [World.cell?, hh]
      rw [if_neg (by simp), hget _ (by omega), c0]
    · rw [Nat.zero_add]
      simp only [World.cell?, hh]
      rw [if_neg (by simp), hget _ (by omega), c1]
    · rw [Nat.zero_add]
      simp only [World.cell?, hh]
      rw [if_neg (by simp), hget _ (by omega), c2]
theorem tok_news {w : World} {N : Nat} {x y z : Value} (h0 : w.cell? ⟨N, 0, none⟩ = some x) (h1 : w.cell? ⟨N, 1, none⟩ = some y) (h2 : w.cell? ⟨N, 2, none⟩ = some z) : ∀ j u, ([x, y, z] : List Value)[j]? = some u → w.cell? ((⟨N, 0, none⟩ : Addr).add j) = some u := by
  intro j u hj
  have hlt := (List.getElem?_eq_some_iff.1 hj).1
  have hadd : (⟨N, 0, none⟩ : Addr).add j = ⟨N, j, none⟩ := by unfold Addr.add; split <;> simp_all
  rw [hadd]
  match j, hlt with
  | 0, _ => rw [h0]; exact hj
  | 1, _ => rw [h1]; exact hj
  | 2, _ => rw [h2]; exact hj
/-- append(v, x) of a token, v the call's own. -/
theorem wpList_append_tok {w : World} {ops : Array Oper} {rest : List Oper} {o : Oper} {a : Act} {Q : Exit → Act → World → Prop} (hgd : o.guard = none) (s x : Operand)
    (ho : o.op = .call { callee := .builtin .append, args := #[s, x], argTypes := #[34, 34] })
    (base : Nat) (v : Value) (T : List Tok) (hs : a.eval s = v) (hown : w.ownsRow base 23 3 v T.length (kcells T))
    (N : Nat) (z : Tok) (hx : a.eval x = .slice (some ⟨N, 0, none⟩) 1 1) (h0 : w.cell? ⟨N, 0, none⟩ = some (.int .i64 z.k)) (h1 : w.cell? ⟨N, 1, none⟩ = some (.string z.t)) (h2 : w.cell? ⟨N, 2, none⟩ = some (.int .i64 z.a)) (hsum : (T.length + 1) * 32 ≤ 140737488355328) (hbase : base ≤ w.heap.size)
    (h : ∀ v' w', w'.ownsRow base 23 3 v' (T ++ [z]).length (kcells (T ++ [z])) → w.grownBy w' v.ownBlock → wpList Tryd.prog ops Q rest (a.put o.dst v') w') : wpList Tryd.prog ops Q (o :: rest) a w := by
  obtain ⟨i0, hi, hz0, hz1, hz2⟩ := info_parts info_tok
  refine wpList_append_own w hgd s x 34 ho base 23 i0 _ 3 32 Tryd.underlying34 hi hz0 hz1 hz2 rfl (by decide) v T.length (kcells T) hs hown ⟨N, 0, none⟩ 1 1 [.int .i64 z.k, .string z.t, .int .i64 z.a] hx rfl (tok_news h0 h1 h2) (fun u hu => by
    simp only [List.mem_cons, List.not_mem_nil, or_false] at hu
    rcases hu with rfl | rfl | rfl <;> rfl) (by unfold maxLen; omega) hsum hbase ?_
  intro v' w' h1 h2 _
  refine h v' w' ?_ h2
  rw [List.length_append, List.length_singleton, kcells_append]
  exact h1
/-- What the loop of Tokens holds. -/
structure TokL (w : World) (l : List UInt8) (k : Nat) (T : List Tok) (vr : Value) (u : World) : Prop where
  own : u.ownsRow w.heap.size 23 3 vr T.length (kcells T)
  low : Below w.heap.size w u
  scan : scan l 0 0 = (scan (l.drop k) k 0).map fun U => T ++ U
  len : T.length ≤ k
theorem TokL.space {w u : World} {l : List UInt8} {k : Nat} {T : List Tok} {vr : Value} (h : TokL w l k T vr u) (hk : k < l.length) (hs : spcB l[k] = true) (o : Obj) : TokL w l (k + 1) T vr (u.alloc o) :=
  ⟨owns_keep h.own fun j hj => Below.heap_alloc _ _ _ (owns_lt h.own j hj), below_new h.low o, by rw [h.scan, scan_space hk hs], by have := h.len; omega⟩
theorem TokL.low2 {w u v : World} {l : List UInt8} {k : Nat} {T : List Tok} {vr : Value} (h : TokL w l k T vr u) (hb : Below u.heap.size u v) : TokL w l k T vr v :=
  ⟨owns_keep h.own fun j hj => hb.block j (owns_lt h.own j hj), below_next h.low hb, h.scan, h.len⟩
theorem TokL.setB {w u : World} {l : List UInt8} {k B : Nat} {T : List Tok} {vr : Value} (h : TokL w l k T vr u) (hB : w.heap.size ≤ B) (hne : ∀ j, vr.ownBlock = some j → j ≠ B) (y : Value) (o : Nat) : TokL w l k T vr (u.setCell ⟨B, o, none⟩ y) :=
  ⟨owns_keep h.own fun j hj => Below.heap_setCell _ _ _ _ (hne j hj), h.low.setCell (by exact hB) _, h.scan, h.len⟩
theorem tok_at {u : World} {X : Nat} {a b c : Value} (h : Cell3 u X a b c) (K : Int) (t : ByteArray) (k : Nat) :
    Cell3 ((((u.setCell ⟨X, 0, none⟩ (.int .i64 K)).setCell ⟨X, 1, none⟩ (.string t)).setCell ⟨X, 2, none⟩ (.int .i64 0)).setCell ⟨X, 2, none⟩ (.int .i64 k)) X (.int .i64 K) (.string t) (.int .i64 k) := by
  obtain ⟨hl, c0, c1, c2, fz⟩ := cell3_set h (.int .i64 K) (.string t) (.int .i64 0)
  exact ⟨by simpa [World.setCell] using hl, by go_simp, by go_simp, by go_simp, fun o => by rw [World.frozen?_setCell]; exact fz o⟩
/-- What Tokens gives. -/
def TokensPost (s : ByteArray) (w : World) (e : Ending) (w' : World) : Prop := ∃ (p : Option Addr) (c : Nat), e = .returned (.tuple #[.slice p (toksR s).1.length c, .int .i64 (toksR s).2.1, .int .i64 (toksR s).2.2]) ∧ KAt w' p (toksR s).1 ∧ (toksR s).1.length ≤ c ∧ Below w.heap.size w w'
theorem toksR_long {s : ByteArray} (h : 4096 < s.size) : toksR s = ([], 4096, 10) := by unfold toksR; rw [if_pos h]
theorem toksR_err {s : ByteArray} {k : Nat} (h : s.size ≤ 4096) (hs : scan s.data.toList 0 0 = .error k) : toksR s = ([], (k : Int), 1) := by unfold toksR; rw [if_neg (by omega), hs]
theorem toksR_ok {s : ByteArray} {T : List Tok} (h : s.size ≤ 4096) (hs : scan s.data.toList 0 0 = .ok T) : toksR s = (T, 0, 0) := by unfold toksR; rw [if_neg (by omega), hs]
theorem extract_first {s : ByteArray} {k : Nat} (h : k < s.size) : ∃ h0 : 0 < (s.extract k s.size).size, (s.extract k s.size)[0] = s[k] := by
  have hz : 0 < (s.extract k s.size).size := by rw [ByteArray.size_extract]; omega
  refine ⟨hz, ?_⟩
  have := ByteArray.getElem_extract (b := s) (start := k) (stop := s.size) (i := 0) (h := hz)
  simpa using this
set_option maxHeartbeats 4000000 in
theorem tokens_any (s : ByteArray) (w : World) (hE : Env ls w) (hm : 3 ∈ ls) (hy : 2 ∈ ls) (hS : 10 ∈ ls) (hR : 11 ∈ ls) :
    Calls Tryd.prog 11 #[.string s] w (TokensPost s w) := by
  unfold TokensPost
  by_cases hlong : 4096 < s.size
  · rw [toksR_long hlong]
    have e1 : decide ((4096 : Int) < s.size) = true := decide_eq_true (by omega)
    clear hlong
    go_enter Tryd.func11, Tryd.ntmps11
    go_wp2
    go_step3
    go_wp2
    try rw [Exit.noGoto_ret]
    go_ret3
    exact ⟨none, 0, rfl, KAt.nil _ _, Nat.le_refl _, Below.refl _ _⟩
  have hs : s.size ≤ 4096 := by omega
  have e1 : decide ((4096 : Int) < s.size) = false := decide_eq_false (by omega)
  have HE := Lib.hid hE
  have H0 : Hid (TokL w s.data.toList 0 [] (.slice none 0 0) w) := Lib.hid ⟨⟨rfl, Or.inl ⟨rfl, rfl⟩⟩, Below.refl _ _, by
    show _ = (Go.Proofs.YtgaihglploedaabDoor.scan s.data.toList 0 0).map _
    cases Go.Proofs.YtgaihglploedaabDoor.scan s.data.toList 0 0 <;> rfl, Nat.le_refl _⟩
  clear hE hlong
  go_enter Tryd.func11, Tryd.ntmps11
  go_wp2
  go_step3
  go_wp2
  go_step3
  go_wp2
  go_loopg [5, 6] s.size (fun g s5 s6 v => ∃ (k : Nat) (T : List Tok), Hid (k + g = s.size) ∧ s6 = .int .i64 k ∧ TokL w s.data.toList k T s5 v)
  case atStart => exact ⟨0, [], Lib.hid (Nat.zero_add _), rfl, H0.out⟩
  case round =>
    obtain ⟨k, T, hkg, rfl, ht⟩ := hrel
    have hk : k ≤ s.size := by have := hkg.out; omega
    have HT := Lib.hid ht
    clear ht H0
    by_cases hlt : k < s.size
    · have hll : k < s.data.toList.length := by simpa using hlt
      have hlt' : decide ((k : Int) < s.size) = true := decide_eq_true (by omega)
      cases hsp : spcI (s[k].toNat : Int)
      · have hspB : spcB s.data.toList[k] = false := hsp
        obtain ⟨hx0, hxe⟩ := extract_first hlt
        have hxs : (s.extract k s.size).size ≤ 4096 := by rw [ByteArray.size_extract]; omega
        have hB := cell3_new wr (.int .i64 0) (.string ⟨#[]⟩) (.int .i64 0) 23
        have HBX := Lib.hid hB
        have HT0 := Lib.hid (HT.out.low2 (below_alloc wr (.cells #[.int .i64 0, .string ⟨#[]⟩, .int .i64 0] 23)))
        have hEb := HE.out.low HT0.out.low
        have hcls : (runI (s[k].toNat : Int) = true ∧ ∀ W, Env ls W → Calls Tryd.prog 16 #[.string (s.extract k s.size)] W fun e W' => e = .returned (tokR (stepT (s.data.toList.drop k))) ∧ Below W.heap.size W W') ∨ (runI (s[k].toNat : Int) = false ∧ ((s[k].toNat : Int) == 39) = true ∧ ∀ W, Env ls W → Calls Tryd.prog 17 #[.string (s.extract k s.size)] W fun e W' => e = .returned (tokR (stepT (s.data.toList.drop k))) ∧ Below W.heap.size W W') ∨ (runI (s[k].toNat : Int) = false ∧ ((s[k].toNat : Int) == 39) = false ∧ ∀ W, Env ls W → Calls Tryd.prog 18 #[.string (s.extract k s.size)] W fun e W' => e = .returned (tokR (stepT (s.data.toList.drop k))) ∧ Below W.heap.size W W') := by
          rw [← extract_drop]
          cases hr : runI (s[k].toNat : Int)
          · refine Or.inr ?_
            by_cases h39 : (s[k].toNat : Int) = 39
            · refine Or.inl ⟨rfl, beq_iff_eq.2 h39, fun W hW => quoted_any _ W hW hx0 hxs (by rw [hxe, ← UInt8.toNat_inj]; show s[k].toNat = 39; omega)⟩
            · exact Or.inr ⟨rfl, beq_eq_false_iff_ne.2 h39, fun W hW => symbol_any _ W hW hy hx0 (by rw [hxe]; exact hr) (by rw [hxe]; rintro e; exact h39 (by rw [e]; rfl))⟩
          · exact Or.inl ⟨rfl, fun W hW => run_any _ W hW hm hS hR hx0 hxs (by rw [hxe]; exact hr)⟩
        have HEb := Lib.hid hEb
        have hBw : w.heap.size ≤ wr.heap.size := HT.out.low.size
        have HSP := Lib.hid hsp
        clear hsp hxe hx0 hxs hB hEb
        cases hst : stepT (s.data.toList.drop k) with
        | none =>
          have HV := Lib.hid (toksR_err hs (k := k) (by rw [HT.out.scan, scan_bad hll hspB hst]; rfl))
          rw [hst] at hcls
          unfold tokR at hcls
          clear hst hspB
          rcases hcls with ⟨hr, hcall⟩ | ⟨hr, h39, hcall⟩ | ⟨hr, h39, hcall⟩
          all_goals
            have HRR := Lib.hid hr
            have HCL := Lib.hid hcall
            clear hr hcall
            go_wp2_with (first
              | (go_at_call 14; refine (isspace_any _ _).mono ?_; rintro e w' ⟨rfl, rfl⟩; rw [HSP.out])
              | (go_at_call 15; refine (inrun_any _ _).mono ?_; rintro e w' ⟨rfl, rfl⟩; rw [HRR.out])
              | ((first | go_at_call 16 | go_at_call 17 | go_at_call 18); refine (HCL.out _ HEb.out).mono ?_; rintro e w3 ⟨rfl, hb3⟩; (have HT3 := Lib.hid (HT0.out.low2 hb3)); obtain ⟨xl, x0, x1, x2, xf⟩ := HBX.out.low hb3; clear hb3))
            try rw [Exit.noGoto_ret]
            go_ret3
            rw [HV.out]
            exact ⟨none, 0, rfl, KAt.nil _ _, Nat.le_refl _, ((HT3.out.low.setCell (by exact hBw) _).setCell (by exact hBw) _).setCell (by exact hBw) _⟩
        | some x =>
          obtain ⟨K, t, n⟩ := x
          have hl := stepT_len hst
          rw [List.length_drop] at hl
          have hn1 : 1 ≤ n := hl.1
          have hn2 : k + n ≤ s.size := by have := hl.2; simp at this; omega
          have HSC := Lib.hid (show scan s.data.toList 0 0 = (scan (s.data.toList.drop (k + n)) (k + n) 0).map fun U => (T ++ [⟨K, t, k⟩]) ++ U by rw [HT.out.scan, scan_tok hll hspB hst, map_push])
          have HLEN := Lib.hid HT.out.len
          have en : ((n : Int) == 0) = false := beq_eq_false_iff_ne.2 (by omega)
          obtain ⟨p5, c5, rfl, -, -⟩ := tok_of_owns HT.out.own
          have HNE : Hid (∀ j, (Value.slice p5 T.length c5).ownBlock = some j → j ≠ wr.heap.size) := Lib.hid fun j hj => by have := owns_lt HT.out.own j hj; omega
          have hTl : T.length ≤ 5000 := by have := HT.out.len; omega
          rw [hst] at hcls
          unfold tokR at hcls
          clear hst hspB hl HT
          rcases hcls with ⟨hr, hcall⟩ | ⟨hr, h39, hcall⟩ | ⟨hr, h39, hcall⟩
          all_goals
            have HRR := Lib.hid hr
            have HCL := Lib.hid hcall
            clear hr hcall
            go_upto_region 19 with (first
              | (go_at_call 14; refine (isspace_any _ _).mono ?_; rintro e w' ⟨rfl, rfl⟩; rw [HSP.out])
              | (go_at_call 15; refine (inrun_any _ _).mono ?_; rintro e w' ⟨rfl, rfl⟩; rw [HRR.out])
              | ((first | go_at_call 16 | go_at_call 17 | go_at_call 18); refine (HCL.out _ HEb.out).mono ?_; rintro e w3 ⟨rfl, hb3⟩; (have HX4 := Lib.hid (tok_at (HBX.out.low hb3) K t k)); (have HT4 := Lib.hid (((((HT0.out.low2 hb3).setB hBw HNE.out (.int .i64 K) 0).setB hBw HNE.out (.string t) 1).setB hBw HNE.out (.int .i64 0) 2).setB hBw HNE.out (.int .i64 k) 2)); obtain ⟨xl, x0, x1, x2, xf⟩ := HBX.out.low hb3; clear hb3))
            generalize World.setCell _ _ _ = W4 at HX4 HT4 ⊢
            clear xl x0 x1 x2 xf
            obtain ⟨xl, x0, x1, x2, xf⟩ := HX4.out
            have HN := Lib.hid (cell3_new W4 (.int .i64 K) (.string t) (.int .i64 k) 23)
            have HT5 := Lib.hid (HT4.out.low2 (below_alloc W4 (.cells #[.int .i64 K, .string t, .int .i64 k] 23)))
            have HBS := Lib.hid HT5.out.low.size
            go_wp2_with (at_builtin; refine wpList_append_tok rfl (.tmp 57) (.tmp 59) rfl w.heap.size (.slice p5 T.length c5) T (by rfl) HT5.out.own W4.heap.size ⟨K, t, k⟩ (by rfl) HN.out.c0 HN.out.c1 HN.out.c2 (by omega) HBS.out ?_; intro v8 w8 hown8 hgr8; (have HT8 : Hid (TokL w s.data.toList (k + n) (T ++ [⟨K, t, k⟩]) v8 w8) := Lib.hid ⟨hown8, HT5.out.low.grown hgr8 HBS.out (owns_block HT5.out.own), HSC.out, by rw [List.length_append, List.length_singleton]; have := HLEN.out; omega⟩); clear hown8 hgr8)
            go_roundg (s.size - (k + n))
            case measure => have := hkg.out; omega
            case rel => exact ⟨k + n, T ++ [⟨K, t, k⟩], Lib.hid (by omega), by go_num, HT8.out⟩
      · have HSP := Lib.hid hsp
        have HN := Lib.hid (HT.out.space hll (by exact hsp) (.cells #[.int .i64 0, .string ⟨#[]⟩, .int .i64 0] 23))
        clear hsp
        go_wp2_with (go_at_call 14; refine (isspace_any _ _).mono ?_; rintro e w' ⟨rfl, rfl⟩; rw [HSP.out])
        obtain ⟨gO, rfl⟩ : ∃ g, gk = g + 1 := ⟨gk - 1, by have := hkg.out; omega⟩
        go_roundg gO
        case measure => omega
        case rel => exact ⟨k + 1, T, Lib.hid (by have := hkg.out; omega), by go_num, HN.out⟩
    · have hlt' : decide ((k : Int) < s.size) = false := decide_eq_false (by omega)
      have HV := Lib.hid (toksR_ok hs (by rw [HT.out.scan, scan_end (by simpa using hlt)]; show Except.ok (T ++ []) = Except.ok T; rw [List.append_nil]))
      obtain ⟨p, c, rfl, hKA, hcc⟩ := tok_of_owns HT.out.own
      have HKA := Lib.hid hKA
      clear hKA
      go_wp2
      try rw [Exit.noGoto_ret]
      go_ret3
      rw [HV.out]
      exact ⟨p, c, rfl, HKA.out, hcc, HT.out.low⟩
end Go.Proofs.YtgaihglploedaabDoor
/-
  Format, of the program and of the reference.
-/
namespace Go.Proofs.YtgaihglploedaabDoor
set_option maxRecDepth 100000
open Go.RowKit
variable {ls : List Nat}

/-- The text of a value: '?' if it is not valid. -/
def quoteB (s : ByteArray) : ByteArray := ⟨#[39]⟩ ++ ⟨(Lib.replaceAll s.data.toList [39] [39, 39]).toArray⟩ ++ ⟨#[39]⟩
def fmtB (k n : Int) (s : ByteArray) : ByteArray :=
  if validB k n s then (if k = 1 then ⟨(Lib.itoa n).toArray⟩ else if k = 2 then (if n = 1 then ⟨#[84, 82, 85, 69]⟩ else ⟨#[70, 65, 76, 83, 69]⟩) else if k = 3 then quoteB s else ⟨#[78, 85, 76, 76]⟩) else ⟨#[63]⟩

theorem replaceK_len (old new : List UInt8) (k : Nat) (s : List UInt8) : (Lib.replaceK old new k s).length ≤ s.length + k * new.length := by
  induction k generalizing s with
  | zero => simp [Lib.replaceK]
  | succ k ih =>
    rw [Lib.replaceK]
    split
    · omega
    · have := ih (s.drop ((Lib.index s old).toNat + old.length))
      simp only [List.length_append, List.length_take, List.length_drop] at this ⊢
      rw [Nat.succ_mul]
      omega
theorem quote_len (s : List UInt8) (h : s.length ≤ 64) : (Lib.replaceAll s [39] [39, 39]).length ≤ 300 := by
  unfold Lib.replaceAll Lib.replace
  split
  · omega
  · have h1 := replaceK_len [39] [39, 39] (Lib.replaceNum s [39] (-1)) s
    have h2 : Lib.replaceNum s [39] (-1) = Lib.count s [39] := by unfold Lib.replaceNum; rw [if_pos (Or.inl (by decide))]
    have h3 := Lib.count_le s [39]
    rw [h2] at h1
    simp only [List.length_cons, List.length_nil] at h1
    rw [h2]
    omega

theorem ret_str {a b : ByteArray} (h : a = b) : Ending.returned (.string a) = .returned (.string b) := by rw [h]

set_option maxHeartbeats 400000 in
theorem format_bad (k n : Int) (s : ByteArray) (w : World) (hs : s.size ≤ 9223372036854775807) (hv : validB k n s = false) :
    Calls Tryd.prog 12 #[.agg #[.int .i64 k, .int .i64 n, .string s]] w fun e w' => e = .returned (.string (fmtB k n s)) ∧ Below w.heap.size w w' := by
  have hf : fmtB k n s = ⟨#[63]⟩ := by unfold fmtB; rw [hv]; rfl
  have HF := Lib.hid hf
  have HV := Lib.hid hv
  clear hf hv
  go_enter Tryd.func12, Tryd.ntmps12
  go_wp2_with fail
  refine (valid_any k n s _ hs).mono ?_
  rintro e w' ⟨rfl, hb⟩
  rw [HV.out]
  go_wp2
  go_ret
  exact ⟨ret_str HF.out.symm, Below.of_alloc hb⟩

set_option maxHeartbeats 400000 in
theorem format_null (w : World) :
    Calls Tryd.prog 12 #[.agg #[.int .i64 0, .int .i64 0, .string ⟨#[]⟩]] w fun e w' => e = .returned (.string ⟨#[78, 85, 76, 76]⟩) ∧ Below w.heap.size w w' := by
  have HV := Lib.hid (show validB 0 0 ⟨#[]⟩ = true by simp [validB])
  go_enter Tryd.func12, Tryd.ntmps12
  go_wp2_with fail
  refine (valid_any 0 0 ⟨#[]⟩ _ (by decide)).mono ?_
  rintro e w' ⟨rfl, hb⟩
  rw [HV.out]
  obtain ⟨c0, c1, c2, -⟩ := box3 hb
  go_wp2
  go_ret
  exact ⟨rfl, Below.of_alloc hb⟩

set_option maxHeartbeats 400000 in
theorem format_num (n : Int) (w : World) (hE : Env ls w) (h1 : -9223372036854775808 ≤ n) (h2 : n ≤ 9223372036854775807) :
    Calls Tryd.prog 12 #[.agg #[.int .i64 1, .int .i64 n, .string ⟨#[]⟩]] w fun e w' => e = .returned (.string ⟨(Lib.itoa n).toArray⟩) ∧ Below w.heap.size w w' := by
  have HV := Lib.hid (show validB 1 n ⟨#[]⟩ = true by simp [validB])
  go_enter Tryd.func12, Tryd.ntmps12
  go_wp2_with fail
  refine (valid_any 1 n ⟨#[]⟩ _ (by decide)).mono ?_
  rintro e w' ⟨rfl, hb⟩
  rw [HV.out]
  obtain ⟨c0, c1, c2, -⟩ := box3 hb
  have hb' := Below.of_alloc hb
  have hp := (hE.low hb').pow
  clear HV hb hE
  go_wp2_with (go_at_call 20; refine (Tryd.strconv_FormatInt_10 n h1 h2 _ hp).mono ?_; rintro e w2 ⟨rfl, kk, os, rfl⟩)
  go_ret
  exact ⟨rfl, Below.next hb' (below_grow _ _ _)⟩

set_option maxHeartbeats 400000 in
theorem format_truth (n : Int) (w : World) (hE : Env ls w) (hN : 1 ∈ ls) (hn : n = 0 ∨ n = 1) :
    Calls Tryd.prog 12 #[.agg #[.int .i64 2, .int .i64 n, .string ⟨#[]⟩]] w fun e w' => e = .returned (.string (if n = 1 then ⟨#[84, 82, 85, 69]⟩ else ⟨#[70, 65, 76, 83, 69]⟩)) ∧ Below w.heap.size w w' := by
  rcases hn with rfl | rfl
  · have HV := Lib.hid (show validB 2 0 ⟨#[]⟩ = true by simp [validB])
    go_enter Tryd.func12, Tryd.ntmps12
    go_wp2_with fail
    refine (valid_any 2 0 ⟨#[]⟩ _ (by decide)).mono ?_
    rintro e w' ⟨rfl, hb⟩
    rw [HV.out]
    obtain ⟨c0, c1, c2, -⟩ := box3 hb
    have hb' := Below.of_alloc hb
    have hp := (hE.low hb').no hN
    go_wp2
    go_ret
    exact ⟨rfl, hb'⟩
  · have HV := Lib.hid (show validB 2 1 ⟨#[]⟩ = true by simp [validB])
    go_enter Tryd.func12, Tryd.ntmps12
    go_wp2_with fail
    refine (valid_any 2 1 ⟨#[]⟩ _ (by decide)).mono ?_
    rintro e w' ⟨rfl, hb⟩
    rw [HV.out]
    obtain ⟨c0, c1, c2, -⟩ := box3 hb
    have hb' := Below.of_alloc hb
    have hp := (hE.low hb').yes hN
    go_wp2
    go_ret
    exact ⟨rfl, hb'⟩

set_option maxHeartbeats 400000 in
theorem format_text (s : ByteArray) (w : World) (hE : Env ls w) (hv : textOK s.data.toList = true) :
    Calls Tryd.prog 12 #[.agg #[.int .i64 3, .int .i64 0, .string s]] w fun e w' => e = .returned (.string (quoteB s)) ∧ Below w.heap.size w w' := by
  have hl := textOK_len hv
  have hl' : s.size ≤ 64 := by simpa using hl
  have HV := Lib.hid (show validB 3 0 s = true by rw [validB_text, hv])
  clear hv hl
  go_enter Tryd.func12, Tryd.ntmps12
  go_wp2_with fail
  refine (valid_any 3 0 s _ (by omega)).mono ?_
  rintro e w' ⟨rfl, hb⟩
  rw [HV.out]
  obtain ⟨c0, c1, c2, -⟩ := box3 hb
  have hb' := Below.of_alloc hb
  obtain ⟨m, hm⟩ := (hE.low hb').maxlen
  clear HV hb hE
  have hq := quote_len s.data.toList (by simpa using hl')
  have hlen : s.size + Lib.countB s ⟨#[39]⟩ * (⟨#[39, 39]⟩ : ByteArray).size ≤ 140737488355328 := by
    have h1 := Lib.countB_le ⟨#[39]⟩ (by decide) s.size s (Nat.le_refl _)
    have h2 : (⟨#[39, 39]⟩ : ByteArray).size = 2 := rfl
    rw [h2]; omega
  go_wp2_with fail
  refine (Tryd.strings_ReplaceAll s ⟨#[39]⟩ ⟨#[39, 39]⟩ m _ (by omega) hm (by decide) hlen).mono ?_
  rintro e w2 ⟨rfl, hb2⟩
  go_wp2
  go_ret
  exact ⟨ret_str (by simp [quoteB]), Below.next hb' hb2⟩

theorem validB_cases {k n : Int} {s : ByteArray} (h : validB k n s = true) :
    (k = 0 ∧ n = 0 ∧ s = ⟨#[]⟩) ∨ (k = 1 ∧ s = ⟨#[]⟩) ∨ (k = 2 ∧ (n = 0 ∨ n = 1) ∧ s = ⟨#[]⟩) ∨ (k = 3 ∧ n = 0 ∧ textOK s.data.toList = true) := by
  have he : s.toList.isEmpty = true → s = ⟨#[]⟩ := fun h => by
    rw [ByteArray.toList_eq] at h
    exact WideShapes.bytes_inj (by simpa using h)
  unfold validB at h
  split at h
  · simp only [Bool.and_eq_true, beq_iff_eq] at h; exact Or.inl ⟨by assumption, h.1, he h.2⟩
  · split at h
    · exact Or.inr (Or.inl ⟨by assumption, he h⟩)
    · split at h
      · simp only [Bool.and_eq_true, Bool.or_eq_true, beq_iff_eq] at h; exact Or.inr (Or.inr (Or.inl ⟨by assumption, h.1, he h.2⟩))
      · split at h
        · simp only [Bool.and_eq_true, beq_iff_eq] at h; exact Or.inr (Or.inr (Or.inr ⟨by assumption, h.1, h.2⟩))
        · cases h
theorem fmtB_null : fmtB 0 0 ⟨#[]⟩ = ⟨#[78, 85, 76, 76]⟩ := by unfold fmtB; rw [show validB 0 0 ⟨#[]⟩ = true by simp [validB]]; rfl
theorem fmtB_num (n : Int) : fmtB 1 n ⟨#[]⟩ = ⟨(Lib.itoa n).toArray⟩ := by unfold fmtB; rw [show validB 1 n ⟨#[]⟩ = true by simp [validB]]; rfl
theorem fmtB_truth (n : Int) (h : n = 0 ∨ n = 1) : fmtB 2 n ⟨#[]⟩ = if n = 1 then ⟨#[84, 82, 85, 69]⟩ else ⟨#[70, 65, 76, 83, 69]⟩ := by
  unfold fmtB; rw [show validB 2 n ⟨#[]⟩ = true by simp [validB]; exact h]; rfl
theorem fmtB_text (s : ByteArray) (h : textOK s.data.toList = true) : fmtB 3 0 s = quoteB s := by unfold fmtB; rw [show validB 3 0 s = true by rw [validB_text, h]]; rfl

theorem format_txt (s : ByteArray) (w : World) (hE : Env ls w) (hs : s.size ≤ 9223372036854775807) :
    Calls Tryd.prog 12 #[.agg #[.int .i64 3, .int .i64 0, .string s]] w fun e w' => e = .returned (.string (fmtB 3 0 s)) ∧ Below w.heap.size w w' := by
  cases hv : validB 3 0 s
  · exact format_bad 3 0 s w hs hv
  · rcases validB_cases hv with ⟨h, -, -⟩ | ⟨h, -⟩ | ⟨h, -, -⟩ | ⟨-, -, ht⟩
    · exact absurd h (by decide)
    · exact absurd h (by decide)
    · exact absurd h (by decide)
    · rw [fmtB_text s ht]; exact format_text s w hE ht
theorem format_any (k n : Int) (s : ByteArray) (w : World) (hE : Env ls w) (hN : 1 ∈ ls) (hs : s.size ≤ 9223372036854775807) (h1 : -9223372036854775808 ≤ n) (h2 : n ≤ 9223372036854775807) :
    Calls Tryd.prog 12 #[.agg #[.int .i64 k, .int .i64 n, .string s]] w fun e w' => e = .returned (.string (fmtB k n s)) ∧ Below w.heap.size w w' := by
  cases hv : validB k n s
  · exact format_bad k n s w hs hv
  · rcases validB_cases hv with ⟨rfl, rfl, rfl⟩ | ⟨rfl, rfl⟩ | ⟨rfl, hn, rfl⟩ | ⟨rfl, rfl, ht⟩
    · rw [fmtB_null]; exact format_null w
    · rw [fmtB_num]; exact format_num n w hE h1 h2
    · rw [fmtB_truth n hn]; exact format_truth n w hE hN hn
    · rw [fmtB_text s ht]; exact format_text s w hE ht
end Go.Proofs.YtgaihglploedaabDoor
