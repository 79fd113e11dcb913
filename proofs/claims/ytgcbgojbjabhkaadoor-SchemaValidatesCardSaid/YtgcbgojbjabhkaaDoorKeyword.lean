/-
  Keyword, of the program and of the reference.
-/
import Derived.Test.YtgcbgojbjabhkaaDoorNameOK
import Derived.Laws.Rows
import Derived.Laws.Concat
import Derived.Lib.IndexMore
namespace Go.Proofs.YtgcbgojbjabhkaaDoor
open Go.RowKit
variable {ls : List Nat}

/-- Is a text a keyword? -/
def keyB (s : ByteArray) : Bool := keyL.contains s.data.toList
theorem keyB_at {s : ByteArray} {i : Nat} (hi : i < 51) (h : keyS i = s) : keyB s = true := by
  subst h
  have : ∀ i : Fin 51, keyB (keyS i) = true := by decide +kernel
  exact this ⟨i, hi⟩
theorem keyB_none {s : ByteArray} (h : ∀ j, j < 51 → keyS j ≠ s) : keyB s = false := by
  rw [Bool.eq_false_iff]
  intro hc
  unfold keyB at hc
  obtain ⟨j, hj, he⟩ := List.mem_iff_getElem.1 (List.contains_iff_mem.1 hc)
  have hl : keyL.length = 51 := by decide
  refine h j (by omega) ?_
  unfold keyS
  rw [List.getD_eq_getElem?_getD, List.getElem?_eq_getElem hj, Option.getD_some, he]

theorem index_text {cs : Array Value} {k : Nat} {z : ByteArray} (hk : k < 51) (h : cs[k]? = some (.string z)) (w : World) :
    (Instr.index 58 (.agg cs) (.int .i64 (k : Int))).run Tryd.prog w = .ok (.string z) w := by
  have hn : 0 ≤ (k : Int) ∧ (k : Int) < 51 := by omega
  simp [Instr.index, run_underlying Tryd.underlying58, asIntOf, hn, go_sem, h, part, Tryd.sizeOf9, Tryd.isAgg9]
  intro hc; omega
theorem eq_texts {a b : ByteArray} (h : a = b) : (a.toList == b.toList) = true := by rw [h]; exact beq_self_eq_true _
theorem ne_texts {a b : ByteArray} (h : a ≠ b) : (a.toList == b.toList) = false := by
  rw [beq_eq_false_iff_ne, ByteArray.toList_eq, ByteArray.toList_eq]
  exact fun hc => h (ByteArray.ext (Array.toList_inj.1 hc))

set_option maxHeartbeats 1000000 in
theorem keyword_any (s : ByteArray) (w : World) (hE : Env ls w) (hm : 1 ∈ ls) :
    Calls Tryd.prog 11 #[.string s] w fun e w' => e = .returned (.bool (keyB s)) ∧ w = w' := by
  obtain ⟨cs, t, fr, hg, hz, hcs⟩ := hE.keys hm
  have hi : (Tryd.prog.info? 58).map (·.size) = some cs.size := by rw [hz]; kernel_rfl
  have HC := Lib.hid hcs
  clear hcs
  go_enter Tryd.func11, Tryd.ntmps11
  go_wp2_with (refine wpList_load_row rfl 58 _ rfl 1 rfl t cs fr _ hg Tryd.underlying58 rfl hi ?_)
  go_loop [6] (fun i => ∃ k : Nat, k ≤ 51 ∧ i = .int .i64 k ∧ ∀ j, j < k → keyS j ≠ s) (fun i => 51 - (intOf i).toNat)
  case atStart => exact ⟨0, Nat.zero_le _, rfl, fun j hj => by omega⟩
  case round =>
    obtain ⟨k, hk, rfl, ha⟩ := hrel
    have HA := Lib.hid ha
    clear ha
    by_cases hlt : k < 51
    · have hlt' : decide ((k : Int) < 51) = true := decide_eq_true (by omega)
      have hck := index_text hlt (HC.out k hlt)
      by_cases he : keyS k = s
      · have HE := Lib.hid he
        have heq := eq_texts he
        clear he
        go_wp2
        go_ret
        exact ⟨ret_b (keyB_at hlt HE.out).symm, rfl⟩
      · have HE := Lib.hid he
        have heq := ne_texts he
        clear he
        go_wp2
        go_round
        case rel => exact ⟨k + 1, by omega, by go_num, fun j hj => by
          rcases Nat.lt_succ_iff_lt_or_eq.1 hj with h | h
          · exact HA.out j h
          · subst h; exact HE.out⟩
        case measure => simp [intOf]; omega
    · have hlt' : decide ((k : Int) < 51) = false := decide_eq_false (by omega)
      obtain rfl : k = 51 := by omega
      go_wp2
      go_ret
      exact ⟨ret_b (keyB_none HA.out).symm, rfl⟩

/-- The keywords, one behind another, a space behind each. -/
def flatK : List (List UInt8) → List UInt8
  | [] => []
  | k :: r => k ++ 32 :: flatK r
theorem split_at {k y a x : List UInt8} (h : a ++ 32 :: x = k ++ 32 :: y) (hk : ∀ c ∈ k, c ≠ 32) : ∃ a', a = k ++ a' ∧ a' ++ 32 :: x = 32 :: y := by
  rcases List.append_eq_append_iff.1 h with ⟨c, h1, h2⟩ | ⟨c, h1, h2⟩
  · cases c with
    | nil => exact ⟨[], by simpa using h1.symm, by simpa using h2⟩
    | cons z c =>
      simp only [List.cons_append, List.cons.injEq] at h2
      exact absurd h2.1.symm (hk z (by rw [h1]; simp))
  · exact ⟨c, h1, h2.symm⟩
theorem same_word {s k x y : List UInt8} (h : s ++ 32 :: x = k ++ 32 :: y) (hs : ∀ c ∈ s, c ≠ 32) (hk : ∀ c ∈ k, c ≠ 32) : s = k := by
  obtain ⟨a, h1, h2⟩ := split_at h hk
  cases a with
  | nil => simpa using h1
  | cons z c =>
    simp only [List.cons_append, List.cons.injEq] at h2
    exact absurd h2.1 (hs z (by rw [h1]; simp))
theorem mem_of_infix {s : List UInt8} (hs : ∀ c ∈ s, c ≠ 32) : ∀ (ks : List (List UInt8)) (a b : List UInt8), (∀ k ∈ ks, ∀ c ∈ k, c ≠ 32) → a ++ (32 :: (s ++ 32 :: b)) = 32 :: flatK ks → s ∈ ks
  | [], a, b, _, h => by
    have := congrArg List.length h
    simp [flatK] at this; omega
  | k :: r, a, b, hk, h => by
    cases a with
    | nil =>
      simp only [List.nil_append, List.cons.injEq, flatK, true_and] at h
      rw [same_word h hs (hk k (by simp))]
      simp
    | cons z a =>
      simp only [List.cons_append, List.cons.injEq, flatK] at h
      obtain ⟨a', h1, h2⟩ := split_at h.2 (hk k (by simp))
      exact List.mem_cons_of_mem _ (mem_of_infix hs r a' b (fun q hq => hk q (by simp [hq])) h2)
theorem infix_of_mem {s : List UInt8} : ∀ (ks : List (List UInt8)), s ∈ ks → ∃ a b, 32 :: flatK ks = a ++ (32 :: (s ++ 32 :: b))
  | [], h => by cases h
  | k :: r, h => by
    rcases List.mem_cons.1 h with rfl | h
    · exact ⟨[], flatK r, rfl⟩
    · obtain ⟨a, b, he⟩ := infix_of_mem r h
      exact ⟨32 :: k ++ a, b, by simp [flatK, he]⟩
theorem keyL_plain : ∀ k ∈ keyL, ∀ c ∈ k, c ≠ 32 := by decide +kernel
theorem keyL_full : ∀ k ∈ keyL, k ≠ [] := by decide +kernel
theorem contains_iff (l s : List UInt8) : Lib.contains l s = true ↔ ∃ a b, l = a ++ (s ++ b) := by
  unfold Lib.contains
  rw [decide_eq_true_iff]
  rcases Lib.index_spec l s with ⟨h1, h2⟩ | ⟨i, h1, h2, h3, -⟩
  · constructor
    · intro h; omega
    · rintro ⟨a, b, rfl⟩
      have := h2 a.length (by simp)
      unfold Lib.occAt at this
      rw [List.drop_left, Bool.eq_false_iff] at this
      exact absurd (List.isPrefixOf_iff_prefix.2 ⟨b, rfl⟩) this
  · constructor
    · intro _
      unfold Lib.occAt at h3
      obtain ⟨b, hb⟩ := List.isPrefixOf_iff_prefix.1 h3
      exact ⟨l.take i, b, by rw [hb]; exact (List.take_append_drop i l).symm⟩
    · intro _; omega
/-- What the reference's Keyword computes. -/
theorem keyB_spec (s : ByteArray) (hsp : ∀ c ∈ s.data.toList, c ≠ 32) : keyB s = Lib.contains (32 :: flatK keyL) (32 :: (s.data.toList ++ [32])) := by
  rw [Bool.eq_iff_iff, contains_iff]
  unfold keyB
  rw [List.contains_iff_mem]
  constructor
  · intro h
    obtain ⟨a, b, he⟩ := infix_of_mem keyL h
    exact ⟨a, b, by rw [he]; simp⟩
  · rintro ⟨a, b, he⟩
    exact mem_of_infix hsp keyL a b keyL_plain (by rw [he]; simp)
theorem keyB_empty : keyB ⟨#[]⟩ = false := by decide +kernel
theorem keyB_space {s : ByteArray} (h : 0 ≤ Lib.indexByte s.data.toList 32) : keyB s = false := by
  rw [Bool.eq_false_iff]
  intro hc
  unfold keyB at hc
  obtain ⟨o, ho⟩ := Int.eq_ofNat_of_zero_le h
  have := (Lib.indexByte_some ho).1
  exact keyL_plain _ (List.contains_iff_mem.1 hc) 32 (List.mem_of_getElem? this) rfl
theorem no_space {s : ByteArray} (h : ¬ 0 ≤ Lib.indexByte s.data.toList 32) : ∀ c ∈ s.data.toList, c ≠ 32 := by
  rintro c hc rfl
  have h1 := Lib.indexByte_ge s.data.toList 32
  obtain ⟨j, hj⟩ := List.mem_iff_getElem?.1 hc
  exact Lib.indexByte_none (by omega) j hj

/-- The reference's text of all keywords. -/
def wordsA : ByteArray := ⟨#[32, 65, 66, 79, 82, 84, 32, 65, 70, 84, 69, 82, 32, 65, 78, 68, 32, 66, 69, 70, 79, 82, 69, 32, 66, 69, 71, 73, 78, 32, 66, 69, 84, 87, 69, 69, 78, 32, 66, 79, 79, 76, 32, 67, 79, 85, 78, 84, 32, 67, 82, 69, 65, 84, 69, 32, 68, 69, 76, 69, 84, 69, 32, 68, 69, 76, 69, 84, 69, 68, 32, 68, 82, 79, 80, 32, 69, 65, 67, 72, 32, 69, 78, 68, 32, 69, 88, 73, 83, 84, 83, 32, 70, 65, 76, 83, 69, 32, 70, 79, 76, 76, 79, 87, 83, 32, 70, 79, 82, 32, 70, 82, 79, 77, 32, 73, 78, 83, 69, 82, 84, 32, 73, 78, 83, 69, 82, 84, 69, 68, 32, 73, 78, 84, 32, 73, 78, 84, 79, 32, 73, 83, 32, 75, 69, 89, 32, 77, 65, 88, 32, 77, 73, 78, 32, 78, 69, 87, 32, 78, 79, 84, 32, 78, 85, 76, 76, 32, 79, 70, 32, 79, 76, 68, 32, 79, 78, 32, 79, 82, 32, 80, 82, 69, 67, 69, 68, 69, 83, 32, 80, 82, 73, 77, 65, 82, 89, 32, 82, 65, 78, 75, 32, 82, 79, 87, 32, 83, 69, 76, 69, 67, 84, 32, 83, 69, 84, 32, 83, 84, 65, 84, 69, 77, 69, 78, 84, 32, 83, 85, 77, 32, 84, 65, 66, 76, 69, 32, 84, 69, 88, 84, 32, 84, 79, 32, 84, 82, 73, 71, 71, 69, 82, 32, 84, 82, 85, 69, 32, 85, 80, 68, 65, 84, 69, 32, 86, 65, 76, 85, 69, 83, 32, 87, 72, 69, 78, 32, 87, 72, 69, 82, 69, 32]⟩
theorem wordsA_list : wordsA.data.toList = 32 :: flatK keyL := by decide +kernel
theorem spaced (s : ByteArray) : ((⟨#[32]⟩ : ByteArray) ++ s ++ (⟨#[32]⟩ : ByteArray)).data.toList = 32 :: (s.data.toList ++ [32]) := by
  simp [ByteArray.data_append]
theorem rcont (s : ByteArray) (m : Int) (w : World) (b : Bool) (hm : w.cell? ⟨3, 0, none⟩ = some (.int .i64 m)) (hb : b = Lib.contains (32 :: flatK keyL) (32 :: (s.data.toList ++ [32]))) :
    Calls Tryd.prog 33 #[.string ⟨#[32, 65, 66, 79, 82, 84, 32, 65, 70, 84, 69, 82, 32, 65, 78, 68, 32, 66, 69, 70, 79, 82, 69, 32, 66, 69, 71, 73, 78, 32, 66, 69, 84, 87, 69, 69, 78, 32, 66, 79, 79, 76, 32, 67, 79, 85, 78, 84, 32, 67, 82, 69, 65, 84, 69, 32, 68, 69, 76, 69, 84, 69, 32, 68, 69, 76, 69, 84, 69, 68, 32, 68, 82, 79, 80, 32, 69, 65, 67, 72, 32, 69, 78, 68, 32, 69, 88, 73, 83, 84, 83, 32, 70, 65, 76, 83, 69, 32, 70, 79, 76, 76, 79, 87, 83, 32, 70, 79, 82, 32, 70, 82, 79, 77, 32, 73, 78, 83, 69, 82, 84, 32, 73, 78, 83, 69, 82, 84, 69, 68, 32, 73, 78, 84, 32, 73, 78, 84, 79, 32, 73, 83, 32, 75, 69, 89, 32, 77, 65, 88, 32, 77, 73, 78, 32, 78, 69, 87, 32, 78, 79, 84, 32, 78, 85, 76, 76, 32, 79, 70, 32, 79, 76, 68, 32, 79, 78, 32, 79, 82, 32, 80, 82, 69, 67, 69, 68, 69, 83, 32, 80, 82, 73, 77, 65, 82, 89, 32, 82, 65, 78, 75, 32, 82, 79, 87, 32, 83, 69, 76, 69, 67, 84, 32, 83, 69, 84, 32, 83, 84, 65, 84, 69, 77, 69, 78, 84, 32, 83, 85, 77, 32, 84, 65, 66, 76, 69, 32, 84, 69, 88, 84, 32, 84, 79, 32, 84, 82, 73, 71, 71, 69, 82, 32, 84, 82, 85, 69, 32, 85, 80, 68, 65, 84, 69, 32, 86, 65, 76, 85, 69, 83, 32, 87, 72, 69, 78, 32, 87, 72, 69, 82, 69, 32]⟩, .string ((⟨#[32]⟩ : ByteArray) ++ s ++ (⟨#[32]⟩ : ByteArray))] w fun e w' => e = .returned (.bool b) ∧ w = w' := by
  refine (Tryd.strings_Contains wordsA ((⟨#[32]⟩ : ByteArray) ++ s ++ (⟨#[32]⟩ : ByteArray)) m w (by decide +kernel) hm).mono ?_
  rintro e w' ⟨rfl, rfl⟩
  rw [hb, wordsA_list, spaced]
  exact ⟨rfl, rfl⟩
theorem ne_empty {s : ByteArray} (h : s ≠ ⟨#[]⟩) : s.toList.isEmpty = false := by
  rw [List.isEmpty_eq_false_iff, ByteArray.toList_eq]
  intro hc
  exact h (ByteArray.ext (Array.toList_inj.1 hc))
set_option maxRecDepth 100000 in
set_option maxHeartbeats 1000000 in
theorem rkeyword_any (s : ByteArray) (w : World) (hE : Env ls w) (hs : s.size ≤ 140737488355328) :
    Calls Tryd.prog 12 #[.string s] w fun e w' => e = .returned (.bool (keyB s)) ∧ w = w' := by
  by_cases hne : s = ⟨#[]⟩
  · subst hne
    have HK := Lib.hid keyB_empty
    go_enter Tryd.func12, Tryd.ntmps12
    go_wp2
    go_ret
    exact ⟨ret_b HK.out.symm, rfl⟩
  have e0 : s.toList.isEmpty = false := ne_empty hne
  by_cases hsp : 0 ≤ Lib.indexByte s.data.toList 32
  · have HK := Lib.hid (keyB_space hsp)
    have HD := Lib.hid (decide_eq_true hsp)
    clear hsp
    go_enter Tryd.func12, Tryd.ntmps12
    go_wp2_with (go_at_call 33; refine (Tryd.strings_Contains_one _ 32 _).mono ?_; rintro e w' ⟨rfl, rfl⟩; rw [HD.out])
    go_ret
    exact ⟨ret_b HK.out.symm, rfl⟩
  have HK := Lib.hid (keyB_spec s (no_space hsp))
  have HD := Lib.hid (decide_eq_false hsp)
  obtain ⟨m, hm⟩ := hE.maxlen
  clear hsp hE
  go_enter Tryd.func12, Tryd.ntmps12
  go_wp2_with fail
  refine (Tryd.strings_Contains_one _ 32 _).mono ?_
  rintro e w' ⟨rfl, rfl⟩
  rw [HD.out]
  go_wp2_with fail
  refine (rcont s m _ _ hm HK.out).mono ?_
  rintro e w' ⟨rfl, rfl⟩
  go_wp2
  go_ret
  exact ⟨rfl, rfl⟩
end Go.Proofs.YtgcbgojbjabhkaaDoor
