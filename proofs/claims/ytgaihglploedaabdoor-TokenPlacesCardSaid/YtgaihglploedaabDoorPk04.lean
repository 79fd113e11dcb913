/-
  Several texts in one.
-/
import Derived.Lib.Strings
import Derived.Below
import Derived.Lib.Itoa
import Derived.Lib.Replace
import Derived.Lib.Bytealg
import Derived.Lib.Small
import Derived.Test.YtgaihglploedaabDoorPk03
import Derived.Laws.IdiomStrings
import Derived.Test.YtgaihglploedaabDoorPk01
import Derived.Laws.Rows
import Derived.Laws.Concat
import Derived.Lib.IndexMore
/-
  THE PLAIN FUNCTIONS: what Valid, Format, Compare compute, on kinds, numbers and bytes. No program.
-/
namespace Go.Proofs.YtgaihglploedaabDoor
set_option maxRecDepth 100000
open Go

def byteOK (c : UInt8) : Bool := 32 ≤ c && c ≤ 126
def textOK (l : List UInt8) : Bool := decide (l.length ≤ 64) && l.all byteOK
/-- Is a value valid? -/
def validB (k n : Int) (s : ByteArray) : Bool :=
  if k = 0 then n == 0 && s.toList.isEmpty else if k = 1 then s.toList.isEmpty else if k = 2 then (n == 0 || n == 1) && s.toList.isEmpty else if k = 3 then n == 0 && textOK s.data.toList else false
theorem textOK_len {l : List UInt8} (h : textOK l = true) : l.length ≤ 64 := by
  unfold textOK at h; simp at h; exact h.1
theorem textOK_long {l : List UInt8} (h : 64 < l.length) : textOK l = false := by
  unfold textOK; simp; intro h1; omega
theorem all_take_succ (l : List UInt8) (k : Nat) (h : k < l.length) (p : UInt8 → Bool) : (l.take (k + 1)).all p = ((l.take k).all p && p l[k]) := by
  rw [List.take_succ_eq_append_getElem h, List.all_append]; simp
theorem textOK_bad {l : List UInt8} {k : Nat} (h : k < l.length) (hb : byteOK l[k] = false) : textOK l = false := by
  unfold textOK
  have : l.all byteOK = false := by
    rw [List.all_eq_false]; exact ⟨l[k], List.getElem_mem h, by simp [hb]⟩
  simp [this]
theorem textOK_all {l : List UInt8} (hl : l.length ≤ 64) (h : (l.take l.length).all byteOK = true) : textOK l = true := by
  unfold textOK; rw [List.take_length] at h; simp [hl, h]
theorem byteOK_iff (c : UInt8) : byteOK c = true ↔ 32 ≤ (c.toNat : Int) ∧ (c.toNat : Int) ≤ 126 := by
  unfold byteOK; simp [UInt8.le_iff_toNat_le]; omega
theorem byteOK_false {c : UInt8} (h : (c.toNat : Int) < 32 ∨ 126 < (c.toNat : Int)) : byteOK c = false := by
  rw [Bool.eq_false_iff]; intro hc; have := (byteOK_iff c).1 hc; omega
theorem byteOK_true {c : UInt8} (h : 32 ≤ (c.toNat : Int)) (h2 : (c.toNat : Int) ≤ 126) : byteOK c = true := (byteOK_iff c).2 ⟨h, h2⟩
theorem no_bytes : (⟨#[]⟩ : ByteArray).toList = [] := by
  unfold ByteArray.toList ByteArray.toList.loop; rfl
theorem textOK_at {s : ByteArray} {k : Nat} (h : k < s.size) (hb : (s[k].toNat : Int) < 32 ∨ 126 < (s[k].toNat : Int)) : textOK s.data.toList = false :=
  textOK_bad (k := k) (by simpa using h) (byteOK_false (show ((s.data.toList[k]'(by simpa using h)).toNat : Int) < 32 ∨ _ from hb))
theorem allOK_succ {s : ByteArray} {k : Nat} (h : k < s.size) (ha : (s.data.toList.take k).all byteOK = true) (h1 : 32 ≤ (s[k].toNat : Int)) (h2 : (s[k].toNat : Int) ≤ 126) : (s.data.toList.take (k + 1)).all byteOK = true := by
  rw [all_take_succ _ _ (by simpa using h), ha]
  show (true && byteOK s[k]) = true
  rw [byteOK_true h1 h2]; rfl
theorem textOK_end {s : ByteArray} {k : Nat} (hk : k ≤ s.size) (h : ¬ k < s.size) (hl : s.size ≤ 64) (ha : (s.data.toList.take k).all byteOK = true) : textOK s.data.toList = true := by
  obtain rfl : k = s.size := by omega
  exact textOK_all (by simpa using hl) (by simpa using ha)
end Go.Proofs.YtgaihglploedaabDoor
/-
  ValidName, of the program and of the reference.
-/
namespace Go.Proofs.YtgaihglploedaabDoor
set_option maxRecDepth 100000
open Go.RowKit

def ltrI (c : Int) : Bool := decide (97 ≤ c ∧ c ≤ 122)
def digI (c : Int) : Bool := decide (48 ≤ c ∧ c ≤ 57)
def ltrB (c : UInt8) : Bool := ltrI (c.toNat : Int)
def restB (c : UInt8) : Bool := ltrI (c.toNat : Int) || digI (c.toNat : Int) || decide ((c.toNat : Int) = 95)
/-- Is a text a name? -/
def nameOK (s : ByteArray) : Bool := decide (1 ≤ s.size ∧ s.size ≤ 12) && (s.data.toList.take 1).all ltrB && s.data.toList.all restB

theorem nameOK_len {s : ByteArray} (h : s.size < 1 ∨ 12 < s.size) : nameOK s = false := by
  unfold nameOK
  rw [decide_eq_false (by omega)]; rfl
theorem nameOK_bad {s : ByteArray} {k : Nat} (h : k < s.size) (hb : restB s[k] = false) : nameOK s = false := by
  unfold nameOK
  have : s.data.toList.all restB = false := by
    rw [List.all_eq_false]; exact ⟨s[k], by simp [ByteArray.getElem_eq_getElem_data], by simp [hb]⟩
  rw [this, Bool.and_false]
theorem nameOK_first {s : ByteArray} (h : 0 < s.size) (hb : ltrB s[0] = false) : nameOK s = false := by
  unfold nameOK
  have : (s.data.toList.take 1).all ltrB = false := by
    rw [all_take_succ _ 0 (by simpa using h)]
    show (true && ltrB s[0]) = false
    rw [hb]; rfl
  rw [this, Bool.and_false]; rfl
theorem nameOK_yes {s : ByteArray} (h : 1 ≤ s.size) (h2 : s.size ≤ 12) (hb : ltrB s[0] = true) (ha : (s.data.toList.take s.size).all restB = true) : nameOK s = true := by
  unfold nameOK
  rw [decide_eq_true ⟨h, h2⟩, all_take_succ _ 0 (by simp; omega)]
  have : s.data.toList.take s.size = s.data.toList := by rw [show s.size = s.data.toList.length by simp]; exact List.take_length
  rw [this] at ha
  rw [ha]
  show (true && (true && ltrB s[0]) && true) = true
  rw [hb]; rfl
theorem rest_succ {s : ByteArray} {k : Nat} (h : k < s.size) (ha : (s.data.toList.take k).all restB = true) (hb : restB s[k] = true) : (s.data.toList.take (k + 1)).all restB = true := by
  rw [all_take_succ _ _ (by simpa using h), ha]
  show (true && restB s[k]) = true
  rw [hb]; rfl
theorem restB_let {c : UInt8} (h : ltrI (c.toNat : Int) = true) : restB c = true := by unfold restB; rw [h]; rfl
theorem restB_dig {c : UInt8} (h : digI (c.toNat : Int) = true) : restB c = true := by unfold restB; rw [h]; cases ltrI _ <;> rfl
theorem restB_low {c : UInt8} (h : (c.toNat : Int) = 95) : restB c = true := by unfold restB; rw [decide_eq_true h]; simp
theorem restB_no {c : UInt8} (h : ltrI (c.toNat : Int) = false) (h2 : digI (c.toNat : Int) = false) (h3 : ¬ (c.toNat : Int) = 95) : restB c = false := by unfold restB; rw [h, h2, decide_eq_false h3]; rfl
theorem ltrI_not {c : Int} (h : c < 97 ∨ 122 < c) : ltrI c = false := by unfold ltrI; exact decide_eq_false (by omega)
theorem ltrI_yes {c : Int} (h : 97 ≤ c) (h2 : c ≤ 122) : ltrI c = true := by unfold ltrI; exact decide_eq_true (by omega)
theorem digI_not {c : Int} (h : c < 48 ∨ 57 < c) : digI c = false := by unfold digI; exact decide_eq_false (by omega)
theorem digI_yes {c : Int} (h : 48 ≤ c) (h2 : c ≤ 57) : digI c = true := by unfold digI; exact decide_eq_true (by omega)
theorem ret_b {a b : Bool} (h : a = b) : Ending.returned (.bool a) = .returned (.bool b) := by rw [h]

theorem isLetter_any (c : Int) (w : World) : Calls Tryd.prog 44 #[.int .u8 c] w fun e w' => e = .returned (.bool (ltrI c)) ∧ w = w' := by
  go_enter Tryd.func44, Tryd.ntmps44
  go_wp2
  all_goals
    go_ret
    exact ⟨ret_b (by first | exact (ltrI_yes (by omega) (by omega)).symm | exact (ltrI_not (by omega)).symm | (unfold ltrI; simp; omega)), rfl⟩
theorem isDigit_any (c : Int) (w : World) : Calls Tryd.prog 45 #[.int .u8 c] w fun e w' => e = .returned (.bool (digI c)) ∧ w = w' := by
  go_enter Tryd.func45, Tryd.ntmps45
  go_wp2
  all_goals
    go_ret
    exact ⟨ret_b (by first | exact (digI_yes (by omega) (by omega)).symm | exact (digI_not (by omega)).symm | (unfold digI; simp; omega)), rfl⟩

theorem below_bytes (w : World) (o : Obj) : Below w.heap.size w (w.drew.alloc o) := ((Below.refl w.heap.size w).alloc (Nat.le_refl _) o).drew
theorem bytes_cells (w : World) (s : ByteArray) (cap : Nat) (t : TypeId) (fr : Nat × Nat) : ∀ k (h : k < s.size), (w.drew.alloc (.cells (bytesRow s cap) t fr)).cell? ⟨w.heap.size, k, none⟩ = some (.int .u8 (s[k].toNat : Int)) := by
  intro k h
  show (w.drew.alloc _).cell? ⟨w.drew.heap.size, k, none⟩ = _
  rw [World.cell?_alloc_mark, bytesRow_at s _ k h]
  rfl

theorem first_succ {s : ByteArray} {k : Nat} (h : k < s.size) (hl : ltrI (s[k].toNat : Int) = true) (hf : 0 < k → ∃ h : 0 < s.size, ltrB s[0] = true) : 0 < k + 1 → ∃ h : 0 < s.size, ltrB s[0] = true := by
  intro _
  cases k with
  | zero => exact ⟨h, hl⟩
  | succ n => exact hf (by omega)
theorem nameOK_zero {s : ByteArray} {k : Nat} (h : k < s.size) (h0 : k = 0) (hl : ltrI (s[k].toNat : Int) = false) : nameOK s = false := by
  subst h0; exact nameOK_first h hl

set_option maxHeartbeats 1000000 in
theorem validName_any (s : ByteArray) (w : World) (hs : s.size ≤ 9223372036854775807) :
    Calls Tryd.prog 31 #[.string s] w fun e w' => e = .returned (.bool (nameOK s)) ∧ Below w.heap.size w w' := by
  by_cases h1 : s.size < 1
  · have HF := Lib.hid (nameOK_len (.inl h1))
    have e0 : ((s.size : Int) == 0) = true := beq_iff_eq.2 (by omega)
    clear h1
    go_enter Tryd.func31, Tryd.ntmps31
    go_wp2
    go_ret
    exact ⟨ret_b HF.out.symm, Below.refl _ _⟩
  have e0 : ((s.size : Int) == 0) = false := beq_eq_false_iff_ne.2 (by omega)
  by_cases h2 : 12 < s.size
  · have HF := Lib.hid (nameOK_len (.inr h2))
    have e12 : decide ((12 : Int) < s.size) = true := decide_eq_true (by omega)
    clear h1 h2
    go_enter Tryd.func31, Tryd.ntmps31
    go_wp2
    go_ret
    exact ⟨ret_b HF.out.symm, Below.refl _ _⟩
  have e12 : decide ((12 : Int) < s.size) = false := decide_eq_false (by omega)
  have H1 : Hid (1 ≤ s.size) := Lib.hid (by omega)
  have H2 : Hid (s.size ≤ 12) := Lib.hid (by omega)
  have hcv := run_bytes_of_string (P := Tryd.prog) w 9 63 5 s Tryd.underlying9 Tryd.underlying63 Tryd.underlying5
  clear h1 h2
  generalize grownCap w s.size 0 5 = cap at hcv
  have hc := bytes_cells w s cap 5 ((bytesRow s cap).size, (bytesRow s cap).size + 1)
  have hb := below_bytes w (.cells (bytesRow s cap) 5 ((bytesRow s cap).size, (bytesRow s cap).size + 1))
  generalize w.drew.alloc (.cells (bytesRow s cap) 5 ((bytesRow s cap).size, (bytesRow s cap).size + 1)) = u at *
  have HC := Lib.hid hc
  have HB := Lib.hid hb
  clear hc hb
  go_enter Tryd.func31, Tryd.ntmps31
  go_wp2
  go_loop [16] (fun i => ∃ k : Nat, k ≤ s.size ∧ i = .int .i64 k ∧ (s.data.toList.take k).all restB = true ∧ (0 < k → ∃ h : 0 < s.size, ltrB s[0] = true)) (fun i => s.size - (intOf i).toNat)
  case atStart => exact ⟨0, Nat.zero_le _, rfl, by simp, fun h => by omega⟩
  case round =>
    obtain ⟨k, hk, rfl, ha, hf⟩ := hrel
    have HA := Lib.hid ha
    have HL := Lib.hid hf
    clear ha hf
    by_cases hlt : k < s.size
    · have hck := HC.out k hlt
      have hlt' : decide ((k : Int) < s.size) = true := decide_eq_true (by omega)
      cases hl : ltrI (s[k].toNat : Int)
      · have HN := Lib.hid hl
        clear hl
        by_cases h0 : k = 0
        · have e0 : ((k : Int) == 0) = true := beq_iff_eq.2 (by omega)
          have HZ := Lib.hid h0
          clear h0
          go_wp2_with (first | (go_at_call 44; refine (isLetter_any _ _).mono ?_; rintro e w' ⟨rfl, rfl⟩; rw [HN.out]) | (go_at_call 45; refine (isDigit_any _ _).mono ?_; rintro e w' ⟨rfl, rfl⟩; rw [HD.out]))
          go_ret
          exact ⟨ret_b (nameOK_zero hlt HZ.out HN.out).symm, HB.out⟩
        · have e0 : ((k : Int) == 0) = false := beq_eq_false_iff_ne.2 (by omega)
          have HZ := Lib.hid h0
          clear h0
          cases hd : digI (s[k].toNat : Int)
          · have HD := Lib.hid hd
            clear hd
            by_cases h95 : (s[k].toNat : Int) = 95
            · have e95 : ((s[k].toNat : Int) == 95) = true := beq_iff_eq.2 h95
              have H95 := Lib.hid h95
              clear h95
              go_wp2_with (first | (go_at_call 44; refine (isLetter_any _ _).mono ?_; rintro e w' ⟨rfl, rfl⟩; rw [HN.out]) | (go_at_call 45; refine (isDigit_any _ _).mono ?_; rintro e w' ⟨rfl, rfl⟩; rw [HD.out]))
              go_round
              case rel => exact ⟨k + 1, by omega, by go_num, rest_succ hlt HA.out (restB_low H95.out), fun _ => HL.out (Nat.pos_of_ne_zero HZ.out)⟩
              case measure => simp [intOf]; omega
            · have e95 : ((s[k].toNat : Int) == 95) = false := beq_eq_false_iff_ne.2 h95
              have H95 := Lib.hid h95
              clear h95
              go_wp2_with (first | (go_at_call 44; refine (isLetter_any _ _).mono ?_; rintro e w' ⟨rfl, rfl⟩; rw [HN.out]) | (go_at_call 45; refine (isDigit_any _ _).mono ?_; rintro e w' ⟨rfl, rfl⟩; rw [HD.out]))
              go_ret
              exact ⟨ret_b (nameOK_bad hlt (restB_no HN.out HD.out H95.out)).symm, HB.out⟩
          · have HD := Lib.hid hd
            clear hd
            go_wp2_with (first | (go_at_call 44; refine (isLetter_any _ _).mono ?_; rintro e w' ⟨rfl, rfl⟩; rw [HN.out]) | (go_at_call 45; refine (isDigit_any _ _).mono ?_; rintro e w' ⟨rfl, rfl⟩; rw [HD.out]))
            go_round
            case rel => exact ⟨k + 1, by omega, by go_num, rest_succ hlt HA.out (restB_dig HD.out), fun _ => HL.out (Nat.pos_of_ne_zero HZ.out)⟩
            case measure => simp [intOf]; omega
      · have HN := Lib.hid hl
        go_wp2_with (first | (go_at_call 44; refine (isLetter_any _ _).mono ?_; rintro e w' ⟨rfl, rfl⟩; rw [HN.out]) | (go_at_call 45; refine (isDigit_any _ _).mono ?_; rintro e w' ⟨rfl, rfl⟩; rw [HD.out]))
        go_round
        case rel => exact ⟨k + 1, by omega, by go_num, rest_succ hlt HA.out (restB_let HN.out), first_succ hlt HN.out HL.out⟩
        case measure => simp [intOf]; omega
    · have hlt' : decide ((k : Int) < s.size) = false := decide_eq_false (by omega)
      obtain rfl : k = s.size := by omega
      go_wp2
      go_ret
      exact ⟨ret_b (nameOK_yes H1.out H2.out (HL.out H1.out).2 HA.out).symm, HB.out⟩
end Go.Proofs.YtgaihglploedaabDoor
/-
  Equal texts.
-/
namespace Go.Proofs.YtgaihglploedaabDoor
set_option maxRecDepth 100000
open Go.RowKit
theorem eq_texts {a b : ByteArray} (h : a = b) : (a.toList == b.toList) = true := by rw [h]; exact beq_self_eq_true _
theorem ne_texts {a b : ByteArray} (h : a ≠ b) : (a.toList == b.toList) = false := by
  rw [beq_eq_false_iff_ne, ByteArray.toList_eq, ByteArray.toList_eq]
  exact fun hc => h (ByteArray.ext (Array.toList_inj.1 hc))

end Go.Proofs.YtgaihglploedaabDoor
/-
  Keyword, of the program and of the reference.
-/
namespace Go.Proofs.YtgaihglploedaabDoor
set_option maxRecDepth 100000
open Go.RowKit
variable {ls : List Nat}

/-- Is a text a keyword? -/
def keyB (s : ByteArray) : Bool := keyL.contains s.data.toList
theorem keyB_at {s : ByteArray} {i : Nat} (hi : i < 51) (h : keyS i = s) : keyB s = true := by
  subst h
  have : ∀ i : Fin 51, keyB (keyS i) = true := by decide +kernel
  exact this ⟨i, hi⟩
theorem keyB_none {s : ByteArray} (h : ∀ j, j < 51 → keyS j ≠ s) : keyB s = false := by
  rw [Bool.eq_false_iff]
  intro hc
  unfold keyB at hc
  obtain ⟨j, hj, he⟩ := List.mem_iff_getElem.1 (List.contains_iff_mem.1 hc)
  have hl : keyL.length = 51 := by decide
  refine h j (by omega) ?_
  unfold keyS
  rw [List.getD_eq_getElem?_getD, List.getElem?_eq_getElem hj, Option.getD_some, he]

theorem index_text {cs : Array Value} {k : Nat} {z : ByteArray} (hk : k < 51) (h : cs[k]? = some (.string z)) (w : World) :
    (Instr.index 78 (.agg cs) (.int .i64 (k : Int))).run Tryd.prog w = .ok (.string z) w := by
  have hn : 0 ≤ (k : Int) ∧ (k : Int) < 51 := by omega
  simp [Instr.index, run_underlying Tryd.underlying78, asIntOf, hn, go_sem, h, part, Tryd.sizeOf9, Tryd.isAgg9]
  intro hc; omega
set_option maxHeartbeats 1000000 in
theorem keyword_any (s : ByteArray) (w : World) (hE : Env ls w) (hm : 3 ∈ ls) :
    Calls Tryd.prog 30 #[.string s] w fun e w' => e = .returned (.bool (keyB s)) ∧ w = w' := by
  obtain ⟨cs, t, fr, hg, hz, hcs⟩ := hE.keys hm
  have hi : (Tryd.prog.info? 78).map (·.size) = some cs.size := by rw [hz]; kernel_rfl
  have HC := Lib.hid hcs
  clear hcs
  go_enter Tryd.func30, Tryd.ntmps30
  go_wp2_with (refine wpList_load_row rfl 78 _ rfl 3 rfl t cs fr _ hg Tryd.underlying78 rfl hi ?_)
  go_loop [6] (fun i => ∃ k : Nat, k ≤ 51 ∧ i = .int .i64 k ∧ ∀ j, j < k → keyS j ≠ s) (fun i => 51 - (intOf i).toNat)
  case atStart => exact ⟨0, Nat.zero_le _, rfl, fun j hj => by omega⟩
  case round =>
    obtain ⟨k, hk, rfl, ha⟩ := hrel
    have HA := Lib.hid ha
    clear ha
    by_cases hlt : k < 51
    · have hlt' : decide ((k : Int) < 51) = true := decide_eq_true (by omega)
      have hck := index_text hlt (HC.out k hlt)
      by_cases he : keyS k = s
      · have HE := Lib.hid he
        have heq := eq_texts he
        clear he
        go_wp2
        go_ret
        exact ⟨ret_b (keyB_at hlt HE.out).symm, rfl⟩
      · have HE := Lib.hid he
        have heq := ne_texts he
        clear he
        go_wp2
        go_round
        case rel => exact ⟨k + 1, by omega, by go_num, fun j hj => by
          rcases Nat.lt_succ_iff_lt_or_eq.1 hj with h | h
          · exact HA.out j h
          · subst h; exact HE.out⟩
        case measure => simp [intOf]; omega
    · have hlt' : decide ((k : Int) < 51) = false := decide_eq_false (by omega)
      obtain rfl : k = 51 := by omega
      go_wp2
      go_ret
      exact ⟨ret_b (keyB_none HA.out).symm, rfl⟩

/-- The keywords, one behind another, a space behind each. -/
def flatK : List (List UInt8) → List UInt8
  | [] => []
  | k :: r => k ++ 32 :: flatK r
theorem split_at {k y a x : List UInt8} (h : a ++ 32 :: x = k ++ 32 :: y) (hk : ∀ c ∈ k, c ≠ 32) : ∃ a', a = k ++ a' ∧ a' ++ 32 :: x = 32 :: y := by
  rcases List.append_eq_append_iff.1 h with ⟨c, h1, h2⟩ | ⟨c, h1, h2⟩
  · cases c with
    | nil => exact ⟨[], by simpa using h1.symm, by simpa using h2⟩
    | cons z c =>
      simp only [List.cons_append, List.cons.injEq] at h2
      exact absurd h2.1.symm (hk z (by rw [h1]; simp))
  · exact ⟨c, h1, h2.symm⟩
theorem same_word {s k x y : List UInt8} (h : s ++ 32 :: x = k ++ 32 :: y) (hs : ∀ c ∈ s, c ≠ 32) (hk : ∀ c ∈ k, c ≠ 32) : s = k := by
  obtain ⟨a, h1, h2⟩ := split_at h hk
  cases a with
  | nil => simpa using h1
  | cons z c =>
    simp only [List.cons_append, List.cons.injEq] at h2
    exact absurd h2.1 (hs z (by rw [h1]; simp))
theorem mem_of_infix {s : List UInt8} (hs : ∀ c ∈ s, c ≠ 32) : ∀ (ks : List (List UInt8)) (a b : List UInt8), (∀ k ∈ ks, ∀ c ∈ k, c ≠ 32) → a ++ (32 :: (s ++ 32 :: b)) = 32 :: flatK ks → s ∈ ks
  | [], a, b, _, h => by
    have := congrArg List.length h
    simp [flatK] at this; omega
  | k :: r, a, b, hk, h => by
    cases a with
    | nil =>
      simp only [List.nil_append, List.cons.injEq, flatK, true_and] at h
      rw [same_word h hs (hk k (by simp))]
      simp
    | cons z a =>
      simp only [List.cons_append, List.cons.injEq, flatK] at h
      obtain ⟨a', h1, h2⟩ := split_at h.2 (hk k (by simp))
      exact List.mem_cons_of_mem _ (mem_of_infix hs r a' b (fun q hq => hk q (by simp [hq])) h2)
theorem infix_of_mem {s : List UInt8} : ∀ (ks : List (List UInt8)), s ∈ ks → ∃ a b, 32 :: flatK ks = a ++ (32 :: (s ++ 32 :: b))
  | [], h => by cases h
  | k :: r, h => by
    rcases List.mem_cons.1 h with rfl | h
    · exact ⟨[], flatK r, rfl⟩
    · obtain ⟨a, b, he⟩ := infix_of_mem r h
      exact ⟨32 :: k ++ a, b, by simp [flatK, he]⟩
theorem keyL_plain : ∀ k ∈ keyL, ∀ c ∈ k, c ≠ 32 := by decide +kernel
theorem keyL_full : ∀ k ∈ keyL, k ≠ [] := by decide +kernel
theorem contains_iff (l s : List UInt8) : Lib.contains l s = true ↔ ∃ a b, l = a ++ (s ++ b) := by
  unfold Lib.contains
  rw [decide_eq_true_iff]
  rcases Lib.index_spec l s with ⟨h1, h2⟩ | ⟨i, h1, h2, h3, -⟩
  · constructor
    · intro h; omega
    · rintro ⟨a, b, rfl⟩
      have := h2 a.length (by simp)
      unfold Lib.occAt at this
      rw [List.drop_left, Bool.eq_false_iff] at this
      exact absurd (List.isPrefixOf_iff_prefix.2 ⟨b, rfl⟩) this
  · constructor
    · intro _
      unfold Lib.occAt at h3
      obtain ⟨b, hb⟩ := List.isPrefixOf_iff_prefix.1 h3
      exact ⟨l.take i, b, by rw [hb]; exact (List.take_append_drop i l).symm⟩
    · intro _; omega
/-- What the reference's Keyword computes. -/
theorem keyB_spec (s : ByteArray) (hsp : ∀ c ∈ s.data.toList, c ≠ 32) : keyB s = Lib.contains (32 :: flatK keyL) (32 :: (s.data.toList ++ [32])) := by
  rw [Bool.eq_iff_iff, contains_iff]
  unfold keyB
  rw [List.contains_iff_mem]
  constructor
  · intro h
    obtain ⟨a, b, he⟩ := infix_of_mem keyL h
    exact ⟨a, b, by rw [he]; simp⟩
  · rintro ⟨a, b, he⟩
    exact mem_of_infix hsp keyL a b keyL_plain (by rw [he]; simp)
theorem keyB_empty : keyB ⟨#[]⟩ = false := by decide +kernel
theorem keyB_space {s : ByteArray} (h : 0 ≤ Lib.indexByte s.data.toList 32) : keyB s = false := by
  rw [Bool.eq_false_iff]
  intro hc
  unfold keyB at hc
  obtain ⟨o, ho⟩ := Int.eq_ofNat_of_zero_le h
  have := (Lib.indexByte_some ho).1
  exact keyL_plain _ (List.contains_iff_mem.1 hc) 32 (List.mem_of_getElem? this) rfl
theorem no_space {s : ByteArray} (h : ¬ 0 ≤ Lib.indexByte s.data.toList 32) : ∀ c ∈ s.data.toList, c ≠ 32 := by
  rintro c hc rfl
  have h1 := Lib.indexByte_ge s.data.toList 32
  obtain ⟨j, hj⟩ := List.mem_iff_getElem?.1 hc
  exact Lib.indexByte_none (by omega) j hj

end Go.Proofs.YtgaihglploedaabDoor
