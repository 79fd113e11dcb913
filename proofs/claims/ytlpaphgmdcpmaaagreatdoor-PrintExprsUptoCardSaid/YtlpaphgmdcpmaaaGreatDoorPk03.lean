/-
  Several texts in one.
-/
import Derived.Test.YtlpaphgmdcpmaaaGreatDoorPk02
import Derived.Test.YtlpaphgmdcpmaaaGreatDoorPk01
import Derived.Laws.IdiomStrings
import Derived.Test.YtlpaphgmdcpmaaaGreatDoorProg
import Derived.WalkKit
import Derived.WalkSpells
import Derived.WalkLawsBesides
import Derived.Deep.QuietTactic
import Derived.BigQuiet
import Derived.Lib.Hide
/-
  ValidName, of the program and of the reference.
-/
namespace Go.Proofs.YtlpaphgmdcpmaaaGreatDoor
set_option maxRecDepth 100000
open Go.RowKit

def ltrI (c : Int) : Bool := decide (97 ≤ c ∧ c ≤ 122)
def digI (c : Int) : Bool := decide (48 ≤ c ∧ c ≤ 57)
def ltrB (c : UInt8) : Bool := ltrI (c.toNat : Int)
def restB (c : UInt8) : Bool := ltrI (c.toNat : Int) || digI (c.toNat : Int) || decide ((c.toNat : Int) = 95)
/-- Is a text a name? -/
def nameOK (s : ByteArray) : Bool := decide (1 ≤ s.size ∧ s.size ≤ 12) && (s.data.toList.take 1).all ltrB && s.data.toList.all restB

theorem nameOK_len {s : ByteArray} (h : s.size < 1 ∨ 12 < s.size) : nameOK s = false := by
  unfold nameOK
  rw [decide_eq_false (by omega)]; rfl
theorem nameOK_bad {s : ByteArray} {k : Nat} (h : k < s.size) (hb : restB s[k] = false) : nameOK s = false := by
  unfold nameOK
  have : s.data.toList.all restB = false := by
    rw [List.all_eq_false]; exact ⟨s[k], by simp [ByteArray.getElem_eq_getElem_data], by simp [hb]⟩
  rw [this, Bool.and_false]
theorem nameOK_first {s : ByteArray} (h : 0 < s.size) (hb : ltrB s[0] = false) : nameOK s = false := by
  unfold nameOK
  have : (s.data.toList.take 1).all ltrB = false := by
    rw [all_take_succ _ 0 (by simpa using h)]
    show (true && ltrB s[0]) = false
    rw [hb]; rfl
  rw [this, Bool.and_false]; rfl
theorem nameOK_yes {s : ByteArray} (h : 1 ≤ s.size) (h2 : s.size ≤ 12) (hb : ltrB s[0] = true) (ha : (s.data.toList.take s.size).all restB = true) : nameOK s = true := by
  unfold nameOK
  rw [decide_eq_true ⟨h, h2⟩, all_take_succ _ 0 (by simp; omega)]
  have : s.data.toList.take s.size = s.data.toList := by rw [show s.size = s.data.toList.length by simp]; exact List.take_length
  rw [this] at ha
  rw [ha]
  show (true && (true && ltrB s[0]) && true) = true
  rw [hb]; rfl
theorem rest_succ {s : ByteArray} {k : Nat} (h : k < s.size) (ha : (s.data.toList.take k).all restB = true) (hb : restB s[k] = true) : (s.data.toList.take (k + 1)).all restB = true := by
  rw [all_take_succ _ _ (by simpa using h), ha]
  show (true && restB s[k]) = true
  rw [hb]; rfl
theorem restB_let {c : UInt8} (h : ltrI (c.toNat : Int) = true) : restB c = true := by unfold restB; rw [h]; rfl
theorem restB_dig {c : UInt8} (h : digI (c.toNat : Int) = true) : restB c = true := by unfold restB; rw [h]; cases ltrI _ <;> rfl
theorem restB_low {c : UInt8} (h : (c.toNat : Int) = 95) : restB c = true := by unfold restB; rw [decide_eq_true h]; simp
theorem restB_no {c : UInt8} (h : ltrI (c.toNat : Int) = false) (h2 : digI (c.toNat : Int) = false) (h3 : ¬ (c.toNat : Int) = 95) : restB c = false := by unfold restB; rw [h, h2, decide_eq_false h3]; rfl
theorem ltrI_not {c : Int} (h : c < 97 ∨ 122 < c) : ltrI c = false := by unfold ltrI; exact decide_eq_false (by omega)
theorem ltrI_yes {c : Int} (h : 97 ≤ c) (h2 : c ≤ 122) : ltrI c = true := by unfold ltrI; exact decide_eq_true (by omega)
theorem digI_not {c : Int} (h : c < 48 ∨ 57 < c) : digI c = false := by unfold digI; exact decide_eq_false (by omega)
theorem digI_yes {c : Int} (h : 48 ≤ c) (h2 : c ≤ 57) : digI c = true := by unfold digI; exact decide_eq_true (by omega)
theorem ret_b {a b : Bool} (h : a = b) : Ending.returned (.bool a) = .returned (.bool b) := by rw [h]

theorem isLetter_any (c : Int) (w : World) : Calls Tryz.prog 68 #[.int .u8 c] w fun e w' => e = .returned (.bool (ltrI c)) ∧ w = w' := by
  go_enter Tryz.func68, Tryz.ntmps68
  go_wp2
  all_goals
    go_ret
    exact ⟨ret_b (by first | exact (ltrI_yes (by omega) (by omega)).symm | exact (ltrI_not (by omega)).symm | (unfold ltrI; simp; omega)), rfl⟩
theorem isDigit_any (c : Int) (w : World) : Calls Tryz.prog 69 #[.int .u8 c] w fun e w' => e = .returned (.bool (digI c)) ∧ w = w' := by
  go_enter Tryz.func69, Tryz.ntmps69
  go_wp2
  all_goals
    go_ret
    exact ⟨ret_b (by first | exact (digI_yes (by omega) (by omega)).symm | exact (digI_not (by omega)).symm | (unfold digI; simp; omega)), rfl⟩
theorem rletter_any (c : Int) (w : World) : Calls Tryz.prog 78 #[.int .u8 c] w fun e w' => e = .returned (.bool (ltrI c)) ∧ w = w' := by
  go_enter Tryz.func78, Tryz.ntmps78
  go_wp2
  all_goals
    go_ret
    exact ⟨ret_b (by first | exact (ltrI_yes (by omega) (by omega)).symm | exact (ltrI_not (by omega)).symm | (unfold ltrI; simp; omega)), rfl⟩
theorem rletter_eq {c : Int} {b : Bool} (h : ltrI c = b) (w : World) : Calls Tryz.prog 78 #[.int .u8 c] w fun e w' => e = .returned (.bool b) ∧ w = w' := by
  subst h; exact rletter_any c w
theorem rdigit_any (c : Int) (w : World) : Calls Tryz.prog 79 #[.int .u8 c] w fun e w' => e = .returned (.bool (digI c)) ∧ w = w' := by
  go_enter Tryz.func79, Tryz.ntmps79
  go_wp2
  all_goals
    go_ret
    exact ⟨ret_b (by first | exact (digI_yes (by omega) (by omega)).symm | exact (digI_not (by omega)).symm | (unfold digI; simp; omega)), rfl⟩

theorem below_bytes (w : World) (o : Obj) : Below w.heap.size w (w.drew.alloc o) := ((Below.refl w.heap.size w).alloc (Nat.le_refl _) o).drew
theorem bytes_cells (w : World) (s : ByteArray) (cap : Nat) (t : TypeId) (fr : Nat × Nat) : ∀ k (h : k < s.size), (w.drew.alloc (.cells (bytesRow s cap) t fr)).cell? ⟨w.heap.size, k, none⟩ = some (.int .u8 (s[k].toNat : Int)) := by
  intro k h
  show (w.drew.alloc _).cell? ⟨w.drew.heap.size, k, none⟩ = _
  rw [World.cell?_alloc_mark, bytesRow_at s _ k h]
  rfl

theorem first_succ {s : ByteArray} {k : Nat} (h : k < s.size) (hl : ltrI (s[k].toNat : Int) = true) (hf : 0 < k → ∃ h : 0 < s.size, ltrB s[0] = true) : 0 < k + 1 → ∃ h : 0 < s.size, ltrB s[0] = true := by
  intro _
  cases k with
  | zero => exact ⟨h, hl⟩
  | succ n => exact hf (by omega)
theorem nameOK_zero {s : ByteArray} {k : Nat} (h : k < s.size) (h0 : k = 0) (hl : ltrI (s[k].toNat : Int) = false) : nameOK s = false := by
  subst h0; exact nameOK_first h hl

set_option maxHeartbeats 1000000 in
theorem validName_any (s : ByteArray) (w : World) (hs : s.size ≤ 9223372036854775807) :
    Calls Tryz.prog 37 #[.string s] w fun e w' => e = .returned (.bool (nameOK s)) ∧ Below w.heap.size w w' := by
  by_cases h1 : s.size < 1
  · have HF := Lib.hid (nameOK_len (.inl h1))
    have e0 : ((s.size : Int) == 0) = true := beq_iff_eq.2 (by omega)
    clear h1
    go_enter Tryz.func37, Tryz.ntmps37
    go_wp2
    go_ret
    exact ⟨ret_b HF.out.symm, Below.refl _ _⟩
  have e0 : ((s.size : Int) == 0) = false := beq_eq_false_iff_ne.2 (by omega)
  by_cases h2 : 12 < s.size
  · have HF := Lib.hid (nameOK_len (.inr h2))
    have e12 : decide ((12 : Int) < s.size) = true := decide_eq_true (by omega)
    clear h1 h2
    go_enter Tryz.func37, Tryz.ntmps37
    go_wp2
    go_ret
    exact ⟨ret_b HF.out.symm, Below.refl _ _⟩
  have e12 : decide ((12 : Int) < s.size) = false := decide_eq_false (by omega)
  have H1 : Hid (1 ≤ s.size) := Lib.hid (by omega)
  have H2 : Hid (s.size ≤ 12) := Lib.hid (by omega)
  have hcv := run_bytes_of_string (P := Tryz.prog) w 9 92 5 s Tryz.underlying9 Tryz.underlying92 Tryz.underlying5
  clear h1 h2
  generalize grownCap w s.size 0 5 = cap at hcv
  have hc := bytes_cells w s cap 5 ((bytesRow s cap).size, (bytesRow s cap).size + 1)
  have hb := below_bytes w (.cells (bytesRow s cap) 5 ((bytesRow s cap).size, (bytesRow s cap).size + 1))
  generalize w.drew.alloc (.cells (bytesRow s cap) 5 ((bytesRow s cap).size, (bytesRow s cap).size + 1)) = u at *
  have HC := Lib.hid hc
  have HB := Lib.hid hb
  clear hc hb
  go_enter Tryz.func37, Tryz.ntmps37
  go_wp2
  go_loop [16] (fun i => ∃ k : Nat, k ≤ s.size ∧ i = .int .i64 k ∧ (s.data.toList.take k).all restB = true ∧ (0 < k → ∃ h : 0 < s.size, ltrB s[0] = true)) (fun i => s.size - (intOf i).toNat)
  case atStart => exact ⟨0, Nat.zero_le _, rfl, by simp, fun h => by omega⟩
  case round =>
    obtain ⟨k, hk, rfl, ha, hf⟩ := hrel
    have HA := Lib.hid ha
    have HL := Lib.hid hf
    clear ha hf
    by_cases hlt : k < s.size
    · have hck := HC.out k hlt
      have hlt' : decide ((k : Int) < s.size) = true := decide_eq_true (by omega)
      cases hl : ltrI (s[k].toNat : Int)
      · have HN := Lib.hid hl
        clear hl
        by_cases h0 : k = 0
        · have e0 : ((k : Int) == 0) = true := beq_iff_eq.2 (by omega)
          have HZ := Lib.hid h0
          clear h0
          go_wp2_with (first | (go_at_call 68; refine (isLetter_any _ _).mono ?_; rintro e w' ⟨rfl, rfl⟩; rw [HN.out]) | (go_at_call 69; refine (isDigit_any _ _).mono ?_; rintro e w' ⟨rfl, rfl⟩; rw [HD.out]))
          go_ret
          exact ⟨ret_b (nameOK_zero hlt HZ.out HN.out).symm, HB.out⟩
        · have e0 : ((k : Int) == 0) = false := beq_eq_false_iff_ne.2 (by omega)
          have HZ := Lib.hid h0
          clear h0
          cases hd : digI (s[k].toNat : Int)
          · have HD := Lib.hid hd
            clear hd
            by_cases h95 : (s[k].toNat : Int) = 95
            · have e95 : ((s[k].toNat : Int) == 95) = true := beq_iff_eq.2 h95
              have H95 := Lib.hid h95
              clear h95
              go_wp2_with (first | (go_at_call 68; refine (isLetter_any _ _).mono ?_; rintro e w' ⟨rfl, rfl⟩; rw [HN.out]) | (go_at_call 69; refine (isDigit_any _ _).mono ?_; rintro e w' ⟨rfl, rfl⟩; rw [HD.out]))
              go_round
              case rel => exact ⟨k + 1, by omega, by go_num, rest_succ hlt HA.out (restB_low H95.out), fun _ => HL.out (Nat.pos_of_ne_zero HZ.out)⟩
              case measure => simp [intOf]; omega
            · have e95 : ((s[k].toNat : Int) == 95) = false := beq_eq_false_iff_ne.2 h95
              have H95 := Lib.hid h95
              clear h95
              go_wp2_with (first | (go_at_call 68; refine (isLetter_any _ _).mono ?_; rintro e w' ⟨rfl, rfl⟩; rw [HN.out]) | (go_at_call 69; refine (isDigit_any _ _).mono ?_; rintro e w' ⟨rfl, rfl⟩; rw [HD.out]))
              go_ret
              exact ⟨ret_b (nameOK_bad hlt (restB_no HN.out HD.out H95.out)).symm, HB.out⟩
          · have HD := Lib.hid hd
            clear hd
            go_wp2_with (first | (go_at_call 68; refine (isLetter_any _ _).mono ?_; rintro e w' ⟨rfl, rfl⟩; rw [HN.out]) | (go_at_call 69; refine (isDigit_any _ _).mono ?_; rintro e w' ⟨rfl, rfl⟩; rw [HD.out]))
            go_round
            case rel => exact ⟨k + 1, by omega, by go_num, rest_succ hlt HA.out (restB_dig HD.out), fun _ => HL.out (Nat.pos_of_ne_zero HZ.out)⟩
            case measure => simp [intOf]; omega
      · have HN := Lib.hid hl
        go_wp2_with (first | (go_at_call 68; refine (isLetter_any _ _).mono ?_; rintro e w' ⟨rfl, rfl⟩; rw [HN.out]) | (go_at_call 69; refine (isDigit_any _ _).mono ?_; rintro e w' ⟨rfl, rfl⟩; rw [HD.out]))
        go_round
        case rel => exact ⟨k + 1, by omega, by go_num, rest_succ hlt HA.out (restB_let HN.out), first_succ hlt HN.out HL.out⟩
        case measure => simp [intOf]; omega
    · have hlt' : decide ((k : Int) < s.size) = false := decide_eq_false (by omega)
      obtain rfl : k = s.size := by omega
      go_wp2
      go_ret
      exact ⟨ret_b (nameOK_yes H1.out H2.out (HL.out H1.out).2 HA.out).symm, HB.out⟩
set_option maxHeartbeats 1000000 in
theorem rvalidName_any (s : ByteArray) (w : World) (hs : s.size ≤ 9223372036854775807) :
    Calls Tryz.prog 57 #[.string s] w fun e w' => e = .returned (.bool (nameOK s)) ∧ w = w' := by
  by_cases h1 : s.size < 1
  · have HF := Lib.hid (nameOK_len (.inl h1))
    have e0 : decide ((s.size : Int) < 1) = true := decide_eq_true (by omega)
    clear h1
    go_enter Tryz.func57, Tryz.ntmps57
    go_wp2
    go_ret
    exact ⟨ret_b HF.out.symm, rfl⟩
  have e0 : decide ((s.size : Int) < 1) = false := decide_eq_false (by omega)
  by_cases h2 : 12 < s.size
  · have HF := Lib.hid (nameOK_len (.inr h2))
    have e12 : decide ((12 : Int) < s.size) = true := decide_eq_true (by omega)
    clear h1 h2
    go_enter Tryz.func57, Tryz.ntmps57
    go_wp2
    go_ret
    exact ⟨ret_b HF.out.symm, rfl⟩
  have e12 : decide ((12 : Int) < s.size) = false := decide_eq_false (by omega)
  have hp : 0 < s.size := by omega
  have H1 : Hid (1 ≤ s.size) := Lib.hid (by omega)
  have H2 : Hid (s.size ≤ 12) := Lib.hid (by omega)
  clear h1 h2
  cases hf : ltrI (s[0].toNat : Int)
  · have HF := Lib.hid hf
    clear hf
    go_enter Tryz.func57, Tryz.ntmps57
    go_wp2_with (go_at_call 78; refine (rletter_eq HF.out _).mono ?_; rintro e w' ⟨rfl, rfl⟩)
    go_ret
    exact ⟨ret_b (nameOK_first hp HF.out).symm, rfl⟩
  have HF := Lib.hid hf
  clear hf
  go_enter Tryz.func57, Tryz.ntmps57
  go_wp2_with (go_at_call 78; refine (rletter_eq HF.out _).mono ?_; rintro e w' ⟨rfl, rfl⟩)
  go_loop [3] (fun i => ∃ k : Nat, k ≤ s.size ∧ i = .int .i64 k ∧ (s.data.toList.take k).all restB = true) (fun i => s.size - (intOf i).toNat)
  case atStart => exact ⟨0, Nat.zero_le _, rfl, by simp⟩
  case round =>
    obtain ⟨k, hk, rfl, ha⟩ := hrel
    have HA := Lib.hid ha
    clear ha
    by_cases hlt : k < s.size
    · have hlt' : decide ((k : Int) < s.size) = true := decide_eq_true (by omega)
      cases hl : ltrI (s[k].toNat : Int)
      · have HN := Lib.hid hl
        clear hl
        cases hd : digI (s[k].toNat : Int)
        · have HD := Lib.hid hd
          clear hd
          by_cases h95 : (s[k].toNat : Int) = 95
          · have e95 : ((s[k].toNat : Int) == 95) = true := beq_iff_eq.2 h95
            have H95 := Lib.hid h95
            clear h95
            go_wp2_with (first | (go_at_call 78; refine (rletter_any _ _).mono ?_; rintro e w' ⟨rfl, rfl⟩; rw [HN.out]) | (go_at_call 79; refine (rdigit_any _ _).mono ?_; rintro e w' ⟨rfl, rfl⟩; rw [HD.out]))
            go_round
            case rel => exact ⟨k + 1, by omega, by go_num, rest_succ hlt HA.out (restB_low H95.out)⟩
            case measure => simp [intOf]; omega
          · have e95 : ((s[k].toNat : Int) == 95) = false := beq_eq_false_iff_ne.2 h95
            have H95 := Lib.hid h95
            clear h95
            go_wp2_with (first | (go_at_call 78; refine (rletter_any _ _).mono ?_; rintro e w' ⟨rfl, rfl⟩; rw [HN.out]) | (go_at_call 79; refine (rdigit_any _ _).mono ?_; rintro e w' ⟨rfl, rfl⟩; rw [HD.out]))
            go_ret
            exact ⟨ret_b (nameOK_bad hlt (restB_no HN.out HD.out H95.out)).symm, rfl⟩
        · have HD := Lib.hid hd
          clear hd
          go_wp2_with (first | (go_at_call 78; refine (rletter_any _ _).mono ?_; rintro e w' ⟨rfl, rfl⟩; rw [HN.out]) | (go_at_call 79; refine (rdigit_any _ _).mono ?_; rintro e w' ⟨rfl, rfl⟩; rw [HD.out]))
          go_round
          case rel => exact ⟨k + 1, by omega, by go_num, rest_succ hlt HA.out (restB_dig HD.out)⟩
          case measure => simp [intOf]; omega
      · have HN := Lib.hid hl
        clear hl
        go_wp2_with (first | (go_at_call 78; refine (rletter_any _ _).mono ?_; rintro e w' ⟨rfl, rfl⟩; rw [HN.out]) | (go_at_call 79; refine (rdigit_any _ _).mono ?_; rintro e w' ⟨rfl, rfl⟩; rw [HD.out]))
        go_round
        case rel => exact ⟨k + 1, by omega, by go_num, rest_succ hlt HA.out (restB_let HN.out)⟩
        case measure => simp [intOf]; omega
    · have hlt' : decide ((k : Int) < s.size) = false := decide_eq_false (by omega)
      obtain rfl : k = s.size := by omega
      go_wp2
      go_ret
      exact ⟨ret_b (nameOK_yes H1.out H2.out HF.out HA.out).symm, rfl⟩
end Go.Proofs.YtlpaphgmdcpmaaaGreatDoor
/-
  Valid, of the program and of the reference.
-/
namespace Go.Proofs.YtlpaphgmdcpmaaaGreatDoor
set_option maxRecDepth 100000
open Go.RowKit

theorem ret_bool {a b : Bool} (h : a = b) : Ending.returned (.bool a) = .returned (.bool b) := by rw [h]

set_option maxHeartbeats 400000 in
theorem vtext_any (s : ByteArray) (w : World) (hs : s.size ≤ 9223372036854775807) :
    Calls Tryz.prog 67 #[.string s] w fun e w' => e = .returned (.bool (textOK s.data.toList)) ∧ w' = w := by
  by_cases hl : 64 < s.size
  · have hf := Lib.hid (textOK_long (l := s.data.toList) (by simpa using hl))
    go_enter Tryz.func67, Tryz.ntmps67
    go_wp2
    all_goals
      go_ret
      exact ⟨ret_bool hf.out.symm, rfl⟩
  · go_enter Tryz.func67, Tryz.ntmps67
    go_wp2
    go_loop [3, 9] (fun _ i => ∃ k : Nat, k ≤ s.size ∧ i = .int .i64 k ∧ (s.data.toList.take k).all byteOK = true) (fun _ i => s.size - (intOf i).toNat)
    case atStart => exact ⟨0, Nat.zero_le _, rfl, by simp⟩
    case round =>
      obtain ⟨k, hk, rfl, ha⟩ := hrel
      have HA := Lib.hid ha
      clear ha
      by_cases hlt : k < s.size
      · go_wp2
        all_goals first
          | (go_ret; exact ⟨ret_bool (textOK_at hlt (by omega)).symm, rfl⟩)
          | exact ⟨⟨k + 1, by omega, by go_num, allOK_succ hlt HA.out (by omega) (by omega)⟩, by simp [intOf]; omega⟩
      · go_wp2
        all_goals
          go_ret
          exact ⟨ret_bool (textOK_end hk hlt (by omega) HA.out).symm, rfl⟩

set_option maxHeartbeats 400000 in
theorem valid_any (k n : Int) (s : ByteArray) (w : World) (hs : s.size ≤ 9223372036854775807) :
    Calls Tryz.prog 36 #[.agg #[.int .i64 k, .int .i64 n, .string s]] w fun e w' => e = .returned (.bool (validB k n s)) ∧ Below w.heap.size w w' := by
  go_enter Tryz.func36, Tryz.ntmps36
  go_wp2_with (go_at_call 67; refine (vtext_any _ _ hs).mono ?_; rintro e w' ⟨rfl, rfl⟩)
  all_goals
    go_ret
    refine ⟨ret_bool ?_, (Below.refl _ _).alloc (Nat.le_refl _) _⟩
    simp_all [validB]

theorem validB_text (s : ByteArray) : validB 3 0 s = textOK s.data.toList := by simp [validB]

set_option maxHeartbeats 400000 in
theorem rvalid_short (s : ByteArray) (w : World) (hs : s.size ≤ 64) :
    Calls Tryz.prog 55 #[.agg #[.int .i64 3, .int .i64 0, .string s]] w fun e w' => e = .returned (.bool (textOK s.data.toList)) ∧ Below w.heap.size w w' := by
  go_enter Tryz.func55, Tryz.ntmps55
  go_wp2
  go_loop [3] (fun i => ∃ j : Nat, j ≤ s.size ∧ i = .int .i64 j ∧ (s.data.toList.take j).all byteOK = true) (fun i => s.size - (intOf i).toNat)
  case atStart => exact ⟨0, Nat.zero_le _, rfl, by simp⟩
  case round =>
    obtain ⟨j, hk, rfl, ha⟩ := hrel
    have HA := Lib.hid ha
    clear ha
    by_cases hlt : j < s.size
    · go_wp2
      all_goals first
        | (go_ret; exact ⟨ret_bool (textOK_at hlt (by omega)).symm, (Below.refl _ _).alloc (Nat.le_refl _) _⟩)
        | exact ⟨⟨j + 1, by omega, by go_num, allOK_succ hlt HA.out (by omega) (by omega)⟩, by simp [intOf]; omega⟩
    · go_wp2
      all_goals
        go_ret
        exact ⟨ret_bool (textOK_end hk hlt hs HA.out).symm, (Below.refl _ _).alloc (Nat.le_refl _) _⟩

set_option maxHeartbeats 400000 in
theorem rvalid_other (k n : Int) (s : ByteArray) (w : World) (hs : s.size ≤ 9223372036854775807) (h : (k == 3) = false ∨ ¬ n = 0 ∨ (64 : Int) < s.size) :
    Calls Tryz.prog 55 #[.agg #[.int .i64 k, .int .i64 n, .string s]] w fun e w' => e = .returned (.bool (validB k n s)) ∧ Below w.heap.size w w' := by
  have hl : (64 : Int) < s.size → textOK s.data.toList = false := fun h => textOK_long (by simp; omega)
  have HL := Lib.hid hl
  clear hl
  rcases h with h | h | h
  all_goals
    go_enter Tryz.func55, Tryz.ntmps55
    go_wp2
  all_goals
    go_ret
    refine ⟨ret_bool ?_, (Below.refl _ _).alloc (Nat.le_refl _) _⟩
    first | (simp_all [validB]; done) | (simp_all [validB, HL.out (by assumption)]; done)

theorem rvalid_any (k n : Int) (s : ByteArray) (w : World) (hs : s.size ≤ 9223372036854775807) :
    Calls Tryz.prog 55 #[.agg #[.int .i64 k, .int .i64 n, .string s]] w fun e w' => e = .returned (.bool (validB k n s)) ∧ Below w.heap.size w w' := by
  by_cases h : k = 3 ∧ n = 0 ∧ s.size ≤ 64
  · obtain ⟨rfl, rfl, h⟩ := h
    rw [validB_text]; exact rvalid_short s w h
  · refine rvalid_other k n s w hs ?_
    by_cases h3 : k = 3
    · by_cases h0 : n = 0
      · exact Or.inr (Or.inr (by omega))
      · exact Or.inr (Or.inl h0)
    · exact Or.inl (beq_eq_false_iff_ne.2 h3)
end Go.Proofs.YtlpaphgmdcpmaaaGreatDoor
/-
  The values of the tape are valid, and short.
-/
namespace Go.Proofs.YtlpaphgmdcpmaaaGreatDoor
set_option maxRecDepth 100000
open Go.RowKit

theorem IsVal.valid {k n : Int} {s : ByteArray} (h : IsVal k n s) : validB k n s = true := by
  rcases h with ⟨rfl, rfl, rfl⟩ | ⟨rfl, -, rfl⟩ | ⟨rfl, h0, h1, rfl⟩ | ⟨rfl, rfl, hs⟩
  · simp [validB]
  · simp [validB]
  · have : n = 0 ∨ n = 1 := by omega
    simp [validB]; exact this
  · rw [validB_text]
    rcases hs with rfl | rfl | rfl | rfl | rfl | rfl <;> decide
theorem IsVal.size {k n : Int} {s : ByteArray} (h : IsVal k n s) : s.size ≤ 64 := by
  rcases h with ⟨-, -, rfl⟩ | ⟨-, -, rfl⟩ | ⟨-, -, -, rfl⟩ | ⟨-, -, hs⟩
  · decide
  · decide
  · decide
  · rcases hs with rfl | rfl | rfl | rfl | rfl | rfl <;> decide
theorem IsVal.range {k n : Int} {s : ByteArray} (h : IsVal k n s) : -9223372036854775808 ≤ n ∧ n ≤ 9223372036854775807 := by
  rcases h with ⟨-, rfl, -⟩ | ⟨-, hn, -⟩ | ⟨-, h0, h1, -⟩ | ⟨-, rfl, -⟩
  · decide
  · unfold IsNum at hn; omega
  · omega
  · decide
end Go.Proofs.YtlpaphgmdcpmaaaGreatDoor
/-
  Columns and schemas, as plain lists; what Valid, Find, KeyColumn, Fits compute. No program.
-/
namespace Go.Proofs.YtlpaphgmdcpmaaaGreatDoor
set_option maxRecDepth 100000
open Go

structure Col where
  nm : ByteArray
  ty : Int
  nn : Bool
  key : Bool

instance : Inhabited Col := ⟨⟨⟨#[]⟩, 0, false, false⟩⟩

def eqT (a b : ByteArray) : Bool := a.toList == b.toList
theorem eqT_iff {a b : ByteArray} : eqT a b = true ↔ a = b := by
  unfold eqT
  rw [beq_iff_eq, ByteArray.toList_eq, ByteArray.toList_eq]
  exact ⟨fun h => ByteArray.ext (Array.toList_inj.1 h), fun h => by rw [h]⟩
theorem eqT_self (a : ByteArray) : eqT a a = true := eqT_iff.2 rfl

/-- The first place below n at which P holds, or -1. -/
def findI (P : Nat → Bool) (n : Nat) : Int := match (List.range n).find? P with | some i => (i : Int) | none => -1
theorem findI_hit {P : Nat → Bool} {n i : Nat} (hi : i < n) (h : P i = true) (hn : ∀ j, j < i → P j = false) : findI P n = i := by
  unfold findI
  have : (List.range n).find? P = some i := List.find?_range_eq_some.2 ⟨h, List.mem_range.2 hi, fun j hj => by rw [hn j hj]; rfl⟩
  rw [this]
theorem findI_none {P : Nat → Bool} {n : Nat} (hn : ∀ j, j < n → P j = false) : findI P n = -1 := by
  unfold findI
  have : (List.range n).find? P = none := List.find?_range_eq_none.2 fun j hj => by rw [hn j hj]; rfl
  rw [this]
theorem findI_eq {P : Nat → Bool} {n i : Nat} (hi : i < n) (h : P i = true) : findI P n = i ↔ ∀ j, j < i → P j = false := by
  constructor
  · intro he j hj
    rw [Bool.eq_false_iff]
    intro hp
    obtain ⟨m, hm, hP⟩ : ∃ m, P m = true ∧ (∀ q, q < m → P q = false) ∧ m ≤ j := by
      have : ∀ k, P k = true → ∃ m, P m = true ∧ (∀ q, q < m → P q = false) ∧ m ≤ k := by
        intro k
        induction k using Nat.strongRecOn with
        | ind k ih =>
          intro hk
          by_cases hq : ∃ q, q < k ∧ P q = true
          · obtain ⟨q, hqk, hPq⟩ := hq
            obtain ⟨m, h1, h2, h3⟩ := ih q hqk hPq
            exact ⟨m, h1, h2, by omega⟩
          · exact ⟨k, hk, fun q hqk => by
              rw [Bool.eq_false_iff]; exact fun h => hq ⟨q, hqk, h⟩, Nat.le_refl _⟩
      exact this j hp
    have := findI_hit (n := n) (by omega) hm hP.1
    omega
  · exact findI_hit hi h

def findName (f : Nat → Col) (n : Nat) (s : ByteArray) : Int := findI (fun i => eqT (f i).nm s) n
def findKey (f : Nat → Col) (n : Nat) : Int := findI (fun i => (f i).key) n
theorem findI_range (P : Nat → Bool) (n : Nat) : -1 ≤ findI P n ∧ findI P n < n ∨ findI P n = -1 := by
  unfold findI
  split
  · rename_i i h
    have := (List.find?_range_eq_some.1 h).2.1
    have := List.mem_range.1 this
    exact .inl ⟨by omega, by omega⟩
  · exact .inr rfl

def tyOK (t : Int) : Bool := decide (1 ≤ t ∧ t ≤ 3)
def colOK (c : Col) : Bool := nameOK c.nm && tyOK c.ty && (c.nn || !c.key)
/-- Column i is right, and the first one with its name, and, if it is a key, the first key. -/
def Good (f : Nat → Col) (i : Nat) : Prop := colOK (f i) = true ∧ (∀ j, j < i → eqT (f j).nm (f i).nm = false) ∧ ((f i).key = true → ∀ j, j < i → (f j).key = false)
instance (f : Nat → Col) (i : Nat) : Decidable (Good f i) := by unfold Good; infer_instance
/-- Is a schema valid? -/
def schemaOK (nm : ByteArray) (n : Nat) (f : Nat → Col) : Bool := nameOK nm && decide (1 ≤ n ∧ n ≤ 6) && decide (∀ i, i < n → Good f i)

theorem schemaOK_name {nm : ByteArray} {n : Nat} {f : Nat → Col} (h : nameOK nm = false) : schemaOK nm n f = false := by unfold schemaOK; rw [h]; rfl
theorem schemaOK_len {nm : ByteArray} {n : Nat} {f : Nat → Col} (h : n < 1 ∨ 6 < n) : schemaOK nm n f = false := by
  unfold schemaOK; rw [decide_eq_false (by omega), Bool.and_false]; rfl
theorem schemaOK_bad {nm : ByteArray} {n : Nat} {f : Nat → Col} {i : Nat} (hi : i < n) (h : ¬ Good f i) : schemaOK nm n f = false := by
  unfold schemaOK; rw [decide_eq_false (p := ∀ i, i < n → Good f i) (fun hc => h (hc i hi)), Bool.and_false]
theorem schemaOK_yes {nm : ByteArray} {n : Nat} {f : Nat → Col} (hn : nameOK nm = true) (h1 : 1 ≤ n) (h2 : n ≤ 6) (h : ∀ i, i < n → Good f i) : schemaOK nm n f = true := by
  unfold schemaOK; rw [hn, decide_eq_true ⟨h1, h2⟩, decide_eq_true h]; rfl

theorem good_find {f : Nat → Col} {n i : Nat} (hi : i < n) : findName f n (f i).nm = i ↔ ∀ j, j < i → eqT (f j).nm (f i).nm = false := findI_eq (P := fun j => eqT (f j).nm (f i).nm) hi (eqT_self _)
theorem good_key {f : Nat → Col} {n i : Nat} (hi : i < n) (hk : (f i).key = true) : findKey f n = i ↔ ∀ j, j < i → (f j).key = false := findI_eq (P := fun j => (f j).key) hi hk
theorem bad_col {f : Nat → Col} {i : Nat} (h : colOK (f i) = false) : ¬ Good f i := fun hg => by have := hg.1; rw [h] at this; cases this
theorem bad_find {f : Nat → Col} {n i : Nat} (hi : i < n) (h : (findName f n (f i).nm == (i : Int)) = false) : ¬ Good f i := fun hg => by
  rw [beq_eq_false_iff_ne] at h; exact h ((good_find hi).2 hg.2.1)
theorem bad_key {f : Nat → Col} {n i : Nat} (hi : i < n) (hk : (f i).key = true) (h : (findKey f n == (i : Int)) = false) : ¬ Good f i := fun hg => by
  rw [beq_eq_false_iff_ne] at h; exact h ((good_key hi hk).2 (hg.2.2 hk))
theorem is_good {f : Nat → Col} {n i : Nat} (hi : i < n) (hc : colOK (f i) = true) (hf : (findName f n (f i).nm == (i : Int)) = true) (hk : (f i).key = true → (findKey f n == (i : Int)) = true) : Good f i :=
  ⟨hc, (good_find hi).1 (beq_iff_eq.1 hf), fun h => (good_key hi h).1 (beq_iff_eq.1 (hk h))⟩
theorem all_succ {Q : Nat → Prop} {k : Nat} (h : ∀ i, i < k → Q i) (hk : Q k) : ∀ i, i < k + 1 → Q i := fun i hi => by
  rcases Nat.lt_succ_iff_lt_or_eq.1 hi with h1 | rfl
  · exact h i h1
  · exact hk

/-- How many keys there are among the first n columns. -/
def keysN (f : Nat → Col) : Nat → Nat
  | 0 => 0
  | n + 1 => keysN f n + if (f n).key then 1 else 0
theorem keysN_le (f : Nat → Col) (n : Nat) : keysN f n ≤ n := by
  induction n with
  | zero => exact Nat.le_refl _
  | succ n ih => unfold keysN; split <;> omega
theorem keysN_zero (f : Nat → Col) (n : Nat) : keysN f n = 0 ↔ ∀ i, i < n → (f i).key = false := by
  induction n with
  | zero => exact ⟨fun _ i hi => by omega, fun _ => rfl⟩
  | succ n ih =>
    unfold keysN
    constructor
    · intro h
      cases hk : (f n).key
      · exact all_succ (ih.1 (by omega)) hk
      · rw [hk, if_pos rfl] at h; omega
    · intro h
      rw [ih.2 (fun i hi => h i (by omega)), h n (by omega)]; rfl
theorem keysN_one (f : Nat → Col) (n : Nat) : keysN f n ≤ 1 ↔ ∀ i, i < n → (f i).key = true → ∀ j, j < i → (f j).key = false := by
  induction n with
  | zero => exact ⟨fun _ i hi => by omega, fun _ => by unfold keysN; omega⟩
  | succ n ih =>
    unfold keysN
    cases hk : (f n).key
    · rw [if_neg (by decide), Nat.add_zero, ih]
      exact ⟨fun h => all_succ h (fun hc => by rw [hk] at hc; cases hc), fun h i hi => h i (by omega)⟩
    · rw [if_pos rfl]
      constructor
      · intro h
        have h0 := (keysN_zero f n).1 (by omega)
        exact all_succ (ih.1 (by omega)) (fun _ => h0)
      · intro h
        have := (keysN_zero f n).2 (h n (by omega) hk)
        omega
/-- A column, as the reference looks at it: all but the number of keys. -/
def FairC (f : Nat → Col) (i : Nat) : Prop := colOK (f i) = true ∧ (∀ j, j < i → eqT (f j).nm (f i).nm = false)
theorem fair_end {nm : ByteArray} {n : Nat} {f : Nat → Col} (hn : nameOK nm = true) (h1 : 1 ≤ n) (h2 : n ≤ 6) (h : ∀ i, i < n → FairC f i) : decide ((keysN f n : Int) ≤ 1) = schemaOK nm n f := by
  rw [Bool.eq_iff_iff, decide_eq_true_iff]
  constructor
  · intro hk
    have := (keysN_one f n).1 (by omega)
    exact schemaOK_yes hn h1 h2 fun i hi => ⟨(h i hi).1, (h i hi).2, this i hi⟩
  · intro hs
    unfold schemaOK at hs
    simp only [Bool.and_eq_true, decide_eq_true_eq] at hs
    have := (keysN_one f n).2 fun i hi => (hs.2 i hi).2.2
    omega
theorem bad_fair {f : Nat → Col} {n i : Nat} (hi : i < n) (h : (findName f n (f i).nm == (i : Int)) = false) : ¬ Good f i := bad_find hi h
theorem is_fair {f : Nat → Col} {n i : Nat} (hi : i < n) (hc : colOK (f i) = true) (hf : (findName f n (f i).nm == (i : Int)) = true) : FairC f i :=
  ⟨hc, (good_find hi).1 (beq_iff_eq.1 hf)⟩
theorem colOK_name {c : Col} (h : nameOK c.nm = false) : colOK c = false := by unfold colOK; rw [h]; rfl
theorem colOK_type {c : Col} (h : c.ty < 1 ∨ 3 < c.ty) : colOK c = false := by
  unfold colOK tyOK; rw [decide_eq_false (by omega), Bool.and_false]; rfl
theorem colOK_null {c : Col} (h : c.nn = false) (h2 : c.key = true) : colOK c = false := by unfold colOK; rw [h, h2, Bool.and_comm]; rfl
theorem colOK_yes {c : Col} (h : nameOK c.nm = true) (h1 : 1 ≤ c.ty) (h3 : c.ty ≤ 3) (h2 : c.nn = true ∨ c.key = false) : colOK c = true := by
  unfold colOK tyOK
  rw [h, decide_eq_true ⟨h1, h3⟩]
  rcases h2 with h2 | h2
  · rw [h2]; rfl
  · rw [h2]; simp

/-- What Fits answers. -/
def fitsE (ty : Int) (nn : Bool) (k n : Int) (s : ByteArray) : Int := if validB k n s then (if k = 0 then (if nn then 8 else 0) else if k = ty then 0 else 5) else 17
end Go.Proofs.YtlpaphgmdcpmaaaGreatDoor
