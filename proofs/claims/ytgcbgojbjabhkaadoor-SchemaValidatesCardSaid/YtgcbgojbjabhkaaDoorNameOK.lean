/-
  ValidName, of the program and of the reference.
-/
import Derived.Test.YtgcbgojbjabhkaaDoorPlain
import Derived.Test.YtgcbgojbjabhkaaDoorEnv
import Derived.Laws.IdiomStrings
namespace Go.Proofs.YtgcbgojbjabhkaaDoor
open Go.RowKit

def ltrI (c : Int) : Bool := decide (97 ≤ c ∧ c ≤ 122)
def digI (c : Int) : Bool := decide (48 ≤ c ∧ c ≤ 57)
def ltrB (c : UInt8) : Bool := ltrI (c.toNat : Int)
def restB (c : UInt8) : Bool := ltrI (c.toNat : Int) || digI (c.toNat : Int) || decide ((c.toNat : Int) = 95)
/-- Is a text a name? -/
def nameOK (s : ByteArray) : Bool := decide (1 ≤ s.size ∧ s.size ≤ 12) && (s.data.toList.take 1).all ltrB && s.data.toList.all restB

theorem nameOK_len {s : ByteArray} (h : s.size < 1 ∨ 12 < s.size) : nameOK s = false := by
  unfold nameOK
  rw [decide_eq_false (by omega)]; rfl
theorem nameOK_bad {s : ByteArray} {k : Nat} (h : k < s.size) (hb : restB s[k] = false) : nameOK s = false := by
  unfold nameOK
  have : s.data.toList.all restB = false := by
    rw [List.all_eq_false]; exact ⟨s[k], by simp [ByteArray.getElem_eq_getElem_data], by simp [hb]⟩
  rw [this, Bool.and_false]
theorem nameOK_first {s : ByteArray} (h : 0 < s.size) (hb : ltrB s[0] = false) : nameOK s = false := by
  unfold nameOK
  have : (s.data.toList.take 1).all ltrB = false := by
    rw [all_take_succ _ 0 (by simpa using h)]
    show (true && ltrB s[0]) = false
    rw [hb]; rfl
  rw [this, Bool.and_false]; rfl
theorem nameOK_yes {s : ByteArray} (h : 1 ≤ s.size) (h2 : s.size ≤ 12) (hb : ltrB s[0] = true) (ha : (s.data.toList.take s.size).all restB = true) : nameOK s = true := by
  unfold nameOK
  rw [decide_eq_true ⟨h, h2⟩, all_take_succ _ 0 (by simp; omega)]
  have : s.data.toList.take s.size = s.data.toList := by rw [show s.size = s.data.toList.length by simp]; exact List.take_length
  rw [this] at ha
  rw [ha]
  show (true && (true && ltrB s[0]) && true) = true
  rw [hb]; rfl
theorem rest_succ {s : ByteArray} {k : Nat} (h : k < s.size) (ha : (s.data.toList.take k).all restB = true) (hb : restB s[k] = true) : (s.data.toList.take (k + 1)).all restB = true := by
  rw [all_take_succ _ _ (by simpa using h), ha]
  show (true && restB s[k]) = true
  rw [hb]; rfl
theorem restB_let {c : UInt8} (h : ltrI (c.toNat : Int) = true) : restB c = true := by unfold restB; rw [h]; rfl
theorem restB_dig {c : UInt8} (h : digI (c.toNat : Int) = true) : restB c = true := by unfold restB; rw [h]; cases ltrI _ <;> rfl
theorem restB_low {c : UInt8} (h : (c.toNat : Int) = 95) : restB c = true := by unfold restB; rw [decide_eq_true h]; simp
theorem restB_no {c : UInt8} (h : ltrI (c.toNat : Int) = false) (h2 : digI (c.toNat : Int) = false) (h3 : ¬ (c.toNat : Int) = 95) : restB c = false := by unfold restB; rw [h, h2, decide_eq_false h3]; rfl
theorem ltrI_not {c : Int} (h : c < 97 ∨ 122 < c) : ltrI c = false := by unfold ltrI; exact decide_eq_false (by omega)
theorem ltrI_yes {c : Int} (h : 97 ≤ c) (h2 : c ≤ 122) : ltrI c = true := by unfold ltrI; exact decide_eq_true (by omega)
theorem digI_not {c : Int} (h : c < 48 ∨ 57 < c) : digI c = false := by unfold digI; exact decide_eq_false (by omega)
theorem digI_yes {c : Int} (h : 48 ≤ c) (h2 : c ≤ 57) : digI c = true := by unfold digI; exact decide_eq_true (by omega)
theorem ret_b {a b : Bool} (h : a = b) : Ending.returned (.bool a) = .returned (.bool b) := by rw [h]

theorem isLetter_any (c : Int) (w : World) : Calls Tryd.prog 29 #[.int .u8 c] w fun e w' => e = .returned (.bool (ltrI c)) ∧ w = w' := by
  go_enter Tryd.func29, Tryd.ntmps29
  go_wp2
  all_goals
    go_ret
    exact ⟨ret_b (by first | exact (ltrI_yes (by omega) (by omega)).symm | exact (ltrI_not (by omega)).symm | (unfold ltrI; simp; omega)), rfl⟩
theorem isDigit_any (c : Int) (w : World) : Calls Tryd.prog 30 #[.int .u8 c] w fun e w' => e = .returned (.bool (digI c)) ∧ w = w' := by
  go_enter Tryd.func30, Tryd.ntmps30
  go_wp2
  all_goals
    go_ret
    exact ⟨ret_b (by first | exact (digI_yes (by omega) (by omega)).symm | exact (digI_not (by omega)).symm | (unfold digI; simp; omega)), rfl⟩
theorem rletter_any (c : Int) (w : World) : Calls Tryd.prog 31 #[.int .u8 c] w fun e w' => e = .returned (.bool (ltrI c)) ∧ w = w' := by
  go_enter Tryd.func31, Tryd.ntmps31
  go_wp2
  all_goals
    go_ret
    exact ⟨ret_b (by first | exact (ltrI_yes (by omega) (by omega)).symm | exact (ltrI_not (by omega)).symm | (unfold ltrI; simp; omega)), rfl⟩
theorem rletter_eq {c : Int} {b : Bool} (h : ltrI c = b) (w : World) : Calls Tryd.prog 31 #[.int .u8 c] w fun e w' => e = .returned (.bool b) ∧ w = w' := by
  subst h; exact rletter_any c w
theorem rdigit_any (c : Int) (w : World) : Calls Tryd.prog 32 #[.int .u8 c] w fun e w' => e = .returned (.bool (digI c)) ∧ w = w' := by
  go_enter Tryd.func32, Tryd.ntmps32
  go_wp2
  all_goals
    go_ret
    exact ⟨ret_b (by first | exact (digI_yes (by omega) (by omega)).symm | exact (digI_not (by omega)).symm | (unfold digI; simp; omega)), rfl⟩

theorem below_bytes (w : World) (o : Obj) : Below w.heap.size w (w.drew.alloc o) := ((Below.refl w.heap.size w).alloc (Nat.le_refl _) o).drew
theorem bytes_cells (w : World) (s : ByteArray) (cap : Nat) (t : TypeId) (fr : Nat × Nat) : ∀ k (h : k < s.size), (w.drew.alloc (.cells (bytesRow s cap) t fr)).cell? ⟨w.heap.size, k, none⟩ = some (.int .u8 (s[k].toNat : Int)) := by
  intro k h
  show (w.drew.alloc _).cell? ⟨w.drew.heap.size, k, none⟩ = _
  rw [World.cell?_alloc_mark, bytesRow_at s _ k h]
  rfl

theorem first_succ {s : ByteArray} {k : Nat} (h : k < s.size) (hl : ltrI (s[k].toNat : Int) = true) (hf : 0 < k → ∃ h : 0 < s.size, ltrB s[0] = true) : 0 < k + 1 → ∃ h : 0 < s.size, ltrB s[0] = true := by
  intro _
  cases k with
  | zero => exact ⟨h, hl⟩
  | succ n => exact hf (by omega)
theorem nameOK_zero {s : ByteArray} {k : Nat} (h : k < s.size) (h0 : k = 0) (hl : ltrI (s[k].toNat : Int) = false) : nameOK s = false := by
  subst h0; exact nameOK_first h hl

set_option maxHeartbeats 1000000 in
theorem validName_any (s : ByteArray) (w : World) (hs : s.size ≤ 9223372036854775807) :
    Calls Tryd.prog 9 #[.string s] w fun e w' => e = .returned (.bool (nameOK s)) ∧ Below w.heap.size w w' := by
  by_cases h1 : s.size < 1
  · have HF := Lib.hid (nameOK_len (.inl h1))
    have e0 : ((s.size : Int) == 0) = true := beq_iff_eq.2 (by omega)
    clear h1
    go_enter Tryd.func9, Tryd.ntmps9
    go_wp2
    go_ret
    exact ⟨ret_b HF.out.symm, Below.refl _ _⟩
  have e0 : ((s.size : Int) == 0) = false := beq_eq_false_iff_ne.2 (by omega)
  by_cases h2 : 12 < s.size
  · have HF := Lib.hid (nameOK_len (.inr h2))
    have e12 : decide ((12 : Int) < s.size) = true := decide_eq_true (by omega)
    clear h1 h2
    go_enter Tryd.func9, Tryd.ntmps9
    go_wp2
    go_ret
    exact ⟨ret_b HF.out.symm, Below.refl _ _⟩
  have e12 : decide ((12 : Int) < s.size) = false := decide_eq_false (by omega)
  have H1 : Hid (1 ≤ s.size) := Lib.hid (by omega)
  have H2 : Hid (s.size ≤ 12) := Lib.hid (by omega)
  have hcv := run_bytes_of_string (P := Tryd.prog) w 9 25 5 s Tryd.underlying9 Tryd.underlying25 Tryd.underlying5
  clear h1 h2
  generalize grownCap w s.size 0 5 = cap at hcv
  have hc := bytes_cells w s cap 5 ((bytesRow s cap).size, (bytesRow s cap).size + 1)
  have hb := below_bytes w (.cells (bytesRow s cap) 5 ((bytesRow s cap).size, (bytesRow s cap).size + 1))
  generalize w.drew.alloc (.cells (bytesRow s cap) 5 ((bytesRow s cap).size, (bytesRow s cap).size + 1)) = u at *
  have HC := Lib.hid hc
  have HB := Lib.hid hb
  clear hc hb
  go_enter Tryd.func9, Tryd.ntmps9
  go_wp2
  go_loop [16] (fun i => ∃ k : Nat, k ≤ s.size ∧ i = .int .i64 k ∧ (s.data.toList.take k).all restB = true ∧ (0 < k → ∃ h : 0 < s.size, ltrB s[0] = true)) (fun i => s.size - (intOf i).toNat)
  case atStart => exact ⟨0, Nat.zero_le _, rfl, by simp, fun h => by omega⟩
  case round =>
    obtain ⟨k, hk, rfl, ha, hf⟩ := hrel
    have HA := Lib.hid ha
    have HL := Lib.hid hf
    clear ha hf
    by_cases hlt : k < s.size
    · have hck := HC.out k hlt
      have hlt' : decide ((k : Int) < s.size) = true := decide_eq_true (by omega)
      cases hl : ltrI (s[k].toNat : Int)
      · have HN := Lib.hid hl
        clear hl
        by_cases h0 : k = 0
        · have e0 : ((k : Int) == 0) = true := beq_iff_eq.2 (by omega)
          have HZ := Lib.hid h0
          clear h0
          go_wp2_with (first | (go_at_call 29; refine (isLetter_any _ _).mono ?_; rintro e w' ⟨rfl, rfl⟩; rw [HN.out]) | (go_at_call 30; refine (isDigit_any _ _).mono ?_; rintro e w' ⟨rfl, rfl⟩; rw [HD.out]))
          go_ret
          exact ⟨ret_b (nameOK_zero hlt HZ.out HN.out).symm, HB.out⟩
        · have e0 : ((k : Int) == 0) = false := beq_eq_false_iff_ne.2 (by omega)
          have HZ := Lib.hid h0
          clear h0
          cases hd : digI (s[k].toNat : Int)
          · have HD := Lib.hid hd
            clear hd
            by_cases h95 : (s[k].toNat : Int) = 95
            · have e95 : ((s[k].toNat : Int) == 95) = true := beq_iff_eq.2 h95
              have H95 := Lib.hid h95
              clear h95
              go_wp2_with (first | (go_at_call 29; refine (isLetter_any _ _).mono ?_; rintro e w' ⟨rfl, rfl⟩; rw [HN.out]) | (go_at_call 30; refine (isDigit_any _ _).mono ?_; rintro e w' ⟨rfl, rfl⟩; rw [HD.out]))
              go_round
              case rel => exact ⟨k + 1, by omega, by go_num, rest_succ hlt HA.out (restB_low H95.out), fun _ => HL.out (Nat.pos_of_ne_zero HZ.out)⟩
              case measure => simp [intOf]; omega
            · have e95 : ((s[k].toNat : Int) == 95) = false := beq_eq_false_iff_ne.2 h95
              have H95 := Lib.hid h95
              clear h95
              go_wp2_with (first | (go_at_call 29; refine (isLetter_any _ _).mono ?_; rintro e w' ⟨rfl, rfl⟩; rw [HN.out]) | (go_at_call 30; refine (isDigit_any _ _).mono ?_; rintro e w' ⟨rfl, rfl⟩; rw [HD.out]))
              go_ret
              exact ⟨ret_b (nameOK_bad hlt (restB_no HN.out HD.out H95.out)).symm, HB.out⟩
          · have HD := Lib.hid hd
            clear hd
            go_wp2_with (first | (go_at_call 29; refine (isLetter_any _ _).mono ?_; rintro e w' ⟨rfl, rfl⟩; rw [HN.out]) | (go_at_call 30; refine (isDigit_any _ _).mono ?_; rintro e w' ⟨rfl, rfl⟩; rw [HD.out]))
            go_round
            case rel => exact ⟨k + 1, by omega, by go_num, rest_succ hlt HA.out (restB_dig HD.out), fun _ => HL.out (Nat.pos_of_ne_zero HZ.out)⟩
            case measure => simp [intOf]; omega
      · have HN := Lib.hid hl
        go_wp2_with (first | (go_at_call 29; refine (isLetter_any _ _).mono ?_; rintro e w' ⟨rfl, rfl⟩; rw [HN.out]) | (go_at_call 30; refine (isDigit_any _ _).mono ?_; rintro e w' ⟨rfl, rfl⟩; rw [HD.out]))
        go_round
        case rel => exact ⟨k + 1, by omega, by go_num, rest_succ hlt HA.out (restB_let HN.out), first_succ hlt HN.out HL.out⟩
        case measure => simp [intOf]; omega
    · have hlt' : decide ((k : Int) < s.size) = false := decide_eq_false (by omega)
      obtain rfl : k = s.size := by omega
      go_wp2
      go_ret
      exact ⟨ret_b (nameOK_yes H1.out H2.out (HL.out H1.out).2 HA.out).symm, HB.out⟩
set_option maxHeartbeats 1000000 in
theorem rvalidName_any (s : ByteArray) (w : World) (hs : s.size ≤ 9223372036854775807) :
    Calls Tryd.prog 10 #[.string s] w fun e w' => e = .returned (.bool (nameOK s)) ∧ w = w' := by
  by_cases h1 : s.size < 1
  · have HF := Lib.hid (nameOK_len (.inl h1))
    have e0 : decide ((s.size : Int) < 1) = true := decide_eq_true (by omega)
    clear h1
    go_enter Tryd.func10, Tryd.ntmps10
    go_wp2
    go_ret
    exact ⟨ret_b HF.out.symm, rfl⟩
  have e0 : decide ((s.size : Int) < 1) = false := decide_eq_false (by omega)
  by_cases h2 : 12 < s.size
  · have HF := Lib.hid (nameOK_len (.inr h2))
    have e12 : decide ((12 : Int) < s.size) = true := decide_eq_true (by omega)
    clear h1 h2
    go_enter Tryd.func10, Tryd.ntmps10
    go_wp2
    go_ret
    exact ⟨ret_b HF.out.symm, rfl⟩
  have e12 : decide ((12 : Int) < s.size) = false := decide_eq_false (by omega)
  have hp : 0 < s.size := by omega
  have H1 : Hid (1 ≤ s.size) := Lib.hid (by omega)
  have H2 : Hid (s.size ≤ 12) := Lib.hid (by omega)
  clear h1 h2
  cases hf : ltrI (s[0].toNat : Int)
  · have HF := Lib.hid hf
    clear hf
    go_enter Tryd.func10, Tryd.ntmps10
    go_wp2_with (go_at_call 31; refine (rletter_eq HF.out _).mono ?_; rintro e w' ⟨rfl, rfl⟩)
    go_ret
    exact ⟨ret_b (nameOK_first hp HF.out).symm, rfl⟩
  have HF := Lib.hid hf
  clear hf
  go_enter Tryd.func10, Tryd.ntmps10
  go_wp2_with (go_at_call 31; refine (rletter_eq HF.out _).mono ?_; rintro e w' ⟨rfl, rfl⟩)
  go_loop [3] (fun i => ∃ k : Nat, k ≤ s.size ∧ i = .int .i64 k ∧ (s.data.toList.take k).all restB = true) (fun i => s.size - (intOf i).toNat)
  case atStart => exact ⟨0, Nat.zero_le _, rfl, by simp⟩
  case round =>
    obtain ⟨k, hk, rfl, ha⟩ := hrel
    have HA := Lib.hid ha
    clear ha
    by_cases hlt : k < s.size
    · have hlt' : decide ((k : Int) < s.size) = true := decide_eq_true (by omega)
      cases hl : ltrI (s[k].toNat : Int)
      · have HN := Lib.hid hl
        clear hl
        cases hd : digI (s[k].toNat : Int)
        · have HD := Lib.hid hd
          clear hd
          by_cases h95 : (s[k].toNat : Int) = 95
          · have e95 : ((s[k].toNat : Int) == 95) = true := beq_iff_eq.2 h95
            have H95 := Lib.hid h95
            clear h95
            go_wp2_with (first | (go_at_call 31; refine (rletter_any _ _).mono ?_; rintro e w' ⟨rfl, rfl⟩; rw [HN.out]) | (go_at_call 32; refine (rdigit_any _ _).mono ?_; rintro e w' ⟨rfl, rfl⟩; rw [HD.out]))
            go_round
            case rel => exact ⟨k + 1, by omega, by go_num, rest_succ hlt HA.out (restB_low H95.out)⟩
            case measure => simp [intOf]; omega
          · have e95 : ((s[k].toNat : Int) == 95) = false := beq_eq_false_iff_ne.2 h95
            have H95 := Lib.hid h95
            clear h95
            go_wp2_with (first | (go_at_call 31; refine (rletter_any _ _).mono ?_; rintro e w' ⟨rfl, rfl⟩; rw [HN.out]) | (go_at_call 32; refine (rdigit_any _ _).mono ?_; rintro e w' ⟨rfl, rfl⟩; rw [HD.out]))
            go_ret
            exact ⟨ret_b (nameOK_bad hlt (restB_no HN.out HD.out H95.out)).symm, rfl⟩
        · have HD := Lib.hid hd
          clear hd
          go_wp2_with (first | (go_at_call 31; refine (rletter_any _ _).mono ?_; rintro e w' ⟨rfl, rfl⟩; rw [HN.out]) | (go_at_call 32; refine (rdigit_any _ _).mono ?_; rintro e w' ⟨rfl, rfl⟩; rw [HD.out]))
          go_round
          case rel => exact ⟨k + 1, by omega, by go_num, rest_succ hlt HA.out (restB_dig HD.out)⟩
          case measure => simp [intOf]; omega
      · have HN := Lib.hid hl
        clear hl
        go_wp2_with (first | (go_at_call 31; refine (rletter_any _ _).mono ?_; rintro e w' ⟨rfl, rfl⟩; rw [HN.out]) | (go_at_call 32; refine (rdigit_any _ _).mono ?_; rintro e w' ⟨rfl, rfl⟩; rw [HD.out]))
        go_round
        case rel => exact ⟨k + 1, by omega, by go_num, rest_succ hlt HA.out (restB_let HN.out)⟩
        case measure => simp [intOf]; omega
    · have hlt' : decide ((k : Int) < s.size) = false := decide_eq_false (by omega)
      obtain rfl : k = s.size := by omega
      go_wp2
      go_ret
      exact ⟨ret_b (nameOK_yes H1.out H2.out HF.out HA.out).symm, rfl⟩
end Go.Proofs.YtgcbgojbjabhkaaDoor
