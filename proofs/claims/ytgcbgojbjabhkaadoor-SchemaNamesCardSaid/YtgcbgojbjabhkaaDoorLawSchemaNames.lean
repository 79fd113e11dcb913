/-
  THE STATEMENT SchemaNames, as a walk.
-/
import Derived.Test.YtgcbgojbjabhkaaDoorNames
import Derived.Test.YtgcbgojbjabhkaaDoorKnownSchema
import Derived.Laws.BytesArg
import Derived.Deep.RegionHeld3
import Derived.Laws.Concat
namespace Go.Proofs.YtgcbgojbjabhkaaDoor
open Go.RowKit
variable {ls : List Nat}

/-- A slice of bytes that the call has made. -/
def BytesAt (u : World) (X : Nat) (xs : List Int) : Prop := X < u.heap.size ∧ ∀ i, i < xs.length → u.cell? ⟨X, i, none⟩ = some (.int .u8 (xs.getD i 0))
theorem BytesAt.step {u v : World} {X b : Nat} {xs : List Int} (h : BytesAt u X xs) (hs : StepT b u v) (hn : X ≠ b) : BytesAt v X xs :=
  ⟨Nat.lt_of_lt_of_le h.1 hs.size, fun i hi => by rw [hs.cell (by exact h.1) (by exact hn)]; exact h.2 i hi⟩
theorem BytesAt.conv {u : World} {X cap n : Nat} {xs : List Int} (h : BytesAt u X xs) (hn : xs.length = n) : Sem.run Tryd.prog (convert 25 9 (.slice (some ⟨X, 0, none⟩) n cap)) u = .ok (.string (strOfNums xs)) u := by
  refine run_convert_bytes_arg _ 25 5 Tryd.underlying25 Tryd.underlying5 X 0 n cap xs hn (fun i hi => ?_) 9 Tryd.underlying9
  rw [Nat.zero_add]
  exact h.2 i (by omega)
/-- The bytes of a text, with one of them changed. -/
theorem bytes_set {u : World} {X : Nat} {s : ByteArray} (hz : X < u.heap.size) (h : ∀ k (h : k < s.size), u.cell? ⟨X, k, none⟩ = some (.int .u8 (s[k].toNat : Int))) (m : Nat) (y : Int) :
    ∃ xs : List Int, xs.length = s.size ∧ BytesAt (u.setCell ⟨X, m, none⟩ (.int .u8 y)) X xs := by
  refine ⟨(List.range s.size).map fun i => if i = m then y else if h : i < s.size then (s[i].toNat : Int) else 0, by simp, by simpa [World.setCell] using hz, fun i hi => ?_⟩
  simp only [List.length_map, List.length_range] at hi
  rw [List.getD, List.getElem?_map, List.getElem?_range hi]
  simp only [Option.map_some, Option.getD_some, dif_pos hi]
  by_cases hm : i = m
  · subst hm
    rw [if_pos rfl]
    have := h i hi
    go_simp
  · rw [if_neg hm]
    have := h i hi
    go_simp

theorem bytes_frozen (w : World) (s : ByteArray) (cap : Nat) (t : TypeId) (k : Nat) (h : k < s.size) : (w.drew.alloc (.cells (bytesRow s cap) t ((bytesRow s cap).size, (bytesRow s cap).size + 1))).frozen? ⟨w.heap.size, k, none⟩ = false := by
  have e : (w.drew.alloc (.cells (bytesRow s cap) t ((bytesRow s cap).size, (bytesRow s cap).size + 1))).heap[w.heap.size]? = some (.cells (bytesRow s cap) t ((bytesRow s cap).size, (bytesRow s cap).size + 1)) := by
    show (w.heap.push _)[w.heap.size]? = _
    simp
  have hz : s.size ≤ (bytesRow s cap).size := by unfold bytesRow; simp
  unfold World.frozen?
  rw [e]
  simp only [Bool.and_eq_false_iff, decide_eq_false_iff_not]
  exact .inl (by omega)
theorem name_short {i : Nat} (hi : i < 8) : (nameS i).size ≤ 12 := name_all (P := fun s => s.size ≤ 12) (by decide +kernel) i hi
theorem name_any_short (i : Nat) : (nameS i).size ≤ 12 := by
  by_cases hi : i < 8
  · exact name_short hi
  · have : nameS i = ⟨#[]⟩ := by unfold nameS nameL; rw [List.getD, List.getElem?_eq_none (by simpa using hi)]; rfl
    rw [this]; decide
theorem name_cat (i j : Nat) : ¬ ((nameS i).size + (nameS j).size > 9223372036854775807) := by
  have := name_any_short i
  have := name_any_short j
  omega
/-- A slice of texts that the call has made. -/
def TextsAt (u : World) (L n : Nat) (g : Nat → ByteArray) : Prop := L < u.heap.size ∧ ∀ i, i < n → u.cell? ⟨L, i, none⟩ = some (.string (g i)) ∧ (g i).size ≤ 140737488355328
theorem TextsAt.low {u v : World} {L n : Nat} {g : Nat → ByteArray} (h : TextsAt u L n g) (hb : Below u.heap.size u v) : TextsAt v L n g :=
  ⟨Nat.lt_of_lt_of_le h.1 hb.size, fun i hi => ⟨by rw [hb.cell (by exact h.1)]; exact (h.2 i hi).1, (h.2 i hi).2⟩⟩

theorem texts11 {W wq : World} {t : TypeId} {a0 a1 a2 a3 : ByteArray} (h : wq.alloc (.cells #[.string a0, .string a1, .string a2, .string a3, .string ⟨#[83, 69, 76, 69, 67, 84]⟩, .string ⟨#[115, 101, 108, 101, 99, 116]⟩, .string ⟨#[73, 78, 83, 69, 82, 84, 69, 68]⟩, .string ⟨#[32]⟩, .string ⟨#[78, 79, 84, 32, 78, 85, 76, 76]⟩, .string ⟨#[73, 78]⟩, .string ⟨#[82, 79, 87]⟩] t) = W)
    (h0 : a0.size ≤ 140737488355328) (h1 : a1.size ≤ 140737488355328) (h2 : a2.size ≤ 140737488355328) (h3 : a3.size ≤ 140737488355328) : ∃ g, TextsAt W wq.heap.size 11 g := by
  subst h
  refine ⟨fun i => match i with | 0 => a0 | 1 => a1 | 2 => a2 | 3 => a3 | 4 => ⟨#[83, 69, 76, 69, 67, 84]⟩ | 5 => ⟨#[115, 101, 108, 101, 99, 116]⟩ | 6 => ⟨#[73, 78, 83, 69, 82, 84, 69, 68]⟩ | 7 => ⟨#[32]⟩ | 8 => ⟨#[78, 79, 84, 32, 78, 85, 76, 76]⟩ | 9 => ⟨#[73, 78]⟩ | _ => ⟨#[82, 79, 87]⟩, by simp, fun i hi => ?_⟩
  have hi' : i = 0 ∨ i = 1 ∨ i = 2 ∨ i = 3 ∨ i = 4 ∨ i = 5 ∨ i = 6 ∨ i = 7 ∨ i = 8 ∨ i = 9 ∨ i = 10 := by omega
  rcases hi' with rfl | rfl | rfl | rfl | rfl | rfl | rfl | rfl | rfl | rfl | rfl
  · exact ⟨by go_simp, h0⟩
  · exact ⟨by go_simp, h1⟩
  · exact ⟨by go_simp, h2⟩
  · exact ⟨by go_simp, h3⟩
  all_goals exact ⟨by go_simp, by simp [ByteArray.size]⟩

theorem keepN {X b n cap : Nat} {W u v : World} {xs : List Int} (hn : xs.length = n) (hs : StepT b u v) (ht : TapeAt v b) (h8 : 4 ≤ b) (hX : X ≠ b) (hW : W.heap.size ≤ b)
    (h : Sem.run Tryd.prog (convert 25 9 (.slice (some ⟨X, 0, none⟩) n cap)) u = .ok (.string (strOfNums xs)) u ∧ BytesAt u X xs ∧ TapeAt u b ∧ Env ls u ∧ Below W.heap.size W u) :
    Sem.run Tryd.prog (convert 25 9 (.slice (some ⟨X, 0, none⟩) n cap)) v = .ok (.string (strOfNums xs)) v ∧ BytesAt v X xs ∧ TapeAt v b ∧ Env ls v ∧ Below W.heap.size W v := by
  obtain ⟨-, hx, _, hE, hB⟩ := h
  have hx' := hx.step hs hX
  exact ⟨hx'.conv hn, hx', ht, hE.step hs h8, hB.trans (hs.below hW hB.size)⟩
theorem keepNa {X b n cap : Nat} {W u : World} {xs : List Int} {o : Obj} (hn : xs.length = n) (h8 : 4 ≤ b) (hX : X ≠ b) (hW : W.heap.size ≤ b)
    (h : Sem.run Tryd.prog (convert 25 9 (.slice (some ⟨X, 0, none⟩) n cap)) u = .ok (.string (strOfNums xs)) u ∧ BytesAt u X xs ∧ TapeAt u b ∧ Env ls u ∧ Below W.heap.size W u) :
    Sem.run Tryd.prog (convert 25 9 (.slice (some ⟨X, 0, none⟩) n cap)) (u.alloc o) = .ok (.string (strOfNums xs)) (u.alloc o) ∧ BytesAt (u.alloc o) X xs ∧ TapeAt (u.alloc o) b ∧ Env ls (u.alloc o) ∧ Below W.heap.size W (u.alloc o) :=
  keepN hn ((StepT.refl b u).alloc o) (h.2.2.1.alloc o) h8 hX hW h

set_option maxRecDepth 100000 in
set_option maxHeartbeats 4000000 in
theorem names_walk (w : World) (raw : ByteArray) (hraw : raw.size ≤ 140737488355328) (p : Option Addr) (len cap : Nat) (hl : len ≤ cap) (hm : len ≤ 9223372036854775807) (h : IntsAt w p len) (at_ : Int) (by_ : Int)
    (hE : Env ls w) (hln : 0 ∈ ls) (hlk : 1 ∈ ls) :
    Calls Tryd.prog 3 #[.string raw, .slice p len cap, .int .i64 at_, .int .u8 by_] w fun e w' => e = .returned (.bool true) ∧ Below w.heap.size w w' := by
  have hz8 := hE.size
  have HE := Lib.hid hE
  have HI := Lib.hid h
  clear h hE
  go_enter Tryd.func3, Tryd.ntmps3
  go_wp2_with fail
  refine (new_any _ p len cap hl hm HI.out).mono ?_
  rintro e w1 ⟨b, rfl, hb0, ht, hb1⟩
  have hE1 := HE.out.low hb1
  have h8b : 4 ≤ b := by omega
  have HB1 := Lib.hid hb1
  clear HE HI hb1
  go_wp2_with fail
  refine (name_any b _ h8b ht hE1 hln).mono ?_
  rintro e w2 ⟨i, rfl, hi, ht2, hs2⟩
  have HE2 := Lib.hid (hE1.step hs2 h8b)
  have HB2 := Lib.hid (HB1.out.trans (hs2.below hb0 HB1.out.size))
  have hns : 1 ≤ (nameS i).size ∧ (nameS i).size ≤ 12 := name_all (P := fun s => 1 ≤ s.size ∧ s.size ≤ 12) (by decide +kernel) i hi
  have hb2 := ht2.lt
  clear ht hE1 HB1 hs2
  generalize nameS i = s at hns ⊢
  have hcv := run_bytes_of_string (P := Tryd.prog) w2 9 25 5 s Tryd.underlying9 Tryd.underlying25 Tryd.underlying5
  generalize grownCap w2 s.size 0 5 = cp at hcv
  have hc := bytes_cells w2 s cp 5 ((bytesRow s cp).size, (bytesRow s cp).size + 1)
  have hb := below_bytes w2 (.cells (bytesRow s cp) 5 ((bytesRow s cp).size, (bytesRow s cp).size + 1))
  have hf := bytes_frozen w2 s cp 5
  have hX : w2.heap.size < (w2.drew.alloc (.cells (bytesRow s cp) 5 ((bytesRow s cp).size, (bytesRow s cp).size + 1))).heap.size := by rw [size_alloc]; exact Nat.lt_succ_self _
  generalize w2.drew.alloc (.cells (bytesRow s cp) 5 ((bytesRow s cp).size, (bytesRow s cp).size + 1)) = u at *
  have HT3 := Lib.hid (ht2.below hb)
  have HE3 := Lib.hid (HE2.out.low hb)
  have HB3 := Lib.hid (below_next HB2.out hb)
  have hXb : w2.heap.size ≠ b := by omega
  have hwX : w.heap.size ≤ w2.heap.size := HB2.out.size
  clear ht2 HE2 HB2 hb
  obtain ⟨m, hm, hms⟩ : ∃ m : Nat, modI at_ s.size = m ∧ m < s.size := by
    have := modI_range at_ s.size (by omega)
    exact ⟨(modI at_ s.size).toNat, by omega, by omega⟩
  have HC := Lib.hid hc
  have hck := hc m hms
  have hfk := hf m hms
  clear hc hf
  go_wp2_with fail
  refine (mod_any _ _ _ (by omega) (by omega)).mono ?_
  rintro e w3 ⟨rfl, rfl⟩
  rw [hm]
  go_wp2_with fail
  obtain ⟨xs, hxs, hx⟩ := bytes_set hX HC.out m by_
  have HT4 := Lib.hid (HT3.out.setCell (p := ⟨w2.heap.size, m, none⟩) (by exact hb2) (.int .u8 by_))
  have HE4 := Lib.hid (HE3.out.below (B := w.heap.size) ((Below.refl _ _).setCell (p := ⟨w2.heap.size, m, none⟩) (by exact hwX) (.int .u8 by_)) hz8)
  have HB4 := Lib.hid (HB3.out.setCell (p := ⟨w2.heap.size, m, none⟩) (by exact hwX) (.int .u8 by_))
  clear hcv hX HT3 HE3 HB3 HC hck hfk hb2 hwX
  generalize w3.setCell _ _ = w4 at hx HT4 HE4 HB4 ⊢
  generalize w2.heap.size = X at hx hXb ⊢
  have HX := Lib.hid hx
  clear hx
  have hcat := name_cat
  go_region_held3 (fun u => Sem.run Tryd.prog (convert 25 9 (.slice (some ⟨X, 0, none⟩) s.size cp)) u = .ok (.string (strOfNums xs)) u ∧ BytesAt u X xs ∧ TapeAt u b ∧ Env ls u ∧ Below w.heap.size w u)
    (first
      | exact ⟨BytesAt.conv (u := w4.drew) HX.out hxs, HX.out, HT4.out, HE4.out.drew, HB4.out.drew⟩
      | exact keepN hxs hsq htq h8b hXb hb0 (by assumption)
      | exact keepNa hxs h8b hXb hb0 (by assumption))
    (first
      | (go_at_call 7; refine (name_any b _ h8b ?_ ?_ hln).mono ?_; (go_split_ands; assumption); (go_split_ands; assumption); rintro e wq ⟨iq, rfl, hiq, htq, hsq⟩; have hzq := name_short hiq))
  rename_i hHeld
  obtain ⟨-, -, -, hE5, hB5⟩ := hHeld
  clear HX HT4 HE4 HB4 htq hsq hm hcat
  have hxz : (strOfNums xs).size ≤ 140737488355328 := by rw [strOfNums_size]; omega
  generalize hW : wq.alloc _ = W5 at hE5 hB5 ⊢
  obtain ⟨g, hg⟩ := texts11 hW hraw (by have := name_any_short; first | exact Nat.le_trans (this _) (by decide)) hxz (by rw [ByteArray.size_append]; have := name_any_short; exact Nat.le_trans (Nat.add_le_add (this _) (this _)) (by decide))
  generalize wq.heap.size = L at hg ⊢
  have HG := Lib.hid hg
  have HE5 := Lib.hid hE5
  have HB5 := Lib.hid hB5
  clear hW hg hE5 hB5 hxz hzq
  go_wp2
  go_loopw [39] (fun i v => ∃ k : Nat, k ≤ 11 ∧ i = .int .i64 k ∧ TextsAt v L 11 g ∧ Env ls v ∧ Below w.heap.size w v) (fun i _ => 11 - (intOf i).toNat)
  case atStart => exact ⟨0, by omega, rfl, HG.out, HE5.out, HB5.out⟩
  clear HG HE5 HB5
  case round =>
    obtain ⟨k, hk, rfl, hG, hE, hB⟩ := hrel
    have HG := Lib.hid hG
    have HE := Lib.hid hE
    have HB := Lib.hid hB
    by_cases hlt : k < 11
    · obtain ⟨hgc, hgs⟩ := hG.2 k hlt
      have hLz := hG.1
      clear hG hE hB
      go_wp2_with fail
      refine (validName_any (g k) _ (by omega)).mono ?_
      rintro e v1 ⟨rfl, hb1⟩
      have HG1 := Lib.hid (HG.out.low hb1)
      have HE1 := Lib.hid (HE.out.low hb1)
      have HB1 := Lib.hid (below_next HB.out hb1)
      clear HG HE HB hb1 hgc hLz
      go_wp2_with fail
      refine (rvalidName_any (g k) _ (by omega)).mono ?_
      rintro e v2 ⟨rfl, rfl⟩
      go_wp2_with fail
      refine (keyword_any (g k) _ HE1.out hlk).mono ?_
      rintro e v2 ⟨rfl, rfl⟩
      go_wp2_with fail
      refine (rkeyword_any (g k) _ HE1.out hgs).mono ?_
      rintro e v2 ⟨rfl, rfl⟩
      go_wp2
      go_roundw
      case rel => exact ⟨k + 1, by omega, by go_num, HG1.out, HE1.out, HB1.out⟩
      case measure => simp [intOf]; omega
    · clear hG
      go_wp2_with fail
      refine (known_any _ hE hlk).mono ?_
      rintro e w5 ⟨rfl, hb5⟩
      have HB5 := Lib.hid (below_next hB hb5)
      go_wp2
      go_ret
      exact ⟨rfl, HB5.out⟩
end Go.Proofs.YtgcbgojbjabhkaaDoor
