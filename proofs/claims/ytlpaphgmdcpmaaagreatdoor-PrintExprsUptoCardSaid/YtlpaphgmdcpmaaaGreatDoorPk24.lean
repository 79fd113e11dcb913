/-
  Several texts in one.
-/
import Derived.Test.YtlpaphgmdcpmaaaGreatDoorPk23
import Derived.Test.YtlpaphgmdcpmaaaGreatDoorPk01
import Derived.Test.YtlpaphgmdcpmaaaGreatDoorPk04
import Derived.Test.YtlpaphgmdcpmaaaGreatDoorPk14
import Derived.Test.YtlpaphgmdcpmaaaGreatDoorPk15
import Derived.Test.YtlpaphgmdcpmaaaGreatDoorPk16
import Derived.Test.YtlpaphgmdcpmaaaGreatDoorPk12
import Derived.Test.YtlpaphgmdcpmaaaGreatDoorPk18
/-
  join of the reference of layer 12: the joined text of good words.
-/
namespace Go.Proofs.YtlpaphgmdcpmaaaGreatDoor
set_option maxRecDepth 100000
open Go.RowKit
variable {ls : List Nat}

theorem sep_index {c : UInt8} {l : List UInt8} (h1 : c ≠ 44) (h2 : c ≠ 59) (h3 : c ≠ 46) (h4 : c ≠ 41) : Lib.contains [44, 59, 46, 41] (c :: l) = false := by
  have h1 : (c == 44) = false := beq_eq_false_iff_ne.2 h1
  have h2 : (c == 59) = false := beq_eq_false_iff_ne.2 h2
  have h3 : (c == 46) = false := beq_eq_false_iff_ne.2 h3
  have h4 : (c == 41) = false := beq_eq_false_iff_ne.2 h4
  unfold Lib.contains
  simp [Lib.index, List.isPrefixOf, h1, h2, h3, h4]
/-- The words that join to the one before. -/
theorem good_prev {s : ByteArray} (h : GoodW s) : Lib.contains [44, 59, 46, 41] s.data.toList = prevB s := by
  obtain ⟨c, l, hs, h⟩ := good_cases h
  have hp : prevB s = (s.data.toList == [44] || s.data.toList == [59] || s.data.toList == [46] || s.data.toList == [41]) := by
    unfold prevB; rw [ByteArray.toList_eq]
  rw [hp, hs]
  have hno : ∀ x : UInt8, c ≠ x → (c :: l == [x]) = false := fun x hx => beq_eq_false_iff_ne.2 fun e => hx (List.cons.inj e).1
  have hx : (c ≠ 44 ∧ c ≠ 59 ∧ c ≠ 46 ∧ c ≠ 41) ∨ (db c = true ∧ l = []) := by
    rcases h with ⟨w, -⟩ | ⟨w, -⟩ | h | ⟨rfl, -⟩
    · exact .inl ⟨fun e => by subst e; revert w; decide, fun e => by subst e; revert w; decide, fun e => by subst e; revert w; decide, fun e => by subst e; revert w; decide⟩
    · exact .inl ⟨fun e => by subst e; revert w; decide, fun e => by subst e; revert w; decide, fun e => by subst e; revert w; decide, fun e => by subst e; revert w; decide⟩
    · exact .inr h
    · exact .inl (by decide)
  rcases hx with ⟨h1, h2, h3, h4⟩ | ⟨hd, rfl⟩
  · rw [sep_index h1 h2 h3 h4, hno _ h1, hno _ h2, hno _ h3, hno _ h4]; rfl
  · have := byte_all (fun c => !db c || (Lib.contains [44, 59, 46, 41] [c] == ([c] == [44] || [c] == [59] || [c] == [46] || [c] == [41]))) (by decide +kernel) c
    rw [hd] at this
    simpa using this
theorem ba_app (a : List UInt8) (s : ByteArray) : (⟨a.toArray⟩ : ByteArray) ++ s = ⟨(a ++ s.data.toList).toArray⟩ := ba_ext (by simp [ByteArray.data_append])
/-- A list of texts in memory. -/
def SLAt (w : World) (p : Option Addr) (L : List ByteArray) : Prop := ∀ i, i < L.length → ∃ g o, p = some ⟨g, o, none⟩ ∧ g < w.heap.size ∧ w.cell? ⟨g, o + i, none⟩ = some (.string (sAt L i))
theorem SLAt.low {u v : World} {p : Option Addr} {L : List ByteArray} (h : SLAt u p L) (hb : Below u.heap.size u v) : SLAt v p L := fun i hi => by
  obtain ⟨g, o, hp, hg, hc⟩ := h i hi
  exact ⟨g, o, hp, Nat.lt_of_lt_of_le hg hb.size, by rw [hb.cell (by exact hg)]; exact hc⟩
def joinT (L : List ByteArray) (k : Nat) : ByteArray := ⟨(joinN L k).toArray⟩
theorem joinT_succ (L : List ByteArray) (k : Nat) : joinT L (k + 1) = joinT L k ++ (if k = 0 then ⟨#[]⟩ else if nextB (sAt L (k - 1)) || prevB (sAt L k) then ⟨#[]⟩ else ⟨#[32]⟩) ++ sAt L k := by
  unfold joinT
  rw [show joinN L (k + 1) = joinN L k ++ (if k = 0 then [] else spcL (sAt L (k - 1)) (sAt L k)) ++ (sAt L k).data.toList from rfl, ← ba_app]
  congr 1
  unfold spcL
  by_cases h0 : k = 0
  · rw [if_pos h0, if_pos h0, List.append_nil]
    exact ba_ext (by simp)
  · rw [if_neg h0, if_neg h0]
    cases nextB (sAt L (k - 1)) || prevB (sAt L k)
    · exact (ba_app _ ⟨#[32]⟩).symm
    · exact (ba_app _ ⟨#[]⟩).symm
theorem ba_nil (a : ByteArray) : a ++ (⟨#[]⟩ : ByteArray) = a := ba_ext (by simp)
set_option maxHeartbeats 4000000 in
theorem rjoin_any (p : Option Addr) (c : Nat) (L : List ByteArray) (w : World) (hE : Env ls w) (hS : SLAt w p L) (hG : GoodL L) (hz : ∀ s ∈ L, s.size ≤ 1000) (hL : L.length ≤ 100000000000) :
    Calls Tryz.prog 30 #[.slice p L.length c] w fun e w' => e = .returned (.string (joinS L)) ∧ w' = w := by
  obtain ⟨m, hm⟩ := hE.maxlen
  have HCT := Lib.hid (fun k (hk : k < L.length) => (show Calls Tryz.prog 60 #[.string ⟨#[44, 59, 46, 41]⟩, .string (sAt L k)] w fun e w' => e = .returned (.bool (prevB (sAt L k))) ∧ w = w' from by
    refine (Tryz.strings_Contains ⟨#[44, 59, 46, 41]⟩ (sAt L k) m w (by decide) hm).mono ?_
    rintro e w' ⟨rfl, rfl⟩
    have hg : GoodW (sAt L k) := by rw [sAt_get hk]; exact hG _ (List.getElem_mem _)
    exact ⟨ret_b (good_prev hg), rfl⟩))
  have HS := Lib.hid hS
  have HZ := Lib.hid (fun k (hk : k < L.length) => (show (sAt L k).size ≤ 1000 from by rw [sAt_get hk]; exact hz _ (List.getElem_mem _)))
  have HZJ := Lib.hid (fun k hk => (show (joinT L k).size ≤ k * 1001 from by
    show (joinN L k).toArray.size ≤ _
    rw [List.size_toArray]
    exact joinN_len hz k hk))
  have HR := Lib.hid (show joinS L = joinT L L.length from rfl)
  have HJ0 := Lib.hid (show joinT L 0 = ⟨#[]⟩ from rfl)
  have HJS := Lib.hid (joinT_succ L)
  clear hS hE hG hm hz
  generalize hn : L.length = n at *
  have HN := Lib.hid hn
  clear hn
  generalize hj : joinT L = J at *
  clear hj
  go_enter Tryz.func30, Tryz.ntmps30
  go_wp2_with fail
  go_loopw [3, 8] (fun t i v => ∃ k : Nat, k ≤ n ∧ i = .int .i64 k ∧ t = .string (J k) ∧ v = w) (fun _ i _ => n - (intOf i).toNat)
  case atStart => exact ⟨0, Nat.zero_le _, rfl, by rw [HJ0.out], rfl⟩
  case round =>
    obtain ⟨k, hk, rfl, rfl, rfl⟩ := hrel
    by_cases hlt : k < n
    · have hlt' : decide ((k : Int) < n) = true := decide_eq_true (by omega)
      have hkI : (k : Int) < n := by omega
      have hkL : k < L.length := by rw [HN.out]; exact hlt
      obtain ⟨g, o, rfl, hg, hck⟩ := HS.out k hkL
      have HCK := Lib.hid (HCT.out k hlt)
      have HJK := Lib.hid (HJS.out k)
      have hs1 := HZ.out k hlt
      have hs2 := HZJ.out k hk
      by_cases hk0 : k = 0
      · subst hk0
        rw [Nat.add_zero] at hck
        rw [if_pos rfl, ba_nil] at HJK
        generalize hsk : sAt L 0 = s at *
        generalize hA : J 0 = A at *
        have hb1 : A.size + s.size ≤ 9223372036854775807 := by omega
        have HA := Lib.hid hA
        clear hsk hs1 hs2 hA HCK
        go_wp2_with fail
        go_roundw
        case rel => exact ⟨1, by omega, by go_num, by rw [HJK.out], trivial⟩
        case measure => simp [intOf]; omega
      · have hd0 : decide ((0 : Int) < k) = true := decide_eq_true (by omega)
        have hw1 : IntKind.i64.wrap ((k : Int) - 1) = ((k - 1 : Nat) : Int) := by rw [IntKind.wrap_i64]; omega
        obtain ⟨g', o', hgg, hg', hcp⟩ := HS.out (k - 1) (by omega)
        have hgo : g = g' ∧ o = o' := by simpa using hgg
        obtain ⟨rfl, rfl⟩ := hgo
        have hk1I : ((k - 1 : Nat) : Int) < n := by omega
        rw [if_neg hk0] at HJK
        clear hgg hg'
        generalize hsp : sAt L (k - 1) = p at *
        generalize hsk : sAt L k = s at *
        generalize hA : J k = A at *
        have hb1 : A.size + s.size ≤ 9223372036854775807 := by omega
        have hb2 : A.size + 1 ≤ 9223372036854775807 := by omega
        have hb3 : A.size + 1 + s.size ≤ 9223372036854775807 := by omega
        have HA := Lib.hid hA
        clear hsp hsk hs1 hs2 hA
        have HQ1 := Lib.hid (show nextB p = (p.toList == [40] || p.toList == [46]) from rfl)
        go_wp2_with fail
        refine (HCK.out).mono ?_
        rintro e v ⟨rfl, rfl⟩
        cases hps : prevB s
        · rw [hps] at HJK
          by_cases h1 : p.toList = [40]
          · have e1 : (p.toList == [40]) = true := by simpa using h1
            have HN1 := Lib.hid (show nextB p = true by rw [HQ1.out, e1]; rfl)
            go_wp2_with fail
            go_roundw
            case rel => exact ⟨k + 1, by omega, by go_num, by rw [HJK.out, HN1.out, Bool.true_or, if_pos rfl, ba_nil], trivial⟩
            case measure => simp [intOf]; omega
          have e1 : (p.toList == [40]) = false := by simpa using h1
          by_cases h2 : p.toList = [46]
          · have e2 : (p.toList == [46]) = true := by simpa using h2
            have HN1 := Lib.hid (show nextB p = true by rw [HQ1.out, e2, Bool.or_true])
            go_wp2_with fail
            go_roundw
            case rel => exact ⟨k + 1, by omega, by go_num, by rw [HJK.out, HN1.out, Bool.true_or, if_pos rfl, ba_nil], trivial⟩
            case measure => simp [intOf]; omega
          have e2 : (p.toList == [46]) = false := by simpa using h2
          have HN1 := Lib.hid (show nextB p = false by rw [HQ1.out, e1, e2]; rfl)
          go_wp2_with fail
          go_roundw
          case rel => exact ⟨k + 1, by omega, by go_num, by rw [HJK.out, HN1.out, Bool.false_or, if_neg (by decide)], trivial⟩
          case measure => simp [intOf]; omega
        · rw [hps] at HJK
          go_wp2_with fail
          go_roundw
          case rel => exact ⟨k + 1, by omega, by go_num, by rw [HJK.out, Bool.or_true, if_pos rfl, ba_nil], trivial⟩
          case measure => simp [intOf]; omega
    · have hlt' : decide ((k : Int) < n) = false := decide_eq_false (by omega)
      obtain rfl : k = n := by omega
      go_wp2_with fail
      go_ret
      exact ⟨by rw [HR.out]; rfl, rfl⟩
end Go.Proofs.YtlpaphgmdcpmaaaGreatDoor
/-
  cat of the reference of layer 12: lists of texts, one behind the other.
-/
namespace Go.Proofs.YtlpaphgmdcpmaaaGreatDoor
set_option maxRecDepth 100000
open Go.RowKit
variable {ls : List Nat}

def catN (L : Nat → List ByteArray) : Nat → List ByteArray
  | 0 => []
  | k + 1 => catN L k ++ L k
theorem catN_le (L : Nat → List ByteArray) {n : Nat} : ∀ {k : Nat}, k ≤ n → (catN L k).length ≤ (catN L n).length := by
  induction n with
  | zero => intro k h; obtain rfl : k = 0 := by omega
            exact Nat.le_refl _
  | succ n ih =>
    intro k h
    by_cases hk : k = n + 1
    · subst hk; exact Nat.le_refl _
    · refine Nat.le_trans (ih (by omega)) ?_
      simp only [catN, List.length_append]
      omega
theorem sl_cells {w : World} {p : Option Addr} {L : List ByteArray} (h : SLAt w p L) : (∀ ad, p = some ad → ∀ j x, (wcells L)[j]? = some x → w.cell? (ad.add j) = some x) ∧ (p = none → wcells L = []) := by
  constructor
  · intro ad he j x hj
    have hj1 := (List.getElem?_eq_some_iff.1 hj).1
    rw [wcells_length] at hj1
    obtain ⟨g, o, hp, -, hc⟩ := h j hj1
    rw [he] at hp
    obtain rfl := Option.some.inj hp
    have hadd : (⟨g, o, none⟩ : Addr).add j = ⟨g, o + j, none⟩ := by unfold Addr.add; split <;> simp_all
    unfold wcells at hj
    rw [List.getElem?_map, List.getElem?_eq_getElem hj1] at hj
    rw [hadd, hc, sAt_get hj1]
    exact hj
  · intro hn
    cases L with
    | nil => rfl
    | cons s L =>
      obtain ⟨g, o, hp, -⟩ := h 0 (by simp)
      rw [hn] at hp; cases hp
theorem sl_own {u : World} {base : Nat} {v : Value} {L : List ByteArray} (h : u.ownsRow base 9 1 v L.length (wcells L)) : ∃ p c, v = .slice p L.length c ∧ SLAt u p L := by
  rcases h.2 with ⟨rfl, h0⟩ | ⟨g, cap, cur, rfl, hg, hh, hcap, hm, hcur, htake⟩
  · exact ⟨none, 0, by rw [h0], fun i hi => by omega⟩
  · refine ⟨_, cap, rfl, fun i hi => ⟨g, 0, rfl, (Array.getElem?_eq_some_iff.1 hh).1, ?_⟩⟩
    have hget : cur[i]? = (wcells L)[i]? := by
      rw [← htake, List.getElem?_take, if_pos (by omega)]; simp
    simp only [World.cell?, hh]
    rw [if_neg (by simp), Nat.zero_add, hget]
    unfold wcells
    rw [List.getElem?_map, List.getElem?_eq_getElem hi, sAt_get hi]; rfl
set_option maxHeartbeats 2000000 in
theorem rcat_any (g cP n : Nat) (pa : Nat → Option Addr) (ca : Nat → Nat) (L : Nat → List ByteArray) (w : World) (hg : g < w.heap.size) (hP : ∀ i, i < n → w.cell? ⟨g, i, none⟩ = some (.slice (pa i) (L i).length (ca i)) ∧ SLAt w (pa i) (L i)) (hn : n ≤ 100) (hz : (catN L n).length ≤ 1000000000000) :
    Calls Tryz.prog 63 #[.slice (some ⟨g, 0, none⟩) n cP] w fun e w' => ∃ p c, e = .returned (.slice p (catN L n).length c) ∧ SLAt w' p (catN L n) ∧ Below w.heap.size w w' := by
  obtain ⟨i0, hi0, hz0, hz1, hz2⟩ := info_parts info_text
  have HP := Lib.hid hP
  have HLE := Lib.hid (fun k (hk : k ≤ n) => catN_le L hk)
  have HNX := Lib.hid (fun k => show catN L (k + 1) = catN L k ++ L k from rfl)
  have H0 := Lib.hid (show catN L 0 = [] from rfl)
  clear hP
  generalize hcc : catN L = C at *
  clear hcc
  go_enter Tryz.func63, Tryz.ntmps63
  go_wp2_with fail
  go_loopw [3, 8] (fun t i v => ∃ k : Nat, k ≤ n ∧ i = .int .i64 k ∧ v.ownsRow w.heap.size 9 1 t (C k).length (wcells (C k)) ∧ Below w.heap.size w v) (fun _ i _ => n - (intOf i).toNat)
  case atStart => exact ⟨0, Nat.zero_le _, rfl, by rw [H0.out]; exact ⟨rfl, .inl ⟨rfl, rfl⟩⟩, Below.refl _ _⟩
  case round =>
    obtain ⟨k, hk, rfl, hown, hb⟩ := hrel
    have HB := Lib.hid hb
    have HO := Lib.hid hown
    obtain ⟨pt, ct, rfl⟩ := own_exW hown
    clear hown hb
    by_cases hlt : k < n
    · have hlt' : decide ((k : Int) < n) = true := decide_eq_true (by omega)
      have hkI : (k : Int) < n := by omega
      obtain ⟨hc, hs⟩ := HP.out k hlt
      have hc2 : wr.cell? ⟨g, k, none⟩ = some (.slice (pa k) (L k).length (ca k)) := by rw [HB.out.cell (by exact hg)]; exact hc
      have HSL := Lib.hid (sl_cells (SLAt.low hs (HB.out)))
      have hlen : (C (k + 1)).length = (C k).length + (L k).length := by rw [HNX.out, List.length_append]
      have hle := HLE.out (k + 1) hlt
      have HLN := Lib.hid hlen
      have hsz := HB.out.size
      have hcl : (wcells (L k)).length = (L k).length * 1 := by rw [wcells_length, Nat.mul_one]
      have HCL := Lib.hid hcl
      clear hc hs hcl
      generalize hl : (L k).length = m at *
      have HM := Lib.hid hl
      clear hl
      go_wp2_with (at_builtin; refine wpList_append_any rfl (.tmp 12) (.tmp 13) 47 9 rfl w.heap.size i0 _ 1 16 Tryz.underlying47 hi0 hz0 hz1 hz2 rfl (by decide) (.slice pt (C k).length ct) (C k).length (wcells (C k)) (by rfl) HO.out (pa k) m (ca k) (wcells (L k)) (by rfl) HCL.out HSL.out.1 HSL.out.2 (wcells_one _) (by unfold maxLen; omega) (by omega) hsz ?_; intro v2 w2 hown2 hg2; (have HO2 := Lib.hid hown2); (have HG2 := Lib.hid hg2); clear hown2 hg2)
      go_roundw
      case rel => exact ⟨k + 1, by omega, by go_num, by rw [HNX.out, List.length_append, wcells_append, HM.out]; exact HO2.out, HB.out.grown HG2.out hsz (fun j hj => owns_block HO.out j hj)⟩
      case measure => simp [intOf]; omega
    · have hlt' : decide ((k : Int) < n) = false := decide_eq_false (by omega)
      obtain rfl : k = n := by omega
      obtain ⟨p, c, he, hsl⟩ := sl_own HO.out
      have HE := Lib.hid he
      have HSL := Lib.hid hsl
      clear he hsl
      go_wp2_with fail
      go_ret
      exact ⟨p, c, by rw [HE.out]; rfl, HSL.out, HB.out⟩
end Go.Proofs.YtlpaphgmdcpmaaaGreatDoor
/-
  Precedence, Least, Wrapped, plain, source of reference 11.
-/
namespace Go.Proofs.YtlpaphgmdcpmaaaGreatDoor
set_option maxRecDepth 100000
open Go.RowKit
variable {ls : List Nat}

set_option maxHeartbeats 1000000 in
theorem rprec_o1 (vk vi : Int) (no : Bool) (vt tb nm : ByteArray) (p q : Option Addr) (n c n' c' : Nat) (w : World) :
    Calls Tryz.prog 90 #[.agg #[.int .i64 5, .int .i64 1, .bool no, .int .i64 vk, .int .i64 vi, .string vt, .string tb, .string nm, .slice p n c, .slice q n' c']] w fun r w' => r = .returned (.int .i64 1) ∧ Below w.heap.size w w' := by
  go_enter Tryz.func90, Tryz.ntmps90
  go_wp2
  go_ret
  exact ⟨rfl, below_alloc _ _⟩
set_option maxHeartbeats 1000000 in
theorem rprec_o2 (vk vi : Int) (no : Bool) (vt tb nm : ByteArray) (p q : Option Addr) (n c n' c' : Nat) (w : World) :
    Calls Tryz.prog 90 #[.agg #[.int .i64 5, .int .i64 2, .bool no, .int .i64 vk, .int .i64 vi, .string vt, .string tb, .string nm, .slice p n c, .slice q n' c']] w fun r w' => r = .returned (.int .i64 2) ∧ Below w.heap.size w w' := by
  go_enter Tryz.func90, Tryz.ntmps90
  go_wp2
  go_ret
  exact ⟨rfl, below_alloc _ _⟩
set_option maxHeartbeats 1000000 in
theorem rprec_o3 (vk vi : Int) (no : Bool) (vt tb nm : ByteArray) (p q : Option Addr) (n c n' c' : Nat) (w : World) :
    Calls Tryz.prog 90 #[.agg #[.int .i64 5, .int .i64 3, .bool no, .int .i64 vk, .int .i64 vi, .string vt, .string tb, .string nm, .slice p n c, .slice q n' c']] w fun r w' => r = .returned (.int .i64 4) ∧ Below w.heap.size w w' := by
  go_enter Tryz.func90, Tryz.ntmps90
  go_wp2
  go_ret
  exact ⟨rfl, below_alloc _ _⟩
set_option maxHeartbeats 1000000 in
theorem rprec_o4 (vk vi : Int) (no : Bool) (vt tb nm : ByteArray) (p q : Option Addr) (n c n' c' : Nat) (w : World) :
    Calls Tryz.prog 90 #[.agg #[.int .i64 5, .int .i64 4, .bool no, .int .i64 vk, .int .i64 vi, .string vt, .string tb, .string nm, .slice p n c, .slice q n' c']] w fun r w' => r = .returned (.int .i64 4) ∧ Below w.heap.size w w' := by
  go_enter Tryz.func90, Tryz.ntmps90
  go_wp2
  go_ret
  exact ⟨rfl, below_alloc _ _⟩
set_option maxHeartbeats 1000000 in
theorem rprec_o5 (vk vi : Int) (no : Bool) (vt tb nm : ByteArray) (p q : Option Addr) (n c n' c' : Nat) (w : World) :
    Calls Tryz.prog 90 #[.agg #[.int .i64 5, .int .i64 5, .bool no, .int .i64 vk, .int .i64 vi, .string vt, .string tb, .string nm, .slice p n c, .slice q n' c']] w fun r w' => r = .returned (.int .i64 4) ∧ Below w.heap.size w w' := by
  go_enter Tryz.func90, Tryz.ntmps90
  go_wp2
  go_ret
  exact ⟨rfl, below_alloc _ _⟩
set_option maxHeartbeats 1000000 in
theorem rprec_o6 (vk vi : Int) (no : Bool) (vt tb nm : ByteArray) (p q : Option Addr) (n c n' c' : Nat) (w : World) :
    Calls Tryz.prog 90 #[.agg #[.int .i64 5, .int .i64 6, .bool no, .int .i64 vk, .int .i64 vi, .string vt, .string tb, .string nm, .slice p n c, .slice q n' c']] w fun r w' => r = .returned (.int .i64 4) ∧ Below w.heap.size w w' := by
  go_enter Tryz.func90, Tryz.ntmps90
  go_wp2
  go_ret
  exact ⟨rfl, below_alloc _ _⟩
set_option maxHeartbeats 1000000 in
theorem rprec_o7 (vk vi : Int) (no : Bool) (vt tb nm : ByteArray) (p q : Option Addr) (n c n' c' : Nat) (w : World) :
    Calls Tryz.prog 90 #[.agg #[.int .i64 5, .int .i64 7, .bool no, .int .i64 vk, .int .i64 vi, .string vt, .string tb, .string nm, .slice p n c, .slice q n' c']] w fun r w' => r = .returned (.int .i64 4) ∧ Below w.heap.size w w' := by
  go_enter Tryz.func90, Tryz.ntmps90
  go_wp2
  go_ret
  exact ⟨rfl, below_alloc _ _⟩
set_option maxHeartbeats 1000000 in
theorem rprec_o8 (vk vi : Int) (no : Bool) (vt tb nm : ByteArray) (p q : Option Addr) (n c n' c' : Nat) (w : World) :
    Calls Tryz.prog 90 #[.agg #[.int .i64 5, .int .i64 8, .bool no, .int .i64 vk, .int .i64 vi, .string vt, .string tb, .string nm, .slice p n c, .slice q n' c']] w fun r w' => r = .returned (.int .i64 4) ∧ Below w.heap.size w w' := by
  go_enter Tryz.func90, Tryz.ntmps90
  go_wp2
  go_ret
  exact ⟨rfl, below_alloc _ _⟩
set_option maxHeartbeats 1000000 in
theorem rprec_o9 (vk vi : Int) (no : Bool) (vt tb nm : ByteArray) (p q : Option Addr) (n c n' c' : Nat) (w : World) :
    Calls Tryz.prog 90 #[.agg #[.int .i64 5, .int .i64 9, .bool no, .int .i64 vk, .int .i64 vi, .string vt, .string tb, .string nm, .slice p n c, .slice q n' c']] w fun r w' => r = .returned (.int .i64 5) ∧ Below w.heap.size w w' := by
  go_enter Tryz.func90, Tryz.ntmps90
  go_wp2
  go_ret
  exact ⟨rfl, below_alloc _ _⟩
set_option maxHeartbeats 1000000 in
theorem rprec_o10 (vk vi : Int) (no : Bool) (vt tb nm : ByteArray) (p q : Option Addr) (n c n' c' : Nat) (w : World) :
    Calls Tryz.prog 90 #[.agg #[.int .i64 5, .int .i64 10, .bool no, .int .i64 vk, .int .i64 vi, .string vt, .string tb, .string nm, .slice p n c, .slice q n' c']] w fun r w' => r = .returned (.int .i64 5) ∧ Below w.heap.size w w' := by
  go_enter Tryz.func90, Tryz.ntmps90
  go_wp2
  go_ret
  exact ⟨rfl, below_alloc _ _⟩
set_option maxHeartbeats 1000000 in
theorem rprec_o11 (vk vi : Int) (no : Bool) (vt tb nm : ByteArray) (p q : Option Addr) (n c n' c' : Nat) (w : World) :
    Calls Tryz.prog 90 #[.agg #[.int .i64 5, .int .i64 11, .bool no, .int .i64 vk, .int .i64 vi, .string vt, .string tb, .string nm, .slice p n c, .slice q n' c']] w fun r w' => r = .returned (.int .i64 6) ∧ Below w.heap.size w w' := by
  go_enter Tryz.func90, Tryz.ntmps90
  go_wp2
  go_ret
  exact ⟨rfl, below_alloc _ _⟩
set_option maxHeartbeats 1000000 in
theorem rprec_o12 (vk vi : Int) (no : Bool) (vt tb nm : ByteArray) (p q : Option Addr) (n c n' c' : Nat) (w : World) :
    Calls Tryz.prog 90 #[.agg #[.int .i64 5, .int .i64 12, .bool no, .int .i64 vk, .int .i64 vi, .string vt, .string tb, .string nm, .slice p n c, .slice q n' c']] w fun r w' => r = .returned (.int .i64 6) ∧ Below w.heap.size w w' := by
  go_enter Tryz.func90, Tryz.ntmps90
  go_wp2
  go_ret
  exact ⟨rfl, below_alloc _ _⟩
set_option maxHeartbeats 1000000 in
theorem rprec_o13 (vk vi : Int) (no : Bool) (vt tb nm : ByteArray) (p q : Option Addr) (n c n' c' : Nat) (w : World) :
    Calls Tryz.prog 90 #[.agg #[.int .i64 5, .int .i64 13, .bool no, .int .i64 vk, .int .i64 vi, .string vt, .string tb, .string nm, .slice p n c, .slice q n' c']] w fun r w' => r = .returned (.int .i64 6) ∧ Below w.heap.size w w' := by
  go_enter Tryz.func90, Tryz.ntmps90
  go_wp2
  go_ret
  exact ⟨rfl, below_alloc _ _⟩
set_option maxHeartbeats 1000000 in
theorem rprec_k3 (op : Int) (vk vi : Int) (no : Bool) (vt tb nm : ByteArray) (p q : Option Addr) (n c n' c' : Nat) (w : World) :
    Calls Tryz.prog 90 #[.agg #[.int .i64 3, .int .i64 op, .bool no, .int .i64 vk, .int .i64 vi, .string vt, .string tb, .string nm, .slice p n c, .slice q n' c']] w fun r w' => r = .returned (.int .i64 3) ∧ Below w.heap.size w w' := by
  go_enter Tryz.func90, Tryz.ntmps90
  go_wp2
  go_ret
  exact ⟨rfl, below_alloc _ _⟩
set_option maxHeartbeats 1000000 in
theorem rprec_k4 (op : Int) (vk vi : Int) (no : Bool) (vt tb nm : ByteArray) (p q : Option Addr) (n c n' c' : Nat) (w : World) :
    Calls Tryz.prog 90 #[.agg #[.int .i64 4, .int .i64 op, .bool no, .int .i64 vk, .int .i64 vi, .string vt, .string tb, .string nm, .slice p n c, .slice q n' c']] w fun r w' => r = .returned (.int .i64 7) ∧ Below w.heap.size w w' := by
  go_enter Tryz.func90, Tryz.ntmps90
  go_wp2
  go_ret
  exact ⟨rfl, below_alloc _ _⟩
set_option maxHeartbeats 1000000 in
theorem rprec_k6 (op : Int) (vk vi : Int) (no : Bool) (vt tb nm : ByteArray) (p q : Option Addr) (n c n' c' : Nat) (w : World) :
    Calls Tryz.prog 90 #[.agg #[.int .i64 6, .int .i64 op, .bool no, .int .i64 vk, .int .i64 vi, .string vt, .string tb, .string nm, .slice p n c, .slice q n' c']] w fun r w' => r = .returned (.int .i64 4) ∧ Below w.heap.size w w' := by
  go_enter Tryz.func90, Tryz.ntmps90
  go_wp2
  go_ret
  exact ⟨rfl, below_alloc _ _⟩
set_option maxHeartbeats 1000000 in
theorem rprec_k7 (op : Int) (vk vi : Int) (no : Bool) (vt tb nm : ByteArray) (p q : Option Addr) (n c n' c' : Nat) (w : World) :
    Calls Tryz.prog 90 #[.agg #[.int .i64 7, .int .i64 op, .bool no, .int .i64 vk, .int .i64 vi, .string vt, .string tb, .string nm, .slice p n c, .slice q n' c']] w fun r w' => r = .returned (.int .i64 4) ∧ Below w.heap.size w w' := by
  go_enter Tryz.func90, Tryz.ntmps90
  go_wp2
  go_ret
  exact ⟨rfl, below_alloc _ _⟩
set_option maxHeartbeats 1000000 in
theorem rprec_lo (op : Int) (h : op < 1) (vk vi : Int) (no : Bool) (vt tb nm : ByteArray) (p q : Option Addr) (n c n' c' : Nat) (w : World) :
    Calls Tryz.prog 90 #[.agg #[.int .i64 5, .int .i64 op, .bool no, .int .i64 vk, .int .i64 vi, .string vt, .string tb, .string nm, .slice p n c, .slice q n' c']] w fun r w' => r = .returned (.int .i64 8) ∧ Below w.heap.size w w' := by
  have a1 : (op == 1) = false := beq_eq_false_iff_ne.2 (by omega)
  have a2 : (op == 2) = false := beq_eq_false_iff_ne.2 (by omega)
  have a9 : (op == 9) = false := beq_eq_false_iff_ne.2 (by omega)
  have a10 : (op == 10) = false := beq_eq_false_iff_ne.2 (by omega)
  have b3 : decide (3 ≤ op) = false := decide_eq_false (by omega)
  have b11 : decide (11 ≤ op) = false := decide_eq_false (by omega)
  clear h
  go_enter Tryz.func90, Tryz.ntmps90
  go_wp2
  go_ret
  exact ⟨rfl, below_alloc _ _⟩
set_option maxHeartbeats 1000000 in
theorem rprec_hi (op : Int) (h : 13 < op) (vk vi : Int) (no : Bool) (vt tb nm : ByteArray) (p q : Option Addr) (n c n' c' : Nat) (w : World) :
    Calls Tryz.prog 90 #[.agg #[.int .i64 5, .int .i64 op, .bool no, .int .i64 vk, .int .i64 vi, .string vt, .string tb, .string nm, .slice p n c, .slice q n' c']] w fun r w' => r = .returned (.int .i64 8) ∧ Below w.heap.size w w' := by
  have a1 : (op == 1) = false := beq_eq_false_iff_ne.2 (by omega)
  have a2 : (op == 2) = false := beq_eq_false_iff_ne.2 (by omega)
  have a9 : (op == 9) = false := beq_eq_false_iff_ne.2 (by omega)
  have a10 : (op == 10) = false := beq_eq_false_iff_ne.2 (by omega)
  have b3 : decide (3 ≤ op) = true := decide_eq_true (by omega)
  have b8 : decide (op ≤ 8) = false := decide_eq_false (by omega)
  have b11 : decide (11 ≤ op) = true := decide_eq_true (by omega)
  have b13 : decide (op ≤ 13) = false := decide_eq_false (by omega)
  clear h
  go_enter Tryz.func90, Tryz.ntmps90
  go_wp2
  go_ret
  exact ⟨rfl, below_alloc _ _⟩
set_option maxHeartbeats 1000000 in
theorem rprec_other (k op : Int) (h3 : k ≠ 3) (h4 : k ≠ 4) (h5 : k ≠ 5) (h6 : k ≠ 6) (h7 : k ≠ 7) (vk vi : Int) (no : Bool) (vt tb nm : ByteArray) (p q : Option Addr) (n c n' c' : Nat) (w : World) :
    Calls Tryz.prog 90 #[.agg #[.int .i64 k, .int .i64 op, .bool no, .int .i64 vk, .int .i64 vi, .string vt, .string tb, .string nm, .slice p n c, .slice q n' c']] w fun r w' => r = .returned (.int .i64 8) ∧ Below w.heap.size w w' := by
  have e3 : (k == 3) = false := beq_eq_false_iff_ne.2 h3
  have e4 : (k == 4) = false := beq_eq_false_iff_ne.2 h4
  have e5 : (k == 5) = false := beq_eq_false_iff_ne.2 h5
  have e6 : (k == 6) = false := beq_eq_false_iff_ne.2 h6
  have e7 : (k == 7) = false := beq_eq_false_iff_ne.2 h7
  clear h3 h4 h5 h6 h7
  go_enter Tryz.func90, Tryz.ntmps90
  go_wp2
  go_ret
  exact ⟨rfl, below_alloc _ _⟩
theorem prec_bad {op : Int} (h : op < 1 ∨ 13 < op) : prec 5 op = 8 := by
  simp only [prec]
  repeat' split
  all_goals omega
theorem rprec_any (k op : Int) (vk vi : Int) (no : Bool) (vt tb nm : ByteArray) (p q : Option Addr) (n c n' c' : Nat) (w : World) :
    Calls Tryz.prog 90 #[.agg #[.int .i64 k, .int .i64 op, .bool no, .int .i64 vk, .int .i64 vi, .string vt, .string tb, .string nm, .slice p n c, .slice q n' c']] w fun r w' => r = .returned (.int .i64 (prec k op)) ∧ Below w.heap.size w w' := by
  by_cases h3 : k = 3
  · subst h3; exact rprec_k3 op vk vi no vt tb nm p q n c n' c' w
  by_cases h4 : k = 4
  · subst h4; exact rprec_k4 op vk vi no vt tb nm p q n c n' c' w
  by_cases h6 : k = 6
  · subst h6; exact rprec_k6 op vk vi no vt tb nm p q n c n' c' w
  by_cases h7 : k = 7
  · subst h7; exact rprec_k7 op vk vi no vt tb nm p q n c n' c' w
  by_cases h5 : k = 5
  · subst h5
    by_cases hl : op < 1
    · rw [prec_bad (Or.inl hl)]
      exact rprec_lo op hl vk vi no vt tb nm p q n c n' c' w
    by_cases hh : 13 < op
    · rw [prec_bad (Or.inr hh)]
      exact rprec_hi op hh vk vi no vt tb nm p q n c n' c' w
    have ho : op = 1 ∨ op = 2 ∨ op = 3 ∨ op = 4 ∨ op = 5 ∨ op = 6 ∨ op = 7 ∨ op = 8 ∨ op = 9 ∨ op = 10 ∨ op = 11 ∨ op = 12 ∨ op = 13 := by omega
    rcases ho with rfl | rfl | rfl | rfl | rfl | rfl | rfl | rfl | rfl | rfl | rfl | rfl | rfl
    · exact rprec_o1 vk vi no vt tb nm p q n c n' c' w
    · exact rprec_o2 vk vi no vt tb nm p q n c n' c' w
    · exact rprec_o3 vk vi no vt tb nm p q n c n' c' w
    · exact rprec_o4 vk vi no vt tb nm p q n c n' c' w
    · exact rprec_o5 vk vi no vt tb nm p q n c n' c' w
    · exact rprec_o6 vk vi no vt tb nm p q n c n' c' w
    · exact rprec_o7 vk vi no vt tb nm p q n c n' c' w
    · exact rprec_o8 vk vi no vt tb nm p q n c n' c' w
    · exact rprec_o9 vk vi no vt tb nm p q n c n' c' w
    · exact rprec_o10 vk vi no vt tb nm p q n c n' c' w
    · exact rprec_o11 vk vi no vt tb nm p q n c n' c' w
    · exact rprec_o12 vk vi no vt tb nm p q n c n' c' w
    · exact rprec_o13 vk vi no vt tb nm p q n c n' c' w
  rw [show prec k op = 8 by simp [prec, h3, h4, h5, h6, h7]]
  exact rprec_other k op h3 h4 h5 h6 h7 vk vi no vt tb nm p q n c n' c' w
theorem rprec (e : Ex) (w : World) : Calls Tryz.prog 90 #[exV e] w fun r w' => r = .returned (.int .i64 (prec e.k e.op)) ∧ Below w.heap.size w w' := rprec_any _ _ _ _ _ _ _ _ _ _ _ _ _ _ w
set_option maxHeartbeats 1000000 in
theorem rleast_k3 (op : Int) (vk vi : Int) (no : Bool) (vt tb nm : ByteArray) (p q : Option Addr) (n c n' c' : Nat) (i : Nat) (w : World) :
    Calls Tryz.prog 91 #[.agg #[.int .i64 3, .int .i64 op, .bool no, .int .i64 vk, .int .i64 vi, .string vt, .string tb, .string nm, .slice p n c, .slice q n' c'], .int .i64 i] w fun r w' => r = .returned (.int .i64 3) ∧ Below w.heap.size w w' := by
  go_enter Tryz.func91, Tryz.ntmps91
  go_wp2
  go_ret
  exact ⟨rfl, below_alloc _ _⟩
set_option maxHeartbeats 1000000 in
theorem rleast_k4 (op : Int) (vk vi : Int) (no : Bool) (vt tb nm : ByteArray) (p q : Option Addr) (n c n' c' : Nat) (i : Nat) (w : World) :
    Calls Tryz.prog 91 #[.agg #[.int .i64 4, .int .i64 op, .bool no, .int .i64 vk, .int .i64 vi, .string vt, .string tb, .string nm, .slice p n c, .slice q n' c'], .int .i64 i] w fun r w' => r = .returned (.int .i64 7) ∧ Below w.heap.size w w' := by
  go_enter Tryz.func91, Tryz.ntmps91
  go_wp2
  go_ret
  exact ⟨rfl, below_alloc _ _⟩
set_option maxHeartbeats 1000000 in
theorem rleast_k6 (op : Int) (vk vi : Int) (no : Bool) (vt tb nm : ByteArray) (p q : Option Addr) (n c n' c' : Nat) (i : Nat) (w : World) :
    Calls Tryz.prog 91 #[.agg #[.int .i64 6, .int .i64 op, .bool no, .int .i64 vk, .int .i64 vi, .string vt, .string tb, .string nm, .slice p n c, .slice q n' c'], .int .i64 i] w fun r w' => r = .returned (.int .i64 5) ∧ Below w.heap.size w w' := by
  go_enter Tryz.func91, Tryz.ntmps91
  go_wp2
  go_ret
  exact ⟨rfl, below_alloc _ _⟩
set_option maxHeartbeats 1000000 in
theorem rleast_k7 (op : Int) (vk vi : Int) (no : Bool) (vt tb nm : ByteArray) (p q : Option Addr) (n c n' c' : Nat) (i : Nat) (w : World) :
    Calls Tryz.prog 91 #[.agg #[.int .i64 7, .int .i64 op, .bool no, .int .i64 vk, .int .i64 vi, .string vt, .string tb, .string nm, .slice p n c, .slice q n' c'], .int .i64 i] w fun r w' => r = .returned (.int .i64 5) ∧ Below w.heap.size w w' := by
  go_enter Tryz.func91, Tryz.ntmps91
  go_wp2
  go_ret
  exact ⟨rfl, below_alloc _ _⟩
set_option maxHeartbeats 1000000 in
theorem rleast_other (k op : Int) (h3 : k ≠ 3) (h4 : k ≠ 4) (h5 : k ≠ 5) (h6 : k ≠ 6) (h7 : k ≠ 7) (vk vi : Int) (no : Bool) (vt tb nm : ByteArray) (p q : Option Addr) (n c n' c' : Nat) (i : Nat) (w : World) :
    Calls Tryz.prog 91 #[.agg #[.int .i64 k, .int .i64 op, .bool no, .int .i64 vk, .int .i64 vi, .string vt, .string tb, .string nm, .slice p n c, .slice q n' c'], .int .i64 i] w fun r w' => r = .returned (.int .i64 1) ∧ Below w.heap.size w w' := by
  have e3 : (k == 3) = false := beq_eq_false_iff_ne.2 h3
  have e4 : (k == 4) = false := beq_eq_false_iff_ne.2 h4
  have e5 : (k == 5) = false := beq_eq_false_iff_ne.2 h5
  have e6 : (k == 6) = false := beq_eq_false_iff_ne.2 h6
  have e7 : (k == 7) = false := beq_eq_false_iff_ne.2 h7
  clear h3 h4 h5 h6 h7
  go_enter Tryz.func91, Tryz.ntmps91
  go_wp2
  go_ret
  exact ⟨rfl, below_alloc _ _⟩
set_option maxHeartbeats 1000000 in
theorem rleast_p1_0 (op : Int) (hp : prec 5 op = 1) (vk vi : Int) (no : Bool) (vt tb nm : ByteArray) (p q : Option Addr) (n c n' c' : Nat) (w : World) :
    Calls Tryz.prog 91 #[.agg #[.int .i64 5, .int .i64 op, .bool no, .int .i64 vk, .int .i64 vi, .string vt, .string tb, .string nm, .slice p n c, .slice q n' c'], .int .i64 0] w fun r w' => r = .returned (.int .i64 1) ∧ Below w.heap.size w w' := by
  have HP := Lib.hid (fun u => rprec_any 5 op vk vi no vt tb nm p q n c n' c' u)
  have HQ := Lib.hid hp
  clear hp
  go_enter Tryz.func91, Tryz.ntmps91
  go_wp2_with fail
  refine (HP.out _).mono ?_
  rintro e w' ⟨rfl, hb⟩
  have HB := Lib.hid (Below.of_alloc hb)
  clear hb
  rw [HQ.out]
  clear HP HQ
  go_wp2
  go_ret
  exact ⟨rfl, HB.out⟩
set_option maxHeartbeats 1000000 in
theorem rleast_p1_1 (op : Int) (hp : prec 5 op = 1) (vk vi : Int) (no : Bool) (vt tb nm : ByteArray) (p q : Option Addr) (n c n' c' : Nat) (w : World) :
    Calls Tryz.prog 91 #[.agg #[.int .i64 5, .int .i64 op, .bool no, .int .i64 vk, .int .i64 vi, .string vt, .string tb, .string nm, .slice p n c, .slice q n' c'], .int .i64 1] w fun r w' => r = .returned (.int .i64 2) ∧ Below w.heap.size w w' := by
  have HP := Lib.hid (fun u => rprec_any 5 op vk vi no vt tb nm p q n c n' c' u)
  have HQ := Lib.hid hp
  clear hp
  go_enter Tryz.func91, Tryz.ntmps91
  go_wp2_with fail
  refine (HP.out _).mono ?_
  rintro e w' ⟨rfl, hb⟩
  have HB := Lib.hid (Below.of_alloc hb)
  clear hb
  rw [HQ.out]
  clear HP HQ
  go_wp2
  go_ret
  exact ⟨rfl, HB.out⟩
set_option maxHeartbeats 1000000 in
theorem rleast_p1_2 (op : Int) (hp : prec 5 op = 1) (vk vi : Int) (no : Bool) (vt tb nm : ByteArray) (p q : Option Addr) (n c n' c' : Nat) (w : World) :
    Calls Tryz.prog 91 #[.agg #[.int .i64 5, .int .i64 op, .bool no, .int .i64 vk, .int .i64 vi, .string vt, .string tb, .string nm, .slice p n c, .slice q n' c'], .int .i64 2] w fun r w' => r = .returned (.int .i64 3) ∧ Below w.heap.size w w' := by
  have HP := Lib.hid (fun u => rprec_any 5 op vk vi no vt tb nm p q n c n' c' u)
  have HQ := Lib.hid hp
  clear hp
  go_enter Tryz.func91, Tryz.ntmps91
  go_wp2_with fail
  refine (HP.out _).mono ?_
  rintro e w' ⟨rfl, hb⟩
  have HB := Lib.hid (Below.of_alloc hb)
  clear hb
  rw [HQ.out]
  clear HP HQ
  go_wp2
  go_ret
  exact ⟨rfl, HB.out⟩
set_option maxHeartbeats 1000000 in
theorem rleast_p2_0 (op : Int) (hp : prec 5 op = 2) (vk vi : Int) (no : Bool) (vt tb nm : ByteArray) (p q : Option Addr) (n c n' c' : Nat) (w : World) :
    Calls Tryz.prog 91 #[.agg #[.int .i64 5, .int .i64 op, .bool no, .int .i64 vk, .int .i64 vi, .string vt, .string tb, .string nm, .slice p n c, .slice q n' c'], .int .i64 0] w fun r w' => r = .returned (.int .i64 2) ∧ Below w.heap.size w w' := by
  have HP := Lib.hid (fun u => rprec_any 5 op vk vi no vt tb nm p q n c n' c' u)
  have HQ := Lib.hid hp
  clear hp
  go_enter Tryz.func91, Tryz.ntmps91
  go_wp2_with fail
  refine (HP.out _).mono ?_
  rintro e w' ⟨rfl, hb⟩
  have HB := Lib.hid (Below.of_alloc hb)
  clear hb
  rw [HQ.out]
  clear HP HQ
  go_wp2
  go_ret
  exact ⟨rfl, HB.out⟩
set_option maxHeartbeats 1000000 in
theorem rleast_p2_1 (op : Int) (hp : prec 5 op = 2) (vk vi : Int) (no : Bool) (vt tb nm : ByteArray) (p q : Option Addr) (n c n' c' : Nat) (w : World) :
    Calls Tryz.prog 91 #[.agg #[.int .i64 5, .int .i64 op, .bool no, .int .i64 vk, .int .i64 vi, .string vt, .string tb, .string nm, .slice p n c, .slice q n' c'], .int .i64 1] w fun r w' => r = .returned (.int .i64 3) ∧ Below w.heap.size w w' := by
  have HP := Lib.hid (fun u => rprec_any 5 op vk vi no vt tb nm p q n c n' c' u)
  have HQ := Lib.hid hp
  clear hp
  go_enter Tryz.func91, Tryz.ntmps91
  go_wp2_with fail
  refine (HP.out _).mono ?_
  rintro e w' ⟨rfl, hb⟩
  have HB := Lib.hid (Below.of_alloc hb)
  clear hb
  rw [HQ.out]
  clear HP HQ
  go_wp2
  go_ret
  exact ⟨rfl, HB.out⟩
set_option maxHeartbeats 1000000 in
theorem rleast_p2_2 (op : Int) (hp : prec 5 op = 2) (vk vi : Int) (no : Bool) (vt tb nm : ByteArray) (p q : Option Addr) (n c n' c' : Nat) (w : World) :
    Calls Tryz.prog 91 #[.agg #[.int .i64 5, .int .i64 op, .bool no, .int .i64 vk, .int .i64 vi, .string vt, .string tb, .string nm, .slice p n c, .slice q n' c'], .int .i64 2] w fun r w' => r = .returned (.int .i64 4) ∧ Below w.heap.size w w' := by
  have HP := Lib.hid (fun u => rprec_any 5 op vk vi no vt tb nm p q n c n' c' u)
  have HQ := Lib.hid hp
  clear hp
  go_enter Tryz.func91, Tryz.ntmps91
  go_wp2_with fail
  refine (HP.out _).mono ?_
  rintro e w' ⟨rfl, hb⟩
  have HB := Lib.hid (Below.of_alloc hb)
  clear hb
  rw [HQ.out]
  clear HP HQ
  go_wp2
  go_ret
  exact ⟨rfl, HB.out⟩
set_option maxHeartbeats 1000000 in
theorem rleast_p4 (op : Int) (hp : prec 5 op = 4) (vk vi : Int) (no : Bool) (vt tb nm : ByteArray) (p q : Option Addr) (n c n' c' : Nat) (i : Nat) (w : World) :
    Calls Tryz.prog 91 #[.agg #[.int .i64 5, .int .i64 op, .bool no, .int .i64 vk, .int .i64 vi, .string vt, .string tb, .string nm, .slice p n c, .slice q n' c'], .int .i64 i] w fun r w' => r = .returned (.int .i64 5) ∧ Below w.heap.size w w' := by
  have HP := Lib.hid (fun u => rprec_any 5 op vk vi no vt tb nm p q n c n' c' u)
  have HQ := Lib.hid hp
  clear hp
  go_enter Tryz.func91, Tryz.ntmps91
  go_wp2_with fail
  refine (HP.out _).mono ?_
  rintro e w' ⟨rfl, hb⟩
  have HB := Lib.hid (Below.of_alloc hb)
  clear hb
  rw [HQ.out]
  clear HP HQ
  go_wp2
  go_ret
  exact ⟨rfl, HB.out⟩
set_option maxHeartbeats 1000000 in
theorem rleast_p5_0 (op : Int) (hp : prec 5 op = 5) (vk vi : Int) (no : Bool) (vt tb nm : ByteArray) (p q : Option Addr) (n c n' c' : Nat) (w : World) :
    Calls Tryz.prog 91 #[.agg #[.int .i64 5, .int .i64 op, .bool no, .int .i64 vk, .int .i64 vi, .string vt, .string tb, .string nm, .slice p n c, .slice q n' c'], .int .i64 0] w fun r w' => r = .returned (.int .i64 5) ∧ Below w.heap.size w w' := by
  have HP := Lib.hid (fun u => rprec_any 5 op vk vi no vt tb nm p q n c n' c' u)
  have HQ := Lib.hid hp
  clear hp
  go_enter Tryz.func91, Tryz.ntmps91
  go_wp2_with fail
  refine (HP.out _).mono ?_
  rintro e w' ⟨rfl, hb⟩
  have HB := Lib.hid (Below.of_alloc hb)
  clear hb
  rw [HQ.out]
  clear HP HQ
  go_wp2
  go_ret
  exact ⟨rfl, HB.out⟩
set_option maxHeartbeats 1000000 in
theorem rleast_p5_1 (op : Int) (hp : prec 5 op = 5) (vk vi : Int) (no : Bool) (vt tb nm : ByteArray) (p q : Option Addr) (n c n' c' : Nat) (w : World) :
    Calls Tryz.prog 91 #[.agg #[.int .i64 5, .int .i64 op, .bool no, .int .i64 vk, .int .i64 vi, .string vt, .string tb, .string nm, .slice p n c, .slice q n' c'], .int .i64 1] w fun r w' => r = .returned (.int .i64 6) ∧ Below w.heap.size w w' := by
  have HP := Lib.hid (fun u => rprec_any 5 op vk vi no vt tb nm p q n c n' c' u)
  have HQ := Lib.hid hp
  clear hp
  go_enter Tryz.func91, Tryz.ntmps91
  go_wp2_with fail
  refine (HP.out _).mono ?_
  rintro e w' ⟨rfl, hb⟩
  have HB := Lib.hid (Below.of_alloc hb)
  clear hb
  rw [HQ.out]
  clear HP HQ
  go_wp2
  go_ret
  exact ⟨rfl, HB.out⟩
set_option maxHeartbeats 1000000 in
theorem rleast_p5_2 (op : Int) (hp : prec 5 op = 5) (vk vi : Int) (no : Bool) (vt tb nm : ByteArray) (p q : Option Addr) (n c n' c' : Nat) (w : World) :
    Calls Tryz.prog 91 #[.agg #[.int .i64 5, .int .i64 op, .bool no, .int .i64 vk, .int .i64 vi, .string vt, .string tb, .string nm, .slice p n c, .slice q n' c'], .int .i64 2] w fun r w' => r = .returned (.int .i64 7) ∧ Below w.heap.size w w' := by
  have HP := Lib.hid (fun u => rprec_any 5 op vk vi no vt tb nm p q n c n' c' u)
  have HQ := Lib.hid hp
  clear hp
  go_enter Tryz.func91, Tryz.ntmps91
  go_wp2_with fail
  refine (HP.out _).mono ?_
  rintro e w' ⟨rfl, hb⟩
  have HB := Lib.hid (Below.of_alloc hb)
  clear hb
  rw [HQ.out]
  clear HP HQ
  go_wp2
  go_ret
  exact ⟨rfl, HB.out⟩
set_option maxHeartbeats 1000000 in
theorem rleast_p6_0 (op : Int) (hp : prec 5 op = 6) (vk vi : Int) (no : Bool) (vt tb nm : ByteArray) (p q : Option Addr) (n c n' c' : Nat) (w : World) :
    Calls Tryz.prog 91 #[.agg #[.int .i64 5, .int .i64 op, .bool no, .int .i64 vk, .int .i64 vi, .string vt, .string tb, .string nm, .slice p n c, .slice q n' c'], .int .i64 0] w fun r w' => r = .returned (.int .i64 6) ∧ Below w.heap.size w w' := by
  have HP := Lib.hid (fun u => rprec_any 5 op vk vi no vt tb nm p q n c n' c' u)
  have HQ := Lib.hid hp
  clear hp
  go_enter Tryz.func91, Tryz.ntmps91
  go_wp2_with fail
  refine (HP.out _).mono ?_
  rintro e w' ⟨rfl, hb⟩
  have HB := Lib.hid (Below.of_alloc hb)
  clear hb
  rw [HQ.out]
  clear HP HQ
  go_wp2
  go_ret
  exact ⟨rfl, HB.out⟩
set_option maxHeartbeats 1000000 in
theorem rleast_p6_1 (op : Int) (hp : prec 5 op = 6) (vk vi : Int) (no : Bool) (vt tb nm : ByteArray) (p q : Option Addr) (n c n' c' : Nat) (w : World) :
    Calls Tryz.prog 91 #[.agg #[.int .i64 5, .int .i64 op, .bool no, .int .i64 vk, .int .i64 vi, .string vt, .string tb, .string nm, .slice p n c, .slice q n' c'], .int .i64 1] w fun r w' => r = .returned (.int .i64 7) ∧ Below w.heap.size w w' := by
  have HP := Lib.hid (fun u => rprec_any 5 op vk vi no vt tb nm p q n c n' c' u)
  have HQ := Lib.hid hp
  clear hp
  go_enter Tryz.func91, Tryz.ntmps91
  go_wp2_with fail
  refine (HP.out _).mono ?_
  rintro e w' ⟨rfl, hb⟩
  have HB := Lib.hid (Below.of_alloc hb)
  clear hb
  rw [HQ.out]
  clear HP HQ
  go_wp2
  go_ret
  exact ⟨rfl, HB.out⟩
set_option maxHeartbeats 1000000 in
theorem rleast_p6_2 (op : Int) (hp : prec 5 op = 6) (vk vi : Int) (no : Bool) (vt tb nm : ByteArray) (p q : Option Addr) (n c n' c' : Nat) (w : World) :
    Calls Tryz.prog 91 #[.agg #[.int .i64 5, .int .i64 op, .bool no, .int .i64 vk, .int .i64 vi, .string vt, .string tb, .string nm, .slice p n c, .slice q n' c'], .int .i64 2] w fun r w' => r = .returned (.int .i64 8) ∧ Below w.heap.size w w' := by
  have HP := Lib.hid (fun u => rprec_any 5 op vk vi no vt tb nm p q n c n' c' u)
  have HQ := Lib.hid hp
  clear hp
  go_enter Tryz.func91, Tryz.ntmps91
  go_wp2_with fail
  refine (HP.out _).mono ?_
  rintro e w' ⟨rfl, hb⟩
  have HB := Lib.hid (Below.of_alloc hb)
  clear hb
  rw [HQ.out]
  clear HP HQ
  go_wp2
  go_ret
  exact ⟨rfl, HB.out⟩
set_option maxHeartbeats 1000000 in
theorem rleast_p8 (op : Int) (hp : prec 5 op = 8) (vk vi : Int) (no : Bool) (vt tb nm : ByteArray) (p q : Option Addr) (n c n' c' : Nat) (i : Nat) (w : World) :
    Calls Tryz.prog 91 #[.agg #[.int .i64 5, .int .i64 op, .bool no, .int .i64 vk, .int .i64 vi, .string vt, .string tb, .string nm, .slice p n c, .slice q n' c'], .int .i64 i] w fun r w' => r = .returned (.int .i64 1) ∧ Below w.heap.size w w' := by
  have HP := Lib.hid (fun u => rprec_any 5 op vk vi no vt tb nm p q n c n' c' u)
  have HQ := Lib.hid hp
  clear hp
  go_enter Tryz.func91, Tryz.ntmps91
  go_wp2_with fail
  refine (HP.out _).mono ?_
  rintro e w' ⟨rfl, hb⟩
  have HB := Lib.hid (Below.of_alloc hb)
  clear hb
  rw [HQ.out]
  clear HP HQ
  go_wp2
  go_ret
  exact ⟨rfl, HB.out⟩
theorem prec5_six (op : Int) : prec 5 op = 1 ∨ prec 5 op = 2 ∨ prec 5 op = 4 ∨ prec 5 op = 5 ∨ prec 5 op = 6 ∨ prec 5 op = 8 := by
  simp only [prec]
  repeat' split
  all_goals omega
theorem rleast_any (k op : Int) (vk vi : Int) (no : Bool) (vt tb nm : ByteArray) (p q : Option Addr) (n c n' c' : Nat) (i : Nat) (hi : i < 3) (w : World) :
    Calls Tryz.prog 91 #[.agg #[.int .i64 k, .int .i64 op, .bool no, .int .i64 vk, .int .i64 vi, .string vt, .string tb, .string nm, .slice p n c, .slice q n' c'], .int .i64 i] w fun r w' => r = .returned (.int .i64 (least k op i)) ∧ Below w.heap.size w w' := by
  by_cases h3 : k = 3
  · subst h3; exact rleast_k3 op vk vi no vt tb nm p q n c n' c' i w
  by_cases h4 : k = 4
  · subst h4; exact rleast_k4 op vk vi no vt tb nm p q n c n' c' i w
  by_cases h6 : k = 6
  · subst h6; exact rleast_k6 op vk vi no vt tb nm p q n c n' c' i w
  by_cases h7 : k = 7
  · subst h7; exact rleast_k7 op vk vi no vt tb nm p q n c n' c' i w
  by_cases h5 : k = 5
  · subst h5
    have hl : least 5 op i = if prec 5 op = 8 then 1 else if prec 5 op = 4 then 5 else prec 5 op + i := by simp [least]
    have hi3 : i = 0 ∨ i = 1 ∨ i = 2 := by omega
    rcases prec5_six op with h | h | h | h | h | h
    · rcases hi3 with rfl | rfl | rfl
      · rw [show least 5 op 0 = 1 by rw [hl, h]; rfl]
        exact rleast_p1_0 op h vk vi no vt tb nm p q n c n' c' w
      · rw [show least 5 op 1 = 2 by rw [hl, h]; rfl]
        exact rleast_p1_1 op h vk vi no vt tb nm p q n c n' c' w
      · rw [show least 5 op 2 = 3 by rw [hl, h]; rfl]
        exact rleast_p1_2 op h vk vi no vt tb nm p q n c n' c' w
    · rcases hi3 with rfl | rfl | rfl
      · rw [show least 5 op 0 = 2 by rw [hl, h]; rfl]
        exact rleast_p2_0 op h vk vi no vt tb nm p q n c n' c' w
      · rw [show least 5 op 1 = 3 by rw [hl, h]; rfl]
        exact rleast_p2_1 op h vk vi no vt tb nm p q n c n' c' w
      · rw [show least 5 op 2 = 4 by rw [hl, h]; rfl]
        exact rleast_p2_2 op h vk vi no vt tb nm p q n c n' c' w
    · rw [show least 5 op i = 5 by rw [hl, h]; rfl]
      exact rleast_p4 op h vk vi no vt tb nm p q n c n' c' i w
    · rcases hi3 with rfl | rfl | rfl
      · rw [show least 5 op 0 = 5 by rw [hl, h]; rfl]
        exact rleast_p5_0 op h vk vi no vt tb nm p q n c n' c' w
      · rw [show least 5 op 1 = 6 by rw [hl, h]; rfl]
        exact rleast_p5_1 op h vk vi no vt tb nm p q n c n' c' w
      · rw [show least 5 op 2 = 7 by rw [hl, h]; rfl]
        exact rleast_p5_2 op h vk vi no vt tb nm p q n c n' c' w
    · rcases hi3 with rfl | rfl | rfl
      · rw [show least 5 op 0 = 6 by rw [hl, h]; rfl]
        exact rleast_p6_0 op h vk vi no vt tb nm p q n c n' c' w
      · rw [show least 5 op 1 = 7 by rw [hl, h]; rfl]
        exact rleast_p6_1 op h vk vi no vt tb nm p q n c n' c' w
      · rw [show least 5 op 2 = 8 by rw [hl, h]; rfl]
        exact rleast_p6_2 op h vk vi no vt tb nm p q n c n' c' w
    · rw [show least 5 op i = 1 by rw [hl, h]; rfl]
      exact rleast_p8 op h vk vi no vt tb nm p q n c n' c' i w
  rw [show least k op i = 1 by simp [least, h3, h4, h5, h6, h7]]
  exact rleast_other k op h3 h4 h5 h6 h7 vk vi no vt tb nm p q n c n' c' i w
theorem rleast (e : Ex) (i : Nat) (hi : i < 3) (w : World) : Calls Tryz.prog 91 #[exV e, .int .i64 i] w fun r w' => r = .returned (.int .i64 (least e.k e.op i)) ∧ Below w.heap.size w w' := rleast_any _ _ _ _ _ _ _ _ _ _ _ _ _ _ i hi w
end Go.Proofs.YtlpaphgmdcpmaaaGreatDoor
/-
  source, plain, Wrapped of reference 11.
-/
namespace Go.Proofs.YtlpaphgmdcpmaaaGreatDoor
set_option maxRecDepth 100000
open Go.RowKit
variable {ls : List Nat}

set_option maxHeartbeats 1000000 in
theorem rsource_any (s : ByteArray) (hs : s.size ≤ 9223372036854775807) (w : World) :
    Calls Tryz.prog 56 #[.string s] w fun r w' => r = .returned (.bool (srcB s)) ∧ Below w.heap.size w w' := by
  have hd : srcB s = (nameOK s || decide (s.toList = [73, 78, 83, 69, 82, 84, 69, 68]) || decide (s.toList = [68, 69, 76, 69, 84, 69, 68])) := by rw [← eqT_lit, ← eqT_lit]; rfl
  have HS := Lib.hid hs
  clear hs
  cases hn : nameOK s
  · have HN := Lib.hid hn
    rw [hn] at hd
    clear hn
    by_cases h1 : s.toList = [73, 78, 83, 69, 82, 84, 69, 68]
    · have HD := Lib.hid (show srcB s = true by rw [hd, decide_eq_true h1]; simp)
      clear hd
      go_enter Tryz.func56, Tryz.ntmps56
      go_wp2_with fail
      refine (rvname_eq HS.out HN.out _).mono ?_
      rintro e w1 ⟨rfl, rfl⟩
      go_wp2
      go_ret
      exact ⟨ret_bool HD.out.symm, Below.refl _ _⟩
    have e1 : (s.toList == [73, 78, 83, 69, 82, 84, 69, 68]) = false := by simpa using h1
    by_cases h2 : s.toList = [68, 69, 76, 69, 84, 69, 68]
    · have HD := Lib.hid (show srcB s = true by rw [hd, decide_eq_true h2]; simp)
      clear hd h1
      go_enter Tryz.func56, Tryz.ntmps56
      go_wp2_with fail
      refine (rvname_eq HS.out HN.out _).mono ?_
      rintro e w1 ⟨rfl, rfl⟩
      go_wp2
      go_ret
      exact ⟨ret_bool HD.out.symm, Below.refl _ _⟩
    have e2 : (s.toList == [68, 69, 76, 69, 84, 69, 68]) = false := by simpa using h2
    have HD := Lib.hid (show srcB s = false by rw [hd, decide_eq_false h1, decide_eq_false h2]; rfl)
    clear hd h1 h2
    go_enter Tryz.func56, Tryz.ntmps56
    go_wp2_with fail
    refine (rvname_eq HS.out HN.out _).mono ?_
    rintro e w1 ⟨rfl, rfl⟩
    go_wp2
    go_ret
    exact ⟨ret_bool HD.out.symm, Below.refl _ _⟩
  have HN := Lib.hid hn
  have HD := Lib.hid (show srcB s = true by rw [hd, hn]; simp)
  clear hd hn
  go_enter Tryz.func56, Tryz.ntmps56
  go_wp2_with fail
  refine (rvname_eq HS.out HN.out _).mono ?_
  rintro e w1 ⟨rfl, rfl⟩
  go_wp2
  go_ret
  exact ⟨ret_bool HD.out.symm, Below.refl _ _⟩
set_option maxHeartbeats 1000000 in
theorem rplain_c (k op vk vi : Int) (no : Bool) (vt tb nm : ByteArray) (p q : Option Addr) (n c n' c' : Nat) (w : World) :
    Calls Tryz.prog 58 #[.agg #[.int .i64 k, .int .i64 op, .bool no, .int .i64 vk, .int .i64 vi, .string vt, .string tb, .string nm, .slice p n c, .slice q n' c']] w fun r w' => r = .returned (.bool (sameV vk vi vt 0 0 ⟨#[]⟩ && eqT tb ⟨#[]⟩ && eqT nm ⟨#[]⟩)) ∧ Below w.heap.size w w' := by
  rw [← empty_eqT, ← empty_eqT]
  cases hs : sameV vk vi vt 0 0 ⟨#[]⟩
  · have hq : ∀ u, (binOp .eql 23 (.agg #[.int .i64 vk, .int .i64 vi, .string vt]) (.agg #[.int .i64 0, .int .i64 0, .string ⟨#[]⟩])).run Tryz.prog u = .ok (.bool false) u := fun u => by rw [eql_val, hs]
    clear hs
    go_enter Tryz.func58, Tryz.ntmps58
    go_wp2
    go_ret
    exact ⟨rfl, below_alloc _ _⟩
  have hq : ∀ u, (binOp .eql 23 (.agg #[.int .i64 vk, .int .i64 vi, .string vt]) (.agg #[.int .i64 0, .int .i64 0, .string ⟨#[]⟩])).run Tryz.prog u = .ok (.bool true) u := fun u => by rw [eql_val, hs]
  clear hs
  cases ht : tb.toList.isEmpty
  · have e1 : (tb.toList == []) = false := by rw [List.isEmpty_eq_false_iff] at ht; simpa using ht
    clear ht
    go_enter Tryz.func58, Tryz.ntmps58
    go_wp2
    go_ret
    exact ⟨rfl, below_alloc _ _⟩
  have e1 : tb.toList = [] := List.isEmpty_iff.1 ht
  clear ht
  cases hn : nm.toList.isEmpty
  · have e2 : (nm.toList == []) = false := by rw [List.isEmpty_eq_false_iff] at hn; simpa using hn
    clear hn
    go_enter Tryz.func58, Tryz.ntmps58
    go_wp2
    go_ret
    exact ⟨rfl, below_alloc _ _⟩
  have e2 : nm.toList = [] := List.isEmpty_iff.1 hn
  clear hn
  go_enter Tryz.func58, Tryz.ntmps58
  go_wp2
  go_ret
  exact ⟨rfl, below_alloc _ _⟩
theorem rplain (e : Ex) (w : World) : Calls Tryz.prog 58 #[exV e] w fun r w' => r = .returned (.bool (plainB e)) ∧ Below w.heap.size w w' := by
  unfold plainB
  rw [noVal_same]
  exact rplain_c _ _ _ _ _ _ _ _ _ _ _ _ _ _ w
set_option maxHeartbeats 1000000 in
theorem rwrapped_c {N : Nat → Prop} {P : Ex → Prop} (k op vk vi : Int) (no : Bool) (vt tb nm : ByteArray) (p q : Option Addr) (args : List Ex) (c n' c' : Nat) (i : Nat) (w : World) (hi : i < args.length) (h3 : i < 3) (hA : LAt N w P p args) :
    Calls Tryz.prog 81 #[.agg #[.int .i64 k, .int .i64 op, .bool no, .int .i64 vk, .int .i64 vi, .string vt, .string tb, .string nm, .slice p args.length c, .slice q n' c'], .int .i64 i] w
      fun r w' => r = .returned (.bool (decide (prec (eAt args i).k (eAt args i).op < least k op i))) ∧ Below w.heap.size w w' := by
  have HA := Lib.hid (hA i hi)
  have HL := Lib.hid (fun u => rleast_any k op vk vi no vt tb nm p q args.length c n' c' i h3 u)
  clear hA
  go_enter Tryz.func81, Tryz.ntmps81
  go_upto_region 1 with (fail)
  have hb0 := below_alloc w (.cells #[.int .i64 k, .int .i64 op, .bool no, .int .i64 vk, .int .i64 vi, .string vt, .string tb, .string nm, .slice p args.length c, .slice q n' c'] 27)
  obtain ⟨g, o, rfl, hg, -, hC, -⟩ := HA.out
  have hC2 := hC.keep (hb0.block g hg)
  have hg2 := Nat.lt_of_lt_of_le hg hb0.size
  have HB2 := Lib.hid hb0
  have xl : w.heap.size < (w.alloc (.cells #[.int .i64 k, .int .i64 op, .bool no, .int .i64 vk, .int .i64 vi, .string vt, .string tb, .string nm, .slice (some ⟨g, o, none⟩) args.length c, .slice q n' c'] 27)).heap.size := by simp
  have x0 : (w.alloc (.cells #[.int .i64 k, .int .i64 op, .bool no, .int .i64 vk, .int .i64 vi, .string vt, .string tb, .string nm, .slice (some ⟨g, o, none⟩) args.length c, .slice q n' c'] 27)).cell? ⟨w.heap.size, 0, none⟩ = some (.int .i64 k) := by go_simp
  have x1 : (w.alloc (.cells #[.int .i64 k, .int .i64 op, .bool no, .int .i64 vk, .int .i64 vi, .string vt, .string tb, .string nm, .slice (some ⟨g, o, none⟩) args.length c, .slice q n' c'] 27)).cell? ⟨w.heap.size, 1, none⟩ = some (.int .i64 op) := by go_simp
  have x2 : (w.alloc (.cells #[.int .i64 k, .int .i64 op, .bool no, .int .i64 vk, .int .i64 vi, .string vt, .string tb, .string nm, .slice (some ⟨g, o, none⟩) args.length c, .slice q n' c'] 27)).cell? ⟨w.heap.size, 2, none⟩ = some (.bool no) := by go_simp
  have x3 : (w.alloc (.cells #[.int .i64 k, .int .i64 op, .bool no, .int .i64 vk, .int .i64 vi, .string vt, .string tb, .string nm, .slice (some ⟨g, o, none⟩) args.length c, .slice q n' c'] 27)).cell? ⟨w.heap.size, 3, none⟩ = some (.int .i64 vk) := by go_simp
  have x4 : (w.alloc (.cells #[.int .i64 k, .int .i64 op, .bool no, .int .i64 vk, .int .i64 vi, .string vt, .string tb, .string nm, .slice (some ⟨g, o, none⟩) args.length c, .slice q n' c'] 27)).cell? ⟨w.heap.size, 4, none⟩ = some (.int .i64 vi) := by go_simp
  have x5 : (w.alloc (.cells #[.int .i64 k, .int .i64 op, .bool no, .int .i64 vk, .int .i64 vi, .string vt, .string tb, .string nm, .slice (some ⟨g, o, none⟩) args.length c, .slice q n' c'] 27)).cell? ⟨w.heap.size, 5, none⟩ = some (.string vt) := by go_simp
  have x6 : (w.alloc (.cells #[.int .i64 k, .int .i64 op, .bool no, .int .i64 vk, .int .i64 vi, .string vt, .string tb, .string nm, .slice (some ⟨g, o, none⟩) args.length c, .slice q n' c'] 27)).cell? ⟨w.heap.size, 6, none⟩ = some (.string tb) := by go_simp
  have x7 : (w.alloc (.cells #[.int .i64 k, .int .i64 op, .bool no, .int .i64 vk, .int .i64 vi, .string vt, .string tb, .string nm, .slice (some ⟨g, o, none⟩) args.length c, .slice q n' c'] 27)).cell? ⟨w.heap.size, 7, none⟩ = some (.string nm) := by go_simp
  have x8 : (w.alloc (.cells #[.int .i64 k, .int .i64 op, .bool no, .int .i64 vk, .int .i64 vi, .string vt, .string tb, .string nm, .slice (some ⟨g, o, none⟩) args.length c, .slice q n' c'] 27)).cell? ⟨w.heap.size, 8, none⟩ = some (.slice (some ⟨g, o, none⟩) args.length c) := by go_simp
  have x9 : (w.alloc (.cells #[.int .i64 k, .int .i64 op, .bool no, .int .i64 vk, .int .i64 vi, .string vt, .string tb, .string nm, .slice (some ⟨g, o, none⟩) args.length c, .slice q n' c'] 27)).cell? ⟨w.heap.size, 9, none⟩ = some (.slice q n' c') := by go_simp
  generalize hW2 : w.alloc _ = W2 at *
  have HW2 := Lib.hid hW2
  clear hW2 hb0 hC HA
  have l0 := lowW_cell (W := W2) (by exact xl) x0
  have l1 := lowW_cell (W := W2) (by exact xl) x1
  have l2 := lowW_cell (W := W2) (by exact xl) x2
  have l3 := lowW_cell (W := W2) (by exact xl) x3
  have l4 := lowW_cell (W := W2) (by exact xl) x4
  have l5 := lowW_cell (W := W2) (by exact xl) x5
  have l6 := lowW_cell (W := W2) (by exact xl) x6
  have l7 := lowW_cell (W := W2) (by exact xl) x7
  have l8 := lowW_cell (W := W2) (by exact xl) x8
  have l9 := lowW_cell (W := W2) (by exact xl) x9
  have m0 := lowW_cell (W := W2) (by exact hg2) hC2.c0
  have m1 := lowW_cell (W := W2) (by exact hg2) hC2.c1
  have m2 := lowW_cell (W := W2) (by exact hg2) hC2.c2
  have m3 := lowW_cell (W := W2) (by exact hg2) hC2.c3
  have m4 := lowW_cell (W := W2) (by exact hg2) hC2.c4
  have m5 := lowW_cell (W := W2) (by exact hg2) hC2.c5
  have m6 := lowW_cell (W := W2) (by exact hg2) hC2.c6
  have m7 := lowW_cell (W := W2) (by exact hg2) hC2.c7
  have m8 := lowW_cell (W := W2) (by exact hg2) hC2.c8
  have m9 := lowW_cell (W := W2) (by exact hg2) hC2.c9
  have hia : (i : Int) < args.length := by omega
  have hP := Lib.hid (fun u => rprec (eAt args i) u)
  unfold exV at hP
  generalize hxe : eAt args i = x at *
  have HXE := Lib.hid hxe
  clear hxe xl x0 x1 x2 x3 x4 x5 x6 x7 x8 x9
  generalize hpl : least k op i = pl at HL
  have HPL := Lib.hid hpl
  clear hpl
  refine wp_region_low (by kernel_rfl) (by kernel_rfl) ?_
  repeat (refine wq_step (fun K hK => ?_); go_simp; first | (refine hK _ ?_; clear hK K) | (apply Exists.intro; refine ⟨fun _ => ?_, hK _ ?_⟩; (first | (go_at_call 90; exact Calls.low_of (hP.out _)) | (go_at_call 91; exact Calls.low_of (HL.out _))); clear hK K))
  refine wq_nil ?_
  rintro _ ⟨⟨d3, os3⟩, rfl⟩
  dsimp only
  have HB3 := Lib.hid (below_next HB2.out (lowW_low W2 d3 os3))
  clear l0 l1 l2 l3 l4 l5 l6 l7 l8 l9 m0 m1 m2 m3 m4 m5 m6 m7 m8 m9
  generalize lowW W2 d3 os3 = W3 at HB3 ⊢
  go_wp2
  go_ret
  exact ⟨ret_bool (by rw [HPL.out, HXE.out]), HB3.out⟩
end Go.Proofs.YtlpaphgmdcpmaaaGreatDoor
