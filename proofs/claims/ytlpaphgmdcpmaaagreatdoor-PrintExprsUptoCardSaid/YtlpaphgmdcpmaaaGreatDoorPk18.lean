/-
  Several texts in one.
-/
import Derived.Test.YtlpaphgmdcpmaaaGreatDoorPk13
import Derived.Lib.Builder
import Derived.Lib.AppendStr
import Derived.Laws.Externs
import Derived.Test.YtlpaphgmdcpmaaaGreatDoorPk14
import Derived.Test.YtlpaphgmdcpmaaaGreatDoorPk16
import Derived.Test.YtlpaphgmdcpmaaaGreatDoorPk03
/-
  strings.Builder at this seat: copyCheck, WriteByte, WriteString (the shelf's own layings do not fit a program whose row leaves the refused branch of copyCheck out).
-/
namespace Go.Proofs.YtlpaphgmdcpmaaaGreatDoor
set_option maxRecDepth 100000
open Go.RowKit

theorem bd_size : (Tryz.prog.info? 94).map (·.size) = some 2 := by kernel_rfl
theorem bd_lies : liesAt Tryz.prog Tryz.prog.depth 94 (2 / Tryz.prog.cellsOf 94) 0 94 1 = true := by kernel_rfl
theorem bd_byte : (Tryz.prog.info? 5).map (fun i => (i.zero, i.size, i.bytes)) = some (some (.int .u8 0), 1, 1) := by kernel_rfl
abbrev BdAt (B b : Nat) (bs : List Value) (w : World) : Prop := Lib.BuilderAt 94 5 B b (.pointer (some ⟨b, 0, none⟩)) bs w
abbrev BdIs (B b : Nat) (bs : List Value) (w : World) : Prop := Lib.IsBuilder 94 5 B b bs w
set_option maxHeartbeats 1000000 in
theorem bd_copy (B b : Nat) (bs : List Value) (w : World) (h : BdIs B b bs w) :
    Calls Tryz.prog 77 #[.pointer (some ⟨b, 0, none⟩)] w fun e w' => e = .returned (.tuple #[]) ∧ BdAt B b bs w' ∧ Below B w w' := by
  obtain ⟨j, hj, hjs⟩ := Option.map_eq_some_iff.1 bd_size
  rcases h with h | h
  · have h0 := h.cell0
    have hsh := h.shape
    have hfz := h.frozen0
    have HX := Lib.hid h
    clear h
    go_enter Tryz.func77, Tryz.ntmps77
    go_wp2
    rw [Lib.run_to_unsafe w ⟨b, 0, none⟩ Tryz.underlying91 Tryz.underlying120 hj (by rw [hjs]; decide) hsh (Nat.zero_lt_succ 1)]
    simp only [Result.andThen]
    rw [Oper.upon_value]
    go_wp2
    rw [run_callFunc_extern Tryz.func88 (by kernel_rfl) (by kernel_rfl) (by kernel_rfl) (e := Extern.AbiNoEscape.same) (by kernel_rfl)]
    rw [Lib.run_noEscape]
    simp only [Result.andThen]
    rw [Oper.upon_value]
    go_wp2
    rw [Lib.run_from_unsafe w ⟨b, 0, none⟩ Tryz.underlying120 Tryz.underlying91 hj hsh bd_lies]
    simp only [Result.andThen]
    rw [Oper.upon_value]
    go_wp2
    go_end0
    exact ⟨rfl, HX.out.used _, (Below.refl B w).setCell (p := ⟨b, 0, none⟩) HX.out.1 _⟩
  · have h0 := h.cell0
    have HX := Lib.hid h
    clear h
    go_enter Tryz.func77, Tryz.ntmps77
    go_wp2
    rw [Lib.run_neq_ptr_same w _ Tryz.underlying91 hj]
    go_wp2
    go_end0
    exact ⟨rfl, HX.out, Below.refl B w⟩
theorem own_ex_bd {u : World} {base : Nat} {vr : Value} {e : TypeId} {s n : Nat} {xs : List Value} (h : u.ownsRow base e s vr n xs) : ∃ p c, vr = .slice p n c := by
  rcases h.2 with ⟨rfl, rfl⟩ | ⟨g, cap, cur, rfl, -⟩
  · exact ⟨none, 0, rfl⟩
  · exact ⟨_, cap, rfl⟩
theorem bd_lt {B b : Nat} {bs : List Value} {w : World} (h : BdAt B b bs w) : b < w.heap.size := Lib.BuilderAt.lt h
set_option maxHeartbeats 2000000 in
theorem bd_byte_any (B b : Nat) (bs : List Value) (c : Int) (w : World) (h : BdIs B b bs w) (hlen : bs.length + 1 ≤ 140737488355328) (hBw : B ≤ w.heap.size) :
    Calls Tryz.prog 51 #[.pointer (some ⟨b, 0, none⟩), .int .u8 c] w fun e w' => e = .returned .nilIface ∧ BdAt B b (bs ++ [.int .u8 c]) w' ∧ Below B w w' := by
  obtain ⟨i0, hi, hz0, hz1, hz2⟩ := info_parts bd_byte
  go_enter Tryz.func51, Tryz.ntmps51
  go_wp2_with fail
  refine (bd_copy B b bs _ h).mono ?_
  rintro e w1 ⟨rfl, h1, hb1⟩
  have HB1 := Lib.hid hb1
  obtain ⟨hB, v, hbk, hown, hne⟩ := h1
  have c0 : w1.cell? ⟨b, 0, none⟩ = some (.pointer (some ⟨b, 0, none⟩)) := by rw [Lib.cell_of_heap hbk]; rfl
  have c1 : w1.cell? ⟨b, 1, none⟩ = some v := by rw [Lib.cell_of_heap hbk]; rfl
  have hlt : b < w1.heap.size := (Array.getElem?_eq_some_iff.1 hbk).1
  have HBK := Lib.hid hbk
  have HO := Lib.hid hown
  have hz1' := hb1.size
  clear hb1 hbk hown h
  go_wp2_with (at_builtin; refine wpList_append_own _ rfl _ _ 92 rfl B 5 i0 (.int .u8 0) 1 1 Tryz.underlying92 hi hz0 hz1 hz2 rfl (by decide) _ _ _ rfl (HO.out.alloc _) ⟨w1.heap.size, 0, none⟩ 1 1 [.int .u8 c] rfl rfl ?c1 ?c2 ?c3 ?c4 ?c5 ?_)
  case c1 =>
    intro j u hj
    match j, hj with
    | 0, hj => simp at hj; subst hj; simp [Addr.add]
  case c2 => intro u hu; obtain rfl := List.mem_singleton.1 hu; rfl
  case c3 => unfold maxLen; omega
  case c4 => omega
  case c5 => rw [size_alloc]; omega
  intro v' w2 hown' hgrow _
  have hb2 : w2.heap[b]? = some (.cells #[.pointer (some ⟨b, 0, none⟩), v] 94 (0, 0)) := by
    rw [hgrow.block b (by simp; omega) (fun e => hne e.symm), Lib.alloc_old w1 _ b hlt]
    exact HBK.out
  have d0 : w2.cell? ⟨b, 0, none⟩ = some (.pointer (some ⟨b, 0, none⟩)) := by rw [Lib.cell_of_heap hb2]; rfl
  have d1 : w2.cell? ⟨b, 1, none⟩ = some v := by rw [Lib.cell_of_heap hb2]; rfl
  have f1 : w2.frozen? ⟨b, 1, none⟩ = false := Lib.frozen_of_heap hb2 1
  obtain ⟨p, cp, rfl⟩ : ∃ p cp, v' = .slice p (bs.length + 1) cp := by
    rcases hown'.2 with ⟨_, h0⟩ | ⟨g, cap, cur, hv, _⟩
    · omega
    · exact ⟨_, cap, hv⟩
  have HB2 := Lib.hid hb2
  have HO2 := Lib.hid hown'
  have HG := Lib.hid hgrow
  clear hb2 hown' hgrow
  go_wp2
  go_ret
  refine ⟨rfl, ?_, ?_⟩
  · exact Lib.BuilderAt.put hB HB2.out (bs' := bs ++ [.int .u8 c]) (by simpa using HO2.out) (by decide)
  · exact ((HB1.out.alloc (by omega) _).grown HG.out (by rw [size_alloc]; omega) (fun k hk => (HO.out.lt k hk).1)).setCell (p := ⟨b, 1, none⟩) hB _
set_option maxHeartbeats 2000000 in
theorem bd_text_any (B b : Nat) (bs : List Value) (s : ByteArray) (w : World) (h : BdIs B b bs w) (hlen : bs.length + s.size ≤ 140737488355328) (hBw : B ≤ w.heap.size) :
    Calls Tryz.prog 52 #[.pointer (some ⟨b, 0, none⟩), .string s] w fun e w' => e = .returned (.tuple #[.int .i64 s.size, .nilIface]) ∧ BdAt B b (bs ++ Lib.strCells s) w' ∧ Below B w w' := by
  obtain ⟨i0, hi, hz0, hz1, hz2⟩ := info_parts bd_byte
  go_enter Tryz.func52, Tryz.ntmps52
  go_wp2_with fail
  refine (bd_copy B b bs _ h).mono ?_
  rintro e w1 ⟨rfl, h1, hb1⟩
  have HB1 := Lib.hid hb1
  obtain ⟨hB, v, hbk, hown, hne⟩ := h1
  have c0 : w1.cell? ⟨b, 0, none⟩ = some (.pointer (some ⟨b, 0, none⟩)) := by rw [Lib.cell_of_heap hbk]; rfl
  have c1 : w1.cell? ⟨b, 1, none⟩ = some v := by rw [Lib.cell_of_heap hbk]; rfl
  have hlt : b < w1.heap.size := (Array.getElem?_eq_some_iff.1 hbk).1
  have HBK := Lib.hid hbk
  have HO := Lib.hid hown
  have hz1' := hb1.size
  clear hb1 hbk hown h
  go_wp2_with (at_builtin; refine Lib.wpList_append_own_string _ rfl _ _ 92 9 rfl B 5 i0 Tryz.underlying92 Tryz.underlying9 hi hz0 hz1 hz2 _ _ _ rfl HO.out s rfl ?c3 ?c4 ?c5 ?_)
  case c3 => unfold maxLen; omega
  case c4 => omega
  case c5 => omega
  intro v' w2 hown' hgrow _
  have hb2 : w2.heap[b]? = some (.cells #[.pointer (some ⟨b, 0, none⟩), v] 94 (0, 0)) := by
    rw [hgrow.block b hlt (fun e => hne e.symm)]
    exact HBK.out
  have d0 : w2.cell? ⟨b, 0, none⟩ = some (.pointer (some ⟨b, 0, none⟩)) := by rw [Lib.cell_of_heap hb2]; rfl
  have d1 : w2.cell? ⟨b, 1, none⟩ = some v := by rw [Lib.cell_of_heap hb2]; rfl
  have f1 : w2.frozen? ⟨b, 1, none⟩ = false := Lib.frozen_of_heap hb2 1
  obtain ⟨p, cp, rfl⟩ : ∃ p cp, v' = .slice p (bs.length + s.size) cp := own_ex_bd hown'
  have HB2 := Lib.hid hb2
  have HO2 := Lib.hid hown'
  have HG := Lib.hid hgrow
  clear hb2 hown' hgrow
  go_wp2
  go_ret2
  refine ⟨rfl, ?_, ?_⟩
  · exact Lib.BuilderAt.put hB HB2.out (bs' := bs ++ Lib.strCells s) (by have h := HO2.out; rw [List.length_append, Lib.strCells_length]; exact h) (by decide)
  · exact (HB1.out.grown HG.out (by omega) (fun k hk => (HO.out.lt k hk).1)).setCell (p := ⟨b, 1, none⟩) hB _
end Go.Proofs.YtlpaphgmdcpmaaaGreatDoor
/-
  text of package print: the tokens joined.
-/
namespace Go.Proofs.YtlpaphgmdcpmaaaGreatDoor
set_option maxRecDepth 100000
open Go.RowKit
variable {ls : List Nat}

def nextB (s : ByteArray) : Bool := s.toList == [40] || s.toList == [46]
def prevB (s : ByteArray) : Bool := s.toList == [44] || s.toList == [59] || s.toList == [46] || s.toList == [41]
def sAt (L : List ByteArray) (i : Nat) : ByteArray := L.getD i ⟨#[]⟩
theorem sAt_get {L : List ByteArray} {i : Nat} (h : i < L.length) : sAt L i = L[i] := by
  unfold sAt; rw [List.getD, List.getElem?_eq_getElem h]; rfl
/-- The space between a token and the next one. -/
def spcL (p s : ByteArray) : List UInt8 := if nextB p || prevB s then [] else [32]
/-- The text of the first k tokens. -/
def joinN (L : List ByteArray) : Nat → List UInt8
  | 0 => []
  | k + 1 => joinN L k ++ (if k = 0 then [] else spcL (sAt L (k - 1)) (sAt L k)) ++ (sAt L k).data.toList
def joinS (L : List ByteArray) : ByteArray := ⟨(joinN L L.length).toArray⟩
theorem joinN_len {L : List ByteArray} (h : ∀ s ∈ L, s.size ≤ 1000) : ∀ k, k ≤ L.length → (joinN L k).length ≤ k * 1001
  | 0, _ => Nat.zero_le _
  | k + 1, hk => by
    have h1 := joinN_len h k (by omega)
    have h2 : (sAt L k).data.toList.length ≤ 1000 := by
      rw [sAt_get (by omega)]
      exact h _ (List.getElem_mem _)
    have h3 : (if k = 0 then [] else spcL (sAt L (k - 1)) (sAt L k)).length ≤ 1 := by
      unfold spcL; repeat' split
      all_goals simp
    simp only [joinN, List.length_append]
    omega
theorem joinsNext_any (s : ByteArray) (w : World) : Calls Tryz.prog 49 #[.string s] w fun e w' => e = .returned (.bool (nextB s)) ∧ w' = w := by
  by_cases h1 : s.toList = [40]
  · have HN := Lib.hid (show nextB s = true by unfold nextB; simp [h1])
    have e1 : (s.toList == [40]) = true := by simpa using h1
    go_enter Tryz.func49, Tryz.ntmps49
    go_wp2
    go_ret
    exact ⟨ret_bool HN.out.symm, rfl⟩
  have e1 : (s.toList == [40]) = false := by simpa using h1
  by_cases h2 : s.toList = [46]
  · have HN := Lib.hid (show nextB s = true by unfold nextB; simp [h2])
    have e2 : (s.toList == [46]) = true := by simpa using h2
    go_enter Tryz.func49, Tryz.ntmps49
    go_wp2
    go_ret
    exact ⟨ret_bool HN.out.symm, rfl⟩
  have e2 : (s.toList == [46]) = false := by simpa using h2
  have HN := Lib.hid (show nextB s = false by unfold nextB; simp [h1, h2])
  go_enter Tryz.func49, Tryz.ntmps49
  go_wp2
  go_ret
  exact ⟨ret_bool HN.out.symm, rfl⟩
theorem joinsPrev_any (s : ByteArray) (w : World) : Calls Tryz.prog 50 #[.string s] w fun e w' => e = .returned (.bool (prevB s)) ∧ w' = w := by
  by_cases h1 : s.toList = [44]
  · have HN := Lib.hid (show prevB s = true by unfold prevB; simp [h1])
    have e1 : (s.toList == [44]) = true := by simpa using h1
    go_enter Tryz.func50, Tryz.ntmps50
    go_wp2
    go_ret
    exact ⟨ret_bool HN.out.symm, rfl⟩
  have e1 : (s.toList == [44]) = false := by simpa using h1
  by_cases h2 : s.toList = [59]
  · have HN := Lib.hid (show prevB s = true by unfold prevB; simp [h2])
    have e2 : (s.toList == [59]) = true := by simpa using h2
    go_enter Tryz.func50, Tryz.ntmps50
    go_wp2
    go_ret
    exact ⟨ret_bool HN.out.symm, rfl⟩
  have e2 : (s.toList == [59]) = false := by simpa using h2
  by_cases h3 : s.toList = [46]
  · have HN := Lib.hid (show prevB s = true by unfold prevB; simp [h3])
    have e3 : (s.toList == [46]) = true := by simpa using h3
    go_enter Tryz.func50, Tryz.ntmps50
    go_wp2
    go_ret
    exact ⟨ret_bool HN.out.symm, rfl⟩
  have e3 : (s.toList == [46]) = false := by simpa using h3
  by_cases h4 : s.toList = [41]
  · have HN := Lib.hid (show prevB s = true by unfold prevB; simp [h4])
    have e4 : (s.toList == [41]) = true := by simpa using h4
    go_enter Tryz.func50, Tryz.ntmps50
    go_wp2
    go_ret
    exact ⟨ret_bool HN.out.symm, rfl⟩
  have e4 : (s.toList == [41]) = false := by simpa using h4
  have HN := Lib.hid (show prevB s = false by unfold prevB; simp [h1, h2, h3, h4])
  go_enter Tryz.func50, Tryz.ntmps50
  go_wp2
  go_ret
  exact ⟨ret_bool HN.out.symm, rfl⟩
theorem byteCells_text (a : List UInt8) (s : ByteArray) : Lib.byteCells (a ++ s.data.toList) = Lib.byteCells a ++ Lib.strCells s := Lib.byteCells_append a _
theorem bd_fresh (u : World) : BdIs u.heap.size u.heap.size [] (u.alloc (.cells #[.pointer none, .slice none 0 0] 94)) := by
  refine .inl ⟨Nat.le_refl _, .slice none 0 0, ?_, ⟨rfl, .inl ⟨rfl, rfl⟩⟩, (fun h => by cases h)⟩
  show (u.heap.push _)[u.heap.size]? = _
  simp
theorem wr_cells {q : Nat} {L : List ByteArray} {u : World} (h : WrAt q L u) : ∃ p c, u.cell? ⟨q, 0, none⟩ = some (.slice p L.length c) ∧ ∀ i, i < L.length → ∃ g, p = some ⟨g, 0, none⟩ ∧ g < u.heap.size ∧ u.cell? ⟨g, i, none⟩ = some (.string (sAt L i)) := by
  obtain ⟨-, v, h1, h2⟩ := h
  have hc : u.cell? ⟨q, 0, none⟩ = some v := by simp [World.cell?, h1]
  rcases h2.2 with ⟨rfl, h0⟩ | ⟨g, cap, cur, rfl, hg, hh, hcap, hm, hcur, htake⟩
  · exact ⟨none, 0, by rw [h0]; exact hc, fun i hi => by omega⟩
  · refine ⟨_, cap, hc, fun i hi => ⟨g, rfl, (Array.getElem?_eq_some_iff.1 hh).1, ?_⟩⟩
    have hget : cur[i]? = (wcells L)[i]? := by
      rw [← htake, List.getElem?_take, if_pos (by omega)]; simp
    simp only [World.cell?, hh]
    rw [if_neg (by simp), hget]
    unfold wcells
    rw [List.getElem?_map, List.getElem?_eq_getElem hi, sAt_get hi]; rfl
set_option maxHeartbeats 4000000 in
theorem text_any (q : Nat) (L : List ByteArray) (u : World) (hW : WrAt q L u) (hL : L.length ≤ 100000000000) (hS : ∀ s ∈ L, s.size ≤ 1000) :
    Calls Tryz.prog 28 #[.pointer (some ⟨q, 0, none⟩)] u fun e u' => e = .returned (.string (joinS L)) ∧ Below u.heap.size u u' := by
  obtain ⟨p, c, hc0, hcs⟩ := wr_cells hW
  have hq := hW.lt
  have hJ := fun k hk => joinN_len hS k hk
  have hSz : ∀ k, k < L.length → (sAt L k).size ≤ 1000 := fun k hk => by rw [sAt_get hk]; exact hS _ (List.getElem_mem _)
  have HJ := Lib.hid hJ
  have HSZ := Lib.hid hSz
  have HCS := Lib.hid hcs
  have HC0 := Lib.hid hc0
  have HR := Lib.hid (show joinS L = ⟨(joinN L L.length).toArray⟩ from rfl)
  have HJS := Lib.hid (fun k => show joinN L (k + 1) = joinN L k ++ (if k = 0 then [] else spcL (sAt L (k - 1)) (sAt L k)) ++ (sAt L k).data.toList from rfl)
  have hc1 : (u.alloc (.cells #[.pointer none, .slice none 0 0] 94)).cell? ⟨q, 0, none⟩ = some (.slice p L.length c) := by rw [(below_alloc u _).cell (by exact hq)]; exact hc0
  have HF := Lib.hid (bd_fresh u)
  have HB0 := Lib.hid (below_alloc u (.cells #[.pointer none, .slice none 0 0] 94))
  clear hW hS hJ hSz hcs hc0
  generalize L.length = n at *
  go_enter Tryz.func28, Tryz.ntmps28
  go_wp2_with fail
  generalize World.alloc _ _ = u0 at *
  clear hc1
  go_loopw [11] (fun i v => ∃ k : Nat, k ≤ n ∧ i = .int .i64 k ∧ BdIs u.heap.size u.heap.size (Lib.byteCells (joinN L k)) v ∧ Below u.heap.size u v) (fun i _ => n - (intOf i).toNat)
  case atStart => exact ⟨0, Nat.zero_le _, rfl, HF.out, HB0.out⟩
  case round =>
    obtain ⟨k, hk, rfl, hbd, hb⟩ := hrel
    have HBD := Lib.hid hbd
    have HB := Lib.hid hb
    clear hbd hb
    by_cases hlt : k < n
    · have hlt' : decide ((k : Int) < n) = true := decide_eq_true (by omega)
      have hkI : (k : Int) < n := by omega
      obtain ⟨g, rfl, hg, hck⟩ := HCS.out k hlt
      have hck2 : wr.cell? ⟨g, k, none⟩ = some (.string (sAt L k)) := by rw [HB.out.cell (by exact hg)]; exact hck
      have hcq : wr.cell? ⟨q, 0, none⟩ = some (.slice (some ⟨g, 0, none⟩) n c) := by rw [HB.out.cell (by exact hq)]; exact HC0.out
      have hjl := HJ.out k hk
      have hsl := HSZ.out k hlt
      have HJK := Lib.hid (HJS.out k)
      clear hck
      generalize hsk : sAt L k = s at *
      clear hsk
      have fin : ∀ sp : List UInt8, joinN L (k + 1) = joinN L k ++ sp ++ s.data.toList → sp.length ≤ 1 → ∀ v, BdIs u.heap.size u.heap.size (Lib.byteCells (joinN L k ++ sp)) v → Below u.heap.size u v →
          Calls Tryz.prog 52 #[.pointer (some ⟨u.heap.size, 0, none⟩), .string s] v fun e w' => e = .returned (.tuple #[.int .i64 s.size, .nilIface]) ∧ BdIs u.heap.size u.heap.size (Lib.byteCells (joinN L (k + 1))) w' ∧ Below u.heap.size u w' := by
        intro sp hsp hspl v hv hbv
        refine (bd_text_any _ _ _ s v hv (by rw [Lib.byteCells_length, List.length_append]; omega) hbv.size).mono ?_
        rintro e w' ⟨he, h1, h2⟩
        refine ⟨he, .inr ?_, hbv.trans h2⟩
        rw [hsp, byteCells_text]
        exact h1
      have HFIN := Lib.hid fin
      clear fin hjl hsl
      by_cases hk0 : k = 0
      · subst hk0
        go_wp2_with fail
        refine (HFIN.out [] (by rw [HJK.out]; rfl) (Nat.zero_le _) _ (by rw [List.append_nil]; exact HBD.out) HB.out).mono ?_
        rintro e v ⟨rfl, h1, h2⟩
        have H1 := Lib.hid h1
        have H2 := Lib.hid h2
        clear h1 h2
        go_wp2
        go_roundw
        case rel => exact ⟨1, by omega, by go_num, H1.out, H2.out⟩
        case measure => simp [intOf]; omega
      · have hd0 : decide ((0 : Int) < k) = true := decide_eq_true (by omega)
        have hw1 : IntKind.i64.wrap ((k : Int) - 1) = ((k - 1 : Nat) : Int) := by rw [IntKind.wrap_i64]; omega
        obtain ⟨g', hgg, hg', hcp⟩ := HCS.out (k - 1) (by omega)
        obtain rfl : g = g' := by simpa using hgg
        have hcp2 : wr.cell? ⟨g, k - 1, none⟩ = some (.string (sAt L (k - 1))) := by rw [HB.out.cell (by exact hg)]; exact hcp
        have hk1I : ((k - 1 : Nat) : Int) < n := by omega
        rw [if_neg hk0] at HJK
        clear hgg hg' hcp
        generalize hsp : sAt L (k - 1) = p at *
        clear hsp
        go_wp2_with fail
        refine (joinsNext_any p _).mono ?_
        rintro e v ⟨rfl, rfl⟩
        unfold spcL at HJK
        cases hn : nextB p
        · rw [hn] at HJK
          go_wp2_with fail
          refine (joinsPrev_any s _).mono ?_
          rintro e v ⟨rfl, rfl⟩
          cases hp : prevB s
          · rw [hp] at HJK
            go_wp2_with fail
            refine (bd_byte_any _ _ _ 32 _ HBD.out (by rw [Lib.byteCells_length]; have := HJ.out k hk; omega) HB.out.size).mono ?_
            rintro e v ⟨rfl, h1, h2⟩
            have H1 : Hid (BdIs u.heap.size u.heap.size (Lib.byteCells (joinN L k ++ [32])) v) := Lib.hid (.inr (by rw [Lib.byteCells_append]; exact h1))
            have H2 := Lib.hid (HB.out.trans h2)
            clear h1 h2
            go_wp2_with fail
            refine (HFIN.out [32] (by rw [HJK.out]; rfl) (Nat.le_refl _) _ H1.out H2.out).mono ?_
            rintro e v3 ⟨rfl, h1, h2⟩
            have H3 := Lib.hid h1
            have H4 := Lib.hid h2
            clear h1 h2
            go_wp2
            go_roundw
            case rel => exact ⟨k + 1, by omega, by go_num, H3.out, H4.out⟩
            case measure => simp [intOf]; omega
          · rw [hp] at HJK
            go_wp2_with fail
            refine (HFIN.out [] (by rw [HJK.out]; rfl) (Nat.zero_le _) _ (by rw [List.append_nil]; exact HBD.out) HB.out).mono ?_
            rintro e v3 ⟨rfl, h1, h2⟩
            have H3 := Lib.hid h1
            have H4 := Lib.hid h2
            clear h1 h2
            go_wp2
            go_roundw
            case rel => exact ⟨k + 1, by omega, by go_num, H3.out, H4.out⟩
            case measure => simp [intOf]; omega
        · rw [hn] at HJK
          go_wp2_with fail
          refine (HFIN.out [] (by rw [HJK.out]; rfl) (Nat.zero_le _) _ (by rw [List.append_nil]; exact HBD.out) HB.out).mono ?_
          rintro e v3 ⟨rfl, h1, h2⟩
          have H3 := Lib.hid h1
          have H4 := Lib.hid h2
          clear h1 h2
          go_wp2
          go_roundw
          case rel => exact ⟨k + 1, by omega, by go_num, H3.out, H4.out⟩
          case measure => simp [intOf]; omega
    · have hlt' : decide ((k : Int) < n) = false := decide_eq_false (by omega)
      obtain rfl : k = n := by omega
      go_wp2_with fail
      refine (Tryz.Builder_String_any u.heap.size u.heap.size (joinN L k) _ HBD.out HB.out.size).mono ?_
      rintro e v3 ⟨rfl, h2⟩
      have H2 := Lib.hid (HB.out.trans h2)
      clear h2
      go_wp2
      go_ret
      exact ⟨by rw [HR.out]; rfl, H2.out⟩
end Go.Proofs.YtlpaphgmdcpmaaaGreatDoor
/-
  ValidExpr of package syntax, and what it calls.
-/
namespace Go.Proofs.YtlpaphgmdcpmaaaGreatDoor
set_option maxRecDepth 100000
open Go.RowKit
variable {ls : List Nat}

theorem eqT_lit (s : ByteArray) (l : List UInt8) : eqT s ⟨l.toArray⟩ = decide (s.toList = l) := by
  unfold eqT
  rw [ByteArray.toList_eq ⟨l.toArray⟩]
  show (s.toList == l.toArray.toList) = _
  rw [List.toList_toArray]
  by_cases h : s.toList = l
  · rw [h]; simp
  · rw [decide_eq_false h]; simpa using h
def insB : ByteArray := ⟨#[73, 78, 83, 69, 82, 84, 69, 68]⟩
def delB : ByteArray := ⟨#[68, 69, 76, 69, 84, 69, 68]⟩
set_option maxHeartbeats 1000000 in
theorem source_any (s : ByteArray) (w : World) (hs : s.size ≤ 9223372036854775807) :
    Calls Tryz.prog 70 #[.string s] w fun e w' => e = .returned (.bool (srcB s)) ∧ Below w.heap.size w w' := by
  have hd : srcB s = (nameOK s || decide (s.toList = [73, 78, 83, 69, 82, 84, 69, 68]) || decide (s.toList = [68, 69, 76, 69, 84, 69, 68])) := by rw [← eqT_lit, ← eqT_lit]; rfl
  have HC := Lib.hid (validName_any s)
  have HS := Lib.hid hs
  clear hs
  by_cases h1 : s.toList = [73, 78, 83, 69, 82, 84, 69, 68]
  · have HD := Lib.hid (show srcB s = true by rw [hd, decide_eq_true h1]; simp)
    clear hd
    go_enter Tryz.func70, Tryz.ntmps70
    go_wp2
    go_ret
    exact ⟨ret_bool HD.out.symm, Below.refl _ _⟩
  · by_cases h2 : s.toList = [68, 69, 76, 69, 84, 69, 68]
    · have HD := Lib.hid (show srcB s = true by rw [hd, decide_eq_true h2]; simp)
      clear hd
      go_enter Tryz.func70, Tryz.ntmps70
      go_wp2
      go_ret
      exact ⟨ret_bool HD.out.symm, Below.refl _ _⟩
    · have HD := Lib.hid (show srcB s = nameOK s by rw [hd, decide_eq_false h1, decide_eq_false h2]; simp)
      have e1 : (s.toList == [73, 78, 83, 69, 82, 84, 69, 68]) = false := by simpa using h1
      have e2 : (s.toList == [68, 69, 76, 69, 84, 69, 68]) = false := by simpa using h2
      clear hd h1 h2
      go_enter Tryz.func70, Tryz.ntmps70
      go_wp2_with fail
      refine (HC.out _ HS.out).mono ?_
      rintro e w2 ⟨rfl, hb⟩
      have HB := Lib.hid hb
      clear hb
      go_wp2
      go_ret
      exact ⟨ret_bool HD.out.symm, HB.out⟩
set_option maxHeartbeats 1000000 in
theorem qualifier_any (s : ByteArray) (w : World) (hs : s.size ≤ 9223372036854775807) :
    Calls Tryz.prog 38 #[.string s] w fun e w' => e = .returned (.bool (qualB s)) ∧ Below w.heap.size w w' := by
  have hd : qualB s = (decide (s.toList = []) || srcB s || decide (s.toList = [78, 69, 87]) || decide (s.toList = [79, 76, 68])) := by rw [← eqT_lit, ← eqT_lit, ← eqT_lit]; rfl
  have HC := Lib.hid (source_any s)
  have HS := Lib.hid hs
  clear hs
  by_cases h0 : s.toList = []
  · have HD := Lib.hid (show qualB s = true by rw [hd, decide_eq_true h0]; simp)
    clear hd
    go_enter Tryz.func38, Tryz.ntmps38
    go_wp2
    go_ret
    exact ⟨ret_bool HD.out.symm, Below.refl _ _⟩
  · by_cases h1 : s.toList = [78, 69, 87]
    · have HD := Lib.hid (show qualB s = true by rw [hd, decide_eq_true h1]; simp)
      clear hd
      go_enter Tryz.func38, Tryz.ntmps38
      go_wp2
      go_ret
      exact ⟨ret_bool HD.out.symm, Below.refl _ _⟩
    · by_cases h2 : s.toList = [79, 76, 68]
      · have HD := Lib.hid (show qualB s = true by rw [hd, decide_eq_true h2]; simp)
        clear hd
        go_enter Tryz.func38, Tryz.ntmps38
        go_wp2
        go_ret
        exact ⟨ret_bool HD.out.symm, Below.refl _ _⟩
      · have HD := Lib.hid (show qualB s = srcB s by rw [hd, decide_eq_false h0, decide_eq_false h1, decide_eq_false h2]; simp)
        have e0 : s.toList.isEmpty = false := by simpa using h0
        have e1 : (s.toList == [78, 69, 87]) = false := by simpa using h1
        have e2 : (s.toList == [79, 76, 68]) = false := by simpa using h2
        clear hd h0 h1 h2
        go_enter Tryz.func38, Tryz.ntmps38
        go_wp2_with fail
        refine (HC.out _ HS.out).mono ?_
        rintro e w2 ⟨rfl, hb⟩
        have HB := Lib.hid hb
        clear hb
        go_wp2
        go_ret
        exact ⟨ret_bool HD.out.symm, HB.out⟩
def hasR (k : Int) (st : Bool) (n : Nat) : Bool := if k = 8 then st && decide (n = 0) else if k = 9 then !st && decide (n = 0) else !st && decide (n = 1)
theorem hasR_other {k : Int} (h8 : ¬ k = 8) (h9 : ¬ k = 9) (st : Bool) (n : Nat) : hasR k st n = (!st && decide (n = 1)) := by unfold hasR; rw [if_neg h8, if_neg h9]
set_option maxHeartbeats 1000000 in
theorem hasItems_any (k : Int) (st : Bool) (p q : Option Addr) (n c n' c' : Nat) (fr : ByteArray) (w : World) :
    Calls Tryz.prog 41 #[.int .i64 k, .agg #[.bool st, .slice p n c, .string fr, .slice q n' c']] w fun e w' => e = .returned (.bool (hasR k st n)) ∧ Below w.heap.size w w' := by
  have HB := Lib.hid (below_alloc w (.cells #[.bool st, .slice p n c, .string fr, .slice q n' c'] 53))
  by_cases h8 : k = 8
  · subst h8
    cases st
    · go_enter Tryz.func41, Tryz.ntmps41
      go_wp2
      go_ret
      exact ⟨ret_bool (by simp [hasR]), HB.out⟩
    · go_enter Tryz.func41, Tryz.ntmps41
      go_wp2
      go_ret
      refine ⟨ret_bool ?_, HB.out⟩
      by_cases h : n = 0 <;> simp [hasR, h]
  · by_cases h9 : k = 9
    · subst h9
      cases st
      · go_enter Tryz.func41, Tryz.ntmps41
        go_wp2
        go_ret
        refine ⟨ret_bool ?_, HB.out⟩
        by_cases h : n = 0 <;> simp [hasR, h]
      · go_enter Tryz.func41, Tryz.ntmps41
        go_wp2
        go_ret
        exact ⟨ret_bool (by simp [hasR]), HB.out⟩
    · have HD := Lib.hid (hasR_other h8 h9)
      have e8 : (k == 8) = false := beq_eq_false_iff_ne.2 h8
      have e9 : (k == 9) = false := beq_eq_false_iff_ne.2 h9
      clear h8 h9
      cases st
      · go_enter Tryz.func41, Tryz.ntmps41
        go_wp2
        go_ret
        refine ⟨ret_bool ?_, HB.out⟩
        rw [HD.out]
        by_cases h : n = 1 <;> simp [h] <;> omega
      · go_enter Tryz.func41, Tryz.ntmps41
        go_wp2
        go_ret
        exact ⟨ret_bool (by rw [HD.out]; rfl), HB.out⟩
/-- ValidExpr over trees of at most d storeys. -/
def ValDoes (ls : List Nat) (d : Nat) : Prop := ∀ (N : Nat → Prop) (e : Ex) (w : World), ExAt N w d e → Env ls w →
    Calls Tryz.prog 26 #[exV e] w fun r w' => r = .returned (.bool (vE d e)) ∧ Below w.heap.size w w'
theorem all_hit {V : Ex → Bool} {l : List Ex} {k : Nat} (hk : k < l.length) (h : V (eAt l k) = false) : l.all V = false := by
  rw [Bool.eq_false_iff]
  intro ha
  have := List.all_eq_true.1 ha _ (eAt_mem hk)
  rw [h] at this; cases this
theorem all_none {V : Ex → Bool} {l : List Ex} (h : ∀ j, j < l.length → V (eAt l j) = true) : l.all V = true := by
  rw [List.all_eq_true]
  intro e he
  obtain ⟨i, hi, rfl⟩ := mem_eAt he
  exact h i hi
set_option maxHeartbeats 1000000 in
theorem validExprs_any {d : Nat} (H : ValDoes ls d) {N : Nat → Prop} (p : Option Addr) (l : List Ex) (cap : Nat) (w : World) (hA : LAt N w (ExAt N w d) p l) (hz : l.length ≤ 9223372036854775807) (hE : Env ls w) :
    Calls Tryz.prog 39 #[.slice p l.length cap] w fun r w' => r = .returned (.bool (l.all (vE d))) ∧ Below w.heap.size w w' := by
  have HA := Lib.hid hA
  have HE := Lib.hid hE
  have HD := Lib.hid H
  clear hA hE H
  have HH := Lib.hid (fun k hk h => all_hit (V := vE d) (l := l) (k := k) hk h)
  have HNN := Lib.hid (fun h => all_none (V := vE d) (l := l) h)
  generalize l.all (vE d) = res at *
  generalize hn : l.length = n at *
  have HN := Lib.hid hn
  clear hn
  go_enter Tryz.func39, Tryz.ntmps39
  go_wp2_with fail
  go_loopw [7] (fun i v => ∃ k : Nat, k ≤ n ∧ i = .int .i64 k ∧ (∀ j, j < k → vE d (eAt l j) = true) ∧ Below w.heap.size w v) (fun i _ => n - (intOf i).toNat)
  case atStart => exact ⟨0, Nat.zero_le _, rfl, fun j hj => by omega, Below.refl _ _⟩
  case round =>
    obtain ⟨k, hk, rfl, ha, hb⟩ := hrel
    have HB := Lib.hid hb
    have HAK := Lib.hid ha
    clear hb ha
    by_cases hlt : k < n
    · have hlt' : decide ((k : Int) < n) = true := decide_eq_true (by omega)
      have hkl : k < l.length := by rw [HN.out]; exact hlt
      obtain ⟨g, o, rfl, hg, hN, hC, hX⟩ := HA.out.low HB.out k hkl
      have HX := Lib.hid hX
      have HHK := Lib.hid (HH.out k hlt)
      clear hX
      obtain ⟨c0, c1, c2, c3, c4, c5, c6, c7, c8, c9⟩ := hC
      generalize hxe : eAt l k = x at *
      have HXE := Lib.hid hxe
      clear hxe
      go_wp2_with fail
      refine (HD.out N x _ (HX.out.low (below_alloc _ _)) ((HE.out.low HB.out).alloc _)).mono ?_
      rintro e w' ⟨rfl, hb⟩
      have HB2 := Lib.hid (below_next HB.out (Below.of_alloc hb))
      clear hb c0 c1 c2 c3 c4 c5 c6 c7 c8 c9
      cases hv : vE d x
      · have HV := Lib.hid (HHK.out hv)
        clear hv
        go_wp2
        go_ret
        exact ⟨ret_bool HV.out.symm, HB2.out⟩
      · have HV := Lib.hid hv
        clear hv
        go_wp2
        go_roundw
        case rel => exact ⟨k + 1, by omega, by go_num, all_succ HAK.out (by rw [HXE.out]; exact HV.out), HB2.out⟩
        case measure => simp [intOf]; omega
    · have hlt' : decide ((k : Int) < n) = false := decide_eq_false (by omega)
      obtain rfl : k = n := by omega
      have HV := Lib.hid (HNN.out HAK.out)
      go_wp2
      go_ret
      exact ⟨ret_bool HV.out.symm, HB.out⟩
end Go.Proofs.YtlpaphgmdcpmaaaGreatDoor
/-
  ValidExpr of package syntax: conditions, queries, the whole.
-/
namespace Go.Proofs.YtlpaphgmdcpmaaaGreatDoor
set_option maxRecDepth 100000
open Go.RowKit
variable {ls : List Nat}

set_option maxHeartbeats 1000000 in
theorem validCond_any {d : Nat} (H : ValDoes ls d) {N : Nat → Prop} (p : Option Addr) (l : List Ex) (cap : Nat) (w : World) (hA : LAt N w (ExAt N w d) p l) (hz : l.length ≤ 9223372036854775807) (hE : Env ls w) :
    Calls Tryz.prog 71 #[.slice p l.length cap] w fun r w' => r = .returned (.bool (decide (l.length ≤ 1) && l.all (vE d))) ∧ Below w.heap.size w w' := by
  have HC := Lib.hid (validExprs_any H p l cap w hA hz hE)
  clear hA hE H
  generalize l.all (vE d) = AA at *
  generalize l.length = n at *
  by_cases h : n ≤ 1
  · have HD := Lib.hid (show (decide (n ≤ 1) && AA) = AA by rw [decide_eq_true h]; rfl)
    have hn : decide ((n : Int) ≤ 1) = true := decide_eq_true (by omega)
    go_enter Tryz.func71, Tryz.ntmps71
    go_wp2_with fail
    refine HC.out.mono ?_
    rintro e w2 ⟨rfl, hb⟩
    have HB := Lib.hid hb
    clear hb
    go_wp2
    go_ret
    exact ⟨ret_bool HD.out.symm, HB.out⟩
  · have HD := Lib.hid (show (decide (n ≤ 1) && AA) = false by rw [decide_eq_false h]; rfl)
    have hn : decide ((n : Int) ≤ 1) = false := decide_eq_false (by omega)
    go_enter Tryz.func71, Tryz.ntmps71
    go_wp2
    go_ret
    exact ⟨ret_bool HD.out.symm, Below.refl _ _⟩
set_option maxHeartbeats 1000000 in
theorem validParts_any {d : Nat} (H : ValDoes ls d) {N : Nat → Prop} (q : Qu) (w : World) (hq : QuIn N w (ExAt N w d) q) (hE : Env ls w) :
    Calls Tryz.prog 42 #[quV q] w fun r w' => r = .returned (.bool (partsB (vE d) q)) ∧ Below w.heap.size w w' := by
  have HC := Lib.hid fun u hb => validCond_any H q.pw q.wh q.cw u (hq.low hb).wh hq.lenw (hE.low hb)
  have HI := Lib.hid fun u hb => validExprs_any H q.pi q.items q.ci u (hq.low hb).items hq.leni (hE.low hb)
  have HS := Lib.hid hq.size
  have hb0 := below_alloc w (.cells #[.bool q.st, .slice q.pi q.items.length q.ci, .string q.fr, .slice q.pw q.wh.length q.cw] 53)
  have HX := Lib.hid (QuBx.new w q 53)
  have HB0 := Lib.hid hb0
  clear hq hE H hb0
  unfold quV partsB
  generalize q.items.all (vE d) = AI at *
  generalize (decide (q.wh.length ≤ 1) && q.wh.all (vE d)) = AW at *
  generalize q.items.length = ni at *
  generalize q.wh.length = nw at *
  generalize q.st = st at *
  generalize q.pi = pi at *
  generalize q.ci = ci at *
  generalize q.fr = fr at *
  generalize q.pw = pw at *
  generalize q.cw = cw at *
  go_enter Tryz.func42, Tryz.ntmps42
  go_wp2_with fail
  refine (source_any fr _ HS.out).mono ?_
  rintro e w2 ⟨rfl, hb2⟩
  have HB2 := Lib.hid (below_next HB0.out hb2)
  have HX2 : Hid (w2.cell? ⟨w.heap.size, 1, none⟩ = some (.slice pi ni ci) ∧ w2.cell? ⟨w.heap.size, 3, none⟩ = some (.slice pw nw cw) ∧ w.heap.size < w2.heap.size) := Lib.hid ⟨by rw [hb2.cell (by simp)]; go_simp, by rw [hb2.cell (by simp)]; go_simp, Nat.lt_of_lt_of_le (by simp) hb2.size⟩
  clear hb2 HX
  obtain ⟨x1, x3, xl⟩ := HX2.out
  cases hs : srcB fr
  · have HV := Lib.hid hs
    clear hs
    go_wp2
    go_ret
    exact ⟨ret_bool (by simp [HV.out]), HB2.out⟩
  · have HV := Lib.hid hs
    clear hs
    go_wp2_with fail
    refine (HC.out _ HB2.out).mono ?_
    rintro e w3 ⟨rfl, hb3⟩
    have HB3 := Lib.hid (below_next HB2.out hb3)
    have y1 : w3.cell? ⟨w.heap.size, 1, none⟩ = some (.slice pi ni ci) := by rw [hb3.cell (by exact xl)]; exact x1
    clear hb3 x1 x3 xl HX2
    cases AW
    · go_wp2
      go_ret
      exact ⟨ret_bool (by simp [HV.out]), HB3.out⟩
    · go_wp2_with fail
      refine (HI.out _ HB3.out).mono ?_
      rintro e w4 ⟨rfl, hb4⟩
      have HB4 := Lib.hid (below_next HB3.out hb4)
      clear hb4
      go_wp2
      go_ret
      exact ⟨ret_bool (by simp [HV.out]), HB4.out⟩
theorem kindV_1 {V : Ex → Bool} {e : Ex} (h : e.k = 1) : kindV V e = (validB e.vk e.vi e.vt && decide (0 ≤ e.vi)) := by unfold kindV; rw [if_pos h]
theorem kindV_2 {V : Ex → Bool} {e : Ex} (h : e.k = 2) : kindV V e = (nameOK e.nm && qualB e.tb) := by unfold kindV; rw [if_neg (by omega), if_pos h]
theorem kindV_3 {V : Ex → Bool} {e : Ex} (h : e.k = 3 ∨ e.k = 4 ∨ e.k = 6) : kindV V e = (decide (e.args.length = 1) && e.args.all V) := by unfold kindV; rw [if_neg (by omega), if_neg (by omega), if_pos h]
theorem kindV_5 {V : Ex → Bool} {e : Ex} (h : e.k = 5) : kindV V e = (decide (1 ≤ e.op ∧ e.op ≤ 13) && decide (e.args.length = 2) && e.args.all V) := by unfold kindV; rw [if_neg (by omega), if_neg (by omega), if_neg (by omega), if_pos h]
theorem kindV_7 {V : Ex → Bool} {e : Ex} (h : e.k = 7) : kindV V e = (decide (e.args.length = 3) && e.args.all V) := by unfold kindV; rw [if_neg (by omega), if_neg (by omega), if_neg (by omega), if_neg (by omega), if_pos h]
theorem kindV_8 {V : Ex → Bool} {e : Ex} (h : 8 ≤ e.k) : kindV V e = (decide (e.sub.length = 1) && hasR e.k (qAt e.sub 0).st (qAt e.sub 0).items.length && partsB V (qAt e.sub 0)) := by unfold kindV; rw [if_neg (by omega), if_neg (by omega), if_neg (by omega), if_neg (by omega), if_neg (by omega)]; rfl
theorem fitB_range {k op vk vi : Int} {no : Bool} {vt tb nm : ByteArray} {n n' : Nat} (h : fitB k op vk vi no vt tb nm n n' = true) : 1 ≤ k ∧ k ≤ 12 := by
  unfold fitB at h
  simp only [Bool.and_eq_true, decide_eq_true_eq] at h
  exact h.1
set_option maxHeartbeats 8000000 in
theorem valid_core (k op vk vi : Int) (no : Bool) (vt tb nm : ByteArray) (pa ps : Option Addr) (na ca ns cs : Nat) (KV AA PB : Bool) (q : Qu) (w : World) (hE : Env ls w) (hu : 4 ∈ ls)
    (hvt : vt.size ≤ 9223372036854775807) (htb : tb.size ≤ 9223372036854775807) (hnm : nm.size ≤ 9223372036854775807)
    (e1 : k = 1 → KV = (validB vk vi vt && decide (0 ≤ vi))) (e2 : k = 2 → KV = (nameOK nm && qualB tb)) (e3 : k = 3 ∨ k = 4 ∨ k = 6 → KV = (decide (na = 1) && AA)) (e5 : k = 5 → KV = (decide (1 ≤ op ∧ op ≤ 13) && decide (na = 2) && AA)) (e7 : k = 7 → KV = (decide (na = 3) && AA)) (e8 : 8 ≤ k → KV = (decide (ns = 1) && hasR k q.st q.items.length && PB))
    (h1 : ∀ u, Below w.heap.size w u → Calls Tryz.prog 39 #[.slice pa na ca] u fun r w' => r = .returned (.bool AA) ∧ Below u.heap.size u w')
    (h2 : ∀ u, Below w.heap.size w u → 0 < ns → ∃ g o, ps = some ⟨g, o, none⟩ ∧ g < u.heap.size ∧ QuC u g o q)
    (h3 : ∀ u, Below w.heap.size w u → 0 < ns → Calls Tryz.prog 42 #[quV q] u fun r w' => r = .returned (.bool PB) ∧ Below u.heap.size u w') :
    Calls Tryz.prog 26 #[.agg #[.int .i64 k, .int .i64 op, .bool no, .int .i64 vk, .int .i64 vi, .string vt, .string tb, .string nm, .slice pa na ca, .slice ps ns cs]] w fun r w' => r = .returned (.bool (fitB k op vk vi no vt tb nm na ns && KV)) ∧ Below w.heap.size w w' := by
  have hb0 := below_alloc w (.cells #[.int .i64 k, .int .i64 op, .bool no, .int .i64 vk, .int .i64 vi, .string vt, .string tb, .string nm, .slice pa na ca, .slice ps ns cs] 27)
  have HSP := Lib.hid (spare_c (ls := ls) k op vk vi no vt tb nm pa ps na ca ns cs _ (hE.alloc (.cells #[.int .i64 k, .int .i64 op, .bool no, .int .i64 vk, .int .i64 vi, .string vt, .string tb, .string nm, .slice pa na ca, .slice ps ns cs] 27)) hu)
  have hl : w.heap.size < (w.alloc (.cells #[.int .i64 k, .int .i64 op, .bool no, .int .i64 vk, .int .i64 vi, .string vt, .string tb, .string nm, .slice pa na ca, .slice ps ns cs] 27)).heap.size := by simp
  have z0 : (w.alloc (.cells #[.int .i64 k, .int .i64 op, .bool no, .int .i64 vk, .int .i64 vi, .string vt, .string tb, .string nm, .slice pa na ca, .slice ps ns cs] 27)).cell? ⟨w.heap.size, 0, none⟩ = some (.int .i64 k) := by go_simp
  have z1 : (w.alloc (.cells #[.int .i64 k, .int .i64 op, .bool no, .int .i64 vk, .int .i64 vi, .string vt, .string tb, .string nm, .slice pa na ca, .slice ps ns cs] 27)).cell? ⟨w.heap.size, 1, none⟩ = some (.int .i64 op) := by go_simp
  have z3 : (w.alloc (.cells #[.int .i64 k, .int .i64 op, .bool no, .int .i64 vk, .int .i64 vi, .string vt, .string tb, .string nm, .slice pa na ca, .slice ps ns cs] 27)).cell? ⟨w.heap.size, 3, none⟩ = some (.int .i64 vk) := by go_simp
  have z4 : (w.alloc (.cells #[.int .i64 k, .int .i64 op, .bool no, .int .i64 vk, .int .i64 vi, .string vt, .string tb, .string nm, .slice pa na ca, .slice ps ns cs] 27)).cell? ⟨w.heap.size, 4, none⟩ = some (.int .i64 vi) := by go_simp
  have z5 : (w.alloc (.cells #[.int .i64 k, .int .i64 op, .bool no, .int .i64 vk, .int .i64 vi, .string vt, .string tb, .string nm, .slice pa na ca, .slice ps ns cs] 27)).cell? ⟨w.heap.size, 5, none⟩ = some (.string vt) := by go_simp
  have z6 : (w.alloc (.cells #[.int .i64 k, .int .i64 op, .bool no, .int .i64 vk, .int .i64 vi, .string vt, .string tb, .string nm, .slice pa na ca, .slice ps ns cs] 27)).cell? ⟨w.heap.size, 6, none⟩ = some (.string tb) := by go_simp
  have z7 : (w.alloc (.cells #[.int .i64 k, .int .i64 op, .bool no, .int .i64 vk, .int .i64 vi, .string vt, .string tb, .string nm, .slice pa na ca, .slice ps ns cs] 27)).cell? ⟨w.heap.size, 7, none⟩ = some (.string nm) := by go_simp
  have z8 : (w.alloc (.cells #[.int .i64 k, .int .i64 op, .bool no, .int .i64 vk, .int .i64 vi, .string vt, .string tb, .string nm, .slice pa na ca, .slice ps ns cs] 27)).cell? ⟨w.heap.size, 8, none⟩ = some (.slice pa na ca) := by go_simp
  have z9 : (w.alloc (.cells #[.int .i64 k, .int .i64 op, .bool no, .int .i64 vk, .int .i64 vi, .string vt, .string tb, .string nm, .slice pa na ca, .slice ps ns cs] 27)).cell? ⟨w.heap.size, 9, none⟩ = some (.slice ps ns cs) := by go_simp
  have HB0 := Lib.hid hb0
  have H1 := Lib.hid h1
  have H2 := Lib.hid h2
  have H3 := Lib.hid h3
  have HVT := Lib.hid hvt
  have HTB := Lib.hid htb
  have HNM := Lib.hid hnm
  have HEE := Lib.hid hE
  clear hb0 h1 h2 h3 hvt htb hnm hE
  go_enter Tryz.func26, Tryz.ntmps26
  go_wp2_with fail
  refine HSP.out.mono ?_
  rintro e w2 ⟨rfl, hb2⟩
  have HB2 := Lib.hid (below_next HB0.out hb2)
  have hl2 : w.heap.size < w2.heap.size := Nat.lt_of_lt_of_le hl hb2.size
  have x0 : w2.cell? ⟨w.heap.size, 0, none⟩ = some (.int .i64 k) := by rw [hb2.cell (by exact hl)]; exact z0
  have x1 : w2.cell? ⟨w.heap.size, 1, none⟩ = some (.int .i64 op) := by rw [hb2.cell (by exact hl)]; exact z1
  have x3 : w2.cell? ⟨w.heap.size, 3, none⟩ = some (.int .i64 vk) := by rw [hb2.cell (by exact hl)]; exact z3
  have x4 : w2.cell? ⟨w.heap.size, 4, none⟩ = some (.int .i64 vi) := by rw [hb2.cell (by exact hl)]; exact z4
  have x5 : w2.cell? ⟨w.heap.size, 5, none⟩ = some (.string vt) := by rw [hb2.cell (by exact hl)]; exact z5
  have x6 : w2.cell? ⟨w.heap.size, 6, none⟩ = some (.string tb) := by rw [hb2.cell (by exact hl)]; exact z6
  have x7 : w2.cell? ⟨w.heap.size, 7, none⟩ = some (.string nm) := by rw [hb2.cell (by exact hl)]; exact z7
  have x8 : w2.cell? ⟨w.heap.size, 8, none⟩ = some (.slice pa na ca) := by rw [hb2.cell (by exact hl)]; exact z8
  have x9 : w2.cell? ⟨w.heap.size, 9, none⟩ = some (.slice ps ns cs) := by rw [hb2.cell (by exact hl)]; exact z9
  clear hb2 hl z0 z1 z3 z4 z5 z6 z7 z8 z9 HSP
  cases hf : fitB k op vk vi no vt tb nm na ns
  · have HF := Lib.hid hf
    clear hf
    go_wp2
    go_ret
    exact ⟨ret_bool (by rw [HF.out]; rfl), HB2.out⟩
  · obtain ⟨hlo, hhi⟩ := fitB_range hf
    have HF := Lib.hid hf
    clear hf
    have hkk : k = 1 ∨ k = 2 ∨ (k = 3 ∨ k = 4 ∨ k = 6) ∨ k = 5 ∨ k = 7 ∨ 8 ≤ k := by omega
    rcases hkk with hk | hk | hk | hk | hk | hk
    · have HKV := Lib.hid (e1 hk)
      subst hk
      clear e1 e2 e3 e5 e7 e8
      go_wp2_with fail
      refine (valid_any vk vi vt _ HVT.out).mono ?_
      rintro e w3 ⟨rfl, hb3⟩
      have HB3 := Lib.hid (below_next HB2.out hb3)
      have y4 : w3.cell? ⟨w.heap.size, 4, none⟩ = some (.int .i64 vi) := by rw [hb3.cell (by exact hl2)]; exact x4
      clear hb3
      cases hvb : validB vk vi vt
      · go_wp2
        go_ret
        exact ⟨ret_bool (by rw [HF.out, HKV.out, hvb]; rfl), HB3.out⟩
      · go_wp2
        go_ret
        exact ⟨ret_bool (by rw [HF.out, HKV.out, hvb]; simp), HB3.out⟩
    · have HKV := Lib.hid (e2 hk)
      subst hk
      clear e1 e2 e3 e5 e7 e8
      go_wp2_with fail
      refine (validName_any nm _ HNM.out).mono ?_
      rintro e w3 ⟨rfl, hb3⟩
      have HB3 := Lib.hid (below_next HB2.out hb3)
      have y6 : w3.cell? ⟨w.heap.size, 6, none⟩ = some (.string tb) := by rw [hb3.cell (by exact hl2)]; exact x6
      clear hb3
      cases hvb : nameOK nm
      · go_wp2
        go_ret
        exact ⟨ret_bool (by rw [HF.out, HKV.out, hvb]; rfl), HB3.out⟩
      · go_wp2_with fail
        refine (qualifier_any tb _ HTB.out).mono ?_
        rintro e w4 ⟨rfl, hb4⟩
        have HB4 := Lib.hid (below_next HB3.out hb4)
        clear hb4
        go_wp2
        go_ret
        exact ⟨ret_bool (by rw [HF.out, HKV.out, hvb]; rfl), HB4.out⟩
    · have HKV := Lib.hid (e3 hk)
      clear e1 e2 e3 e5 e7 e8
      rcases hk with rfl | rfl | rfl
      all_goals
        by_cases hn : na = 1
        · subst hn
          go_wp2_with fail
          refine (H1.out _ HB2.out).mono ?_
          rintro e w3 ⟨rfl, hb3⟩
          have HB3 := Lib.hid (below_next HB2.out hb3)
          clear hb3
          go_wp2
          go_ret
          exact ⟨ret_bool (by rw [HF.out, HKV.out]; simp), HB3.out⟩
        · have hn2 : ((na : Int) == 1) = false := beq_eq_false_iff_ne.2 (by omega)
          go_wp2
          go_ret
          exact ⟨ret_bool (by rw [HF.out, HKV.out]; simp [hn]), HB2.out⟩
    · have HKV := Lib.hid (e5 hk)
      subst hk
      clear e1 e2 e3 e5 e7 e8
      by_cases ho : 1 ≤ op ∧ op ≤ 13
      · go_wp2_with fail
        refine (validOp_yes op ho.1 ho.2 _).mono ?_
        rintro e w3 ⟨rfl, rfl⟩
        rw [decide_eq_true ho] at HKV
        by_cases hn : na = 2
        · subst hn
          go_wp2_with fail
          refine (H1.out _ HB2.out).mono ?_
          rintro e w3 ⟨rfl, hb3⟩
          have HB3 := Lib.hid (below_next HB2.out hb3)
          clear hb3
          go_wp2
          go_ret
          exact ⟨ret_bool (by rw [HF.out, HKV.out]; simp), HB3.out⟩
        · have hn2 : ((na : Int) == 2) = false := beq_eq_false_iff_ne.2 (by omega)
          go_wp2
          go_ret
          exact ⟨ret_bool (by rw [HF.out, HKV.out]; simp [hn]), HB2.out⟩
      · go_wp2_with fail
        refine (validOp_no op (by omega) _).mono ?_
        rintro e w3 ⟨rfl, rfl⟩
        rw [decide_eq_false ho] at HKV
        go_wp2
        go_ret
        exact ⟨ret_bool (by rw [HF.out, HKV.out]; rfl), HB2.out⟩
    · have HKV := Lib.hid (e7 hk)
      subst hk
      clear e1 e2 e3 e5 e7 e8
      by_cases hn : na = 3
      · subst hn
        go_wp2_with fail
        refine (H1.out _ HB2.out).mono ?_
        rintro e w3 ⟨rfl, hb3⟩
        have HB3 := Lib.hid (below_next HB2.out hb3)
        clear hb3
        go_wp2
        go_ret
        exact ⟨ret_bool (by rw [HF.out, HKV.out]; simp), HB3.out⟩
      · have hn2 : ((na : Int) == 3) = false := beq_eq_false_iff_ne.2 (by omega)
        go_wp2
        go_ret
        exact ⟨ret_bool (by rw [HF.out, HKV.out]; simp [hn]), HB2.out⟩
    · have HKV := Lib.hid (e8 hk)
      clear e1 e2 e3 e5 e7 e8
      obtain ⟨qst, qpi, qci, qit, qfr, qpw, qcw, qwh⟩ := q
      have hk5 : k = 8 ∨ k = 9 ∨ k = 10 ∨ k = 11 ∨ k = 12 := by omega
      by_cases hn : ns = 1
      · subst hn
        obtain ⟨g, o, rfl, hg, hC⟩ := H2.out w2 HB2.out (by decide)
        have y0 := hC.c0
        have y1 := hC.c1
        have y2 := hC.c2
        have y3 := hC.c3
        simp only at y0 y1 y2 y3 HKV
        have l0 := lowW_cell (W := w2) (by exact hl2) x0
        have l9 := lowW_cell (W := w2) (by exact hl2) x9
        have m0 := lowW_cell (W := w2) (by exact hg) y0
        have m1 := lowW_cell (W := w2) (by exact hg) y1
        have m2 := lowW_cell (W := w2) (by exact hg) y2
        have m3 := lowW_cell (W := w2) (by exact hg) y3
        have H3q : Hid (∀ u, Below w.heap.size w u → Calls Tryz.prog 42 #[.agg #[.bool qst, .slice qpi qit.length qci, .string qfr, .slice qpw qwh.length qcw]] u fun r w' => r = .returned (.bool PB) ∧ Below u.heap.size u w') := Lib.hid (fun u hb => H3.out u hb (by decide))
        have hHI := Lib.hid (hasItems_any k qst qpi qpw qit.length qci qwh.length qcw qfr)
        generalize qit.length = qn at *
        generalize qwh.length = qm at *
        clear hC y0 y1 y2 y3 x1 x3 x4 x5 x6 x7 x8
        cases hh : hasR k qst qn
        · have HKF : Hid ((fitB k op vk vi no vt tb nm na 1 && KV) = false) := Lib.hid (by rw [HF.out, HKV.out, hh]; rfl)
          rw [hh] at hHI
          clear hh HKV HF
          rcases hk5 with rfl | rfl | rfl | rfl | rfl
          all_goals
            go_upto_region 21 with (fail)
            refine wp_region_low (by kernel_rfl) (by kernel_rfl) ?_
            repeat (refine wq_step (fun K hK => ?_); go_simp; first | (refine hK _ ?_; clear hK K) | (apply Exists.intro; refine ⟨fun _ => ?_, hK _ ?_⟩; (go_at_call 41; exact Calls.low_of (hHI.out _)); clear hK K))
            refine wq_nil ?_
            rintro _ ⟨⟨d3, os3⟩, rfl⟩
            dsimp only
            have HB3 := Lib.hid (below_next HB2.out (lowW_low w2 d3 os3))
            clear l0 l9 m0 m1 m2 m3 x0 x9 hg hl2
            generalize lowW w2 d3 os3 = W3 at HB3 ⊢
            go_wp2
            go_ret
            exact ⟨ret_bool HKF.out.symm, HB3.out⟩
        · have HKF : Hid ((fitB k op vk vi no vt tb nm na 1 && KV) = PB) := Lib.hid (by rw [HF.out, HKV.out, hh]; simp)
          rw [hh] at hHI
          clear hh HKV HF
          rcases hk5 with rfl | rfl | rfl | rfl | rfl
          all_goals
            go_upto_region 21 with (fail)
            refine wp_region_low (by kernel_rfl) (by kernel_rfl) ?_
            repeat (refine wq_step (fun K hK => ?_); go_simp; first | (refine hK _ ?_; clear hK K) | (apply Exists.intro; refine ⟨fun _ => ?_, hK _ ?_⟩; (first | (go_at_call 41; exact Calls.low_of (hHI.out _)) | (go_at_call 42; exact Calls.low_of (H3q.out _ (below_next HB2.out (lowW_low _ _ _))))); clear hK K))
            refine wq_nil ?_
            rintro _ ⟨⟨d3, os3⟩, rfl⟩
            dsimp only
            have HB3 := Lib.hid (below_next HB2.out (lowW_low w2 d3 os3))
            clear l0 l9 m0 m1 m2 m3 x0 x9 hg hl2
            generalize lowW w2 d3 os3 = W3 at HB3 ⊢
            go_wp2
            go_ret
            exact ⟨ret_bool HKF.out.symm, HB3.out⟩
      · have hn2 : ((ns : Int) == 1) = false := beq_eq_false_iff_ne.2 (by omega)
        have HKF : Hid ((fitB k op vk vi no vt tb nm na ns && KV) = false) := Lib.hid (by rw [HF.out, HKV.out, decide_eq_false hn]; rfl)
        clear HKV HF
        have l0 := lowW_cell (W := w2) (by exact hl2) x0
        have l9 := lowW_cell (W := w2) (by exact hl2) x9
        rcases hk5 with rfl | rfl | rfl | rfl | rfl
        all_goals
          go_upto_region 21 with (fail)
          refine wp_region_low (by kernel_rfl) (by kernel_rfl) ?_
          repeat (refine wq_step (fun K hK => ?_); go_simp; first | (refine hK _ ?_; clear hK K))
          refine wq_nil ?_
          rintro _ ⟨⟨d3, os3⟩, rfl⟩
          dsimp only
          have HB3 := Lib.hid (below_next HB2.out (lowW_low w2 d3 os3))
          clear l0 l9 x0 x9 hl2 x1 x3 x4 x5 x6 x7 x8
          generalize lowW w2 d3 os3 = W3 at HB3 ⊢
          go_wp2
          go_ret
          exact ⟨ret_bool HKF.out.symm, HB3.out⟩
theorem valid_step {d : Nat} (H : ValDoes ls d) (hu : 4 ∈ ls) : ValDoes ls (d + 1) := by
  intro N e w hA hE
  have hA : ExIn N w (ExAt N w d) e := hA
  show Calls _ _ _ w fun r w' => r = .returned (.bool (vOf (vE d) e)) ∧ Below w.heap.size w w'
  rw [vOf_kind]
  exact valid_core e.k e.op e.vk e.vi e.no e.vt e.tb e.nm e.pa e.ps e.args.length e.ca e.sub.length e.cs (kindV (vE d) e) (e.args.all (vE d)) (partsB (vE d) (qAt e.sub 0)) (qAt e.sub 0) w hE hu hA.vt hA.tb hA.nm
    kindV_1 kindV_2 kindV_3 kindV_5 kindV_7 kindV_8 (fun u hb => validExprs_any H e.pa e.args e.ca u (hA.args.low hb) hA.lena (hE.low hb))
    (fun u hb hs => by
      obtain ⟨g, o, h1, h2, -, h4, -⟩ := hA.sub.low hb 0 hs
      exact ⟨g, o, h1, h2, by simpa using h4⟩)
    (fun u hb hs => by
      obtain ⟨g, o, -, -, -, -, h5⟩ := hA.sub.low hb 0 hs
      exact validParts_any H (qAt e.sub 0) u h5 (hE.low hb))
theorem validExpr_any (hu : 4 ∈ ls) : ∀ d, ValDoes ls d
  | 0 => fun _ _ _ h => h.elim
  | d + 1 => valid_step (validExpr_any hu d) hu
end Go.Proofs.YtlpaphgmdcpmaaaGreatDoor
