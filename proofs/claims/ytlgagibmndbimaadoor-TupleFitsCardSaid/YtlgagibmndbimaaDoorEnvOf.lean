/-
  The listed variables give the environment.
-/
import Derived.Test.YtlgagibmndbimaaDoorClose
import Derived.Shelf.Vars
namespace Go.Proofs.YtlgagibmndbimaaDoor
open Go.ChangeShapes Go.WideShapes Go.ChangeAt Go.RowKit

theorem global_size : Tryd.prog.globals.size = 3 := by kernel_rfl
theorem shape_size {W : World} (h : W.ShapedOpen Tryd.prog) : 3 ≤ W.heap.size := by
  have hz : (((begin Tryd.prog (fun _ _ => 0) default).world.heap[3 - 1]?).bind Obj.row?).isSome = true := by kernel_rfl
  obtain ⟨x, hx⟩ := Option.isSome_iff_exists.1 hz
  obtain ⟨cs, hh, -⟩ := h.1 (3 - 1) x.1 x.2 (by rw [global_size]; decide) hx
  have := (Array.getElem?_eq_some_iff.1 hh).1
  omega
theorem maxlen_of {W : World} (h : W.ShapedOpen Tryd.prog) : ∃ m, W.cell? ⟨2, 0, none⟩ = some (.int .i64 m) := by
  have hz : ((begin Tryd.prog (fun _ _ => 0) default).world.heap[2]?).bind Obj.row? = some (#[.int .i64 0], 3) := by kernel_rfl
  exact cell_of_shapedOpen_int h (by rw [global_size]; decide) hz rfl (by kernel_rfl) (by kernel_rfl) Tryd.underlying3

def wordL : List (List UInt8) := [[], [97], [98], [105, 116, 39, 115], [90, 32, 122], [126]]
def truthL : List (List UInt8) := [[70, 65, 76, 83, 69], [84, 82, 85, 69]]
/-- The listed variables that this text asks for. -/
structure Listed (ls : List Nat) (l : List (String × DataW Unit)) : Prop where
  words : 1 ∈ ls → ("triggerstore/triggerstoreworld.words", Rows.laid_triggerstore_triggerstoreworld_words) ∈ l
  cols : 0 ∈ ls → ("triggerstore/triggerstoreworld.names", Rows.laid_triggerstore_triggerstoreworld_names) ∈ l
theorem env_of {ls : List Nat} {W : World} {l : List (String × DataW Unit)} (h : laidMet Tryd.prog l W) (hs : W.ShapedOpen Tryd.prog) (hl : Listed ls l) : Env ls W := by
  have hz := shape_size hs
  constructor
  · exact hz
  · intro hm
    have rw := Lib.laidMet.reads h (hl.words hm)
    have gw : Tryd.prog.globalNamed "triggerstore/triggerstoreworld.words" = some 1 := by kernel_rfl
    have tw : (Tryd.prog.globals[1]?).map (·.type) = some 72 := by kernel_rfl
    have cw := text_cell (l := wordL) gw tw Tryd.underlying72 rw
    exact ⟨by omega, cw 0 (by decide), cw 1 (by decide), cw 2 (by decide), cw 3 (by decide), cw 4 (by decide), cw 5 (by decide)⟩
  · exact maxlen_of hs
  · intro hm
    have rn := Lib.laidMet.reads h (hl.cols hm)
    have gn : Tryd.prog.globalNamed "triggerstore/triggerstoreworld.names" = some 0 := by kernel_rfl
    have tn : (Tryd.prog.globals[0]?).map (·.type) = some 52 := by kernel_rfl
    exact fun i hi => text_cell (l := nameL) gn tn Tryd.underlying52 rn i hi
end Go.Proofs.YtlgagibmndbimaaDoor
