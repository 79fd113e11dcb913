/-
  The listed variables give the environment.
-/
import Derived.Test.YtlknbdefaobamaaDoorClose
import Derived.Shelf.Vars
namespace Go.Proofs.YtlknbdefaobamaaDoor
open Go.ChangeShapes Go.WideShapes Go.ChangeAt Go.RowKit

theorem global_size : Tryd.prog.globals.size = 8 := by kernel_rfl
theorem shape_size {W : World} (h : W.ShapedOpen Tryd.prog) : 8 ≤ W.heap.size := by
  have hz : (((begin Tryd.prog (fun _ _ => 0) default).world.heap[7]?).bind Obj.row?).isSome = true := by kernel_rfl
  obtain ⟨x, hx⟩ := Option.isSome_iff_exists.1 hz
  obtain ⟨cs, hh, -⟩ := h.1 7 x.1 x.2 (by rw [global_size]; decide) hx
  have := (Array.getElem?_eq_some_iff.1 hh).1
  omega
theorem maxlen_of {W : World} (h : W.ShapedOpen Tryd.prog) : ∃ m, W.cell? ⟨2, 0, none⟩ = some (.int .i64 m) := by
  have hz : ((begin Tryd.prog (fun _ _ => 0) default).world.heap[2]?).bind Obj.row? = some (#[.int .i64 0], 3) := by kernel_rfl
  exact cell_of_shapedOpen_int h (by rw [global_size]; decide) hz rfl (by kernel_rfl) (by kernel_rfl) Tryd.underlying3

def wordL : List (List UInt8) := [[], [97], [98], [105, 116, 39, 115], [90, 32, 122], [126]]
def truthL : List (List UInt8) := [[70, 65, 76, 83, 69], [84, 82, 85, 69]]
theorem env_of {W : World} {l : List (String × DataW Unit)} (h : laidMet Tryd.prog l W) (hs : W.ShapedOpen Tryd.prog)
    (hw : ("triggerstore/triggerstoreworld.words", Rows.laid_triggerstore_triggerstoreworld_words) ∈ l) (ht : ("triggerstore/value.truthNames", Rows.laid_triggerstore_value_truthNames) ∈ l)
    (hp : ("internal/strconv.uint64pow10", Rows.laid_internal_strconv_uint64pow10) ∈ l) : Env W := by
  have rw := Lib.laidMet.reads h hw
  have rt := Lib.laidMet.reads h ht
  have rp := Lib.laidMet.reads h hp
  have gw : Tryd.prog.globalNamed "triggerstore/triggerstoreworld.words" = some 1 := by kernel_rfl
  have gt : Tryd.prog.globalNamed "triggerstore/value.truthNames" = some 0 := by kernel_rfl
  have tw : (Tryd.prog.globals[1]?).map (·.type) = some 64 := by kernel_rfl
  have tt : (Tryd.prog.globals[0]?).map (·.type) = some 52 := by kernel_rfl
  have cw := text_cell (l := wordL) gw tw Tryd.underlying64 rw
  have ct := text_cell (l := truthL) gt tt Tryd.underlying52 rt
  have hz := shape_size hs
  refine ⟨hz, ⟨by omega, cw 0 (by decide), cw 1 (by decide), cw 2 (by decide), cw 3 (by decide), cw 4 (by decide), cw 5 (by decide)⟩, ct 0 (by decide), ct 1 (by decide), ?_, maxlen_of hs⟩
  exact table_is powG (show (Tryd.prog.globals[3]?).map (·.type) = some 83 by kernel_rfl) Tryd.underlying83 Tryd.underlying67 (by kernel_rfl) (by kernel_rfl) rfl rp
end Go.Proofs.YtlknbdefaobamaaDoor
