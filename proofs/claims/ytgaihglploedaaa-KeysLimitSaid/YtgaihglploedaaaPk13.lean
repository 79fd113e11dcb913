/-
  Several texts in one.
-/
import Derived.Test.YtgaihglploedaaaPk12
import Derived.Test.YtgaihglploedaaaPk10
import Derived.Test.YtgaihglploedaaaPk01
import Derived.Test.YtgaihglploedaaaPk09
/-
  Tables: Valid and New of the reference.
-/
namespace Go.Proofs.Ytgaihglploedaaa
set_option maxRecDepth 100000
open Go.RowKit
variable {ls : List Nat}

end Go.Proofs.Ytgaihglploedaaa
/-
  Tables: New of the reference.
-/
namespace Go.Proofs.Ytgaihglploedaaa
set_option maxRecDepth 100000
open Go.RowKit
variable {ls : List Nat}

/-- What New gives. -/
def TNewPost (nm : ByteArray) (n : Nat) (f : Nat → Col) (w : World) (e : Ending) (w' : World) : Prop := ∃ (T : Tab) (er : Int), e = .returned (.tuple #[T.v, .int .i64 er]) ∧ TabAt w' T ∧ T.R = [] ∧ Below w.heap.size w w' ∧
  ((schemaOK nm n f = true ∧ er = 0 ∧ T.nm = nm ∧ T.n = n ∧ (∀ i, i < n → T.f i = f i) ∧ T.nx = 1) ∨ (schemaOK nm n f = false ∧ er = 17 ∧ T.nm = ⟨#[]⟩ ∧ T.n = 0 ∧ T.nx = 0))
theorem schemaOK_range {nm : ByteArray} {n : Nat} {f : Nat → Col} (h : schemaOK nm n f = true) : 1 ≤ n ∧ n ≤ 6 := by
  unfold schemaOK at h
  simp only [Bool.and_eq_true, decide_eq_true_eq] at h
  exact h.1.2
theorem ColsAt.ptr {w : World} {p : Option Addr} {n : Nat} {f : Nat → Col} (h : ColsAt w p n f) (hn : 0 < n) : ∃ c o, p = some ⟨c, o, none⟩ ∧ c < w.heap.size := by
  obtain ⟨c, o, hp, hc, -⟩ := h 0 hn
  exact ⟨c, o, hp, hc⟩
theorem Cell4.far {u : World} {X Y : Nat} {a b c d : Value} (h : Cell4 u X a b c d) (hn : X ≠ Y) {o : Nat} (v : Value) : Cell4 (u.setCell ⟨Y, o, none⟩ v) X a b c d := by
  have hb : ∀ o', (u.setCell ⟨Y, o, none⟩ v).cell? ⟨X, o', none⟩ = u.cell? ⟨X, o', none⟩ := fun o' => World.cell?_of_block (w := u) (Below.heap_setCell _ _ _ _ hn)
  exact ⟨by simpa [World.setCell] using h.lt, by rw [hb]; exact h.c0, by rw [hb]; exact h.c1, by rw [hb]; exact h.c2, by rw [hb]; exact h.c3, fun o' => by rw [World.frozen?_setCell]; exact h.fz o'⟩
theorem Cell4.set2 {u : World} {X : Nat} {a b c d : Value} (h : Cell4 u X a b c d) (y : Value) : Cell4 (u.setCell ⟨X, 2, none⟩ y) X a b y d := by
  obtain ⟨hl, c0, c1, c2, c3, fz⟩ := h
  refine ⟨by simpa [World.setCell] using hl, ?_, ?_, ?_, ?_, fun o => ?_⟩
  · go_simp
  · go_simp
  · go_simp
  · go_simp
  · rw [World.frozen?_setCell]; exact fz o
theorem Cell4.set3 {u : World} {X : Nat} {a b c d : Value} (h : Cell4 u X a b c d) (y : Value) : Cell4 (u.setCell ⟨X, 3, none⟩ y) X a b c y := by
  obtain ⟨hl, c0, c1, c2, c3, fz⟩ := h
  refine ⟨by simpa [World.setCell] using hl, ?_, ?_, ?_, ?_, fun o => ?_⟩
  · go_simp
  · go_simp
  · go_simp
  · go_simp
  · rw [World.frozen?_setCell]; exact fz o
theorem cell4_put (u : World) {X : Nat} {a b c d : Value} (h : Cell4 u X a b c d) (x y z t : Value) : Cell4 ((((u.setCell ⟨X, 0, none⟩ x).setCell ⟨X, 1, none⟩ y).setCell ⟨X, 2, none⟩ z).setCell ⟨X, 3, none⟩ t) X x y z t := by
  obtain ⟨hl, c0, c1, c2, c3, fz⟩ := h
  refine ⟨by simpa [World.setCell] using hl, ?_, ?_, ?_, ?_, fun o => ?_⟩
  · go_simp
  · go_simp
  · go_simp
  · go_simp
  · rw [World.frozen?_setCell, World.frozen?_setCell, World.frozen?_setCell, World.frozen?_setCell]; exact fz o
def zeroTab : Tab := ⟨⟨#[]⟩, none, 0, 0, fun _ => default, 0, none, 0, []⟩
theorem zeroTab_at (w : World) : TabAt w zeroTab := ⟨by decide, by decide, (fun i hi => absurd hi (Nat.not_lt_zero _)), TRowsAt.nil _ _, by decide, fun r hr => absurd hr (List.not_mem_nil), by decide⟩
end Go.Proofs.Ytgaihglploedaaa
/-
  Equal texts.
-/
namespace Go.Proofs.Ytgaihglploedaaa
set_option maxRecDepth 100000
open Go.RowKit
theorem eq_texts {a b : ByteArray} (h : a = b) : (a.toList == b.toList) = true := by rw [h]; exact beq_self_eq_true _
theorem ne_texts {a b : ByteArray} (h : a ≠ b) : (a.toList == b.toList) = false := by
  rw [beq_eq_false_iff_ne, ByteArray.toList_eq, ByteArray.toList_eq]
  exact fun hc => h (ByteArray.ext (Array.toList_inj.1 hc))

end Go.Proofs.Ytgaihglploedaaa
/-
  The schemas of the world.
-/
namespace Go.Proofs.Ytgaihglploedaaa
set_option maxRecDepth 100000
open Go.RowKit
variable {ls : List Nat}

def colLog : Nat → Col := fun i => match i with | 0 => ⟨⟨#[110]⟩, 1, false, false⟩ | _ => ⟨⟨#[115]⟩, 3, false, false⟩
def colT : Nat → Col := fun i => match i with | 0 => ⟨⟨#[105, 100]⟩, 1, true, true⟩ | 1 => ⟨⟨#[110]⟩, 1, false, false⟩ | 2 => ⟨⟨#[98]⟩, 2, false, false⟩ | _ => ⟨⟨#[115]⟩, 3, false, false⟩
def colU : Nat → Col := fun i => match i with | 0 => ⟨⟨#[105, 100]⟩, 1, true, true⟩ | 1 => ⟨⟨#[110]⟩, 1, true, false⟩ | _ => ⟨⟨#[109]⟩, 1, false, false⟩
/-- The list of the three schemas. -/
structure SchemasAt (u : World) (X Y Z U : Nat) : Prop where
  lt : X < u.heap.size
  c0 : u.cell? ⟨X, 0, none⟩ = some (.string ⟨#[108, 111, 103]⟩)
  c1 : u.cell? ⟨X, 1, none⟩ = some (.slice (some ⟨Y, 0, none⟩) 2 2)
  c2 : u.cell? ⟨X, 2, none⟩ = some (.string ⟨#[116]⟩)
  c3 : u.cell? ⟨X, 3, none⟩ = some (.slice (some ⟨Z, 0, none⟩) 4 4)
  c4 : u.cell? ⟨X, 4, none⟩ = some (.string ⟨#[117]⟩)
  c5 : u.cell? ⟨X, 5, none⟩ = some (.slice (some ⟨U, 0, none⟩) 3 3)
  logC : ColsAt u (some ⟨Y, 0, none⟩) 2 colLog
  tC : ColsAt u (some ⟨Z, 0, none⟩) 4 colT
  uC : ColsAt u (some ⟨U, 0, none⟩) 3 colU
theorem SchemasAt.low {u v : World} {X Y Z U : Nat} (h : SchemasAt u X Y Z U) (hb : Below u.heap.size u v) : SchemasAt v X Y Z U := by
  obtain ⟨hl, c0, c1, c2, c3, c4, c5, a, b, c⟩ := h
  exact ⟨Nat.lt_of_lt_of_le hl hb.size, by rw [hb.cell (by exact hl)]; exact c0, by rw [hb.cell (by exact hl)]; exact c1, by rw [hb.cell (by exact hl)]; exact c2, by rw [hb.cell (by exact hl)]; exact c3, by rw [hb.cell (by exact hl)]; exact c4, by rw [hb.cell (by exact hl)]; exact c5, a.low hb, b.low hb, c.low hb⟩

theorem log_new (w : World) (t : TypeId) : ColsAt (w.alloc (.cells #[.string ⟨#[110]⟩, .int .i64 1, .bool false, .bool false, .string ⟨#[115]⟩, .int .i64 3, .bool false, .bool false] t)) (some ⟨w.heap.size, 0, none⟩) 2 colLog := by
  intro i hi
  obtain rfl | rfl : i = 0 ∨ i = 1 := by omega
  all_goals
    refine ⟨w.heap.size, 0, rfl, by simp, by decide, ?_, ?_, ?_, ?_⟩
    all_goals simp only [colLog]; go_simp
theorem t_new (w : World) (t : TypeId) : ColsAt (w.alloc (.cells #[.string ⟨#[105, 100]⟩, .int .i64 1, .bool true, .bool true, .string ⟨#[110]⟩, .int .i64 1, .bool false, .bool false, .string ⟨#[98]⟩, .int .i64 2, .bool false, .bool false, .string ⟨#[115]⟩, .int .i64 3, .bool false, .bool false] t)) (some ⟨w.heap.size, 0, none⟩) 4 colT := by
  intro i hi
  obtain rfl | rfl | rfl | rfl : i = 0 ∨ i = 1 ∨ i = 2 ∨ i = 3 := by omega
  all_goals
    refine ⟨w.heap.size, 0, rfl, by simp, by decide, ?_, ?_, ?_, ?_⟩
    all_goals simp only [colT]; go_simp
theorem u_new (w : World) (t : TypeId) : ColsAt (w.alloc (.cells #[.string ⟨#[105, 100]⟩, .int .i64 1, .bool true, .bool true, .string ⟨#[110]⟩, .int .i64 1, .bool true, .bool false, .string ⟨#[109]⟩, .int .i64 1, .bool false, .bool false] t)) (some ⟨w.heap.size, 0, none⟩) 3 colU := by
  intro i hi
  obtain rfl | rfl | rfl : i = 0 ∨ i = 1 ∨ i = 2 := by omega
  all_goals
    refine ⟨w.heap.size, 0, rfl, by simp, by decide, ?_, ?_, ?_, ?_⟩
    all_goals simp only [colU]; go_simp

def SchemasPost (w : World) (e : Ending) (w' : World) : Prop := ∃ X Y Z U : Nat, e = .returned (.slice (some ⟨X, 0, none⟩) 3 3) ∧ SchemasAt w' X Y Z U ∧ w.heap.size ≤ X ∧ w.heap.size ≤ Y ∧ w.heap.size ≤ Z ∧ w.heap.size ≤ U ∧ Below w.heap.size w w'
set_option maxHeartbeats 1000000 in
theorem schemas_any (w : World) :
    Calls Try.prog 13 #[] w (SchemasPost w) := by
  go_enter Try.func13, Try.ntmps13
  go_wp2
  go_ret
  refine ⟨w.heap.size + 1 + 1 + 1, w.heap.size, w.heap.size + 1, w.heap.size + 1 + 1, rfl, ⟨by simp, ?_, ?_, ?_, ?_, ?_, ?_, ?_, ?_, ?_⟩, by omega, by omega, by omega, by omega, ?_⟩
  · go_simp
  · go_simp
  · go_simp
  · go_simp
  · go_simp
  · go_simp
  · exact (((log_new w _).low (below_alloc _ _)).low (below_alloc _ _)).low (below_alloc _ _)
  · exact ColsAt.low (ColsAt.low (cols_at (size_alloc _ _) (t_new _ _)) (below_alloc _ _)) (below_alloc _ _)
  · exact ColsAt.low (cols_at (by rw [size_alloc, size_alloc]) (u_new _ _)) (below_alloc _ _)
  · exact below_new (below_new (below_new (below_new (Below.refl _ _) _) _) _) _

def SchemaTPost (w : World) (e : Ending) (w' : World) : Prop := ∃ Z : Nat, e = .returned (schV ⟨#[116]⟩ (some ⟨Z, 0, none⟩) 4 4) ∧ ColsAt w' (some ⟨Z, 0, none⟩) 4 colT ∧ w.heap.size < Z ∧ Below w.heap.size w w'
set_option maxHeartbeats 1000000 in
theorem schemaT_any (w : World) :
    Calls Try.prog 7 #[.string ⟨#[116]⟩] w (SchemaTPost w) := by
  go_enter Try.func7, Try.ntmps7
  go_wp2_with fail
  refine (schemas_any _).mono ?_
  rintro e w1 ⟨X, Y, Z, U, rfl, hS, hX, hY, hZ, hU, hb⟩
  obtain ⟨hq, hb'⟩ := two_one hb
  have HZ : Hid (w.heap.size < Z) := Lib.hid (by rw [size_alloc] at hZ; omega)
  have HX : Hid (w.heap.size < X) := Lib.hid (by rw [size_alloc] at hX; omega)
  have HS := Lib.hid hS
  have HQ := Lib.hid hq
  have HB := Lib.hid hb'
  clear hX hY hZ hU hS hb hb' hq
  have e0 : ((⟨#[108, 111, 103]⟩ : ByteArray).toList == (⟨#[116]⟩ : ByteArray).toList) = false := ne_texts (by decide)
  have e1 : ((⟨#[116]⟩ : ByteArray).toList == (⟨#[116]⟩ : ByteArray).toList) = true := eq_texts rfl
  go_wp2_with fail
  go_loopw [7] (fun i v => ∃ k : Nat, k ≤ 1 ∧ i = .int .i64 k ∧ Below w.heap.size w v ∧ SchemasAt v X Y Z U ∧ Cell2 v w.heap.size (.string ⟨#[]⟩) (.slice none 0 0)) (fun i _ => 3 - (intOf i).toNat)
  case atStart => exact ⟨0, Nat.zero_le _, rfl, HB.out, HS.out, HQ.out⟩
  case round =>
    obtain ⟨k, hk, rfl, hb, hs, hq⟩ := hrel
    have HB1 := Lib.hid hb
    have HS1 := Lib.hid hs
    have HQ1 := Lib.hid hq
    obtain ⟨hl, c0, c1, c2, c3, c4, c5, hcl, hct, hcu⟩ := hs
    obtain ⟨dz, d0, d1, dfz⟩ := hq
    clear hb hcl hct hcu
    obtain rfl | rfl : k = 0 ∨ k = 1 := by omega
    · go_wp2
      go_roundw
      case rel => exact ⟨1, by omega, by go_num, below_new HB1.out _, HS1.out.low (below_alloc _ _), HQ1.out.low (below_alloc _ _)⟩
      case measure => simp [intOf]
    · go_wp2
      obtain ⟨sz, s0, s1, sf⟩ := (cell2_set HQ1.out (.string ⟨#[116]⟩) (.slice (some ⟨Z, 0, none⟩) 4 4)).low (below_alloc _ (.cells #[.string ⟨#[116]⟩, .slice (some ⟨Z, 0, none⟩) 4 4] 25))
      exact bodyPost_ret (v := schV ⟨#[116]⟩ (some ⟨Z, 0, none⟩) 4 4) (by simp [results, Try.results7, go_sem, s0, s1, schV]) rfl ⟨Z, rfl, ((HS1.out.tC.set (fun q hq => by cases hq; exact Nat.ne_of_gt HZ.out) _).set (fun q hq => by cases hq; exact Nat.ne_of_gt HZ.out) _).low (below_alloc _ _), HZ.out, below_new ((HB1.out.setCell (by exact Nat.le_refl _) _).setCell (by exact Nat.le_refl _) _) _⟩
end Go.Proofs.Ytgaihglploedaaa
