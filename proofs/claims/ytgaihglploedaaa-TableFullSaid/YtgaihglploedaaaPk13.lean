/-
  Several texts in one.
-/
import Derived.Test.YtgaihglploedaaaPk09
import Derived.Test.YtgaihglploedaaaPk11
import Derived.Test.YtgaihglploedaaaPk12
/-
  The schemas of the world.
-/
namespace Go.Proofs.Ytgaihglploedaaa
set_option maxRecDepth 100000
open Go.RowKit
variable {ls : List Nat}

def colLog : Nat → Col := fun i => match i with | 0 => ⟨⟨#[110]⟩, 1, false, false⟩ | _ => ⟨⟨#[115]⟩, 3, false, false⟩
def colT : Nat → Col := fun i => match i with | 0 => ⟨⟨#[105, 100]⟩, 1, true, true⟩ | 1 => ⟨⟨#[110]⟩, 1, false, false⟩ | 2 => ⟨⟨#[98]⟩, 2, false, false⟩ | _ => ⟨⟨#[115]⟩, 3, false, false⟩
def colU : Nat → Col := fun i => match i with | 0 => ⟨⟨#[105, 100]⟩, 1, true, true⟩ | 1 => ⟨⟨#[110]⟩, 1, true, false⟩ | _ => ⟨⟨#[109]⟩, 1, false, false⟩
/-- The list of the three schemas. -/
structure SchemasAt (u : World) (X Y Z U : Nat) : Prop where
  lt : X < u.heap.size
  c0 : u.cell? ⟨X, 0, none⟩ = some (.string ⟨#[108, 111, 103]⟩)
  c1 : u.cell? ⟨X, 1, none⟩ = some (.slice (some ⟨Y, 0, none⟩) 2 2)
  c2 : u.cell? ⟨X, 2, none⟩ = some (.string ⟨#[116]⟩)
  c3 : u.cell? ⟨X, 3, none⟩ = some (.slice (some ⟨Z, 0, none⟩) 4 4)
  c4 : u.cell? ⟨X, 4, none⟩ = some (.string ⟨#[117]⟩)
  c5 : u.cell? ⟨X, 5, none⟩ = some (.slice (some ⟨U, 0, none⟩) 3 3)
  logC : ColsAt u (some ⟨Y, 0, none⟩) 2 colLog
  tC : ColsAt u (some ⟨Z, 0, none⟩) 4 colT
  uC : ColsAt u (some ⟨U, 0, none⟩) 3 colU
theorem SchemasAt.low {u v : World} {X Y Z U : Nat} (h : SchemasAt u X Y Z U) (hb : Below u.heap.size u v) : SchemasAt v X Y Z U := by
  obtain ⟨hl, c0, c1, c2, c3, c4, c5, a, b, c⟩ := h
  exact ⟨Nat.lt_of_lt_of_le hl hb.size, by rw [hb.cell (by exact hl)]; exact c0, by rw [hb.cell (by exact hl)]; exact c1, by rw [hb.cell (by exact hl)]; exact c2, by rw [hb.cell (by exact hl)]; exact c3, by rw [hb.cell (by exact hl)]; exact c4, by rw [hb.cell (by exact hl)]; exact c5, a.low hb, b.low hb, c.low hb⟩

theorem log_new (w : World) (t : TypeId) : ColsAt (w.alloc (.cells #[.string ⟨#[110]⟩, .int .i64 1, .bool false, .bool false, .string ⟨#[115]⟩, .int .i64 3, .bool false, .bool false] t)) (some ⟨w.heap.size, 0, none⟩) 2 colLog := by
  intro i hi
  obtain rfl | rfl : i = 0 ∨ i = 1 := by omega
  all_goals
    refine ⟨w.heap.size, 0, rfl, by simp, by decide, ?_, ?_, ?_, ?_⟩
    all_goals simp only [colLog]; go_simp
theorem t_new (w : World) (t : TypeId) : ColsAt (w.alloc (.cells #[.string ⟨#[105, 100]⟩, .int .i64 1, .bool true, .bool true, .string ⟨#[110]⟩, .int .i64 1, .bool false, .bool false, .string ⟨#[98]⟩, .int .i64 2, .bool false, .bool false, .string ⟨#[115]⟩, .int .i64 3, .bool false, .bool false] t)) (some ⟨w.heap.size, 0, none⟩) 4 colT := by
  intro i hi
  obtain rfl | rfl | rfl | rfl : i = 0 ∨ i = 1 ∨ i = 2 ∨ i = 3 := by omega
  all_goals
    refine ⟨w.heap.size, 0, rfl, by simp, by decide, ?_, ?_, ?_, ?_⟩
    all_goals simp only [colT]; go_simp
theorem u_new (w : World) (t : TypeId) : ColsAt (w.alloc (.cells #[.string ⟨#[105, 100]⟩, .int .i64 1, .bool true, .bool true, .string ⟨#[110]⟩, .int .i64 1, .bool true, .bool false, .string ⟨#[109]⟩, .int .i64 1, .bool false, .bool false] t)) (some ⟨w.heap.size, 0, none⟩) 3 colU := by
  intro i hi
  obtain rfl | rfl | rfl : i = 0 ∨ i = 1 ∨ i = 2 := by omega
  all_goals
    refine ⟨w.heap.size, 0, rfl, by simp, by decide, ?_, ?_, ?_, ?_⟩
    all_goals simp only [colU]; go_simp

def SchemasPost (w : World) (e : Ending) (w' : World) : Prop := ∃ X Y Z U : Nat, e = .returned (.slice (some ⟨X, 0, none⟩) 3 3) ∧ SchemasAt w' X Y Z U ∧ w.heap.size ≤ X ∧ w.heap.size ≤ Y ∧ w.heap.size ≤ Z ∧ w.heap.size ≤ U ∧ Below w.heap.size w w'
set_option maxHeartbeats 1000000 in
theorem schemas_any (w : World) :
    Calls Try.prog 13 #[] w (SchemasPost w) := by
  go_enter Try.func13, Try.ntmps13
  go_wp2
  go_ret
  refine ⟨w.heap.size + 1 + 1 + 1, w.heap.size, w.heap.size + 1, w.heap.size + 1 + 1, rfl, ⟨by simp, ?_, ?_, ?_, ?_, ?_, ?_, ?_, ?_, ?_⟩, by omega, by omega, by omega, by omega, ?_⟩
  · go_simp
  · go_simp
  · go_simp
  · go_simp
  · go_simp
  · go_simp
  · exact (((log_new w _).low (below_alloc _ _)).low (below_alloc _ _)).low (below_alloc _ _)
  · exact ColsAt.low (ColsAt.low (cols_at (size_alloc _ _) (t_new _ _)) (below_alloc _ _)) (below_alloc _ _)
  · exact ColsAt.low (cols_at (by rw [size_alloc, size_alloc]) (u_new _ _)) (below_alloc _ _)
  · exact below_new (below_new (below_new (below_new (Below.refl _ _) _) _) _) _

def SchemaTPost (w : World) (e : Ending) (w' : World) : Prop := ∃ Z : Nat, e = .returned (schV ⟨#[116]⟩ (some ⟨Z, 0, none⟩) 4 4) ∧ ColsAt w' (some ⟨Z, 0, none⟩) 4 colT ∧ w.heap.size < Z ∧ Below w.heap.size w w'
set_option maxHeartbeats 1000000 in
theorem schemaT_any (w : World) :
    Calls Try.prog 7 #[.string ⟨#[116]⟩] w (SchemaTPost w) := by
  go_enter Try.func7, Try.ntmps7
  go_wp2_with fail
  refine (schemas_any _).mono ?_
  rintro e w1 ⟨X, Y, Z, U, rfl, hS, hX, hY, hZ, hU, hb⟩
  obtain ⟨hq, hb'⟩ := two_one hb
  have HZ : Hid (w.heap.size < Z) := Lib.hid (by rw [size_alloc] at hZ; omega)
  have HX : Hid (w.heap.size < X) := Lib.hid (by rw [size_alloc] at hX; omega)
  have HS := Lib.hid hS
  have HQ := Lib.hid hq
  have HB := Lib.hid hb'
  clear hX hY hZ hU hS hb hb' hq
  have e0 : ((⟨#[108, 111, 103]⟩ : ByteArray).toList == (⟨#[116]⟩ : ByteArray).toList) = false := ne_texts (by decide)
  have e1 : ((⟨#[116]⟩ : ByteArray).toList == (⟨#[116]⟩ : ByteArray).toList) = true := eq_texts rfl
  go_wp2_with fail
  go_loopw [7] (fun i v => ∃ k : Nat, k ≤ 1 ∧ i = .int .i64 k ∧ Below w.heap.size w v ∧ SchemasAt v X Y Z U ∧ Cell2 v w.heap.size (.string ⟨#[]⟩) (.slice none 0 0)) (fun i _ => 3 - (intOf i).toNat)
  case atStart => exact ⟨0, Nat.zero_le _, rfl, HB.out, HS.out, HQ.out⟩
  case round =>
    obtain ⟨k, hk, rfl, hb, hs, hq⟩ := hrel
    have HB1 := Lib.hid hb
    have HS1 := Lib.hid hs
    have HQ1 := Lib.hid hq
    obtain ⟨hl, c0, c1, c2, c3, c4, c5, hcl, hct, hcu⟩ := hs
    obtain ⟨dz, d0, d1, dfz⟩ := hq
    clear hb hcl hct hcu
    obtain rfl | rfl : k = 0 ∨ k = 1 := by omega
    · go_wp2
      go_roundw
      case rel => exact ⟨1, by omega, by go_num, below_new HB1.out _, HS1.out.low (below_alloc _ _), HQ1.out.low (below_alloc _ _)⟩
      case measure => simp [intOf]
    · go_wp2
      obtain ⟨sz, s0, s1, sf⟩ := (cell2_set HQ1.out (.string ⟨#[116]⟩) (.slice (some ⟨Z, 0, none⟩) 4 4)).low (below_alloc _ (.cells #[.string ⟨#[116]⟩, .slice (some ⟨Z, 0, none⟩) 4 4] 25))
      exact bodyPost_ret (v := schV ⟨#[116]⟩ (some ⟨Z, 0, none⟩) 4 4) (by simp [results, Try.results7, go_sem, s0, s1, schV]) rfl ⟨Z, rfl, ((HS1.out.tC.set (fun q hq => by cases hq; exact Nat.ne_of_gt HZ.out) _).set (fun q hq => by cases hq; exact Nat.ne_of_gt HZ.out) _).low (below_alloc _ _), HZ.out, below_new ((HB1.out.setCell (by exact Nat.le_refl _) _).setCell (by exact Nat.le_refl _) _) _⟩
end Go.Proofs.Ytgaihglploedaaa
/-
  The schemas of the world, by name.
-/
namespace Go.Proofs.Ytgaihglploedaaa
set_option maxRecDepth 100000
open Go.RowKit
variable {ls : List Nat}
def SchemaLogPost (w : World) (e : Ending) (w' : World) : Prop := ∃ Z : Nat, e = .returned (schV ⟨#[108, 111, 103]⟩ (some ⟨Z, 0, none⟩) 2 2) ∧ ColsAt w' (some ⟨Z, 0, none⟩) 2 colLog ∧ w.heap.size < Z ∧ Below w.heap.size w w'
set_option maxHeartbeats 1000000 in
theorem schemaLog_any (w : World) :
    Calls Try.prog 7 #[.string ⟨#[108, 111, 103]⟩] w (SchemaLogPost w) := by
  go_enter Try.func7, Try.ntmps7
  go_wp2_with fail
  refine (schemas_any _).mono ?_
  rintro e w1 ⟨X, Y, Z, U, rfl, hS, hX, hY, hZ, hU, hb⟩
  obtain ⟨hq, hb'⟩ := two_one hb
  have HZ : Hid (w.heap.size < Y) := Lib.hid (by rw [size_alloc] at hY; omega)
  have HX : Hid (w.heap.size < X) := Lib.hid (by rw [size_alloc] at hX; omega)
  have HS := Lib.hid hS
  have HQ := Lib.hid hq
  have HB := Lib.hid hb'
  clear hX hY hZ hU hS hb hb' hq
  have e0 : ((⟨#[108, 111, 103]⟩ : ByteArray).toList == (⟨#[108, 111, 103]⟩ : ByteArray).toList) = true := eq_texts rfl
  go_wp2_with fail
  go_loopw [7] (fun i v => ∃ k : Nat, k ≤ 0 ∧ i = .int .i64 k ∧ Below w.heap.size w v ∧ SchemasAt v X Y Z U ∧ Cell2 v w.heap.size (.string ⟨#[]⟩) (.slice none 0 0)) (fun i _ => 3 - (intOf i).toNat)
  case atStart => exact ⟨0, Nat.zero_le _, rfl, HB.out, HS.out, HQ.out⟩
  case round =>
    obtain ⟨k, hk, rfl, hb, hs, hq⟩ := hrel
    have HB1 := Lib.hid hb
    have HS1 := Lib.hid hs
    have HQ1 := Lib.hid hq
    obtain ⟨hl, c0, c1, c2, c3, c4, c5, hcl, hct, hcu⟩ := hs
    obtain ⟨dz, d0, d1, dfz⟩ := hq
    clear hb hcl hct hcu
    obtain rfl : k = 0 := by omega
    go_wp2
    obtain ⟨sz, s0, s1, sf⟩ := (cell2_set HQ1.out (.string ⟨#[108, 111, 103]⟩) (.slice (some ⟨Y, 0, none⟩) 2 2)).low (below_alloc _ (.cells #[.string ⟨#[108, 111, 103]⟩, .slice (some ⟨Y, 0, none⟩) 2 2] 25))
    exact bodyPost_ret (v := schV ⟨#[108, 111, 103]⟩ (some ⟨Y, 0, none⟩) 2 2) (by simp [results, Try.results7, go_sem, s0, s1, schV]) rfl ⟨Y, rfl, ((HS1.out.logC.set (fun q hq => by cases hq; exact Nat.ne_of_gt HZ.out) _).set (fun q hq => by cases hq; exact Nat.ne_of_gt HZ.out) _).low (below_alloc _ _), HZ.out, below_new ((HB1.out.setCell (by exact Nat.le_refl _) _).setCell (by exact Nat.le_refl _) _) _⟩
def SchemaUPost (w : World) (e : Ending) (w' : World) : Prop := ∃ Z : Nat, e = .returned (schV ⟨#[117]⟩ (some ⟨Z, 0, none⟩) 3 3) ∧ ColsAt w' (some ⟨Z, 0, none⟩) 3 colU ∧ w.heap.size < Z ∧ Below w.heap.size w w'
set_option maxHeartbeats 1000000 in
theorem schemaU_any (w : World) :
    Calls Try.prog 7 #[.string ⟨#[117]⟩] w (SchemaUPost w) := by
  go_enter Try.func7, Try.ntmps7
  go_wp2_with fail
  refine (schemas_any _).mono ?_
  rintro e w1 ⟨X, Y, Z, U, rfl, hS, hX, hY, hZ, hU, hb⟩
  obtain ⟨hq, hb'⟩ := two_one hb
  have HZ : Hid (w.heap.size < U) := Lib.hid (by rw [size_alloc] at hU; omega)
  have HX : Hid (w.heap.size < X) := Lib.hid (by rw [size_alloc] at hX; omega)
  have HS := Lib.hid hS
  have HQ := Lib.hid hq
  have HB := Lib.hid hb'
  clear hX hY hZ hU hS hb hb' hq
  have e0 : ((⟨#[108, 111, 103]⟩ : ByteArray).toList == (⟨#[117]⟩ : ByteArray).toList) = false := ne_texts (by decide)
  have e1 : ((⟨#[116]⟩ : ByteArray).toList == (⟨#[117]⟩ : ByteArray).toList) = false := ne_texts (by decide)
  have e2 : ((⟨#[117]⟩ : ByteArray).toList == (⟨#[117]⟩ : ByteArray).toList) = true := eq_texts rfl
  go_wp2_with fail
  go_loopw [7] (fun i v => ∃ k : Nat, k ≤ 2 ∧ i = .int .i64 k ∧ Below w.heap.size w v ∧ SchemasAt v X Y Z U ∧ Cell2 v w.heap.size (.string ⟨#[]⟩) (.slice none 0 0)) (fun i _ => 3 - (intOf i).toNat)
  case atStart => exact ⟨0, Nat.zero_le _, rfl, HB.out, HS.out, HQ.out⟩
  case round =>
    obtain ⟨k, hk, rfl, hb, hs, hq⟩ := hrel
    have HB1 := Lib.hid hb
    have HS1 := Lib.hid hs
    have HQ1 := Lib.hid hq
    obtain ⟨hl, c0, c1, c2, c3, c4, c5, hcl, hct, hcu⟩ := hs
    obtain ⟨dz, d0, d1, dfz⟩ := hq
    clear hb hcl hct hcu
    obtain rfl | rfl | rfl : k = 0 ∨ k = 1 ∨ k = 2 := by omega
    · go_wp2
      go_roundw
      case rel => exact ⟨1, by omega, by go_num, below_new HB1.out _, HS1.out.low (below_alloc _ _), HQ1.out.low (below_alloc _ _)⟩
      case measure => simp [intOf]
    · go_wp2
      go_roundw
      case rel => exact ⟨2, by omega, by go_num, below_new HB1.out _, HS1.out.low (below_alloc _ _), HQ1.out.low (below_alloc _ _)⟩
      case measure => simp [intOf]
    · go_wp2
      obtain ⟨sz, s0, s1, sf⟩ := (cell2_set HQ1.out (.string ⟨#[117]⟩) (.slice (some ⟨U, 0, none⟩) 3 3)).low (below_alloc _ (.cells #[.string ⟨#[117]⟩, .slice (some ⟨U, 0, none⟩) 3 3] 25))
      exact bodyPost_ret (v := schV ⟨#[117]⟩ (some ⟨U, 0, none⟩) 3 3) (by simp [results, Try.results7, go_sem, s0, s1, schV]) rfl ⟨U, rfl, ((HS1.out.uC.set (fun q hq => by cases hq; exact Nat.ne_of_gt HZ.out) _).set (fun q hq => by cases hq; exact Nat.ne_of_gt HZ.out) _).low (below_alloc _ _), HZ.out, below_new ((HB1.out.setCell (by exact Nat.le_refl _) _).setCell (by exact Nat.le_refl _) _) _⟩

/-- The names of the tables, their columns. -/
def wsNm (k : Nat) : ByteArray := match k with | 0 => ⟨#[116]⟩ | 1 => ⟨#[117]⟩ | _ => ⟨#[108, 111, 103]⟩
def wsN (k : Nat) : Nat := match k with | 0 => 4 | 1 => 3 | _ => 2
def wsF (k : Nat) : Nat → Col := match k with | 0 => colT | 1 => colU | _ => colLog
theorem ws_valid (k : Nat) : schemaOK (wsNm k) (wsN k) (wsF k) = true := by
  match k with
  | 0 => decide +kernel
  | 1 => decide +kernel
  | _ + 2 => show schemaOK ⟨#[108, 111, 103]⟩ 2 colLog = true; decide +kernel
def SchemaKPost (k : Nat) (w : World) (e : Ending) (w' : World) : Prop := ∃ Z : Nat, e = .returned (schV (wsNm k) (some ⟨Z, 0, none⟩) (wsN k) (wsN k)) ∧ ColsAt w' (some ⟨Z, 0, none⟩) (wsN k) (wsF k) ∧ w.heap.size < Z ∧ Below w.heap.size w w'
theorem schemaK_any (k : Nat) (w : World) :
    Calls Try.prog 7 #[.string (wsNm k)] w (SchemaKPost k w) := by
  match k with
  | 0 => exact schemaT_any w
  | 1 => exact schemaU_any w
  | _ + 2 => exact schemaLog_any w
end Go.Proofs.Ytgaihglploedaaa
/-
  What package table does (as hypotheses of the walks), and the sanity check of its statements.
-/
namespace Go.Proofs.Ytgaihglploedaaa
set_option maxRecDepth 100000
open Go.RowKit
variable {ls : List Nat}

/-- What the program's functions of package table do: the contracts that the walks ask for. -/
structure TableDoes : Prop where
  valid : ∀ (T : Tab) (w : World), TabAt w T → Calls Try.prog 8 #[T.v] w fun e w' => e = .returned (.bool T.valid) ∧ Below w.heap.size w w'
  new : ∀ (nm : ByteArray) (p : Option Addr) (n cap : Nat) (f : Nat → Col) (w : World), nm.size ≤ 9223372036854775807 → n ≤ 9223372036854775807 → ColsAt w p n f → Calls Try.prog 18 #[schV nm p n cap] w (TNewPost nm n f w)
  look : ∀ (T : Tab) (key : Val) (w : World), TabAt w T → Calls Try.prog 20 #[T.v, .agg #[.int .i64 key.1, .int .i64 key.2.1, .string key.2.2]] w fun e w' => e = .returned (.tuple #[.int .i64 (lookO T.key key T.R).1, .bool (lookO T.key key T.R).2]) ∧ Below w.heap.size w w'
  dup : ∀ (T : Tab) (w : World), TabAt w T → Calls Try.prog 17 #[T.v] w fun e w' => e = .returned (.bool (dupR T.key T.R)) ∧ Below w.heap.size w w'

def knownR : List TRow := [(3, [(1, 5, ⟨#[]⟩), (1, 1, ⟨#[]⟩), (0, 0, ⟨#[]⟩)])]
abbrev knownVals : Obj := .cells #[.int .i64 1, .int .i64 5, .string ⟨#[]⟩, .int .i64 1, .int .i64 1, .string ⟨#[]⟩, .int .i64 0, .int .i64 0, .string ⟨#[]⟩] 31
theorem known_rows (u : World) (N : Nat) (hN : u.heap.size = N) : TRowsAt ((u.alloc knownVals).alloc (.cells #[.int .i64 3, .slice (some ⟨N, 0, none⟩) 3 3] 34)) (some ⟨N + 1, 0, none⟩) knownR := by
  subst hN
  intro i hi
  obtain rfl : i = 0 := by simpa [knownR] using hi
  refine ⟨u.heap.size + 1, 0, some ⟨u.heap.size, 0, none⟩, 3, rfl, by simp, ?_, ?_, ?_, by decide, fun h => by cases h⟩
  · rw [← size_alloc u knownVals]; go_simp; rfl
  · rw [← size_alloc u knownVals]; go_simp; rfl
  · intro j hj
    have hj3 : j < 3 := hj
    obtain rfl | rfl | rfl : j = 0 ∨ j = 1 ∨ j = 2 := by omega
    all_goals
      refine ⟨u.heap.size, 0, rfl, by simp; omega, ?_, ?_, ?_⟩
      all_goals go_simp; rfl
def knownTab (p : Option Addr) (cc : Nat) (g : Nat) : Tab := ⟨⟨#[117]⟩, p, 3, cc, colU, 4, some ⟨g, 0, none⟩, 1, knownR⟩
theorem known_valid (p : Option Addr) (cc g : Nat) : (knownTab p cc g).valid = true := by
  show validT ⟨#[117]⟩ 3 colU 4 knownR = true
  decide +kernel
theorem known_look (p : Option Addr) (cc g : Nat) : lookO (knownTab p cc g).key (1, 5, ⟨#[]⟩) (knownTab p cc g).R = (3, true) := by
  show lookO (findKey colU 3) (1, 5, ⟨#[]⟩) knownR = (3, true)
  decide +kernel
theorem known_dup (p : Option Addr) (cc g : Nat) : dupR (knownTab p cc g).key (knownTab p cc g).R = false := by
  show dupR (findKey colU 3) knownR = false
  decide +kernel
set_option maxHeartbeats 1000000 in
theorem rnumber6_any (n : Int) (w : World) :
    Calls Try.prog 19 #[.int .i64 n] w fun e w' => e = .returned (.agg #[.int .i64 1, .int .i64 n, .string ⟨#[]⟩]) ∧ Below w.heap.size w w' := by
  go_enter Try.func19, Try.ntmps19
  go_wp2
  exact bodyPost_ret (v := .agg #[.int .i64 1, .int .i64 n, .string ⟨#[]⟩]) (by simp [results, Try.results19, go_sem]) rfl ⟨rfl, (Below.refl _ _).alloc (Nat.le_refl _) _⟩
set_option maxHeartbeats 2000000 in
theorem known6_any (hT : TableDoes) (w : World) :
    Calls Try.prog 9 #[] w fun e w' => e = .returned (.bool true) ∧ Below w.heap.size w w' := by
  go_enter Try.func9, Try.ntmps9
  go_wp2_with fail
  refine (schemaU_any _).mono ?_
  rintro e w1 ⟨Z, rfl, hZ, -, hb1⟩
  have HB1 := Lib.hid hb1
  have HZ := Lib.hid hZ
  clear hb1 hZ
  unfold schV
  go_wp2_with fail
  refine (hT.new ⟨#[117]⟩ (some ⟨Z, 0, none⟩) 3 3 colU _ (by decide) (by decide) HZ.out).mono ?_
  rintro e w2 ⟨T, er, rfl, hT2, hR, hb2, hcase⟩
  obtain ⟨hso, rfl, hnm, hn, hf, hnx⟩ | ⟨hso, -⟩ := hcase
  · obtain ⟨nm, pc, n, cc, f, nx, pr, cr, R⟩ := T
    dsimp only at hR hnm hn hf hnx
    subst hR hnm hn hnx
    have hcol : ColsAt w2 pc 3 colU := hT2.cols.congr fun i hi => (hf i hi).symm
    have HC := Lib.hid hcol
    have HB2 := Lib.hid (below_next HB1.out hb2)
    unfold Tab.v
    have HB3 := Lib.hid (below_new HB2.out (.cells #[.string ⟨#[117]⟩, .slice pc 3 cc, .int .i64 1, .slice pr 0 cr] 29))
    have HC3 := Lib.hid (HC.out.low (below_alloc w2 (.cells #[.string ⟨#[117]⟩, .slice pc 3 cc, .int .i64 1, .slice pr 0 cr] 29)))
    have HX3 := Lib.hid (cell4_new w2 (.string ⟨#[117]⟩) (.slice pc 3 cc) (.int .i64 1) (.slice pr 0 cr) 29)
    have HBB : Hid (w.heap.size ≤ w2.heap.size) := Lib.hid HB2.out.size
    have HPC : Hid (∀ q, pc = some q → q.block ≠ w2.heap.size) := Lib.hid (fun q hq => by
      obtain ⟨c, o, he, hc⟩ := HC.out.ptr (by decide)
      rw [hq] at he
      cases he
      exact Nat.ne_of_lt hc)
    clear hb2 hcol hf hT2 HB1 HZ hso HB2 HC
    dsimp only
    go_wp2_with fail
    refine (rnumber6_any 5 _).mono ?_
    rintro e w3 ⟨rfl, hb3⟩
    have HB4 := Lib.hid (below_next HB3.out hb3)
    have HC4 := Lib.hid (HC3.out.low hb3)
    have HX4 := Lib.hid (HX3.out.low hb3)
    clear HB3 HC3 HX3 hb3
    generalize w2.heap.size = B at HX4 HBB HPC ⊢
    go_wp2_with fail
    refine (rnumber6_any 1 _).mono ?_
    rintro e w4 ⟨rfl, hb4⟩
    have HB5 := Lib.hid (below_next HB4.out hb4)
    have HC5 := Lib.hid (HC4.out.low hb4)
    have HX5 := Lib.hid (HX4.out.low hb4)
    clear HB4 HC4 HX4 hb4
    obtain ⟨xl, x0, x1, x2, x3, xf⟩ := HX5.out
    go_upto_region 4 with (fail)
    have hN : ((w4.setCell ⟨B, 3, none⟩ (.slice (some ⟨w4.heap.size + 1, 0, none⟩) 1 1)).setCell ⟨B, 2, none⟩ (.int .i64 4)).heap.size = w4.heap.size := by rw [set_size, set_size]
    have hrows := known_rows _ _ hN
    have hcols : ColsAt (((w4.setCell ⟨B, 3, none⟩ (.slice (some ⟨w4.heap.size + 1, 0, none⟩) 1 1)).setCell ⟨B, 2, none⟩ (.int .i64 4)).alloc knownVals) pc 3 colU := ((HC5.out.set HPC.out _).set HPC.out _).low (below_alloc _ _)
    have hcols2 := hcols.low (below_alloc _ (.cells #[.int .i64 3, .slice (some ⟨w4.heap.size, 0, none⟩) 3 3] 34))
    have HT6 := Lib.hid (TabAt.mk (T := knownTab pc cc (w4.heap.size + 1)) (by show (⟨#[117]⟩ : ByteArray).size ≤ 9223372036854775807; decide) (by show 3 ≤ 9223372036854775807; decide) hcols2 hrows (by show 1 ≤ 1000; decide) (fun r hr => by
      obtain rfl := List.mem_singleton.1 hr
      intro i hi
      have hi3 : i < 3 := hi
      obtain rfl | rfl | rfl : i = 0 ∨ i = 1 ∨ i = 2 := by omega
      all_goals decide) (by show (4 : Int) ≤ 9223372036854775807; decide))
    have HX6 := Lib.hid ((((HX5.out.set3 (.slice (some ⟨w4.heap.size + 1, 0, none⟩) 1 1)).set2 (.int .i64 4)).low (below_alloc _ knownVals)).low (below_alloc _ (.cells #[.int .i64 3, .slice (some ⟨w4.heap.size, 0, none⟩) 3 3] 34)))
    have HB6 := Lib.hid (below_new (below_new ((HB5.out.setCell (p := ⟨B, 3, none⟩) (by exact HBB.out) (.slice (some ⟨w4.heap.size + 1, 0, none⟩) 1 1)).setCell (p := ⟨B, 2, none⟩) (by exact HBB.out) (.int .i64 4)) knownVals) (.cells #[.int .i64 3, .slice (some ⟨w4.heap.size, 0, none⟩) 3 3] 34))
    clear x0 x1 x2 x3 xf xl HX5 HB5 HC5 hcols hcols2 hrows hN HPC HBB
    generalize World.alloc _ _ = W6 at HT6 HX6 HB6 ⊢
    obtain ⟨xl, x0, x1, x2, x3, xf⟩ := HX6.out
    have l0 := lowW_cell (a := ⟨B, 0, none⟩) xl x0
    have l1 := lowW_cell (a := ⟨B, 1, none⟩) xl x1
    have l2 := lowW_cell (a := ⟨B, 2, none⟩) xl x2
    have l3 := lowW_cell (a := ⟨B, 3, none⟩) xl x3
    refine wp_region_low (by kernel_rfl) (by kernel_rfl) ?_
    repeat (refine wq_step (fun K hK => ?_); go_simp; first | (refine hK _ ?_; clear hK K) | (apply Exists.intro; refine ⟨fun _ => ?_, hK _ ?_⟩; (first | (go_at_call 19; exact Calls.low_of (rnumber6_any 5 _)) | (go_at_call 20; exact Calls.low_of (hT.look (knownTab pc cc (w4.heap.size + 1)) (1, 5, ⟨#[]⟩) _ (HT6.out.low (lowW_low _ _ _))))); clear hK K))
    refine wq_nil ?_
    rintro _ ⟨⟨d7, os7⟩, rfl⟩
    dsimp only
    have hlow := lowW_low W6 d7 os7
    clear l0 l1 l2 l3 x0 x1 x2 x3 xf xl
    generalize lowW W6 d7 os7 = W7 at hlow ⊢
    have HT7 := Lib.hid (HT6.out.low hlow)
    have HX7 := Lib.hid (HX6.out.low hlow)
    have HB7 := Lib.hid (below_next HB6.out hlow)
    clear HT6 HX6 HB6 hlow
    obtain ⟨xl, x0, x1, x2, x3, xf⟩ := HX7.out
    rw [known_look]
    go_wp2_with fail
    refine (hT.valid (knownTab pc cc (w4.heap.size + 1)) _ HT7.out).mono ?_
    rintro e w8 ⟨rfl, hb8⟩
    have HT8 := Lib.hid (HT7.out.low hb8)
    have HX8 := Lib.hid (HX7.out.low hb8)
    have HB8 := Lib.hid (below_next HB7.out hb8)
    clear HT7 HX7 HB7 hb8 x0 x1 x2 x3 xf xl
    obtain ⟨xl, x0, x1, x2, x3, xf⟩ := HX8.out
    rw [known_valid]
    go_wp2_with fail
    refine (hT.dup (knownTab pc cc (w4.heap.size + 1)) _ HT8.out).mono ?_
    rintro e w9 ⟨rfl, hb9⟩
    have HB9 := Lib.hid (below_next HB8.out hb9)
    clear HT8 HX8 HB8 hb9 x0 x1 x2 x3 xf xl
    rw [known_dup]
    go_wp2
    go_ret
    exact ⟨rfl, HB9.out⟩
  · exact absurd (ws_valid 1) (by show ¬ schemaOK ⟨#[117]⟩ 3 colU = true; rw [hso]; decide)
end Go.Proofs.Ytgaihglploedaaa
/-
  Row of the tape: a row that fits a schema.
-/
namespace Go.Proofs.Ytgaihglploedaaa
set_option maxRecDepth 100000
open Go.RowKit
variable {ls : List Nat}

end Go.Proofs.Ytgaihglploedaaa
