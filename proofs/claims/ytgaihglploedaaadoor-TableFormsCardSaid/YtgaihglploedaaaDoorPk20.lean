/-
  Several texts in one.
-/
import Derived.Test.YtgaihglploedaaaDoorPk12
import Derived.Test.YtgaihglploedaaaDoorPk18
import Derived.Test.YtgaihglploedaaaDoorPk19
import Derived.Test.YtgaihglploedaaaDoorPk15
/-
  The schemas of the world.
-/
namespace Go.Proofs.YtgaihglploedaaaDoor
set_option maxRecDepth 100000
open Go.RowKit
variable {ls : List Nat}

def colLog : Nat → Col := fun i => match i with | 0 => ⟨⟨#[110]⟩, 1, false, false⟩ | _ => ⟨⟨#[115]⟩, 3, false, false⟩
def colT : Nat → Col := fun i => match i with | 0 => ⟨⟨#[105, 100]⟩, 1, true, true⟩ | 1 => ⟨⟨#[110]⟩, 1, false, false⟩ | 2 => ⟨⟨#[98]⟩, 2, false, false⟩ | _ => ⟨⟨#[115]⟩, 3, false, false⟩
def colU : Nat → Col := fun i => match i with | 0 => ⟨⟨#[105, 100]⟩, 1, true, true⟩ | 1 => ⟨⟨#[110]⟩, 1, true, false⟩ | _ => ⟨⟨#[109]⟩, 1, false, false⟩
/-- The list of the three schemas. -/
structure SchemasAt (u : World) (X Y Z U : Nat) : Prop where
  lt : X < u.heap.size
  c0 : u.cell? ⟨X, 0, none⟩ = some (.string ⟨#[108, 111, 103]⟩)
  c1 : u.cell? ⟨X, 1, none⟩ = some (.slice (some ⟨Y, 0, none⟩) 2 2)
  c2 : u.cell? ⟨X, 2, none⟩ = some (.string ⟨#[116]⟩)
  c3 : u.cell? ⟨X, 3, none⟩ = some (.slice (some ⟨Z, 0, none⟩) 4 4)
  c4 : u.cell? ⟨X, 4, none⟩ = some (.string ⟨#[117]⟩)
  c5 : u.cell? ⟨X, 5, none⟩ = some (.slice (some ⟨U, 0, none⟩) 3 3)
  logC : ColsAt u (some ⟨Y, 0, none⟩) 2 colLog
  tC : ColsAt u (some ⟨Z, 0, none⟩) 4 colT
  uC : ColsAt u (some ⟨U, 0, none⟩) 3 colU
theorem SchemasAt.low {u v : World} {X Y Z U : Nat} (h : SchemasAt u X Y Z U) (hb : Below u.heap.size u v) : SchemasAt v X Y Z U := by
  obtain ⟨hl, c0, c1, c2, c3, c4, c5, a, b, c⟩ := h
  exact ⟨Nat.lt_of_lt_of_le hl hb.size, by rw [hb.cell (by exact hl)]; exact c0, by rw [hb.cell (by exact hl)]; exact c1, by rw [hb.cell (by exact hl)]; exact c2, by rw [hb.cell (by exact hl)]; exact c3, by rw [hb.cell (by exact hl)]; exact c4, by rw [hb.cell (by exact hl)]; exact c5, a.low hb, b.low hb, c.low hb⟩

theorem log_new (w : World) (t : TypeId) : ColsAt (w.alloc (.cells #[.string ⟨#[110]⟩, .int .i64 1, .bool false, .bool false, .string ⟨#[115]⟩, .int .i64 3, .bool false, .bool false] t)) (some ⟨w.heap.size, 0, none⟩) 2 colLog := by
  intro i hi
  obtain rfl | rfl : i = 0 ∨ i = 1 := by omega
  all_goals
    refine ⟨w.heap.size, 0, rfl, by simp, by decide, ?_, ?_, ?_, ?_⟩
    all_goals simp only [colLog]; go_simp
theorem t_new (w : World) (t : TypeId) : ColsAt (w.alloc (.cells #[.string ⟨#[105, 100]⟩, .int .i64 1, .bool true, .bool true, .string ⟨#[110]⟩, .int .i64 1, .bool false, .bool false, .string ⟨#[98]⟩, .int .i64 2, .bool false, .bool false, .string ⟨#[115]⟩, .int .i64 3, .bool false, .bool false] t)) (some ⟨w.heap.size, 0, none⟩) 4 colT := by
  intro i hi
  obtain rfl | rfl | rfl | rfl : i = 0 ∨ i = 1 ∨ i = 2 ∨ i = 3 := by omega
  all_goals
    refine ⟨w.heap.size, 0, rfl, by simp, by decide, ?_, ?_, ?_, ?_⟩
    all_goals simp only [colT]; go_simp
theorem u_new (w : World) (t : TypeId) : ColsAt (w.alloc (.cells #[.string ⟨#[105, 100]⟩, .int .i64 1, .bool true, .bool true, .string ⟨#[110]⟩, .int .i64 1, .bool true, .bool false, .string ⟨#[109]⟩, .int .i64 1, .bool false, .bool false] t)) (some ⟨w.heap.size, 0, none⟩) 3 colU := by
  intro i hi
  obtain rfl | rfl | rfl : i = 0 ∨ i = 1 ∨ i = 2 := by omega
  all_goals
    refine ⟨w.heap.size, 0, rfl, by simp, by decide, ?_, ?_, ?_, ?_⟩
    all_goals simp only [colU]; go_simp

def SchemasPost (w : World) (e : Ending) (w' : World) : Prop := ∃ X Y Z U : Nat, e = .returned (.slice (some ⟨X, 0, none⟩) 3 3) ∧ SchemasAt w' X Y Z U ∧ w.heap.size ≤ X ∧ w.heap.size ≤ Y ∧ w.heap.size ≤ Z ∧ w.heap.size ≤ U ∧ Below w.heap.size w w'
set_option maxHeartbeats 1000000 in
theorem schemas_any (w : World) :
    Calls Tryd.prog 70 #[] w (SchemasPost w) := by
  go_enter Tryd.func70, Tryd.ntmps70
  go_wp2
  go_ret
  refine ⟨w.heap.size + 1 + 1 + 1, w.heap.size, w.heap.size + 1, w.heap.size + 1 + 1, rfl, ⟨by simp, ?_, ?_, ?_, ?_, ?_, ?_, ?_, ?_, ?_⟩, by omega, by omega, by omega, by omega, ?_⟩
  · go_simp
  · go_simp
  · go_simp
  · go_simp
  · go_simp
  · go_simp
  · exact (((log_new w _).low (below_alloc _ _)).low (below_alloc _ _)).low (below_alloc _ _)
  · exact ColsAt.low (ColsAt.low (cols_at (size_alloc _ _) (t_new _ _)) (below_alloc _ _)) (below_alloc _ _)
  · exact ColsAt.low (cols_at (by rw [size_alloc, size_alloc]) (u_new _ _)) (below_alloc _ _)
  · exact below_new (below_new (below_new (below_new (Below.refl _ _) _) _) _) _

def SchemaTPost (w : World) (e : Ending) (w' : World) : Prop := ∃ Z : Nat, e = .returned (schV ⟨#[116]⟩ (some ⟨Z, 0, none⟩) 4 4) ∧ ColsAt w' (some ⟨Z, 0, none⟩) 4 colT ∧ w.heap.size < Z ∧ Below w.heap.size w w'
set_option maxHeartbeats 1000000 in
theorem schemaT_any (w : World) :
    Calls Tryd.prog 33 #[.string ⟨#[116]⟩] w (SchemaTPost w) := by
  go_enter Tryd.func33, Tryd.ntmps33
  go_wp2_with fail
  refine (schemas_any _).mono ?_
  rintro e w1 ⟨X, Y, Z, U, rfl, hS, hX, hY, hZ, hU, hb⟩
  obtain ⟨hq, hb'⟩ := two_one hb
  have HZ : Hid (w.heap.size < Z) := Lib.hid (by rw [size_alloc] at hZ; omega)
  have HX : Hid (w.heap.size < X) := Lib.hid (by rw [size_alloc] at hX; omega)
  have HS := Lib.hid hS
  have HQ := Lib.hid hq
  have HB := Lib.hid hb'
  clear hX hY hZ hU hS hb hb' hq
  have e0 : ((⟨#[108, 111, 103]⟩ : ByteArray).toList == (⟨#[116]⟩ : ByteArray).toList) = false := ne_texts (by decide)
  have e1 : ((⟨#[116]⟩ : ByteArray).toList == (⟨#[116]⟩ : ByteArray).toList) = true := eq_texts rfl
  go_wp2_with fail
  go_loopw [7] (fun i v => ∃ k : Nat, k ≤ 1 ∧ i = .int .i64 k ∧ Below w.heap.size w v ∧ SchemasAt v X Y Z U ∧ Cell2 v w.heap.size (.string ⟨#[]⟩) (.slice none 0 0)) (fun i _ => 3 - (intOf i).toNat)
  case atStart => exact ⟨0, Nat.zero_le _, rfl, HB.out, HS.out, HQ.out⟩
  case round =>
    obtain ⟨k, hk, rfl, hb, hs, hq⟩ := hrel
    have HB1 := Lib.hid hb
    have HS1 := Lib.hid hs
    have HQ1 := Lib.hid hq
    obtain ⟨hl, c0, c1, c2, c3, c4, c5, hcl, hct, hcu⟩ := hs
    obtain ⟨dz, d0, d1, dfz⟩ := hq
    clear hb hcl hct hcu
    obtain rfl | rfl : k = 0 ∨ k = 1 := by omega
    · go_wp2
      go_roundw
      case rel => exact ⟨1, by omega, by go_num, below_new HB1.out _, HS1.out.low (below_alloc _ _), HQ1.out.low (below_alloc _ _)⟩
      case measure => simp [intOf]
    · go_wp2
      obtain ⟨sz, s0, s1, sf⟩ := (cell2_set HQ1.out (.string ⟨#[116]⟩) (.slice (some ⟨Z, 0, none⟩) 4 4)).low (below_alloc _ (.cells #[.string ⟨#[116]⟩, .slice (some ⟨Z, 0, none⟩) 4 4] 24))
      exact bodyPost_ret (v := schV ⟨#[116]⟩ (some ⟨Z, 0, none⟩) 4 4) (by simp [results, Tryd.results33, go_sem, s0, s1, schV]) rfl ⟨Z, rfl, ((HS1.out.tC.set (fun q hq => by cases hq; exact Nat.ne_of_gt HZ.out) _).set (fun q hq => by cases hq; exact Nat.ne_of_gt HZ.out) _).low (below_alloc _ _), HZ.out, below_new ((HB1.out.setCell (by exact Nat.le_refl _) _).setCell (by exact Nat.le_refl _) _) _⟩
end Go.Proofs.YtgaihglploedaaaDoor
/-
  The schemas of the world, by name.
-/
namespace Go.Proofs.YtgaihglploedaaaDoor
set_option maxRecDepth 100000
open Go.RowKit
variable {ls : List Nat}
def SchemaLogPost (w : World) (e : Ending) (w' : World) : Prop := ∃ Z : Nat, e = .returned (schV ⟨#[108, 111, 103]⟩ (some ⟨Z, 0, none⟩) 2 2) ∧ ColsAt w' (some ⟨Z, 0, none⟩) 2 colLog ∧ w.heap.size < Z ∧ Below w.heap.size w w'
set_option maxHeartbeats 1000000 in
theorem schemaLog_any (w : World) :
    Calls Tryd.prog 33 #[.string ⟨#[108, 111, 103]⟩] w (SchemaLogPost w) := by
  go_enter Tryd.func33, Tryd.ntmps33
  go_wp2_with fail
  refine (schemas_any _).mono ?_
  rintro e w1 ⟨X, Y, Z, U, rfl, hS, hX, hY, hZ, hU, hb⟩
  obtain ⟨hq, hb'⟩ := two_one hb
  have HZ : Hid (w.heap.size < Y) := Lib.hid (by rw [size_alloc] at hY; omega)
  have HX : Hid (w.heap.size < X) := Lib.hid (by rw [size_alloc] at hX; omega)
  have HS := Lib.hid hS
  have HQ := Lib.hid hq
  have HB := Lib.hid hb'
  clear hX hY hZ hU hS hb hb' hq
  have e0 : ((⟨#[108, 111, 103]⟩ : ByteArray).toList == (⟨#[108, 111, 103]⟩ : ByteArray).toList) = true := eq_texts rfl
  go_wp2_with fail
  go_loopw [7] (fun i v => ∃ k : Nat, k ≤ 0 ∧ i = .int .i64 k ∧ Below w.heap.size w v ∧ SchemasAt v X Y Z U ∧ Cell2 v w.heap.size (.string ⟨#[]⟩) (.slice none 0 0)) (fun i _ => 3 - (intOf i).toNat)
  case atStart => exact ⟨0, Nat.zero_le _, rfl, HB.out, HS.out, HQ.out⟩
  case round =>
    obtain ⟨k, hk, rfl, hb, hs, hq⟩ := hrel
    have HB1 := Lib.hid hb
    have HS1 := Lib.hid hs
    have HQ1 := Lib.hid hq
    obtain ⟨hl, c0, c1, c2, c3, c4, c5, hcl, hct, hcu⟩ := hs
    obtain ⟨dz, d0, d1, dfz⟩ := hq
    clear hb hcl hct hcu
    obtain rfl : k = 0 := by omega
    go_wp2
    obtain ⟨sz, s0, s1, sf⟩ := (cell2_set HQ1.out (.string ⟨#[108, 111, 103]⟩) (.slice (some ⟨Y, 0, none⟩) 2 2)).low (below_alloc _ (.cells #[.string ⟨#[108, 111, 103]⟩, .slice (some ⟨Y, 0, none⟩) 2 2] 24))
    exact bodyPost_ret (v := schV ⟨#[108, 111, 103]⟩ (some ⟨Y, 0, none⟩) 2 2) (by simp [results, Tryd.results33, go_sem, s0, s1, schV]) rfl ⟨Y, rfl, ((HS1.out.logC.set (fun q hq => by cases hq; exact Nat.ne_of_gt HZ.out) _).set (fun q hq => by cases hq; exact Nat.ne_of_gt HZ.out) _).low (below_alloc _ _), HZ.out, below_new ((HB1.out.setCell (by exact Nat.le_refl _) _).setCell (by exact Nat.le_refl _) _) _⟩
def SchemaUPost (w : World) (e : Ending) (w' : World) : Prop := ∃ Z : Nat, e = .returned (schV ⟨#[117]⟩ (some ⟨Z, 0, none⟩) 3 3) ∧ ColsAt w' (some ⟨Z, 0, none⟩) 3 colU ∧ w.heap.size < Z ∧ Below w.heap.size w w'
set_option maxHeartbeats 1000000 in
theorem schemaU_any (w : World) :
    Calls Tryd.prog 33 #[.string ⟨#[117]⟩] w (SchemaUPost w) := by
  go_enter Tryd.func33, Tryd.ntmps33
  go_wp2_with fail
  refine (schemas_any _).mono ?_
  rintro e w1 ⟨X, Y, Z, U, rfl, hS, hX, hY, hZ, hU, hb⟩
  obtain ⟨hq, hb'⟩ := two_one hb
  have HZ : Hid (w.heap.size < U) := Lib.hid (by rw [size_alloc] at hU; omega)
  have HX : Hid (w.heap.size < X) := Lib.hid (by rw [size_alloc] at hX; omega)
  have HS := Lib.hid hS
  have HQ := Lib.hid hq
  have HB := Lib.hid hb'
  clear hX hY hZ hU hS hb hb' hq
  have e0 : ((⟨#[108, 111, 103]⟩ : ByteArray).toList == (⟨#[117]⟩ : ByteArray).toList) = false := ne_texts (by decide)
  have e1 : ((⟨#[116]⟩ : ByteArray).toList == (⟨#[117]⟩ : ByteArray).toList) = false := ne_texts (by decide)
  have e2 : ((⟨#[117]⟩ : ByteArray).toList == (⟨#[117]⟩ : ByteArray).toList) = true := eq_texts rfl
  go_wp2_with fail
  go_loopw [7] (fun i v => ∃ k : Nat, k ≤ 2 ∧ i = .int .i64 k ∧ Below w.heap.size w v ∧ SchemasAt v X Y Z U ∧ Cell2 v w.heap.size (.string ⟨#[]⟩) (.slice none 0 0)) (fun i _ => 3 - (intOf i).toNat)
  case atStart => exact ⟨0, Nat.zero_le _, rfl, HB.out, HS.out, HQ.out⟩
  case round =>
    obtain ⟨k, hk, rfl, hb, hs, hq⟩ := hrel
    have HB1 := Lib.hid hb
    have HS1 := Lib.hid hs
    have HQ1 := Lib.hid hq
    obtain ⟨hl, c0, c1, c2, c3, c4, c5, hcl, hct, hcu⟩ := hs
    obtain ⟨dz, d0, d1, dfz⟩ := hq
    clear hb hcl hct hcu
    obtain rfl | rfl | rfl : k = 0 ∨ k = 1 ∨ k = 2 := by omega
    · go_wp2
      go_roundw
      case rel => exact ⟨1, by omega, by go_num, below_new HB1.out _, HS1.out.low (below_alloc _ _), HQ1.out.low (below_alloc _ _)⟩
      case measure => simp [intOf]
    · go_wp2
      go_roundw
      case rel => exact ⟨2, by omega, by go_num, below_new HB1.out _, HS1.out.low (below_alloc _ _), HQ1.out.low (below_alloc _ _)⟩
      case measure => simp [intOf]
    · go_wp2
      obtain ⟨sz, s0, s1, sf⟩ := (cell2_set HQ1.out (.string ⟨#[117]⟩) (.slice (some ⟨U, 0, none⟩) 3 3)).low (below_alloc _ (.cells #[.string ⟨#[117]⟩, .slice (some ⟨U, 0, none⟩) 3 3] 24))
      exact bodyPost_ret (v := schV ⟨#[117]⟩ (some ⟨U, 0, none⟩) 3 3) (by simp [results, Tryd.results33, go_sem, s0, s1, schV]) rfl ⟨U, rfl, ((HS1.out.uC.set (fun q hq => by cases hq; exact Nat.ne_of_gt HZ.out) _).set (fun q hq => by cases hq; exact Nat.ne_of_gt HZ.out) _).low (below_alloc _ _), HZ.out, below_new ((HB1.out.setCell (by exact Nat.le_refl _) _).setCell (by exact Nat.le_refl _) _) _⟩

/-- The names of the tables, their columns. -/
def wsNm (k : Nat) : ByteArray := match k with | 0 => ⟨#[116]⟩ | 1 => ⟨#[117]⟩ | _ => ⟨#[108, 111, 103]⟩
def wsN (k : Nat) : Nat := match k with | 0 => 4 | 1 => 3 | _ => 2
def wsF (k : Nat) : Nat → Col := match k with | 0 => colT | 1 => colU | _ => colLog
theorem ws_valid (k : Nat) : schemaOK (wsNm k) (wsN k) (wsF k) = true := by
  match k with
  | 0 => decide +kernel
  | 1 => decide +kernel
  | _ + 2 => show schemaOK ⟨#[108, 111, 103]⟩ 2 colLog = true; decide +kernel
def SchemaKPost (k : Nat) (w : World) (e : Ending) (w' : World) : Prop := ∃ Z : Nat, e = .returned (schV (wsNm k) (some ⟨Z, 0, none⟩) (wsN k) (wsN k)) ∧ ColsAt w' (some ⟨Z, 0, none⟩) (wsN k) (wsF k) ∧ w.heap.size < Z ∧ Below w.heap.size w w'
theorem schemaK_any (k : Nat) (w : World) :
    Calls Tryd.prog 33 #[.string (wsNm k)] w (SchemaKPost k w) := by
  match k with
  | 0 => exact schemaT_any w
  | 1 => exact schemaU_any w
  | _ + 2 => exact schemaLog_any w
end Go.Proofs.YtgaihglploedaaaDoor
/-
  What package table does (as hypotheses of the walks), and the sanity check of its statements.
-/
namespace Go.Proofs.YtgaihglploedaaaDoor
set_option maxRecDepth 100000
open Go.RowKit
variable {ls : List Nat}

/-- What the program's functions of package table do: the contracts that the walks ask for. -/
structure TableDoes : Prop where
  valid : ∀ (T : Tab) (w : World), TabAt w T → Calls Tryd.prog 39 #[T.v] w fun e w' => e = .returned (.bool T.valid) ∧ Below w.heap.size w w'
  new : ∀ (nm : ByteArray) (p : Option Addr) (n cap : Nat) (f : Nat → Col) (w : World), nm.size ≤ 9223372036854775807 → n ≤ 9223372036854775807 → ColsAt w p n f → Calls Tryd.prog 40 #[schV nm p n cap] w (TNewPost nm n f w)
  get : ∀ (T : Tab) (id : Int) (w : World), TabAt w T → Calls Tryd.prog 43 #[T.v, .int .i64 id] w (GetPost id T.R w)
  bag : ∀ (T : Tab) (w : World), TabAt w T → Calls Tryd.prog 46 #[T.v] w (SortedPost (T.R.map (·.2)) w)
  look : ∀ (T : Tab) (key : Val) (w : World), TabAt w T → Calls Tryd.prog 45 #[T.v, .agg #[.int .i64 key.1, .int .i64 key.2.1, .string key.2.2]] w fun e w' => e = .returned (.tuple #[.int .i64 (lookO T.key key T.R).1, .bool (lookO T.key key T.R).2]) ∧ Below w.heap.size w w'
  dup : ∀ (T : Tab) (w : World), TabAt w T → Calls Tryd.prog 69 #[T.v] w fun e w' => e = .returned (.bool (dupR T.key T.R)) ∧ Below w.heap.size w w'

def knownR : List TRow := [(3, [(1, 5, ⟨#[]⟩), (1, 1, ⟨#[]⟩), (0, 0, ⟨#[]⟩)])]
abbrev knownVals : Obj := .cells #[.int .i64 1, .int .i64 5, .string ⟨#[]⟩, .int .i64 1, .int .i64 1, .string ⟨#[]⟩, .int .i64 0, .int .i64 0, .string ⟨#[]⟩] 34
theorem known_rows (u : World) (N : Nat) (hN : u.heap.size = N) : TRowsAt ((u.alloc knownVals).alloc (.cells #[.int .i64 3, .slice (some ⟨N, 0, none⟩) 3 3] 68)) (some ⟨N + 1, 0, none⟩) knownR := by
  subst hN
  intro i hi
  obtain rfl : i = 0 := by simpa [knownR] using hi
  refine ⟨u.heap.size + 1, 0, some ⟨u.heap.size, 0, none⟩, 3, rfl, by simp, ?_, ?_, ?_, by decide, fun h => by cases h⟩
  · rw [← size_alloc u knownVals]; go_simp; rfl
  · rw [← size_alloc u knownVals]; go_simp; rfl
  · intro j hj
    have hj3 : j < 3 := hj
    obtain rfl | rfl | rfl : j = 0 ∨ j = 1 ∨ j = 2 := by omega
    all_goals
      refine ⟨u.heap.size, 0, rfl, by simp; omega, ?_, ?_, ?_⟩
      all_goals go_simp; rfl
def knownTab (p : Option Addr) (cc : Nat) (g : Nat) : Tab := ⟨⟨#[117]⟩, p, 3, cc, colU, 4, some ⟨g, 0, none⟩, 1, knownR⟩
theorem known_valid (p : Option Addr) (cc g : Nat) : (knownTab p cc g).valid = true := by
  show validT ⟨#[117]⟩ 3 colU 4 knownR = true
  decide +kernel
theorem known_look (p : Option Addr) (cc g : Nat) : lookO (knownTab p cc g).key (1, 5, ⟨#[]⟩) (knownTab p cc g).R = (3, true) := by
  show lookO (findKey colU 3) (1, 5, ⟨#[]⟩) knownR = (3, true)
  decide +kernel
theorem known_dup (p : Option Addr) (cc g : Nat) : dupR (knownTab p cc g).key (knownTab p cc g).R = false := by
  show dupR (findKey colU 3) knownR = false
  decide +kernel
set_option maxHeartbeats 1000000 in
theorem rnumber6_any (n : Int) (w : World) :
    Calls Tryd.prog 37 #[.int .i64 n] w fun e w' => e = .returned (.agg #[.int .i64 1, .int .i64 n, .string ⟨#[]⟩]) ∧ Below w.heap.size w w' := by
  go_enter Tryd.func37, Tryd.ntmps37
  go_wp2
  exact bodyPost_ret (v := .agg #[.int .i64 1, .int .i64 n, .string ⟨#[]⟩]) (by simp [results, Tryd.results37, go_sem]) rfl ⟨rfl, (Below.refl _ _).alloc (Nat.le_refl _) _⟩
set_option maxHeartbeats 2000000 in
theorem known6_any (hT : TableDoes) (w : World) :
    Calls Tryd.prog 31 #[] w fun e w' => e = .returned (.bool true) ∧ Below w.heap.size w w' := by
  go_enter Tryd.func31, Tryd.ntmps31
  go_wp2_with fail
  refine (schemaU_any _).mono ?_
  rintro e w1 ⟨Z, rfl, hZ, -, hb1⟩
  have HB1 := Lib.hid hb1
  have HZ := Lib.hid hZ
  clear hb1 hZ
  unfold schV
  go_wp2_with fail
  refine (hT.new ⟨#[117]⟩ (some ⟨Z, 0, none⟩) 3 3 colU _ (by decide) (by decide) HZ.out).mono ?_
  rintro e w2 ⟨T, er, rfl, hT2, hR, hb2, hcase⟩
  obtain ⟨hso, rfl, hnm, hn, hf, hnx⟩ | ⟨hso, -⟩ := hcase
  · obtain ⟨nm, pc, n, cc, f, nx, pr, cr, R⟩ := T
    dsimp only at hR hnm hn hf hnx
    subst hR hnm hn hnx
    have hcol : ColsAt w2 pc 3 colU := hT2.cols.congr fun i hi => (hf i hi).symm
    have HC := Lib.hid hcol
    have HB2 := Lib.hid (below_next HB1.out hb2)
    unfold Tab.v
    have HB3 := Lib.hid (below_new HB2.out (.cells #[.string ⟨#[117]⟩, .slice pc 3 cc, .int .i64 1, .slice pr 0 cr] 51))
    have HC3 := Lib.hid (HC.out.low (below_alloc w2 (.cells #[.string ⟨#[117]⟩, .slice pc 3 cc, .int .i64 1, .slice pr 0 cr] 51)))
    have HX3 := Lib.hid (cell4_new w2 (.string ⟨#[117]⟩) (.slice pc 3 cc) (.int .i64 1) (.slice pr 0 cr) 51)
    have HBB : Hid (w.heap.size ≤ w2.heap.size) := Lib.hid HB2.out.size
    have HPC : Hid (∀ q, pc = some q → q.block ≠ w2.heap.size) := Lib.hid (fun q hq => by
      obtain ⟨c, o, he, hc⟩ := HC.out.ptr (by decide)
      rw [hq] at he
      cases he
      exact Nat.ne_of_lt hc)
    clear hb2 hcol hf hT2 HB1 HZ hso HB2 HC
    dsimp only
    go_wp2_with fail
    refine (rnumber6_any 5 _).mono ?_
    rintro e w3 ⟨rfl, hb3⟩
    have HB4 := Lib.hid (below_next HB3.out hb3)
    have HC4 := Lib.hid (HC3.out.low hb3)
    have HX4 := Lib.hid (HX3.out.low hb3)
    clear HB3 HC3 HX3 hb3
    generalize w2.heap.size = B at HX4 HBB HPC ⊢
    go_wp2_with fail
    refine (rnumber6_any 1 _).mono ?_
    rintro e w4 ⟨rfl, hb4⟩
    have HB5 := Lib.hid (below_next HB4.out hb4)
    have HC5 := Lib.hid (HC4.out.low hb4)
    have HX5 := Lib.hid (HX4.out.low hb4)
    clear HB4 HC4 HX4 hb4
    obtain ⟨xl, x0, x1, x2, x3, xf⟩ := HX5.out
    go_upto_region 4 with (fail)
    have hN : ((w4.setCell ⟨B, 3, none⟩ (.slice (some ⟨w4.heap.size + 1, 0, none⟩) 1 1)).setCell ⟨B, 2, none⟩ (.int .i64 4)).heap.size = w4.heap.size := by rw [set_size, set_size]
    have hrows := known_rows _ _ hN
    have hcols : ColsAt (((w4.setCell ⟨B, 3, none⟩ (.slice (some ⟨w4.heap.size + 1, 0, none⟩) 1 1)).setCell ⟨B, 2, none⟩ (.int .i64 4)).alloc knownVals) pc 3 colU := ((HC5.out.set HPC.out _).set HPC.out _).low (below_alloc _ _)
    have hcols2 := hcols.low (below_alloc _ (.cells #[.int .i64 3, .slice (some ⟨w4.heap.size, 0, none⟩) 3 3] 68))
    have HT6 := Lib.hid (TabAt.mk (T := knownTab pc cc (w4.heap.size + 1)) (by show (⟨#[117]⟩ : ByteArray).size ≤ 9223372036854775807; decide) (by show 3 ≤ 9223372036854775807; decide) hcols2 hrows (by show 1 ≤ 1000; decide) (fun r hr => by
      obtain rfl := List.mem_singleton.1 hr
      intro i hi
      have hi3 : i < 3 := hi
      obtain rfl | rfl | rfl : i = 0 ∨ i = 1 ∨ i = 2 := by omega
      all_goals decide) (by show (4 : Int) ≤ 9223372036854775807; decide))
    have HX6 := Lib.hid ((((HX5.out.set3 (.slice (some ⟨w4.heap.size + 1, 0, none⟩) 1 1)).set2 (.int .i64 4)).low (below_alloc _ knownVals)).low (below_alloc _ (.cells #[.int .i64 3, .slice (some ⟨w4.heap.size, 0, none⟩) 3 3] 68)))
    have HB6 := Lib.hid (below_new (below_new ((HB5.out.setCell (p := ⟨B, 3, none⟩) (by exact HBB.out) (.slice (some ⟨w4.heap.size + 1, 0, none⟩) 1 1)).setCell (p := ⟨B, 2, none⟩) (by exact HBB.out) (.int .i64 4)) knownVals) (.cells #[.int .i64 3, .slice (some ⟨w4.heap.size, 0, none⟩) 3 3] 68))
    clear x0 x1 x2 x3 xf xl HX5 HB5 HC5 hcols hcols2 hrows hN HPC HBB
    generalize World.alloc _ _ = W6 at HT6 HX6 HB6 ⊢
    obtain ⟨xl, x0, x1, x2, x3, xf⟩ := HX6.out
    have l0 := lowW_cell (a := ⟨B, 0, none⟩) xl x0
    have l1 := lowW_cell (a := ⟨B, 1, none⟩) xl x1
    have l2 := lowW_cell (a := ⟨B, 2, none⟩) xl x2
    have l3 := lowW_cell (a := ⟨B, 3, none⟩) xl x3
    refine wp_region_low (by kernel_rfl) (by kernel_rfl) ?_
    repeat (refine wq_step (fun K hK => ?_); go_simp; first | (refine hK _ ?_; clear hK K) | (apply Exists.intro; refine ⟨fun _ => ?_, hK _ ?_⟩; (first | (go_at_call 37; exact Calls.low_of (rnumber6_any 5 _)) | (go_at_call 45; exact Calls.low_of (hT.look (knownTab pc cc (w4.heap.size + 1)) (1, 5, ⟨#[]⟩) _ (HT6.out.low (lowW_low _ _ _))))); clear hK K))
    refine wq_nil ?_
    rintro _ ⟨⟨d7, os7⟩, rfl⟩
    dsimp only
    have hlow := lowW_low W6 d7 os7
    clear l0 l1 l2 l3 x0 x1 x2 x3 xf xl
    generalize lowW W6 d7 os7 = W7 at hlow ⊢
    have HT7 := Lib.hid (HT6.out.low hlow)
    have HX7 := Lib.hid (HX6.out.low hlow)
    have HB7 := Lib.hid (below_next HB6.out hlow)
    clear HT6 HX6 HB6 hlow
    obtain ⟨xl, x0, x1, x2, x3, xf⟩ := HX7.out
    rw [known_look]
    go_wp2_with fail
    refine (hT.valid (knownTab pc cc (w4.heap.size + 1)) _ HT7.out).mono ?_
    rintro e w8 ⟨rfl, hb8⟩
    have HT8 := Lib.hid (HT7.out.low hb8)
    have HX8 := Lib.hid (HX7.out.low hb8)
    have HB8 := Lib.hid (below_next HB7.out hb8)
    clear HT7 HX7 HB7 hb8 x0 x1 x2 x3 xf xl
    obtain ⟨xl, x0, x1, x2, x3, xf⟩ := HX8.out
    rw [known_valid]
    go_wp2_with fail
    refine (hT.dup (knownTab pc cc (w4.heap.size + 1)) _ HT8.out).mono ?_
    rintro e w9 ⟨rfl, hb9⟩
    have HB9 := Lib.hid (below_next HB8.out hb9)
    clear HT8 HX8 HB8 hb9 x0 x1 x2 x3 xf xl
    rw [known_dup]
    go_wp2
    go_ret
    exact ⟨rfl, HB9.out⟩
  · exact absurd (ws_valid 1) (by show ¬ schemaOK ⟨#[117]⟩ 3 colU = true; rw [hso]; decide)
end Go.Proofs.YtgaihglploedaaaDoor
/-
  The law TableBegins, walked: from what package table does.
-/
namespace Go.Proofs.YtgaihglploedaaaDoor
set_option maxRecDepth 100000
open Go.RowKit
variable {ls : List Nat}

theorem good_congr {f g : Nat → Col} {i : Nat} (h : ∀ j, j ≤ i → g j = f j) : Good f i → Good g i := by
  rintro ⟨h1, h2, h3⟩
  refine ⟨by rw [h i (Nat.le_refl _)]; exact h1, fun j hj => by rw [h i (Nat.le_refl _), h j (Nat.le_of_lt hj)]; exact h2 j hj, fun hk j hj => by rw [h j (Nat.le_of_lt hj)]; rw [h i (Nat.le_refl _)] at hk; exact h3 hk j hj⟩
theorem schemaOK_congr {nm : ByteArray} {n : Nat} {f g : Nat → Col} (h : ∀ i, i < n → g i = f i) (hs : schemaOK nm n f = true) : schemaOK nm n g = true := by
  unfold schemaOK at hs ⊢
  simp only [Bool.and_eq_true, decide_eq_true_eq] at hs ⊢
  exact ⟨hs.1, fun i hi => good_congr (fun j hj => h j (by omega)) (hs.2 i hi)⟩
theorem new_valid {T : Tab} (hso : schemaOK T.nm T.n T.f = true) (hx : T.nx = 1) (hR : T.R = []) : T.valid = true := by
  unfold Tab.valid
  rw [hx, hR, validT_dup hso ⟨Nat.zero_le _, by decide, by decide⟩ (fun i hi => by simp at hi)]
  rw [show dupR (findKey T.f T.n) [] = false from dupR_no (k := findKey T.f T.n) (R := []) (by show List.Nodup []; exact List.nodup_nil)]
  rfl
/-- What is known of the table that New gives. -/
theorem new_same {nm : ByteArray} {n : Nat} {f : Nat → Col} {T S : Tab} {er er' : Int} (hR : T.R = []) (hR' : S.R = [])
    (h : (schemaOK nm n f = true ∧ er = 0 ∧ T.nm = nm ∧ T.n = n ∧ (∀ i, i < n → T.f i = f i) ∧ T.nx = 1) ∨ (schemaOK nm n f = false ∧ er = 17 ∧ T.nm = ⟨#[]⟩ ∧ T.n = 0 ∧ T.nx = 0))
    (h' : (schemaOK nm n f = true ∧ er' = 0 ∧ S.nm = nm ∧ S.n = n ∧ (∀ i, i < n → S.f i = f i) ∧ S.nx = 1) ∨ (schemaOK nm n f = false ∧ er' = 17 ∧ S.nm = ⟨#[]⟩ ∧ S.n = 0 ∧ S.nx = 0)) : er = er' ∧ sameT T S = true ∧ ((er = 0 ∧ T.valid = true) ∨ er = 17) := by
  rcases h with ⟨h0, h1, h2, h3, h4, h5⟩ | ⟨h0, h1, h2, h3, h4⟩
  · rcases h' with ⟨-, k1, k2, k3, k4, k5⟩ | ⟨k0, -⟩
    · refine ⟨by rw [h1, k1], ?_, .inl ⟨h1, new_valid (by rw [h2, h3]; exact schemaOK_congr h4 h0) h5 hR⟩⟩
      unfold sameT
      rw [h2, k2, h3, k3, h5, k5, hR, hR', eqT_self, sameCols_yes fun i hi => (h4 i hi).trans (k4 i hi).symm]
      rfl
    · rw [h0] at k0; cases k0
  · rcases h' with ⟨k0, -⟩ | ⟨-, k1, k2, k3, k4⟩
    · rw [h0] at k0; cases k0
    · refine ⟨by rw [h1, k1], ?_, .inr h1⟩
      unfold sameT
      rw [h2, k2, h3, k3, h4, k4, hR, hR', eqT_self, sameCols_yes fun i hi => absurd hi (Nat.not_lt_zero _)]
      rfl
/-- A schema in memory, one of a list. -/
structure SchAt (u : World) (L o : Nat) (nm : ByteArray) (p : Option Addr) (n c : Nat) (f : Nat → Col) : Prop where
  lt : L < u.heap.size
  c0 : u.cell? ⟨L, o, none⟩ = some (.string nm)
  c1 : u.cell? ⟨L, o + 1, none⟩ = some (.slice p n c)
  sz : nm.size ≤ 9223372036854775807
  le : n ≤ 9223372036854775807
  cols : ColsAt u p n f
theorem SchAt.low {u v : World} {L o : Nat} {nm : ByteArray} {p : Option Addr} {n c : Nat} {f : Nat → Col} (h : SchAt u L o nm p n c f) (hb : Below u.heap.size u v) : SchAt v L o nm p n c f :=
  ⟨Nat.lt_of_lt_of_le h.lt hb.size, by rw [hb.cell (by exact h.lt)]; exact h.c0, by rw [hb.cell (by exact h.lt)]; exact h.c1, h.sz, h.le, h.cols.low hb⟩
def schV' (nm : ByteArray) (p : Option Addr) (n cap : Nat) : Value := schV nm p n cap
set_option maxHeartbeats 2000000 in
theorem tbegins_walk (hT : TableDoes) (w : World) (m0 : ByteArray) (hm0 : m0.size ≤ 9223372036854775807) (a0 : Option Addr) (n0 c0 : Nat) (hn0 : n0 ≤ 9223372036854775807) (f0 : Nat → Col) (hC0 : ColsAt w a0 n0 f0)
    (p : Option Addr) (len cap : Nat) (hl : len ≤ cap) (hm : len ≤ 9223372036854775807) (h : IntsAt w p len) (hE : Env ls w) (hln : 0 ∈ ls) :
    Calls Tryd.prog 8 #[schV m0 a0 n0 c0, .slice p len cap] w fun e w' => e = .returned (.bool true) ∧ Below w.heap.size w w' := by
  unfold schV
  have hbx : Below w.heap.size w (w.alloc (.cells #[.string m0, .slice a0 n0 c0] 24)) := below_new (Below.refl _ _) _
  have HI := Lib.hid (h.low hbx)
  have HE := Lib.hid (hE.low hbx)
  have HX := Lib.hid (cell2_new w (.string m0) (.slice a0 n0 c0) 24)
  have HC := Lib.hid hC0
  have HB := Lib.hid hbx
  have hz8 := hE.size
  clear h hE hC0 hbx
  go_enter Tryd.func8, Tryd.ntmps8
  go_wp2_with fail
  refine (new_any _ p len cap hl hm HI.out).mono ?_
  rintro e w1 ⟨b, rfl, hb0, ht, hb1⟩
  rw [size_alloc] at hb0
  have HX1 := Lib.hid (HX.out.low hb1)
  have HB1 := Lib.hid (below_next HB.out hb1)
  have HE1 := Lib.hid (HE.out.low hb1)
  have h8b : 3 ≤ b := by omega
  clear HI HE HX HB hb1
  go_wp2_with fail
  refine (anyschema_any b _ h8b ht HE1.out hln).mono ?_
  rintro e w2 ⟨i, ps, l, cs, rfl, hi, hl1, hl5, hcs, hso, hps, ht2, hs2⟩
  have HB2 := Lib.hid (HB1.out.trans (hs2.below (B := w.heap.size) (by omega) HB1.out.size))
  have HX2 := Lib.hid (HX1.out.step hs2 (by omega))
  have HCS := Lib.hid hcs
  have HSO := Lib.hid hso
  clear HX1 HB1 HE1 hcs hso hps ht ht2 hs2
  unfold schV
  obtain ⟨xl, x0, x1, xf⟩ := HX2.out
  have hb4 : Below w.heap.size w ((w2.alloc (.cells #[.string (nameS i), .slice ps l.length cs] 24)).alloc (.cells #[.string m0, .slice a0 n0 c0, .string (nameS i), .slice ps l.length cs] 24)) := below_new (below_new HB2.out _) _
  have hx4 := cell4_new (w2.alloc (.cells #[.string (nameS i), .slice ps l.length cs] 24)) (.string m0) (.slice a0 n0 c0) (.string (nameS i)) (.slice ps l.length cs) 24
  rw [size_alloc] at hx4
  have HS1 : Hid (SchAt ((w2.alloc (.cells #[.string (nameS i), .slice ps l.length cs] 24)).alloc (.cells #[.string m0, .slice a0 n0 c0, .string (nameS i), .slice ps l.length cs] 24)) (w2.heap.size + 1) 0 m0 a0 n0 c0 f0) := Lib.hid ⟨hx4.lt, hx4.c0, hx4.c1, hm0, hn0, HC.out.low hb4⟩
  have HS2 : Hid (SchAt ((w2.alloc (.cells #[.string (nameS i), .slice ps l.length cs] 24)).alloc (.cells #[.string m0, .slice a0 n0 c0, .string (nameS i), .slice ps l.length cs] 24)) (w2.heap.size + 1) 2 (nameS i) ps l.length cs (cAt l)) := Lib.hid ⟨hx4.lt, hx4.c2, hx4.c3, name_small i, by omega, (HCS.out.low (below_alloc _ _)).low (below_alloc _ _)⟩
  have HB4 := Lib.hid hb4
  clear hb4 hx4 HCS HB2 HX2
  go_wp2_with fail
  clear x0 x1 xf xl
  generalize World.alloc _ _ = W4 at HS1 HS2 HB4 ⊢
  generalize w2.heap.size + 1 = L at HS1 HS2 ⊢
  go_loopw [21] (fun i' v => ∃ k : Nat, k ≤ 2 ∧ i' = .int .i64 k ∧ SchAt v L 0 m0 a0 n0 c0 f0 ∧ SchAt v L 2 (nameS i) ps l.length cs (cAt l) ∧ Below w.heap.size w v) (fun i' _ => 2 - (intOf i').toNat)
  case atStart => exact ⟨0, Nat.zero_le _, rfl, HS1.out, HS2.out, HB4.out⟩
  clear HS1 HS2 HB4
  case round =>
    obtain ⟨k, hk, rfl, hs1, hs2, hb⟩ := hrel
    have HB := Lib.hid hb
    have HS1 := Lib.hid hs1
    have HS2 := Lib.hid hs2
    by_cases hlt : k < 2
    · have hlt' : decide ((k : Int) < 2) = true := decide_eq_true (by omega)
      obtain ⟨nm, pk, n, ck, f, hsk⟩ : ∃ (nm : ByteArray) (pk : Option Addr) (n ck : Nat) (f : Nat → Col), SchAt wr L (k * 2) nm pk n ck f := by
        obtain rfl | rfl : k = 0 ∨ k = 1 := by omega
        · exact ⟨_, _, _, _, _, hs1⟩
        · exact ⟨_, _, _, _, _, hs2⟩
      have HSK := Lib.hid hsk
      obtain ⟨hL, s0, s1, hsz, hn, -⟩ := hsk
      clear hs1 hs2 hb
      have hkI : (k : Int) < 2 := by omega
      go_wp2_with fail
      have hbn := below_alloc wr (.cells #[.string nm, .slice pk n ck] 24)
      have HX5 := Lib.hid (cell2_new wr (.string nm) (.slice pk n ck) 24)
      have HB5 := Lib.hid (below_next HB.out hbn)
      have HA5 := Lib.hid (HS1.out.low hbn)
      have HE5 := Lib.hid (HS2.out.low hbn)
      have HC5 := Lib.hid (HSK.out.cols.low hbn)
      clear HB HS1 HS2 HSK hL s0 s1 hbn
      refine (hT.new nm pk n ck f _ hsz hn HC5.out).mono ?_
      rintro e w6 ⟨T, er, rfl, hT6, hR6, hb6, hcase⟩
      have HT7 := Lib.hid ((hT6.low (below_alloc w6 (.cells #[.string T.nm, .slice T.pc T.n T.cc, .int .i64 T.nx, .slice T.pr T.R.length T.cr] 51))))
      have HY7 := Lib.hid (cell4_new w6 (.string T.nm) (.slice T.pc T.n T.cc) (.int .i64 T.nx) (.slice T.pr T.R.length T.cr) 51)
      have HX7 := Lib.hid ((HX5.out.low hb6).low (below_alloc w6 (.cells #[.string T.nm, .slice T.pc T.n T.cc, .int .i64 T.nx, .slice T.pr T.R.length T.cr] 51)))
      have HB7 := Lib.hid (below_new (below_next HB5.out hb6) (.cells #[.string T.nm, .slice T.pc T.n T.cc, .int .i64 T.nx, .slice T.pr T.R.length T.cr] 51))
      have HA7 := Lib.hid ((HA5.out.low hb6).low (below_alloc w6 (.cells #[.string T.nm, .slice T.pc T.n T.cc, .int .i64 T.nx, .slice T.pr T.R.length T.cr] 51)))
      have HE7 := Lib.hid ((HE5.out.low hb6).low (below_alloc w6 (.cells #[.string T.nm, .slice T.pc T.n T.cc, .int .i64 T.nx, .slice T.pr T.R.length T.cr] 51)))
      have HC7 := Lib.hid ((HC5.out.low hb6).low (below_alloc w6 (.cells #[.string T.nm, .slice T.pc T.n T.cc, .int .i64 T.nx, .slice T.pr T.R.length T.cr] 51)))
      have HR6 := Lib.hid hR6
      have HCA := Lib.hid hcase
      obtain ⟨xl, x0, x1, -⟩ := HX5.out.low hb6
      clear hT6 hR6 hcase hb6 HB5 HA5 HE5 HC5 HX5
      unfold Tab.v
      go_wp2_with fail
      clear xl x0 x1
      generalize hW7 : w6.alloc _ = W7 at HT7 HY7 HX7 HB7 HA7 HE7 HC7 ⊢
      clear hW7
      refine (rtnew_any nm pk n ck f _ hsz hn HC7.out).mono ?_
      rintro e w8 ⟨S, er', rfl, hS8, hR8, hb8, hcase'⟩
      obtain ⟨her, hsame, hval⟩ := new_same HR6.out hR8 HCA.out hcase'
      subst her
      have HSAME := Lib.hid hsame
      have HT9 := Lib.hid ((HT7.out.low hb8).low (below_alloc w8 (.cells #[.string S.nm, .slice S.pc S.n S.cc, .int .i64 S.nx, .slice S.pr S.R.length S.cr] 51)))
      have HS9 := Lib.hid (hS8.low (below_alloc w8 (.cells #[.string S.nm, .slice S.pc S.n S.cc, .int .i64 S.nx, .slice S.pr S.R.length S.cr] 51)))
      have HY9 := Lib.hid ((HY7.out.low hb8).low (below_alloc w8 (.cells #[.string S.nm, .slice S.pc S.n S.cc, .int .i64 S.nx, .slice S.pr S.R.length S.cr] 51)))
      have HZ9 := Lib.hid (cell4_new w8 (.string S.nm) (.slice S.pc S.n S.cc) (.int .i64 S.nx) (.slice S.pr S.R.length S.cr) 51)
      have HB9 := Lib.hid (below_new (below_next HB7.out hb8) (.cells #[.string S.nm, .slice S.pc S.n S.cc, .int .i64 S.nx, .slice S.pr S.R.length S.cr] 51))
      have HA9 := Lib.hid ((HA7.out.low hb8).low (below_alloc w8 (.cells #[.string S.nm, .slice S.pc S.n S.cc, .int .i64 S.nx, .slice S.pr S.R.length S.cr] 51)))
      have HE9 := Lib.hid ((HE7.out.low hb8).low (below_alloc w8 (.cells #[.string S.nm, .slice S.pc S.n S.cc, .int .i64 S.nx, .slice S.pr S.R.length S.cr] 51)))
      obtain ⟨yl, y0, y1, y2, y3, -⟩ := HY7.out.low hb8
      clear hsame hS8 hR8 hb8 hcase' HR6 HCA HT7 HY7 HX7 HB7 HA7 HE7 HC7
      unfold Tab.v
      generalize w6.heap.size = Y at HY9 yl y0 y1 y2 y3 ⊢
      rcases hval with ⟨rfl, hv⟩ | rfl
      · have HV := Lib.hid hv
        clear hv
        go_wp2_with fail
        clear yl y0 y1 y2 y3
        generalize hW9 : w8.alloc _ = W9 at HT9 HS9 HY9 HZ9 HB9 HA9 HE9 ⊢
        clear hW9
        refine (sametable_any T S _ HT9.out HS9.out).mono ?_
        rintro e w10 ⟨rfl, hb10⟩
        have HT10 := Lib.hid (HT9.out.low hb10)
        have HY10 := Lib.hid (HY9.out.low hb10)
        have HB10 := Lib.hid (below_next HB9.out hb10)
        have HA10 := Lib.hid (HA9.out.low hb10)
        have HE10 := Lib.hid (HE9.out.low hb10)
        clear HT9 HS9 HY9 HZ9 HB9 HA9 HE9 hb10
        obtain ⟨yl, y0, y1, y2, y3, -⟩ := HY10.out
        rw [HSAME.out]
        go_wp2_with fail
        refine (hT.valid T _ HT10.out).mono ?_
        rintro e w11 ⟨rfl, hb11⟩
        have HB11 := Lib.hid (below_next HB10.out hb11)
        have HA11 := Lib.hid (HA10.out.low hb11)
        have HE11 := Lib.hid (HE10.out.low hb11)
        clear HT10 HY10 HB10 HA10 HE10 hb11 yl y0 y1 y2 y3
        rw [HV.out]
        go_wp2
        go_roundw
        case rel => exact ⟨k + 1, by omega, by go_num, HA11.out, HE11.out, HB11.out⟩
        case measure => simp [intOf]; omega
      · go_wp2_with fail
        clear yl y0 y1 y2 y3
        generalize hW9 : w8.alloc _ = W9 at HT9 HS9 HY9 HZ9 HB9 HA9 HE9 ⊢
        clear hW9
        refine (sametable_any T S _ HT9.out HS9.out).mono ?_
        rintro e w10 ⟨rfl, hb10⟩
        have HB10 := Lib.hid (below_next HB9.out hb10)
        have HA10 := Lib.hid (HA9.out.low hb10)
        have HE10 := Lib.hid (HE9.out.low hb10)
        clear HT9 HS9 HY9 HZ9 HB9 HA9 HE9 hb10
        rw [HSAME.out]
        go_wp2
        go_roundw
        case rel => exact ⟨k + 1, by omega, by go_num, HA10.out, HE10.out, HB10.out⟩
        case measure => simp [intOf]; omega
    · have hlt' : decide ((k : Int) < 2) = false := decide_eq_false (by omega)
      obtain rfl : k = 2 := by omega
      clear hs1 hs2 hb
      go_wp2_with fail
      refine (known6_any hT _).mono ?_
      rintro e w12 ⟨rfl, hb12⟩
      have HB12 := Lib.hid (below_next HB.out hb12)
      clear hb12
      go_wp2
      go_ret
      exact ⟨rfl, HB12.out⟩
end Go.Proofs.YtgaihglploedaaaDoor
