/-
  Several texts in one.
-/
import Derived.Test.YtlnbpobipmejfaaGreatDoorPk01
import Derived.Test.YtlnbpobipmejfaaGreatDoorPk09
import Derived.Test.YtlnbpobipmejfaaGreatDoorPk12
import Derived.Test.YtlnbpobipmejfaaGreatDoorPk10
/-
  Equal texts.
-/
namespace Go.Proofs.YtlnbpobipmejfaaGreatDoor
set_option maxRecDepth 100000
open Go.RowKit
theorem eq_texts {a b : ByteArray} (h : a = b) : (a.toList == b.toList) = true := by rw [h]; exact beq_self_eq_true _
theorem ne_texts {a b : ByteArray} (h : a ≠ b) : (a.toList == b.toList) = false := by
  rw [beq_eq_false_iff_ne, ByteArray.toList_eq, ByteArray.toList_eq]
  exact fun hc => h (ByteArray.ext (Array.toList_inj.1 hc))

end Go.Proofs.YtlnbpobipmejfaaGreatDoor
/-
  The schemas of the world.
-/
namespace Go.Proofs.YtlnbpobipmejfaaGreatDoor
set_option maxRecDepth 100000
open Go.RowKit
variable {ls : List Nat}

def colLog : Nat → Col := fun i => match i with | 0 => ⟨⟨#[110]⟩, 1, false, false⟩ | _ => ⟨⟨#[115]⟩, 3, false, false⟩
def colT : Nat → Col := fun i => match i with | 0 => ⟨⟨#[105, 100]⟩, 1, true, true⟩ | 1 => ⟨⟨#[110]⟩, 1, false, false⟩ | 2 => ⟨⟨#[98]⟩, 2, false, false⟩ | _ => ⟨⟨#[115]⟩, 3, false, false⟩
def colU : Nat → Col := fun i => match i with | 0 => ⟨⟨#[105, 100]⟩, 1, true, true⟩ | 1 => ⟨⟨#[110]⟩, 1, true, false⟩ | _ => ⟨⟨#[109]⟩, 1, false, false⟩
/-- The list of the three schemas. -/
structure SchemasAt (u : World) (X Y Z U : Nat) : Prop where
  lt : X < u.heap.size
  c0 : u.cell? ⟨X, 0, none⟩ = some (.string ⟨#[108, 111, 103]⟩)
  c1 : u.cell? ⟨X, 1, none⟩ = some (.slice (some ⟨Y, 0, none⟩) 2 2)
  c2 : u.cell? ⟨X, 2, none⟩ = some (.string ⟨#[116]⟩)
  c3 : u.cell? ⟨X, 3, none⟩ = some (.slice (some ⟨Z, 0, none⟩) 4 4)
  c4 : u.cell? ⟨X, 4, none⟩ = some (.string ⟨#[117]⟩)
  c5 : u.cell? ⟨X, 5, none⟩ = some (.slice (some ⟨U, 0, none⟩) 3 3)
  logC : ColsAt u (some ⟨Y, 0, none⟩) 2 colLog
  tC : ColsAt u (some ⟨Z, 0, none⟩) 4 colT
  uC : ColsAt u (some ⟨U, 0, none⟩) 3 colU
theorem SchemasAt.low {u v : World} {X Y Z U : Nat} (h : SchemasAt u X Y Z U) (hb : Below u.heap.size u v) : SchemasAt v X Y Z U := by
  obtain ⟨hl, c0, c1, c2, c3, c4, c5, a, b, c⟩ := h
  exact ⟨Nat.lt_of_lt_of_le hl hb.size, by rw [hb.cell (by exact hl)]; exact c0, by rw [hb.cell (by exact hl)]; exact c1, by rw [hb.cell (by exact hl)]; exact c2, by rw [hb.cell (by exact hl)]; exact c3, by rw [hb.cell (by exact hl)]; exact c4, by rw [hb.cell (by exact hl)]; exact c5, a.low hb, b.low hb, c.low hb⟩

theorem log_new (w : World) (t : TypeId) : ColsAt (w.alloc (.cells #[.string ⟨#[110]⟩, .int .i64 1, .bool false, .bool false, .string ⟨#[115]⟩, .int .i64 3, .bool false, .bool false] t)) (some ⟨w.heap.size, 0, none⟩) 2 colLog := by
  intro i hi
  obtain rfl | rfl : i = 0 ∨ i = 1 := by omega
  all_goals
    refine ⟨w.heap.size, 0, rfl, by simp, by decide, ?_, ?_, ?_, ?_⟩
    all_goals simp only [colLog]; go_simp
theorem t_new (w : World) (t : TypeId) : ColsAt (w.alloc (.cells #[.string ⟨#[105, 100]⟩, .int .i64 1, .bool true, .bool true, .string ⟨#[110]⟩, .int .i64 1, .bool false, .bool false, .string ⟨#[98]⟩, .int .i64 2, .bool false, .bool false, .string ⟨#[115]⟩, .int .i64 3, .bool false, .bool false] t)) (some ⟨w.heap.size, 0, none⟩) 4 colT := by
  intro i hi
  obtain rfl | rfl | rfl | rfl : i = 0 ∨ i = 1 ∨ i = 2 ∨ i = 3 := by omega
  all_goals
    refine ⟨w.heap.size, 0, rfl, by simp, by decide, ?_, ?_, ?_, ?_⟩
    all_goals simp only [colT]; go_simp
theorem u_new (w : World) (t : TypeId) : ColsAt (w.alloc (.cells #[.string ⟨#[105, 100]⟩, .int .i64 1, .bool true, .bool true, .string ⟨#[110]⟩, .int .i64 1, .bool true, .bool false, .string ⟨#[109]⟩, .int .i64 1, .bool false, .bool false] t)) (some ⟨w.heap.size, 0, none⟩) 3 colU := by
  intro i hi
  obtain rfl | rfl | rfl : i = 0 ∨ i = 1 ∨ i = 2 := by omega
  all_goals
    refine ⟨w.heap.size, 0, rfl, by simp, by decide, ?_, ?_, ?_, ?_⟩
    all_goals simp only [colU]; go_simp

def SchemasPost (w : World) (e : Ending) (w' : World) : Prop := ∃ X Y Z U : Nat, e = .returned (.slice (some ⟨X, 0, none⟩) 3 3) ∧ SchemasAt w' X Y Z U ∧ w.heap.size ≤ X ∧ w.heap.size ≤ Y ∧ w.heap.size ≤ Z ∧ w.heap.size ≤ U ∧ Below w.heap.size w w'
set_option maxHeartbeats 1000000 in
theorem schemas_any (w : World) :
    Calls Tryz.prog 26 #[] w (SchemasPost w) := by
  go_enter Tryz.func26, Tryz.ntmps26
  go_wp2
  go_ret
  refine ⟨w.heap.size + 1 + 1 + 1, w.heap.size, w.heap.size + 1, w.heap.size + 1 + 1, rfl, ⟨by simp, ?_, ?_, ?_, ?_, ?_, ?_, ?_, ?_, ?_⟩, by omega, by omega, by omega, by omega, ?_⟩
  · go_simp
  · go_simp
  · go_simp
  · go_simp
  · go_simp
  · go_simp
  · exact (((log_new w _).low (below_alloc _ _)).low (below_alloc _ _)).low (below_alloc _ _)
  · exact ColsAt.low (ColsAt.low (cols_at (size_alloc _ _) (t_new _ _)) (below_alloc _ _)) (below_alloc _ _)
  · exact ColsAt.low (cols_at (by rw [size_alloc, size_alloc]) (u_new _ _)) (below_alloc _ _)
  · exact below_new (below_new (below_new (below_new (Below.refl _ _) _) _) _) _

def SchemaTPost (w : World) (e : Ending) (w' : World) : Prop := ∃ Z : Nat, e = .returned (schV ⟨#[116]⟩ (some ⟨Z, 0, none⟩) 4 4) ∧ ColsAt w' (some ⟨Z, 0, none⟩) 4 colT ∧ w.heap.size < Z ∧ Below w.heap.size w w'
set_option maxHeartbeats 1000000 in
theorem schemaT_any (w : World) :
    Calls Tryz.prog 7 #[.string ⟨#[116]⟩] w (SchemaTPost w) := by
  go_enter Tryz.func7, Tryz.ntmps7
  go_wp2_with fail
  refine (schemas_any _).mono ?_
  rintro e w1 ⟨X, Y, Z, U, rfl, hS, hX, hY, hZ, hU, hb⟩
  obtain ⟨hq, hb'⟩ := two_one hb
  have HZ : Hid (w.heap.size < Z) := Lib.hid (by rw [size_alloc] at hZ; omega)
  have HX : Hid (w.heap.size < X) := Lib.hid (by rw [size_alloc] at hX; omega)
  have HS := Lib.hid hS
  have HQ := Lib.hid hq
  have HB := Lib.hid hb'
  clear hX hY hZ hU hS hb hb' hq
  have e0 : ((⟨#[108, 111, 103]⟩ : ByteArray).toList == (⟨#[116]⟩ : ByteArray).toList) = false := ne_texts (by decide)
  have e1 : ((⟨#[116]⟩ : ByteArray).toList == (⟨#[116]⟩ : ByteArray).toList) = true := eq_texts rfl
  go_wp2_with fail
  go_loopw [7] (fun i v => ∃ k : Nat, k ≤ 1 ∧ i = .int .i64 k ∧ Below w.heap.size w v ∧ SchemasAt v X Y Z U ∧ Cell2 v w.heap.size (.string ⟨#[]⟩) (.slice none 0 0)) (fun i _ => 3 - (intOf i).toNat)
  case atStart => exact ⟨0, Nat.zero_le _, rfl, HB.out, HS.out, HQ.out⟩
  case round =>
    obtain ⟨k, hk, rfl, hb, hs, hq⟩ := hrel
    have HB1 := Lib.hid hb
    have HS1 := Lib.hid hs
    have HQ1 := Lib.hid hq
    obtain ⟨hl, c0, c1, c2, c3, c4, c5, hcl, hct, hcu⟩ := hs
    obtain ⟨dz, d0, d1, dfz⟩ := hq
    clear hb hcl hct hcu
    obtain rfl | rfl : k = 0 ∨ k = 1 := by omega
    · go_wp2
      go_roundw
      case rel => exact ⟨1, by omega, by go_num, below_new HB1.out _, HS1.out.low (below_alloc _ _), HQ1.out.low (below_alloc _ _)⟩
      case measure => simp [intOf]
    · go_wp2
      obtain ⟨sz, s0, s1, sf⟩ := (cell2_set HQ1.out (.string ⟨#[116]⟩) (.slice (some ⟨Z, 0, none⟩) 4 4)).low (below_alloc _ (.cells #[.string ⟨#[116]⟩, .slice (some ⟨Z, 0, none⟩) 4 4] 28))
      exact bodyPost_ret (v := schV ⟨#[116]⟩ (some ⟨Z, 0, none⟩) 4 4) (by simp [results, Tryz.results7, go_sem, s0, s1, schV]) rfl ⟨Z, rfl, ((HS1.out.tC.set (fun q hq => by cases hq; exact Nat.ne_of_gt HZ.out) _).set (fun q hq => by cases hq; exact Nat.ne_of_gt HZ.out) _).low (below_alloc _ _), HZ.out, below_new ((HB1.out.setCell (by exact Nat.le_refl _) _).setCell (by exact Nat.le_refl _) _) _⟩
end Go.Proofs.YtlnbpobipmejfaaGreatDoor
/-
  The schemas of the world, by name.
-/
namespace Go.Proofs.YtlnbpobipmejfaaGreatDoor
set_option maxRecDepth 100000
open Go.RowKit
variable {ls : List Nat}
def SchemaLogPost (w : World) (e : Ending) (w' : World) : Prop := ∃ Z : Nat, e = .returned (schV ⟨#[108, 111, 103]⟩ (some ⟨Z, 0, none⟩) 2 2) ∧ ColsAt w' (some ⟨Z, 0, none⟩) 2 colLog ∧ w.heap.size < Z ∧ Below w.heap.size w w'
set_option maxHeartbeats 1000000 in
theorem schemaLog_any (w : World) :
    Calls Tryz.prog 7 #[.string ⟨#[108, 111, 103]⟩] w (SchemaLogPost w) := by
  go_enter Tryz.func7, Tryz.ntmps7
  go_wp2_with fail
  refine (schemas_any _).mono ?_
  rintro e w1 ⟨X, Y, Z, U, rfl, hS, hX, hY, hZ, hU, hb⟩
  obtain ⟨hq, hb'⟩ := two_one hb
  have HZ : Hid (w.heap.size < Y) := Lib.hid (by rw [size_alloc] at hY; omega)
  have HX : Hid (w.heap.size < X) := Lib.hid (by rw [size_alloc] at hX; omega)
  have HS := Lib.hid hS
  have HQ := Lib.hid hq
  have HB := Lib.hid hb'
  clear hX hY hZ hU hS hb hb' hq
  have e0 : ((⟨#[108, 111, 103]⟩ : ByteArray).toList == (⟨#[108, 111, 103]⟩ : ByteArray).toList) = true := eq_texts rfl
  go_wp2_with fail
  go_loopw [7] (fun i v => ∃ k : Nat, k ≤ 0 ∧ i = .int .i64 k ∧ Below w.heap.size w v ∧ SchemasAt v X Y Z U ∧ Cell2 v w.heap.size (.string ⟨#[]⟩) (.slice none 0 0)) (fun i _ => 3 - (intOf i).toNat)
  case atStart => exact ⟨0, Nat.zero_le _, rfl, HB.out, HS.out, HQ.out⟩
  case round =>
    obtain ⟨k, hk, rfl, hb, hs, hq⟩ := hrel
    have HB1 := Lib.hid hb
    have HS1 := Lib.hid hs
    have HQ1 := Lib.hid hq
    obtain ⟨hl, c0, c1, c2, c3, c4, c5, hcl, hct, hcu⟩ := hs
    obtain ⟨dz, d0, d1, dfz⟩ := hq
    clear hb hcl hct hcu
    obtain rfl : k = 0 := by omega
    go_wp2
    obtain ⟨sz, s0, s1, sf⟩ := (cell2_set HQ1.out (.string ⟨#[108, 111, 103]⟩) (.slice (some ⟨Y, 0, none⟩) 2 2)).low (below_alloc _ (.cells #[.string ⟨#[108, 111, 103]⟩, .slice (some ⟨Y, 0, none⟩) 2 2] 28))
    exact bodyPost_ret (v := schV ⟨#[108, 111, 103]⟩ (some ⟨Y, 0, none⟩) 2 2) (by simp [results, Tryz.results7, go_sem, s0, s1, schV]) rfl ⟨Y, rfl, ((HS1.out.logC.set (fun q hq => by cases hq; exact Nat.ne_of_gt HZ.out) _).set (fun q hq => by cases hq; exact Nat.ne_of_gt HZ.out) _).low (below_alloc _ _), HZ.out, below_new ((HB1.out.setCell (by exact Nat.le_refl _) _).setCell (by exact Nat.le_refl _) _) _⟩
def SchemaUPost (w : World) (e : Ending) (w' : World) : Prop := ∃ Z : Nat, e = .returned (schV ⟨#[117]⟩ (some ⟨Z, 0, none⟩) 3 3) ∧ ColsAt w' (some ⟨Z, 0, none⟩) 3 colU ∧ w.heap.size < Z ∧ Below w.heap.size w w'
set_option maxHeartbeats 1000000 in
theorem schemaU_any (w : World) :
    Calls Tryz.prog 7 #[.string ⟨#[117]⟩] w (SchemaUPost w) := by
  go_enter Tryz.func7, Tryz.ntmps7
  go_wp2_with fail
  refine (schemas_any _).mono ?_
  rintro e w1 ⟨X, Y, Z, U, rfl, hS, hX, hY, hZ, hU, hb⟩
  obtain ⟨hq, hb'⟩ := two_one hb
  have HZ : Hid (w.heap.size < U) := Lib.hid (by rw [size_alloc] at hU; omega)
  have HX : Hid (w.heap.size < X) := Lib.hid (by rw [size_alloc] at hX; omega)
  have HS := Lib.hid hS
  have HQ := Lib.hid hq
  have HB := Lib.hid hb'
  clear hX hY hZ hU hS hb hb' hq
  have e0 : ((⟨#[108, 111, 103]⟩ : ByteArray).toList == (⟨#[117]⟩ : ByteArray).toList) = false := ne_texts (by decide)
  have e1 : ((⟨#[116]⟩ : ByteArray).toList == (⟨#[117]⟩ : ByteArray).toList) = false := ne_texts (by decide)
  have e2 : ((⟨#[117]⟩ : ByteArray).toList == (⟨#[117]⟩ : ByteArray).toList) = true := eq_texts rfl
  go_wp2_with fail
  go_loopw [7] (fun i v => ∃ k : Nat, k ≤ 2 ∧ i = .int .i64 k ∧ Below w.heap.size w v ∧ SchemasAt v X Y Z U ∧ Cell2 v w.heap.size (.string ⟨#[]⟩) (.slice none 0 0)) (fun i _ => 3 - (intOf i).toNat)
  case atStart => exact ⟨0, Nat.zero_le _, rfl, HB.out, HS.out, HQ.out⟩
  case round =>
    obtain ⟨k, hk, rfl, hb, hs, hq⟩ := hrel
    have HB1 := Lib.hid hb
    have HS1 := Lib.hid hs
    have HQ1 := Lib.hid hq
    obtain ⟨hl, c0, c1, c2, c3, c4, c5, hcl, hct, hcu⟩ := hs
    obtain ⟨dz, d0, d1, dfz⟩ := hq
    clear hb hcl hct hcu
    obtain rfl | rfl | rfl : k = 0 ∨ k = 1 ∨ k = 2 := by omega
    · go_wp2
      go_roundw
      case rel => exact ⟨1, by omega, by go_num, below_new HB1.out _, HS1.out.low (below_alloc _ _), HQ1.out.low (below_alloc _ _)⟩
      case measure => simp [intOf]
    · go_wp2
      go_roundw
      case rel => exact ⟨2, by omega, by go_num, below_new HB1.out _, HS1.out.low (below_alloc _ _), HQ1.out.low (below_alloc _ _)⟩
      case measure => simp [intOf]
    · go_wp2
      obtain ⟨sz, s0, s1, sf⟩ := (cell2_set HQ1.out (.string ⟨#[117]⟩) (.slice (some ⟨U, 0, none⟩) 3 3)).low (below_alloc _ (.cells #[.string ⟨#[117]⟩, .slice (some ⟨U, 0, none⟩) 3 3] 28))
      exact bodyPost_ret (v := schV ⟨#[117]⟩ (some ⟨U, 0, none⟩) 3 3) (by simp [results, Tryz.results7, go_sem, s0, s1, schV]) rfl ⟨U, rfl, ((HS1.out.uC.set (fun q hq => by cases hq; exact Nat.ne_of_gt HZ.out) _).set (fun q hq => by cases hq; exact Nat.ne_of_gt HZ.out) _).low (below_alloc _ _), HZ.out, below_new ((HB1.out.setCell (by exact Nat.le_refl _) _).setCell (by exact Nat.le_refl _) _) _⟩

/-- The names of the tables, their columns. -/
def wsNm (k : Nat) : ByteArray := match k with | 0 => ⟨#[116]⟩ | 1 => ⟨#[117]⟩ | _ => ⟨#[108, 111, 103]⟩
def wsN (k : Nat) : Nat := match k with | 0 => 4 | 1 => 3 | _ => 2
def wsF (k : Nat) : Nat → Col := match k with | 0 => colT | 1 => colU | _ => colLog
theorem ws_valid (k : Nat) : schemaOK (wsNm k) (wsN k) (wsF k) = true := by
  match k with
  | 0 => decide +kernel
  | 1 => decide +kernel
  | _ + 2 => show schemaOK ⟨#[108, 111, 103]⟩ 2 colLog = true; decide +kernel
def SchemaKPost (k : Nat) (w : World) (e : Ending) (w' : World) : Prop := ∃ Z : Nat, e = .returned (schV (wsNm k) (some ⟨Z, 0, none⟩) (wsN k) (wsN k)) ∧ ColsAt w' (some ⟨Z, 0, none⟩) (wsN k) (wsF k) ∧ w.heap.size < Z ∧ Below w.heap.size w w'
theorem schemaK_any (k : Nat) (w : World) :
    Calls Tryz.prog 7 #[.string (wsNm k)] w (SchemaKPost k w) := by
  match k with
  | 0 => exact schemaT_any w
  | 1 => exact schemaU_any w
  | _ + 2 => exact schemaLog_any w
end Go.Proofs.YtlnbpobipmejfaaGreatDoor
/-
  The tables of the world: the name of one, a table that is built row by row.
-/
namespace Go.Proofs.YtlnbpobipmejfaaGreatDoor
set_option maxRecDepth 100000
open Go.RowKit
variable {ls : List Nat}

def TablePost (b : Nat) (w : World) (e : Ending) (w' : World) : Prop := ∃ q : Nat, e = .returned (.string (wsNm q)) ∧ q < 3 ∧ TapeAt w' b ∧ StepT b w w'
set_option maxHeartbeats 1000000 in
theorem table_any (b : Nat) (w : World) (ht : TapeAt w b) :
    Calls Tryz.prog 8 #[.pointer (some ⟨b, 0, none⟩)] w (TablePost b w) := by
  have hlt := ht.lt
  have HB := Lib.hid ((StepT.refl b w).alloc (.cells #[.string ⟨#[116]⟩, .string ⟨#[117]⟩, .string ⟨#[108, 111, 103]⟩] 9))
  have HT := Lib.hid (ht.alloc (.cells #[.string ⟨#[116]⟩, .string ⟨#[117]⟩, .string ⟨#[108, 111, 103]⟩] 9))
  have h0 : ∀ i : Nat, i < 3 → (w.alloc (.cells #[.string ⟨#[116]⟩, .string ⟨#[117]⟩, .string ⟨#[108, 111, 103]⟩] 9)).cell? ⟨w.heap.size, i, none⟩ = some (.string (wsNm i)) := by
    intro i hi
    obtain rfl | rfl | rfl : i = 0 ∨ i = 1 ∨ i = 2 := by omega
    all_goals go_simp; rfl
  have H0 := Lib.hid h0
  clear h0 ht
  go_enter Tryz.func8, Tryz.ntmps8
  go_wp2_with fail
  refine (next_any b _ _ (by omega) (by omega) HT.out).mono ?_
  rintro e w' ⟨r, rfl, hr0, hr1, ht1, hs1⟩
  obtain ⟨q, rfl⟩ : ∃ q : Nat, r = q := ⟨r.toNat, by omega⟩
  have hc := H0.out q (by omega)
  have hc2 : w'.cell? ⟨w.heap.size, q, none⟩ = some (.string (wsNm q)) := by
    rw [hs1.cell (by show w.heap.size < _; rw [size_alloc]; omega) (by show w.heap.size ≠ b; omega)]; exact hc
  have HT1 := Lib.hid ht1
  have HS1 := Lib.hid (HB.out.trans hs1)
  clear ht1 hs1 hc H0 HB HT
  go_wp2
  go_ret
  exact ⟨q, rfl, by omega, HT1.out, HS1.out⟩

/-- What a table holds while it is built. -/
structure GoodT (f : Nat → Col) (n : Nat) (m : Nat) (nx : Int) (R : List TRow) : Prop where
  lo : 1 ≤ nx
  hi : nx ≤ 3 + 2 * m
  len : R.length ≤ m
  ok : ∀ i, i < R.length → RowOK f n nx R i
  dup : (keysR (findKey f n) R).Nodup
  sized : ∀ r ∈ R, ValsSized r.2
theorem GoodT.nil {f : Nat → Col} {n : Nat} {nx : Int} (h1 : 1 ≤ nx) (h2 : nx ≤ 3) : GoodT f n 0 nx [] := ⟨h1, by omega, Nat.le_refl _, fun i hi => by simp at hi, List.nodup_nil, fun r hr => by cases hr⟩
theorem GoodT.keep {f : Nat → Col} {n m : Nat} {nx nx' : Int} {R : List TRow} (h : GoodT f n m nx R) (h1 : nx ≤ nx') (h2 : nx' ≤ nx + 2) : GoodT f n (m + 1) nx' R :=
  ⟨by have := h.lo; omega, by have := h.hi; omega, by have := h.len; omega, fun i hi => by obtain ⟨a, b, c, d⟩ := h.ok i hi; exact ⟨a, by omega, c, d⟩, h.dup, h.sized⟩
theorem keysR_add (k : Int) (R : List TRow) (r : TRow) : keysR k (R ++ [r]) = keysR k R ++ (keyV k r.2).toList := by
  unfold keysR
  rw [List.filterMap_append]
  cases hk : keyV k r.2 with
  | none => rw [List.filterMap_cons_none (by exact hk)]; rfl
  | some v => rw [List.filterMap_cons_some (by exact hk)]; rfl
theorem GoodT.add {f : Nat → Col} {n m : Nat} {nx nx' : Int} {R : List TRow} {r : List Val} (h : GoodT f n m nx R) (hr : fitsRow f n r = 0) (hs : ValsSized r) (hk : ∀ i, i < R.length → ∀ v, keyV (findKey f n) r = some v → keyV (findKey f n) (tAt R i).2 ≠ some v) (h1 : nx + 1 ≤ nx') (h2 : nx' ≤ nx + 2) : GoodT f n (m + 1) nx' (R ++ [(nx, r)]) := by
  have hlo := h.lo
  refine ⟨by omega, by have := h.hi; omega, by rw [List.length_append, List.length_singleton]; have := h.len; omega, fun i hi => ?_, ?_, fun x hx => ?_⟩
  · rw [List.length_append, List.length_singleton] at hi
    unfold RowOK
    by_cases hin : i < R.length
    · obtain ⟨a, b, c, d⟩ := h.ok i hin
      rw [tAt_left hin]
      exact ⟨a, by omega, fun h0 => by rw [tAt_left (by omega)]; exact c h0, d⟩
    · obtain rfl : i = R.length := by omega
      rw [tAt_last]
      refine ⟨hlo, by show nx < nx'; omega, fun h0 => ?_, hr⟩
      rw [tAt_left (by omega)]
      exact (h.ok (R.length - 1) (by omega)).2.1
  · rw [keysR_add, List.nodup_append]
    refine ⟨h.dup, ?_, fun a ha b hb => ?_⟩
    · cases keyV (findKey f n) r <;> simp
    · rintro rfl
      cases hkr : keyV (findKey f n) r with
      | none => rw [hkr] at hb; simp at hb
      | some v =>
        rw [hkr] at hb
        have hb2 : a = v := by simpa using hb
        subst hb2
        unfold keysR at ha
        obtain ⟨x, hx, hxa⟩ := List.mem_filterMap.1 ha
        obtain ⟨i, hi, rfl⟩ := List.getElem_of_mem hx
        exact hk i hi _ hkr (by rw [tAt_get hi]; exact hxa)
  · rcases List.mem_append.1 hx with hx | hx
    · exact h.sized x hx
    · obtain rfl := List.mem_singleton.1 hx
      exact hs
theorem GoodT.valid {f : Nat → Col} {n m : Nat} {nx : Int} {R : List TRow} {nm : ByteArray} (h : GoodT f n m nx R) (hm : m ≤ 50) (hs : schemaOK nm n f = true) : validT nm n f nx R = true := by
  rw [validT_dup hs ⟨by have := h.len; omega, h.lo, by have := h.hi; omega⟩ h.ok, dupR_no h.dup]
  rfl

/-- Is a row's key none of the first d rows'? -/
def freshB (k : Int) (R : List TRow) (r : List Val) (d : Nat) : Bool := decide (k < 0 ∨ ∀ i, i < d → keyV k (tAt R i).2 ≠ keyV k r)
theorem freshB_zero (k : Int) (R : List TRow) (r : List Val) : freshB k R r 0 = true := decide_eq_true (.inr fun i hi => by omega)
theorem freshB_neg {k : Int} {R : List TRow} {r : List Val} {d : Nat} (h : k < 0) : freshB k R r d = true := decide_eq_true (.inl h)
theorem freshB_not {k : Int} {R : List TRow} {r : List Val} {d : Nat} (h : freshB k R r d = false) : freshB k R r (d + 1) = false := by
  unfold freshB at h ⊢
  apply decide_eq_false
  rintro (h2 | h2)
  · exact of_decide_eq_false h (.inl h2)
  · exact of_decide_eq_false h (.inr fun i hi => h2 i (by omega))
theorem freshB_hit {k : Nat} {R : List TRow} {r : List Val} {d : Nat} (h1 : k < (tAt R d).2.length) (h2 : k < r.length) (he : vAt (tAt R d).2 k = vAt r k) : freshB k R r (d + 1) = false := by
  apply decide_eq_false
  rintro (h | h)
  · omega
  · exact h d (Nat.lt_succ_self _) (by rw [keyV_some h1, keyV_some h2, he])
theorem freshB_miss {k : Nat} {R : List TRow} {r : List Val} {d : Nat} (h : freshB k R r d = true) (h1 : k < (tAt R d).2.length) (h2 : k < r.length) (he : vAt (tAt R d).2 k ≠ vAt r k) : freshB k R r (d + 1) = true := by
  have h' := of_decide_eq_true h
  apply decide_eq_true
  rcases h' with h' | h'
  · omega
  · refine .inr fun i hi => ?_
    by_cases hid : i < d
    · exact h' i hid
    · obtain rfl : i = d := by omega
      rw [keyV_some h1, keyV_some h2]
      exact fun e => he (Option.some.inj e)
theorem freshB_all {k : Int} {R : List TRow} {r : List Val} (h : freshB k R r R.length = true) : ∀ i, i < R.length → ∀ v, keyV k r = some v → keyV k (tAt R i).2 ≠ some v := by
  intro i hi v hv
  rcases of_decide_eq_true h with h' | h'
  · rw [keyV_neg h'] at hv; cases hv
  · rw [← hv]; exact h' i hi

/-- The first key column of a schema in which there is one at most. -/
theorem findKey_zero (f : Nat → Col) : findKey f 0 = -1 := rfl
theorem findKey_add {f : Nat → Col} {n : Nat} (hg : Good f n) : findKey f (n + 1) = if (f n).key then (n : Int) else findKey f n := by
  cases hk : (f n).key
  · show findI _ _ = findI _ _
    unfold findI
    rw [List.range_succ, List.find?_append, List.find?_cons_of_neg (by rw [hk]; decide)]
    cases (List.range n).find? fun i => (f i).key <;> rfl
  · exact findI_hit (P := fun i => (f i).key) (Nat.lt_succ_self _) hk (hg.2.2 hk)
theorem schemaOK_good {nm : ByteArray} {n : Nat} {f : Nat → Col} (h : schemaOK nm n f = true) : ∀ i, i < n → Good f i := by
  unfold schemaOK at h
  simp only [Bool.and_eq_true, decide_eq_true_eq] at h
  exact h.2
theorem Good.ty {f : Nat → Col} {i : Nat} (h : Good f i) : 1 ≤ (f i).ty ∧ (f i).ty ≤ 3 := by
  have h1 := h.1
  unfold colOK at h1
  simp only [Bool.and_eq_true] at h1
  have h2 := h1.1.2
  unfold tyOK at h2
  simpa using h2
end Go.Proofs.YtlnbpobipmejfaaGreatDoor
