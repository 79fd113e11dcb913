/-
  Several texts in one.
-/
import Derived.Test.YtpkbliifcdopgaaDoorPk27
import Derived.Test.YtpkbliifcdopgaaDoorPk30
import Derived.Deep.RegionLaw
import Derived.Test.YtpkbliifcdopgaaDoorPk20
import Derived.Test.YtpkbliifcdopgaaDoorPk16
/-
  The state of a law that draws tables: tables with room for their rows, wherever their columns lie; Apply over it.
-/
namespace Go.Proofs.YtpkbliifcdopgaaDoor
set_option maxRecDepth 100000
open Go.RowKit
variable {ls : List Nat}

/-- A table that the tape leaves as it is, valid and with room for its rows. -/
structure Td (b : Nat) (u : World) (T : Tab) : Prop where
  all : ∀ v, StepT b u v → TabAt v T
  val : T.valid = true
  nms : T.nm.size ≤ 9223372036854775807
  pb : ∀ a, T.pc = some a → a.block ≠ b
  cap : T.R.length ≤ T.cr
/-- A turned table. -/
structure Ts (b : Nat) (u : World) (T : Tab) : Prop where
  all : ∀ v, StepT b u v → TabAt v T
  cap : T.R.length ≤ T.cr
section
variable {b : Nat} {w u v : World} {T : Tab} {C : Chg}
theorem Td.step (h : Td b u T) (hs : StepT b u v) : Td b v T := ⟨fun x hx => h.all x (hs.trans hx), h.val, h.nms, h.pb, h.cap⟩
theorem Td.low (h : Td b u T) (hb : Below u.heap.size u v) : Td b v T := h.step (step_low hb)
theorem Td.at (h : Td b u T) : TabAt u T := h.all u (StepT.refl b u)
theorem Td.sok (h : Td b u T) : schemaOK T.nm T.n T.f = true := (validT_parts h.val).1
theorem Td.ptr (h : Td b u T) : ∃ c o, T.pc = some ⟨c, o, none⟩ ∧ c < u.heap.size := h.at.cols.ptr (by have := schemaOK_range h.sok; omega)
theorem Td.turned (h : Td b u T) : Ts b u T := ⟨h.all, h.cap⟩
theorem Ts.step (h : Ts b u T) (hs : StepT b u v) : Ts b v T := ⟨fun x hx => h.all x (hs.trans hx), h.cap⟩
theorem Ts.low (h : Ts b u T) (hb : Below u.heap.size u v) : Ts b v T := h.step (step_low hb)
theorem Ts.at (h : Ts b u T) : TabAt u T := h.all u (StepT.refl b u)
theorem Wd.tableOfD (h : Wd ls b w u) (hlw : 0 ∈ ls) {k Z : Nat} (hS : Sch b k Z u) (m : Nat) (hm : m ≤ 20) :
    Calls Tryd.prog 9 #[.pointer (some ⟨b, 0, none⟩), schV (wsNm k) (some ⟨Z, 0, none⟩) (wsN k) (wsN k), .int .i64 m] u fun e v => ∃ T : Tab, e = .returned (.agg #[.string T.nm, .slice T.pc T.n T.cc, .int .i64 T.nx, .slice T.pr T.R.length T.cr]) ∧ Td b v T ∧ T.nm = wsNm k ∧ T.n = wsN k ∧ T.f = wsF k ∧ T.R.length ≤ m ∧ Wd ls b w v ∧ StepT b u v :=
  (tableofc_any b u h.g h.tape h.env hlw (wsNm k) ⟨Z, 0, none⟩ (wsN k) (wsN k) m (wsF k) hm (wsNm_size8 k) hS.cols hS.zb hS.z (ws_valid k)).mono fun _ _ ⟨T, he, h1, h2, h3, h4, h5, h6, h7, h8, ht, hs, hc⟩ =>
    ⟨T, he, ⟨h8, h7, by rw [h1]; exact wsNm_size8 k, fun a ha => by rw [h2] at ha; cases ha; exact hS.zb, hc⟩, h1, h3, h5, h6, h.step hs ht, hs⟩
theorem Wd.tableOfDT (h : Wd ls b w u) (hlw : 0 ∈ ls) (t : Td b u T) (m : Nat) (hm : m ≤ 20) :
    Calls Tryd.prog 9 #[.pointer (some ⟨b, 0, none⟩), .agg #[.string T.nm, .slice T.pc T.n T.cc], .int .i64 m] u fun e v => ∃ S : Tab, e = .returned (.agg #[.string S.nm, .slice S.pc S.n S.cc, .int .i64 S.nx, .slice S.pr S.R.length S.cr]) ∧ Td b v S ∧ S.nm = T.nm ∧ S.n = T.n ∧ S.f = T.f ∧ S.R.length ≤ m ∧ Wd ls b w v ∧ StepT b u v := by
  obtain ⟨c, o, hp, hc⟩ := t.ptr
  have hC : ColsAt u T.pc T.n T.f := t.at.cols
  have hx := tableofc_any b u h.g h.tape h.env hlw T.nm ⟨c, o, none⟩ T.n T.cc m T.f hm t.nms (by rw [← hp]; exact hC) (t.pb _ hp) hc t.sok
  rw [← hp] at hx
  exact hx.mono fun _ _ ⟨S, he, h1, h2, h3, h4, h5, h6, h7, h8, ht, hs, hc⟩ =>
    ⟨S, he, ⟨h8, h7, by rw [h1]; exact t.nms, fun a ha => t.pb a (hp.trans (h2.symm.trans ha)), hc⟩, h1, h3, h5, h6, h.step hs ht, hs⟩
theorem Wd.changeOfD (h : Wd ls b w u) (hlw : 0 ∈ ls) (t : Td b u T) (hR : T.R.length ≤ 40) :
    Calls Tryd.prog 12 #[.pointer (some ⟨b, 0, none⟩), .agg #[.string T.nm, .slice T.pc T.n T.cc, .int .i64 T.nx, .slice T.pr T.R.length T.cr]] u fun e v => ∃ C : Chg, e = .returned (.agg #[.slice C.pi C.I.length C.ci, .slice C.pd C.D.length C.cd, .slice C.pu C.U.length C.cu]) ∧ Cb b v C ∧ Wd ls b w v ∧ StepT b u v := by
  obtain ⟨c, o, hp, hc⟩ := t.ptr
  exact (changeofT_any b u h.g h.tape h.env hlw T ⟨c, o, none⟩ hp t.all t.val hR (t.pb _ hp) hc).mono fun _ _ ⟨C, he, h1, ht, hs, h2, h3, h4⟩ => ⟨C, he, ⟨h1, h2, h3, h4⟩, h.step hs ht, hs⟩
theorem Wd.spoiledD (h : Wd ls b w u) (hlw : 0 ∈ ls) (t : Td b u T) (h20 : T.R.length ≤ 20) :
    Calls Tryd.prog 15 #[.pointer (some ⟨b, 0, none⟩), .agg #[.string T.nm, .slice T.pc T.n T.cc, .int .i64 T.nx, .slice T.pr T.R.length T.cr]] u fun e v => ∃ S : Tab, e = .returned (.agg #[.string S.nm, .slice S.pc S.n S.cc, .int .i64 S.nx, .slice S.pr S.R.length S.cr]) ∧ Ts b v S ∧ Wd ls b w v ∧ StepT b u v :=
  (spoiledtc_any b u h.g h.tape h.env hlw T.nm T.pc T.n T.cc T.f T.nx T.pr T.cr T.R t.nms t.all t.val h20 t.pb).mono fun _ _ ⟨S, he, h1, ht, hs, hc⟩ => ⟨S, he, ⟨h1, hc⟩, h.step hs ht, hs⟩
theorem after_length (nx : Int) (R : List TRow) (I : List (List Val)) (D : List Int) (U : List PRow) : (afterR nx R I D U).length ≤ R.length + I.length := by
  unfold afterR keptR
  rw [List.length_append, List.length_map, comeR_length]
  have := List.length_filter_le (fun r : TRow => !decide (r.1 ∈ D)) R
  omega
/-- The table behind a change that succeeds. -/
structure Nx (b : Nat) (T S : Tab) (m : Nat) (v : World) : Prop where
  tab : Td b v S
  nm : S.nm = T.nm
  n : S.n = T.n
  f : S.f = T.f
  nx : T.nx ≤ S.nx
  len : S.R.length ≤ T.R.length + m
theorem Nx.step {S : Tab} {m : Nat} (h : Nx b T S m u) (hs : StepT b u v) : Nx b T S m v := ⟨h.tab.step hs, h.nm, h.n, h.f, h.nx, h.len⟩
theorem Nx.low {S : Tab} {m : Nat} (h : Nx b T S m u) (hb : Below u.heap.size u v) : Nx b T S m v := h.step (step_low hb)
theorem Nx.trans {S V : Tab} {m j : Nat} (h : Nx b T S m u) (k : Nx b S V j v) : Nx b T V (m + j) v := ⟨k.tab, k.nm.trans h.nm, k.n.trans h.n, k.f.trans h.f, Int.le_trans h.nx k.nx, by have := h.len; have := k.len; omega⟩
theorem Wd.applyD (h : Wd ls b w u) (t : Td b u T) (c : Cb b u C) :
    Calls Tryd.prog 36 #[.agg #[.string T.nm, .slice T.pc T.n T.cc, .int .i64 T.nx, .slice T.pr T.R.length T.cr], .agg #[.slice C.pi C.I.length C.ci, .slice C.pd C.D.length C.cd, .slice C.pu C.U.length C.cu]] u fun e v => ∃ (S : Tab) (E : Int), e = .returned (.tuple #[.agg #[.string S.nm, .slice S.pc S.n S.cc, .int .i64 S.nx, .slice S.pr S.R.length S.cr], .int .i64 E]) ∧ Wd ls b w v ∧ Below u.heap.size u v ∧ (E = 0 → ∀ x, v.heap.size ≤ x.heap.size → (∀ k, u.heap.size ≤ k → k < v.heap.size → x.heap[k]? = v.heap[k]?) → Nx b T S 3 x) :=
  (rapplyc_any T C u t.at c.at).mono fun _ v ⟨S, ⟨he, hS, hb, hr⟩, hc, hfr, hpc⟩ => by
    have hbz : b < u.heap.size := h.tape.lt
    rcases hr with ⟨h0, h1, h2, h3, h4, h5⟩ | ⟨h0, -⟩
    · obtain ⟨nm, pc, n, cc, f, nx, pr, cr, R⟩ := S
      dsimp only at h1 h2 h3 h4 h5 hc hpc
      subst h1 h2 h5 h4
      refine ⟨⟨T.nm, pc, T.n, cc, T.f, T.nx + C.I.length, pr, cr, afterR T.nx T.R C.I C.D C.U⟩, _, he, h.low hb, hb, fun _ y hz hk => ⟨⟨fun x hx => ?_, after_valid h0, t.nms, fun a ha => ?_, hc⟩, rfl, rfl, rfl, by dsimp only; omega, ?_⟩⟩
      · obtain ⟨g1, g2, g3, g4, g5, g6, g7⟩ := hfr x (Nat.le_trans hz hx.size) (fun k hk1 hk2 => (hx.block k (Nat.lt_of_lt_of_le hk2 hz) (by omega)).trans (hk k hk1 hk2))
        exact ⟨g1, g2, g3.congr fun i hi => (h3 i hi).symm, g4, g5, g6, g7⟩
      · have := hpc a ha
        omega
      · have := after_length T.nx T.R C.I C.D C.U
        have := c.i
        dsimp only
        omega
    · exact ⟨S, _, he, h.low hb, hb, fun h => absurd h h0⟩
end
end Go.Proofs.YtpkbliifcdopgaaDoor
/-
  later of the law of package delta: a table after some changes that succeed.
-/
namespace Go.Proofs.YtpkbliifcdopgaaDoor
set_option maxRecDepth 100000
open Go.RowKit
variable {ls : List Nat}

/-- The loop of later: the table in the box X, the result in the next. -/
structure LtW (ls : List Nat) (b X : Nat) (w u : World) (T S : Tab) (m : Nat) (v : World) : Prop where
  wd : Wd ls b w v
  wd0 : Wd ls b w u
  nx : Nx b T S m v
  st : StepT b u v
  box : Cell4 v X (.string S.nm) (.slice S.pc S.n S.cc) (.int .i64 S.nx) (.slice S.pr S.R.length S.cr)
  res : Cell4 v (X + 1) (.string ⟨#[]⟩) (.slice none 0 0) (.int .i64 0) (.slice none 0 0)
  hX : X = u.heap.size
  hb : b < X
  fr : ∀ x, StepT b u x → v.heap.size ≤ x.heap.size → (∀ k, X + 2 ≤ k → k < v.heap.size → x.heap[k]? = v.heap[k]?) → Nx b T S m x
section
variable {b X m : Nat} {w u v v' : World} {T S : Tab} {C : Chg}
theorem LtW.step (h : LtW ls b X w u T S m v) (hs : StepT b v v') (hw : Wd ls b w v') : LtW ls b X w u T S m v' :=
  ⟨hw, h.wd0, h.nx.step hs, h.st.trans hs, h.box.step hs (by have := h.hb; omega), h.res.step hs (by have := h.hb; omega), h.hX, h.hb, fun x hx hz hk => h.fr x hx (Nat.le_trans hs.size hz) fun k h1 h2 => (hk k h1 (Nat.lt_of_lt_of_le h2 hs.size)).trans (hs.block k h2 (by have := h.hb; omega))⟩
theorem LtW.low (h : LtW ls b X w u T S m v) (hb : Below v.heap.size v v') : LtW ls b X w u T S m v' := h.step (step_low hb) (h.wd.low hb)
theorem LtW.changeOf (h : LtW ls b X w u T S m v) (hlw : 0 ∈ ls) (hl : T.R.length + m ≤ 40) :
    Calls Tryd.prog 12 #[.pointer (some ⟨b, 0, none⟩), .agg #[.string S.nm, .slice S.pc S.n S.cc, .int .i64 S.nx, .slice S.pr S.R.length S.cr]] v fun e v' => ∃ C : Chg, e = .returned (.agg #[.slice C.pi C.I.length C.ci, .slice C.pd C.D.length C.cd, .slice C.pu C.U.length C.cu]) ∧ Cb b v' C ∧ LtW ls b X w u T S m v' ∧ StepT b v v' :=
  (h.wd.changeOfD hlw h.nx.tab (Nat.le_trans h.nx.len hl)).mono fun _ _ ⟨C, he, hc, hw, hs⟩ => ⟨C, he, hc, h.step hs hw, hs⟩
theorem LtW.apply (h : LtW ls b X w u T S m v) (c : Cb b v C) :
    Calls Tryd.prog 36 #[.agg #[.string S.nm, .slice S.pc S.n S.cc, .int .i64 S.nx, .slice S.pr S.R.length S.cr], .agg #[.slice C.pi C.I.length C.ci, .slice C.pd C.D.length C.cd, .slice C.pu C.U.length C.cu]] v fun e v' => ∃ (V : Tab) (E : Int), e = .returned (.tuple #[.agg #[.string V.nm, .slice V.pc V.n V.cc, .int .i64 V.nx, .slice V.pr V.R.length V.cr], .int .i64 E]) ∧ LtW ls b X w u T S m v' ∧ (E = 0 → ∀ x, v'.heap.size ≤ x.heap.size → (∀ k, v.heap.size ≤ k → k < v'.heap.size → x.heap[k]? = v'.heap[k]?) → Nx b T V (m + 3) x) ∧ Below v.heap.size v v' :=
  (h.wd.applyD h.nx.tab c).mono fun _ _ ⟨V, E, he, _, hb, hn⟩ => ⟨V, E, he, h.low hb, fun h0 x hz hk => h.nx.trans (hn h0 x hz hk), hb⟩
theorem LtW.set4 {v0 : World} (h : LtW ls b X w u T S m v0) (hs : StepT b v0 v) (ht : TapeAt v b) {Y : Nat} (hY : v0.heap.size ≤ Y) (a0 a1 a2 a3 : Value) : LtW ls b X w u T S m ((((v.setCell ⟨Y, 0, none⟩ a0).setCell ⟨Y, 1, none⟩ a1).setCell ⟨Y, 2, none⟩ a2).setCell ⟨Y, 3, none⟩ a3) := by
  have hb : b < Y := by have h1 := h.hb; have h2 := h.box.lt; omega
  have hs' := (((hs.set2 hY 0 none a0).set2 hY 1 none a1).set2 hY 2 none a2).set2 hY 3 none a3
  have ht' := (((ht.setCell (p := ⟨Y, 0, none⟩) hb a0).setCell (p := ⟨Y, 1, none⟩) hb a1).setCell (p := ⟨Y, 2, none⟩) hb a2).setCell (p := ⟨Y, 3, none⟩) hb a3
  exact h.step hs' (h.wd.step hs' ht')
/-- What one round leaves before it looks at the answer. -/
structure Rd (ls : List Nat) (b X : Nat) (w u : World) (T S V : Tab) (m : Nat) (E : Int) (Y : Nat) (v : World) : Prop where
  lt : LtW ls b X w u T S m v
  nxt : E = 0 → ∀ x, v.heap.size ≤ x.heap.size → (∀ k, X + 2 ≤ k → k < v.heap.size → k ≠ Y → x.heap[k]? = v.heap[k]?) → Nx b T V (m + 3) x
  new : Cell4 v Y (.string V.nm) (.slice V.pc V.n V.cc) (.int .i64 V.nx) (.slice V.pr V.R.length V.cr)
theorem rd_set {V : Tab} {E : Int} {v0 vc : World} {Y : Nat} {a0 a1 a2 a3 : Value} (h0 : LtW ls b X w u T S m v0) (h : LtW ls b X w u T S m v) (hs : StepT b v0 v) (hn : E = 0 → ∀ x, v.heap.size ≤ x.heap.size → (∀ k, vc.heap.size ≤ k → k < v.heap.size → x.heap[k]? = v.heap[k]?) → Nx b T V (m + 3) x)
    (hY : v0.heap.size ≤ Y) (hYc : Y < vc.heap.size) (hc : Cell4 v Y a0 a1 a2 a3) :
    Rd ls b X w u T S V m E Y ((((v.setCell ⟨Y, 0, none⟩ (.string V.nm)).setCell ⟨Y, 1, none⟩ (.slice V.pc V.n V.cc)).setCell ⟨Y, 2, none⟩ (.int .i64 V.nx)).setCell ⟨Y, 3, none⟩ (.slice V.pr V.R.length V.cr)) :=
  ⟨h0.set4 hs h.wd.tape hY _ _ _ _, fun he x hz hk => hn he x (by rw [set_size, set_size, set_size, set_size] at hz; exact hz) (fun k h1 h2 => (hk k (by have := h0.res.lt; omega) (by rw [set_size, set_size, set_size, set_size]; exact h2) (by omega)).trans (by
    rw [Below.heap_setCell _ _ _ _ (show k ≠ Y by omega), Below.heap_setCell _ _ _ _ (show k ≠ Y by omega), Below.heap_setCell _ _ _ _ (show k ≠ Y by omega), Below.heap_setCell _ _ _ _ (show k ≠ Y by omega)])), cell4_put v hc _ _ _ _⟩
theorem rd_new {V : Tab} {E : Int} {vc : World} (hvc : X + 1 < vc.heap.size) (h : LtW ls b X w u T S m v) (hn : E = 0 → ∀ x, v.heap.size ≤ x.heap.size → (∀ k, vc.heap.size ≤ k → k < v.heap.size → x.heap[k]? = v.heap[k]?) → Nx b T V (m + 3) x) :
    Rd ls b X w u T S V m E v.heap.size (v.alloc (.cells #[.string V.nm, .slice V.pc V.n V.cc, .int .i64 V.nx, .slice V.pr V.R.length V.cr] 27)) :=
  ⟨h.low (below_alloc _ _), fun he x hz hk => hn he x (Nat.le_trans (below_alloc _ _).size hz) (fun k h1 h2 => (hk k (by omega) (by rw [size_alloc]; omega) (by omega)).trans ((below_alloc v _).block k h2)), cell4_new _ _ _ _ _ _⟩
theorem Rd.keep {V : Tab} {E : Int} {Y : Nat} (h : Rd ls b X w u T S V m E Y v) : LtW ls b X w u T S m v := h.lt
/-- The box gets the new table. -/
theorem Rd.take {V : Tab} {Y : Nat} (h : Rd ls b X w u T S V m 0 Y v) : LtW ls b X w u T V (m + 3) ((((v.setCell ⟨X, 0, none⟩ (.string V.nm)).setCell ⟨X, 1, none⟩ (.slice V.pc V.n V.cc)).setCell ⟨X, 2, none⟩ (.int .i64 V.nx)).setCell ⟨X, 3, none⟩ (.slice V.pr V.R.length V.cr)) := by
  have hX : u.heap.size ≤ X := Nat.le_of_eq h.lt.hX.symm
  have hb := h.lt.hb
  have hs' := (((h.lt.st.set2 hX 0 none (.string V.nm)).set2 hX 1 none (.slice V.pc V.n V.cc)).set2 hX 2 none (.int .i64 V.nx)).set2 hX 3 none (.slice V.pr V.R.length V.cr)
  have ht' := (((h.lt.wd.tape.setCell (p := ⟨X, 0, none⟩) hb (.string V.nm)).setCell (p := ⟨X, 1, none⟩) hb (.slice V.pc V.n V.cc)).setCell (p := ⟨X, 2, none⟩) hb (.int .i64 V.nx)).setCell (p := ⟨X, 3, none⟩) hb (.slice V.pr V.R.length V.cr)
  refine ⟨h.lt.wd0.step hs' ht', h.lt.wd0, ?_, hs', cell4_put v h.lt.box _ _ _ _, (((h.lt.res.far (by omega) _).far (by omega) _).far (by omega) _).far (by omega) _, h.lt.hX, hb, fun x hx hz hk => h.nxt rfl x (by rw [set_size, set_size, set_size, set_size] at hz; exact hz) fun k h1 h2 _ => (hk k h1 (by rw [set_size, set_size, set_size, set_size]; exact h2)).trans (by
    rw [Below.heap_setCell _ _ _ _ (show k ≠ X by omega), Below.heap_setCell _ _ _ _ (show k ≠ X by omega), Below.heap_setCell _ _ _ _ (show k ≠ X by omega), Below.heap_setCell _ _ _ _ (show k ≠ X by omega)])⟩
  exact h.nxt rfl _ (by rw [set_size, set_size, set_size, set_size]; exact Nat.le_refl _) (fun k hk _ _ => by
    rw [Below.heap_setCell _ _ _ _ (show k ≠ X by omega), Below.heap_setCell _ _ _ _ (show k ≠ X by omega), Below.heap_setCell _ _ _ _ (show k ≠ X by omega), Below.heap_setCell _ _ _ _ (show k ≠ X by omega)])
end
def LaterPost (ls : List Nat) (b : Nat) (w u : World) (T : Tab) (e : Ending) (v : World) : Prop := ∃ S : Tab, e = .returned (.agg #[.string S.nm, .slice S.pc S.n S.cc, .int .i64 S.nx, .slice S.pr S.R.length S.cr]) ∧ Nx b T S 9 v ∧ Wd ls b w v ∧ StepT b u v
set_option maxHeartbeats 4000000 in
theorem later_any (b : Nat) (w u : World) (T : Tab) (h : Wd ls b w u) (hlw : 0 ∈ ls) (t : Td b u T) (h7 : T.R.length ≤ 30) :
    Calls Tryd.prog 17 #[.pointer (some ⟨b, 0, none⟩), .agg #[.string T.nm, .slice T.pc T.n T.cc, .int .i64 T.nx, .slice T.pr T.R.length T.cr]] u (LaterPost ls b w u T) := by
  have hbl := Lib.hid (below_new (below_new (Below.refl u.heap.size u) (.cells #[.string T.nm, .slice T.pc T.n T.cc, .int .i64 T.nx, .slice T.pr T.R.length T.cr] 27)) (.cells #[.string ⟨#[]⟩, .slice none 0 0, .int .i64 0, .slice none 0 0] 27))
  have hbx := (cell4_new u (.string T.nm) (.slice T.pc T.n T.cc) (.int .i64 T.nx) (.slice T.pr T.R.length T.cr) 27).low (below_alloc _ (.cells #[.string ⟨#[]⟩, .slice none 0 0, .int .i64 0, .slice none 0 0] 27))
  have hrx := cell4_new (u.alloc (.cells #[.string T.nm, .slice T.pc T.n T.cc, .int .i64 T.nx, .slice T.pr T.R.length T.cr] 27)) (.string ⟨#[]⟩) (.slice none 0 0) (.int .i64 0) (.slice none 0 0) 27
  rw [size_alloc] at hrx
  have hbz : b < u.heap.size := h.tape.lt
  have HW := Lib.hid (LtW.mk (h.low hbl.out) h (Nx.mk (t.low hbl.out) rfl rfl rfl (Int.le_refl _) (Nat.le_refl _) : Nx b T T 0 _) (step_low hbl.out) hbx hrx rfl hbz fun x hx _ _ => Nx.mk (t.step hx) rfl rfl rfl (Int.le_refl _) (Nat.le_refl _))
  clear hbx hrx hbl h t
  go_enter Tryd.func17, Tryd.ntmps17
  go_upto_region 1 with (fail)
  generalize World.alloc _ _ = W0 at HW ⊢
  go_wp2_with fail
  refine (next_any b 3 _ (by decide) (by decide) HW.out.wd.tape).mono ?_
  rintro e w1 ⟨r, rfl, hr0, hr3, ht, hs⟩
  have HW1 := Lib.hid (HW.out.step hs (HW.out.wd.step hs ht))
  clear HW ht hs
  obtain ⟨c, rfl⟩ : ∃ c : Nat, r = c := ⟨r.toNat, by omega⟩
  have hwc : IntKind.i64.wrap (1 + (c : Int)) = 1 + (c : Int) := i64w (by omega) (by omega)
  go_wp2_with fail
  go_loopw [5] (fun i v => ∃ (j : Nat) (S : Tab) (m : Nat), m + 3 * j ≤ 9 ∧ i = .int .i64 j ∧ LtW ls b u.heap.size w u T S m v) (fun i _ => (intOf i).toNat)
  case atStart => exact ⟨1 + c, T, 0, by omega, by go_num, HW1.out⟩
  clear HW1
  case round =>
    obtain ⟨j, S, m, hmj, rfl, hw⟩ := hrel
    have HW := Lib.hid hw
    clear hw
    by_cases hj : 0 < j
    · have hjd : decide ((0 : Int) < (j : Int)) = true := decide_eq_true (by omega)
      have hjn : decide (0 < j) = true := decide_eq_true hj
      go_upto_region 4 with (fail)
      have hl : T.R.length + m ≤ 40 := by omega
      have HWD := Lib.hid (HW.out.low (Below.refl _ _).drew)
      obtain ⟨xl, x0, x1, x2, x3, xf⟩ := HW.out.box
      go_region_law (first
        | (go_simp; go_at_call 12; refine (HWD.out.changeOf hlw hl).mono ?_; rintro e wq ⟨C, rfl, hcq, hwq, hsq⟩; (have HCQ := Lib.hid hcq); (have HWQ := Lib.hid hwq); (have HSQ := Lib.hid hsq); clear hcq hwq hsq x0 x1 x2 x3 xl xf; obtain ⟨xl, x0, x1, x2, x3, xf⟩ := HWQ.out.box)
        | (go_simp; go_at_call 12; refine ((HWD.out.low (below_alloc _ (.cells #[.string ⟨#[]⟩, .slice none 0 0, .int .i64 0, .slice none 0 0] 27))).changeOf hlw hl).mono ?_; rintro e wq ⟨C, rfl, hcq, hwq, hsq⟩; (have HCQ := Lib.hid hcq); (have HWQ := Lib.hid hwq); (have HSQ := Lib.hid ((step_low (below_alloc _ (.cells #[.string ⟨#[]⟩, .slice none 0 0, .int .i64 0, .slice none 0 0] 27))).trans hsq)); (have HZQ : Hid (Cell4 wq wr.heap.size (.string ⟨#[]⟩) (.slice none 0 0) (.int .i64 0) (.slice none 0 0)) := Lib.hid ((cell4_new wr.drew (.string ⟨#[]⟩) (.slice none 0 0) (.int .i64 0) (.slice none 0 0) 27).step hsq (by have h1 := HWD.out.hb; have h2 := HWD.out.box.lt; omega))); clear hcq hwq hsq x0 x1 x2 x3 xl xf; obtain ⟨xl, x0, x1, x2, x3, xf⟩ := HWQ.out.box)
        | (go_simp; go_at_call 36; refine (HWQ.out.apply HCQ.out).mono ?_; rintro e wz ⟨V, E, rfl, hwz, hnz, hbz⟩; (first | (have HRZ := Lib.hid (fun a0 a1 a2 a3 (hc : Cell4 wz wr.heap.size a0 a1 a2 a3) => rd_set (Y := wr.heap.size) (vc := wq) HWD.out hwz (HSQ.out.trans (step_low hbz)) hnz (Nat.le_refl _) HZQ.out.lt hc); (have HZY := Lib.hid (HZQ.out.low hbz)); (have HRS := Lib.hid (HRZ.out _ _ _ _ HZY.out)); clear HRZ; obtain ⟨zl, z0, z1, z2, z3, zf⟩ := HZY.out) | (have HRS := Lib.hid (rd_new HWQ.out.res.lt hwz hnz))); clear hwz hnz hbz x0 x1 x2 x3 xl xf)
        | (go_simp; go_at_call 36; refine ((HWQ.out.low (below_alloc _ (.cells #[.string ⟨#[]⟩, .slice none 0 0, .int .i64 0, .slice none 0 0] 27))).apply (HCQ.out.low (below_alloc _ (.cells #[.string ⟨#[]⟩, .slice none 0 0, .int .i64 0, .slice none 0 0] 27)))).mono ?_; rintro e wz ⟨V, E, rfl, hwz, hnz, hbz⟩; (have HZY := Lib.hid ((cell4_new wq (.string ⟨#[]⟩) (.slice none 0 0) (.int .i64 0) (.slice none 0 0) 27).low hbz)); (have HRS := Lib.hid (rd_set (Y := wq.heap.size) HWD.out hwz ((HSQ.out.trans (step_low (below_alloc _ (.cells #[.string ⟨#[]⟩, .slice none 0 0, .int .i64 0, .slice none 0 0] 27)))).trans (step_low hbz)) hnz HSQ.out.size (by rw [size_alloc]; omega) HZY.out)); obtain ⟨zl, z0, z1, z2, z3, zf⟩ := HZY.out; clear hwz hnz hbz x0 x1 x2 x3 xl xf))
      all_goals
        clear HW HWD
        first
          | generalize World.setCell _ _ _ = Wf at HRS ⊢
          | generalize World.alloc _ _ = Wf at HRS ⊢
        obtain ⟨yl, y0, y1, y2, y3, -⟩ := HRS.out.new
        obtain ⟨xl, x0, x1, x2, x3, xf⟩ := HRS.out.lt.box
        by_cases hE : E = 0
        · subst hE
          have HTK := Lib.hid HRS.out.take
          go_wp2_with fail
          go_roundw
          case rel => exact ⟨j - 1, V, m + 3, by omega, by rw [Int.ofNat_sub hj] <;> go_num, HTK.out⟩
          case measure => simp [intOf]; omega
        · have hEd : (E == 0) = false := by simpa using hE
          go_wp2_with fail
          go_roundw
          case rel => exact ⟨j - 1, S, m, by omega, by rw [Int.ofNat_sub hj] <;> go_num, HRS.out.keep⟩
          case measure => simp [intOf]; omega
    · obtain rfl : j = 0 := by omega
      obtain ⟨xl, x0, x1, x2, x3, xf⟩ := HW.out.box
      have HYS := Lib.hid (cell4_put wr HW.out.res (.string S.nm) (.slice S.pc S.n S.cc) (.int .i64 S.nx) (.slice S.pr S.R.length S.cr))
      obtain ⟨rl, r0, r1, r2, r3, rf⟩ := HW.out.res
      have hX : u.heap.size ≤ u.heap.size + 1 := Nat.le_succ _
      have hs' := Lib.hid ((((HW.out.st.set2 hX 0 none (.string S.nm)).set2 hX 1 none (.slice S.pc S.n S.cc)).set2 hX 2 none (.int .i64 S.nx)).set2 hX 3 none (.slice S.pr S.R.length S.cr))
      have hbX : b < u.heap.size + 1 := by omega
      have ht' := Lib.hid ((((HW.out.wd.tape.setCell (p := ⟨u.heap.size + 1, 0, none⟩) hbX (.string S.nm)).setCell (p := ⟨u.heap.size + 1, 1, none⟩) hbX (.slice S.pc S.n S.cc)).setCell (p := ⟨u.heap.size + 1, 2, none⟩) hbX (.int .i64 S.nx)).setCell (p := ⟨u.heap.size + 1, 3, none⟩) hbX (.slice S.pr S.R.length S.cr))
      have HN := Lib.hid (HW.out.fr _ hs'.out (by rw [set_size, set_size, set_size, set_size]; exact Nat.le_refl _) (fun k hk _ => by
        rw [Below.heap_setCell _ _ _ _ (show k ≠ u.heap.size + 1 by omega), Below.heap_setCell _ _ _ _ (show k ≠ u.heap.size + 1 by omega), Below.heap_setCell _ _ _ _ (show k ≠ u.heap.size + 1 by omega), Below.heap_setCell _ _ _ _ (show k ≠ u.heap.size + 1 by omega)]))
      have HWE := Lib.hid (HW.out.wd0.step hs'.out ht'.out)
      clear HW
      go_wp2
      obtain ⟨-, s0, s1, s2, s3, -⟩ := HYS.out
      exact bodyPost_ret (v := .agg #[.string S.nm, .slice S.pc S.n S.cc, .int .i64 S.nx, .slice S.pr S.R.length S.cr]) (by simp [results, Tryd.results17, go_sem, s0, s1, s2, s3]) rfl
        ⟨S, rfl, ⟨HN.out.tab, HN.out.nm, HN.out.n, HN.out.f, HN.out.nx, by have := HN.out.len; omega⟩, HWE.out, hs'.out⟩
end Go.Proofs.YtpkbliifcdopgaaDoor
/-
  Differences, as plain lists: the rows that came, those that left, the updates; how they grow when both tables are gone through at once.
-/
namespace Go.Proofs.YtpkbliifcdopgaaDoor
set_option maxRecDepth 100000
open Go.RowKit
variable {ls : List Nat}

/-- The rows of B whose numbers are not in A. -/
def insR (A B : List TRow) : List TRow := B.filter fun r => (getR r.1 A).isNone
/-- The rows of A whose numbers are not in B. -/
def delR (A B : List TRow) : List TRow := A.filter fun r => (getR r.1 B).isNone
def updP (A : List TRow) (r : TRow) : Option PRow := match getR r.1 A with | some l => if l = r.2 then none else some (r.1, l, r.2) | none => none
/-- The rows with the same number and other values. -/
def updR (A B : List TRow) : List PRow := B.filterMap (updP A)
/-- Is each new row's number new? -/
def newB (nx : Int) (A B : List TRow) : Bool := B.all fun r => (getR r.1 A).isSome || decide (nx ≤ r.1)
/-- Is the second table a later state of the first one? -/
def btwB (T S : Tab) : Bool := T.valid && (S.valid && ((eqT T.nm S.nm && sameCols T.n T.f S.n S.f) && decide (T.nx ≤ S.nx)))
def btwO (T S : Tab) : Bool := btwB T S && newB T.nx T.R S.R
def UpR (R : List TRow) : Prop := ∀ i, i < R.length → ∀ j, j < i → (tAt R j).1 < (tAt R i).1
/-- The rows of A before i and those of B before j have been looked at. -/
structure Mg (A B : List TRow) (i j : Nat) : Prop where
  hi : i ≤ A.length
  hj : j ≤ B.length
  low : ∀ k, k < j → ∀ l, i ≤ l → l < A.length → (tAt B k).1 < (tAt A l).1
  high : ∀ k, k < i → ∀ l, j ≤ l → l < B.length → (tAt A k).1 < (tAt B l).1
section
variable {A B : List TRow} {i j : Nat}
theorem Mg.zero : Mg A B 0 0 := ⟨Nat.zero_le _, Nat.zero_le _, fun k hk => by omega, fun k hk => by omega⟩
theorem delR_step (h : i < A.length) : (A.take (i + 1)).filter (fun r => (getR r.1 B).isNone) = (A.take i).filter (fun r => (getR r.1 B).isNone) ++ (if (getR (tAt A i).1 B).isNone = true then [tAt A i] else []) := by
  rw [take_trow h, List.filter_append]
  congr 1
  by_cases hc : (getR (tAt A i).1 B).isNone = true
  · rw [if_pos hc]; simp [hc]
  · rw [if_neg hc]; simp [hc]
theorem updR_step (h : j < B.length) : (B.take (j + 1)).filterMap (updP A) = (B.take j).filterMap (updP A) ++ (updP A (tAt B j)).toList := by
  rw [take_trow h, List.filterMap_append]
  cases hc : updP A (tAt B j) with
  | none => simp [hc]
  | some x => simp [hc]
theorem delR_out (h : i < A.length) (hg : getR (tAt A i).1 B = none) : (A.take (i + 1)).filter (fun r => (getR r.1 B).isNone) = (A.take i).filter (fun r => (getR r.1 B).isNone) ++ [tAt A i] := by
  rw [delR_step h, hg]; rfl
theorem delR_in {l : List Val} (h : i < A.length) (hg : getR (tAt A i).1 B = some l) : (A.take (i + 1)).filter (fun r => (getR r.1 B).isNone) = (A.take i).filter (fun r => (getR r.1 B).isNone) := by
  rw [delR_step h, hg]; simp
theorem updR_out (h : j < B.length) (hg : getR (tAt B j).1 A = none) : (B.take (j + 1)).filterMap (updP A) = (B.take j).filterMap (updP A) := by
  rw [updR_step h]; unfold updP; rw [hg]; simp
theorem updR_same (h : j < B.length) (hg : getR (tAt B j).1 A = some (tAt B j).2) : (B.take (j + 1)).filterMap (updP A) = (B.take j).filterMap (updP A) := by
  rw [updR_step h]; unfold updP; rw [hg]; simp
theorem updR_in {l : List Val} (h : j < B.length) (hg : getR (tAt B j).1 A = some l) (hne : l ≠ (tAt B j).2) : (B.take (j + 1)).filterMap (updP A) = (B.take j).filterMap (updP A) ++ [((tAt B j).1, l, (tAt B j).2)] := by
  rw [updR_step h]; unfold updP; rw [hg]; simp [hne]
theorem newB_yes {nx : Int} (h : ∀ k, k < B.length → (getR (tAt B k).1 A).isSome = true ∨ nx ≤ (tAt B k).1) : newB nx A B = true := by
  unfold newB
  rw [List.all_eq_true]
  intro r hr
  obtain ⟨k, hk, rfl⟩ := List.getElem_of_mem hr
  rw [Bool.or_eq_true, decide_eq_true_eq, ← tAt_get hk]
  exact h k hk
theorem newB_no {nx : Int} (h : j < B.length) (hg : getR (tAt B j).1 A = none) (hn : (tAt B j).1 < nx) : newB nx A B = false := by
  unfold newB
  rw [List.all_eq_false]
  refine ⟨_, tAt_mem h, ?_⟩
  rw [hg, decide_eq_false (by omega)]
  decide
theorem Mg.skip (m : Mg A B i j) (hB : UpR B) (hi : i < A.length) (hj : j < B.length) (hlt : (tAt A i).1 < (tAt B j).1) : Mg A B (i + 1) j ∧ getR (tAt A i).1 B = none := by
  have hup : ∀ l, j ≤ l → l < B.length → (tAt A i).1 < (tAt B l).1 := fun l h1 h2 => by
    rcases Nat.lt_or_ge j l with h | h
    · exact Int.lt_trans hlt (hB l h2 j h)
    · obtain rfl : l = j := by omega
      exact hlt
  refine ⟨⟨hi, m.hj, fun k hk l h1 h2 => m.low k hk l (by omega) h2, fun k hk l h1 h2 => ?_⟩, getR_none fun l hl he => ?_⟩
  · rcases Nat.lt_or_ge k i with h | h
    · exact m.high k h l h1 h2
    · obtain rfl : k = i := by omega
      exact hup l h1 h2
  · rcases Nat.lt_or_ge l j with h | h
    · have := m.low l h i (Nat.le_refl _) hi; omega
    · have := hup l h hl; omega
theorem Mg.same (m : Mg A B i j) (hA : UpR A) (hB : UpR B) (hi : i < A.length) (hj : j < B.length) (he : (tAt A i).1 = (tAt B j).1) : Mg A B (i + 1) (j + 1) ∧ getR (tAt A i).1 B = some (tAt B j).2 ∧ getR (tAt B j).1 A = some (tAt A i).2 := by
  refine ⟨⟨hi, hj, fun k hk l h1 h2 => ?_, fun k hk l h1 h2 => ?_⟩, getR_hit hj he.symm fun l hl h => ?_, getR_hit hi he fun l hl h => ?_⟩
  · rcases Nat.lt_or_ge k j with h | h
    · exact m.low k h l (by omega) h2
    · obtain rfl : k = j := by omega
      rw [← he]
      exact hA l h2 i (by omega)
  · rcases Nat.lt_or_ge k i with h | h
    · exact m.high k h l (by omega) h2
    · obtain rfl : k = i := by omega
      rw [he]
      exact hB l h2 j (by omega)
  · have := hB j hj l hl; omega
  · have := hA i hi l hl; omega
theorem Mg.fresh (m : Mg A B i j) (hA : UpR A) (hj : j < B.length) (hn : i < A.length → (tAt B j).1 < (tAt A i).1) : Mg A B i (j + 1) ∧ getR (tAt B j).1 A = none := by
  have hup : ∀ l, i ≤ l → l < A.length → (tAt B j).1 < (tAt A l).1 := fun l h1 h2 => by
    have h0 := hn (by omega)
    rcases Nat.lt_or_ge i l with h | h
    · exact Int.lt_trans h0 (hA l h2 i h)
    · obtain rfl : l = i := by omega
      exact h0
  refine ⟨⟨m.hi, hj, fun k hk l h1 h2 => ?_, fun k hk l h1 h2 => m.high k hk l (by omega) h2⟩, getR_none fun l hl he => ?_⟩
  · rcases Nat.lt_or_ge k j with h | h
    · exact m.low k h l h1 h2
    · obtain rfl : k = j := by omega
      exact hup l h1 h2
  · rcases Nat.lt_or_ge l i with h | h
    · have := m.high l h j (Nat.le_refl _) hj; omega
    · have := hup l h hl; omega
theorem Mg.last (m : Mg A B i B.length) (hi : i < A.length) : Mg A B (i + 1) B.length ∧ getR (tAt A i).1 B = none := by
  refine ⟨⟨hi, m.hj, fun k hk l h1 h2 => m.low k hk l (by omega) h2, fun k hk l h1 h2 => by omega⟩, getR_none fun l hl he => ?_⟩
  have := m.low l hl i (Nat.le_refl _) hi; omega
theorem insR_mem {r : TRow} (h : r ∈ insR A B) : r ∈ B ∧ getR r.1 A = none := by
  unfold insR at h
  obtain ⟨h1, h2⟩ := List.mem_filter.1 h
  exact ⟨h1, by simpa using h2⟩
theorem delR_mem {r : TRow} (h : r ∈ delR A B) : r ∈ A ∧ getR r.1 B = none := by
  unfold delR at h
  obtain ⟨h1, h2⟩ := List.mem_filter.1 h
  exact ⟨h1, by simpa using h2⟩
theorem getR_mem {id : Int} {R : List TRow} {l : List Val} (h : getR id R = some l) : (id, l) ∈ R := by
  unfold getR at h
  cases hf : R.find? fun r => decide (r.1 = id) with
  | none => rw [hf] at h; cases h
  | some r =>
    rw [hf] at h
    have h1 := List.mem_of_find?_eq_some hf
    have h0 := List.find?_some hf
    have h2 : r.1 = id := of_decide_eq_true h0
    injection h with h3
    subst h2 h3
    exact h1
theorem updR_mem {u : PRow} (h : u ∈ updR A B) : (u.1, u.2.1) ∈ A ∧ (u.1, u.2.2) ∈ B ∧ u.2.1 ≠ u.2.2 ∧ getR u.1 A = some u.2.1 := by
  unfold updR at h
  obtain ⟨r, hr, he⟩ := List.mem_filterMap.1 h
  unfold updP at he
  cases hg : getR r.1 A with
  | none => rw [hg] at he; cases he
  | some l =>
    rw [hg] at he
    dsimp only at he
    split at he
    · cases he
    · rename_i hne
      cases he
      exact ⟨getR_mem hg, hr, hne, hg⟩
end
end Go.Proofs.YtpkbliifcdopgaaDoor
