/-
  Several texts in one.
-/
import Derived.Test.YtlnbpobipmejfaaGreatDoorPk32
import Derived.Deep.RegionLaw
import Derived.Test.YtlnbpobipmejfaaGreatDoorPk27
import Derived.Test.YtlnbpobipmejfaaGreatDoorPk23
import Derived.Test.YtlnbpobipmejfaaGreatDoorPk16
import Derived.Test.YtlnbpobipmejfaaGreatDoorPk14
import Derived.Test.YtlnbpobipmejfaaGreatDoorPk22
/-
  later of the law of package delta: a table after some changes that succeed.
-/
namespace Go.Proofs.YtlnbpobipmejfaaGreatDoor
set_option maxRecDepth 100000
open Go.RowKit
variable {ls : List Nat}

/-- The loop of later: the table in the box X, the result in the next. -/
structure LtW (ls : List Nat) (b X : Nat) (w u : World) (T S : Tab) (m : Nat) (v : World) : Prop where
  wd : Wd ls b w v
  wd0 : Wd ls b w u
  nx : Nx b T S m v
  st : StepT b u v
  box : Cell4 v X (.string S.nm) (.slice S.pc S.n S.cc) (.int .i64 S.nx) (.slice S.pr S.R.length S.cr)
  res : Cell4 v (X + 1) (.string ⟨#[]⟩) (.slice none 0 0) (.int .i64 0) (.slice none 0 0)
  hX : X = u.heap.size
  hb : b < X
  fr : ∀ x, StepT b u x → v.heap.size ≤ x.heap.size → (∀ k, X + 2 ≤ k → k < v.heap.size → x.heap[k]? = v.heap[k]?) → Nx b T S m x
section
variable {b X m : Nat} {w u v v' : World} {T S : Tab} {C : Chg}
theorem LtW.step (h : LtW ls b X w u T S m v) (hs : StepT b v v') (hw : Wd ls b w v') : LtW ls b X w u T S m v' :=
  ⟨hw, h.wd0, h.nx.step hs, h.st.trans hs, h.box.step hs (by have := h.hb; omega), h.res.step hs (by have := h.hb; omega), h.hX, h.hb, fun x hx hz hk => h.fr x hx (Nat.le_trans hs.size hz) fun k h1 h2 => (hk k h1 (Nat.lt_of_lt_of_le h2 hs.size)).trans (hs.block k h2 (by have := h.hb; omega))⟩
theorem LtW.low (h : LtW ls b X w u T S m v) (hb : Below v.heap.size v v') : LtW ls b X w u T S m v' := h.step (step_low hb) (h.wd.low hb)
theorem LtW.changeOf (h : LtW ls b X w u T S m v) (hlw : 0 ∈ ls) (hl : T.R.length + m ≤ 40) :
    Calls Tryz.prog 34 #[.pointer (some ⟨b, 0, none⟩), .agg #[.string S.nm, .slice S.pc S.n S.cc, .int .i64 S.nx, .slice S.pr S.R.length S.cr]] v fun e v' => ∃ C : Chg, e = .returned (.agg #[.slice C.pi C.I.length C.ci, .slice C.pd C.D.length C.cd, .slice C.pu C.U.length C.cu]) ∧ Cb b v' C ∧ LtW ls b X w u T S m v' ∧ StepT b v v' :=
  (h.wd.changeOfD hlw h.nx.tab (Nat.le_trans h.nx.len hl)).mono fun _ _ ⟨C, he, hc, hw, hs⟩ => ⟨C, he, hc, h.step hs hw, hs⟩
theorem LtW.apply (h : LtW ls b X w u T S m v) (c : Cb b v C) :
    Calls Tryz.prog 33 #[.agg #[.string S.nm, .slice S.pc S.n S.cc, .int .i64 S.nx, .slice S.pr S.R.length S.cr], .agg #[.slice C.pi C.I.length C.ci, .slice C.pd C.D.length C.cd, .slice C.pu C.U.length C.cu]] v fun e v' => ∃ (V : Tab) (E : Int), e = .returned (.tuple #[.agg #[.string V.nm, .slice V.pc V.n V.cc, .int .i64 V.nx, .slice V.pr V.R.length V.cr], .int .i64 E]) ∧ LtW ls b X w u T S m v' ∧ (E = 0 → ∀ x, v'.heap.size ≤ x.heap.size → (∀ k, v.heap.size ≤ k → k < v'.heap.size → x.heap[k]? = v'.heap[k]?) → Nx b T V (m + 3) x) ∧ Below v.heap.size v v' :=
  (h.wd.applyD h.nx.tab c).mono fun _ _ ⟨V, E, he, _, hb, hn⟩ => ⟨V, E, he, h.low hb, fun h0 x hz hk => h.nx.trans (hn h0 x hz hk), hb⟩
theorem LtW.set4 {v0 : World} (h : LtW ls b X w u T S m v0) (hs : StepT b v0 v) (ht : TapeAt v b) {Y : Nat} (hY : v0.heap.size ≤ Y) (a0 a1 a2 a3 : Value) : LtW ls b X w u T S m ((((v.setCell ⟨Y, 0, none⟩ a0).setCell ⟨Y, 1, none⟩ a1).setCell ⟨Y, 2, none⟩ a2).setCell ⟨Y, 3, none⟩ a3) := by
  have hb : b < Y := by have h1 := h.hb; have h2 := h.box.lt; omega
  have hs' := (((hs.set2 hY 0 none a0).set2 hY 1 none a1).set2 hY 2 none a2).set2 hY 3 none a3
  have ht' := (((ht.setCell (p := ⟨Y, 0, none⟩) hb a0).setCell (p := ⟨Y, 1, none⟩) hb a1).setCell (p := ⟨Y, 2, none⟩) hb a2).setCell (p := ⟨Y, 3, none⟩) hb a3
  exact h.step hs' (h.wd.step hs' ht')
/-- What one round leaves before it looks at the answer. -/
structure Rd (ls : List Nat) (b X : Nat) (w u : World) (T S V : Tab) (m : Nat) (E : Int) (Y : Nat) (v : World) : Prop where
  lt : LtW ls b X w u T S m v
  nxt : E = 0 → ∀ x, v.heap.size ≤ x.heap.size → (∀ k, X + 2 ≤ k → k < v.heap.size → k ≠ Y → x.heap[k]? = v.heap[k]?) → Nx b T V (m + 3) x
  new : Cell4 v Y (.string V.nm) (.slice V.pc V.n V.cc) (.int .i64 V.nx) (.slice V.pr V.R.length V.cr)
theorem rd_set {V : Tab} {E : Int} {v0 vc : World} {Y : Nat} {a0 a1 a2 a3 : Value} (h0 : LtW ls b X w u T S m v0) (h : LtW ls b X w u T S m v) (hs : StepT b v0 v) (hn : E = 0 → ∀ x, v.heap.size ≤ x.heap.size → (∀ k, vc.heap.size ≤ k → k < v.heap.size → x.heap[k]? = v.heap[k]?) → Nx b T V (m + 3) x)
    (hY : v0.heap.size ≤ Y) (hYc : Y < vc.heap.size) (hc : Cell4 v Y a0 a1 a2 a3) :
    Rd ls b X w u T S V m E Y ((((v.setCell ⟨Y, 0, none⟩ (.string V.nm)).setCell ⟨Y, 1, none⟩ (.slice V.pc V.n V.cc)).setCell ⟨Y, 2, none⟩ (.int .i64 V.nx)).setCell ⟨Y, 3, none⟩ (.slice V.pr V.R.length V.cr)) :=
  ⟨h0.set4 hs h.wd.tape hY _ _ _ _, fun he x hz hk => hn he x (by rw [set_size, set_size, set_size, set_size] at hz; exact hz) (fun k h1 h2 => (hk k (by have := h0.res.lt; omega) (by rw [set_size, set_size, set_size, set_size]; exact h2) (by omega)).trans (by
    rw [Below.heap_setCell _ _ _ _ (show k ≠ Y by omega), Below.heap_setCell _ _ _ _ (show k ≠ Y by omega), Below.heap_setCell _ _ _ _ (show k ≠ Y by omega), Below.heap_setCell _ _ _ _ (show k ≠ Y by omega)])), cell4_put v hc _ _ _ _⟩
theorem rd_new {V : Tab} {E : Int} {vc : World} (hvc : X + 1 < vc.heap.size) (h : LtW ls b X w u T S m v) (hn : E = 0 → ∀ x, v.heap.size ≤ x.heap.size → (∀ k, vc.heap.size ≤ k → k < v.heap.size → x.heap[k]? = v.heap[k]?) → Nx b T V (m + 3) x) :
    Rd ls b X w u T S V m E v.heap.size (v.alloc (.cells #[.string V.nm, .slice V.pc V.n V.cc, .int .i64 V.nx, .slice V.pr V.R.length V.cr] 34)) :=
  ⟨h.low (below_alloc _ _), fun he x hz hk => hn he x (Nat.le_trans (below_alloc _ _).size hz) (fun k h1 h2 => (hk k (by omega) (by rw [size_alloc]; omega) (by omega)).trans ((below_alloc v _).block k h2)), cell4_new _ _ _ _ _ _⟩
theorem Rd.keep {V : Tab} {E : Int} {Y : Nat} (h : Rd ls b X w u T S V m E Y v) : LtW ls b X w u T S m v := h.lt
/-- The box gets the new table. -/
theorem Rd.take {V : Tab} {Y : Nat} (h : Rd ls b X w u T S V m 0 Y v) : LtW ls b X w u T V (m + 3) ((((v.setCell ⟨X, 0, none⟩ (.string V.nm)).setCell ⟨X, 1, none⟩ (.slice V.pc V.n V.cc)).setCell ⟨X, 2, none⟩ (.int .i64 V.nx)).setCell ⟨X, 3, none⟩ (.slice V.pr V.R.length V.cr)) := by
  have hX : u.heap.size ≤ X := Nat.le_of_eq h.lt.hX.symm
  have hb := h.lt.hb
  have hs' := (((h.lt.st.set2 hX 0 none (.string V.nm)).set2 hX 1 none (.slice V.pc V.n V.cc)).set2 hX 2 none (.int .i64 V.nx)).set2 hX 3 none (.slice V.pr V.R.length V.cr)
  have ht' := (((h.lt.wd.tape.setCell (p := ⟨X, 0, none⟩) hb (.string V.nm)).setCell (p := ⟨X, 1, none⟩) hb (.slice V.pc V.n V.cc)).setCell (p := ⟨X, 2, none⟩) hb (.int .i64 V.nx)).setCell (p := ⟨X, 3, none⟩) hb (.slice V.pr V.R.length V.cr)
  refine ⟨h.lt.wd0.step hs' ht', h.lt.wd0, ?_, hs', cell4_put v h.lt.box _ _ _ _, (((h.lt.res.far (by omega) _).far (by omega) _).far (by omega) _).far (by omega) _, h.lt.hX, hb, fun x hx hz hk => h.nxt rfl x (by rw [set_size, set_size, set_size, set_size] at hz; exact hz) fun k h1 h2 _ => (hk k h1 (by rw [set_size, set_size, set_size, set_size]; exact h2)).trans (by
    rw [Below.heap_setCell _ _ _ _ (show k ≠ X by omega), Below.heap_setCell _ _ _ _ (show k ≠ X by omega), Below.heap_setCell _ _ _ _ (show k ≠ X by omega), Below.heap_setCell _ _ _ _ (show k ≠ X by omega)])⟩
  exact h.nxt rfl _ (by rw [set_size, set_size, set_size, set_size]; exact Nat.le_refl _) (fun k hk _ _ => by
    rw [Below.heap_setCell _ _ _ _ (show k ≠ X by omega), Below.heap_setCell _ _ _ _ (show k ≠ X by omega), Below.heap_setCell _ _ _ _ (show k ≠ X by omega), Below.heap_setCell _ _ _ _ (show k ≠ X by omega)])
end
def LaterPost (ls : List Nat) (b : Nat) (w u : World) (T : Tab) (e : Ending) (v : World) : Prop := ∃ S : Tab, e = .returned (.agg #[.string S.nm, .slice S.pc S.n S.cc, .int .i64 S.nx, .slice S.pr S.R.length S.cr]) ∧ Nx b T S 9 v ∧ Wd ls b w v ∧ StepT b u v
set_option maxHeartbeats 4000000 in
theorem later_any (b : Nat) (w u : World) (T : Tab) (h : Wd ls b w u) (hlw : 0 ∈ ls) (t : Td b u T) (h7 : T.R.length ≤ 30) :
    Calls Tryz.prog 10 #[.pointer (some ⟨b, 0, none⟩), .agg #[.string T.nm, .slice T.pc T.n T.cc, .int .i64 T.nx, .slice T.pr T.R.length T.cr]] u (LaterPost ls b w u T) := by
  have hbl := Lib.hid (below_new (below_new (Below.refl u.heap.size u) (.cells #[.string T.nm, .slice T.pc T.n T.cc, .int .i64 T.nx, .slice T.pr T.R.length T.cr] 34)) (.cells #[.string ⟨#[]⟩, .slice none 0 0, .int .i64 0, .slice none 0 0] 34))
  have hbx := (cell4_new u (.string T.nm) (.slice T.pc T.n T.cc) (.int .i64 T.nx) (.slice T.pr T.R.length T.cr) 34).low (below_alloc _ (.cells #[.string ⟨#[]⟩, .slice none 0 0, .int .i64 0, .slice none 0 0] 34))
  have hrx := cell4_new (u.alloc (.cells #[.string T.nm, .slice T.pc T.n T.cc, .int .i64 T.nx, .slice T.pr T.R.length T.cr] 34)) (.string ⟨#[]⟩) (.slice none 0 0) (.int .i64 0) (.slice none 0 0) 34
  rw [size_alloc] at hrx
  have hbz : b < u.heap.size := h.tape.lt
  have HW := Lib.hid (LtW.mk (h.low hbl.out) h (Nx.mk (t.low hbl.out) rfl rfl rfl (Int.le_refl _) (Nat.le_refl _) (NewR.refl _ _) : Nx b T T 0 _) (step_low hbl.out) hbx hrx rfl hbz fun x hx _ _ => Nx.mk (t.step hx) rfl rfl rfl (Int.le_refl _) (Nat.le_refl _) (NewR.refl _ _))
  clear hbx hrx hbl h t
  go_enter Tryz.func10, Tryz.ntmps10
  go_upto_region 1 with (fail)
  generalize World.alloc _ _ = W0 at HW ⊢
  go_wp2_with fail
  refine (next_any b 3 _ (by decide) (by decide) HW.out.wd.tape).mono ?_
  rintro e w1 ⟨r, rfl, hr0, hr3, ht, hs⟩
  have HW1 := Lib.hid (HW.out.step hs (HW.out.wd.step hs ht))
  clear HW ht hs
  obtain ⟨c, rfl⟩ : ∃ c : Nat, r = c := ⟨r.toNat, by omega⟩
  have hwc : IntKind.i64.wrap (1 + (c : Int)) = 1 + (c : Int) := i64w (by omega) (by omega)
  go_wp2_with fail
  go_loopw [5] (fun i v => ∃ (j : Nat) (S : Tab) (m : Nat), m + 3 * j ≤ 9 ∧ i = .int .i64 j ∧ LtW ls b u.heap.size w u T S m v) (fun i _ => (intOf i).toNat)
  case atStart => exact ⟨1 + c, T, 0, by omega, by go_num, HW1.out⟩
  clear HW1
  case round =>
    obtain ⟨j, S, m, hmj, rfl, hw⟩ := hrel
    have HW := Lib.hid hw
    clear hw
    by_cases hj : 0 < j
    · have hjd : decide ((0 : Int) < (j : Int)) = true := decide_eq_true (by omega)
      have hjn : decide (0 < j) = true := decide_eq_true hj
      go_upto_region 4 with (fail)
      have hl : T.R.length + m ≤ 40 := by omega
      have HWD := Lib.hid (HW.out.low (Below.refl _ _).drew)
      obtain ⟨xl, x0, x1, x2, x3, xf⟩ := HW.out.box
      go_region_law (first
        | (go_simp; go_at_call 34; refine (HWD.out.changeOf hlw hl).mono ?_; rintro e wq ⟨C, rfl, hcq, hwq, hsq⟩; (have HCQ := Lib.hid hcq); (have HWQ := Lib.hid hwq); (have HSQ := Lib.hid hsq); clear hcq hwq hsq x0 x1 x2 x3 xl xf; obtain ⟨xl, x0, x1, x2, x3, xf⟩ := HWQ.out.box)
        | (go_simp; go_at_call 34; refine ((HWD.out.low (below_alloc _ (.cells #[.string ⟨#[]⟩, .slice none 0 0, .int .i64 0, .slice none 0 0] 34))).changeOf hlw hl).mono ?_; rintro e wq ⟨C, rfl, hcq, hwq, hsq⟩; (have HCQ := Lib.hid hcq); (have HWQ := Lib.hid hwq); (have HSQ := Lib.hid ((step_low (below_alloc _ (.cells #[.string ⟨#[]⟩, .slice none 0 0, .int .i64 0, .slice none 0 0] 34))).trans hsq)); (have HZQ : Hid (Cell4 wq wr.heap.size (.string ⟨#[]⟩) (.slice none 0 0) (.int .i64 0) (.slice none 0 0)) := Lib.hid ((cell4_new wr.drew (.string ⟨#[]⟩) (.slice none 0 0) (.int .i64 0) (.slice none 0 0) 34).step hsq (by have h1 := HWD.out.hb; have h2 := HWD.out.box.lt; omega))); clear hcq hwq hsq x0 x1 x2 x3 xl xf; obtain ⟨xl, x0, x1, x2, x3, xf⟩ := HWQ.out.box)
        | (go_simp; go_at_call 33; refine (HWQ.out.apply HCQ.out).mono ?_; rintro e wz ⟨V, E, rfl, hwz, hnz, hbz⟩; (first | (have HRZ := Lib.hid (fun a0 a1 a2 a3 (hc : Cell4 wz wr.heap.size a0 a1 a2 a3) => rd_set (Y := wr.heap.size) (vc := wq) HWD.out hwz (HSQ.out.trans (step_low hbz)) hnz (Nat.le_refl _) HZQ.out.lt hc); (have HZY := Lib.hid (HZQ.out.low hbz)); (have HRS := Lib.hid (HRZ.out _ _ _ _ HZY.out)); clear HRZ; obtain ⟨zl, z0, z1, z2, z3, zf⟩ := HZY.out) | (have HRS := Lib.hid (rd_new HWQ.out.res.lt hwz hnz))); clear hwz hnz hbz x0 x1 x2 x3 xl xf)
        | (go_simp; go_at_call 33; refine ((HWQ.out.low (below_alloc _ (.cells #[.string ⟨#[]⟩, .slice none 0 0, .int .i64 0, .slice none 0 0] 34))).apply (HCQ.out.low (below_alloc _ (.cells #[.string ⟨#[]⟩, .slice none 0 0, .int .i64 0, .slice none 0 0] 34)))).mono ?_; rintro e wz ⟨V, E, rfl, hwz, hnz, hbz⟩; (have HZY := Lib.hid ((cell4_new wq (.string ⟨#[]⟩) (.slice none 0 0) (.int .i64 0) (.slice none 0 0) 34).low hbz)); (have HRS := Lib.hid (rd_set (Y := wq.heap.size) HWD.out hwz ((HSQ.out.trans (step_low (below_alloc _ (.cells #[.string ⟨#[]⟩, .slice none 0 0, .int .i64 0, .slice none 0 0] 34)))).trans (step_low hbz)) hnz HSQ.out.size (by rw [size_alloc]; omega) HZY.out)); obtain ⟨zl, z0, z1, z2, z3, zf⟩ := HZY.out; clear hwz hnz hbz x0 x1 x2 x3 xl xf))
      all_goals
        clear HW HWD
        first
          | generalize World.setCell _ _ _ = Wf at HRS ⊢
          | generalize World.alloc _ _ = Wf at HRS ⊢
        obtain ⟨yl, y0, y1, y2, y3, -⟩ := HRS.out.new
        obtain ⟨xl, x0, x1, x2, x3, xf⟩ := HRS.out.lt.box
        by_cases hE : E = 0
        · subst hE
          have HTK := Lib.hid HRS.out.take
          go_wp2_with fail
          go_roundw
          case rel => exact ⟨j - 1, V, m + 3, by omega, by rw [Int.ofNat_sub hj] <;> go_num, HTK.out⟩
          case measure => simp [intOf]; omega
        · have hEd : (E == 0) = false := by simpa using hE
          go_wp2_with fail
          go_roundw
          case rel => exact ⟨j - 1, S, m, by omega, by rw [Int.ofNat_sub hj] <;> go_num, HRS.out.keep⟩
          case measure => simp [intOf]; omega
    · obtain rfl : j = 0 := by omega
      obtain ⟨xl, x0, x1, x2, x3, xf⟩ := HW.out.box
      have HYS := Lib.hid (cell4_put wr HW.out.res (.string S.nm) (.slice S.pc S.n S.cc) (.int .i64 S.nx) (.slice S.pr S.R.length S.cr))
      obtain ⟨rl, r0, r1, r2, r3, rf⟩ := HW.out.res
      have hX : u.heap.size ≤ u.heap.size + 1 := Nat.le_succ _
      have hs' := Lib.hid ((((HW.out.st.set2 hX 0 none (.string S.nm)).set2 hX 1 none (.slice S.pc S.n S.cc)).set2 hX 2 none (.int .i64 S.nx)).set2 hX 3 none (.slice S.pr S.R.length S.cr))
      have hbX : b < u.heap.size + 1 := by omega
      have ht' := Lib.hid ((((HW.out.wd.tape.setCell (p := ⟨u.heap.size + 1, 0, none⟩) hbX (.string S.nm)).setCell (p := ⟨u.heap.size + 1, 1, none⟩) hbX (.slice S.pc S.n S.cc)).setCell (p := ⟨u.heap.size + 1, 2, none⟩) hbX (.int .i64 S.nx)).setCell (p := ⟨u.heap.size + 1, 3, none⟩) hbX (.slice S.pr S.R.length S.cr))
      have HN := Lib.hid (HW.out.fr _ hs'.out (by rw [set_size, set_size, set_size, set_size]; exact Nat.le_refl _) (fun k hk _ => by
        rw [Below.heap_setCell _ _ _ _ (show k ≠ u.heap.size + 1 by omega), Below.heap_setCell _ _ _ _ (show k ≠ u.heap.size + 1 by omega), Below.heap_setCell _ _ _ _ (show k ≠ u.heap.size + 1 by omega), Below.heap_setCell _ _ _ _ (show k ≠ u.heap.size + 1 by omega)]))
      have HWE := Lib.hid (HW.out.wd0.step hs'.out ht'.out)
      clear HW
      go_wp2
      obtain ⟨-, s0, s1, s2, s3, -⟩ := HYS.out
      exact bodyPost_ret (v := .agg #[.string S.nm, .slice S.pc S.n S.cc, .int .i64 S.nx, .slice S.pr S.R.length S.cr]) (by simp [results, Tryz.results10, go_sem, s0, s1, s2, s3]) rfl
        ⟨S, rfl, ⟨HN.out.tab, HN.out.nm, HN.out.n, HN.out.f, HN.out.nx, by have := HN.out.len; omega, HN.out.new⟩, HWE.out, hs'.out⟩
end Go.Proofs.YtlnbpobipmejfaaGreatDoor
/-
  A difference in memory; a difference that is built row by row: its box, its three lists.
-/
namespace Go.Proofs.YtlnbpobipmejfaaGreatDoor
set_option maxRecDepth 100000
open Go.RowKit
variable {ls : List Nat}

/-- A difference, as it lies in memory. -/
structure Dlt where
  nm : ByteArray
  pi : Option Addr
  ci : Nat
  I : List TRow
  pd : Option Addr
  cd : Nat
  D : List TRow
  pu : Option Addr
  cu : Nat
  U : List PRow
def Dlt.v (E : Dlt) : Value := .agg #[.string E.nm, .slice E.pi E.I.length E.ci, .slice E.pd E.D.length E.cd, .slice E.pu E.U.length E.cu]
structure DltAt (w : World) (E : Dlt) : Prop where
  name : E.nm.size ≤ 9223372036854775807
  ins : TRowsAt w E.pi E.I
  del : TRowsAt w E.pd E.D
  upd : PairsAt w E.pu E.U
  il : E.I.length ≤ 1000
  dl : E.D.length ≤ 9223372036854775807
  ul : E.U.length ≤ 9223372036854775807
  isz : ∀ r ∈ E.I, ValsSized r.2
  dsz : ∀ r ∈ E.D, ValsSized r.2
  osz : ∀ p ∈ E.U, ValsSized p.2.1
  usz : ∀ p ∈ E.U, ValsSized p.2.2
  icap : E.I.length ≤ E.ci
  dcap : E.D.length ≤ E.cd
  ucap : E.U.length ≤ E.cu
theorem DltAt.low {u v : World} {E : Dlt} (h : DltAt u E) (hb : Below u.heap.size u v) : DltAt v E := ⟨h.name, h.ins.low hb, h.del.low hb, h.upd.low hb, h.il, h.dl, h.ul, h.isz, h.dsz, h.osz, h.usz, h.icap, h.dcap, h.ucap⟩
def zeroDlt : Dlt := ⟨⟨#[]⟩, none, 0, [], none, 0, [], none, 0, []⟩
theorem zeroDlt_at (w : World) : DltAt w zeroDlt :=
  ⟨by decide, fun i hi => (by simp [zeroDlt] at hi), fun i hi => (by simp [zeroDlt] at hi), fun i hi => (by simp [zeroDlt] at hi), Nat.zero_le _, Nat.zero_le _, Nat.zero_le _, fun r hr => (by simp [zeroDlt] at hr), fun r hr => (by simp [zeroDlt] at hr), fun r hr => (by simp [zeroDlt] at hr), fun r hr => (by simp [zeroDlt] at hr), Nat.le_refl _, Nat.le_refl _, Nat.le_refl _⟩
/-- The difference lies at or above the block lo: what is written below does not touch it. -/
def DltFree (lo : Nat) (u : World) (E : Dlt) : Prop := ∀ v, u.heap.size ≤ v.heap.size → (∀ k, lo ≤ k → k < u.heap.size → v.heap[k]? = u.heap[k]?) → DltAt v E
theorem DltFree.at {lo : Nat} {u : World} {E : Dlt} (h : DltFree lo u E) : DltAt u E := h u (Nat.le_refl _) fun _ _ _ => rfl
theorem DltFree.to {lo lo' : Nat} {u v : World} {E : Dlt} (h : DltFree lo u E) (hl : lo' ≤ lo) (hz : u.heap.size ≤ v.heap.size) (hk : ∀ k, lo ≤ k → k < u.heap.size → v.heap[k]? = u.heap[k]?) : DltFree lo' v E := fun x hx hkx =>
  h x (Nat.le_trans hz hx) fun k h1 h2 => (hkx k (Nat.le_trans hl h1) (Nat.lt_of_lt_of_le h2 hz)).trans (hk k h1 h2)
theorem DltFree.low {lo : Nat} {u v : World} {E : Dlt} (h : DltFree lo u E) (hb : Below u.heap.size u v) : DltFree lo v E := h.to (Nat.le_refl _) hb.size fun k _ h2 => hb.block k h2
theorem four_sets {u : World} {X k : Nat} {a b c d : Value} (hk : k ≠ X) : ((((u.setCell ⟨X, 0, none⟩ a).setCell ⟨X, 1, none⟩ b).setCell ⟨X, 2, none⟩ c).setCell ⟨X, 3, none⟩ d).heap[k]? = u.heap[k]? := by
  rw [Below.heap_setCell _ _ _ _ hk, Below.heap_setCell _ _ _ _ hk, Below.heap_setCell _ _ _ _ hk, Below.heap_setCell _ _ _ _ hk]
/-- What Between gives. -/
def BetweenPost (T S : Tab) (w : World) (e : Ending) (w' : World) : Prop := ∃ E : Dlt, e = .returned (.tuple #[.agg #[.string E.nm, .slice E.pi E.I.length E.ci, .slice E.pd E.D.length E.cd, .slice E.pu E.U.length E.cu], .bool (btwO T S)]) ∧ DltFree w.heap.size w' E ∧ Below w.heap.size w w' ∧
  ((btwO T S = true ∧ E.nm = T.nm ∧ E.I = insR T.R S.R ∧ E.D = delR T.R S.R ∧ E.U = updR T.R S.R) ∨ (btwO T S = false ∧ E.nm = ⟨#[]⟩ ∧ E.I = [] ∧ E.D = [] ∧ E.U = []))
/-- The difference that is built in the box X: numbers of the rows that left are less than N, of those that came they are not. -/
structure DltW (N : Int) (X : Nat) (nm : ByteArray) (vi vd vu : Value) (GI GD : List GRow) (P : List GPair) (v : World) : Prop where
  box : Cell4 v X (.string nm) vi vd vu
  ins : TOwn v (X + 1) vi GI
  del : TOwn v (X + 1) vd GD
  upd : v.ownsRow (X + 1) 75 3 vu P.length (pcells P)
  unn : ∀ p ∈ P, InRow v (X + 1) p.2.1 ∧ InRow v (X + 1) p.2.2
  lo : ∀ g ∈ GD, g.1 < N
  hi : ∀ g ∈ GI, N ≤ g.1
  ni : GI = [] → vi = .slice none 0 0
  nd : GD = [] → vd = .slice none 0 0
section
variable {N : Int} {X : Nat} {nm : ByteArray} {u v w8 : World} {vi vd vu v8 : Value} {GI GD : List GRow} {P : List GPair}
theorem DltW.keep (h : DltW N X nm vi vd vu GI GD P u) (hz : u.heap.size ≤ v.heap.size) (hk : ∀ k, X ≤ k → k < u.heap.size → v.heap[k]? = u.heap[k]?) : DltW N X nm vi vd vu GI GD P v := by
  have hX : v.heap[X]? = u.heap[X]? := hk X (Nat.le_refl _) h.box.lt
  have hk1 : ∀ k, X + 1 ≤ k → k < u.heap.size → v.heap[k]? = u.heap[k]? := fun k h1 h2 => hk k (by omega) h2
  exact ⟨⟨Nat.lt_of_lt_of_le h.box.lt hz, by rw [World.cell?_of_block (w := u) hX]; exact h.box.c0, by rw [World.cell?_of_block (w := u) hX]; exact h.box.c1, by rw [World.cell?_of_block (w := u) hX]; exact h.box.c2, by rw [World.cell?_of_block (w := u) hX]; exact h.box.c3, fun o => by rw [World.frozen?_of_block (w := u) hX]; exact h.box.fz o⟩,
    h.ins.keep hk1, h.del.keep hk1, owns_keep h.upd fun k hk' => hk1 k (owns_block h.upd k hk') (owns_lt h.upd k hk'), fun p hp => ⟨(h.unn p hp).1.keep2 hk1, (h.unn p hp).2.keep2 hk1⟩, h.lo, h.hi, h.ni, h.nd⟩
theorem DltW.low (h : DltW N X nm vi vd vu GI GD P u) (hb : Below u.heap.size u v) : DltW N X nm vi vd vu GI GD P v := h.keep hb.size fun k _ h2 => hb.block k h2
theorem dltw_new (w : World) (N : Int) (nm : ByteArray) : DltW N w.heap.size nm (.slice none 0 0) (.slice none 0 0) (.slice none 0 0) [] [] [] (w.alloc (.cells #[.string nm, .slice none 0 0, .slice none 0 0, .slice none 0 0] 25)) :=
  ⟨cell4_new w _ _ _ _ _, TOwn.nil _ _, TOwn.nil _ _, ⟨rfl, Or.inl ⟨rfl, rfl⟩⟩, fun p hp => (by cases hp), fun p hp => (by cases hp), fun p hp => (by cases hp), fun _ => rfl, fun _ => rfl⟩
theorem own_keepG {base n size : Nat} {e : TypeId} {x : Value} {xs : List Value} {row : Option Nat} (h : u.ownsRow base e size x n xs) (hg : u.grownBy v row) (ha : ∀ k, x.ownBlock = some k → row ≠ some k) : v.ownsRow base e size x n xs :=
  owns_keep h fun k hk => hg.block k (owns_lt h k hk) (fun e0 => ha k hk e0.symm)
theorem InRow.keepT {base base' n' size' : Nat} {e' : TypeId} {x : Value × List Val} {y : Value} {ys : List Value} (h : InRow u base x) (ho : u.ownsRow base' e' size' y n' ys) (he : 55 ≠ e') (hg : u.grownBy v y.ownBlock) : InRow v base x :=
  ⟨own_keepG h.1 hg fun k hk e0 => owns_apart h.1 ho he k hk e0, h.2⟩
/-- The two lists of rows lie in different blocks: their first numbers differ. -/
theorem rows_not {b b' : Nat} {v1 v2 : Value} {G1 G2 : List GRow} (h : u.ownsRow b 58 2 v1 G1.length (tcells G1)) (h' : u.ownsRow b' 58 2 v2 G2.length (tcells G2)) (h1 : ∀ g ∈ G1, g.1 < N) (h2 : ∀ g ∈ G2, N ≤ g.1) (n1 : G1 = [] → v1 = .slice none 0 0) (n2 : G2 = [] → v2 = .slice none 0 0) (k : Nat) (hk : v1.ownBlock = some k) : v2.ownBlock ≠ some k := by
  intro hk'
  have p1 : 0 < G1.length := Nat.pos_of_ne_zero fun e => by rw [n1 (List.eq_nil_of_length_eq_zero e)] at hk; cases hk
  have p2 : 0 < G2.length := Nat.pos_of_ne_zero fun e => by rw [n2 (List.eq_nil_of_length_eq_zero e)] at hk'; cases hk'
  rcases h.2 with ⟨rfl, -⟩ | ⟨g, cap, cur, rfl, hg, hh, hcap, hm, hcur, htake⟩
  · cases hk
  rcases h'.2 with ⟨rfl, -⟩ | ⟨g', cap', cur', rfl, hg', hh', hcap', hm', hcur', htake'⟩
  · cases hk'
  obtain rfl : g = k := Option.some.inj hk
  obtain rfl : g' = g := Option.some.inj hk'
  rw [hh] at hh'
  injection hh' with hh'
  injection hh' with hc
  subst hc
  have e1 := (tcells_at G1 0 p1).1
  have e2 := (tcells_at G2 0 p2).1
  have c1 : cur.toList[0]? = (tcells G1)[0]? := by rw [← htake, List.getElem?_take, if_pos (by omega)]
  have c2 : cur.toList[0]? = (tcells G2)[0]? := by rw [← htake', List.getElem?_take, if_pos (by omega)]
  rw [Nat.zero_mul] at e1 e2
  rw [c1, e1] at c2
  rw [e2] at c2
  injection c2 with c2
  injection c2 with _ c2
  have := h1 _ (grAt_mem p1)
  have := h2 _ (grAt_mem p2)
  omega
theorem c4grown {a b c d : Value} {row : Option Nat} (h : Cell4 u X a b c d) (hg : u.grownBy v row) (hr : ∀ k, row = some k → X < k) : Cell4 v X a b c d := h.grown hg hr
theorem ne_nil_app {G : List GRow} {g : GRow} : G ++ [g] = [] → vd = .slice none 0 0 := fun h => by simp at h
/-- A row that left is added. -/
theorem DltW.pushD0 {g : GRow} (h : DltW N X nm vi vd vu GI GD P u) (hz : InRow u (X + 1) (g.2.1, g.2.2)) (hN : g.1 < N) (ho : w8.ownsRow (X + 1) 58 2 v8 (GD ++ [g]).length (tcells (GD ++ [g]))) (hg : u.grownBy w8 vd.ownBlock) :
    Cell4 w8 X (.string nm) vi vd vu ∧ DltW N X nm vi v8 vu GI (GD ++ [g]) P (w8.setCell ⟨X, 2, none⟩ v8) := by
  have h7 := h
  have hk : ∀ k, vd.ownBlock = some k → X + 1 ≤ k := fun k hk => owns_block h.del.own k hk
  have hc := c4grown h7.box hg (fun k hk' => by have := hk k hk'; omega)
  have hr : ∀ {x : Value × List Val}, InRow u (X + 1) x → InRow w8 (X + 1) x := fun hx => hx.keepT h7.del.own (by decide) hg
  have hI : TOwn w8 (X + 1) vi GI := ⟨own_keepG h7.ins.own hg fun k hk' e => rows_not h7.del.own h7.ins.own h7.lo h7.hi h7.nd h7.ni k e hk', fun q hq => hr (h7.ins.inn q hq)⟩
  have hU : w8.ownsRow (X + 1) 75 3 vu P.length (pcells P) := own_keepG h7.upd hg fun k hk' e => owns_apart h7.upd h7.del.own (by decide) k hk' e
  have hD : TOwn w8 (X + 1) v8 (GD ++ [g]) := ⟨ho, fun q hq => by
    rcases List.mem_append.1 hq with hq | hq
    · exact hr (h7.del.inn q hq)
    · obtain rfl := List.mem_singleton.1 hq
      exact hr hz⟩
  exact ⟨hc, hc.set2 v8, hI.set (Nat.lt_succ_self X) _, hD.set (Nat.lt_succ_self X) _, chX hU, fun p hp => ⟨((hr (h7.unn p hp).1).keep2 fun k h1 _ => Below.heap_setCell _ _ _ _ (by show k ≠ X; omega)), ((hr (h7.unn p hp).2).keep2 fun k h1 _ => Below.heap_setCell _ _ _ _ (by show k ≠ X; omega))⟩, fun q hq => by
    rcases List.mem_append.1 hq with hq | hq
    · exact h.lo q hq
    · obtain rfl := List.mem_singleton.1 hq
      exact hN, h.hi, h.ni, fun e => by simp at e⟩
theorem DltW.pushD {o : Obj} {g : GRow} (h : DltW N X nm vi vd vu GI GD P u) (hz : InRow u (X + 1) (g.2.1, g.2.2)) (hN : g.1 < N) (ho : w8.ownsRow (X + 1) 58 2 v8 (GD ++ [g]).length (tcells (GD ++ [g]))) (hg : (u.alloc o).grownBy w8 vd.ownBlock) :
    Cell4 w8 X (.string nm) vi vd vu ∧ DltW N X nm vi v8 vu GI (GD ++ [g]) P (w8.setCell ⟨X, 2, none⟩ v8) :=
  (h.low (below_alloc u o)).pushD0 (hz.low (below_alloc u o)) hN ho hg
/-- A row that came is added. -/
theorem DltW.pushI0 {g : GRow} (h : DltW N X nm vi vd vu GI GD P u) (hz : InRow u (X + 1) (g.2.1, g.2.2)) (hN : N ≤ g.1) (ho : w8.ownsRow (X + 1) 58 2 v8 (GI ++ [g]).length (tcells (GI ++ [g]))) (hg : u.grownBy w8 vi.ownBlock) :
    Cell4 w8 X (.string nm) vi vd vu ∧ DltW N X nm v8 vd vu (GI ++ [g]) GD P (w8.setCell ⟨X, 1, none⟩ v8) := by
  have h7 := h
  have hk : ∀ k, vi.ownBlock = some k → X + 1 ≤ k := fun k hk => owns_block h.ins.own k hk
  have hc := c4grown h7.box hg (fun k hk' => by have := hk k hk'; omega)
  have hr : ∀ {x : Value × List Val}, InRow u (X + 1) x → InRow w8 (X + 1) x := fun hx => hx.keepT h7.ins.own (by decide) hg
  have hD : TOwn w8 (X + 1) vd GD := ⟨own_keepG h7.del.own hg fun k hk' e => rows_not h7.del.own h7.ins.own h7.lo h7.hi h7.nd h7.ni k hk' e, fun q hq => hr (h7.del.inn q hq)⟩
  have hU : w8.ownsRow (X + 1) 75 3 vu P.length (pcells P) := own_keepG h7.upd hg fun k hk' e => owns_apart h7.upd h7.ins.own (by decide) k hk' e
  have hI : TOwn w8 (X + 1) v8 (GI ++ [g]) := ⟨ho, fun q hq => by
    rcases List.mem_append.1 hq with hq | hq
    · exact hr (h7.ins.inn q hq)
    · obtain rfl := List.mem_singleton.1 hq
      exact hr hz⟩
  exact ⟨hc, hc.set1 v8, hI.set (Nat.lt_succ_self X) _, hD.set (Nat.lt_succ_self X) _, chX hU, fun p hp => ⟨((hr (h7.unn p hp).1).keep2 fun k h1 _ => Below.heap_setCell _ _ _ _ (by show k ≠ X; omega)), ((hr (h7.unn p hp).2).keep2 fun k h1 _ => Below.heap_setCell _ _ _ _ (by show k ≠ X; omega))⟩, h.lo, fun q hq => by
    rcases List.mem_append.1 hq with hq | hq
    · exact h.hi q hq
    · obtain rfl := List.mem_singleton.1 hq
      exact hN, fun e => by simp at e, h.nd⟩
theorem DltW.pushI {o : Obj} {g : GRow} (h : DltW N X nm vi vd vu GI GD P u) (hz : InRow u (X + 1) (g.2.1, g.2.2)) (hN : N ≤ g.1) (ho : w8.ownsRow (X + 1) 58 2 v8 (GI ++ [g]).length (tcells (GI ++ [g]))) (hg : (u.alloc o).grownBy w8 vi.ownBlock) :
    Cell4 w8 X (.string nm) vi vd vu ∧ DltW N X nm v8 vd vu (GI ++ [g]) GD P (w8.setCell ⟨X, 1, none⟩ v8) :=
  (h.low (below_alloc u o)).pushI0 (hz.low (below_alloc u o)) hN ho hg
/-- An update is added. -/
theorem DltW.pushU0 {p : GPair} (h : DltW N X nm vi vd vu GI GD P u) (hz : InRow u (X + 1) p.2.1 ∧ InRow u (X + 1) p.2.2) (ho : w8.ownsRow (X + 1) 75 3 v8 (P ++ [p]).length (pcells (P ++ [p]))) (hg : u.grownBy w8 vu.ownBlock) :
    Cell4 w8 X (.string nm) vi vd vu ∧ DltW N X nm vi vd v8 GI GD (P ++ [p]) (w8.setCell ⟨X, 3, none⟩ v8) := by
  have h7 := h
  have hk : ∀ k, vu.ownBlock = some k → X + 1 ≤ k := fun k hk => owns_block h.upd k hk
  have hc := c4grown h7.box hg (fun k hk' => by have := hk k hk'; omega)
  have hr : ∀ {x : Value × List Val}, InRow u (X + 1) x → InRow w8 (X + 1) x := fun hx => hx.keepT h7.upd (by decide) hg
  have hI : TOwn w8 (X + 1) vi GI := ⟨own_keepG h7.ins.own hg fun k hk' e => owns_apart h7.ins.own h7.upd (by decide) k hk' e, fun q hq => hr (h7.ins.inn q hq)⟩
  have hD : TOwn w8 (X + 1) vd GD := ⟨own_keepG h7.del.own hg fun k hk' e => owns_apart h7.del.own h7.upd (by decide) k hk' e, fun q hq => hr (h7.del.inn q hq)⟩
  exact ⟨hc, hc.set3 v8, hI.set (Nat.lt_succ_self X) _, hD.set (Nat.lt_succ_self X) _, chX ho, fun q hq => by
    have hq' : InRow w8 (X + 1) q.2.1 ∧ InRow w8 (X + 1) q.2.2 := by
      rcases List.mem_append.1 hq with hq | hq
      · exact ⟨hr (h7.unn q hq).1, hr (h7.unn q hq).2⟩
      · obtain rfl := List.mem_singleton.1 hq
        exact ⟨hr hz.1, hr hz.2⟩
    exact ⟨hq'.1.keep2 fun k h1 _ => Below.heap_setCell _ _ _ _ (by show k ≠ X; omega), hq'.2.keep2 fun k h1 _ => Below.heap_setCell _ _ _ _ (by show k ≠ X; omega)⟩, h.lo, h.hi, h.ni, h.nd⟩
theorem DltW.pushU {o : Obj} {p : GPair} (h : DltW N X nm vi vd vu GI GD P u) (hz : InRow u (X + 1) p.2.1 ∧ InRow u (X + 1) p.2.2) (ho : w8.ownsRow (X + 1) 75 3 v8 (P ++ [p]).length (pcells (P ++ [p]))) (hg : (u.alloc o).grownBy w8 vu.ownBlock) :
    Cell4 w8 X (.string nm) vi vd vu ∧ DltW N X nm vi vd v8 GI GD (P ++ [p]) (w8.setCell ⟨X, 3, none⟩ v8) :=
  (h.low (below_alloc u o)).pushU0 ⟨hz.1.low (below_alloc u o), hz.2.low (below_alloc u o)⟩ ho hg
abbrev unG (p : GPair) : PRow := (p.1, p.2.1.2, p.2.2.2)
/-- The difference that was built. -/
theorem DltW.at {pi pd pu : Option Addr} {mi md mu ci cd cu : Nat} (h : DltW N X nm (.slice pi mi ci) (.slice pd md cd) (.slice pu mu cu) GI GD P u) (hn : nm.size ≤ 9223372036854775807) (hI : GI.length ≤ 1000) (hD : GD.length ≤ 1000) (hU : P.length ≤ 1000) (si : ∀ r ∈ tabR GI, ValsSized r.2) (sd : ∀ r ∈ tabR GD, ValsSized r.2) (so : ∀ p ∈ P.map unG, ValsSized p.2.1) (su : ∀ p ∈ P.map unG, ValsSized p.2.2) :
    DltAt u ⟨nm, pi, ci, tabR GI, pd, cd, tabR GD, pu, cu, P.map unG⟩ ∧ mi = (tabR GI).length ∧ md = (tabR GD).length ∧ mu = (P.map unG).length := by
  have h1 := owns_cap h.ins.own
  have h2 := owns_cap h.del.own
  have h3 := owns_cap h.upd
  refine ⟨⟨hn, h.ins.rows, h.del.rows, fun i hi => ?_, by dsimp only; rw [tabR_length]; exact hI, by dsimp only; rw [tabR_length]; omega, by dsimp only; rw [List.length_map]; omega, si, sd, so, su, by dsimp only; rw [tabR_length]; omega, by dsimp only; rw [tabR_length]; omega, by dsimp only; rw [List.length_map]; omega⟩, by rw [tabR_length]; omega, by rw [tabR_length]; omega, by rw [List.length_map]; omega⟩
  dsimp only at hi ⊢
  have hi' : i < P.length := by rw [List.length_map] at hi; exact hi
  obtain ⟨hn1, hn2⟩ := h.unn _ (List.getElem_mem hi')
  obtain ⟨hv, hr, hq⟩ := owned_shape hn1.1
  obtain ⟨hv', hr', hq'⟩ := owned_shape hn2.1
  obtain ⟨e0, e1, e2⟩ := pcells_at P i hi'
  obtain ⟨c, hp, hc, k0⟩ := own_cell h.upd e0
  obtain ⟨c', hp', -, k1⟩ := own_cell h.upd e1
  rw [hp] at hp'
  cases hp'
  obtain ⟨c', hp', -, k2⟩ := own_cell h.upd e2
  rw [hp] at hp'
  cases hp'
  have e : pAt (P.map unG) i = unG P[i] := by rw [pAt_get hi, List.getElem_map]
  rw [e]
  exact ⟨c, 0, _, _, _, _, hp, hc, k0, by rw [← hv]; exact k1, by rw [← hv']; exact k2, hr, hr', hn1.2, hn2.2, hq, hq'⟩
end
end Go.Proofs.YtlnbpobipmejfaaGreatDoor
