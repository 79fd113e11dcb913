/-
  Several texts in one.
-/
import Derived.Test.YtidgfmjbfcgfiaaDoorPk13
import Derived.Test.YtidgfmjbfcgfiaaDoorPk14
import Derived.Test.YtidgfmjbfcgfiaaDoorPk02
import Derived.Test.YtidgfmjbfcgfiaaDoorPk07
import Derived.Deep.Fields
import Derived.Test.YtidgfmjbfcgfiaaDoorPk12
import Derived.Test.YtidgfmjbfcgfiaaDoorPk11
import Derived.Test.YtidgfmjbfcgfiaaDoorPk04
import Derived.Sort.Grow
/-
  The law TableBegins, walked: from what package table does.
-/
namespace Go.Proofs.YtidgfmjbfcgfiaaDoor
set_option maxRecDepth 100000
open Go.RowKit
variable {ls : List Nat}

theorem good_congr {f g : Nat → Col} {i : Nat} (h : ∀ j, j ≤ i → g j = f j) : Good f i → Good g i := by
  rintro ⟨h1, h2, h3⟩
  refine ⟨by rw [h i (Nat.le_refl _)]; exact h1, fun j hj => by rw [h i (Nat.le_refl _), h j (Nat.le_of_lt hj)]; exact h2 j hj, fun hk j hj => by rw [h j (Nat.le_of_lt hj)]; rw [h i (Nat.le_refl _)] at hk; exact h3 hk j hj⟩
theorem schemaOK_congr {nm : ByteArray} {n : Nat} {f g : Nat → Col} (h : ∀ i, i < n → g i = f i) (hs : schemaOK nm n f = true) : schemaOK nm n g = true := by
  unfold schemaOK at hs ⊢
  simp only [Bool.and_eq_true, decide_eq_true_eq] at hs ⊢
  exact ⟨hs.1, fun i hi => good_congr (fun j hj => h j (by omega)) (hs.2 i hi)⟩
theorem new_valid {T : Tab} (hso : schemaOK T.nm T.n T.f = true) (hx : T.nx = 1) (hR : T.R = []) : T.valid = true := by
  unfold Tab.valid
  rw [hx, hR, validT_dup hso ⟨Nat.zero_le _, by decide, by decide⟩ (fun i hi => by simp at hi)]
  rw [show dupR (findKey T.f T.n) [] = false from dupR_no (k := findKey T.f T.n) (R := []) (by show List.Nodup []; exact List.nodup_nil)]
  rfl
/-- What is known of the table that New gives. -/
theorem new_same {nm : ByteArray} {n : Nat} {f : Nat → Col} {T S : Tab} {er er' : Int} (hR : T.R = []) (hR' : S.R = [])
    (h : (schemaOK nm n f = true ∧ er = 0 ∧ T.nm = nm ∧ T.n = n ∧ (∀ i, i < n → T.f i = f i) ∧ T.nx = 1) ∨ (schemaOK nm n f = false ∧ er = 17 ∧ T.nm = ⟨#[]⟩ ∧ T.n = 0 ∧ T.nx = 0))
    (h' : (schemaOK nm n f = true ∧ er' = 0 ∧ S.nm = nm ∧ S.n = n ∧ (∀ i, i < n → S.f i = f i) ∧ S.nx = 1) ∨ (schemaOK nm n f = false ∧ er' = 17 ∧ S.nm = ⟨#[]⟩ ∧ S.n = 0 ∧ S.nx = 0)) : er = er' ∧ sameT T S = true ∧ ((er = 0 ∧ T.valid = true) ∨ er = 17) := by
  rcases h with ⟨h0, h1, h2, h3, h4, h5⟩ | ⟨h0, h1, h2, h3, h4⟩
  · rcases h' with ⟨-, k1, k2, k3, k4, k5⟩ | ⟨k0, -⟩
    · refine ⟨by rw [h1, k1], ?_, .inl ⟨h1, new_valid (by rw [h2, h3]; exact schemaOK_congr h4 h0) h5 hR⟩⟩
      unfold sameT
      rw [h2, k2, h3, k3, h5, k5, hR, hR', eqT_self, sameCols_yes fun i hi => (h4 i hi).trans (k4 i hi).symm]
      rfl
    · rw [h0] at k0; cases k0
  · rcases h' with ⟨k0, -⟩ | ⟨-, k1, k2, k3, k4⟩
    · rw [h0] at k0; cases k0
    · refine ⟨by rw [h1, k1], ?_, .inr h1⟩
      unfold sameT
      rw [h2, k2, h3, k3, h4, k4, hR, hR', eqT_self, sameCols_yes fun i hi => absurd hi (Nat.not_lt_zero _)]
      rfl
/-- A schema in memory, one of a list. -/
structure SchAt (u : World) (L o : Nat) (nm : ByteArray) (p : Option Addr) (n c : Nat) (f : Nat → Col) : Prop where
  lt : L < u.heap.size
  c0 : u.cell? ⟨L, o, none⟩ = some (.string nm)
  c1 : u.cell? ⟨L, o + 1, none⟩ = some (.slice p n c)
  sz : nm.size ≤ 9223372036854775807
  le : n ≤ 9223372036854775807
  cols : ColsAt u p n f
theorem SchAt.low {u v : World} {L o : Nat} {nm : ByteArray} {p : Option Addr} {n c : Nat} {f : Nat → Col} (h : SchAt u L o nm p n c f) (hb : Below u.heap.size u v) : SchAt v L o nm p n c f :=
  ⟨Nat.lt_of_lt_of_le h.lt hb.size, by rw [hb.cell (by exact h.lt)]; exact h.c0, by rw [hb.cell (by exact h.lt)]; exact h.c1, h.sz, h.le, h.cols.low hb⟩
def schV' (nm : ByteArray) (p : Option Addr) (n cap : Nat) : Value := schV nm p n cap
set_option maxHeartbeats 2000000 in
theorem tbegins_walk (hT : TableDoes) (w : World) (m0 : ByteArray) (hm0 : m0.size ≤ 9223372036854775807) (a0 : Option Addr) (n0 c0 : Nat) (hn0 : n0 ≤ 9223372036854775807) (f0 : Nat → Col) (hC0 : ColsAt w a0 n0 f0)
    (p : Option Addr) (len cap : Nat) (hl : len ≤ cap) (hm : len ≤ 9223372036854775807) (h : IntsAt w p len) (hE : Env ls w) (hln : 0 ∈ ls) :
    Calls Tryd.prog 4 #[schV m0 a0 n0 c0, .slice p len cap] w fun e w' => e = .returned (.bool true) ∧ Below w.heap.size w w' := by
  unfold schV
  have hbx : Below w.heap.size w (w.alloc (.cells #[.string m0, .slice a0 n0 c0] 24)) := below_new (Below.refl _ _) _
  have HI := Lib.hid (h.low hbx)
  have HE := Lib.hid (hE.low hbx)
  have HX := Lib.hid (cell2_new w (.string m0) (.slice a0 n0 c0) 24)
  have HC := Lib.hid hC0
  have HB := Lib.hid hbx
  have hz8 := hE.size
  clear h hE hC0 hbx
  go_enter Tryd.func4, Tryd.ntmps4
  go_wp2_with fail
  refine (new_any _ p len cap hl hm HI.out).mono ?_
  rintro e w1 ⟨b, rfl, hb0, ht, hb1⟩
  rw [size_alloc] at hb0
  have HX1 := Lib.hid (HX.out.low hb1)
  have HB1 := Lib.hid (below_next HB.out hb1)
  have HE1 := Lib.hid (HE.out.low hb1)
  have h8b : 3 ≤ b := by omega
  clear HI HE HX HB hb1
  go_wp2_with fail
  refine (anyschema_any b _ h8b ht HE1.out hln).mono ?_
  rintro e w2 ⟨i, ps, l, cs, rfl, hi, hl1, hl5, hcs, hso, hps, ht2, hs2⟩
  have HB2 := Lib.hid (HB1.out.trans (hs2.below (B := w.heap.size) (by omega) HB1.out.size))
  have HX2 := Lib.hid (HX1.out.step hs2 (by omega))
  have HCS := Lib.hid hcs
  have HSO := Lib.hid hso
  clear HX1 HB1 HE1 hcs hso hps ht ht2 hs2
  unfold schV
  obtain ⟨xl, x0, x1, xf⟩ := HX2.out
  have hb4 : Below w.heap.size w ((w2.alloc (.cells #[.string (nameS i), .slice ps l.length cs] 24)).alloc (.cells #[.string m0, .slice a0 n0 c0, .string (nameS i), .slice ps l.length cs] 24)) := below_new (below_new HB2.out _) _
  have hx4 := cell4_new (w2.alloc (.cells #[.string (nameS i), .slice ps l.length cs] 24)) (.string m0) (.slice a0 n0 c0) (.string (nameS i)) (.slice ps l.length cs) 24
  rw [size_alloc] at hx4
  have HS1 : Hid (SchAt ((w2.alloc (.cells #[.string (nameS i), .slice ps l.length cs] 24)).alloc (.cells #[.string m0, .slice a0 n0 c0, .string (nameS i), .slice ps l.length cs] 24)) (w2.heap.size + 1) 0 m0 a0 n0 c0 f0) := Lib.hid ⟨hx4.lt, hx4.c0, hx4.c1, hm0, hn0, HC.out.low hb4⟩
  have HS2 : Hid (SchAt ((w2.alloc (.cells #[.string (nameS i), .slice ps l.length cs] 24)).alloc (.cells #[.string m0, .slice a0 n0 c0, .string (nameS i), .slice ps l.length cs] 24)) (w2.heap.size + 1) 2 (nameS i) ps l.length cs (cAt l)) := Lib.hid ⟨hx4.lt, hx4.c2, hx4.c3, name_small i, by omega, (HCS.out.low (below_alloc _ _)).low (below_alloc _ _)⟩
  have HB4 := Lib.hid hb4
  clear hb4 hx4 HCS HB2 HX2
  go_wp2_with fail
  clear x0 x1 xf xl
  generalize World.alloc _ _ = W4 at HS1 HS2 HB4 ⊢
  generalize w2.heap.size + 1 = L at HS1 HS2 ⊢
  go_loopw [21] (fun i' v => ∃ k : Nat, k ≤ 2 ∧ i' = .int .i64 k ∧ SchAt v L 0 m0 a0 n0 c0 f0 ∧ SchAt v L 2 (nameS i) ps l.length cs (cAt l) ∧ Below w.heap.size w v) (fun i' _ => 2 - (intOf i').toNat)
  case atStart => exact ⟨0, Nat.zero_le _, rfl, HS1.out, HS2.out, HB4.out⟩
  clear HS1 HS2 HB4
  case round =>
    obtain ⟨k, hk, rfl, hs1, hs2, hb⟩ := hrel
    have HB := Lib.hid hb
    have HS1 := Lib.hid hs1
    have HS2 := Lib.hid hs2
    by_cases hlt : k < 2
    · have hlt' : decide ((k : Int) < 2) = true := decide_eq_true (by omega)
      obtain ⟨nm, pk, n, ck, f, hsk⟩ : ∃ (nm : ByteArray) (pk : Option Addr) (n ck : Nat) (f : Nat → Col), SchAt wr L (k * 2) nm pk n ck f := by
        obtain rfl | rfl : k = 0 ∨ k = 1 := by omega
        · exact ⟨_, _, _, _, _, hs1⟩
        · exact ⟨_, _, _, _, _, hs2⟩
      have HSK := Lib.hid hsk
      obtain ⟨hL, s0, s1, hsz, hn, -⟩ := hsk
      clear hs1 hs2 hb
      have hkI : (k : Int) < 2 := by omega
      go_wp2_with fail
      have hbn := below_alloc wr (.cells #[.string nm, .slice pk n ck] 24)
      have HX5 := Lib.hid (cell2_new wr (.string nm) (.slice pk n ck) 24)
      have HB5 := Lib.hid (below_next HB.out hbn)
      have HA5 := Lib.hid (HS1.out.low hbn)
      have HE5 := Lib.hid (HS2.out.low hbn)
      have HC5 := Lib.hid (HSK.out.cols.low hbn)
      clear HB HS1 HS2 HSK hL s0 s1 hbn
      refine (hT.new nm pk n ck f _ hsz hn HC5.out).mono ?_
      rintro e w6 ⟨T, er, rfl, hT6, hR6, hb6, hcase⟩
      have HT7 := Lib.hid ((hT6.low (below_alloc w6 (.cells #[.string T.nm, .slice T.pc T.n T.cc, .int .i64 T.nx, .slice T.pr T.R.length T.cr] 27))))
      have HY7 := Lib.hid (cell4_new w6 (.string T.nm) (.slice T.pc T.n T.cc) (.int .i64 T.nx) (.slice T.pr T.R.length T.cr) 27)
      have HX7 := Lib.hid ((HX5.out.low hb6).low (below_alloc w6 (.cells #[.string T.nm, .slice T.pc T.n T.cc, .int .i64 T.nx, .slice T.pr T.R.length T.cr] 27)))
      have HB7 := Lib.hid (below_new (below_next HB5.out hb6) (.cells #[.string T.nm, .slice T.pc T.n T.cc, .int .i64 T.nx, .slice T.pr T.R.length T.cr] 27))
      have HA7 := Lib.hid ((HA5.out.low hb6).low (below_alloc w6 (.cells #[.string T.nm, .slice T.pc T.n T.cc, .int .i64 T.nx, .slice T.pr T.R.length T.cr] 27)))
      have HE7 := Lib.hid ((HE5.out.low hb6).low (below_alloc w6 (.cells #[.string T.nm, .slice T.pc T.n T.cc, .int .i64 T.nx, .slice T.pr T.R.length T.cr] 27)))
      have HC7 := Lib.hid ((HC5.out.low hb6).low (below_alloc w6 (.cells #[.string T.nm, .slice T.pc T.n T.cc, .int .i64 T.nx, .slice T.pr T.R.length T.cr] 27)))
      have HR6 := Lib.hid hR6
      have HCA := Lib.hid hcase
      obtain ⟨xl, x0, x1, -⟩ := HX5.out.low hb6
      clear hT6 hR6 hcase hb6 HB5 HA5 HE5 HC5 HX5
      unfold Tab.v
      go_wp2_with fail
      clear xl x0 x1
      generalize hW7 : w6.alloc _ = W7 at HT7 HY7 HX7 HB7 HA7 HE7 HC7 ⊢
      clear hW7
      refine (rtnew_any nm pk n ck f _ hsz hn HC7.out).mono ?_
      rintro e w8 ⟨S, er', rfl, hS8, hR8, hb8, hcase'⟩
      obtain ⟨her, hsame, hval⟩ := new_same HR6.out hR8 HCA.out hcase'
      subst her
      have HSAME := Lib.hid hsame
      have HT9 := Lib.hid ((HT7.out.low hb8).low (below_alloc w8 (.cells #[.string S.nm, .slice S.pc S.n S.cc, .int .i64 S.nx, .slice S.pr S.R.length S.cr] 27)))
      have HS9 := Lib.hid (hS8.low (below_alloc w8 (.cells #[.string S.nm, .slice S.pc S.n S.cc, .int .i64 S.nx, .slice S.pr S.R.length S.cr] 27)))
      have HY9 := Lib.hid ((HY7.out.low hb8).low (below_alloc w8 (.cells #[.string S.nm, .slice S.pc S.n S.cc, .int .i64 S.nx, .slice S.pr S.R.length S.cr] 27)))
      have HZ9 := Lib.hid (cell4_new w8 (.string S.nm) (.slice S.pc S.n S.cc) (.int .i64 S.nx) (.slice S.pr S.R.length S.cr) 27)
      have HB9 := Lib.hid (below_new (below_next HB7.out hb8) (.cells #[.string S.nm, .slice S.pc S.n S.cc, .int .i64 S.nx, .slice S.pr S.R.length S.cr] 27))
      have HA9 := Lib.hid ((HA7.out.low hb8).low (below_alloc w8 (.cells #[.string S.nm, .slice S.pc S.n S.cc, .int .i64 S.nx, .slice S.pr S.R.length S.cr] 27)))
      have HE9 := Lib.hid ((HE7.out.low hb8).low (below_alloc w8 (.cells #[.string S.nm, .slice S.pc S.n S.cc, .int .i64 S.nx, .slice S.pr S.R.length S.cr] 27)))
      obtain ⟨yl, y0, y1, y2, y3, -⟩ := HY7.out.low hb8
      clear hsame hS8 hR8 hb8 hcase' HR6 HCA HT7 HY7 HX7 HB7 HA7 HE7 HC7
      unfold Tab.v
      generalize w6.heap.size = Y at HY9 yl y0 y1 y2 y3 ⊢
      rcases hval with ⟨rfl, hv⟩ | rfl
      · have HV := Lib.hid hv
        clear hv
        go_wp2_with fail
        clear yl y0 y1 y2 y3
        generalize hW9 : w8.alloc _ = W9 at HT9 HS9 HY9 HZ9 HB9 HA9 HE9 ⊢
        clear hW9
        refine (sametable_any T S _ HT9.out HS9.out).mono ?_
        rintro e w10 ⟨rfl, hb10⟩
        have HT10 := Lib.hid (HT9.out.low hb10)
        have HY10 := Lib.hid (HY9.out.low hb10)
        have HB10 := Lib.hid (below_next HB9.out hb10)
        have HA10 := Lib.hid (HA9.out.low hb10)
        have HE10 := Lib.hid (HE9.out.low hb10)
        clear HT9 HS9 HY9 HZ9 HB9 HA9 HE9 hb10
        obtain ⟨yl, y0, y1, y2, y3, -⟩ := HY10.out
        rw [HSAME.out]
        go_wp2_with fail
        refine (hT.valid T _ HT10.out).mono ?_
        rintro e w11 ⟨rfl, hb11⟩
        have HB11 := Lib.hid (below_next HB10.out hb11)
        have HA11 := Lib.hid (HA10.out.low hb11)
        have HE11 := Lib.hid (HE10.out.low hb11)
        clear HT10 HY10 HB10 HA10 HE10 hb11 yl y0 y1 y2 y3
        rw [HV.out]
        go_wp2
        go_roundw
        case rel => exact ⟨k + 1, by omega, by go_num, HA11.out, HE11.out, HB11.out⟩
        case measure => simp [intOf]; omega
      · go_wp2_with fail
        clear yl y0 y1 y2 y3
        generalize hW9 : w8.alloc _ = W9 at HT9 HS9 HY9 HZ9 HB9 HA9 HE9 ⊢
        clear hW9
        refine (sametable_any T S _ HT9.out HS9.out).mono ?_
        rintro e w10 ⟨rfl, hb10⟩
        have HB10 := Lib.hid (below_next HB9.out hb10)
        have HA10 := Lib.hid (HA9.out.low hb10)
        have HE10 := Lib.hid (HE9.out.low hb10)
        clear HT9 HS9 HY9 HZ9 HB9 HA9 HE9 hb10
        rw [HSAME.out]
        go_wp2
        go_roundw
        case rel => exact ⟨k + 1, by omega, by go_num, HA10.out, HE10.out, HB10.out⟩
        case measure => simp [intOf]; omega
    · have hlt' : decide ((k : Int) < 2) = false := decide_eq_false (by omega)
      obtain rfl : k = 2 := by omega
      clear hs1 hs2 hb
      go_wp2_with fail
      refine (known6_any hT _).mono ?_
      rintro e w12 ⟨rfl, hb12⟩
      have HB12 := Lib.hid (below_next HB.out hb12)
      clear hb12
      go_wp2
      go_ret
      exact ⟨rfl, HB12.out⟩
end Go.Proofs.YtidgfmjbfcgfiaaDoor
/-
  Arguments opened: a column, a schema.
-/
namespace Go.Proofs.YtidgfmjbfcgfiaaDoor
set_option maxRecDepth 100000
open Go.ChangeShapes Go.WideShapes Go.ChangeAt Go.RowKit

theorem list_four {l : List Value} (h : l.length = 4) : ∃ a b c d, l = [a, b, c, d] := by
  match l, h with
  | [a, b, c, d], _ => exact ⟨a, b, c, d, rfl⟩
theorem exists_fun {A : Type} [Inhabited A] {P : Nat → A → Prop} {n : Nat} (h : ∀ i, i < n → ∃ x, P i x) : ∃ f : Nat → A, ∀ i, i < n → P i (f i) :=
  ⟨fun i => if hi : i < n then (h i hi).choose else default, fun i hi => by simp only [dif_pos hi]; exact (h i hi).choose_spec⟩
section
variable {H : Type} {enc : TypeId × Value → H} {W : World} {v : Value} {d : DataW H} {p : List MemPlace}
/-- An argument that is a column. -/
theorem open_col (hv : ∃ b, Value.okWide Tryd.prog W .any b 61 v) (h : DataW.Trod enc Tryd.prog W 0 (fun _ => true) true 61 v d p) :
    ∃ c : Col, v = colV c ∧ c.nm.size ≤ 9223372036854775807 := by
  obtain ⟨b, hv⟩ := hv
  obtain ⟨c0, c1, c2, c3, y0, y1, y2, y3, m, rfl, rfl, rfl, hy0, hy1, hy2, hy3⟩ := Joins.open_agg4 Tryd.underlying61 (by kernel_rfl) (by kernel_rfl) hv h
  obtain ⟨s, e0, rfl, ws⟩ := DataW.trod_string Tryd.underlying9 hy0
  obtain ⟨k, e1, rfl, wk⟩ := DataW.trod_int Tryd.underlying3 hy1
  obtain ⟨n, e2, rfl⟩ := DataW.trod_bool Tryd.underlying4 hy2
  obtain ⟨q, e3, rfl⟩ := DataW.trod_bool Tryd.underlying4 hy3
  simp only [List.cons.injEq, and_true] at e0 e1 e2 e3
  subst e0 e1 e2 e3
  exact ⟨⟨s, k, n, q⟩, rfl, ws⟩
set_option maxRecDepth 100000 in
theorem open_cols {t : Nat} {v : Value} {y : DataW H × List MemPlace} (h : DataW.trod enc Tryd.prog W 0 (fun _ => true) true t 22 [v] = some y) :
    ∃ (a : Option Addr) (n cap : Nat) (f : Nat → Col), v = .slice a n cap ∧ n ≤ cap ∧ n ≤ 9223372036854775807 ∧ ColsAt W a n f := by
  have c4 : Tryd.prog.cellsOf 61 = 4 := by kernel_rfl
  rcases Deep.open_slice Tryd.underlying22 h with ⟨hcs, hx⟩ | ⟨a, len, cap, m, n, D, Pl, hcs, hb, hl, hm, hmm, hx, hi⟩
  · simp only [List.cons.injEq, and_true] at hcs
    subst hcs
    exact ⟨none, 0, 0, fun _ => default, rfl, Nat.le_refl _, by decide, fun i hi => by omega⟩
  · simp only [List.cons.injEq, and_true] at hcs
    subst hcs
    rw [if_pos rfl] at hmm
    have hone : ∀ i, i < len → ∃ x : Col, x.nm.size ≤ 9223372036854775807 ∧ W.cell? ((a.add (i * 4)).add 0) = some (.string x.nm) ∧ W.cell? ((a.add (i * 4)).add 1) = some (.int .i64 x.ty) ∧ W.cell? ((a.add (i * 4)).add 2) = some (.bool x.nn) ∧ W.cell? ((a.add (i * 4)).add 3) = some (.bool x.key) := by
      intro i hi'
      obtain ⟨cs', hc, ht'⟩ := hi i (by omega)
      rw [c4] at hc
      obtain ⟨_, hcl, hat⟩ := World.cells?_some hc
      obtain ⟨xs, m', _, _, _, hxl, hf⟩ := DataW.trod_struct Tryd.underlying61 ht'
      have ci : Tryd.prog.cellsOf 3 = 1 := by kernel_rfl
      have cj : Tryd.prog.cellsOf 4 = 1 := by kernel_rfl
      have ck : Tryd.prog.cellsOf 9 = 1 := by kernel_rfl
      obtain ⟨u0, u1, u2, u3, rfl⟩ := list_four hcl
      have h0 : DataW.trod enc Tryd.prog W 0 (fun _ => true) true m' 9 (([u0, u1, u2, u3].drop 0).take (Tryd.prog.cellsOf 9)) = xs[0]? := hf 0 _ rfl
      have h1 : DataW.trod enc Tryd.prog W 0 (fun _ => true) true m' 3 (([u0, u1, u2, u3].drop 1).take (Tryd.prog.cellsOf 3)) = xs[1]? := hf 1 _ rfl
      have h2 : DataW.trod enc Tryd.prog W 0 (fun _ => true) true m' 4 (([u0, u1, u2, u3].drop 2).take (Tryd.prog.cellsOf 4)) = xs[2]? := hf 2 _ rfl
      have h3 : DataW.trod enc Tryd.prog W 0 (fun _ => true) true m' 4 (([u0, u1, u2, u3].drop 3).take (Tryd.prog.cellsOf 4)) = xs[3]? := hf 3 _ rfl
      rw [ck] at h0
      rw [ci] at h1
      rw [cj] at h2 h3
      simp only [List.drop_zero, List.drop_succ_cons, List.take_succ_cons, List.take_zero] at h0 h1 h2 h3
      have hl4 : xs.length = 4 := hxl
      rw [List.getElem?_eq_getElem (by omega)] at h0 h1 h2 h3
      obtain ⟨s, e0, -, ws⟩ := DataW.trod_string Tryd.underlying9 h0
      obtain ⟨k, e1, -, -⟩ := DataW.trod_int Tryd.underlying3 h1
      obtain ⟨q, e2, -⟩ := DataW.trod_bool Tryd.underlying4 h2
      obtain ⟨r, e3, -⟩ := DataW.trod_bool Tryd.underlying4 h3
      simp only [List.cons.injEq, and_true] at e0 e1 e2 e3
      subst e0 e1 e2 e3
      exact ⟨⟨s, k, q, r⟩, ws, by rw [hat 0 (by omega)]; rfl, by rw [hat 1 (by omega)]; rfl, by rw [hat 2 (by omega)]; rfl, by rw [hat 3 (by omega)]; rfl⟩
    obtain ⟨f, hf⟩ := exists_fun hone
    obtain ⟨c, o, sp⟩ := a
    refine ⟨some ⟨c, o, sp⟩, len, cap, f, rfl, hl, by unfold maxLen at hm; omega, fun i hi' => ?_⟩
    have hsp : sp = none := by
      obtain ⟨-, h0, -⟩ := hf 0 (by omega)
      simpa [Addr.add] using World.cell?_spot h0
    subst hsp
    have ha : ∀ x y, ((⟨c, o, none⟩ : Addr).add x).add y = ⟨c, o + x + y, none⟩ := by
      intro x y
      unfold Addr.add
      split <;> split <;> simp_all
    obtain ⟨hs, h0, h1, h2, h3⟩ := hf i hi'
    rw [ha] at h0 h1 h2 h3
    exact ⟨c, o, rfl, World.block_lt_of_cell? W _ h0, hs, h0, h1, h2, h3⟩
/-- An argument that is a schema. -/
theorem open_schema (hv : ∃ b, Value.okWide Tryd.prog W .any b 24 v) (h : DataW.Trod enc Tryd.prog W 0 (fun _ => true) true 24 v d p) :
    ∃ (nm : ByteArray) (a : Option Addr) (n cap : Nat) (f : Nat → Col), v = schV nm a n cap ∧ nm.size ≤ 9223372036854775807 ∧ n ≤ cap ∧ n ≤ 9223372036854775807 ∧ ColsAt W a n f := by
  obtain ⟨b, hv⟩ := hv
  obtain ⟨c0, c1, y0, y1, m, rfl, rfl, rfl, hy0, hy1⟩ := Joins.open_agg2 Tryd.underlying24 (by kernel_rfl) (by kernel_rfl) hv h
  obtain ⟨s, e0, rfl, ws⟩ := DataW.trod_string Tryd.underlying9 hy0
  simp only [List.cons.injEq, and_true] at e0
  subst e0
  obtain ⟨a, n, cap, f, rfl, h1, h2, h3⟩ := open_cols hy1
  exact ⟨s, a, n, cap, f, rfl, ws, h1, h2, h3⟩
end
end Go.Proofs.YtidgfmjbfcgfiaaDoor
/-
  Package table: New.
-/
namespace Go.Proofs.YtidgfmjbfcgfiaaDoor
set_option maxRecDepth 100000
open Go.RowKit
variable {ls : List Nat}

set_option maxHeartbeats 1000000 in
theorem tnew_any (nm : ByteArray) (p : Option Addr) (n cap : Nat) (f : Nat → Col) (w : World) (hnm : nm.size ≤ 9223372036854775807) (hn : n ≤ 9223372036854775807) (hC : ColsAt w p n f) :
    Calls Tryd.prog 18 #[schV nm p n cap] w (TNewPost nm n f w) := by
  unfold schV TNewPost
  have hb0 : Below w.heap.size w ((w.alloc (.cells #[.string nm, .slice p n cap] 24)).alloc (.cells #[.string ⟨#[]⟩, .slice none 0 0, .int .i64 0, .slice none 0 0] 27)) := below_new (below_new (Below.refl _ _) _) _
  have HC := Lib.hid (hC.low hb0)
  have HX := Lib.hid ((cell2_new w (.string nm) (.slice p n cap) 24).low (below_alloc _ (.cells #[.string ⟨#[]⟩, .slice none 0 0, .int .i64 0, .slice none 0 0] 27)))
  have HY := Lib.hid ((cell4_new (w.alloc (.cells #[.string nm, .slice p n cap] 24)) (.string ⟨#[]⟩) (.slice none 0 0) (.int .i64 0) (.slice none 0 0) 27).at (size_alloc _ _))
  have HB0 := Lib.hid hb0
  clear hC hb0
  go_enter Tryd.func18, Tryd.ntmps18
  go_wp2_with fail
  refine (svalid_any nm p n cap f _ hnm hn HC.out).mono ?_
  rintro e w1 ⟨rfl, hb1⟩
  have HX1 := Lib.hid (HX.out.low hb1)
  have HY1 := Lib.hid (HY.out.low hb1)
  have HC1 := Lib.hid (HC.out.low hb1)
  have HB1 := Lib.hid (below_next HB0.out hb1)
  obtain ⟨hxl, x0, x1, xf⟩ := HX1.out
  obtain ⟨hyl, y0, y1, y2, y3, yf⟩ := HY1.out
  clear HC HX HY HB0 hb1
  cases hso : schemaOK nm n f
  · have HSO := Lib.hid hso
    have HYS := Lib.hid (cell4_put w1 HY1.out (.string ⟨#[]⟩) (.slice none 0 0) (.int .i64 0) (.slice none 0 0))
    go_wp2
    obtain ⟨-, s0, s1, s2, s3, -⟩ := HYS.out
    exact bodyPost_ret (v := .tuple #[zeroTab.v, .int .i64 17]) (by simp [results, Tryd.results18, go_sem, s0, s1, s2, s3, Tab.v, zeroTab]) rfl
      ⟨zeroTab, 17, rfl, zeroTab_at _, rfl, (((HB1.out.setCell (by exact Nat.le_succ _) _).setCell (by exact Nat.le_succ _) _).setCell (by exact Nat.le_succ _) _).setCell (by exact Nat.le_succ _) _, .inr ⟨HSO.out, rfl, rfl, rfl, rfl⟩⟩
  · have HSO := Lib.hid hso
    obtain ⟨hn1, hn6⟩ := schemaOK_range hso
    obtain ⟨c, o, rfl, -⟩ := HC1.out.ptr (by omega)
    obtain ⟨l, hl, hlf⟩ := cols_list n f
    have hcl : ColsAt w1 (some ⟨c, o, none⟩) l.length (cAt l) := by rw [hl]; exact HC1.out.congr hlf
    have HCL := Lib.hid hcl
    have HLF := Lib.hid hlf
    have hsz : Sized l := fun i hi => by
      obtain ⟨-, -, -, -, hs, -⟩ := hcl i hi
      exact hs
    have HSZ := Lib.hid hsz
    have hown0 : w1.ownsRow w1.heap.size 61 4 (.slice none 0 0) 0 (ccells []) := ⟨rfl, Or.inl ⟨rfl, rfl⟩⟩
    have HO := Lib.hid hown0
    have hZ : w.heap.size + 1 < w1.heap.size := hyl
    clear hown0 hcl hlf hsz
    go_wp2_with (at_builtin; refine wpList_append_cols rfl _ (.tmp 9) rfl w1.heap.size _ 0 [] rfl HO.out ⟨c, o, none⟩ l cap n rfl hl HCL.out (by omega) (Nat.le_refl _) ?_; intro v2 w2 hown2 hgr2; (have hb2 := grown_below (Below.refl w1.heap.size w1) (Nat.le_refl _) hgr2 (fun k hk => by cases hk)); (have hX2 := HX1.out.low hb2); (have hY2 := HY1.out.low hb2); (have HB2 := Lib.hid (below_next HB1.out hb2)); rw [Nat.zero_add, List.nil_append] at hown2; obtain ⟨p2, c2, rfl, -, hc2, hq2⟩ := cols_of_owns hown2 HSZ.out; rw [hl] at hc2; (have HC2 := Lib.hid hc2); (have HQ2 := Lib.hid hq2); (have HX2 := Lib.hid hX2); (have HY2 := Lib.hid hY2); obtain ⟨xl2, z0, z1, zf⟩ := hX2; obtain ⟨yl2, t0, t1, t2, t3, tf⟩ := hY2; clear hown2 hgr2 hb2 hc2 hq2 x0 x1 y0 y1 y2 y3 xf yf)
    have hfar : ∀ q, p2 = some q → q.block ≠ w.heap.size ∧ q.block ≠ w.heap.size + 1 := fun q hq => by have := (HQ2.out q hq).1; omega
    have hYS := cell4_put (w2.setCell ⟨w.heap.size, 1, none⟩ (.slice p2 n c2)) (X := w.heap.size + 1) (a := .string ⟨#[]⟩) (b := .slice none 0 0) (c := .int .i64 0) (d := .slice none 0 0) (HY2.out.far (by omega) _) (.string nm) (.slice p2 n c2) (.int .i64 1) (.slice none 0 0)
    obtain ⟨-, s0, s1, s2, s3, -⟩ := hYS
    exact bodyPost_ret (v := .tuple #[Tab.v ⟨nm, p2, n, c2, cAt l, 1, none, 0, []⟩, .int .i64 0]) (by simp [results, Tryd.results18, go_sem, s0, s1, s2, s3, Tab.v]) rfl
      ⟨⟨nm, p2, n, c2, cAt l, 1, none, 0, []⟩, 0, rfl, ⟨hnm, hn, ((((HC2.out.set (fun q hq => (hfar q hq).1) _).set (fun q hq => (hfar q hq).2) _).set (fun q hq => (hfar q hq).2) _).set (fun q hq => (hfar q hq).2) _).set (fun q hq => (hfar q hq).2) _, TRowsAt.nil _ _, Nat.zero_le _, fun r hr => absurd hr (List.not_mem_nil), by show (1 : Int) ≤ 9223372036854775807; decide⟩, rfl,
        ((((HB2.out.setCell (by exact Nat.le_refl _) _).setCell (by exact Nat.le_succ _) _).setCell (by exact Nat.le_succ _) _).setCell (by exact Nat.le_succ _) _).setCell (by exact Nat.le_succ _) _, .inl ⟨HSO.out, rfl, rfl, rfl, HLF.out, rfl⟩⟩
end Go.Proofs.YtidgfmjbfcgfiaaDoor
/-
  CompareRows of the program, with the draws: what a sort asks of its comparison.
-/
namespace Go.Proofs.YtidgfmjbfcgfiaaDoor
set_option maxRecDepth 100000
open Go.RowKit

/-- What was there is as it was, and no draw is taken back. -/
structure Gro (w w' : World) : Prop where
  low : Below w.heap.size w w'
  draws : w.drawn ≤ w'.drawn
theorem Gro.refl (w : World) : Gro w w := ⟨Below.refl _ _, Nat.le_refl _⟩
theorem Gro.trans {a b c : World} (h : Gro a b) (k : Gro b c) : Gro a c := ⟨h.low.trans (k.low.mono h.low.size), Nat.le_trans h.draws k.draws⟩
theorem Gro.alloc {a b : World} (h : Gro a b) (o : Obj) : Gro a (b.alloc o) := ⟨h.low.alloc h.low.size o, h.draws⟩
theorem Gro.drew {a b : World} (h : Gro a b) : Gro a b.drew := ⟨h.low.drew, Nat.le_trans h.draws (Nat.le_succ _)⟩
theorem Gro.of_alloc {a b : World} {o : Obj} (h : Gro (a.alloc o) b) : Gro a b := ((Gro.refl a).alloc o).trans h
/-- Such a world is the old one after some draws, with blocks behind it. -/
theorem Gro.eq {w w' : World} (h : Gro w w') : ∃ q os, w' = Go.Sort.grow (w.drewN q) os := by
  refine ⟨w'.drawn - w.drawn, w'.heap.extract w.heap.size w'.heap.size, ?_⟩
  have hd : w.drawn + (w'.drawn - w.drawn) = w'.drawn := Nat.add_sub_of_le h.draws
  have hh : w.heap ++ w'.heap.extract w.heap.size w'.heap.size = w'.heap := by
    apply Array.ext_getElem?
    intro i
    have hs := h.low.size
    by_cases hi : i < w.heap.size
    · rw [Array.getElem?_append_left hi, h.low.block i hi]
    · rw [Array.getElem?_append_right (by omega), Array.getElem?_extract]
      by_cases hj : i < w'.heap.size
      · rw [if_pos (by omega), show w.heap.size + (i - w.heap.size) = i by omega]
      · rw [if_neg (by omega), Array.getElem?_eq_none (by omega)]
  have h1 := h.low.os
  have h2 := h.low.tape
  have h3 := h.low.output
  cases w
  cases w'
  simp only [Go.Sort.grow, World.drewN] at *
  subst h1 h2 h3
  rw [hd, hh]

set_option maxRecDepth 100000 in
set_option maxHeartbeats 400000 in
theorem compareG_any (k n : Int) (s : ByteArray) (k' n' : Int) (s' : ByteArray) (w : World) :
    Calls Tryd.prog 84 #[.agg #[.int .i64 k, .int .i64 n, .string s], .agg #[.int .i64 k', .int .i64 n', .string s']] w fun e w' => e = .returned (.int .i64 (cmpV k n s k' n' s')) ∧ Gro w w' := by
  obtain ⟨W, hW, hb, hz, c0, c1, c2, d0, d1, d2⟩ := two_boxes w (.int .i64 k) (.int .i64 n) (.string s) (.int .i64 k') (.int .i64 n') (.string s') 30
  have hg : Gro w W := by rw [hW]; exact ((Gro.refl w).alloc _).alloc _
  have HZ := Lib.hid hz
  clear hz hb
  go_enter Tryd.func84, Tryd.ntmps84
  have HW := Lib.hid hW
  clear hW
  go_wp2_with fail
  rw [← HW.out]
  clear HW
  go_still_tail 15, (by kernel_rfl)
  still_call (Tryd.cmp_Compare_int _ _ _)
  repeat still_step
  still_call (cmp64_any _ _ _)
  repeat still_step
  still_call (Tryd.strings_Compare _ _ _)
  try refine wpStill_nil ?_
  have hz := HZ.out
  clear c0 c1 c2 d0 d1 d2 HZ
  have hb' : Gro w W.drew := hg.drew
  have hz' : W.drew.heap.size = w.heap.size + 2 := hz
  change wpList _ _ _ _ _ W.drew
  generalize W.drew = W2 at hb' hz'
  clear hg hz W
  go_wp2_with fail
  refine (or3_any (w.heap.size + 2) 3 (Lib.compareInt k k') (Lib.compareInt n n') (Lib.compareBytes s.data.toList s'.data.toList) _ ?_ ?_ ?_).mono ?_
  · rw [← hz']; go_simp
  · rw [← hz']; go_simp
  · rw [← hz']; go_simp
  rintro e w3 ⟨rfl, rfl⟩
  go_wp2
  go_ret
  exact ⟨rfl, hb'.alloc _⟩

set_option maxHeartbeats 1000000 in
theorem comparefuncG_any (p q : Option Addr) (a b : List Val) (ca cb : Nat) (w : World) (hla : a.length ≤ 9223372036854775807) (hlb : b.length ≤ 9223372036854775807) (ha : RowAt w p a) (hb : RowAt w q b) :
    Calls Tryd.prog 83 #[.slice p a.length ca, .slice q b.length cb, .func (.func 84) #[] #[]] w fun e w' => e = .returned (.int .i64 (cmpRow a b)) ∧ Gro w w' := by
  go_enter Tryd.func83, Tryd.ntmps83
  go_wp2
  go_loopw [7, 8, 9, 10, 13] (fun _ _ _ _ i wr => ∃ k : Nat, k ≤ a.length ∧ k ≤ b.length ∧ i = .int .i64 k ∧ cmpRow (a.drop k) (b.drop k) = cmpRow a b ∧ Gro w wr) (fun _ _ _ _ i _ => a.length - (intOf i).toNat)
  case atStart => exact ⟨0, by omega, by omega, rfl, rfl, Gro.refl _⟩
  case round =>
    obtain ⟨k, hk, hk', rfl, hcmp, hB⟩ := hrel
    have hA1 := ha.low hB.low
    have hB1 := hb.low hB.low
    have HC := Lib.hid hcmp
    clear hcmp
    by_cases hlt : k < a.length
    · by_cases hlt' : k < b.length
      · obtain ⟨c, o, rfl, hc, x0, x1, x2⟩ := hA1 k hlt
        obtain ⟨c', o', rfl, hc', y0, y1, y2⟩ := hB1 k hlt'
        go_wp2_with fail
        refine (compareG_any _ _ _ _ _ _ _).mono ?_
        rintro e w2 ⟨rfl, hb2⟩
        have hB2 := hB.trans hb2.of_alloc.of_alloc
        clear hb2 x0 x1 x2 y0 y1 y2 hA1 hB1 hc hc' hB ha hb
        by_cases hz : cmpVal (vAt a k) (vAt b k) = 0
        · have hz' : (cmpV (vAt a k).1 (vAt a k).2.1 (vAt a k).2.2 (vAt b k).1 (vAt b k).2.1 (vAt b k).2.2 != 0) = false := by
            rw [bne_eq_false_iff_eq]; exact hz
          have HS := Lib.hid ((cmpRow_step hlt hlt' hz).trans HC.out)
          clear hz
          go_wp2
          go_roundw
          case rel => exact ⟨k + 1, by omega, by omega, by go_num, HS.out, hB2⟩
          case measure => simp [intOf]; omega
        · have hz' : (cmpV (vAt a k).1 (vAt a k).2.1 (vAt a k).2.2 (vAt b k).1 (vAt b k).2.1 (vAt b k).2.2 != 0) = true := by
            rw [bne_iff_ne]; exact hz
          have HS := Lib.hid ((cmpRow_stop hlt hlt' hz).trans HC.out)
          clear hz
          go_wp2
          go_ret
          exact ⟨ret_i HS.out, hB2⟩
      · obtain ⟨c, o, rfl, hc, x0, x1, x2⟩ := hA1 k hlt
        have HS := Lib.hid ((cmpRow_long hlt (by omega)).symm.trans HC.out)
        have hB2 := hB.alloc (.cells #[.int .i64 (vAt a k).1, .int .i64 (vAt a k).2.1, .string (vAt a k).2.2] 30)
        go_wp2
        go_ret
        exact ⟨ret_i HS.out, hB2⟩
    · by_cases hlt' : k < b.length
      · have HS := Lib.hid ((cmpRow_short (by omega) hlt').symm.trans HC.out)
        go_wp2
        go_ret
        exact ⟨ret_i HS.out, hB⟩
      · have HS := Lib.hid ((cmpRow_end (by omega) (by omega)).symm.trans HC.out)
        go_wp2
        go_ret
        exact ⟨ret_i HS.out, hB⟩

set_option maxHeartbeats 1000000 in
theorem comparerowsG_any (p q : Option Addr) (a b : List Val) (ca cb : Nat) (w : World) (hla : a.length ≤ 9223372036854775807) (hlb : b.length ≤ 9223372036854775807) (ha : RowAt w p a) (hb : RowAt w q b) :
    Calls Tryd.prog 77 #[.slice p a.length ca, .slice q b.length cb] w fun e w' => e = .returned (.int .i64 (cmpRow a b)) ∧ Gro w w' := by
  go_enter Tryd.func77, Tryd.ntmps77
  go_wp2_with fail
  refine (comparefuncG_any p q a b ca cb _ hla hlb ha hb).mono ?_
  rintro e w2 ⟨rfl, hb2⟩
  go_wp2
  go_ret
  exact ⟨rfl, hb2⟩
end Go.Proofs.YtidgfmjbfcgfiaaDoor
