/-
  THE STATEMENT SchemaValidates, as a walk.
-/
import Derived.Test.YtgcbgojbjabhkaaDoorSpoiled
namespace Go.Proofs.YtgcbgojbjabhkaaDoor
open Go.RowKit
variable {ls : List Nat}

structure Sch where
  nm : ByteArray
  p : Option Addr
  n : Nat
  cap : Nat
  f : Nat → Col
/-- A schema whose columns lie in memory. -/
structure SchOK (u : World) (x : Sch) : Prop where
  nm : x.nm.size ≤ 9223372036854775807
  n : x.n ≤ 9223372036854775807
  cols : ColsAt u x.p x.n x.f
/-- A slice of m schemas that the call has made. -/
def SchsAt (u : World) (L m : Nat) (G : Nat → Sch) : Prop := L < u.heap.size ∧ ∀ i, i < m → u.cell? ⟨L, i * 2, none⟩ = some (.string (G i).nm) ∧ u.cell? ⟨L, i * 2 + 1, none⟩ = some (.slice (G i).p (G i).n (G i).cap) ∧ SchOK u (G i)
theorem SchOK.low {u v : World} {x : Sch} (h : SchOK u x) (hb : Below u.heap.size u v) : SchOK v x := ⟨h.nm, h.n, h.cols.low hb⟩
theorem SchsAt.low {u v : World} {L m : Nat} {G : Nat → Sch} (h : SchsAt u L m G) (hb : Below u.heap.size u v) : SchsAt v L m G :=
  ⟨Nat.lt_of_lt_of_le h.1 hb.size, fun i hi => by
    obtain ⟨h0, h1, h2⟩ := h.2 i hi
    exact ⟨by rw [hb.cell (by exact h.1)]; exact h0, by rw [hb.cell (by exact h.1)]; exact h1, h2.low hb⟩⟩
theorem schs4 {W wq : World} {t : TypeId} {x0 x1 x2 x3 : Sch} (h : wq.alloc (.cells #[.string x0.nm, .slice x0.p x0.n x0.cap, .string x1.nm, .slice x1.p x1.n x1.cap, .string x2.nm, .slice x2.p x2.n x2.cap, .string x3.nm, .slice x3.p x3.n x3.cap] t) = W)
    (k0 : SchOK W x0) (k1 : SchOK W x1) (k2 : SchOK W x2) (k3 : SchOK W x3) : ∃ G, SchsAt W wq.heap.size 4 G := by
  refine ⟨fun i => match i with | 0 => x0 | 1 => x1 | 2 => x2 | _ => x3, by subst h; simp, fun i hi => ?_⟩
  have hi' : i = 0 ∨ i = 1 ∨ i = 2 ∨ i = 3 := by omega
  rcases hi' with rfl | rfl | rfl | rfl
  · exact ⟨by subst h; go_simp, by subst h; go_simp, k0⟩
  · exact ⟨by subst h; go_simp, by subst h; go_simp, k1⟩
  · exact ⟨by subst h; go_simp, by subst h; go_simp, k2⟩
  · exact ⟨by subst h; go_simp, by subst h; go_simp, k3⟩

theorem cols_eq {u W : World} {o : Obj} {p : Option Addr} {n : Nat} {f : Nat → Col} (hW : u.alloc o = W) (h : ∀ o, ColsAt (u.alloc o) p n f) : ColsAt W p n f := hW ▸ h o
theorem ColsAt.step0 {u v : World} {b n : Nat} {p : Option Addr} {f : Nat → Col} (h : ColsAt u p n f) (hs : StepT b u v) (hn : 0 < n → ∀ q, p = some q → q.block ≠ b) : ColsAt v p n f := by
  by_cases h0 : 0 < n
  · exact h.step hs (hn h0)
  · intro i hi; omega
/-- What the region with the two spoiled schemas leaves as it is. -/
structure RestS (ls : List Nat) (W : World) (b : Nat) (X Y : Nat) (m0 : ByteArray) (a0 : Option Addr) (n0 c0 : Nat) (f0 : Nat → Col) (mS : ByteArray) (pS : Addr) (lS : List Col) (cS : Nat) (u : World) : Prop where
  x : Cell2 u X (.string m0) (.slice a0 n0 c0)
  y : Cell2 u Y (.string mS) (.slice (some pS) lS.length cS)
  raw : ColsAt u a0 n0 f0
  cols : ColsAt u (some pS) lS.length (cAt lS)
  tape : TapeAt u b
  env : Env ls u
  low : Below W.heap.size W u
theorem keepR {W u v : World} {b X Y : Nat} {m0 : ByteArray} {a0 : Option Addr} {n0 c0 : Nat} {f0 : Nat → Col} {mS : ByteArray} {pS : Addr} {lS : List Col} {cS : Nat} (hs : StepT b u v) (ht : TapeAt v b) (h8 : 4 ≤ b) (hX : X ≠ b) (hY : Y ≠ b) (ha : 0 < n0 → ∀ q, a0 = some q → q.block ≠ b) (hp : pS.block ≠ b) (hW : W.heap.size ≤ b)
    (h : u.cell? ⟨X, 0, none⟩ = some (.string m0) ∧ u.cell? ⟨X, 1, none⟩ = some (.slice a0 n0 c0) ∧ u.cell? ⟨Y, 0, none⟩ = some (.string mS) ∧ u.cell? ⟨Y, 1, none⟩ = some (.slice (some pS) lS.length cS) ∧ TapeAt u b ∧ ColsAt u (some pS) lS.length (cAt lS) ∧ RestS ls W b X Y m0 a0 n0 c0 f0 mS pS lS cS u) :
    v.cell? ⟨X, 0, none⟩ = some (.string m0) ∧ v.cell? ⟨X, 1, none⟩ = some (.slice a0 n0 c0) ∧ v.cell? ⟨Y, 0, none⟩ = some (.string mS) ∧ v.cell? ⟨Y, 1, none⟩ = some (.slice (some pS) lS.length cS) ∧ TapeAt v b ∧ ColsAt v (some pS) lS.length (cAt lS) ∧ RestS ls W b X Y m0 a0 n0 c0 f0 mS pS lS cS v := by
  obtain ⟨-, -, -, -, -, -, hx, hy, hr, hc, -, hE, hB⟩ := h
  have hx' := hx.step hs hX
  have hy' := hy.step hs hY
  have hc' := hc.step hs (fun q hq => by cases hq; exact hp)
  exact ⟨hx'.c0, hx'.c1, hy'.c0, hy'.c1, ht, hc', hx', hy', hr.step0 hs ha, hc', ht, hE.step hs h8, hB.trans (hs.below hW hB.size)⟩
theorem keepRa {W u : World} {b X Y : Nat} {m0 : ByteArray} {a0 : Option Addr} {n0 c0 : Nat} {f0 : Nat → Col} {mS : ByteArray} {pS : Addr} {lS : List Col} {cS : Nat} {o : Obj} (h8 : 4 ≤ b) (hX : X ≠ b) (hY : Y ≠ b) (ha : 0 < n0 → ∀ q, a0 = some q → q.block ≠ b) (hp : pS.block ≠ b) (hW : W.heap.size ≤ b)
    (h : u.cell? ⟨X, 0, none⟩ = some (.string m0) ∧ u.cell? ⟨X, 1, none⟩ = some (.slice a0 n0 c0) ∧ u.cell? ⟨Y, 0, none⟩ = some (.string mS) ∧ u.cell? ⟨Y, 1, none⟩ = some (.slice (some pS) lS.length cS) ∧ TapeAt u b ∧ ColsAt u (some pS) lS.length (cAt lS) ∧ RestS ls W b X Y m0 a0 n0 c0 f0 mS pS lS cS u) :
    (u.alloc o).cell? ⟨X, 0, none⟩ = some (.string m0) ∧ (u.alloc o).cell? ⟨X, 1, none⟩ = some (.slice a0 n0 c0) ∧ (u.alloc o).cell? ⟨Y, 0, none⟩ = some (.string mS) ∧ (u.alloc o).cell? ⟨Y, 1, none⟩ = some (.slice (some pS) lS.length cS) ∧ TapeAt (u.alloc o) b ∧ ColsAt (u.alloc o) (some pS) lS.length (cAt lS) ∧ RestS ls W b X Y m0 a0 n0 c0 f0 mS pS lS cS (u.alloc o) :=
  keepR ((StepT.refl b u).alloc o) (h.2.2.2.2.1.alloc o) h8 hX hY ha hp hW h
theorem RestS.drew {W u : World} {b X Y : Nat} {m0 : ByteArray} {a0 : Option Addr} {n0 c0 : Nat} {f0 : Nat → Col} {mS : ByteArray} {pS : Addr} {lS : List Col} {cS : Nat} (h : RestS ls W b X Y m0 a0 n0 c0 f0 mS pS lS cS u) : RestS ls W b X Y m0 a0 n0 c0 f0 mS pS lS cS u.drew :=
  ⟨⟨h.x.lt, h.x.c0, h.x.c1, h.x.fz⟩, ⟨h.y.lt, h.y.c0, h.y.c1, h.y.fz⟩, h.raw, h.cols, h.tape, h.env.drew, h.low.drew⟩

/-- What the loops leave as it is. -/
structure RestV (ls : List Nat) (W : World) (L Y : Nat) (G : Nat → Sch) (mS : ByteArray) (pS : Addr) (lS : List Col) (cS : Nat) (u : World) : Prop where
  sch : SchsAt u L 4 G
  y : Cell2 u Y (.string mS) (.slice (some pS) lS.length cS)
  cols : ColsAt u (some pS) lS.length (cAt lS)
  env : Env ls u
  low : Below W.heap.size W u
theorem RestV.keep {W u v : World} {L Y : Nat} {G : Nat → Sch} {mS : ByteArray} {pS : Addr} {lS : List Col} {cS : Nat} (h : RestV ls W L Y G mS pS lS cS u) (hb : Below u.heap.size u v) : RestV ls W L Y G mS pS lS cS v :=
  ⟨h.sch.low hb, h.y.low hb, h.cols.low hb, h.env.low hb, h.low.trans (hb.mono h.low.size)⟩
theorem RestV.drew {W u : World} {L Y : Nat} {G : Nat → Sch} {mS : ByteArray} {pS : Addr} {lS : List Col} {cS : Nat} (h : RestV ls W L Y G mS pS lS cS u) : RestV ls W L Y G mS pS lS cS u.drew :=
  ⟨⟨h.sch.1, fun i hi => ⟨(h.sch.2 i hi).1, (h.sch.2 i hi).2.1, (h.sch.2 i hi).2.2.nm, (h.sch.2 i hi).2.2.n, (h.sch.2 i hi).2.2.cols⟩⟩, ⟨h.y.lt, h.y.c0, h.y.c1, h.y.fz⟩, h.cols, h.env.drew, h.low.drew⟩
theorem keepV6 {W u v : World} {L Y Z : Nat} {G : Nat → Sch} {mS : ByteArray} {pS : Addr} {lS : List Col} {cS : Nat} {x : Sch} (hb : Below u.heap.size u v)
    (h : u.cell? ⟨Z, 0, none⟩ = some (.string x.nm) ∧ u.cell? ⟨Z, 1, none⟩ = some (.slice x.p x.n x.cap) ∧ Z < u.heap.size ∧ SchOK u x ∧ RestV ls W L Y G mS pS lS cS u) :
    v.cell? ⟨Z, 0, none⟩ = some (.string x.nm) ∧ v.cell? ⟨Z, 1, none⟩ = some (.slice x.p x.n x.cap) ∧ Z < v.heap.size ∧ SchOK v x ∧ RestV ls W L Y G mS pS lS cS v := by
  obtain ⟨h0, h1, hz, hk, hr⟩ := h
  exact ⟨by rw [hb.cell (by exact hz)]; exact h0, by rw [hb.cell (by exact hz)]; exact h1, Nat.lt_of_lt_of_le hz hb.size, hk.low hb, hr.keep hb⟩
theorem keepV11 {W u v : World} {L Y Z Q : Nat} {G : Nat → Sch} {mS : ByteArray} {pS : Addr} {lS : List Col} {cS : Nat} {x : Sch} {s : ByteArray} (hb : Below u.heap.size u v)
    (h : u.cell? ⟨Z, 0, none⟩ = some (.string x.nm) ∧ u.cell? ⟨Z, 1, none⟩ = some (.slice x.p x.n x.cap) ∧ u.cell? ⟨Q, 0, none⟩ = some (.string s) ∧ Z < u.heap.size ∧ Q < u.heap.size ∧ SchOK u x ∧ RestV ls W L Y G mS pS lS cS u) :
    v.cell? ⟨Z, 0, none⟩ = some (.string x.nm) ∧ v.cell? ⟨Z, 1, none⟩ = some (.slice x.p x.n x.cap) ∧ v.cell? ⟨Q, 0, none⟩ = some (.string s) ∧ Z < v.heap.size ∧ Q < v.heap.size ∧ SchOK v x ∧ RestV ls W L Y G mS pS lS cS v := by
  obtain ⟨h0, h1, h2, hz, hq, hk, hr⟩ := h
  exact ⟨by rw [hb.cell (by exact hz)]; exact h0, by rw [hb.cell (by exact hz)]; exact h1, by rw [hb.cell (by exact hq)]; exact h2, Nat.lt_of_lt_of_le hz hb.size, Nat.lt_of_lt_of_le hq hb.size, hk.low hb, hr.keep hb⟩

set_option maxRecDepth 100000 in
set_option maxHeartbeats 4000000 in
theorem validates_walk (w : World) (m0 : ByteArray) (hm0 : m0.size ≤ 9223372036854775807) (a0 : Option Addr) (n0 c0 : Nat) (hn0 : n0 ≤ 9223372036854775807) (f0 : Nat → Col) (hC0 : ColsAt w a0 n0 f0) (p : Option Addr) (len cap : Nat) (hl : len ≤ cap) (hm : len ≤ 9223372036854775807) (h : IntsAt w p len) (s : ByteArray)
    (hE : Env ls w) (hln : 0 ∈ ls) (hlk : 1 ∈ ls) :
    Calls Tryd.prog 4 #[schV m0 a0 n0 c0, .slice p len cap, .string s] w fun e w' => e = .returned (.bool true) ∧ Below w.heap.size w w' := by
  unfold schV
  have hz8 := hE.size
  have hbx : Below w.heap.size w (w.alloc (.cells #[.string m0, .slice a0 n0 c0] 34)) := below_new (Below.refl _ _) _
  have HI := Lib.hid (h.low hbx)
  have HE := Lib.hid (hE.low hbx)
  have HC := Lib.hid (hC0.low hbx)
  have HX := Lib.hid (cell2_new w (.string m0) (.slice a0 n0 c0) 34)
  have HB := Lib.hid hbx
  clear h hE hbx
  go_enter Tryd.func4, Tryd.ntmps4
  go_wp2_with fail
  refine (new_any _ p len cap hl hm HI.out).mono ?_
  rintro e w1 ⟨b, rfl, hb0, ht, hb1⟩
  rw [size_alloc] at hb0
  have HE1 := Lib.hid (HE.out.low hb1)
  have HC1 := Lib.hid (HC.out.low hb1)
  have HX1 := Lib.hid (HX.out.low hb1)
  have HB1 := Lib.hid (below_next HB.out hb1)
  have h8b : 4 ≤ b := by omega
  have hXb : w.heap.size ≠ b := by omega
  have hWb : w.heap.size ≤ b := by omega
  have hab : 0 < n0 → ∀ q, a0 = some q → q.block ≠ b := fun h0 q hq => by
    obtain ⟨c, o, hp, hc, -⟩ := hC0 0 h0
    rw [hq] at hp
    obtain rfl := Option.some.inj hp
    show c ≠ b
    omega
  have hbz1 := ht.lt
  clear HI HE HC HX HB hb1 hC0
  go_wp2_with fail
  refine (anyschema_any b _ h8b ht HE1.out hln).mono ?_
  rintro e w2 ⟨i, pS, lS, cS, rfl, hi, hl1, hl5, hcS, hok, hfS, ht2, hs2⟩
  obtain ⟨pS, rfl⟩ : ∃ a, pS = some a := by
    obtain ⟨c, o, hp, -⟩ := hcS 0 (by omega)
    exact ⟨_, hp⟩
  have hpb : pS.block ≠ b := by have := hfS _ rfl; omega
  have hmS : (nameS i).size ≤ 100 := name_all (P := fun s => s.size ≤ 100) (by decide +kernel) i hi
  have HOK := Lib.hid hok
  have HY := Lib.hid (cell2_new w2 (.string (nameS i)) (.slice (some pS) lS.length cS) 34)
  have HR := Lib.hid (RestS.mk (ls := ls) (W := w) ((HX1.out.step hs2 hXb).low (below_alloc _ (.cells #[.string (nameS i), .slice (some pS) lS.length cS] 34))) HY.out ((HC1.out.step0 hs2 hab).low (below_alloc _ _)) (hcS.low (below_alloc _ _)) (ht2.alloc _) ((HE1.out.step hs2 h8b).alloc _) (below_new (HB1.out.trans (hs2.below hWb HB1.out.size)) _))
  have hYb : w2.heap.size ≠ b := by have := ht2.lt; omega
  clear ht HE1 HC1 HX1 HB1 hcS hok hfS ht2 hs2 HY hi hbz1
  unfold schV
  generalize nameS i = mS at hmS HOK HR ⊢
  go_wp2_with fail
  generalize w2.alloc _ = W3 at HR ⊢
  generalize w2.heap.size = Y at HR hYb ⊢
  obtain ⟨-, x0, x1, -⟩ := HR.out.x
  obtain ⟨-, y0, y1, -⟩ := HR.out.y
  go_region_held3 (fun u => u.cell? ⟨w.heap.size, 0, none⟩ = some (.string m0) ∧ u.cell? ⟨w.heap.size, 1, none⟩ = some (.slice a0 n0 c0) ∧ u.cell? ⟨Y, 0, none⟩ = some (.string mS) ∧ u.cell? ⟨Y, 1, none⟩ = some (.slice (some pS) lS.length cS) ∧ TapeAt u b ∧ ColsAt u (some pS) lS.length (cAt lS) ∧ RestS ls w b w.heap.size Y m0 a0 n0 c0 f0 mS pS lS cS u)
    (first
      | exact ⟨x0, x1, y0, y1, HR.out.tape, HR.out.cols, HR.out.drew⟩
      | with_reducible exact keepR hsq htq h8b hXb hYb hab hpb hWb (by assumption)
      | with_reducible exact keepRa h8b hXb hYb hab hpb hWb (by assumption))
    (first
      | (go_at_call 15; refine (spoiled_any b _ ?_ mS pS lS.length cS (cAt lS) hl1 hl5 hmS ?_).mono ?_; (go_split_ands; assumption); (go_split_ands; assumption); (first | (have hcB := hcA; have hnB := hnA; have hkB := hkA; have hfB := hfA; clear hcA hnA hkA hfA) | skip); rintro e wq ⟨nmA, pA, nA, cA, fA, rfl, hnA, hkA, hcA, hfA, htq, hsq⟩; unfold schV; (first | (have hcB := ColsAt.step hcB hsq hfB) | skip)))
  rename_i hHeld
  obtain ⟨-, -, -, -, -, -, hR⟩ := hHeld
  have hcB1 := fun o => hcB.low (below_alloc wq o)
  have hcA1 := fun o => hcA.low (below_alloc wq o)
  clear hcA hcB hsq htq hfA hfB x0 x1 y0 y1 HR
  generalize hW : wq.alloc _ = W5 at hR ⊢
  have hcB' := cols_eq hW hcB1
  have hcA' := cols_eq hW hcA1
  clear hcB1 hcA1
  obtain ⟨G, hG⟩ := schs4 (x0 := ⟨m0, a0, n0, c0, f0⟩) (x1 := ⟨mS, some pS, lS.length, cS, cAt lS⟩) (x2 := ⟨_, _, _, _, _⟩) (x3 := ⟨nmA, pA, nA, cA, fA⟩) hW ⟨hm0, hn0, hR.raw⟩ ⟨by show mS.size ≤ _; omega, by show lS.length ≤ _; omega, hR.cols⟩ ⟨hnB, Nat.le_trans hkB (by decide), hcB'⟩ ⟨hnA, by show nA ≤ _; omega, hcA'⟩
  generalize wq.heap.size = L at hG ⊢
  have HV := Lib.hid (RestV.mk hG hR.y hR.cols hR.env hR.low)
  clear hW hG hR hcA' hcB'
  go_wp2
  go_loopw [27] (fun x v => ∃ k : Nat, k ≤ 4 ∧ x = .int .i64 k ∧ RestV ls w L Y G mS pS lS cS v) (fun x _ => 4 - (intOf x).toNat)
  case atStart => exact ⟨0, by omega, rfl, HV.out⟩
  clear HV
  case round =>
    obtain ⟨k, hk, rfl, hV⟩ := hrel
    have HV := Lib.hid hV
    clear hV
    by_cases hlt : k < 4
    · obtain ⟨l0, l1, hok⟩ := HV.out.sch.2 k hlt
      have hLz := HV.out.sch.1
      have HK := Lib.hid hok
      have hxn := hok.nm
      have hxm := hok.n
      clear hok
      go_wp2_with fail
      have hb1 := low_alloc wr (.cells #[.string (G k).nm, .slice (G k).p (G k).n (G k).cap] 34)
      have HV1 := Lib.hid (HV.out.keep hb1)
      have HK1 := Lib.hid (HK.out.low hb1)
      obtain ⟨zz, z0, z1, -⟩ := cell2_new wr (.string (G k).nm) (.slice (G k).p (G k).n (G k).cap) 34
      clear HV HK l0 l1 hLz hb1
      generalize wr.alloc _ = Wz at HV1 HK1 zz z0 z1 ⊢
      generalize wr.heap.size = Z at zz z0 z1 ⊢
      generalize G k = x at HK1 hxn hxm z0 z1 ⊢
      obtain ⟨xm, xp, xn, xc, xf⟩ := x
      dsimp only at hxn hxm z0 z1 ⊢
      go_region_held3 (fun u => u.cell? ⟨Z, 0, none⟩ = some (.string xm) ∧ u.cell? ⟨Z, 1, none⟩ = some (.slice xp xn xc) ∧ Z < u.heap.size ∧ SchOK u ⟨xm, xp, xn, xc, xf⟩ ∧ RestV ls w L Y G mS pS lS cS u)
        (first
          | exact ⟨z0, z1, zz, ⟨hxn, hxm, HK1.out.cols⟩, HV1.out.drew⟩
          | exact keepV6 (x := ⟨xm, xp, xn, xc, xf⟩) hbq (by assumption))
        (first
          | (go_at_call 16; refine (svalid_any _ _ _ _ xf _ hxn hxm ?_).mono ?_; (go_split_ands; exact SchOK.cols (by assumption)); rintro e wq ⟨rfl, hbq⟩)
          | (go_at_call 17; refine (rsvalid_any _ _ _ _ xf _ hxn hxm ?_).mono ?_; (go_split_ands; exact SchOK.cols (by assumption)); rintro e wq ⟨rfl, hbq⟩)
          | (go_at_call 18; refine (keycol_any _ _ _ _ xf _ hxm ?_).mono ?_; (go_split_ands; exact SchOK.cols (by assumption)); rintro e wq ⟨rfl, hbq⟩)
          | (go_at_call 19; refine (rkeycol_any _ _ _ _ xf _ hxm ?_).mono ?_; (go_split_ands; exact SchOK.cols (by assumption)); rintro e wq ⟨rfl, hbq⟩)
          | (go_at_call 20; refine (find_any _ _ _ _ _ xf _ hxm ?_).mono ?_; (go_split_ands; exact SchOK.cols (by assumption)); rintro e wq ⟨rfl, hbq⟩)
          | (go_at_call 21; refine (rfind_any _ _ _ _ _ xf _ hxm ?_).mono ?_; (go_split_ands; exact SchOK.cols (by assumption)); rintro e wq ⟨rfl, hbq⟩))
      rename_i hHeld
      clear zz z0 z1 HV1 HK1 hbq
      obtain ⟨z0, z1, zz, hK2, hV2⟩ := hHeld
      have HK2 := Lib.hid hK2
      have HV2 := Lib.hid hV2
      clear hK2 hV2
      go_wp2
      go_loopw [55] (fun y v => ∃ d : Nat, d ≤ xn ∧ y = .int .i64 d ∧ v.cell? ⟨Z, 0, none⟩ = some (.string xm) ∧ v.cell? ⟨Z, 1, none⟩ = some (.slice xp xn xc) ∧ Z < v.heap.size ∧ SchOK v ⟨xm, xp, xn, xc, xf⟩ ∧ RestV ls w L Y G mS pS lS cS v) (fun y _ => xn - (intOf y).toNat)
      case atStart => exact ⟨0, Nat.zero_le _, rfl, z0, z1, zz, HK2.out, HV2.out⟩
      clear z0 z1 zz HK2 HV2
      case round =>
        obtain ⟨d, hd, rfl, z0, z1, zz, hK3, hV3⟩ := hrel
        have HV3 := Lib.hid hV3
        by_cases hdlt : d < xn
        · have hdlt' : decide ((d : Int) < xn) = true := decide_eq_true (by omega)
          have hcols : ColsAt wr xp xn xf := hK3.cols
          have HK3 := Lib.hid hK3
          obtain ⟨c, o, rfl, hc, hfn, h0, h1, h2, h3⟩ := hcols d hdlt
          clear hK3 hV3 hcols
          go_wp2_with fail
          have hb3 := low_alloc wr (.cells #[.string (xf d).nm, .int .i64 (xf d).ty, .bool (xf d).nn, .bool (xf d).key] 42)
          have HV4 := Lib.hid (HV3.out.keep hb3)
          have HK4 := Lib.hid (HK3.out.low hb3)
          obtain ⟨q_, q0, -, -, -, -⟩ := cell4_new wr (.string (xf d).nm) (.int .i64 (xf d).ty) (.bool (xf d).nn) (.bool (xf d).key) 42
          have z0' : (wr.alloc (.cells #[.string (xf d).nm, .int .i64 (xf d).ty, .bool (xf d).nn, .bool (xf d).key] 42)).cell? ⟨Z, 0, none⟩ = some (.string xm) := by rw [hb3.cell (by exact zz)]; exact z0
          have z1' : (wr.alloc (.cells #[.string (xf d).nm, .int .i64 (xf d).ty, .bool (xf d).nn, .bool (xf d).key] 42)).cell? ⟨Z, 1, none⟩ = some (.slice (some ⟨c, o, none⟩) xn xc) := by rw [hb3.cell (by exact zz)]; exact z1
          have zz' := Nat.lt_of_lt_of_le zz hb3.size
          clear HV3 HK3 h0 h1 h2 h3 hb3 z0 z1 zz hc
          generalize wr.alloc _ = Wq at HV4 HK4 q_ q0 z0' z1' zz' ⊢
          generalize wr.heap.size = Q at q_ q0 ⊢
          go_region_held3 (fun u => u.cell? ⟨Z, 0, none⟩ = some (.string xm) ∧ u.cell? ⟨Z, 1, none⟩ = some (.slice (some ⟨c, o, none⟩) xn xc) ∧ u.cell? ⟨Q, 0, none⟩ = some (.string (xf d).nm) ∧ Z < u.heap.size ∧ Q < u.heap.size ∧ SchOK u ⟨xm, some ⟨c, o, none⟩, xn, xc, xf⟩ ∧ RestV ls w L Y G mS pS lS cS u)
            (first
              | exact ⟨z0', z1', q0, zz', q_, ⟨hxn, hxm, HK4.out.cols⟩, HV4.out.drew⟩
              | exact keepV11 (x := ⟨xm, some ⟨c, o, none⟩, xn, xc, xf⟩) hbq (by assumption))
            (first
              | (go_at_call 20; refine (find_any _ _ _ _ _ xf _ hxm ?_).mono ?_; (go_split_ands; exact SchOK.cols (by assumption)); rintro e wq ⟨rfl, hbq⟩)
              | (go_at_call 21; refine (rfind_any _ _ _ _ _ xf _ hxm ?_).mono ?_; (go_split_ands; exact SchOK.cols (by assumption)); rintro e wq ⟨rfl, hbq⟩))
          rename_i hHeld
          clear z0' z1' q0 zz' q_ HV4 HK4 hbq
          obtain ⟨z0, z1, -, zz, -, hK5, hV5⟩ := hHeld
          go_wp2
          go_roundw
          case rel => exact ⟨d + 1, by omega, by go_num, z0, z1, zz, hK5, hV5⟩
          case measure => simp [intOf]; omega
        · have hdlt' : decide ((d : Int) < xn) = false := decide_eq_false (by omega)
          clear z0 z1 hK3 hV3
          go_wp2
          go_roundw
          case rel => exact ⟨k + 1, by omega, by go_num, HV3.out⟩
          case measure => simp [intOf]; omega
    · obtain ⟨-, y0, y1, -⟩ := HV.out.y
      go_wp2_with fail
      refine (svalid_eq (b := true) (f := cAt lS) (by omega) (by omega) HV.out.cols HOK.out).mono ?_
      rintro e w5 ⟨rfl, hb5⟩
      have HE5 := Lib.hid (HV.out.env.low hb5)
      have HB5 := Lib.hid (below_next HV.out.low hb5)
      clear y0 y1 hb5 HV
      go_wp2_with fail
      refine (known_any _ HE5.out hlk).mono ?_
      rintro e w6 ⟨rfl, hb6⟩
      have HB6 := Lib.hid (below_next HB5.out hb6)
      clear hb6
      go_wp2
      go_ret
      exact ⟨rfl, HB6.out⟩
end Go.Proofs.YtgcbgojbjabhkaaDoor
