/-
  Several texts in one.
-/
import Derived.Test.YtgaihglploedaaaPk22
/-
  The law KeysLimit, walked.
-/
namespace Go.Proofs.Ytgaihglploedaaa
set_option maxRecDepth 100000
open Go.RowKit
variable {ls : List Nat}

abbrev nilR : List Val := [(0, 0, ⟨#[]⟩), (0, 0, ⟨#[]⟩)]
def limRow (j : Nat) : TRow := ((j : Int) + 1, nilR)
def limR (k : Nat) : List TRow := (List.range k).map limRow
theorem limR_succ (k : Nat) : limR (k + 1) = limR k ++ [limRow k] := by unfold limR; rw [List.range_succ, List.map_append]; rfl
theorem limR_length (k : Nat) : (limR k).length = k := by unfold limR; simp
theorem nilR_sized : ValsSized nilR := by
  intro i hi
  have hi2 : i < 2 := hi
  obtain rfl | rfl : i = 0 ∨ i = 1 := by omega
  all_goals exact Nat.zero_le _
theorem limR_sized (k : Nat) (r : TRow) (hr : r ∈ limR k) : ValsSized r.2 := by
  unfold limR at hr
  obtain ⟨j, -, rfl⟩ := List.mem_map.1 hr
  exact nilR_sized
def limI (k : Nat) : List (List Val) := List.replicate k nilR
def limD (k : Nat) : List Int := (List.range k).map fun (i : Nat) => 10 + (i : Int)
theorem limE1 (N : Nat) (h : N ≤ 4) : applyE ⟨#[108, 111, 103]⟩ 2 colLog 101 (limR 100) (limI N) [] [] = if N = 0 then 0 else 10 := by
  have hN : N = 0 ∨ N = 1 ∨ N = 2 ∨ N = 3 ∨ N = 4 := by omega
  rcases hN with rfl | rfl | rfl | rfl | rfl <;> decide +kernel
theorem limE2 (N : Nat) (h : N ≤ 4) : applyE ⟨#[108, 111, 103]⟩ 2 colLog 101 (limR 100) (limI N) (limD N) [] = 0 ∧ (afterR 101 (limR 100) (limI N) (limD N) []).length = 100 := by
  have hN : N = 0 ∨ N = 1 ∨ N = 2 ∨ N = 3 ∨ N = 4 := by omega
  rcases hN with rfl | rfl | rfl | rfl | rfl <;> decide +kernel
abbrev nilVs : Obj := .cells #[.int .i64 0, .int .i64 0, .string ⟨#[]⟩, .int .i64 0, .int .i64 0, .string ⟨#[]⟩] 31
theorem nilR_row (u : World) (base : Nat) (hb : base ≤ u.heap.size) : InRow (u.alloc nilVs) base (.slice (some ⟨u.heap.size, 0, none⟩) 2 2, nilR) :=
  ⟨World.ownsRow_lit u #[.int .i64 0, .int .i64 0, .string ⟨#[]⟩, .int .i64 0, .int .i64 0, .string ⟨#[]⟩] 2 hb (by decide) rfl, by show 2 * 32 ≤ 140737488355328; omega⟩
theorem head7_news (u : World) (o : Obj) (x : Value) (t : TypeId) : ∀ j y, ([x] : List Value)[j]? = some y → ((u.alloc o).alloc (.cells #[x] t)).cell? ((⟨u.heap.size + 1, 0, none⟩ : Addr).add j) = some y := by
  intro j y hj
  have h0 : j = 0 := by
    have := (List.getElem?_eq_some_iff.1 hj).1
    simp at this; omega
  subst h0
  obtain rfl := Option.some.inj hj
  have hadd : (⟨u.heap.size + 1, 0, none⟩ : Addr).add 0 = ⟨(u.alloc o).heap.size, 0, none⟩ := by rw [size_alloc]; unfold Addr.add; split <;> simp_all
  rw [hadd]
  go_simp
theorem head1_news (u : World) (x : Value) (t : TypeId) : ∀ j y, ([x] : List Value)[j]? = some y → (u.alloc (.cells #[x] t)).cell? ((⟨u.heap.size, 0, none⟩ : Addr).add j) = some y := by
  intro j y hj
  have h0 : j = 0 := by
    have := (List.getElem?_eq_some_iff.1 hj).1
    simp at this; omega
  subst h0
  obtain rfl := Option.some.inj hj
  have hadd : (⟨u.heap.size, 0, none⟩ : Addr).add 0 = ⟨u.heap.size, 0, none⟩ := by unfold Addr.add; split <;> simp_all
  rw [hadd]
  go_simp
theorem info_int7 : (Try.prog.info? 3).map (fun i => (i.zero, i.size, i.bytes)) = some (some (.int .i64 0), 1, 8) := by kernel_rfl
theorem info_row7 : (Try.prog.info? 32).map (fun i => (i.zero, i.size, i.bytes)) = some (some (.slice none 0 0), 1, 24) := by kernel_rfl
def icells (D : List Int) : List Value := D.map fun z => .int .i64 z
/-- The change that is built: its box, its rows, its numbers. -/
structure LimC (W1 : World) (X : Nat) (vi vd : Value) (G : List (Value × List Val)) (D : List Int) (v : World) : Prop where
  box : Cell3 v X vi vd (.slice none 0 0)
  ins : v.ownsRow (X + 1) 32 1 vi G.length (G.map (·.1))
  inn : ∀ g ∈ G, InRow v (X + 1) g
  num : v.ownsRow (X + 1) 3 1 vd D.length (icells D)
  low : Below W1.heap.size W1 v
  hX : W1.heap.size ≤ X
section
variable {W1 u v w8 : World} {X : Nat} {vi vd v8 : Value} {G : List (Value × List Val)} {D : List Int}
theorem LimC.to (h : LimC W1 X vi vd G D u) (hb : Below u.heap.size u v) : LimC W1 X vi vd G D v :=
  ⟨h.box.low hb, owns_below h.ins hb, fun g hg => (h.inn g hg).low hb, owns_below h.num hb, below_next h.low hb, h.hX⟩
theorem c3_grown {x y z : Value} {row : Option Nat} (h : Cell3 u X x y z) (hg : u.grownBy v row) (hr : ∀ k, row = some k → X < k) : Cell3 v X x y z := by
  have hb := hg.block X h.lt (fun e => by have := hr X e.symm; omega)
  exact ⟨Nat.lt_of_lt_of_le h.lt hg.size, by rw [World.cell?_of_block (w := u) hb]; exact h.c0, by rw [World.cell?_of_block (w := u) hb]; exact h.c1, by rw [World.cell?_of_block (w := u) hb]; exact h.c2, fun o => by rw [World.frozen?_of_block (w := u) hb]; exact h.fz o⟩
theorem c3_set0 {a b c : Value} (h : Cell3 u X a b c) (y : Value) : Cell3 (u.setCell ⟨X, 0, none⟩ y) X y b c := by
  obtain ⟨hl, c0, c1, c2, fz⟩ := h
  refine ⟨by simpa [World.setCell] using hl, ?_, ?_, ?_, fun o => ?_⟩
  · go_simp
  · go_simp
  · go_simp
  · rw [World.frozen?_setCell]; exact fz o
theorem c3_set1 {a b c : Value} (h : Cell3 u X a b c) (y : Value) : Cell3 (u.setCell ⟨X, 1, none⟩ y) X a y c := by
  obtain ⟨hl, c0, c1, c2, fz⟩ := h
  refine ⟨by simpa [World.setCell] using hl, ?_, ?_, ?_, fun o => ?_⟩
  · go_simp
  · go_simp
  · go_simp
  · rw [World.frozen?_setCell]; exact fz o
theorem keepI {base base' n : Nat} {e e' : TypeId} {size size' n' : Nat} {x y : Value} {xs ys : List Value} (h : u.ownsRow base e size x n xs) (k : u.ownsRow base' e' size' y n' ys) (he : e ≠ e') (hg : u.grownBy v y.ownBlock) : v.ownsRow base e size x n xs :=
  owns_keep h fun j hj => hg.block j (owns_lt h j hj) (fun e0 => owns_apart h k he j hj e0.symm)
theorem LimC.pushI {o : Obj} {g : Value × List Val} (h : LimC W1 X vi vd G D u) (hz : InRow u (X + 1) g) (ho : w8.ownsRow (X + 1) 32 1 v8 (G ++ [g]).length ((G ++ [g]).map (·.1))) (hg : (u.alloc o).grownBy w8 vi.ownBlock) :
    Cell3 w8 X vi vd (.slice none 0 0) ∧ LimC W1 X v8 vd (G ++ [g]) D (w8.setCell ⟨X, 0, none⟩ v8) := by
  have h7 := h.to (below_alloc u o)
  have hz7 := hz.low (below_alloc u o)
  have hk : ∀ k, vi.ownBlock = some k → X + 1 ≤ k := fun k hk => owns_block h.ins k hk
  have hc := c3_grown h7.box hg (fun k hk' => by have := hk k hk'; omega)
  have hin : ∀ q, InRow (u.alloc o) (X + 1) q → InRow (w8.setCell ⟨X, 0, none⟩ v8) (X + 1) q := fun q hq =>
    ⟨ownsRow_setCell_below (keepI hq.1 h7.ins (by decide) hg) (a := ⟨X, 0, none⟩) (Nat.lt_succ_self X) v8, hq.2⟩
  refine ⟨hc, c3_set0 hc v8, ownsRow_setCell_below ho (a := ⟨X, 0, none⟩) (Nat.lt_succ_self X) v8, fun q hq => ?_, ownsRow_setCell_below (keepI h7.num h7.ins (by decide) hg) (a := ⟨X, 0, none⟩) (Nat.lt_succ_self X) v8, (grown_below h7.low h7.low.size hg fun k hk' => by have := hk k hk'; have := h.hX; omega).setCell (by exact h.hX) _, h.hX⟩
  rcases List.mem_append.1 hq with hq | hq
  · exact hin _ (h7.inn q hq)
  · obtain rfl := List.mem_singleton.1 hq
    exact hin _ hz7
theorem LimC.pushD {o : Obj} {z : Int} (h : LimC W1 X vi vd G D u) (ho : w8.ownsRow (X + 1) 3 1 v8 (D ++ [z]).length (icells (D ++ [z]))) (hg : (u.alloc o).grownBy w8 vd.ownBlock) :
    Cell3 w8 X vi vd (.slice none 0 0) ∧ LimC W1 X vi v8 G (D ++ [z]) (w8.setCell ⟨X, 1, none⟩ v8) := by
  have h7 := h.to (below_alloc u o)
  have hk : ∀ k, vd.ownBlock = some k → X + 1 ≤ k := fun k hk => owns_block h.num k hk
  have hc := c3_grown h7.box hg (fun k hk' => by have := hk k hk'; omega)
  exact ⟨hc, c3_set1 hc v8, ownsRow_setCell_below (keepI h7.ins h7.num (by decide) hg) (a := ⟨X, 1, none⟩) (Nat.lt_succ_self X) v8, fun q hq => ⟨ownsRow_setCell_below (keepI (h7.inn q hq).1 h7.num (by decide) hg) (a := ⟨X, 1, none⟩) (Nat.lt_succ_self X) v8, (h7.inn q hq).2⟩, ownsRow_setCell_below ho (a := ⟨X, 1, none⟩) (Nat.lt_succ_self X) v8, (grown_below h7.low h7.low.size hg fun k hk' => by have := hk k hk'; have := h.hX; omega).setCell (by exact h.hX) _, h.hX⟩
end
theorem own1_cell {u : World} {base n : Nat} {e : TypeId} {p : Option Addr} {m cap : Nat} {xs : List Value} (h : u.ownsRow base e 1 (.slice p m cap) n xs) {i : Nat} {x : Value} (hi : xs[i]? = some x) : ∃ c, p = some ⟨c, 0, none⟩ ∧ c < u.heap.size ∧ u.cell? ⟨c, 0 + i, none⟩ = some x := by
  rcases h.2 with ⟨hv, h0⟩ | ⟨g, cap', cur, hv, hg, hh, hcap, hm, hcur, htake⟩
  · have hl := h.1
    rw [h0] at hl
    have : xs = [] := List.eq_nil_of_length_eq_zero (by omega)
    subst this
    simp at hi
  · injection hv with hv1 hv2 hv3
    subst hv1
    refine ⟨g, rfl, (Array.getElem?_eq_some_iff.1 hh).1, ?_⟩
    rw [Nat.zero_add]
    simp only [World.cell?, hh]
    rw [if_neg (by simp)]
    have : cur.toList[i]? = some x := by
      rw [← htake, List.getElem?_take] at hi
      split at hi
      · exact hi
      · cases hi
    simpa using this
/-- The change, as Apply wants it. -/
theorem LimC.chg {W1 v : World} {X : Nat} {pi pd : Option Addr} {ci cd mi md : Nat} {G : List (Value × List Val)} {D : List Int} (h : LimC W1 X (.slice pi mi ci) (.slice pd md cd) G D v) (hG : G.length ≤ 4) (hD : D.length ≤ 4) (hs : ∀ g ∈ G, g.2 = nilR) :
    ChgAt v ⟨pi, ci, G.map (·.2), pd, cd, D, none, 0, []⟩ ∧ mi = G.length ∧ md = D.length := by
  have hgi : ∀ {e : TypeId} {p : Option Addr} {m c n : Nat} {xs : List Value} {b : Nat}, v.ownsRow b e 1 (.slice p m c) n xs → m = n ∧ n ≤ c := by
    intro e p m c n xs b h
    rcases h.2 with ⟨hv, h0⟩ | ⟨g, cap', cur, hv, hg, hh, hcap, -⟩
    · injection hv with h1 h2 h3
      omega
    · injection hv with h1 h2 h3
      omega
  have h1 := hgi h.ins
  have h2 := hgi h.num
  refine ⟨⟨fun i hi => ?_, fun i hi => ?_, fun i hi => by simp at hi, by dsimp only; rw [List.length_map]; omega, by dsimp only; omega, by dsimp only; simp, fun l hl => ?_, (fun u hu => by cases hu), by dsimp only; omega, by dsimp only; simp⟩, h1.1, h2.1⟩
  · dsimp only at hi ⊢
    have hi' : i < G.length := by rw [List.length_map] at hi; exact hi
    have hg := h.inn _ (List.getElem_mem hi')
    obtain ⟨hv, hr, hn⟩ := owned_shape hg.1
    obtain ⟨c, hp, hc, hcell⟩ := own1_cell h.ins (i := i) (x := G[i].1) (by simp [hi'])
    have e : rAt (G.map (·.2)) i = G[i].2 := by rw [rAt_get hi, List.getElem_map]
    rw [e]
    exact ⟨c, 0, rowP G[i].1, rowC G[i].1, hp, hc, by rw [← hv]; exact hcell, hr, hg.2, hn⟩
  · dsimp only at hi ⊢
    obtain ⟨c, hp, hc, hcell⟩ := own1_cell h.num (i := i) (x := .int .i64 (iAt D i)) (by unfold icells; rw [List.getElem?_map, List.getElem?_eq_getElem hi, iAt_get hi]; rfl)
    exact ⟨c, 0, hp, hc, hcell⟩
  · obtain ⟨g, hg, rfl⟩ := List.mem_map.1 hl
    rw [hs g hg]; exact nilR_sized
theorem lim_apply {w : World} {Z : Nat} {pr : Option Addr} {cr : Nat} (hT : TabAt w ⟨⟨#[108, 111, 103]⟩, some ⟨Z, 0, none⟩, 2, 2, colLog, 101, pr, cr, limR 100⟩) {pi pd : Option Addr} {ci cd mi md : Nat} {I : List (List Val)} {D : List Int} (hC : ChgAt w ⟨pi, ci, I, pd, cd, D, none, 0, []⟩) (li : mi = I.length) (ld : md = D.length) {E : Int} (hE : applyE ⟨#[108, 111, 103]⟩ 2 colLog 101 (limR 100) I D [] = E) :
    Calls Try.prog 12 #[.agg #[.string ⟨#[108, 111, 103]⟩, .slice (some ⟨Z, 0, none⟩) 2 2, .int .i64 101, .slice pr 100 cr], .agg #[.slice pi mi ci, .slice pd md cd, .slice none 0 0]] w fun e w' => ∃ (nm : ByteArray) (pc : Option Addr) (n cc : Nat) (nx : Int) (q : Option Addr) (m c2 : Nat), e = .returned (.tuple #[.agg #[.string nm, .slice pc n cc, .int .i64 nx, .slice q m c2], .int .i64 E]) ∧ Below w.heap.size w w' ∧ (E = 0 → m = (afterR 101 (limR 100) I D []).length) := by
  subst li ld
  refine (kapply_at ⟨#[108, 111, 103]⟩ (some ⟨Z, 0, none⟩) 2 2 colLog 101 pr cr (limR 100) pi ci I pd cd D none 0 [] w hT hC).mono ?_
  rintro e w' ⟨⟨nm, pc, n, cc, f, nx, q, c2, R⟩, rfl, -, hb, hs⟩
  dsimp only at hs
  rw [hE] at hs
  refine ⟨nm, pc, n, cc, nx, q, R.length, c2, by dsimp only; rw [hE]; rfl, hb, fun h0 => ?_⟩
  rcases hs with ⟨-, -, -, -, -, h2⟩ | ⟨h1, -⟩
  · rw [h2]
  · exact absurd h0 h1
set_option maxHeartbeats 8000000 in
theorem limit_walk (w : World) (n : Int) : Calls Try.prog 5 #[.int .i64 n] w fun e w' => e = .returned (.bool true) ∧ Below w.heap.size w w' := by
  have hm0 := (modI_range n 5 (by decide)).1
  have hm1 := (modI_range n 5 (by decide)).2
  obtain ⟨N, hN⟩ : ∃ N : Nat, modI n 5 = N := ⟨(modI n 5).toNat, by omega⟩
  have hN4 : N ≤ 4 := by omega
  have HN := Lib.hid hN
  clear hN hm0 hm1
  go_enter Try.func5, Try.ntmps5
  go_wp2_with fail
  refine (schemaLog_any _).mono ?_
  rintro e w2 ⟨Z, rfl, hZ, hZl, hb2⟩
  unfold schV
  have hbx := below_alloc w2 (.cells #[.string ⟨#[108, 111, 103]⟩, .slice (some ⟨Z, 0, none⟩) 2 2, .int .i64 101, .slice none 0 0] 29)
  have HZ := Lib.hid (hZ.low hbx)
  have HZX : Hid (Z ≠ w2.heap.size) := Lib.hid (by have := (hZ.at0 (i := 0) (by decide)).1; omega)
  have HB := Lib.hid (below_next hb2 hbx)
  have HXB : Hid (w.heap.size ≤ w2.heap.size) := Lib.hid hb2.size
  have HW : Hid (OutW w2.heap.size (w2.alloc (.cells #[.string ⟨#[108, 111, 103]⟩, .slice (some ⟨Z, 0, none⟩) 2 2, .int .i64 101, .slice none 0 0] 29)) ⟨#[108, 111, 103]⟩ (some ⟨Z, 0, none⟩) 2 2 101 (.slice none 0 0) [] (w2.alloc (.cells #[.string ⟨#[108, 111, 103]⟩, .slice (some ⟨Z, 0, none⟩) 2 2, .int .i64 101, .slice none 0 0] 29))) :=
    Lib.hid ⟨cell4_new _ _ _ _ _ _, TOwn.nil _ _, StepT.refl _ _, by rw [size_alloc]; omega⟩
  clear hZ hZl hb2 hbx
  go_upto_region 2 with (fail)
  generalize World.alloc _ _ = W2 at HZ HB HW ⊢
  generalize w2.heap.size = X at HW HZX HXB ⊢
  go_wp2_with fail
  go_loopw [4] (fun i v => ∃ (k : Nat) (vr : Value) (G : List GRow), i = .int .i64 ((k : Int) + 1) ∧ k ≤ 100 ∧ tabR G = limR k ∧ OutW X W2 ⟨#[108, 111, 103]⟩ (some ⟨Z, 0, none⟩) 2 2 101 vr G v) (fun i _ => 101 - (intOf i).toNat)
  case atStart => exact ⟨0, _, [], rfl, Nat.zero_le _, rfl, HW.out⟩
  clear HW
  case round =>
    obtain ⟨k, vr, G, rfl, hk, hR, hw⟩ := hrel
    have hG : G.length = k := by have := congrArg List.length hR; rw [tabR_length, limR_length] at this; exact this
    have HGL := Lib.hid hG
    have HR := Lib.hid hR
    have HW := Lib.hid hw
    clear hG hR hw
    by_cases hkn : k + 1 ≤ 100
    · have hle : decide ((k : Int) + 1 ≤ 100) = true := decide_eq_true (by omega)
      have hwr3 : IntKind.i64.wrap ((k : Int) + 1 + 1) = (k : Int) + 1 + 1 := i64w (by omega) (by omega)
      have HW1 := Lib.hid (HW.out.low (below_alloc wr nilVs))
      have HW2 := Lib.hid (HW1.out.low (below_alloc _ (.cells #[.int .i64 ((k : Int) + 1), .slice (some ⟨wr.heap.size, 0, none⟩) 2 2] 34)))
      have HC := Lib.hid ((cell2_new (wr.alloc nilVs) (.int .i64 ((k : Int) + 1)) (.slice (some ⟨wr.heap.size, 0, none⟩) 2 2) 34).at (size_alloc _ _))
      have HLO : Hid (W2.heap.size ≤ ((wr.alloc nilVs).alloc (.cells #[.int .i64 ((k : Int) + 1), .slice (some ⟨wr.heap.size, 0, none⟩) 2 2] 34)).heap.size) := Lib.hid HW2.out.step.size
      obtain ⟨xl, x0, x1, x2, x3, xf⟩ := HW.out.out
      go_wp2_with (at_builtin; refine wpList_append_trow rfl (.tmp 19) (.tmp 25) rfl W2.heap.size vr G (by rfl) HW2.out.own.own (wr.heap.size + 1) ((k : Int) + 1) (.slice (some ⟨wr.heap.size, 0, none⟩) 2 2) nilR (by rfl) HC.out.c0 HC.out.c1 rfl (by have := HGL.out; omega) HLO.out ?_; intro v8 w8 hown8 hg8; obtain ⟨⟨zl, z0, z1, z2, z3, zf⟩, hs8⟩ := HW1.out.push (g := ((k : Int) + 1, .slice (some ⟨wr.heap.size, 0, none⟩) 2 2, nilR)) (nilR_row wr W2.heap.size HW.out.step.size) hown8 hg8; obtain ⟨p8, c8, e8⟩ := hs8.own.ex; subst e8; rw [List.length_append, List.length_singleton] at hs8; (have HS8 := Lib.hid hs8); clear hs8 hown8 hg8 HW HW1 HW2 HC HLO xl x0 x1 x2 x3 xf)
      go_roundw
      case rel => exact ⟨k + 1, _, G ++ [((k : Int) + 1, .slice (some ⟨wr.heap.size, 0, none⟩) 2 2, nilR)], by go_num, by omega, by rw [tabR_append, HR.out, limR_succ]; rfl, HS8.out⟩
      case measure => simp [intOf]; omega
    · obtain rfl : k = 100 := by omega
      have hle : decide (((100 : Nat) : Int) + 1 ≤ 100) = false := by decide
      obtain ⟨p, cv, hvr⟩ := HW.out.own.ex
      rw [HGL.out] at hvr
      subst hvr
      have hrows := HW.out.own.rows
      rw [HR.out] at hrows
      have hcols : ColsAt wr (some ⟨Z, 0, none⟩) 2 colLog := HZ.out.step HW.out.step (fun q hq => by cases hq; exact HZX.out)
      have HT : Hid (TabAt wr ⟨⟨#[108, 111, 103]⟩, some ⟨Z, 0, none⟩, 2, 2, colLog, 101, p, cv, limR 100⟩) := Lib.hid ⟨(by decide : (3 : Nat) ≤ 9223372036854775807), (by decide : (2 : Nat) ≤ 9223372036854775807), hcols, hrows, by dsimp only; rw [limR_length]; omega, fun r hr => limR_sized 100 r hr, (by decide : (101 : Int) ≤ 9223372036854775807)⟩
      have HX := Lib.hid HW.out.out
      have HBW : Hid (Below w.heap.size w wr) := Lib.hid (HB.out.trans (HW.out.step.below HXB.out HB.out.size))
      clear HW HR HGL HZ HZX HB HXB hrows hcols hkn hk
      go_wp2_with fail
      refine (mod_any n 5 _ (by decide) (by decide)).mono ?_
      rintro e w1 ⟨rfl, rfl⟩
      rw [HN.out]
      have HLC : Hid (LimC w1 w1.heap.size (.slice none 0 0) (.slice none 0 0) [] [] (w1.alloc (.cells #[.slice none 0 0, .slice none 0 0, .slice none 0 0] 46))) :=
        Lib.hid ⟨cell3_new _ _ _ _ _, ⟨rfl, Or.inl ⟨rfl, rfl⟩⟩, fun g hg => (by cases hg), ⟨rfl, Or.inl ⟨rfl, rfl⟩⟩, below_alloc _ _, Nat.le_refl _⟩
      clear HN
      go_upto_region 8 with (fail)
      generalize World.alloc _ _ = W4 at HLC ⊢
      generalize w1.heap.size = Y at HLC ⊢
      go_wp2_with fail
      go_loopw [6] (fun i v => ∃ (k : Nat) (vi : Value) (G : List (Value × List Val)), i = .int .i64 k ∧ k ≤ N ∧ G.length = k ∧ (∀ g ∈ G, g.2 = nilR) ∧ LimC w1 Y vi (.slice none 0 0) G [] v) (fun i _ => N - (intOf i).toNat)
      case atStart => exact ⟨0, _, [], rfl, Nat.zero_le _, rfl, fun g hg => (by cases hg), HLC.out⟩
      clear HLC
      case round =>
        obtain ⟨k, vi, G, rfl, hk, hG, hnil, hlc⟩ := hrel
        have HGL := Lib.hid hG
        have HNL := Lib.hid hnil
        have HLC := Lib.hid hlc
        clear hG hnil hlc
        by_cases hkn : k < N
        · have hle : decide ((k : Int) < N) = true := decide_eq_true (by omega)
          have HL1 := Lib.hid (HLC.out.to (below_alloc wr nilVs))
          have HL2 := Lib.hid (HL1.out.to (below_alloc _ (.cells #[.slice (some ⟨wr.heap.size, 0, none⟩) 2 2] 32)))
          have HIN : Hid (InRow (wr.alloc nilVs) (Y + 1) (.slice (some ⟨wr.heap.size, 0, none⟩) 2 2, nilR)) := Lib.hid (nilR_row wr (Y + 1) HLC.out.box.lt)
          have HLO : Hid (Y + 1 ≤ ((wr.alloc nilVs).alloc (.cells #[.slice (some ⟨wr.heap.size, 0, none⟩) 2 2] 32)).heap.size) := Lib.hid HL2.out.box.lt
          have HNW := Lib.hid (head7_news wr nilVs (.slice (some ⟨wr.heap.size, 0, none⟩) 2 2) 32)
          obtain ⟨i0, hi0, hz0, hz1, hz2⟩ := info_parts info_row7
          obtain ⟨xl, x0, x1, x2, xf⟩ := HLC.out.box
          go_wp2_with (at_builtin; refine wpList_append_own _ rfl (.tmp 36) (.tmp 40) 43 rfl (Y + 1) 32 i0 _ 1 24 Try.underlying43 hi0 hz0 hz1 hz2 rfl (by decide) vi G.length (G.map (·.1)) (by rfl) HL2.out.ins ⟨wr.heap.size + 1, 0, none⟩ 1 1 [.slice (some ⟨wr.heap.size, 0, none⟩) 2 2] (by rfl) rfl HNW.out (by intro u hu; obtain rfl := List.mem_singleton.1 hu; rfl) (by have := HGL.out; unfold maxLen; omega) (by have := HGL.out; omega) HLO.out ?_; intro v8 w8 hown8 hg8 _; obtain ⟨⟨zl, z0, z1, z2, zf⟩, hs8⟩ := HL1.out.pushI HIN.out (by rw [List.length_append, List.map_append]; exact hown8) hg8; obtain ⟨p8, c8, e8⟩ := own_ex hown8; subst e8; (have HS8 := Lib.hid hs8); clear hs8 hown8 hg8 HLC HL1 HL2 HIN HLO HNW xl x0 x1 x2 xf)
          go_roundw
          case rel => exact ⟨k + 1, _, G ++ [(.slice (some ⟨wr.heap.size, 0, none⟩) 2 2, nilR)], by go_num, by omega, by rw [List.length_append, HGL.out]; rfl, fun g hg => (by
            rcases List.mem_append.1 hg with hg | hg
            · exact HNL.out g hg
            · obtain rfl := List.mem_singleton.1 hg; rfl), HS8.out⟩
          case measure => simp [intOf]; omega
        · obtain rfl : k = N := by omega
          have hle : decide ((k : Int) < k) = false := decide_eq_false (by omega)
          obtain ⟨pi, ci, hvi⟩ := own_ex HLC.out.ins
          rw [HGL.out] at hvi
          subst hvi
          obtain ⟨E1, hE1⟩ : ∃ E : Int, E = if k = 0 then 0 else 10 := ⟨_, rfl⟩
          have HE1 := Lib.hid hE1
          have HAE := Lib.hid ((limE1 k hN4).trans hE1.symm)
          have hGI : G.map (·.2) = limI k := by
            refine List.eq_replicate_iff.2 ⟨by rw [List.length_map]; exact HGL.out, fun l hl => ?_⟩
            obtain ⟨g, hg, rfl⟩ := List.mem_map.1 hl
            exact HNL.out g hg
          have HGI := Lib.hid hGI
          have hchg := (HLC.out.chg (by have := HGL.out; omega) (by decide) HNL.out).1
          rw [hGI] at hchg
          have HCH := Lib.hid hchg
          have HLI : Hid (k = (limI k).length) := Lib.hid (by unfold limI; rw [List.length_replicate])
          have HTL := Lib.hid (HT.out.low HLC.out.low)
          have HXL := Lib.hid (HX.out.low HLC.out.low)
          clear hE1 hGI hchg
          obtain ⟨xl, x0, x1, x2, x3, -⟩ := HXL.out
          obtain ⟨yl, y0, y1, y2, -⟩ := HLC.out.box
          go_wp2_with fail
          refine (lim_apply HTL.out HCH.out HLI.out rfl HAE.out).mono ?_
          rintro e w5 ⟨nm, pc, nn, cc, nx, q, m, c2, rfl, hb5, -⟩
          have HL5 := Lib.hid ((HLC.out.to hb5).to (below_alloc w5 (.cells #[.string nm, .slice pc nn cc, .int .i64 nx, .slice q m c2] 29)))
          clear hb5 HCH HTL HXL HLC HAE xl x0 x1 x2 x3 yl y0 y1 y2
          go_upto_region 13 with (fail)
          generalize World.alloc _ _ = W6 at HL5 ⊢
          generalize w5.heap.size = V at *
          go_wp2_with fail
          go_loopw [9] (fun i v => ∃ (j : Nat) (vd : Value), i = .int .i64 j ∧ j ≤ k ∧ LimC w1 Y (.slice pi k ci) vd G (limD j) v) (fun i _ => k - (intOf i).toNat)
          case atStart => exact ⟨0, _, rfl, Nat.zero_le _, HL5.out⟩
          clear HL5
          case round =>
            obtain ⟨j, vd, rfl, hj, hlc⟩ := hrel
            have HLC := Lib.hid hlc
            clear hlc
            by_cases hjn : j < k
            · have hlej : decide ((j : Int) < k) = true := decide_eq_true (by omega)
              have hwj : IntKind.i64.wrap (10 + (j : Int)) = 10 + (j : Int) := i64w (by omega) (by omega)
              have HL2 := Lib.hid (HLC.out.to (below_alloc wr (.cells #[.int .i64 (10 + (j : Int))] 3)))
              have HLO : Hid (Y + 1 ≤ (wr.alloc (.cells #[.int .i64 (10 + (j : Int))] 3)).heap.size) := Lib.hid HL2.out.box.lt
              have HNW := Lib.hid (head1_news wr (.int .i64 (10 + (j : Int))) 3)
              have HDL : Hid ((limD j).length = j) := Lib.hid (by unfold limD; simp)
              have HDS : Hid (limD (j + 1) = limD j ++ [10 + (j : Int)]) := Lib.hid (by unfold limD; rw [List.range_succ, List.map_append]; rfl)
              obtain ⟨i0, hi0, hz0, hz1, hz2⟩ := info_parts info_int7
              obtain ⟨xl, x0, x1, x2, xf⟩ := HLC.out.box
              go_wp2_with (at_builtin; refine wpList_append_own _ rfl (.tmp 55) (.tmp 58) 42 rfl (Y + 1) 3 i0 _ 1 8 Try.underlying42 hi0 hz0 hz1 hz2 rfl (by decide) vd (limD j).length (icells (limD j)) (by rfl) HL2.out.num ⟨wr.heap.size, 0, none⟩ 1 1 [.int .i64 (10 + (j : Int))] (by rfl) rfl HNW.out (by intro u hu; obtain rfl := List.mem_singleton.1 hu; rfl) (by have := HDL.out; unfold maxLen; omega) (by have := HDL.out; omega) HLO.out ?_; intro v8 w8 hown8 hg8 _; obtain ⟨⟨zl, z0, z1, z2, zf⟩, hs8⟩ := HLC.out.pushD (z := 10 + (j : Int)) (by rw [List.length_append]; unfold icells at hown8 ⊢; rw [List.map_append]; exact hown8) hg8; obtain ⟨p8, c8, e8⟩ := own_ex hown8; subst e8; (have HS8 := Lib.hid hs8); clear hs8 hown8 hg8 HLC HL2 HLO HNW xl x0 x1 x2 xf)
              go_roundw
              case rel => exact ⟨j + 1, _, by go_num, by omega, by rw [HDS.out]; exact HS8.out⟩
              case measure => simp [intOf]; omega
            · obtain rfl : j = k := by omega
              have hlej : decide ((j : Int) < j) = false := decide_eq_false (by omega)
              have HDL : Hid ((limD j).length = j) := Lib.hid (by unfold limD; simp)
              obtain ⟨pd, cd, hvd⟩ := own_ex HLC.out.num
              rw [HDL.out] at hvd
              subst hvd
              have hchg := (HLC.out.chg (by have := HGL.out; omega) (by have := HDL.out; omega) HNL.out).1
              rw [HGI.out] at hchg
              have HCH := Lib.hid hchg
              have HTL := Lib.hid (HT.out.low HLC.out.low)
              have HXL := Lib.hid (HX.out.low HLC.out.low)
              have HBL := Lib.hid (below_next HBW.out HLC.out.low)
              have HE2 := Lib.hid (limE2 j hN4)
              clear hchg HX HT HBW HGI HNL
              obtain ⟨xl, x0, x1, x2, x3, -⟩ := HXL.out
              obtain ⟨yl, y0, y1, y2, -⟩ := HLC.out.box
              go_wp2_with fail
              refine (lim_apply HTL.out HCH.out HLI.out HDL.out.symm HE2.out.1).mono ?_
              rintro e w7 ⟨nm2, pc2, nn2, cc2, nx2, q2, m2, c3, rfl, hb7, hm2⟩
              have hm3 := (hm2 rfl).trans HE2.out.2
              clear hm2
              subst hm3
              have HX7 := Lib.hid (cell4_new w7 (.string nm2) (.slice pc2 nn2 cc2) (.int .i64 nx2) (.slice q2 100 c3) 29)
              have HB7 := Lib.hid (below_new (below_next HBL.out hb7) (.cells #[.string nm2, .slice pc2 nn2 cc2, .int .i64 nx2, .slice q2 100 c3] 29))
              clear hb7 HBL HTL HXL HCH HLC HE2 xl x0 x1 x2 x3 yl y0 y1 y2 HGL HLI HDL
              go_upto_region 18 with (fail)
              generalize World.alloc _ _ = W8 at HX7 HB7 ⊢
              generalize w7.heap.size = V2 at HX7 ⊢
              obtain ⟨xl, x0, x1, x2, x3, -⟩ := HX7.out
              by_cases h0 : j = 0
              · obtain rfl : E1 = 0 := by rw [HE1.out, if_pos h0]
                subst h0
                go_wp2_with fail
                refine (known7_any _).mono ?_
                rintro e w9 ⟨rfl, hb9⟩
                have HB9 := Lib.hid (below_next HB7.out hb9)
                clear hb9 HB7 xl x0 x1 x2 x3 HX7
                go_wp2
                go_ret
                exact ⟨rfl, HB9.out⟩
              · obtain rfl : E1 = 10 := by rw [HE1.out, if_neg h0]
                have g0 : ((j : Int) == 0) = false := beq_eq_false_iff_ne.2 (by omega)
                have g1 : 0 < j := by omega
                have g2 : decide (0 < j) = true := decide_eq_true g1
                go_wp2_with fail
                refine (known7_any _).mono ?_
                rintro e w9 ⟨rfl, hb9⟩
                have HB9 := Lib.hid (below_next HB7.out hb9)
                clear hb9 HB7 xl x0 x1 x2 x3 HX7
                go_wp2
                go_ret
                exact ⟨rfl, HB9.out⟩
end Go.Proofs.Ytgaihglploedaaa
