/-
  Several texts in one.
-/
import Derived.Test.YtlnbpobipmejfaaGreatDoorPk06
import Derived.Test.YtlnbpobipmejfaaGreatDoorPk05
import Derived.Laws.CopyOwn
import Derived.Deep.RegionLaw
import Derived.Deep.AppendLies
import Derived.Lib.SmallJoins
import Derived.Deep.RegionHeld3
/-
  Columns in memory; Find and KeyColumn, of the program and of the reference.
-/
namespace Go.Proofs.YtlnbpobipmejfaaGreatDoor
set_option maxRecDepth 100000
open Go.RowKit
variable {ls : List Nat}

/-- A box of two cells that may be written. -/
structure Cell2 (u : World) (X : Nat) (x y : Value) : Prop where
  lt : X < u.heap.size
  c0 : u.cell? ⟨X, 0, none⟩ = some x
  c1 : u.cell? ⟨X, 1, none⟩ = some y
  fz : ∀ o, u.frozen? ⟨X, o, none⟩ = false
theorem Cell2.low {u v : World} {X : Nat} {x y : Value} (h : Cell2 u X x y) (hb : Below u.heap.size u v) : Cell2 v X x y :=
  ⟨Nat.lt_of_lt_of_le h.lt hb.size, by rw [hb.cell (by exact h.lt)]; exact h.c0, by rw [hb.cell (by exact h.lt)]; exact h.c1, fun o => by rw [hb.frozen (by exact h.lt)]; exact h.fz o⟩
theorem cell2_new (w : World) (x y : Value) (t : TypeId) : Cell2 (w.alloc (.cells #[x, y] t)) w.heap.size x y := by
  refine ⟨by simp, ?_, ?_, fun o => ?_⟩
  all_goals go_simp
/-- A box of four cells that may be written. -/
structure Cell4 (u : World) (X : Nat) (a b c d : Value) : Prop where
  lt : X < u.heap.size
  c0 : u.cell? ⟨X, 0, none⟩ = some a
  c1 : u.cell? ⟨X, 1, none⟩ = some b
  c2 : u.cell? ⟨X, 2, none⟩ = some c
  c3 : u.cell? ⟨X, 3, none⟩ = some d
  fz : ∀ o, u.frozen? ⟨X, o, none⟩ = false
theorem Cell4.low {u v : World} {X : Nat} {a b c d : Value} (h : Cell4 u X a b c d) (hb : Below u.heap.size u v) : Cell4 v X a b c d :=
  ⟨Nat.lt_of_lt_of_le h.lt hb.size, by rw [hb.cell (by exact h.lt)]; exact h.c0, by rw [hb.cell (by exact h.lt)]; exact h.c1, by rw [hb.cell (by exact h.lt)]; exact h.c2, by rw [hb.cell (by exact h.lt)]; exact h.c3, fun o => by rw [hb.frozen (by exact h.lt)]; exact h.fz o⟩
theorem cell4_new (w : World) (a b c d : Value) (t : TypeId) : Cell4 (w.alloc (.cells #[a, b, c, d] t)) w.heap.size a b c d := by
  refine ⟨by simp, ?_, ?_, ?_, ?_, fun o => ?_⟩
  all_goals go_simp
theorem Cell2.at {u : World} {X Y : Nat} {x y : Value} (h : Cell2 u X x y) (e : X = Y) : Cell2 u Y x y := e ▸ h
theorem Cell4.at {u : World} {X Y : Nat} {a b c d : Value} (h : Cell4 u X a b c d) (e : X = Y) : Cell4 u Y a b c d := e ▸ h

/-- The cells of a column. -/
def colV (c : Col) : Value := .agg #[.string c.nm, .int .i64 c.ty, .bool c.nn, .bool c.key]
def schV (nm : ByteArray) (p : Option Addr) (n cap : Nat) : Value := .agg #[.string nm, .slice p n cap]
/-- A slice of columns. -/
def ColsAt (w : World) (p : Option Addr) (n : Nat) (f : Nat → Col) : Prop :=
  ∀ i, i < n → ∃ (c o : Nat), p = some ⟨c, o, none⟩ ∧ c < w.heap.size ∧ (f i).nm.size ≤ 9223372036854775807
    ∧ w.cell? ⟨c, o + i * 4, none⟩ = some (.string (f i).nm) ∧ w.cell? ⟨c, o + i * 4 + 1, none⟩ = some (.int .i64 (f i).ty) ∧ w.cell? ⟨c, o + i * 4 + 2, none⟩ = some (.bool (f i).nn) ∧ w.cell? ⟨c, o + i * 4 + 3, none⟩ = some (.bool (f i).key)
theorem ColsAt.keep {u v : World} {p : Option Addr} {n : Nat} {f : Nat → Col} (h : ColsAt u p n f) (hz : u.heap.size ≤ v.heap.size) (hk : ∀ a, p = some a → v.heap[a.block]? = u.heap[a.block]?) : ColsAt v p n f := by
  intro i hi
  obtain ⟨c, o, hp, hc, hs, h0, h1, h2, h3⟩ := h i hi
  have hb : v.heap[c]? = u.heap[c]? := hk _ hp
  exact ⟨c, o, hp, by omega, hs, by rw [World.cell?_of_block (w := u) hb]; exact h0, by rw [World.cell?_of_block (w := u) hb]; exact h1, by rw [World.cell?_of_block (w := u) hb]; exact h2, by rw [World.cell?_of_block (w := u) hb]; exact h3⟩
theorem ColsAt.low {u v : World} {p : Option Addr} {n : Nat} {f : Nat → Col} (h : ColsAt u p n f) (hb : Below u.heap.size u v) : ColsAt v p n f := by
  intro i hi
  obtain ⟨c, o, hp, hc, hs, h0, h1, h2, h3⟩ := h i hi
  have hk := hb.block c hc
  exact ⟨c, o, hp, Nat.lt_of_lt_of_le hc hb.size, hs, by rw [World.cell?_of_block (w := u) hk]; exact h0, by rw [World.cell?_of_block (w := u) hk]; exact h1, by rw [World.cell?_of_block (w := u) hk]; exact h2, by rw [World.cell?_of_block (w := u) hk]; exact h3⟩
theorem below_next {w u v : World} (h : Below w.heap.size w u) (k : Below u.heap.size u v) : Below w.heap.size w v := h.trans (k.mono h.size)
theorem below_new {w u : World} (h : Below w.heap.size w u) (o : Obj) : Below w.heap.size w (u.alloc o) := h.alloc h.size o
theorem four_one {w w' : World} {a b c d : Value} {t : TypeId} (hb : Below (w.alloc (.cells #[a, b, c, d] t)).heap.size (w.alloc (.cells #[a, b, c, d] t)) w') : Cell4 w' w.heap.size a b c d ∧ Below w.heap.size w w' :=
  ⟨(cell4_new _ _ _ _ _ _).low hb, Below.of_alloc hb⟩
theorem two_one {w w' : World} {a b : Value} {t : TypeId} (hb : Below (w.alloc (.cells #[a, b] t)).heap.size (w.alloc (.cells #[a, b] t)) w') : Cell2 w' w.heap.size a b ∧ Below w.heap.size w w' :=
  ⟨(cell2_new _ _ _ _).low hb, Below.of_alloc hb⟩
theorem cols_at {u : World} {X Y n : Nat} {f : Nat → Col} (e : X = Y) (h : ColsAt u (some ⟨X, 0, none⟩) n f) : ColsAt u (some ⟨Y, 0, none⟩) n f := e ▸ h
theorem ColsAt.set {u : World} {p : Option Addr} {n : Nat} {f : Nat → Col} (h : ColsAt u p n f) {a : Addr} (hp : ∀ q, p = some q → q.block ≠ a.block) (v : Value) : ColsAt (u.setCell a v) p n f :=
  h.keep (by simp [World.setCell]) fun q hq => Below.heap_setCell _ _ _ _ (hp q hq)
theorem cell2_set {u : World} {X : Nat} {a b : Value} (h : Cell2 u X a b) (x y : Value) : Cell2 ((u.setCell ⟨X, 0, none⟩ x).setCell ⟨X, 1, none⟩ y) X x y := by
  obtain ⟨hl, c0, c1, fz⟩ := h
  refine ⟨by simpa [World.setCell] using hl, ?_, ?_, fun o => ?_⟩
  · go_simp
  · go_simp
  · rw [World.frozen?_setCell, World.frozen?_setCell]; exact fz o

set_option maxHeartbeats 1000000 in
theorem keycol_any (nm : ByteArray) (p : Option Addr) (n cap : Nat) (f : Nat → Col) (w : World) (hn : n ≤ 9223372036854775807) (hC : ColsAt w p n f) :
    Calls Tryz.prog 79 #[.agg #[.string nm, .slice p n cap]] w fun e w' => e = .returned (.int .i64 (findKey f n)) ∧ Below w.heap.size w w' := by
  have HC := Lib.hid hC
  clear hC
  go_enter Tryz.func79, Tryz.ntmps79
  go_wp2_with fail
  go_loopw [8] (fun i v => ∃ k : Nat, k ≤ n ∧ i = .int .i64 k ∧ (∀ j, j < k → (f j).key = false) ∧ Below w.heap.size w v) (fun i _ => n - (intOf i).toNat)
  case atStart => exact ⟨0, Nat.zero_le _, rfl, fun j hj => by omega, below_new (Below.refl _ _) _⟩
  case round =>
    obtain ⟨k, hk, rfl, ha, hb⟩ := hrel
    have HA := Lib.hid ha
    have HB := Lib.hid hb
    clear ha hb
    by_cases hlt : k < n
    · have hlt' : decide ((k : Int) < n) = true := decide_eq_true (by omega)
      obtain ⟨c, o, rfl, hc, hs, h0, h1, h2, h3⟩ := HC.out.low HB.out k hlt
      cases hkey : (f k).key
      · have HK := Lib.hid hkey
        rw [hkey] at h3
        clear hkey
        go_wp2
        go_roundw
        case rel => exact ⟨k + 1, by omega, by go_num, all_succ HA.out HK.out, below_new HB.out _⟩
        case measure => simp [intOf]; omega
      · have HK := Lib.hid hkey
        rw [hkey] at h3
        clear hkey
        go_wp2
        go_ret
        exact ⟨ret_int (findI_hit (P := fun i => (f i).key) hlt HK.out HA.out).symm, below_new HB.out _⟩
    · have hlt' : decide ((k : Int) < n) = false := decide_eq_false (by omega)
      obtain rfl : k = n := by omega
      go_wp2
      go_ret
      exact ⟨ret_int (findI_none (P := fun i => (f i).key) HA.out).symm, HB.out⟩
set_option maxHeartbeats 1000000 in
theorem find_any (nm s : ByteArray) (p : Option Addr) (n cap : Nat) (f : Nat → Col) (w : World) (hn : n ≤ 9223372036854775807) (hC : ColsAt w p n f) :
    Calls Tryz.prog 81 #[.agg #[.string nm, .slice p n cap], .string s] w fun e w' => e = .returned (.int .i64 (findName f n s)) ∧ Below w.heap.size w w' := by
  have HC := Lib.hid hC
  clear hC
  go_enter Tryz.func81, Tryz.ntmps81
  go_wp2_with fail
  go_loopw [10] (fun i v => ∃ k : Nat, k ≤ n ∧ i = .int .i64 k ∧ (∀ j, j < k → eqT (f j).nm s = false) ∧ Below w.heap.size w v) (fun i _ => n - (intOf i).toNat)
  case atStart => exact ⟨0, Nat.zero_le _, rfl, fun j hj => by omega, below_new (Below.refl _ _) _⟩
  case round =>
    obtain ⟨k, hk, rfl, ha, hb⟩ := hrel
    have HA := Lib.hid ha
    have HB := Lib.hid hb
    clear ha hb
    by_cases hlt : k < n
    · have hlt' : decide ((k : Int) < n) = true := decide_eq_true (by omega)
      obtain ⟨c, o, rfl, hc, hs, h0, h1, h2, h3⟩ := HC.out.low HB.out k hlt
      cases he : eqT (f k).nm s
      · have HK := Lib.hid he
        have he' : ((f k).nm.toList == s.toList) = false := he
        clear he
        go_wp2
        go_roundw
        case rel => exact ⟨k + 1, by omega, by go_num, all_succ HA.out HK.out, below_new HB.out _⟩
        case measure => simp [intOf]; omega
      · have HK := Lib.hid he
        have he' : ((f k).nm.toList == s.toList) = true := he
        clear he
        go_wp2
        go_ret
        exact ⟨ret_int (findI_hit (P := fun i => eqT (f i).nm s) hlt HK.out HA.out).symm, below_new HB.out _⟩
    · have hlt' : decide ((k : Int) < n) = false := decide_eq_false (by omega)
      obtain rfl : k = n := by omega
      go_wp2
      go_ret
      exact ⟨ret_int (findI_none (P := fun i => eqT (f i).nm s) HA.out).symm, HB.out⟩
set_option maxHeartbeats 1000000 in
theorem rkeycol_any (nm : ByteArray) (p : Option Addr) (n cap : Nat) (f : Nat → Col) (w : World) (hn : n ≤ 9223372036854775807) (hC : ColsAt w p n f) :
    Calls Tryz.prog 74 #[.agg #[.string nm, .slice p n cap]] w fun e w' => e = .returned (.int .i64 (findKey f n)) ∧ Below w.heap.size w w' := by
  have HC := Lib.hid hC
  clear hC
  go_enter Tryz.func74, Tryz.ntmps74
  go_wp2_with fail
  go_loopw [8] (fun i v => ∃ k : Nat, k ≤ n ∧ i = .int .i64 k ∧ (∀ j, j < k → (f j).key = false) ∧ Below w.heap.size w v) (fun i _ => n - (intOf i).toNat)
  case atStart => exact ⟨0, Nat.zero_le _, rfl, fun j hj => by omega, below_new (Below.refl _ _) _⟩
  case round =>
    obtain ⟨k, hk, rfl, ha, hb⟩ := hrel
    have HA := Lib.hid ha
    have HB := Lib.hid hb
    clear ha hb
    by_cases hlt : k < n
    · have hlt' : decide ((k : Int) < n) = true := decide_eq_true (by omega)
      obtain ⟨c, o, rfl, hc, hs, h0, h1, h2, h3⟩ := HC.out.low HB.out k hlt
      cases hkey : (f k).key
      · have HK := Lib.hid hkey
        rw [hkey] at h3
        clear hkey
        go_wp2
        go_roundw
        case rel => exact ⟨k + 1, by omega, by go_num, all_succ HA.out HK.out, below_new HB.out _⟩
        case measure => simp [intOf]; omega
      · have HK := Lib.hid hkey
        rw [hkey] at h3
        clear hkey
        go_wp2
        go_ret
        exact ⟨ret_int (findI_hit (P := fun i => (f i).key) hlt HK.out HA.out).symm, below_new HB.out _⟩
    · have hlt' : decide ((k : Int) < n) = false := decide_eq_false (by omega)
      obtain rfl : k = n := by omega
      go_wp2
      go_ret
      exact ⟨ret_int (findI_none (P := fun i => (f i).key) HA.out).symm, HB.out⟩
set_option maxHeartbeats 1000000 in
theorem rfind_any (nm s : ByteArray) (p : Option Addr) (n cap : Nat) (f : Nat → Col) (w : World) (hn : n ≤ 9223372036854775807) (hC : ColsAt w p n f) :
    Calls Tryz.prog 72 #[.agg #[.string nm, .slice p n cap], .string s] w fun e w' => e = .returned (.int .i64 (findName f n s)) ∧ Below w.heap.size w w' := by
  have HC := Lib.hid hC
  clear hC
  go_enter Tryz.func72, Tryz.ntmps72
  go_wp2_with fail
  go_loopw [10] (fun i v => ∃ k : Nat, k ≤ n ∧ i = .int .i64 k ∧ (∀ j, j < k → eqT (f j).nm s = false) ∧ Below w.heap.size w v) (fun i _ => n - (intOf i).toNat)
  case atStart => exact ⟨0, Nat.zero_le _, rfl, fun j hj => by omega, below_new (Below.refl _ _) _⟩
  case round =>
    obtain ⟨k, hk, rfl, ha, hb⟩ := hrel
    have HA := Lib.hid ha
    have HB := Lib.hid hb
    clear ha hb
    by_cases hlt : k < n
    · have hlt' : decide ((k : Int) < n) = true := decide_eq_true (by omega)
      obtain ⟨c, o, rfl, hc, hs, h0, h1, h2, h3⟩ := HC.out.low HB.out k hlt
      cases he : eqT (f k).nm s
      · have HK := Lib.hid he
        have he' : ((f k).nm.toList == s.toList) = false := he
        clear he
        go_wp2
        go_roundw
        case rel => exact ⟨k + 1, by omega, by go_num, all_succ HA.out HK.out, below_new HB.out _⟩
        case measure => simp [intOf]; omega
      · have HK := Lib.hid he
        have he' : ((f k).nm.toList == s.toList) = true := he
        clear he
        go_wp2
        go_ret
        exact ⟨ret_int (findI_hit (P := fun i => eqT (f i).nm s) hlt HK.out HA.out).symm, below_new HB.out _⟩
    · have hlt' : decide ((k : Int) < n) = false := decide_eq_false (by omega)
      obtain rfl : k = n := by omega
      go_wp2
      go_ret
      exact ⟨ret_int (findI_none (P := fun i => eqT (f i).nm s) HA.out).symm, HB.out⟩
end Go.Proofs.YtlnbpobipmejfaaGreatDoor
/-
  Slices of rows in memory; Copy and Count of the reference.
-/
namespace Go.Proofs.YtlnbpobipmejfaaGreatDoor
set_option maxRecDepth 100000
open Go.RowKit
variable {ls : List Nat}

/-- A slice of rows. -/
def RowsAt (w : World) (p : Option Addr) (L : List (List Val)) : Prop :=
  ∀ i, i < L.length → ∃ (c o : Nat) (q : Option Addr) (cp : Nat), p = some ⟨c, o, none⟩ ∧ c < w.heap.size ∧ w.cell? ⟨c, o + i, none⟩ = some (.slice q (rAt L i).length cp) ∧ RowAt w q (rAt L i) ∧ (rAt L i).length * 32 ≤ 140737488355328 ∧ (q = none → rAt L i = [] ∧ cp = 0)
theorem RowsAt.low {u v : World} {p : Option Addr} {L : List (List Val)} (h : RowsAt u p L) (hb : Below u.heap.size u v) : RowsAt v p L := by
  intro i hi
  obtain ⟨c, o, q, cp, hp, hc, h0, hr, hs, hn⟩ := h i hi
  exact ⟨c, o, q, cp, hp, Nat.lt_of_lt_of_le hc hb.size, by rw [hb.cell (by exact hc)]; exact h0, hr.low hb, hs, hn⟩

/-- A row of the call's own: its slice, and its values. -/
def InRow (u : World) (base : Nat) (x : Value × List Val) : Prop := u.ownsRow base 55 3 x.1 x.2.length (vcells x.2) ∧ x.2.length * 32 ≤ 140737488355328
/-- Rows of the call's own, in a row of its own. -/
def Rows2 (u : World) (base : Nat) (vo : Value) (G : List (Value × List Val)) : Prop :=
  u.ownsRow base 56 1 vo G.length (G.map (·.1)) ∧ ∀ x ∈ G, InRow u base x
theorem owns_below {w w' : World} {base n size : Nat} {e : TypeId} {v : Value} {xs : List Value} (h : w.ownsRow base e size v n xs) (hb : Below w.heap.size w w') : w'.ownsRow base e size v n xs :=
  owns_keep h fun k hk => hb.block k (owns_lt h k hk)
theorem InRow.low {u v : World} {base : Nat} {x : Value × List Val} (h : InRow u base x) (hb : Below u.heap.size u v) : InRow v base x := ⟨owns_below h.1 hb, h.2⟩
theorem Rows2.low {u v : World} {base : Nat} {vo : Value} {G : List (Value × List Val)} (h : Rows2 u base vo G) (hb : Below u.heap.size u v) : Rows2 v base vo G :=
  ⟨owns_below h.1 hb, fun x hx => (h.2 x hx).low hb⟩
theorem Rows2.nil (w : World) (base : Nat) : Rows2 w base (.slice none 0 0) [] := ⟨⟨rfl, Or.inl ⟨rfl, rfl⟩⟩, fun x hx => by cases hx⟩
/-- Behind a growth of the outer row the inner ones are as they were. -/
theorem InRow.apart {u v : World} {base base' n : Nat} {vo : Value} {xs : List Value} {x : Value × List Val} (h : InRow u base x) (ho : u.ownsRow base' 56 1 vo n xs) (hb : ∀ k, k < u.heap.size → vo.ownBlock ≠ some k → v.heap[k]? = u.heap[k]?) : InRow v base x :=
  ⟨owns_keep h.1 fun k hk => hb k (owns_lt h.1 k hk) (owns_apart h.1 ho (by decide) k hk), h.2⟩
theorem Rows2.shape {u : World} {base : Nat} {vo : Value} {G : List (Value × List Val)} (h : Rows2 u base vo G) : vo = .slice (rowP vo) G.length (rowC vo) := by
  rcases h.1.2 with ⟨rfl, h0⟩ | ⟨g, cap', cur, rfl, -⟩
  · rw [h0]; rfl
  · rfl
theorem Rows2.read {u : World} {base : Nat} {p : Option Addr} {cap : Nat} {G : List (Value × List Val)} (h : Rows2 u base (.slice p G.length cap) G) (i : Nat) (hi : i < G.length) :
    ∃ g : Nat, p = some ⟨g, 0, none⟩ ∧ g < u.heap.size ∧ u.cell? ⟨g, i, none⟩ = some (.slice (rowP (gAt G i).1) (gAt G i).2.length (rowC (gAt G i).1)) ∧ RowAt u (rowP (gAt G i).1) (gAt G i).2 ∧ (rowP (gAt G i).1 = none → (gAt G i).2 = [] ∧ rowC (gAt G i).1 = 0) ∧ (gAt G i).2.length * 32 ≤ 140737488355328 := by
  have hmem : gAt G i ∈ G := by unfold gAt; rw [List.getD, List.getElem?_eq_getElem hi]; exact List.getElem_mem hi
  obtain ⟨hown, hlen⟩ := h.2 _ hmem
  obtain ⟨hv, hr, hn⟩ := owned_shape hown
  rcases h.1.2 with ⟨-, h0⟩ | ⟨g, cap', cur, he, hg, hh, hcap, hm, hcur, htake⟩
  · omega
  · injection he with he1 he2 he3
    refine ⟨g, he1, (Array.getElem?_eq_some_iff.1 hh).1, ?_, hr, hn, hlen⟩
    rw [← hv]
    have hj : (G.map (·.1))[i]? = some (gAt G i).1 := by
      rw [List.getElem?_map, List.getElem?_eq_getElem hi]
      simp [gAt, hi]
    rw [← htake, List.getElem?_take] at hj
    have hj' : cur.toList[i]? = some (gAt G i).1 := by
      split at hj
      · exact hj
      · cases hj
    simp [World.cell?, hh]
    simpa using hj'
theorem gAt_row {G : List (Value × List Val)} {i : Nat} (hi : i < G.length) : (gAt G i).2 = rAt (G.map (·.2)) i := by
  unfold gAt rAt
  rw [List.getD, List.getD, List.getElem?_map, List.getElem?_eq_getElem hi]
  rfl
theorem Rows2.rows {u : World} {base : Nat} {p : Option Addr} {cap : Nat} {G : List (Value × List Val)} (h : Rows2 u base (.slice p G.length cap) G) : RowsAt u p (G.map (·.2)) := by
  intro i hi
  rw [List.length_map] at hi
  obtain ⟨g, hp, hg, h0, h1, h2, h3⟩ := h.read i hi
  rw [gAt_row hi] at h0 h1 h2 h3
  exact ⟨g, 0, _, _, hp, hg, by rw [Nat.zero_add]; exact h0, h1, h3, h2⟩

def CopyPost (t : List Val) (w : World) (e : Ending) (w' : World) : Prop := ∃ v, e = .returned v ∧ InRow w' w.heap.size (v, t) ∧ Below w.heap.size w w'
set_option maxHeartbeats 1000000 in
theorem rcopy_any (t : List Val) (q : Option Addr) (cp : Nat) (w : World) (hr : RowAt w q t) (hz : t.length * 32 ≤ 140737488355328) (hn : q = none → t = [] ∧ cp = 0) :
    Calls Tryz.prog 32 #[.slice q t.length cp] w (CopyPost t w) := by
  have hown0 : w.ownsRow w.heap.size 55 3 (.slice none 0 0) 0 (vcells []) := ⟨rfl, Or.inl ⟨rfl, rfl⟩⟩
  have HO := Lib.hid hown0
  have HR := Lib.hid hr
  clear hown0 hr
  go_enter Tryz.func32, Tryz.ntmps32
  go_wp2_with (at_builtin; refine wpList_append_vals rfl _ (.tmp 3) rfl w.heap.size _ 0 [] rfl HO.out q t cp rfl HR.out hn (by omega) (Nat.le_refl _) ?_; intro v2 w2 hown2 hgr2)
  go_ret
  rw [Nat.zero_add, List.nil_append] at hown2
  exact ⟨_, rfl, ⟨hown2, hz⟩, grown_below (Below.refl _ _) (Nat.le_refl _) hgr2 (fun k hk => by cases hk)⟩
end Go.Proofs.YtlnbpobipmejfaaGreatDoor
/-
  Sort of the reference.
-/
namespace Go.Proofs.YtlnbpobipmejfaaGreatDoor
set_option maxRecDepth 100000
open Go.RowKit
variable {ls : List Nat}

theorem InRow.base {u : World} {b b' : Nat} {x : Value × List Val} (h : InRow u b x) (hb : b' ≤ b) : InRow u b' x := ⟨owns_base h.1 hb, h.2⟩
/-- A row put into a list of cells at place a. -/
theorem ins_cells {A : Type} {cur heads : List A} {z hd : A} {a n : Nat} (hn : heads.length = n) (htake : cur.take (n + 1) = heads ++ [z]) (ha : a ≤ n) : ((splice cur (a + 1) (heads.drop a)).set a hd).take (n + 1) = heads.take a ++ hd :: heads.drop a := by
  have hl : n + 1 ≤ cur.length := by
    have := congrArg List.length htake
    rw [List.length_take, List.length_append, List.length_singleton] at this
    omega
  have hat : ∀ j, j < n → cur[j]? = heads[j]? := fun j hj => by
    have : (cur.take (n + 1))[j]? = (heads ++ [z])[j]? := by rw [htake]
    rw [List.getElem?_take, if_pos (by omega), List.getElem?_append_left (by omega)] at this
    exact this
  apply List.ext_getElem?
  intro j
  rw [List.getElem?_take]
  by_cases hj : j < n + 1
  · rw [if_pos hj]
    unfold splice
    by_cases hja : j < a
    · rw [List.getElem?_set_ne (by omega), List.getElem?_append_left (by rw [List.length_take]; omega), List.getElem?_take, if_pos (by omega), List.getElem?_append_left (by rw [List.length_take]; omega), List.getElem?_take, if_pos hja]
      exact hat j (by omega)
    · by_cases hje : j = a
      · subst hje
        rw [List.getElem?_set_self (by rw [List.length_append, List.length_take]; omega), List.getElem?_append_right (by rw [List.length_take]; omega), List.length_take]
        have : j - min j heads.length = 0 := by omega
        rw [this]; rfl
      · rw [List.getElem?_set_ne (by omega), List.getElem?_append_right (by rw [List.length_take]; omega), List.length_take, List.getElem?_append_left (by rw [List.length_drop]; omega), List.getElem?_append_right (by rw [List.length_take]; omega), List.length_take]
        have e1 : j - min (a + 1) cur.length = j - (a + 1) := by omega
        have e2 : j - min a heads.length = (j - (a + 1)) + 1 := by omega
        rw [e1, e2, List.getElem?_cons_succ]
  · rw [if_neg hj, List.getElem?_eq_none]
    rw [List.length_append, List.length_take, List.length_cons, List.length_drop]
    omega
theorem splice_length {A : Type} {cur heads : List A} {a n : Nat} (hn : heads.length = n) (ha : a ≤ n) (hl : n + 1 ≤ cur.length) : (splice cur (a + 1) (heads.drop a)).length = cur.length :=
  length_splice _ _ _ (by rw [List.length_drop]; omega)

theorem info_row : (Tryz.prog.info? 56).map (fun i => (i.zero, i.size, i.bytes)) = some (some (.slice none 0 0), 1, 24) := by kernel_rfl

theorem sort_post {L : List (List Val)} {G : List (Value × List Val)} (hs : Sorted (G.map (·.2))) (hp : (G.map (·.2)).Perm (L.take L.length)) : G.map (·.2) = srt L := by
  rw [List.take_length] at hp
  exact srt_unique hp hs
theorem round_sorted {G : List (Value × List Val)} {hd : Value} {t : List Val} {a : Nat} (hs : Sorted (G.map (·.2))) (ha : a ≤ G.length) (h1 : a = 0 ∨ ¬ 0 < cmpRow (rAt (G.map (·.2)) (a - 1)) t) (h2 : ∀ j, a ≤ j → j < G.length → 0 < cmpRow (rAt (G.map (·.2)) j) t) : Sorted ((G.take a ++ (hd, t) :: G.drop a).map (·.2)) := by
  rw [List.map_append, List.map_cons, List.map_take, List.map_drop]
  exact ins_sorted hs (by rw [List.length_map]; exact ha) h1 (fun j hj hl => h2 j hj (by rw [List.length_map] at hl; exact hl))
theorem round_perm {G : List (Value × List Val)} {L : List (List Val)} {hd : Value} {a k : Nat} (hk : k < L.length) (hp : (G.map (·.2)).Perm (L.take k)) : ((G.take a ++ (hd, rAt L k) :: G.drop a).map (·.2)).Perm (L.take (k + 1)) := by
  rw [List.map_append, List.map_cons, List.map_take, List.map_drop, take_row hk]
  exact ins_perm.trans (hp.append_right _)

/-- A row that the call owns, as its block. -/
theorem own_block {u : World} {base g n c : Nat} {e : TypeId} {xs : List Value} (h : u.ownsRow base e 1 (.slice (some ⟨g, 0, none⟩) n c) n xs) : ∃ cur : List Value, u.heap[g]? = some (.cells cur.toArray e (0, 0)) ∧ base ≤ g ∧ n ≤ c ∧ c ≤ maxLen ∧ cur.length = c ∧ cur.take n = xs := by
  rcases h.2 with ⟨h1, -⟩ | ⟨g', cap, cur, h1, h2, h3, h4, h5, h6, h7⟩
  · cases h1
  · injection h1 with e1 _ e3
    have e1 := congrArg Addr.block (Option.some.inj e1)
    simp only at e1
    subst e1 e3
    exact ⟨cur.toList, by simpa using h3, h2, h4, h5, by simpa using h6, by simpa using h7⟩
theorem block_own {u : World} {base g n c : Nat} {e : TypeId} {xs cur : List Value} (hb : u.heap[g]? = some (.cells cur.toArray e (0, 0))) (hg : base ≤ g) (hn : n ≤ c) (hm : c ≤ maxLen) (hl : cur.length = c) (ht : cur.take n = xs) (hx : xs.length = n) : u.ownsRow base e 1 (.slice (some ⟨g, 0, none⟩) n c) n xs :=
  ⟨by omega, .inr ⟨g, c, cur.toArray, rfl, hg, hb, hn, hm, by simpa using hl, by simpa using ht⟩⟩
theorem heads_src {u : World} {g a n : Nat} {e : TypeId} {cur heads : List Value} {z : Value} (hc : u.heap[g]? = some (.cells cur.toArray e (0, 0))) (ht : cur.take (n + 1) = heads ++ [z]) (hn : heads.length = n) : ∀ j v, (heads.drop a)[j]? = some v → u.cell? ((⟨g, a, none⟩ : Addr).add j) = some v := by
  intro j v hj
  have hadd : (⟨g, a, none⟩ : Addr).add j = ⟨g, a + j, none⟩ := by unfold Addr.add; split <;> simp_all
  rw [List.getElem?_drop] at hj
  have hlt := (List.getElem?_eq_some_iff.1 hj).1
  rw [hadd, Joins.cell_of_block hc]
  have : (cur.take (n + 1))[a + j]? = some v := by rw [ht, List.getElem?_append_left hlt]; exact hj
  rw [List.getElem?_take, if_pos (by omega)] at this
  simpa using this
/-- copy within a row that is known whole, as a step of a drawn region: all other blocks stay. -/
theorem step_copy_in {P : Program} {ops : Array Oper} {o : Oper} {a : Act} {w : World} {K : Act → World → Prop} {Q : Exit → Act → World → Prop} {E : Prop} (hgd : o.guard = none) (d s : Operand) (dT sT : TypeId)
    (ho : o.op = .call { callee := .builtin .copy, args := #[d, s], argTypes := #[dT, sT] }) (elem : TypeId) (hu : P.underlying dT = some (.slice elem)) (hsz : (P.info? elem).map (·.size) = some 1)
    (dp sp : Option Addr) (dLen dCap sLen sCap : Nat) (hd : a.eval d = .slice dp dLen dCap) (hs : a.eval s = .slice sp sLen sCap)
    (g off : Nat) (cur : List Value) (t : TypeId) (hg : w.heap[g]? = some (.cells cur.toArray t (0, 0))) (cs : List Value) (hn : cs.length = min sLen dLen)
    (hpos : 0 < cs.length → dp = some ⟨g, off, none⟩ ∧ ∃ ad, sp = some ad ∧ ∀ j v, cs[j]? = some v → w.cell? (ad.add j) = some v)
    (hfit : off + cs.length ≤ cur.length) (h1 : ∀ v ∈ cs, v.oneCell' = true)
    (h : ∀ w', Hid (w'.heap[g]? = some (.cells (splice cur off cs).toArray t (0, 0))) → w.grownBy w' (some g) → K (a.put o.dst (goInt cs.length)) w') :
    if Region.wanted o (yielded ops a.tmps) = true then Oper.wp P o a w K Q else E := by
  have hw : Region.wanted o (yielded ops a.tmps) = true := by simp [Region.wanted, hgd]
  rw [if_pos hw]
  by_cases h0 : cs.length = 0
  · obtain rfl : cs = [] := List.eq_nil_of_length_eq_zero h0
    have hrun := run_copy_none (P := P) w dT sT o.type elem dp sp dLen dCap sLen sCap hu hsz (by simpa using hn.symm)
    unfold Oper.wp
    simp [execOp, ho, resolve, invoke, builtin, hd, hs, hrun, Result.andThen]
    exact h w (show _ = _ by simpa [splice] using hg) (World.grownBy.refl w _)
  · obtain ⟨rfl, ad, rfl, hsrc⟩ := hpos (by omega)
    have hrun := run_copy_row (P := P) w dT sT o.type elem g off dLen dCap ad sLen sCap cur.toArray t cs hu hsz hg hn hsrc (by simpa using hfit) h1
    unfold Oper.wp
    simp [execOp, ho, resolve, invoke, builtin, hd, hs, hrun, Result.andThen]
    exact h _ (show _ = _ by simpa [splice] using setRow_heap w g _ _ t _ hg) ⟨rfl, rfl, rfl, by simp [World.setRow], fun k _ hk => setRow_other w g k _ (fun e => hk (by rw [e]))⟩
theorem step_shift {ops : Array Oper} {o : Oper} {a : Act} {w : World} {K : Act → World → Prop} {Q : Exit → Act → World → Prop} {E : Prop} (hgd : o.guard = none) (d s : Operand)
    (ho : o.op = .call { callee := .builtin .copy, args := #[d, s], argTypes := #[43, 43] }) (g A n : Nat) (cur heads : List Value) (z : Value) (dp : Option Addr) (dCap sCap : Nat) (hd : a.eval d = .slice dp (n - A) dCap) (hs : a.eval s = .slice (some ⟨g, A, none⟩) (n + 1 - A) sCap)
    (hg : w.heap[g]? = some (.cells cur.toArray 56 (0, 0))) (ht : cur.take (n + 1) = heads ++ [z]) (hn : heads.length = n) (hA : A ≤ n) (hdp : A < n → dp = some ⟨g, A + 1, none⟩) (h1 : ∀ v ∈ heads, v.oneCell' = true)
    (h : ∀ w', Hid (w'.heap[g]? = some (.cells (splice cur (A + 1) (heads.drop A)).toArray 56 (0, 0))) → w.grownBy w' (some g) → K (a.put o.dst (goInt ((n - A : Nat) : Int))) w') :
    if Region.wanted o (yielded ops a.tmps) = true then Oper.wp Tryz.prog o a w K Q else E := by
  have hl : n + 1 ≤ cur.length := by
    have := congrArg List.length ht
    rw [List.length_take, List.length_append, List.length_singleton] at this
    omega
  have hlen : (heads.drop A).length = n - A := by rw [List.length_drop, hn]
  refine step_copy_in (P := Tryz.prog) hgd d s _ _ ho 56 Tryz.underlying43 (by kernel_rfl) dp (some ⟨g, A, none⟩) (n - A) dCap (n + 1 - A) sCap hd hs g (A + 1) cur 56 hg (heads.drop A) (by rw [hlen]; omega) (fun h0 => ⟨hdp (by omega), _, rfl, heads_src hg ht hn⟩) (by omega) (fun v hv => h1 v (List.mem_of_mem_drop hv)) ?_
  rw [hlen]
  exact h
/-- The rows behind a round: the new one is put in. -/
theorem round_rows {u : World} {base g n c a : Nat} {cur : List Value} {G : List (Value × List Val)} {hd : Value × List Val} (hb : u.heap[g]? = some (.cells cur.toArray 56 (0, 0))) (hg : base ≤ g) (hc : n + 1 ≤ c) (hm : c ≤ maxLen) (hl : cur.length = c) (hn : G.length = n) (ha : a ≤ n)
    (ht : cur.take (n + 1) = (G.map (·.1)).take a ++ hd.1 :: (G.map (·.1)).drop a) (hin : ∀ x ∈ G, InRow u base x) (hh : InRow u base hd) : Rows2 u base (.slice (some ⟨g, 0, none⟩) (G.take a ++ hd :: G.drop a).length c) (G.take a ++ hd :: G.drop a) := by
  have hlen : (G.take a ++ hd :: G.drop a).length = n + 1 := by rw [List.length_append, List.length_take, List.length_cons, List.length_drop]; omega
  refine ⟨?_, fun x hx => ?_⟩
  · rw [hlen]
    refine block_own hb hg hc hm hl ?_ (by rw [List.length_map, hlen])
    rw [List.map_append, List.map_cons, List.map_take, List.map_drop]
    exact ht
  · rcases List.mem_append.1 hx with hx | hx
    · exact hin x (List.mem_of_mem_take hx)
    · rcases List.mem_cons.1 hx with rfl | hx
      · exact hh
      · exact hin x (List.mem_of_mem_drop hx)
theorem nil_news (v : World) : ∀ j u, ([Value.slice none 0 0] : List Value)[j]? = some u → (v.alloc (.cells #[.slice none 0 0] 56)).cell? ((⟨v.heap.size, 0, none⟩ : Addr).add j) = some u := by
  intro j u hj
  have : j = 0 := by have := (List.getElem?_eq_some_iff.1 hj).1; simp at this; omega
  subst this
  obtain rfl := Option.some.inj hj
  show (v.alloc _).cell? ⟨v.heap.size, 0, none⟩ = _
  go_simp

theorem sort_keep {w wX w8 w9 : World} {G : List (Value × List Val)} {vo : Value} {n n8 c8 g8 : Nat} {xs xs8 : List Value} {o : Obj} (hB : Below w.heap.size w wX) (hin : ∀ x ∈ G, InRow wX w.heap.size x) (ho : wX.ownsRow w.heap.size 56 1 vo n xs) (hg8 : (wX.alloc o).grownBy w8 vo.ownBlock)
    (ho8 : w8.ownsRow w.heap.size 56 1 (.slice (some ⟨g8, 0, none⟩) n8 c8) n8 xs8) (hg9 : w8.drew.grownBy w9 (some g8)) : Below w.heap.size w w9 ∧ ∀ x ∈ G, InRow w9 w.heap.size x := by
  have hB7 := below_new hB o
  have hB8 : Below w.heap.size w w8 := hB7.grown hg8 hB7.size (fun k hk => (ho.lt k hk).1)
  have hg8' : w.heap.size ≤ g8 := (ho8.lt g8 rfl).1
  refine ⟨hB8.drew.grown hg9 hB8.size (fun k hk => by obtain rfl := Option.some.inj hk; exact hg8'), fun x hx => ?_⟩
  have h7 := (hin x hx).low (below_alloc wX o)
  have h8 : InRow w8 w.heap.size x := h7.apart (ho.alloc o) fun k hk hne => hg8.block k hk (fun e => hne e.symm)
  exact InRow.apart (u := w8.drew) (v := w9) h8 (show w8.drew.ownsRow _ _ _ _ _ _ from ho8) fun k hk hne => hg9.block k hk (fun e => hne e.symm)
theorem sort_round {w w9 w10 : World} {G : List (Value × List Val)} {hd : Value × List Val} {A g8 c8 : Nat} {cur : List Value} {z : Value} (hB9 : Below w.heap.size w w9) (hin : ∀ x ∈ G, InRow w9 w.heap.size x) (hc9 : w9.heap[g8]? = some (.cells (splice cur (A + 1) ((G.map (·.1)).drop A)).toArray 56 (0, 0)))
    (ht : cur.take (G.length + 1) = G.map (·.1) ++ [z]) (hA : A ≤ G.length) (hg : w.heap.size ≤ g8) (hn : G.length + 1 ≤ c8) (hm : c8 ≤ maxLen) (hl : cur.length = c8) (hin10 : InRow w10 w9.heap.size hd) (hb10 : Below w9.heap.size w9 w10) :
    Rows2 (w10.setCell ⟨g8, A, none⟩ hd.1) w.heap.size (.slice (some ⟨g8, 0, none⟩) (G.take A ++ hd :: G.drop A).length c8) (G.take A ++ hd :: G.drop A) ∧ Below w.heap.size w (w10.setCell ⟨g8, A, none⟩ hd.1) ∧ (∃ y, w10.cell? ⟨g8, A, none⟩ = some y) ∧ w10.frozen? ⟨g8, A, none⟩ = false := by
  have hlt : g8 < w9.heap.size := (Array.getElem?_eq_some_iff.1 hc9).1
  have hc10 : w10.heap[g8]? = some (.cells (splice cur (A + 1) ((G.map (·.1)).drop A)).toArray 56 (0, 0)) := by rw [hb10.block g8 hlt]; exact hc9
  have hsl := splice_length (cur := cur) (heads := G.map (·.1)) (a := A) (n := G.length) (List.length_map _) hA (by omega)
  have hB10 := below_next hB9 hb10
  have ho10 : w10.ownsRow w.heap.size 56 1 (.slice (some ⟨g8, 0, none⟩) (G.length + 1) c8) (G.length + 1) ((splice cur (A + 1) ((G.map (·.1)).drop A)).take (G.length + 1)) :=
    block_own hc10 hg hn hm (by rw [hsl, hl]) rfl (by rw [List.length_take, hsl]; omega)
  have hap : ∀ x b, InRow w10 b x → InRow (w10.setCell ⟨g8, A, none⟩ hd.1) b x := fun x b hx => hx.apart ho10 fun k hk hne => Below.heap_setCell _ _ _ _ (fun e => hne (by rw [e]; rfl))
  have hset := Joins.block_setCell (i := A) hc10 hd.1
  rw [List.setIfInBounds_toArray] at hset
  refine ⟨round_rows hset hg hn hm (by rw [List.length_set, hsl, hl]) rfl hA (ins_cells (List.length_map _) ht hA) (fun x hx => hap x _ ((hin x hx).low hb10)) (hap hd _ (hin10.base hB9.size)), hB10.setCell (by exact hg) _, ?_, Joins.unfrozen_of_block hc10 A⟩
  rw [Joins.cell_of_block hc10]
  refine ⟨(splice cur (A + 1) ((G.map (·.1)).drop A))[A]'(by omega), ?_⟩
  rw [List.getElem?_toArray, List.getElem?_eq_getElem]
theorem heads_one {u : World} {base : Nat} {G : List (Value × List Val)} (h : ∀ x ∈ G, InRow u base x) : ∀ v ∈ G.map (·.1), v.oneCell' = true := by
  intro v hv
  obtain ⟨x, hx, rfl⟩ := List.mem_map.1 hv
  rcases (h x hx).1.2 with ⟨h1, -⟩ | ⟨g, cap, cur, h1, -⟩
  · rw [h1]; rfl
  · rw [h1]; rfl

def SortPost (L : List (List Val)) (w : World) (e : Ending) (w' : World) : Prop := ∃ (p : Option Addr) (cap : Nat) (G : List (Value × List Val)), e = .returned (.slice p L.length cap) ∧ G.map (·.2) = srt L ∧ Rows2 w' w.heap.size (.slice p G.length cap) G ∧ Below w.heap.size w w'
set_option maxRecDepth 100000 in
set_option maxHeartbeats 4000000 in
theorem rsort_any (L : List (List Val)) (p : Option Addr) (cap : Nat) (w : World) (hL : L.length ≤ 1000) (hp : RowsAt w p L) :
    Calls Tryz.prog 36 #[.slice p L.length cap] w (SortPost L w) := by
  obtain ⟨i25, hi25, hz25, hs25, hb25⟩ := info_parts info_row
  have HP := Lib.hid hp
  clear hp
  go_enter Tryz.func36, Tryz.ntmps36
  go_wp2_with fail
  go_loopw [3, 9] (fun vo i v => ∃ (k : Nat) (G : List (Value × List Val)) (po : Option Addr) (co : Nat), k ≤ L.length ∧ vo = .slice po G.length co ∧ i = .int .i64 k ∧ Rows2 v w.heap.size (.slice po G.length co) G ∧ Sorted (G.map (·.2)) ∧ (G.map (·.2)).Perm (L.take k) ∧ Below w.heap.size w v) (fun _ i _ => L.length - (intOf i).toNat)
  case atStart => exact ⟨0, [], none, 0, Nat.zero_le _, rfl, rfl, Rows2.nil _ _, List.Pairwise.nil, by simp, Below.refl _ _⟩
  case round =>
    obtain ⟨k, G, po, co, hk, rfl, rfl, hg, hso, hpe, hb⟩ := hrel
    have HG := Lib.hid hg
    have HSO := Lib.hid hso
    have HPE := Lib.hid hpe
    have HB := Lib.hid hb
    have hgl : G.length ≤ k := by have := hpe.length_eq; rw [List.length_map, List.length_take] at this; omega
    clear hg hso hpe hb
    by_cases hlt : k < L.length
    · have hlt' : decide ((k : Int) < L.length) = true := decide_eq_true (by omega)
      obtain ⟨c, o, q, cp, rfl, hc', h0', hr00, hs, hqn⟩ := HP.out k hlt
      have hc : c < wr.heap.size := Nat.lt_of_lt_of_le hc' HB.out.size
      have h0 : wr.cell? ⟨c, o + k, none⟩ = some (.slice q (rAt L k).length cp) := by rw [HB.out.cell (by exact hc')]; exact h0'
      have HQN := Lib.hid hqn
      clear hqn h0'
      go_wp2_with fail
      have HR0 := Lib.hid hr00
      go_loopw [6] (fun x v => ∃ a : Nat, x = .int .i64 a ∧ a ≤ G.length ∧ (∀ j, a ≤ j → j < G.length → 0 < cmpRow (rAt (G.map (·.2)) j) (rAt L k)) ∧ Rows2 v w.heap.size (.slice po G.length co) G ∧ Below w.heap.size w v) (fun x _ => (intOf x).toNat)
      case atStart => exact ⟨G.length, rfl, Nat.le_refl _, fun j h1 h2 => by omega, HG.out, HB.out⟩
      clear HG HB h0 hc hr00
      case round =>
        obtain ⟨a, rfl, ha, hgt, hg, hb⟩ := hrel
        have HGT := Lib.hid hgt
        have HG := Lib.hid hg
        have HB := Lib.hid hb
        clear hgt hg hb
        by_cases ha0 : 0 < a
        · obtain ⟨a, rfl⟩ : ∃ d, a = d + 1 := ⟨a - 1, by omega⟩
          have ha0' : decide ((0 : Int) < ((a + 1 : Nat) : Int)) = true := decide_eq_true (by omega)
          obtain ⟨g, rfl, hgz, g0, hgr, -, hgs⟩ := HG.out.read a (by omega)
          have HGR := Lib.hid hgr
          have HRW := Lib.hid (gAt_row (G := G) (i := a) (by omega))
          clear hgr
          go_wp2_with fail
          refine (rcomparerows_any _ q (gAt G a).2 (rAt L k) _ cp _ (by omega) (by omega) HGR.out (HR0.out.low HB.out)).mono ?_
          rintro e v1 ⟨rfl, hb1⟩
          have HG1 := Lib.hid (HG.out.low hb1)
          have HB1 := Lib.hid (below_next HB.out hb1)
          clear HG HB HGR hb1 g0 hgz hgs
          cases hcmp : decide (0 < cmpRow (gAt G a).2 (rAt L k))
          · have H1 : Hid (a + 1 = 0 ∨ ¬ 0 < cmpRow (rAt (G.map (·.2)) (a + 1 - 1)) (rAt L k)) := Lib.hid (.inr (by rw [Nat.add_sub_cancel, ← HRW.out]; exact of_decide_eq_false hcmp))
            have HG := HG1
            have HB := HB1
            clear HG1 HB1
            have HG7 := Lib.hid (HG.out.1.alloc (.cells #[.slice none 0 0] 56))
            have HNEW := Lib.hid (nil_news v1)
            have HZ7 : Hid (w.heap.size ≤ (v1.alloc (.cells #[.slice none 0 0] 56)).heap.size) := Lib.hid (by rw [size_alloc]; have := HB.out.size; omega)
            have HIN := Lib.hid HG.out.2
            have HGO := Lib.hid HG.out.1
            clear HG
            go_wp2_with (at_builtin; refine wpList_append_lies _ rfl (.tmp 29) (.tmp 30) 43 rfl w.heap.size 56 i25 _ 1 24 Tryz.underlying43 hi25 hz25 hs25 hb25 rfl (by decide) (.slice (some ⟨g, 0, none⟩) G.length co) G.length (G.map (·.1)) (by rfl) HG7.out ⟨v1.heap.size, 0, none⟩ 1 1 [.slice none 0 0] (by rfl) rfl HNEW.out (by intro u hu; obtain rfl := List.mem_singleton.1 hu; rfl) (by decide) (by unfold maxLen; omega) (by omega) HZ7.out _ rfl ?_; intro g8 c8 w8 hown8 hgr8 hat8 hlt8; obtain ⟨cur8, hcur8, hg8, hn8, hm8, hl8, ht8⟩ := own_block hown8; (have HCUR := Lib.hid hcur8); (have HT8 := Lib.hid ht8); (have HGR := Lib.hid hgr8); (have HOWN := Lib.hid hown8); clear hown8 hcur8 ht8 hgr8 hat8)
            have hsz1 : (Tryz.prog.info? 56).map (·.size) = some 1 := by kernel_rfl
            rw [show ((a : Int) + 1) = ((a + 1 : Nat) : Int) by omega]
            generalize a + 1 = A at *
            have hAG : A ≤ G.length := ha
            have hw : IntKind.i64.wrap ((A : Int) + 1) = (A : Int) + 1 := i64w (by omega) (by omega)
            have htn : ((A : Int) + 1).toNat = A + 1 := by omega
            have hb0 : (0 : Int) ≤ (A : Int) + 1 := by omega
            have hb1 : (A : Int) + 1 ≤ (G.length : Int) + 1 := by omega
            have hb2 : (A : Int) ≤ (G.length : Int) + 1 := by omega
            have hb3 : (0 : Int) ≤ (A : Int) := by omega
            have hc8 : ¬ c8 = A := by omega
            have HAG := Lib.hid hAG
            have HN8 := Lib.hid hn8
            have HCURD : Hid (w8.drew.heap[g8]? = some (.cells cur8.toArray 56 (0, 0))) := Lib.hid HCUR.out
            by_cases hcap : c8 = A + 1
            · have HD : Hid (A < G.length → (some ⟨g8, 0, none⟩ : Option Addr) = some ⟨g8, A + 1, none⟩) := Lib.hid (fun h => by omega)
              go_region_law ((refine step_shift (by rfl) (.tmp 35) (.tmp 38) (by rfl) g8 A G.length cur8 (G.map (·.1)) (.slice none 0 0) (some ⟨g8, 0, none⟩) 0 1 (by simp [Act.eval, Act.put]) (by simp [Act.eval, Act.put]) HCURD.out HT8.out (List.length_map _) HAG.out HD.out (heads_one HIN.out) ?_); intro w9 hcur9 hgr9)
              obtain ⟨hB9, hin9⟩ := sort_keep HB.out HIN.out HGO.out HGR.out HOWN.out hgr9
              have HB9 := Lib.hid hB9
              have HIN9 := Lib.hid hin9
              have HC9 := Lib.hid hcur9.out
              clear hB9 hin9 hcur9 hgr9 HB HIN HGO HGR HOWN HCUR HCURD HG7 HNEW HZ7
              go_wp2_with fail
              refine (rcopy_any (rAt L k) q cp _ (HR0.out.low HB9.out) hs HQN.out).mono ?_
              rintro e w10 ⟨v10, rfl, hin10, hb10⟩
              obtain ⟨hR10, hB10, ⟨y10, hy10⟩, hf10⟩ := sort_round HB9.out HIN9.out HC9.out HT8.out HAG.out hg8 HN8.out hm8 hl8 hin10 hb10
              have hv10 : v10 = .slice (rowP v10) (rAt L k).length (rowC v10) := (owned_shape hin10.1).1
              generalize rowP v10 = p10 at hv10
              generalize rowC v10 = c10 at hv10
              subst hv10
              have HR10 := Lib.hid hR10
              have HB10 := Lib.hid hB10
              have hlen : (G.take A ++ (Value.slice p10 (rAt L k).length c10, rAt L k) :: G.drop A).length = G.length + 1 := by rw [List.length_append, List.length_take, List.length_cons, List.length_drop]; omega
              have HLEN := Lib.hid hlen
              have hAI : (A : Int) < (G.length : Int) + 1 := by omega
              clear hR10 hB10 hin10 hb10 hlen
              go_wp2
              go_roundw
              case rel => exact ⟨k + 1, G.take A ++ (Value.slice p10 (rAt L k).length c10, rAt L k) :: G.drop A, some ⟨g8, 0, none⟩, c8, by omega, by rw [HLEN.out]; rw [hcap], by go_num, HR10.out, round_sorted HSO.out HAG.out (by first | exact H1.out | exact H1.out.imp id (fun h => by omega)) HGT.out, round_perm hlt HPE.out, HB10.out⟩
              case measure => simp [intOf]; omega
            · go_region_law ((refine step_shift (by rfl) (.tmp 35) (.tmp 38) (by rfl) g8 A G.length cur8 (G.map (·.1)) (.slice none 0 0) (some ⟨g8, A + 1, none⟩) (c8 - (A + 1)) (c8 - A) (by simp [Act.eval, Act.put]) (by simp [Act.eval, Act.put]) HCURD.out HT8.out (List.length_map _) HAG.out (fun _ => rfl) (heads_one HIN.out) ?_); intro w9 hcur9 hgr9)
              obtain ⟨hB9, hin9⟩ := sort_keep HB.out HIN.out HGO.out HGR.out HOWN.out hgr9
              have HB9 := Lib.hid hB9
              have HIN9 := Lib.hid hin9
              have HC9 := Lib.hid hcur9.out
              clear hB9 hin9 hcur9 hgr9 HB HIN HGO HGR HOWN HCUR HCURD HG7 HNEW HZ7
              go_wp2_with fail
              refine (rcopy_any (rAt L k) q cp _ (HR0.out.low HB9.out) hs HQN.out).mono ?_
              rintro e w10 ⟨v10, rfl, hin10, hb10⟩
              obtain ⟨hR10, hB10, ⟨y10, hy10⟩, hf10⟩ := sort_round HB9.out HIN9.out HC9.out HT8.out HAG.out hg8 HN8.out hm8 hl8 hin10 hb10
              have hv10 : v10 = .slice (rowP v10) (rAt L k).length (rowC v10) := (owned_shape hin10.1).1
              generalize rowP v10 = p10 at hv10
              generalize rowC v10 = c10 at hv10
              subst hv10
              have HR10 := Lib.hid hR10
              have HB10 := Lib.hid hB10
              have hlen : (G.take A ++ (Value.slice p10 (rAt L k).length c10, rAt L k) :: G.drop A).length = G.length + 1 := by rw [List.length_append, List.length_take, List.length_cons, List.length_drop]; omega
              have HLEN := Lib.hid hlen
              have hAI : (A : Int) < (G.length : Int) + 1 := by omega
              clear hR10 hB10 hin10 hb10 hlen
              go_wp2
              go_roundw
              case rel => exact ⟨k + 1, G.take A ++ (Value.slice p10 (rAt L k).length c10, rAt L k) :: G.drop A, some ⟨g8, 0, none⟩, c8, by omega, by rw [HLEN.out], by go_num, HR10.out, round_sorted HSO.out HAG.out (by first | exact H1.out | exact H1.out.imp id (fun h => by omega)) HGT.out, round_perm hlt HPE.out, HB10.out⟩
              case measure => simp [intOf]; omega
          · have hpos := of_decide_eq_true hcmp
            rw [HRW.out] at hpos
            have HPOS := Lib.hid hpos
            clear hpos
            go_wp2
            go_roundw
            case rel => exact ⟨a, by go_num, by omega, fun j h1 h2 => by
              by_cases hja : j = a
              · subst hja; exact HPOS.out
              · exact HGT.out j (by omega) h2, HG1.out, HB1.out⟩
            case measure => simp [intOf]
        · have ha0' : decide ((0 : Int) < (a : Int)) = false := decide_eq_false (by omega)
          obtain ⟨A, rfl⟩ : ∃ A, A = a := ⟨a, rfl⟩
          have H1 : Hid (A = 0 ∨ ¬ 0 < cmpRow (rAt (G.map (·.2)) (A - 1)) (rAt L k)) := Lib.hid (.inl (by omega))
          have HG7 := Lib.hid (HG.out.1.alloc (.cells #[.slice none 0 0] 56))
          have HNEW := Lib.hid (nil_news wr)
          have HZ7 : Hid (w.heap.size ≤ (wr.alloc (.cells #[.slice none 0 0] 56)).heap.size) := Lib.hid (by rw [size_alloc]; have := HB.out.size; omega)
          have HIN := Lib.hid HG.out.2
          have HGO := Lib.hid HG.out.1
          clear HG
          go_wp2_with (at_builtin; refine wpList_append_lies _ rfl (.tmp 29) (.tmp 30) 43 rfl w.heap.size 56 i25 _ 1 24 Tryz.underlying43 hi25 hz25 hs25 hb25 rfl (by decide) (.slice po G.length co) G.length (G.map (·.1)) (by rfl) HG7.out ⟨wr.heap.size, 0, none⟩ 1 1 [.slice none 0 0] (by rfl) rfl HNEW.out (by intro u hu; obtain rfl := List.mem_singleton.1 hu; rfl) (by decide) (by unfold maxLen; omega) (by omega) HZ7.out _ rfl ?_; intro g8 c8 w8 hown8 hgr8 hat8 hlt8; obtain ⟨cur8, hcur8, hg8, hn8, hm8, hl8, ht8⟩ := own_block hown8; (have HCUR := Lib.hid hcur8); (have HT8 := Lib.hid ht8); (have HGR := Lib.hid hgr8); (have HOWN := Lib.hid hown8); clear hown8 hcur8 ht8 hgr8 hat8)
          have hsz1 : (Tryz.prog.info? 56).map (·.size) = some 1 := by kernel_rfl
          skip
          have hAG : A ≤ G.length := ha
          have hw : IntKind.i64.wrap ((A : Int) + 1) = (A : Int) + 1 := i64w (by omega) (by omega)
          have htn : ((A : Int) + 1).toNat = A + 1 := by omega
          have hb0 : (0 : Int) ≤ (A : Int) + 1 := by omega
          have hb1 : (A : Int) + 1 ≤ (G.length : Int) + 1 := by omega
          have hb2 : (A : Int) ≤ (G.length : Int) + 1 := by omega
          have hb3 : (0 : Int) ≤ (A : Int) := by omega
          have hc8 : ¬ c8 = A := by omega
          have HAG := Lib.hid hAG
          have HN8 := Lib.hid hn8
          have HCURD : Hid (w8.drew.heap[g8]? = some (.cells cur8.toArray 56 (0, 0))) := Lib.hid HCUR.out
          by_cases hcap : c8 = A + 1
          · have HD : Hid (A < G.length → (some ⟨g8, 0, none⟩ : Option Addr) = some ⟨g8, A + 1, none⟩) := Lib.hid (fun h => by omega)
            go_region_law ((refine step_shift (by rfl) (.tmp 35) (.tmp 38) (by rfl) g8 A G.length cur8 (G.map (·.1)) (.slice none 0 0) (some ⟨g8, 0, none⟩) 0 1 (by simp [Act.eval, Act.put]) (by simp [Act.eval, Act.put]) HCURD.out HT8.out (List.length_map _) HAG.out HD.out (heads_one HIN.out) ?_); intro w9 hcur9 hgr9)
            obtain ⟨hB9, hin9⟩ := sort_keep HB.out HIN.out HGO.out HGR.out HOWN.out hgr9
            have HB9 := Lib.hid hB9
            have HIN9 := Lib.hid hin9
            have HC9 := Lib.hid hcur9.out
            clear hB9 hin9 hcur9 hgr9 HB HIN HGO HGR HOWN HCUR HCURD HG7 HNEW HZ7
            go_wp2_with fail
            refine (rcopy_any (rAt L k) q cp _ (HR0.out.low HB9.out) hs HQN.out).mono ?_
            rintro e w10 ⟨v10, rfl, hin10, hb10⟩
            obtain ⟨hR10, hB10, ⟨y10, hy10⟩, hf10⟩ := sort_round HB9.out HIN9.out HC9.out HT8.out HAG.out hg8 HN8.out hm8 hl8 hin10 hb10
            have hv10 : v10 = .slice (rowP v10) (rAt L k).length (rowC v10) := (owned_shape hin10.1).1
            generalize rowP v10 = p10 at hv10
            generalize rowC v10 = c10 at hv10
            subst hv10
            have HR10 := Lib.hid hR10
            have HB10 := Lib.hid hB10
            have hlen : (G.take A ++ (Value.slice p10 (rAt L k).length c10, rAt L k) :: G.drop A).length = G.length + 1 := by rw [List.length_append, List.length_take, List.length_cons, List.length_drop]; omega
            have HLEN := Lib.hid hlen
            have hAI : (A : Int) < (G.length : Int) + 1 := by omega
            clear hR10 hB10 hin10 hb10 hlen
            go_wp2
            go_roundw
            case rel => exact ⟨k + 1, G.take A ++ (Value.slice p10 (rAt L k).length c10, rAt L k) :: G.drop A, some ⟨g8, 0, none⟩, c8, by omega, by rw [HLEN.out]; rw [hcap], by go_num, HR10.out, round_sorted HSO.out HAG.out (by first | exact H1.out | exact H1.out.imp id (fun h => by omega)) HGT.out, round_perm hlt HPE.out, HB10.out⟩
            case measure => simp [intOf]; omega
          · go_region_law ((refine step_shift (by rfl) (.tmp 35) (.tmp 38) (by rfl) g8 A G.length cur8 (G.map (·.1)) (.slice none 0 0) (some ⟨g8, A + 1, none⟩) (c8 - (A + 1)) (c8 - A) (by simp [Act.eval, Act.put]) (by simp [Act.eval, Act.put]) HCURD.out HT8.out (List.length_map _) HAG.out (fun _ => rfl) (heads_one HIN.out) ?_); intro w9 hcur9 hgr9)
            obtain ⟨hB9, hin9⟩ := sort_keep HB.out HIN.out HGO.out HGR.out HOWN.out hgr9
            have HB9 := Lib.hid hB9
            have HIN9 := Lib.hid hin9
            have HC9 := Lib.hid hcur9.out
            clear hB9 hin9 hcur9 hgr9 HB HIN HGO HGR HOWN HCUR HCURD HG7 HNEW HZ7
            go_wp2_with fail
            refine (rcopy_any (rAt L k) q cp _ (HR0.out.low HB9.out) hs HQN.out).mono ?_
            rintro e w10 ⟨v10, rfl, hin10, hb10⟩
            obtain ⟨hR10, hB10, ⟨y10, hy10⟩, hf10⟩ := sort_round HB9.out HIN9.out HC9.out HT8.out HAG.out hg8 HN8.out hm8 hl8 hin10 hb10
            have hv10 : v10 = .slice (rowP v10) (rAt L k).length (rowC v10) := (owned_shape hin10.1).1
            generalize rowP v10 = p10 at hv10
            generalize rowC v10 = c10 at hv10
            subst hv10
            have HR10 := Lib.hid hR10
            have HB10 := Lib.hid hB10
            have hlen : (G.take A ++ (Value.slice p10 (rAt L k).length c10, rAt L k) :: G.drop A).length = G.length + 1 := by rw [List.length_append, List.length_take, List.length_cons, List.length_drop]; omega
            have HLEN := Lib.hid hlen
            have hAI : (A : Int) < (G.length : Int) + 1 := by omega
            clear hR10 hB10 hin10 hb10 hlen
            go_wp2
            go_roundw
            case rel => exact ⟨k + 1, G.take A ++ (Value.slice p10 (rAt L k).length c10, rAt L k) :: G.drop A, some ⟨g8, 0, none⟩, c8, by omega, by rw [HLEN.out], by go_num, HR10.out, round_sorted HSO.out HAG.out (by first | exact H1.out | exact H1.out.imp id (fun h => by omega)) HGT.out, round_perm hlt HPE.out, HB10.out⟩
            case measure => simp [intOf]; omega
    · have hlt' : decide ((k : Int) < L.length) = false := decide_eq_false (by omega)
      obtain rfl : k = L.length := by omega
      have hgl2 : G.length = L.length := by have := HPE.out.length_eq; rw [List.length_map, List.length_take, Nat.min_self] at this; exact this
      go_wp2
      go_ret
      exact ⟨po, co, G, by rw [← hgl2]; rfl, sort_post HSO.out HPE.out, HG.out, HB.out⟩
end Go.Proofs.YtlnbpobipmejfaaGreatDoor
/-
  SameBag and Minus of the reference.
-/
namespace Go.Proofs.YtlnbpobipmejfaaGreatDoor
set_option maxRecDepth 100000
open Go.RowKit
variable {ls : List Nat}

theorem ext_rows {A B : List (List Val)} (hl : A.length = B.length) (h : ∀ i, i < A.length → rAt A i = rAt B i) : A = B := by
  apply List.ext_getElem hl
  intro i h1 h2
  have := h i h1
  rw [rAt_get h1, rAt_get h2] at this
  exact this
theorem sort_rows {w' : World} {base cap : Nat} {p : Option Addr} {L : List (List Val)} {G : List (Value × List Val)} (hg : G.map (·.2) = srt L) (h : Rows2 w' base (.slice p G.length cap) G) : RowsAt w' p (srt L) := by
  rw [← hg]
  exact h.rows
/-- Sort, as a list of rows. -/
def SortedPost (L : List (List Val)) (w : World) (e : Ending) (w' : World) : Prop := ∃ (p : Option Addr) (cap : Nat), e = .returned (.slice p (srt L).length cap) ∧ RowsAt w' p (srt L) ∧ (srt L).length = L.length ∧ Below w.heap.size w w'
theorem rsorted_any (L : List (List Val)) (p : Option Addr) (cap : Nat) (w : World) (hL : L.length ≤ 1000) (hp : RowsAt w p L) :
    Calls Tryz.prog 36 #[.slice p L.length cap] w (SortedPost L w) :=
  (rsort_any L p cap w hL hp).mono fun e w' ⟨p', cap', G, he, hg, hr, hb⟩ => ⟨p', cap', by rw [srt_length]; exact he, sort_rows hg hr, srt_length L, hb⟩
end Go.Proofs.YtlnbpobipmejfaaGreatDoor
