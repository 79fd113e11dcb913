/-
  Several texts in one.
-/
import Derived.Test.YtgaihglploedaaaPk06
import Derived.Test.YtgaihglploedaaaPk05
import Derived.Laws.CopyOwn
import Derived.Deep.RegionLaw
import Derived.Deep.AppendLies
import Derived.Lib.SmallJoins
import Derived.Deep.RegionHeld3
/-
  Columns in memory; Find and KeyColumn, of the program and of the reference.
-/
namespace Go.Proofs.Ytgaihglploedaaa
set_option maxRecDepth 100000
open Go.RowKit
variable {ls : List Nat}

/-- A box of two cells that may be written. -/
structure Cell2 (u : World) (X : Nat) (x y : Value) : Prop where
  lt : X < u.heap.size
  c0 : u.cell? ⟨X, 0, none⟩ = some x
  c1 : u.cell? ⟨X, 1, none⟩ = some y
  fz : ∀ o, u.frozen? ⟨X, o, none⟩ = false
theorem Cell2.low {u v : World} {X : Nat} {x y : Value} (h : Cell2 u X x y) (hb : Below u.heap.size u v) : Cell2 v X x y :=
  ⟨Nat.lt_of_lt_of_le h.lt hb.size, by rw [hb.cell (by exact h.lt)]; exact h.c0, by rw [hb.cell (by exact h.lt)]; exact h.c1, fun o => by rw [hb.frozen (by exact h.lt)]; exact h.fz o⟩
theorem cell2_new (w : World) (x y : Value) (t : TypeId) : Cell2 (w.alloc (.cells #[x, y] t)) w.heap.size x y := by
  refine ⟨by simp, ?_, ?_, fun o => ?_⟩
  all_goals go_simp
/-- A box of four cells that may be written. -/
structure Cell4 (u : World) (X : Nat) (a b c d : Value) : Prop where
  lt : X < u.heap.size
  c0 : u.cell? ⟨X, 0, none⟩ = some a
  c1 : u.cell? ⟨X, 1, none⟩ = some b
  c2 : u.cell? ⟨X, 2, none⟩ = some c
  c3 : u.cell? ⟨X, 3, none⟩ = some d
  fz : ∀ o, u.frozen? ⟨X, o, none⟩ = false
theorem Cell4.low {u v : World} {X : Nat} {a b c d : Value} (h : Cell4 u X a b c d) (hb : Below u.heap.size u v) : Cell4 v X a b c d :=
  ⟨Nat.lt_of_lt_of_le h.lt hb.size, by rw [hb.cell (by exact h.lt)]; exact h.c0, by rw [hb.cell (by exact h.lt)]; exact h.c1, by rw [hb.cell (by exact h.lt)]; exact h.c2, by rw [hb.cell (by exact h.lt)]; exact h.c3, fun o => by rw [hb.frozen (by exact h.lt)]; exact h.fz o⟩
theorem cell4_new (w : World) (a b c d : Value) (t : TypeId) : Cell4 (w.alloc (.cells #[a, b, c, d] t)) w.heap.size a b c d := by
  refine ⟨by simp, ?_, ?_, ?_, ?_, fun o => ?_⟩
  all_goals go_simp
theorem Cell2.at {u : World} {X Y : Nat} {x y : Value} (h : Cell2 u X x y) (e : X = Y) : Cell2 u Y x y := e ▸ h
theorem Cell4.at {u : World} {X Y : Nat} {a b c d : Value} (h : Cell4 u X a b c d) (e : X = Y) : Cell4 u Y a b c d := e ▸ h

/-- The cells of a column. -/
def colV (c : Col) : Value := .agg #[.string c.nm, .int .i64 c.ty, .bool c.nn, .bool c.key]
def schV (nm : ByteArray) (p : Option Addr) (n cap : Nat) : Value := .agg #[.string nm, .slice p n cap]
/-- A slice of columns. -/
def ColsAt (w : World) (p : Option Addr) (n : Nat) (f : Nat → Col) : Prop :=
  ∀ i, i < n → ∃ (c o : Nat), p = some ⟨c, o, none⟩ ∧ c < w.heap.size ∧ (f i).nm.size ≤ 9223372036854775807
    ∧ w.cell? ⟨c, o + i * 4, none⟩ = some (.string (f i).nm) ∧ w.cell? ⟨c, o + i * 4 + 1, none⟩ = some (.int .i64 (f i).ty) ∧ w.cell? ⟨c, o + i * 4 + 2, none⟩ = some (.bool (f i).nn) ∧ w.cell? ⟨c, o + i * 4 + 3, none⟩ = some (.bool (f i).key)
theorem ColsAt.keep {u v : World} {p : Option Addr} {n : Nat} {f : Nat → Col} (h : ColsAt u p n f) (hz : u.heap.size ≤ v.heap.size) (hk : ∀ a, p = some a → v.heap[a.block]? = u.heap[a.block]?) : ColsAt v p n f := by
  intro i hi
  obtain ⟨c, o, hp, hc, hs, h0, h1, h2, h3⟩ := h i hi
  have hb : v.heap[c]? = u.heap[c]? := hk _ hp
  exact ⟨c, o, hp, by omega, hs, by rw [World.cell?_of_block (w := u) hb]; exact h0, by rw [World.cell?_of_block (w := u) hb]; exact h1, by rw [World.cell?_of_block (w := u) hb]; exact h2, by rw [World.cell?_of_block (w := u) hb]; exact h3⟩
theorem ColsAt.low {u v : World} {p : Option Addr} {n : Nat} {f : Nat → Col} (h : ColsAt u p n f) (hb : Below u.heap.size u v) : ColsAt v p n f := by
  intro i hi
  obtain ⟨c, o, hp, hc, hs, h0, h1, h2, h3⟩ := h i hi
  have hk := hb.block c hc
  exact ⟨c, o, hp, Nat.lt_of_lt_of_le hc hb.size, hs, by rw [World.cell?_of_block (w := u) hk]; exact h0, by rw [World.cell?_of_block (w := u) hk]; exact h1, by rw [World.cell?_of_block (w := u) hk]; exact h2, by rw [World.cell?_of_block (w := u) hk]; exact h3⟩
theorem below_next {w u v : World} (h : Below w.heap.size w u) (k : Below u.heap.size u v) : Below w.heap.size w v := h.trans (k.mono h.size)
theorem below_new {w u : World} (h : Below w.heap.size w u) (o : Obj) : Below w.heap.size w (u.alloc o) := h.alloc h.size o
theorem four_one {w w' : World} {a b c d : Value} {t : TypeId} (hb : Below (w.alloc (.cells #[a, b, c, d] t)).heap.size (w.alloc (.cells #[a, b, c, d] t)) w') : Cell4 w' w.heap.size a b c d ∧ Below w.heap.size w w' :=
  ⟨(cell4_new _ _ _ _ _ _).low hb, Below.of_alloc hb⟩
theorem two_one {w w' : World} {a b : Value} {t : TypeId} (hb : Below (w.alloc (.cells #[a, b] t)).heap.size (w.alloc (.cells #[a, b] t)) w') : Cell2 w' w.heap.size a b ∧ Below w.heap.size w w' :=
  ⟨(cell2_new _ _ _ _).low hb, Below.of_alloc hb⟩
theorem cols_at {u : World} {X Y n : Nat} {f : Nat → Col} (e : X = Y) (h : ColsAt u (some ⟨X, 0, none⟩) n f) : ColsAt u (some ⟨Y, 0, none⟩) n f := e ▸ h
theorem ColsAt.set {u : World} {p : Option Addr} {n : Nat} {f : Nat → Col} (h : ColsAt u p n f) {a : Addr} (hp : ∀ q, p = some q → q.block ≠ a.block) (v : Value) : ColsAt (u.setCell a v) p n f :=
  h.keep (by simp [World.setCell]) fun q hq => Below.heap_setCell _ _ _ _ (hp q hq)
theorem cell2_set {u : World} {X : Nat} {a b : Value} (h : Cell2 u X a b) (x y : Value) : Cell2 ((u.setCell ⟨X, 0, none⟩ x).setCell ⟨X, 1, none⟩ y) X x y := by
  obtain ⟨hl, c0, c1, fz⟩ := h
  refine ⟨by simpa [World.setCell] using hl, ?_, ?_, fun o => ?_⟩
  · go_simp
  · go_simp
  · rw [World.frozen?_setCell, World.frozen?_setCell]; exact fz o

set_option maxHeartbeats 1000000 in
theorem keycol_any (nm : ByteArray) (p : Option Addr) (n cap : Nat) (f : Nat → Col) (w : World) (hn : n ≤ 9223372036854775807) (hC : ColsAt w p n f) :
    Calls Try.prog 27 #[.agg #[.string nm, .slice p n cap]] w fun e w' => e = .returned (.int .i64 (findKey f n)) ∧ Below w.heap.size w w' := by
  have HC := Lib.hid hC
  clear hC
  go_enter Try.func27, Try.ntmps27
  go_wp2_with fail
  go_loopw [8] (fun i v => ∃ k : Nat, k ≤ n ∧ i = .int .i64 k ∧ (∀ j, j < k → (f j).key = false) ∧ Below w.heap.size w v) (fun i _ => n - (intOf i).toNat)
  case atStart => exact ⟨0, Nat.zero_le _, rfl, fun j hj => by omega, below_new (Below.refl _ _) _⟩
  case round =>
    obtain ⟨k, hk, rfl, ha, hb⟩ := hrel
    have HA := Lib.hid ha
    have HB := Lib.hid hb
    clear ha hb
    by_cases hlt : k < n
    · have hlt' : decide ((k : Int) < n) = true := decide_eq_true (by omega)
      obtain ⟨c, o, rfl, hc, hs, h0, h1, h2, h3⟩ := HC.out.low HB.out k hlt
      cases hkey : (f k).key
      · have HK := Lib.hid hkey
        rw [hkey] at h3
        clear hkey
        go_wp2
        go_roundw
        case rel => exact ⟨k + 1, by omega, by go_num, all_succ HA.out HK.out, below_new HB.out _⟩
        case measure => simp [intOf]; omega
      · have HK := Lib.hid hkey
        rw [hkey] at h3
        clear hkey
        go_wp2
        go_ret
        exact ⟨ret_int (findI_hit (P := fun i => (f i).key) hlt HK.out HA.out).symm, below_new HB.out _⟩
    · have hlt' : decide ((k : Int) < n) = false := decide_eq_false (by omega)
      obtain rfl : k = n := by omega
      go_wp2
      go_ret
      exact ⟨ret_int (findI_none (P := fun i => (f i).key) HA.out).symm, HB.out⟩
set_option maxHeartbeats 1000000 in
theorem find_any (nm s : ByteArray) (p : Option Addr) (n cap : Nat) (f : Nat → Col) (w : World) (hn : n ≤ 9223372036854775807) (hC : ColsAt w p n f) :
    Calls Try.prog 29 #[.agg #[.string nm, .slice p n cap], .string s] w fun e w' => e = .returned (.int .i64 (findName f n s)) ∧ Below w.heap.size w w' := by
  have HC := Lib.hid hC
  clear hC
  go_enter Try.func29, Try.ntmps29
  go_wp2_with fail
  go_loopw [10] (fun i v => ∃ k : Nat, k ≤ n ∧ i = .int .i64 k ∧ (∀ j, j < k → eqT (f j).nm s = false) ∧ Below w.heap.size w v) (fun i _ => n - (intOf i).toNat)
  case atStart => exact ⟨0, Nat.zero_le _, rfl, fun j hj => by omega, below_new (Below.refl _ _) _⟩
  case round =>
    obtain ⟨k, hk, rfl, ha, hb⟩ := hrel
    have HA := Lib.hid ha
    have HB := Lib.hid hb
    clear ha hb
    by_cases hlt : k < n
    · have hlt' : decide ((k : Int) < n) = true := decide_eq_true (by omega)
      obtain ⟨c, o, rfl, hc, hs, h0, h1, h2, h3⟩ := HC.out.low HB.out k hlt
      cases he : eqT (f k).nm s
      · have HK := Lib.hid he
        have he' : ((f k).nm.toList == s.toList) = false := he
        clear he
        go_wp2
        go_roundw
        case rel => exact ⟨k + 1, by omega, by go_num, all_succ HA.out HK.out, below_new HB.out _⟩
        case measure => simp [intOf]; omega
      · have HK := Lib.hid he
        have he' : ((f k).nm.toList == s.toList) = true := he
        clear he
        go_wp2
        go_ret
        exact ⟨ret_int (findI_hit (P := fun i => eqT (f i).nm s) hlt HK.out HA.out).symm, below_new HB.out _⟩
    · have hlt' : decide ((k : Int) < n) = false := decide_eq_false (by omega)
      obtain rfl : k = n := by omega
      go_wp2
      go_ret
      exact ⟨ret_int (findI_none (P := fun i => eqT (f i).nm s) HA.out).symm, HB.out⟩
end Go.Proofs.Ytgaihglploedaaa
/-
  Slices of rows in memory; Copy and Count of the reference.
-/
namespace Go.Proofs.Ytgaihglploedaaa
set_option maxRecDepth 100000
open Go.RowKit
variable {ls : List Nat}

/-- A slice of rows. -/
def RowsAt (w : World) (p : Option Addr) (L : List (List Val)) : Prop :=
  ∀ i, i < L.length → ∃ (c o : Nat) (q : Option Addr) (cp : Nat), p = some ⟨c, o, none⟩ ∧ c < w.heap.size ∧ w.cell? ⟨c, o + i, none⟩ = some (.slice q (rAt L i).length cp) ∧ RowAt w q (rAt L i) ∧ (rAt L i).length * 32 ≤ 140737488355328 ∧ (q = none → rAt L i = [] ∧ cp = 0)
theorem RowsAt.low {u v : World} {p : Option Addr} {L : List (List Val)} (h : RowsAt u p L) (hb : Below u.heap.size u v) : RowsAt v p L := by
  intro i hi
  obtain ⟨c, o, q, cp, hp, hc, h0, hr, hs, hn⟩ := h i hi
  exact ⟨c, o, q, cp, hp, Nat.lt_of_lt_of_le hc hb.size, by rw [hb.cell (by exact hc)]; exact h0, hr.low hb, hs, hn⟩

/-- A row of the call's own: its slice, and its values. -/
def InRow (u : World) (base : Nat) (x : Value × List Val) : Prop := u.ownsRow base 31 3 x.1 x.2.length (vcells x.2) ∧ x.2.length * 32 ≤ 140737488355328
/-- Rows of the call's own, in a row of its own. -/
def Rows2 (u : World) (base : Nat) (vo : Value) (G : List (Value × List Val)) : Prop :=
  u.ownsRow base 32 1 vo G.length (G.map (·.1)) ∧ ∀ x ∈ G, InRow u base x
theorem owns_below {w w' : World} {base n size : Nat} {e : TypeId} {v : Value} {xs : List Value} (h : w.ownsRow base e size v n xs) (hb : Below w.heap.size w w') : w'.ownsRow base e size v n xs :=
  owns_keep h fun k hk => hb.block k (owns_lt h k hk)
theorem InRow.low {u v : World} {base : Nat} {x : Value × List Val} (h : InRow u base x) (hb : Below u.heap.size u v) : InRow v base x := ⟨owns_below h.1 hb, h.2⟩
theorem Rows2.low {u v : World} {base : Nat} {vo : Value} {G : List (Value × List Val)} (h : Rows2 u base vo G) (hb : Below u.heap.size u v) : Rows2 v base vo G :=
  ⟨owns_below h.1 hb, fun x hx => (h.2 x hx).low hb⟩
theorem Rows2.nil (w : World) (base : Nat) : Rows2 w base (.slice none 0 0) [] := ⟨⟨rfl, Or.inl ⟨rfl, rfl⟩⟩, fun x hx => by cases hx⟩
/-- Behind a growth of the outer row the inner ones are as they were. -/
theorem InRow.apart {u v : World} {base base' n : Nat} {vo : Value} {xs : List Value} {x : Value × List Val} (h : InRow u base x) (ho : u.ownsRow base' 32 1 vo n xs) (hb : ∀ k, k < u.heap.size → vo.ownBlock ≠ some k → v.heap[k]? = u.heap[k]?) : InRow v base x :=
  ⟨owns_keep h.1 fun k hk => hb k (owns_lt h.1 k hk) (owns_apart h.1 ho (by decide) k hk), h.2⟩
theorem Rows2.shape {u : World} {base : Nat} {vo : Value} {G : List (Value × List Val)} (h : Rows2 u base vo G) : vo = .slice (rowP vo) G.length (rowC vo) := by
  rcases h.1.2 with ⟨rfl, h0⟩ | ⟨g, cap', cur, rfl, -⟩
  · rw [h0]; rfl
  · rfl
theorem Rows2.read {u : World} {base : Nat} {p : Option Addr} {cap : Nat} {G : List (Value × List Val)} (h : Rows2 u base (.slice p G.length cap) G) (i : Nat) (hi : i < G.length) :
    ∃ g : Nat, p = some ⟨g, 0, none⟩ ∧ g < u.heap.size ∧ u.cell? ⟨g, i, none⟩ = some (.slice (rowP (gAt G i).1) (gAt G i).2.length (rowC (gAt G i).1)) ∧ RowAt u (rowP (gAt G i).1) (gAt G i).2 ∧ (rowP (gAt G i).1 = none → (gAt G i).2 = [] ∧ rowC (gAt G i).1 = 0) ∧ (gAt G i).2.length * 32 ≤ 140737488355328 := by
  have hmem : gAt G i ∈ G := by unfold gAt; rw [List.getD, List.getElem?_eq_getElem hi]; exact List.getElem_mem hi
  obtain ⟨hown, hlen⟩ := h.2 _ hmem
  obtain ⟨hv, hr, hn⟩ := owned_shape hown
  rcases h.1.2 with ⟨-, h0⟩ | ⟨g, cap', cur, he, hg, hh, hcap, hm, hcur, htake⟩
  · omega
  · injection he with he1 he2 he3
    refine ⟨g, he1, (Array.getElem?_eq_some_iff.1 hh).1, ?_, hr, hn, hlen⟩
    rw [← hv]
    have hj : (G.map (·.1))[i]? = some (gAt G i).1 := by
      rw [List.getElem?_map, List.getElem?_eq_getElem hi]
      simp [gAt, hi]
    rw [← htake, List.getElem?_take] at hj
    have hj' : cur.toList[i]? = some (gAt G i).1 := by
      split at hj
      · exact hj
      · cases hj
    simp [World.cell?, hh]
    simpa using hj'
theorem gAt_row {G : List (Value × List Val)} {i : Nat} (hi : i < G.length) : (gAt G i).2 = rAt (G.map (·.2)) i := by
  unfold gAt rAt
  rw [List.getD, List.getD, List.getElem?_map, List.getElem?_eq_getElem hi]
  rfl
theorem Rows2.rows {u : World} {base : Nat} {p : Option Addr} {cap : Nat} {G : List (Value × List Val)} (h : Rows2 u base (.slice p G.length cap) G) : RowsAt u p (G.map (·.2)) := by
  intro i hi
  rw [List.length_map] at hi
  obtain ⟨g, hp, hg, h0, h1, h2, h3⟩ := h.read i hi
  rw [gAt_row hi] at h0 h1 h2 h3
  exact ⟨g, 0, _, _, hp, hg, by rw [Nat.zero_add]; exact h0, h1, h3, h2⟩

def CopyPost (t : List Val) (w : World) (e : Ending) (w' : World) : Prop := ∃ v, e = .returned v ∧ InRow w' w.heap.size (v, t) ∧ Below w.heap.size w w'
end Go.Proofs.Ytgaihglploedaaa
/-
  Sort of the reference.
-/
namespace Go.Proofs.Ytgaihglploedaaa
set_option maxRecDepth 100000
open Go.RowKit
variable {ls : List Nat}

theorem InRow.base {u : World} {b b' : Nat} {x : Value × List Val} (h : InRow u b x) (hb : b' ≤ b) : InRow u b' x := ⟨owns_base h.1 hb, h.2⟩
end Go.Proofs.Ytgaihglploedaaa
/-
  SameBag and Minus of the reference.
-/
namespace Go.Proofs.Ytgaihglploedaaa
set_option maxRecDepth 100000
open Go.RowKit
variable {ls : List Nat}

theorem ext_rows {A B : List (List Val)} (hl : A.length = B.length) (h : ∀ i, i < A.length → rAt A i = rAt B i) : A = B := by
  apply List.ext_getElem hl
  intro i h1 h2
  have := h i h1
  rw [rAt_get h1, rAt_get h2] at this
  exact this
end Go.Proofs.Ytgaihglploedaaa
