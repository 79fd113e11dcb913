/-
  Several texts in one.
-/
import Derived.Test.YtgaihglploedaaaDoorPk30
import Derived.Test.YtgaihglploedaaaDoorPk40
import Derived.Test.YtgaihglploedaaaDoorPk34
import Derived.MapKept
import Derived.Carry
/-
  The state of a law that draws tables: its tape, the package's words, the memory before the law; the world's calls over it.
-/
namespace Go.Proofs.YtgaihglploedaaaDoor
set_option maxRecDepth 100000
open Go.RowKit
variable {ls : List Nat}

structure Wd (ls : List Nat) (b : Nat) (w u : World) : Prop where
  tape : TapeAt u b
  env : Env ls u
  bel : Below w.heap.size w u
  lo : w.heap.size ≤ b
  g : 3 ≤ b
section
variable {b Z : Nat} {w u v : World} {T : Tab}
theorem Wd.step (h : Wd ls b w u) (hs : StepT b u v) (ht : TapeAt v b) : Wd ls b w v := ⟨ht, h.env.step hs h.g, h.bel.trans (hs.below h.lo h.bel.size), h.lo, h.g⟩
theorem Wd.low (h : Wd ls b w u) (hb : Below u.heap.size u v) : Wd ls b w v := h.step (step_low hb) (h.tape.below hb)
theorem Wd.alloc (h : Wd ls b w u) (o : Obj) : Wd ls b w (u.alloc o) := h.low (below_alloc u o)
theorem wd_new (hE : Env ls u) (hB : Below w.heap.size w u) (p : Option Addr) (len cap : Nat) (hl : len ≤ cap) (hm : len ≤ 9223372036854775807) (h : IntsAt u p len) :
    Calls Tryd.prog 12 #[.slice p len cap] u fun e v => ∃ b : Nat, e = .returned (.pointer (some ⟨b, 0, none⟩)) ∧ u.heap.size ≤ b ∧ Wd ls b w v ∧ Below u.heap.size u v :=
  (new_any u p len cap hl hm h).mono fun _ _ ⟨b, he, hb0, ht, hb1⟩ => ⟨b, he, hb0, ⟨ht, hE.low hb1, below_next hB hb1, Nat.le_trans hB.size hb0, Nat.le_trans hE.size hb0⟩, hb1⟩
theorem Wd.table (h : Wd ls b w u) :
    Calls Tryd.prog 34 #[.pointer (some ⟨b, 0, none⟩)] u fun e v => ∃ k : Nat, e = .returned (.string (wsNm k)) ∧ k < 3 ∧ Wd ls b w v ∧ StepT b u v :=
  (table_any b u h.tape).mono fun _ _ ⟨k, he, hk, ht, hs⟩ => ⟨k, he, hk, h.step hs ht, hs⟩
theorem wsNm_size8 (k : Nat) : (wsNm k).size ≤ 9223372036854775807 := by
  match k with
  | 0 => decide
  | 1 => decide
  | k + 2 => show (ByteArray.mk #[108, 111, 103]).size ≤ _; decide
/-- The columns of a schema of the world lie in a block. -/
structure Sch (b k Z : Nat) (u : World) : Prop where
  cols : ColsAt u (some ⟨Z, 0, none⟩) (wsN k) (wsF k)
  zb : Z ≠ b
  z : Z < u.heap.size
theorem Wd.schema (h : Wd ls b w u) (k : Nat) :
    Calls Tryd.prog 33 #[.string (wsNm k)] u fun e v => ∃ Z : Nat, e = .returned (schV (wsNm k) (some ⟨Z, 0, none⟩) (wsN k) (wsN k)) ∧ Sch b k Z v ∧ Wd ls b w v ∧ Below u.heap.size u v :=
  (schemaK_any k u).mono fun _ v ⟨Z, he, hZ, hZl, hb⟩ => ⟨Z, he, ⟨hZ, (by have := h.tape.lt; omega), (by
    obtain ⟨c, o, he, hc⟩ := hZ.ptr (by have := schemaOK_range (ws_valid k); omega)
    cases he
    exact hc)⟩, h.low hb, hb⟩
/-- A table that was drawn: it lies in every world that the tape may lead to. -/
structure Tb (b Z : Nat) (u : World) (T : Tab) : Prop where
  all : ∀ v, StepT b u v → TabAt v T
  pc : T.pc = some ⟨Z, 0, none⟩
  val : T.valid = true
  len : T.R.length ≤ 40
  nms : T.nm.size ≤ 9223372036854775807
  zb : Z ≠ b
  z : Z < u.heap.size
theorem Tb.step (h : Tb b Z u T) (hs : StepT b u v) : Tb b Z v T := ⟨fun x hx => h.all x (hs.trans hx), h.pc, h.val, h.len, h.nms, h.zb, Nat.lt_of_lt_of_le h.z hs.size⟩
theorem Tb.low (h : Tb b Z u T) (hb : Below u.heap.size u v) : Tb b Z v T := h.step (step_low hb)
theorem Tb.at (h : Tb b Z u T) : TabAt u T := h.all u (StepT.refl b u)
theorem Tb.sok (h : Tb b Z u T) : schemaOK T.nm T.n T.f = true := (validT_parts h.val).1
theorem Wd.tableOf (h : Wd ls b w u) (hlw : 1 ∈ ls) {k : Nat} (hS : Sch b k Z u) (m : Nat) (hm : m ≤ 20) :
    Calls Tryd.prog 32 #[.pointer (some ⟨b, 0, none⟩), schV (wsNm k) (some ⟨Z, 0, none⟩) (wsN k) (wsN k), .int .i64 m] u fun e v => ∃ T : Tab, e = .returned (.agg #[.string T.nm, .slice T.pc T.n T.cc, .int .i64 T.nx, .slice T.pr T.R.length T.cr]) ∧ Tb b Z v T ∧ T.nm = wsNm k ∧ T.n = wsN k ∧ T.f = wsF k ∧ T.R.length ≤ m ∧ Wd ls b w v ∧ StepT b u v :=
  (tableof_any b u h.g h.tape h.env hlw (wsNm k) ⟨Z, 0, none⟩ (wsN k) (wsN k) m (wsF k) hm (wsNm_size8 k) hS.cols hS.zb hS.z (ws_valid k)).mono fun _ _ ⟨T, he, h1, h2, h3, h4, h5, h6, h7, h8, ht, hs⟩ =>
    ⟨T, he, ⟨h8, h2, h7, Nat.le_trans h6 (Nat.le_trans hm (by decide)), by rw [h1]; exact wsNm_size8 k, hS.zb, Nat.lt_of_lt_of_le hS.z hs.size⟩, h1, h3, h5, h6, h.step hs ht, hs⟩
theorem Wd.tableOfT (h : Wd ls b w u) (hlw : 1 ∈ ls) (t : Tb b Z u T) (m : Nat) (hm : m ≤ 20) :
    Calls Tryd.prog 32 #[.pointer (some ⟨b, 0, none⟩), .agg #[.string T.nm, .slice T.pc T.n T.cc], .int .i64 m] u fun e v => ∃ S : Tab, e = .returned (.agg #[.string S.nm, .slice S.pc S.n S.cc, .int .i64 S.nx, .slice S.pr S.R.length S.cr]) ∧ Tb b Z v S ∧ S.nm = T.nm ∧ S.n = T.n ∧ S.f = T.f ∧ S.R.length ≤ m ∧ Wd ls b w v ∧ StepT b u v := by
  have hC : ColsAt u T.pc T.n T.f := t.at.cols
  have hx := tableof_any b u h.g h.tape h.env hlw T.nm ⟨Z, 0, none⟩ T.n T.cc m T.f hm t.nms (by rw [← t.pc]; exact hC) t.zb t.z t.sok
  rw [← t.pc] at hx
  exact hx.mono fun _ _ ⟨S, he, h1, h2, h3, h4, h5, h6, h7, h8, ht, hs⟩ =>
    ⟨S, he, ⟨h8, h2, h7, Nat.le_trans h6 (Nat.le_trans hm (by decide)), by rw [h1]; exact t.nms, t.zb, Nat.lt_of_lt_of_le t.z hs.size⟩, h1, h3, h5, h6, h.step hs ht, hs⟩
/-- A change that was drawn. -/
structure Cb (b : Nat) (u : World) (C : Chg) : Prop where
  all : ∀ v, StepT b u v → ChgAt v C
  i : C.I.length ≤ 3
  d : C.D.length ≤ 40
  u : C.U.length ≤ 40
theorem Cb.step {C : Chg} (h : Cb b u C) (hs : StepT b u v) : Cb b v C := ⟨fun x hx => h.all x (hs.trans hx), h.i, h.d, h.u⟩
theorem Cb.low {C : Chg} (h : Cb b u C) (hb : Below u.heap.size u v) : Cb b v C := h.step (step_low hb)
theorem Cb.at {C : Chg} (h : Cb b u C) : ChgAt u C := h.all u (StepT.refl b u)
theorem Wd.changeOf (h : Wd ls b w u) (hlw : 1 ∈ ls) (t : Tb b Z u T) :
    Calls Tryd.prog 48 #[.pointer (some ⟨b, 0, none⟩), .agg #[.string T.nm, .slice T.pc T.n T.cc, .int .i64 T.nx, .slice T.pr T.R.length T.cr]] u fun e v => ∃ C : Chg, e = .returned (.agg #[.slice C.pi C.I.length C.ci, .slice C.pd C.D.length C.cd, .slice C.pu C.U.length C.cu]) ∧ Cb b v C ∧ Wd ls b w v ∧ StepT b u v :=
  (changeofT_any b u h.g h.tape h.env hlw T ⟨Z, 0, none⟩ t.pc t.all t.val t.len t.zb t.z).mono fun _ _ ⟨C, he, h1, ht, hs, h2, h3, h4⟩ => ⟨C, he, ⟨h1, h2, h3, h4⟩, h.step hs ht, hs⟩
theorem Wd.spoiledT (h : Wd ls b w u) (hlw : 1 ∈ ls) (t : Tb b Z u T) (h20 : T.R.length ≤ 20) :
    Calls Tryd.prog 35 #[.pointer (some ⟨b, 0, none⟩), .agg #[.string T.nm, .slice T.pc T.n T.cc, .int .i64 T.nx, .slice T.pr T.R.length T.cr]] u fun e v => ∃ S : Tab, e = .returned (.agg #[.string S.nm, .slice S.pc S.n S.cc, .int .i64 S.nx, .slice S.pr S.R.length S.cr]) ∧ TabAt v S ∧ Wd ls b w v ∧ StepT b u v :=
  (spoiledt_any b u h.g h.tape h.env hlw T.nm T.pc T.n T.cc T.f T.nx T.pr T.cr T.R t.nms t.all t.val h20 (fun a ha => by rw [t.pc] at ha; cases ha; exact t.zb)).mono fun _ _ ⟨S, he, h1, ht, hs⟩ => ⟨S, he, h1 _ (StepT.refl b _), h.step hs ht, hs⟩
end
end Go.Proofs.YtgaihglploedaaaDoor
/-
  A map from whole numbers to truths that the call makes: what it holds, by the list of its keys.
-/
namespace Go.Proofs.YtgaihglploedaaaDoor
set_option maxRecDepth 100000
open Go.RowKit
variable {ls : List Nat}

theorem find_int (x : Int) : ∀ (es : List MapEntry) (S : List Int) (i : Nat), es.map (·.key) = S.map (Value.int .i64) → (∀ e ∈ es, e.val = .bool true) →
    (x ∉ S ∧ Instr.findNow (.int .i64) (.int .i64 x) es i = some none) ∨ (x ∈ S ∧ ∃ j, Instr.findNow (.int .i64) (.int .i64 x) es i = some (some (j, .bool true)))
  | [], S, i, hk, hv => by
    have : S = [] := by cases S with
      | nil => rfl
      | cons x S => simp at hk
    subst this
    exact .inl ⟨by simp, rfl⟩
  | e :: es, S, i, hk, hv => by
    cases S with
    | nil => simp at hk
    | cons y S =>
      rw [List.map_cons, List.map_cons] at hk
      injection hk with hk1 hk2
      have hs : Instr.sameNow (.int .i64) (.int .i64 x) e.key = some (x == y) := by rw [hk1]; simp [Instr.sameNow]
      by_cases hx : x = y
      · rw [beq_iff_eq.2 hx] at hs
        refine .inr ⟨by rw [hx]; exact List.mem_cons_self, i, ?_⟩
        have hev := hv e List.mem_cons_self
        simp [Instr.findNow, hs, hev]
      · rw [beq_eq_false_iff_ne.2 hx] at hs
        have hrun : Instr.findNow (.int .i64) (.int .i64 x) (e :: es) i = Instr.findNow (.int .i64) (.int .i64 x) es (i + 1) := by simp [Instr.findNow, hs]
        rcases find_int x es S (i + 1) hk2 (fun y hy => hv y (List.mem_cons_of_mem _ hy)) with ⟨h1, h2⟩ | ⟨h1, j, h2⟩
        · exact .inl ⟨by simp [hx, h1], by rw [hrun, h2]⟩
        · exact .inr ⟨List.mem_cons_of_mem _ h1, j, by rw [hrun, h2]⟩
theorem check_int (em : Bool) (x : Int) (w : World) : (Instr.checkKey em 10000 3 (.int .i64 x)).run Tryd.prog w = .ok () w := MapKept.run_checkKey Tryd.underlying3 (show MapKept.IsKey (.int .i64) (.int .i64 x) from rfl) em 9999
/-- Block b is a map whose keys are S, all with true. -/
def SeenI (w : World) (b : Nat) (S : List Int) : Prop := ∃ (es : Array MapEntry) (clock : Nat), w.heap[b]? = some (.map es clock) ∧ es.toList.map (·.key) = S.map (Value.int .i64) ∧ ∀ e ∈ es.toList, e.val = .bool true
theorem SeenI.new (w : World) : SeenI (w.alloc (.map #[] 0)) w.heap.size [] := ⟨#[], 0, by show (w.heap.push _)[w.heap.size]? = _; simp, rfl, fun e he => by simp at he⟩
theorem SeenI.lt {w : World} {b : Nat} {S : List Int} (h : SeenI w b S) : b < w.heap.size := by
  obtain ⟨es, clock, hb, -⟩ := h
  exact (Array.getElem?_eq_some_iff.1 hb).1
theorem SeenI.low {u v : World} {b : Nat} {S : List Int} (h : SeenI u b S) (hb : Below u.heap.size u v) : SeenI v b S := by
  obtain ⟨es, clock, h0, h1, h2⟩ := h
  exact ⟨es, clock, by rw [hb.block b (Array.getElem?_eq_some_iff.1 h0).1]; exact h0, h1, h2⟩
theorem SeenI.look {w : World} {b : Nat} {S : List Int} (h : SeenI w b S) (x : Int) (t : TypeId) (ht : Tryd.prog.underlying t = some (.map 3 4)) : (Instr.lookup t (.map (some b)) (.int .i64 x) false).run Tryd.prog w = .ok (.bool (decide (x ∈ S))) w := by
  obtain ⟨es, clock, hb, hk, hv⟩ := h
  have hz : (zeroValue 4).run Tryd.prog w = .ok (.bool false) w := by go_simp
  rcases find_int x es.toList S 0 hk hv with ⟨h1, h2⟩ | ⟨h1, j, h2⟩
  · have hf := MapKept.run_findKey (w := w) Tryd.underlying3 h2
    rw [decide_eq_false h1]
    simp [Instr.lookup, run_underlying ht, MapKept.run_getObj_map hb, check_int, hf, hz, Result.andThen]
  · have hf := MapKept.run_findKey (w := w) Tryd.underlying3 h2
    rw [decide_eq_true h1]
    simp [Instr.lookup, run_underlying ht, MapKept.run_getObj_map hb, check_int, hf, Result.andThen]
theorem SeenI.put {w : World} {b : Nat} {S : List Int} (h : SeenI w b S) (x : Int) (hn : x ∉ S) (t : TypeId) (ht : Tryd.prog.underlying t = some (.map 3 4)) :
    ∃ w', (Instr.mapUpdate t (.map (some b)) (.int .i64 x) (.bool true)).run Tryd.prog w = .ok () w' ∧ SeenI w' b (S ++ [x]) ∧ w.grownBy w' (some b) := by
  obtain ⟨es, clock, hb, hk, hv⟩ := h
  rcases find_int x es.toList S 0 hk hv with ⟨h1, h2⟩ | ⟨h1, -⟩
  · have hf := MapKept.run_findKey (w := w) Tryd.underlying3 h2
    refine ⟨{ w with heap := w.heap.setIfInBounds b (.map (es.push { key := .int .i64 x, val := .bool true, born := clock }) (clock + 1)) }, ?_, ?_, ?_⟩
    · simp [Instr.mapUpdate, run_underlying ht, MapKept.run_getObj_map hb, check_int, hf, MapKept.run_setObj_map _ hb, Result.andThen]
    · refine ⟨es.push { key := .int .i64 x, val := .bool true, born := clock }, clock + 1, ?_, ?_, ?_⟩
      · have := (Array.getElem?_eq_some_iff.1 hb).1
        simp [this]
      · simp [hk]
      · intro e he
        simp at he
        rcases he with he | rfl
        · exact hv e (by simpa using he)
        · rfl
    · refine ⟨rfl, rfl, rfl, by simp, fun k _ hne => ?_⟩
      have : b ≠ k := fun e => hne (by rw [e])
      simp [this]
  · exact absurd h1 hn
end Go.Proofs.YtgaihglploedaaaDoor
