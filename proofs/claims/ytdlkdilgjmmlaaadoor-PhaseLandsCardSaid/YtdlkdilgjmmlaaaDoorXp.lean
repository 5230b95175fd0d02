/- A turn (layer 15): New, Copy, Same, Begin, Next, on a board without objects. -/
import Derived.Test.YtdlkdilgjmmlaaaDoorXf
import Derived.Test.YtdlkdilgjmmlaaaDoorRb
import Derived.Deep.Cut
import Derived.Deep.DeepCutAuto
import Derived.Deep.RegionHeld3
import Derived.Deep.RegionWith
namespace Go.Proofs.YtdlkdilgjmmlaaaDoor
open Go.RowKit Go.Maps
attribute [local go_sem] Oper.semAt_some

/-- From one world to another blocks of one owner alone were changed, and it has new ones. -/
structure TurnedO (w w' : World) (own own' : Nat → Prop) : Prop where
  os : w'.os = w.os
  tape : w'.tape = w.tape
  output : w'.output = w.output
  size : w.heap.size ≤ w'.heap.size
  block : ∀ k, k < w.heap.size → ¬own k → w'.heap[k]? = w.heap[k]?
  own : ∀ k, k < w.heap.size → own' k → own k
theorem TurnedB.o {w w' : World} {g g' : GhostB} (h : TurnedB w w' g g') : TurnedO w w' g.own g'.own := ⟨h.os, h.tape, h.output, h.size, h.block, h.own⟩
theorem TurnedO.of_below {w w' : World} {own : Nat → Prop} (hb : Below w.heap.size w w') : TurnedO w w' own own := ⟨hb.os, hb.tape, hb.output, hb.size, fun k hk _ => hb.block k hk, fun _ _ h => h⟩
theorem TurnedO.trans {w w1 w2 : World} {a b c : Nat → Prop} (h : TurnedO w w1 a b) (k : TurnedO w1 w2 b c) : TurnedO w w2 a c :=
  ⟨k.os.trans h.os, k.tape.trans h.tape, k.output.trans h.output, Nat.le_trans h.size k.size,
    fun i hi ht => (k.block i (Nat.lt_of_lt_of_le hi h.size) (fun e => ht (h.own i hi e))).trans (h.block i hi ht),
    fun i hi e => h.own i hi (k.own i (Nat.lt_of_lt_of_le hi h.size) e)⟩
theorem TurnedO.below {A w w' : World} {a b : Nat → Prop} (h : TurnedO w w' a b) (hA : Below A.heap.size A w) (hlo : ∀ k, a k → A.heap.size ≤ k) : Below A.heap.size A w' :=
  ⟨h.os.trans hA.os, h.tape.trans hA.tape, h.output.trans hA.output, Nat.le_trans hA.size h.size, fun k hk =>
    (h.block k (Nat.lt_of_lt_of_le hk hA.size) (fun hn => by have := hlo k hn; omega)).trans (hA.block k hk)⟩
theorem TurnedO.left {w w' : World} {a b c : Nat → Prop} (h : TurnedO w w' a b) : TurnedO w w' (fun k => a k ∨ c k) (fun k => b k ∨ c k) :=
  ⟨h.os, h.tape, h.output, h.size, fun k hk hn => h.block k hk (fun e => hn (.inl e)), fun k hk e => e.imp (h.own k hk) id⟩
theorem own_kept {w w' : World} {base sz n : Nat} {t : TypeId} {v : Value} {xs : List Value} (h : w.ownsRow base t sz v n xs) (hk : ∀ k, v.ownBlock = some k → w'.heap[k]? = w.heap[k]?) : w'.ownsRow base t sz v n xs := by
  refine ⟨h.1, ?_⟩
  rcases h.2 with h2 | ⟨g, cap, cur, e, hb2, hg, r⟩
  · exact .inl h2
  · exact .inr ⟨g, cap, cur, e, hb2, (hk g (by rw [e]; rfl)).trans hg, r⟩
structure RepAt (w : World) (base : Nat) (own : Nat → Prop) (v : Value) (L : List Int) : Prop where
  row : w.ownsRow base 3 1 v L.length (intsV L)
  off : ∀ k, v.ownBlock = some k → ¬own k
theorem RepAt.turn {w w' : World} {base : Nat} {own own' : Nat → Prop} {v : Value} {L : List Int} (h : RepAt w base own v L) (ht : TurnedO w w' own own') : RepAt w' base own' v L := by
  have hlt : ∀ k, v.ownBlock = some k → k < w.heap.size := fun k e => (World.ownsRow.lt h.row k e).2
  exact ⟨own_kept h.row fun k e => ht.block k (hlt k e) (h.off k e), fun k e hk => h.off k e (ht.own k (hlt k e) hk)⟩

/-! A turn, as it lies there. -/
structure TurnL where
  team : Int
  no : Int
  phase : Int
  laid : DryL
def TurnAt (w : World) (t : Nat) (y : TurnL) : Prop := w.heap[t]? = some (.cells #[.int .i64 y.team, .int .i64 y.no, .int .i64 y.phase, .bool y.laid.a, .bool y.laid.b, .bool y.laid.c, .bool y.laid.d] 41 (0, 0))
theorem TurnAt.lt {w : World} {t : Nat} {y : TurnL} (h : TurnAt w t y) : t < w.heap.size := (Array.getElem?_eq_some_iff.1 h).1
theorem TurnAt.cells {w : World} {t : Nat} {y : TurnL} (h : TurnAt w t y) : w.cell? ⟨t, 0, none⟩ = some (.int .i64 y.team) ∧ w.cell? ⟨t, 1, none⟩ = some (.int .i64 y.no) ∧ w.cell? ⟨t, 2, none⟩ = some (.int .i64 y.phase) ∧
    w.cell? ⟨t, 3, none⟩ = some (.bool y.laid.a) ∧ w.cell? ⟨t, 4, none⟩ = some (.bool y.laid.b) ∧ w.cell? ⟨t, 5, none⟩ = some (.bool y.laid.c) ∧ w.cell? ⟨t, 6, none⟩ = some (.bool y.laid.d) := by
  have hc := fun j => cell_of_row w t j _ _ _ h
  exact ⟨hc 0, hc 1, hc 2, hc 3, hc 4, hc 5, hc 6⟩
theorem TurnAt.free {w : World} {t : Nat} {y : TurnL} (h : TurnAt w t y) (j : Nat) : w.frozen? ⟨t, j, none⟩ = false := frozen_of_row w t j _ _ h
theorem TurnAt.of {w w' : World} {t : Nat} {y : TurnL} (h : TurnAt w t y) (e : w'.heap[t]? = w.heap[t]?) : TurnAt w' t y := e.trans h
theorem TurnAt.later {w w' : World} {t : Nat} {y : TurnL} (h : TurnAt w t y) (hb : Below w.heap.size w w') : TurnAt w' t y := h.of (hb.block t h.lt)
theorem TurnAt.phase2 {w : World} {t : Nat} {y : TurnL} (h : TurnAt w t y) (p : Int) : TurnAt (w.setCell ⟨t, 2, none⟩ (.int .i64 p)) t { y with phase := p } :=
  RowAt.set (xs := [.int .i64 y.team, .int .i64 y.no, .int .i64 y.phase, .bool y.laid.a, .bool y.laid.b, .bool y.laid.c, .bool y.laid.d]) h 2 (.int .i64 p)
/-- A turn's box and a board. -/
def own3 (g : GhostB) (t : Nat) (k : Nat) : Prop := g.own k ∨ k = t
structure PhAt (w : World) (lo : Nat) (g : GhostB) (B : BoardL) (t : Nat) (y : TurnL) : Prop where
  bd : BoardAt w lo g B
  tu : TurnAt w t y
  nt : ¬g.own t
theorem PhAt.later {w w' : World} {lo t : Nat} {g : GhostB} {B : BoardL} {y : TurnL} (h : PhAt w lo g B t y) (hb : Below w.heap.size w w') : PhAt w' lo g B t y := ⟨h.bd.later hb, h.tu.later hb, h.nt⟩
theorem PhAt.ownLt {w : World} {lo t k : Nat} {g : GhostB} {B : BoardL} {y : TurnL} (h : PhAt w lo g B t y) (hk : own3 g t k) : k < w.heap.size := by
  rcases hk with hk | rfl
  · exact h.bd.ownLt hk
  · exact h.tu.lt
/-- The board has changed, the turn hasn't. -/
theorem PhAt.board {w w' : World} {lo t : Nat} {g g' : GhostB} {B B' : BoardL} {y : TurnL} (h : PhAt w lo g B t y) (hb : BoardAt w' lo g' B') (ht : TurnedO w w' g.own g'.own) : PhAt w' lo g' B' t y ∧ TurnedO w w' (own3 g t) (own3 g' t) :=
  ⟨⟨hb, h.tu.of (ht.block t h.tu.lt h.nt), fun e => h.nt (ht.own t h.tu.lt e)⟩, ht.left⟩
/-- The turn's box alone has changed. -/
theorem PhAt.turn {w w' : World} {lo t : Nat} {g : GhostB} {B : BoardL} {y y' : TurnL} (h : PhAt w lo g B t y) (hs : w.heap.size ≤ w'.heap.size) (hk : ∀ k, k ≠ t → k < w.heap.size → w'.heap[k]? = w.heap[k]?) (ht : TurnAt w' t y') (ho : w'.os = w.os ∧ w'.tape = w.tape ∧ w'.output = w.output) :
    PhAt w' lo g B t y' ∧ TurnedO w w' (own3 g t) (own3 g t) :=
  ⟨⟨h.bd.kept hs fun k e => hk k (fun e2 => h.nt (by rw [← e2]; exact e)) (h.bd.ownLt e), ht, h.nt⟩, ⟨ho.1, ho.2.1, ho.2.2, hs, fun k h1 h2 => hk k (fun e => h2 (.inr e)) h1, fun _ _ e => e⟩⟩
def RetPh (w : World) (lo : Nat) (g : GhostB) (B : BoardL) (t : Nat) (y : TurnL) (e : Ending) (w' : World) : Prop :=
  e = .returned (.tuple #[]) ∧ ∃ g' D, PhAt w' lo g' ⟨B.S, B.T, D⟩ t y ∧ g'.q = g.q ∧ TurnedO w w' (own3 g t) (own3 g' t)

/-! Two turns compared. -/
theorem part40b (a b c d : Value) (W : World) : (part 4 #[a, b, c, d] 0).run Tryd.prog W = .ok a W := by kernel_rfl
theorem part41b (a b c d : Value) (W : World) : (part 4 #[a, b, c, d] 1).run Tryd.prog W = .ok b W := by kernel_rfl
theorem part42b (a b c d : Value) (W : World) : (part 4 #[a, b, c, d] 2).run Tryd.prog W = .ok c W := by kernel_rfl
theorem part43b (a b c d : Value) (W : World) : (part 4 #[a, b, c, d] 3).run Tryd.prog W = .ok d W := by kernel_rfl
theorem eqB1 (d : Nat) (x y : Bool) (w : World) : (Op.equalIn (d + 1) 4 (.bool x) (.bool y)).run Tryd.prog w = .ok (x == y) w := run_equalIn_bool w d 4 x y Tryd.underlying4
theorem sizeB1 (w : World) : (sizeOf 4).run Tryd.prog w = .ok 1 w := by kernel_rfl
set_option maxRecDepth 100000 in
theorem equalB4 (n : Nat) (a b c d : Bool) (W : World) : (Op.equalIn (n + 2) 39 (.agg #[.bool a, .bool b, .bool c, .bool d]) (.agg #[.bool a, .bool b, .bool c, .bool d])).run Tryd.prog W = .ok true W := by
  generalize hX : #[Value.bool a, .bool b, .bool c, .bool d] = X
  have p0 := fun W => hX ▸ part40b (.bool a) (.bool b) (.bool c) (.bool d) W
  have p1 := fun W => hX ▸ part41b (.bool a) (.bool b) (.bool c) (.bool d) W
  have p2 := fun W => hX ▸ part42b (.bool a) (.bool b) (.bool c) (.bool d) W
  have p3 := fun W => hX ▸ part43b (.bool a) (.bool b) (.bool c) (.bool d) W
  clear hX
  rw [Op.equalIn]
  simp only [Sem.run_bind, run_underlying Tryd.underlying39, Result.andThen_ok, sizeB1]
  rw [Std.Legacy.Range.forIn_eq_forIn_range']
  simp only [Std.Legacy.Range.size, Nat.sub_zero, Nat.add_sub_cancel, Nat.div_one, List.range', List.forIn_cons, List.forIn_nil, Nat.mul_one, Nat.zero_add, Sem.run_bind, p0, Result.andThen_ok, eqB1]
  simp [p1, p2, p3, eqB1]
set_option maxRecDepth 100000 in
theorem eqTurn (n : Nat) (y : TurnL) (W : World) : (Op.equalIn (n + 4) 41 (.agg #[.int .i64 y.team, .int .i64 y.no, .int .i64 y.phase, .bool y.laid.a, .bool y.laid.b, .bool y.laid.c, .bool y.laid.d]) (.agg #[.int .i64 y.team, .int .i64 y.no, .int .i64 y.phase, .bool y.laid.a, .bool y.laid.b, .bool y.laid.c, .bool y.laid.d])).run Tryd.prog W = .ok true W := by
  have h4 := fun (n : Nat) (W : World) => equalB4 n y.laid.a y.laid.b y.laid.c y.laid.d W
  have uI := Tryd.underlying3
  have gI := Tryd.isAgg3
  have zI := Tryd.sizeOf3
  have gA := Tryd.isAgg39
  have zA := Tryd.sizeOf39
  have hS : Tryd.prog.underlying 41 = some (.struct (Tryd.prog.fieldsOf 41)) := by kernel_rfl
  rw [run_equalIn_agg W (n + 3) 41 _ _ hS (by kernel_rfl)]
  simp only [Program.fieldsOf, Tryd.underlying41]
  go_simp
theorem eqlTurn (y : TurnL) (W : World) : (binOp .eql 41 (.agg #[.int .i64 y.team, .int .i64 y.no, .int .i64 y.phase, .bool y.laid.a, .bool y.laid.b, .bool y.laid.c, .bool y.laid.d]) (.agg #[.int .i64 y.team, .int .i64 y.no, .int .i64 y.phase, .bool y.laid.a, .bool y.laid.b, .bool y.laid.c, .bool y.laid.d])).run Tryd.prog W = .ok (.bool true) W := by
  rw [run_eql_struct, eqTurn 9996]
  rfl
theorem eqlgT (x y : Operand) (xs ys : Array Value) (W : World) : (eqGuard .eql 41 x y (.agg xs) (.agg ys)).run Tryd.prog W = .ok () W := run_eqGuard_agg W .eql 41 x y xs ys (by kernel_rfl)
set_option maxRecDepth 100000 in
theorem newTurn_any (team : Int) (w : World) : Calls Tryd.prog 6 #[.int .i64 team] w (fun e w' => e = .returned (.pointer (some ⟨w.heap.size, 0, none⟩)) ∧ TurnAt w' w.heap.size ⟨team, 1, 1, dry0⟩ ∧ Below w.heap.size w w') := by
  go_enter Tryd.func6, Tryd.ntmps6
  go_wp2
  go_ret
  exact ⟨rfl, heap_alloc_new w _, below_new w _⟩
set_option maxRecDepth 100000 in
theorem copyTurn_any {w : World} {t : Nat} {y : TurnL} (h : TurnAt w t y) : Calls Tryd.prog 10 #[.pointer (some ⟨t, 0, none⟩)] w (fun e w' => e = .returned (.pointer (some ⟨w.heap.size, 0, none⟩)) ∧ TurnAt w' w.heap.size y ∧ Below w.heap.size w w') := by
  obtain ⟨c0, c1, c2, c3, c4, c5, c6⟩ := h.cells
  clear h
  go_enter Tryd.func10, Tryd.ntmps10
  go_wp2
  go_ret
  exact ⟨rfl, heap_alloc_new w _, below_new w _⟩
set_option maxRecDepth 100000 in
theorem sameTurn_any {w : World} {t u : Nat} {y : TurnL} (h : TurnAt w t y) (k : TurnAt w u y) : Calls Tryd.prog 11 #[.pointer (some ⟨t, 0, none⟩), .pointer (some ⟨u, 0, none⟩)] w (RetV w (.bool true)) := by
  obtain ⟨c0, c1, c2, c3, c4, c5, c6⟩ := h.cells
  obtain ⟨d0, d1, d2, d3, d4, d5, d6⟩ := k.cells
  have h3 := fun W => eqlTurn y W
  have h2 := @eqlgT
  clear h k
  go_enter Tryd.func11, Tryd.ntmps11
  go_wp2
  go_quiet (fail)
  go_wp2
  go_ret
  exact ⟨rfl, below_drewN (Below.refl _ _) _⟩
set_option maxRecDepth 100000 in
theorem nextTurn_nil {t : Nat} (w : World) : Calls Tryd.prog 7 #[.pointer (some ⟨t, 0, none⟩), .pointer none] w (Same w (.tuple #[])) := by
  go_enter Tryd.func7, Tryd.ntmps7
  go_wp2
  go_end0
  exact ⟨rfl, rfl⟩
end Go.Proofs.YtdlkdilgjmmlaaaDoor
