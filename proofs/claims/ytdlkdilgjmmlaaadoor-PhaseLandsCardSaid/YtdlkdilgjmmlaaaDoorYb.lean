/- Turns in unlike phases, Name, and the law's own map of who laid a land (layer 15). -/
import Derived.Test.YtdlkdilgjmmlaaaDoorYa
import Derived.Maps.OwnOps
import Derived.Maps.OwnSet
import Derived.Maps.Views
namespace Go.Proofs.YtdlkdilgjmmlaaaDoor
open Go.RowKit
attribute [local go_sem] Oper.semAt_some

set_option maxRecDepth 100000 in
theorem neTurn (n : Nat) (y : TurnL) (p : Int) (hp : p ≠ y.phase) (W : World) : (Op.equalIn (n + 4) 41 (.agg #[.int .i64 y.team, .int .i64 y.no, .int .i64 p, .bool y.laid.a, .bool y.laid.b, .bool y.laid.c, .bool y.laid.d]) (.agg #[.int .i64 y.team, .int .i64 y.no, .int .i64 y.phase, .bool y.laid.a, .bool y.laid.b, .bool y.laid.c, .bool y.laid.d])).run Tryd.prog W = .ok false W := by
  have uI := Tryd.underlying3
  have gI := Tryd.isAgg3
  have zI := Tryd.sizeOf3
  have gA := Tryd.isAgg39
  have zA := Tryd.sizeOf39
  have hpp : (p == y.phase) = false := beq_eq_false_iff_ne.2 hp
  have hS : Tryd.prog.underlying 41 = some (.struct (Tryd.prog.fieldsOf 41)) := by kernel_rfl
  rw [run_equalIn_agg W (n + 3) 41 _ _ hS (by kernel_rfl)]
  simp only [Program.fieldsOf, Tryd.underlying41]
  go_simp
theorem neqTurn (y : TurnL) (p : Int) (hp : p ≠ y.phase) (W : World) : (binOp .eql 41 (.agg #[.int .i64 y.team, .int .i64 y.no, .int .i64 p, .bool y.laid.a, .bool y.laid.b, .bool y.laid.c, .bool y.laid.d]) (.agg #[.int .i64 y.team, .int .i64 y.no, .int .i64 y.phase, .bool y.laid.a, .bool y.laid.b, .bool y.laid.c, .bool y.laid.d])).run Tryd.prog W = .ok (.bool false) W := by
  rw [run_eql_struct, neTurn 9996 y p hp]
  rfl
set_option maxRecDepth 100000 in
theorem unlikeTurn_any {w : World} {t u : Nat} {y : TurnL} {p : Int} (hp : p ≠ y.phase) (h : TurnAt w t { y with phase := p }) (k : TurnAt w u y) : Calls Tryd.prog 11 #[.pointer (some ⟨t, 0, none⟩), .pointer (some ⟨u, 0, none⟩)] w (RetV w (.bool false)) := by
  obtain ⟨c0, c1, c2, c3, c4, c5, c6⟩ := h.cells
  obtain ⟨d0, d1, d2, d3, d4, d5, d6⟩ := k.cells
  dsimp only at c0 c1 c2 c3 c4 c5 c6
  have h3 := fun W => neqTurn y p hp W
  have h2 := @eqlgT
  clear h k hp
  go_enter Tryd.func11, Tryd.ntmps11
  go_wp2
  go_quiet (fail)
  go_wp2
  go_ret
  exact ⟨rfl, below_drewN (Below.refl _ _) _⟩
/-! The names of phases. -/
def namesB : List ByteArray := [⟨#[]⟩, ⟨#[87, 97, 107, 101]⟩, ⟨#[68, 114, 97, 119]⟩, ⟨#[70, 105, 114, 115, 116]⟩, ⟨#[83, 116, 114, 105, 107, 101]⟩, ⟨#[83, 104, 105, 101, 108, 100]⟩, ⟨#[66, 108, 111, 119]⟩, ⟨#[83, 101, 99, 111, 110, 100]⟩, ⟨#[69, 110, 100]⟩]
/-- The program's variable of names, as its text lays it. -/
def NamesAt (w : World) : Prop := 0 < w.heap.size ∧ w.cell? ⟨0, 0, none⟩ = some (.string ⟨#[]⟩) ∧ w.cell? ⟨0, 1, none⟩ = some (.string ⟨#[87, 97, 107, 101]⟩) ∧ w.cell? ⟨0, 2, none⟩ = some (.string ⟨#[68, 114, 97, 119]⟩) ∧ w.cell? ⟨0, 3, none⟩ = some (.string ⟨#[70, 105, 114, 115, 116]⟩) ∧ w.cell? ⟨0, 4, none⟩ = some (.string ⟨#[83, 116, 114, 105, 107, 101]⟩) ∧ w.cell? ⟨0, 5, none⟩ = some (.string ⟨#[83, 104, 105, 101, 108, 100]⟩) ∧ w.cell? ⟨0, 6, none⟩ = some (.string ⟨#[66, 108, 111, 119]⟩) ∧ w.cell? ⟨0, 7, none⟩ = some (.string ⟨#[83, 101, 99, 111, 110, 100]⟩) ∧ w.cell? ⟨0, 8, none⟩ = some (.string ⟨#[69, 110, 100]⟩)
theorem NamesAt.later {w w' : World} (h : NamesAt w) (hb : Below w.heap.size w w') : NamesAt w' := by
  obtain ⟨h0, n0, n1, n2, n3, n4, n5, n6, n7, n8⟩ := h
  exact ⟨Nat.lt_of_lt_of_le h0 hb.size, cell_stays hb n0, cell_stays hb n1, cell_stays hb n2, cell_stays hb n3, cell_stays hb n4, cell_stays hb n5, cell_stays hb n6, cell_stays hb n7, cell_stays hb n8⟩
def nameB (ph : Int) : ByteArray := if 0 ≤ ph ∧ ph < 9 then namesB.getD ph.toNat ⟨#[]⟩ else ⟨#[]⟩
set_option maxRecDepth 100000 in
set_option maxHeartbeats 4000000 in
theorem name_any {w : World} (h : NamesAt w) (ph : Int) : Calls Tryd.prog 13 #[.int .i64 ph] w (Same w (.string (nameB ph))) := by
  obtain ⟨h0, n0, n1, n2, n3, n4, n5, n6, n7, n8⟩ := h
  by_cases h1 : 1 ≤ ph ∧ ph ≤ 8
  · have h8 : ph = 1 ∨ ph = 2 ∨ ph = 3 ∨ ph = 4 ∨ ph = 5 ∨ ph = 6 ∨ ph = 7 ∨ ph = 8 := by omega
    rcases h8 with rfl | rfl | rfl | rfl | rfl | rfl | rfl | rfl
    all_goals (
      go_enter Tryd.func13, Tryd.ntmps13
      go_wp2
      go_ret
      exact ⟨rfl, rfl⟩)
  · have e : nameB ph = ⟨#[]⟩ := by
      unfold nameB
      split
      · have : ph = 0 := by omega
        subst this
        rfl
      · rfl
    rw [e]
    clear n0 n1 n2 n3 n4 n5 n6 n7 n8
    by_cases hl : ph < 1
    · have d1 : decide (ph < 1) = true := decide_eq_true hl
      go_enter Tryd.func13, Tryd.ntmps13
      go_wp2
      go_ret
      exact ⟨rfl, rfl⟩
    · have d1 : decide (ph < 1) = false := decide_eq_false hl
      have d2 : decide ((8 : Int) < ph) = true := decide_eq_true (by omega)
      go_enter Tryd.func13, Tryd.ntmps13
      go_wp2
      go_ret
      exact ⟨rfl, rfl⟩
/-! The law's map of who laid a land: true at those seats, at no other. -/
def LaidMap (w : World) (b n : Nat) (f : Int → Bool) : Prop :=
  ∃ D : DataW Unit, w.ownsMap Tryd.prog 3 (plainElem Tryd.prog 4) b n D ∧ Maps.Tidy D ∧ ∀ x, (Lit.int .i64 x).wf = true → D.atKey (.int .i64 x) (.lit (.bool false)) = .lit (.bool (f x))
theorem key_lit (x : Int) : WideAt.IsKeyLit (.int .i64 x) := by first | trivial | simp [WideAt.IsKeyLit] | constructor
theorem LaidMap.lt {w : World} {b n : Nat} {f : Int → Bool} (h : LaidMap w b n f) : b < w.heap.size := by
  obtain ⟨D, ho, _⟩ := h
  exact ho.lt
theorem LaidMap.of {w w' : World} {b n : Nat} {f : Int → Bool} (h : LaidMap w b n f) (he : w'.heap[b]? = w.heap[b]?) : LaidMap w' b n f := by
  obtain ⟨D, ⟨es, clock, hb, rest⟩, r⟩ := h
  exact ⟨D, ⟨es, clock, he.trans hb, rest⟩, r⟩
theorem laid_made (w : World) : LaidMap (w.alloc (.map #[] 0)) w.heap.size 0 (fun _ => false) :=
  ⟨.map [], World.ownsMap_made w Tryd.prog 3 (plainElem (H := Unit) Tryd.prog 4), Maps.tidy_empty, fun _ _ => rfl⟩
theorem plain_bool_inv {P : Program} {e : TypeId} (he : P.underlying e = some .bool) {v : Value} {z : DataW Unit × List MemPlace} (h : plainElem P e v = some z) : ∃ c : Bool, v = .bool c ∧ z = (.lit (.bool c), []) := by
  unfold plainElem at h
  rw [he] at h
  cases v <;> simp at h
  exact ⟨_, rfl, h.symm⟩
theorem LaidMap.look {w : World} {b n : Nat} {f : Int → Bool} (h : LaidMap w b n f) {x : Int} (hx : (Lit.int .i64 x).wf = true) : (Instr.lookup 28 (.map (some b)) (.int .i64 x) false).run Tryd.prog w = .ok (.bool (f x)) w := by
  obtain ⟨D, hown, _, hat⟩ := h
  obtain ⟨v, ps, hrun, hv⟩ := hown.lookup (Maps.int_keyed Tryd.underlying3) Tryd.underlying28 (Tryd.zeroValue4 _) (plainElem_bool Tryd.underlying4 false) (Maps.keyOf_int_mk Tryd.underlying3 hx)
  obtain ⟨c, rfl, hc⟩ := plain_bool_inv Tryd.underlying4 hv
  rw [hat x hx] at hc
  simp only [Prod.mk.injEq, DataW.lit.injEq, Lit.bool.injEq] at hc
  rw [hrun, hc.1]
end Go.Proofs.YtdlkdilgjmmlaaaDoor
