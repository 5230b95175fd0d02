/- A board's Copy and Same, and New (layer 11). -/
import Derived.Test.YtgjojjhppgjkkaaGreatBb
import Derived.Test.YtgjojjhppgjkkaaGreatJx
import Derived.Deep.QuietTactic
import Derived.BigQuiet
namespace Go.Proofs.YtgjojjhppgjkkaaGreat
open Go.RowKit Go.Maps
attribute [local go_sem] Oper.semAt_some

theorem keepB3 {A w w' : World} {a0 a1 a2 : Addr} {v0 v1 v2 : Value} (hb : Below w.heap.size w w') (h : Below A.heap.size A w ∧ w.cell? a0 = some v0 ∧ w.cell? a1 = some v1 ∧ w.cell? a2 = some v2) : Below A.heap.size A w' ∧ w'.cell? a0 = some v0 ∧ w'.cell? a1 = some v1 ∧ w'.cell? a2 = some v2 :=
  ⟨stepB h.1 hb, cell_stays hb h.2.1, cell_stays hb h.2.2.1, cell_stays hb h.2.2.2⟩
theorem keepB6 {A w w' : World} {a0 a1 a2 a3 a4 a5 : Addr} {v0 v1 v2 v3 v4 v5 : Value} (hb : Below w.heap.size w w') (h : Below A.heap.size A w ∧ w.cell? a0 = some v0 ∧ w.cell? a1 = some v1 ∧ w.cell? a2 = some v2 ∧ w.cell? a3 = some v3 ∧ w.cell? a4 = some v4 ∧ w.cell? a5 = some v5) : Below A.heap.size A w' ∧ w'.cell? a0 = some v0 ∧ w'.cell? a1 = some v1 ∧ w'.cell? a2 = some v2 ∧ w'.cell? a3 = some v3 ∧ w'.cell? a4 = some v4 ∧ w'.cell? a5 = some v5 :=
  ⟨stepB h.1 hb, cell_stays hb h.2.1, cell_stays hb h.2.2.1, cell_stays hb h.2.2.2.1, cell_stays hb h.2.2.2.2.1, cell_stays hb h.2.2.2.2.2.1, cell_stays hb h.2.2.2.2.2.2⟩
theorem keepB12 {A w w' : World} {a0 a1 a2 a3 a4 a5 a6 a7 a8 a9 a10 a11 : Addr} {v0 v1 v2 v3 v4 v5 v6 v7 v8 v9 v10 v11 : Value} (hb : Below w.heap.size w w') (h : Below A.heap.size A w ∧ w.cell? a0 = some v0 ∧ w.cell? a1 = some v1 ∧ w.cell? a2 = some v2 ∧ w.cell? a3 = some v3 ∧ w.cell? a4 = some v4 ∧ w.cell? a5 = some v5 ∧ w.cell? a6 = some v6 ∧ w.cell? a7 = some v7 ∧ w.cell? a8 = some v8 ∧ w.cell? a9 = some v9 ∧ w.cell? a10 = some v10 ∧ w.cell? a11 = some v11) : Below A.heap.size A w' ∧ w'.cell? a0 = some v0 ∧ w'.cell? a1 = some v1 ∧ w'.cell? a2 = some v2 ∧ w'.cell? a3 = some v3 ∧ w'.cell? a4 = some v4 ∧ w'.cell? a5 = some v5 ∧ w'.cell? a6 = some v6 ∧ w'.cell? a7 = some v7 ∧ w'.cell? a8 = some v8 ∧ w'.cell? a9 = some v9 ∧ w'.cell? a10 = some v10 ∧ w'.cell? a11 = some v11 :=
  ⟨stepB h.1 hb, cell_stays hb h.2.1, cell_stays hb h.2.2.1, cell_stays hb h.2.2.2.1, cell_stays hb h.2.2.2.2.1, cell_stays hb h.2.2.2.2.2.1, cell_stays hb h.2.2.2.2.2.2.1, cell_stays hb h.2.2.2.2.2.2.2.1, cell_stays hb h.2.2.2.2.2.2.2.2.1, cell_stays hb h.2.2.2.2.2.2.2.2.2.1, cell_stays hb h.2.2.2.2.2.2.2.2.2.2.1, cell_stays hb h.2.2.2.2.2.2.2.2.2.2.2.1, cell_stays hb h.2.2.2.2.2.2.2.2.2.2.2.2⟩
theorem partB0 (a b c d : Value) (W : World) : (part 4 #[a, b, c, d] 0).run Tryz.prog W = .ok a W := by kernel_rfl
theorem partB1 (a b c d : Value) (W : World) : (part 4 #[a, b, c, d] 1).run Tryz.prog W = .ok b W := by kernel_rfl
theorem partB2 (a b c d : Value) (W : World) : (part 4 #[a, b, c, d] 2).run Tryz.prog W = .ok c W := by kernel_rfl
theorem partB3 (a b c d : Value) (W : World) : (part 4 #[a, b, c, d] 3).run Tryz.prog W = .ok d W := by kernel_rfl
theorem eqBl (d : Nat) (x y : Bool) (w : World) : (Op.equalIn (d + 1) 4 (.bool x) (.bool y)).run Tryz.prog w = .ok (x == y) w := run_equalIn_bool w d 4 x y Tryz.underlying4
theorem sizeBl (w : World) : (sizeOf 4).run Tryz.prog w = .ok 1 w := by kernel_rfl
set_option maxRecDepth 100000 in
theorem equalB4 (n : Nat) (a b c d a' b' c' d' : Bool) (W : World) : (Op.equalIn (n + 2) 40 (.agg #[.bool a, .bool b, .bool c, .bool d]) (.agg #[.bool a', .bool b', .bool c', .bool d'])).run Tryz.prog W = .ok (a == a' && (b == b' && (c == c' && d == d'))) W := by
  generalize hX : #[Value.bool a, .bool b, .bool c, .bool d] = X
  generalize hY : #[Value.bool a', .bool b', .bool c', .bool d'] = Y
  have p0 := fun W => hX ▸ partB0 (.bool a) (.bool b) (.bool c) (.bool d) W
  have p1 := fun W => hX ▸ partB1 (.bool a) (.bool b) (.bool c) (.bool d) W
  have p2 := fun W => hX ▸ partB2 (.bool a) (.bool b) (.bool c) (.bool d) W
  have p3 := fun W => hX ▸ partB3 (.bool a) (.bool b) (.bool c) (.bool d) W
  have q0 := fun W => hY ▸ partB0 (.bool a') (.bool b') (.bool c') (.bool d') W
  have q1 := fun W => hY ▸ partB1 (.bool a') (.bool b') (.bool c') (.bool d') W
  have q2 := fun W => hY ▸ partB2 (.bool a') (.bool b') (.bool c') (.bool d') W
  have q3 := fun W => hY ▸ partB3 (.bool a') (.bool b') (.bool c') (.bool d') W
  clear hX hY
  rw [Op.equalIn]
  simp only [Sem.run_bind, run_underlying Tryz.underlying40, Result.andThen_ok, sizeBl]
  rw [Std.Legacy.Range.forIn_eq_forIn_range']
  simp only [Std.Legacy.Range.size, Nat.sub_zero, Nat.add_sub_cancel, Nat.div_one, List.range', List.forIn_cons, List.forIn_nil, Nat.mul_one, Nat.zero_add, Sem.run_bind, p0, q0, Result.andThen_ok, eqBl]
  by_cases h0 : a = a' <;> by_cases h1 : b = b' <;> by_cases h2 : c = c' <;> by_cases h3 : d = d' <;> simp [h0, h1, h2, h3, p1, p2, p3, q1, q2, q3, eqBl]
theorem eqgB4 (x y : Operand) (xs ys : Array Value) (W : World) : (eqGuard .eql 40 x y (.agg xs) (.agg ys)).run Tryz.prog W = .ok () W := run_eqGuard_agg W .eql 40 x y xs ys (by kernel_rfl)
def eqD (D E : DryL) : Bool := D.a == E.a && (D.b == E.b && (D.c == E.c && D.d == E.d))
theorem eqD_self (D : DryL) : eqD D D = true := by simp [eqD]
theorem eqD_iff {D E : DryL} : eqD D E = true ↔ D = E := by
  obtain ⟨a, b, c, d⟩ := D
  obtain ⟨a', b', c', d'⟩ := E
  simp [eqD]
theorem eqB4 (D E : DryL) (W : World) : (binOp .eql 40 (.agg #[.bool D.a, .bool D.b, .bool D.c, .bool D.d]) (.agg #[.bool E.a, .bool E.b, .bool E.c, .bool E.d])).run Tryz.prog W = .ok (.bool (eqD D E)) W := by
  rw [run_eql_struct, equalB4 9998]
  rfl
theorem sameT_self (T : TeamL) : sameT T T = true := by simp [sameT]
set_option maxRecDepth 100000 in
set_option maxHeartbeats 4000000 in
/-- Of boards with the same store and the same teams it counts who is dry. -/
theorem bsame_any {w : World} {lo lo' : Nat} {g g' : GhostB} {S : StoreL} {T : TeamL} {D E : DryL} (h : BoardAt w lo g ⟨S, T, D⟩) (h' : BoardAt w lo' g' ⟨S, T, E⟩) :
    Calls Tryz.prog 18 #[.pointer (some ⟨g.q, 0, none⟩), .pointer (some ⟨g'.q, 0, none⟩)] w (RetV w (.bool (eqD D E))) := by
  obtain ⟨c0, c1, c2, c3, c4, c5⟩ := h.cells
  obtain ⟨d0, d1, d2, d3, d4, d5⟩ := h'.cells
  have HS := Lib.hid (fun (w' : World) (hb : Below w.heap.size w w') => same_true (h.st.later hb) (h'.st.later hb) (h.wf.short (by have := h.len; omega)))
  have HT := Lib.hid (fun (w' : World) (hb : Below w.heap.size w w') => tsame_any (h.tm.later hb) (h'.tm.later hb))
  rw [sameT_self] at HT
  have he := eqB4 D E
  have hg := eqgB4
  obtain ⟨z, hz⟩ : ∃ z, eqD D E = z := ⟨_, rfl⟩
  rw [hz] at he ⊢
  dsimp only at c2 c3 c4 c5 d2 d3 d4 d5
  have HI := Lib.hid (show Below w.heap.size w w ∧ _ ∧ _ ∧ _ ∧ _ ∧ _ ∧ _ ∧ _ ∧ _ ∧ _ ∧ _ ∧ _ ∧ _ from ⟨Below.refl _ _, c0, c1, c2, c3, c4, c5, d0, d1, d2, d3, d4, d5⟩)
  obtain ⟨Da, Db, Dc, Dd⟩ := D
  obtain ⟨Ea, Eb, Ec, Ed⟩ := E
  dsimp only at HI he
  clear h h' hz c0 c1 c2 c3 c4 c5 d0 d1 d2 d3 d4 d5
  obtain ⟨q, b, tb, s, r, G⟩ := g
  obtain ⟨q', b', tb', s', r', G'⟩ := g'
  dsimp only at HI HS HT ⊢
  go_enter Tryz.func18, Tryz.ntmps18
  go_wp2
  go_region_held3 (fun w' => Below w.heap.size w w' ∧ w'.cell? ⟨q, 0, none⟩ = some (.pointer (some ⟨b, 0, none⟩)) ∧ w'.cell? ⟨q, 1, none⟩ = some (.pointer (some ⟨tb, 0, none⟩)) ∧ w'.cell? ⟨q, 2, none⟩ = some (.bool Da) ∧ w'.cell? ⟨q, 3, none⟩ = some (.bool Db) ∧ w'.cell? ⟨q, 4, none⟩ = some (.bool Dc) ∧ w'.cell? ⟨q, 5, none⟩ = some (.bool Dd) ∧ w'.cell? ⟨q', 0, none⟩ = some (.pointer (some ⟨b', 0, none⟩)) ∧ w'.cell? ⟨q', 1, none⟩ = some (.pointer (some ⟨tb', 0, none⟩)) ∧ w'.cell? ⟨q', 2, none⟩ = some (.bool Ea) ∧ w'.cell? ⟨q', 3, none⟩ = some (.bool Eb) ∧ w'.cell? ⟨q', 4, none⟩ = some (.bool Ec) ∧ w'.cell? ⟨q', 5, none⟩ = some (.bool Ed))
    (first | assumption | (with_reducible exact HI.out) | exact keepB12 ((Below.refl _ _).drew) HI.out | exact keepB12 (by assumption) (by assumption))
    (first
      | (go_at_call 49; refine (HS.out _ (And.left (by assumption))).mono ?_; rintro e w2 ⟨rfl, hb2⟩)
      | (go_at_call 50; refine (HT.out _ (And.left (by assumption))).mono ?_; rintro e w2 ⟨rfl, hb2⟩))
  have hB : Below w.heap.size w w2 := And.left (by assumption)
  go_wp2
  go_ret
  exact ⟨rfl, hB⟩
set_option maxRecDepth 100000 in
set_option maxHeartbeats 8000000 in
theorem same_false {w : World} {lo b lo' b' : Nat} {G G' : Ghost} {S S' : StoreL} (h : StoreAt w lo b G S) (h' : StoreAt w lo' b' G' S') (hn : S.seats = S'.seats) (hl : S.objs.length ≤ 1000) (hne : S.objs ≠ S'.objs) :
    Calls Tryz.prog 49 #[.pointer (some ⟨b, 0, none⟩), .pointer (some ⟨b', 0, none⟩)] w (RetV w (.bool false)) := by
  have hob := h.ob
  have hob' := h'.ob
  obtain ⟨xa, xc, hov⟩ := own_form hob
  obtain ⟨xa', xc', hov'⟩ := own_form hob'
  have hc := fun j => cell_of_row w b j _ _ _ h.hd
  have hc' := fun j => cell_of_row w b' j _ _ _ h'.hd
  rw [hov] at hc hob
  rw [hov'] at hc' hob'
  rw [← hn] at hc'
  have c1 : w.cell? ⟨b, 1, none⟩ = some (.int .i64 S.seats) := hc 1
  have c2 : w.cell? ⟨b, 2, none⟩ = some (.slice xa S.objs.length xc) := hc 2
  have d1 : w.cell? ⟨b', 1, none⟩ = some (.int .i64 S.seats) := hc' 1
  have d2 : w.cell? ⟨b', 2, none⟩ = some (.slice xa' S'.objs.length xc') := hc' 2
  have HEQ := Lib.hid (fun k => (Calls.quiet_of ((equal_objs (w := w.drewN k) (own11_later hob fun j e => (below_drewN (Below.refl w.heap.size w) k).block j (World.ownsRow.lt hob j e).2) (own11_later hob' fun j e => (below_drewN (Below.refl w.heap.size w) k).block j (World.ownsRow.lt hob' j e).2) hl).mono fun e w' h => ⟨by rw [h.1, decide_eq_false hne], h.2⟩) : Calls Tryz.prog 84 #[.slice xa S.objs.length xc, .slice xa' S'.objs.length xc'] (w.drewN k) fun e w'' => e = .returned (.bool false) ∧ ∃ m, w'' = w.drewN m))
  obtain ⟨O, hO⟩ : ∃ O, S.objs.length = O := ⟨_, rfl⟩
  obtain ⟨O', hO'⟩ : ∃ O', S'.objs.length = O' := ⟨_, rfl⟩
  obtain ⟨n, hn1⟩ : ∃ n, S.seats = n := ⟨_, rfl⟩
  rw [hO] at c2 HEQ
  rw [hO'] at d2 HEQ
  rw [hn1] at c1 d1
  have e0 : ((n : Int) == (n : Int)) = true := beq_self_eq_true _
  clear h h' hob hob' hov hov' hc hc' hO hO' hn hn1 hne hl
  go_enter Tryz.func49, Tryz.ntmps49
  go_wp2
  go_quiet ((with_reducible exact HEQ.out _))
  go_wp2
  go_ret
  exact ⟨rfl, below_drewN (Below.refl _ _) _⟩

end Go.Proofs.YtgjojjhppgjkkaaGreat
