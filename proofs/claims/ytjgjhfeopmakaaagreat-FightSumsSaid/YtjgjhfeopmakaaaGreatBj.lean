/- A board's Copy and Same, and New (layer 11). A board's Copy, and New (layer 11). Plain facts for the laws of layer 9: who is left and who is next, by who has lost; the list that a range over Foes gathers. Plain facts of what may be aimed at (layer 10): what All tells, by the piles and the teams. The statements' Board, and the document's example (layer 11). -/
import Derived.Test.YtjgjhfeopmakaaaGreatBd
import Derived.Test.YtjgjhfeopmakaaaGreatJx
import Derived.Deep.QuietTactic
import Derived.BigQuiet
import Derived.Test.YtjgjhfeopmakaaaGreatTk
namespace Go.Proofs.YtjgjhfeopmakaaaGreat
open Go.RowKit Go.Maps
attribute [local go_sem] Oper.semAt_some

theorem keepB3 {A w w' : World} {a0 a1 a2 : Addr} {v0 v1 v2 : Value} (hb : Below w.heap.size w w') (h : Below A.heap.size A w ∧ w.cell? a0 = some v0 ∧ w.cell? a1 = some v1 ∧ w.cell? a2 = some v2) : Below A.heap.size A w' ∧ w'.cell? a0 = some v0 ∧ w'.cell? a1 = some v1 ∧ w'.cell? a2 = some v2 :=
  ⟨stepB h.1 hb, cell_stays hb h.2.1, cell_stays hb h.2.2.1, cell_stays hb h.2.2.2⟩
theorem keepB6 {A w w' : World} {a0 a1 a2 a3 a4 a5 : Addr} {v0 v1 v2 v3 v4 v5 : Value} (hb : Below w.heap.size w w') (h : Below A.heap.size A w ∧ w.cell? a0 = some v0 ∧ w.cell? a1 = some v1 ∧ w.cell? a2 = some v2 ∧ w.cell? a3 = some v3 ∧ w.cell? a4 = some v4 ∧ w.cell? a5 = some v5) : Below A.heap.size A w' ∧ w'.cell? a0 = some v0 ∧ w'.cell? a1 = some v1 ∧ w'.cell? a2 = some v2 ∧ w'.cell? a3 = some v3 ∧ w'.cell? a4 = some v4 ∧ w'.cell? a5 = some v5 :=
  ⟨stepB h.1 hb, cell_stays hb h.2.1, cell_stays hb h.2.2.1, cell_stays hb h.2.2.2.1, cell_stays hb h.2.2.2.2.1, cell_stays hb h.2.2.2.2.2.1, cell_stays hb h.2.2.2.2.2.2⟩
theorem keepB12 {A w w' : World} {a0 a1 a2 a3 a4 a5 a6 a7 a8 a9 a10 a11 : Addr} {v0 v1 v2 v3 v4 v5 v6 v7 v8 v9 v10 v11 : Value} (hb : Below w.heap.size w w') (h : Below A.heap.size A w ∧ w.cell? a0 = some v0 ∧ w.cell? a1 = some v1 ∧ w.cell? a2 = some v2 ∧ w.cell? a3 = some v3 ∧ w.cell? a4 = some v4 ∧ w.cell? a5 = some v5 ∧ w.cell? a6 = some v6 ∧ w.cell? a7 = some v7 ∧ w.cell? a8 = some v8 ∧ w.cell? a9 = some v9 ∧ w.cell? a10 = some v10 ∧ w.cell? a11 = some v11) : Below A.heap.size A w' ∧ w'.cell? a0 = some v0 ∧ w'.cell? a1 = some v1 ∧ w'.cell? a2 = some v2 ∧ w'.cell? a3 = some v3 ∧ w'.cell? a4 = some v4 ∧ w'.cell? a5 = some v5 ∧ w'.cell? a6 = some v6 ∧ w'.cell? a7 = some v7 ∧ w'.cell? a8 = some v8 ∧ w'.cell? a9 = some v9 ∧ w'.cell? a10 = some v10 ∧ w'.cell? a11 = some v11 :=
  ⟨stepB h.1 hb, cell_stays hb h.2.1, cell_stays hb h.2.2.1, cell_stays hb h.2.2.2.1, cell_stays hb h.2.2.2.2.1, cell_stays hb h.2.2.2.2.2.1, cell_stays hb h.2.2.2.2.2.2.1, cell_stays hb h.2.2.2.2.2.2.2.1, cell_stays hb h.2.2.2.2.2.2.2.2.1, cell_stays hb h.2.2.2.2.2.2.2.2.2.1, cell_stays hb h.2.2.2.2.2.2.2.2.2.2.1, cell_stays hb h.2.2.2.2.2.2.2.2.2.2.2.1, cell_stays hb h.2.2.2.2.2.2.2.2.2.2.2.2⟩
theorem partB0 (a b c d : Value) (W : World) : (part 4 #[a, b, c, d] 0).run Tryz.prog W = .ok a W := by kernel_rfl
theorem partB1 (a b c d : Value) (W : World) : (part 4 #[a, b, c, d] 1).run Tryz.prog W = .ok b W := by kernel_rfl
theorem partB2 (a b c d : Value) (W : World) : (part 4 #[a, b, c, d] 2).run Tryz.prog W = .ok c W := by kernel_rfl
theorem partB3 (a b c d : Value) (W : World) : (part 4 #[a, b, c, d] 3).run Tryz.prog W = .ok d W := by kernel_rfl
theorem eqBl (d : Nat) (x y : Bool) (w : World) : (Op.equalIn (d + 1) 4 (.bool x) (.bool y)).run Tryz.prog w = .ok (x == y) w := run_equalIn_bool w d 4 x y Tryz.underlying4
theorem sizeBl (w : World) : (sizeOf 4).run Tryz.prog w = .ok 1 w := by kernel_rfl
set_option maxRecDepth 100000 in
theorem equalB4 (n : Nat) (a b c d a' b' c' d' : Bool) (W : World) : (Op.equalIn (n + 2) 36 (.agg #[.bool a, .bool b, .bool c, .bool d]) (.agg #[.bool a', .bool b', .bool c', .bool d'])).run Tryz.prog W = .ok (a == a' && (b == b' && (c == c' && d == d'))) W := by
  generalize hX : #[Value.bool a, .bool b, .bool c, .bool d] = X
  generalize hY : #[Value.bool a', .bool b', .bool c', .bool d'] = Y
  have p0 := fun W => hX ▸ partB0 (.bool a) (.bool b) (.bool c) (.bool d) W
  have p1 := fun W => hX ▸ partB1 (.bool a) (.bool b) (.bool c) (.bool d) W
  have p2 := fun W => hX ▸ partB2 (.bool a) (.bool b) (.bool c) (.bool d) W
  have p3 := fun W => hX ▸ partB3 (.bool a) (.bool b) (.bool c) (.bool d) W
  have q0 := fun W => hY ▸ partB0 (.bool a') (.bool b') (.bool c') (.bool d') W
  have q1 := fun W => hY ▸ partB1 (.bool a') (.bool b') (.bool c') (.bool d') W
  have q2 := fun W => hY ▸ partB2 (.bool a') (.bool b') (.bool c') (.bool d') W
  have q3 := fun W => hY ▸ partB3 (.bool a') (.bool b') (.bool c') (.bool d') W
  clear hX hY
  rw [Op.equalIn]
  simp only [Sem.run_bind, run_underlying Tryz.underlying36, Result.andThen_ok, sizeBl]
  rw [Std.Legacy.Range.forIn_eq_forIn_range']
  simp only [Std.Legacy.Range.size, Nat.sub_zero, Nat.add_sub_cancel, Nat.div_one, List.range', List.forIn_cons, List.forIn_nil, Nat.mul_one, Nat.zero_add, Sem.run_bind, p0, q0, Result.andThen_ok, eqBl]
  by_cases h0 : a = a' <;> by_cases h1 : b = b' <;> by_cases h2 : c = c' <;> by_cases h3 : d = d' <;> simp [h0, h1, h2, h3, p1, p2, p3, q1, q2, q3, eqBl]
theorem eqgB4 (x y : Operand) (xs ys : Array Value) (W : World) : (eqGuard .eql 36 x y (.agg xs) (.agg ys)).run Tryz.prog W = .ok () W := run_eqGuard_agg W .eql 36 x y xs ys (by kernel_rfl)
def eqD (D E : DryL) : Bool := D.a == E.a && (D.b == E.b && (D.c == E.c && D.d == E.d))
theorem eqD_self (D : DryL) : eqD D D = true := by simp [eqD]
theorem eqD_iff {D E : DryL} : eqD D E = true ↔ D = E := by
  obtain ⟨a, b, c, d⟩ := D
  obtain ⟨a', b', c', d'⟩ := E
  simp [eqD]
theorem eqB4 (D E : DryL) (W : World) : (binOp .eql 36 (.agg #[.bool D.a, .bool D.b, .bool D.c, .bool D.d]) (.agg #[.bool E.a, .bool E.b, .bool E.c, .bool E.d])).run Tryz.prog W = .ok (.bool (eqD D E)) W := by
  rw [run_eql_struct, equalB4 9998]
  rfl
theorem sameT_self (T : TeamL) : sameT T T = true := by simp [sameT]
set_option maxRecDepth 100000 in
set_option maxHeartbeats 4000000 in
/-- Of boards with the same store and the same teams it counts who is dry. -/
theorem bsame_any {w : World} {lo lo' : Nat} {g g' : GhostB} {S : StoreL} {T : TeamL} {D E : DryL} (h : BoardAt w lo g ⟨S, T, D⟩) (h' : BoardAt w lo' g' ⟨S, T, E⟩) :
    Calls Tryz.prog 13 #[.pointer (some ⟨g.q, 0, none⟩), .pointer (some ⟨g'.q, 0, none⟩)] w (RetV w (.bool (eqD D E))) := by
  obtain ⟨c0, c1, c2, c3, c4, c5⟩ := h.cells
  obtain ⟨d0, d1, d2, d3, d4, d5⟩ := h'.cells
  have HS := Lib.hid (fun (w' : World) (hb : Below w.heap.size w w') => same_true (h.st.later hb) (h'.st.later hb) (h.wf.short (by have := h.len; omega)))
  have HT := Lib.hid (fun (w' : World) (hb : Below w.heap.size w w') => tsame_any (h.tm.later hb) (h'.tm.later hb))
  rw [sameT_self] at HT
  have he := eqB4 D E
  have hg := eqgB4
  obtain ⟨z, hz⟩ : ∃ z, eqD D E = z := ⟨_, rfl⟩
  rw [hz] at he ⊢
  dsimp only at c2 c3 c4 c5 d2 d3 d4 d5
  have HI := Lib.hid (show Below w.heap.size w w ∧ _ ∧ _ ∧ _ ∧ _ ∧ _ ∧ _ ∧ _ ∧ _ ∧ _ ∧ _ ∧ _ ∧ _ from ⟨Below.refl _ _, c0, c1, c2, c3, c4, c5, d0, d1, d2, d3, d4, d5⟩)
  obtain ⟨Da, Db, Dc, Dd⟩ := D
  obtain ⟨Ea, Eb, Ec, Ed⟩ := E
  dsimp only at HI he
  clear h h' hz c0 c1 c2 c3 c4 c5 d0 d1 d2 d3 d4 d5
  obtain ⟨q, b, tb, s, r, G⟩ := g
  obtain ⟨q', b', tb', s', r', G'⟩ := g'
  dsimp only at HI HS HT ⊢
  go_enter Tryz.func13, Tryz.ntmps13
  go_wp2
  go_region_held3 (fun w' => Below w.heap.size w w' ∧ w'.cell? ⟨q, 0, none⟩ = some (.pointer (some ⟨b, 0, none⟩)) ∧ w'.cell? ⟨q, 1, none⟩ = some (.pointer (some ⟨tb, 0, none⟩)) ∧ w'.cell? ⟨q, 2, none⟩ = some (.bool Da) ∧ w'.cell? ⟨q, 3, none⟩ = some (.bool Db) ∧ w'.cell? ⟨q, 4, none⟩ = some (.bool Dc) ∧ w'.cell? ⟨q, 5, none⟩ = some (.bool Dd) ∧ w'.cell? ⟨q', 0, none⟩ = some (.pointer (some ⟨b', 0, none⟩)) ∧ w'.cell? ⟨q', 1, none⟩ = some (.pointer (some ⟨tb', 0, none⟩)) ∧ w'.cell? ⟨q', 2, none⟩ = some (.bool Ea) ∧ w'.cell? ⟨q', 3, none⟩ = some (.bool Eb) ∧ w'.cell? ⟨q', 4, none⟩ = some (.bool Ec) ∧ w'.cell? ⟨q', 5, none⟩ = some (.bool Ed))
    (first | assumption | (with_reducible exact HI.out) | exact keepB12 ((Below.refl _ _).drew) HI.out | exact keepB12 (by assumption) (by assumption))
    (first
      | (go_at_call 33; refine (HS.out _ (And.left (by assumption))).mono ?_; rintro e w2 ⟨rfl, hb2⟩)
      | (go_at_call 34; refine (HT.out _ (And.left (by assumption))).mono ?_; rintro e w2 ⟨rfl, hb2⟩))
  have hB : Below w.heap.size w w2 := And.left (by assumption)
  go_wp2
  go_ret
  exact ⟨rfl, hB⟩
set_option maxRecDepth 100000 in
set_option maxHeartbeats 8000000 in
theorem same_false {w : World} {lo b lo' b' : Nat} {G G' : Ghost} {S S' : StoreL} (h : StoreAt w lo b G S) (h' : StoreAt w lo' b' G' S') (hn : S.seats = S'.seats) (hl : S.objs.length ≤ 1000) (hne : S.objs ≠ S'.objs) :
    Calls Tryz.prog 33 #[.pointer (some ⟨b, 0, none⟩), .pointer (some ⟨b', 0, none⟩)] w (RetV w (.bool false)) := by
  have hob := h.ob
  have hob' := h'.ob
  obtain ⟨xa, xc, hov⟩ := own_form hob
  obtain ⟨xa', xc', hov'⟩ := own_form hob'
  have hc := fun j => cell_of_row w b j _ _ _ h.hd
  have hc' := fun j => cell_of_row w b' j _ _ _ h'.hd
  rw [hov] at hc hob
  rw [hov'] at hc' hob'
  rw [← hn] at hc'
  have c1 : w.cell? ⟨b, 1, none⟩ = some (.int .i64 S.seats) := hc 1
  have c2 : w.cell? ⟨b, 2, none⟩ = some (.slice xa S.objs.length xc) := hc 2
  have d1 : w.cell? ⟨b', 1, none⟩ = some (.int .i64 S.seats) := hc' 1
  have d2 : w.cell? ⟨b', 2, none⟩ = some (.slice xa' S'.objs.length xc') := hc' 2
  have HEQ := Lib.hid (fun k => (Calls.quiet_of ((equal_objs (w := w.drewN k) (own11_later hob fun j e => (below_drewN (Below.refl w.heap.size w) k).block j (World.ownsRow.lt hob j e).2) (own11_later hob' fun j e => (below_drewN (Below.refl w.heap.size w) k).block j (World.ownsRow.lt hob' j e).2) hl).mono fun e w' h => ⟨by rw [h.1, decide_eq_false hne], h.2⟩) : Calls Tryz.prog 65 #[.slice xa S.objs.length xc, .slice xa' S'.objs.length xc'] (w.drewN k) fun e w'' => e = .returned (.bool false) ∧ ∃ m, w'' = w.drewN m))
  obtain ⟨O, hO⟩ : ∃ O, S.objs.length = O := ⟨_, rfl⟩
  obtain ⟨O', hO'⟩ : ∃ O', S'.objs.length = O' := ⟨_, rfl⟩
  obtain ⟨n, hn1⟩ : ∃ n, S.seats = n := ⟨_, rfl⟩
  rw [hO] at c2 HEQ
  rw [hO'] at d2 HEQ
  rw [hn1] at c1 d1
  have e0 : ((n : Int) == (n : Int)) = true := beq_self_eq_true _
  clear h h' hob hob' hov hov' hc hc' hO hO' hn hn1 hne hl
  go_enter Tryz.func33, Tryz.ntmps33
  go_wp2
  go_quiet ((with_reducible exact HEQ.out _))
  go_wp2
  go_ret
  exact ⟨rfl, below_drewN (Below.refl _ _) _⟩

end Go.Proofs.YtjgjhfeopmakaaaGreat
namespace Go.Proofs.YtjgjhfeopmakaaaGreat
open Go.RowKit Go.Maps
attribute [local go_sem] Oper.semAt_some

/-- A board that a call makes. -/
def RetBN (w : World) (B : BoardL) (e : Ending) (w' : World) : Prop := ∃ g, e = .returned (.pointer (some ⟨g.q, 0, none⟩)) ∧ BoardAt w' w.heap.size g B ∧ Below w.heap.size w w'
theorem TeamAt.mono {w : World} {lo lo' b s r : Nat} {T : TeamL} (h : TeamAt w lo b s r T) (hl : lo' ≤ lo) : TeamAt w lo' b s r T :=
  ⟨h.hd, h.sd, h.rw, Nat.le_trans hl h.lb, Nat.le_trans hl h.ls, Nat.le_trans hl h.lr, h.br, h.sr, h.n1, h.n2, h.nd⟩
theorem StoreAt.mono {w : World} {lo lo' b : Nat} {G : Ghost} {S : StoreL} (h : StoreAt w lo b G S) (hl : lo' ≤ lo) : StoreAt w lo' b G S :=
  ⟨h.hd, h.tab, own_mono h.ob hl, h.mp, fun s z ok => (h.pi s z ok).mono hl, h.tb, h.tm, h.tr, h.tp, h.tg, fun k hk => Nat.le_trans hl (h.low k hk), h.high, h.n1, h.n4, h.ok⟩
/-- A board out of a copy of a store and a copy of teams. -/
theorem board_parts {w1 w2 w3 w4 : World} {lo b tb s r : Nat} {G : Ghost} {S : StoreL} {T : TeamL} {D : DryL} (hs : StoreAt w2 w1.heap.size b G S) (ht : TeamAt w4 w3.heap.size tb s r T) (h12 : w1.heap.size ≤ w2.heap.size) (h23 : w2.heap.size ≤ w3.heap.size) (h24 : Below w2.heap.size w2 w4) (h34 : w3.heap.size ≤ w4.heap.size)
    (hl : lo ≤ w1.heap.size) (hw : WfS S) (hlen : S.objs.length ≤ 999) (hse : T.sides.length = S.seats) :
    BoardAt (w4.alloc (.cells #[.pointer (some ⟨b, 0, none⟩), .pointer (some ⟨tb, 0, none⟩), .bool D.a, .bool D.b, .bool D.c, .bool D.d] 38)) lo ⟨w4.heap.size, b, tb, s, r, G⟩ ⟨S, T, D⟩ := by
  have hno : ∀ k, w2.heap.size ≤ k → G.tag k = .no := hs.high
  refine ⟨heap_alloc_new _ _, ((hs.later h24).later (below_new _ _)).mono hl, hw, hlen, (ht.later (below_new _ _)).mono (by omega), hse, ?_, hno _ (by show _ ≤ w4.heap.size; omega), hno _ (by have := ht.lb; show _ ≤ tb; omega), hno _ (by have := ht.ls; show _ ≤ s; omega), hno _ (by have := ht.lr; show _ ≤ r; omega), ?_, ?_, ?_⟩
  · show lo ≤ w4.heap.size; omega
  · have := ht.lt; show w4.heap.size ≠ tb; omega
  · have := ht.sd.1; show w4.heap.size ≠ s; omega
  · have := ht.ltr; show w4.heap.size ≠ r; omega
set_option maxRecDepth 100000 in
set_option maxHeartbeats 4000000 in
theorem bcopy_any {w : World} {lo : Nat} {g : GhostB} {B : BoardL} (h : BoardAt w lo g B) : Calls Tryz.prog 8 #[.pointer (some ⟨g.q, 0, none⟩)] w (RetBN w B) := by
  obtain ⟨c0, c1, c2, c3, c4, c5⟩ := h.cells
  have HS := Lib.hid (fun (w' : World) (hb : Below w.heap.size w w') => copyS_any (h.st.later hb) (h.wf.short (by have := h.len; omega)))
  have HT := Lib.hid (fun (w' : World) (hb : Below w.heap.size w w') => tcopy_any (h.tm.later hb))
  have HP := Lib.hid (And.intro h.wf (And.intro h.len h.se))
  have HI := Lib.hid (show Below w.heap.size w w ∧ _ ∧ _ ∧ _ ∧ _ ∧ _ ∧ _ from ⟨Below.refl _ _, c0, c1, c2, c3, c4, c5⟩)
  obtain ⟨S, T, Da, Db, Dc, Dd⟩ := B
  obtain ⟨q, b, tb, s, r, G⟩ := g
  dsimp only at HI HS HT HP ⊢
  clear h c0 c1 c2 c3 c4 c5
  go_enter Tryz.func8, Tryz.ntmps8
  go_wp2
  go_region_held3 (fun w' => Below w.heap.size w w' ∧ w'.cell? ⟨q, 0, none⟩ = some (.pointer (some ⟨b, 0, none⟩)) ∧ w'.cell? ⟨q, 1, none⟩ = some (.pointer (some ⟨tb, 0, none⟩)) ∧ w'.cell? ⟨q, 2, none⟩ = some (.bool Da) ∧ w'.cell? ⟨q, 3, none⟩ = some (.bool Db) ∧ w'.cell? ⟨q, 4, none⟩ = some (.bool Dc) ∧ w'.cell? ⟨q, 5, none⟩ = some (.bool Dd))
    (first | assumption | (with_reducible exact HI.out) | exact keepB6 ((Below.refl _ _).drew) HI.out | exact keepB6 (by assumption) (by assumption) | exact keepB6 (below_new _ _) (by assumption))
    (first
      | (go_at_call 27; refine (HS.out _ (And.left (by assumption))).mono ?_; rintro e w2 ⟨b2, G2, rfl, hs2, hb2⟩)
      | (go_at_call 28; refine (HT.out _ (And.left (by assumption))).mono ?_; rintro e w3 ⟨tb3, s3, r3, rfl, ht3, hb3⟩))
  have hB := And.left (by assumption : _ ∧ _)
  have HBB := Lib.hid (show Below w.heap.size w _ from hB)
  have HS2 := Lib.hid hs2
  have HT3 := Lib.hid ht3
  have HB2 := Lib.hid hb2
  have HB3 := Lib.hid hb3
  rename_i hHeld
  clear hHeld hB hs2 ht3 hb2 hb3
  go_wp2
  go_ret
  exact ⟨⟨w3.heap.size, b2, tb3, s3, r3, G2⟩, rfl, board_parts (D := ⟨Da, Db, Dc, Dd⟩) HS2.out HT3.out HB2.out.size (Nat.le_refl _) HB3.out HB3.out.size (Nat.le_refl _) HP.out.1 HP.out.2.1 HP.out.2.2, HBB.out⟩
/-- What New answers. -/
def RetBNew (w : World) (z : Bool) (B : BoardL) (e : Ending) (w' : World) : Prop :=
  (z = true → ∃ g, e = .returned (.tuple #[.pointer (some ⟨g.q, 0, none⟩), .int .i64 0]) ∧ BoardAt w' w.heap.size g B) ∧ (z = false → e = .returned (.tuple #[.pointer none, .int .i64 20])) ∧ Below w.heap.size w w'
set_option maxRecDepth 100000 in
set_option maxHeartbeats 4000000 in
theorem bnew_any {w : World} {lo lo' b tb s r : Nat} {G : Ghost} {S : StoreL} {T : TeamL} (h : StoreAt w lo b G S) (hw : WfS S) (hl : S.objs.length ≤ 999) (ht : TeamAt w lo' tb s r T) :
    Calls Tryz.prog 26 #[.pointer (some ⟨b, 0, none⟩), .pointer (some ⟨tb, 0, none⟩)] w (RetBNew w (decide (S.seats = T.sides.length)) ⟨S, T, dry0⟩) := by
  have HS := Lib.hid (fun (w' : World) (hb : Below w.heap.size w w') => copyS_any (h.later hb) (hw.short (by omega)))
  have HT := Lib.hid (fun (w' : World) (hb : Below w.heap.size w w') => tcopy_any (ht.later hb))
  have HN := Lib.hid (sseats_any h)
  have HM := Lib.hid (tseats_any ht)
  have HP := Lib.hid (And.intro hw hl)
  obtain ⟨n, hn⟩ : ∃ n, S.seats = n := ⟨_, rfl⟩
  obtain ⟨m, hm⟩ : ∃ m, T.sides.length = m := ⟨_, rfl⟩
  rw [hn] at HN ⊢
  rw [hm] at HM ⊢
  have HNM := Lib.hid (And.intro hn hm)
  clear h ht hw hl hn hm
  by_cases he : n = m
  · have d0 : ((n : Int) != (m : Int)) = false := by rw [he]; exact bne_self_eq_false _
    have HE := Lib.hid he
    rw [decide_eq_true he]
    clear he
    go_enter Tryz.func26, Tryz.ntmps26
    go_wp2_with fail
    refine HN.out.mono ?_
    rintro e w1 ⟨rfl, rfl⟩
    go_wp2_with fail
    refine HM.out.mono ?_
    rintro e w1 ⟨rfl, rfl⟩
    go_wp2_with fail
    refine (HS.out _ (Below.refl _ _)).mono ?_
    rintro e w2 ⟨b2, G2, rfl, hs2, hb2⟩
    have HS2 := Lib.hid hs2
    have HB2 := Lib.hid hb2
    clear hs2 hb2
    dsimp only
    go_wp2_with fail
    refine (HT.out _ HB2.out).mono ?_
    rintro e w3 ⟨tb3, s3, r3, rfl, ht3, hb3⟩
    have HT3 := Lib.hid ht3
    have HB3 := Lib.hid hb3
    clear ht3 hb3
    dsimp only
    go_wp2
    refine bodyPost_ret (by simp [results, Tryz.results26, go_sem]; first | rfl | exact ⟨rfl, rfl⟩) rfl ?_
    refine ⟨fun _ => ⟨⟨w3.heap.size, b2, tb3, s3, r3, G2⟩, rfl, board_parts (D := dry0) HS2.out HT3.out HB2.out.size (Nat.le_refl _) HB3.out HB3.out.size (Nat.le_refl _) HP.out.1 HP.out.2 (HNM.out.2.trans (HE.out.symm.trans HNM.out.1.symm))⟩, fun e => (by cases e), below_alloc2 (stepB HB2.out HB3.out) _⟩
  · have d0 : ((n : Int) != (m : Int)) = true := bne_iff_ne.2 (by omega)
    rw [decide_eq_false he]
    clear he
    go_enter Tryz.func26, Tryz.ntmps26
    go_wp2_with fail
    refine HN.out.mono ?_
    rintro e w1 ⟨rfl, rfl⟩
    go_wp2_with fail
    refine HM.out.mono ?_
    rintro e w1 ⟨rfl, rfl⟩
    go_wp2
    refine bodyPost_ret (by simp [results, Tryz.results26, go_sem]; first | rfl | exact ⟨rfl, rfl⟩) rfl ?_
    exact ⟨fun e => (by cases e), fun _ => rfl, Below.refl _ _⟩
set_option maxRecDepth 100000 in
set_option maxHeartbeats 2000000 in
theorem bnew_nilS (p : Option Addr) (w : World) : Calls Tryz.prog 26 #[.pointer none, .pointer p] w (Same w (.tuple #[.pointer none, .int .i64 1])) := by
  go_enter Tryz.func26, Tryz.ntmps26
  go_wp2
  go_ret2
  exact ⟨rfl, rfl⟩
set_option maxRecDepth 100000 in
set_option maxHeartbeats 2000000 in
theorem bnew_nilT (q : Nat) (w : World) : Calls Tryz.prog 26 #[.pointer (some ⟨q, 0, none⟩), .pointer none] w (Same w (.tuple #[.pointer none, .int .i64 1])) := by
  go_enter Tryz.func26, Tryz.ntmps26
  go_wp2
  go_ret2
  exact ⟨rfl, rfl⟩
end Go.Proofs.YtjgjhfeopmakaaaGreat
namespace Go.Proofs.YtjgjhfeopmakaaaGreat
open Go.RowKit

def lostF (fl : List Bool) (n : Nat) : Bool := fl.getD n true
def flags (T : TeamL) : List Bool := T.sh.map (·.lost)
theorem flags_len (T : TeamL) : (flags T).length = T.sh.length := by simp [flags]
theorem lostT_flags (T : TeamL) (n : Nat) : lostT T n = lostF (flags T) n := by
  by_cases h : n < T.sh.length
  · rw [lostT_in h]; simp [lostF, flags, List.getD, h]
  · have e : inT T n = false := by simp [inT]; omega
    rw [lostT, e]
    simp [lostF, flags, List.getD, List.getElem?_eq_none (Nat.not_lt.1 h)]
theorem foesT_none (T : TeamL) : foesT T (-1) = leftT T := by
  unfold foesT leftT
  rw [show foeB T (-1) = fun n : Nat => !lostT T n from funext fun n => by
    unfold foeB
    rw [show ((n : Int) != -1) = true from bne_iff_ne.2 (by omega), Bool.true_and]]
/-- What a range over Foes holds: a list of numbers, in a box. -/
def IntsI (q : Nat) (A Wr : World) (pre : List Int) (W : World) : Prop :=
  ∃ v, ListIn W A.heap.size q v pre ∧ KpP (fun _ => False) (fun k => k = q) Wr W ∧ Below A.heap.size A W ∧ pre.length ≤ 1000
theorem intsI_own {q B : Nat} {A Wr : World} (hA : A.heap.size ≤ B) (hB : Wr.heap.size ≤ B) : OwnFrom B (IntsI q A Wr) := by
  rintro s X Y row ⟨v, h1, h2, h3, h4⟩ hg hr
  exact ⟨v, h1.grown hg fun r e => (hr r e).2, kpP_own (β := Unit) hB () X Y row h2 hg hr, ownFrom_below (β := Unit) (Nat.le_refl _) hA () X Y row h3 hg hr, h4⟩
theorem lits_take (W : World) (g : Nat) (L : List Int) (n : Nat) (hn : n ≤ L.length) (h : W.heap[g]? = some (.cells (intsV L).toArray 3 (0, 0))) (cap : Nat) : IntsAt W (.slice (some ⟨g, 0, none⟩) n cap) (L.take n) := by
  have hl : (L.take n).length = n := by simp; omega
  refine .inr ⟨g, 0, cap, by rw [intsV_len, hl], (Array.getElem?_eq_some_iff.1 h).1, fun i hi => ?_⟩
  rw [intsV_len, hl] at hi
  rw [cell_of_row W g _ _ _ _ h]
  simp [intsV, show i < L.length by omega]
end Go.Proofs.YtjgjhfeopmakaaaGreat
namespace Go.Proofs.YtjgjhfeopmakaaaGreat
open Go.RowKit Go.Maps

theorem sides_len (n : Nat) : (sidesT n).sides.length = 4 ∧ 2 ≤ (sidesT n).sh.length ∧ (sidesT n).sh.length ≤ 4 := by
  unfold sidesT
  split
  · decide
  · split <;> decide
theorem sides_of (n : Nat) {x : Int} (h : 0 ≤ x ∧ x < 4) : 0 ≤ ofT (sidesT n) x := by
  have hx : x = 0 ∨ x = 1 ∨ x = 2 ∨ x = 3 := by omega
  unfold sidesT
  split
  · rcases hx with rfl | rfl | rfl | rfl <;> decide
  · split <;> rcases hx with rfl | rfl | rfl | rfl <;> decide
theorem sides_out (n : Nat) {x : Int} (h : x < 0 ∨ 3 < x) : ofT (sidesT n) x = -1 := by
  unfold ofT
  split
  · rename_i h0
    have := (sides_len n).1
    have hk : ¬ x.toNat < (sidesT n).sides.length := by omega
    simp [List.getD, hk]
  · rfl
theorem sides_two {n : Nat} (hn : n % 3 ≠ 2) {x : Int} (h0 : 0 ≤ x) (h4 : x < 4) : ofT (sidesT n) x = 0 ∨ ofT (sidesT n) x = 1 := by
  have hx : x = 0 ∨ x = 1 ∨ x = 2 ∨ x = 3 := by omega
  unfold sidesT
  rw [if_neg hn]
  split
  · rcases hx with rfl | rfl | rfl | rfl <;> decide
  · rcases hx with rfl | rfl | rfl | rfl <;> decide
theorem sides_lost (n : Nat) (k : Int) : lostT (sidesT n) k = !inT (sidesT n) k := by
  unfold lostT
  cases hi : inT (sidesT n) k with
  | false => rfl
  | true =>
    simp only [inT, Bool.and_eq_true, decide_eq_true_eq] at hi
    have hk : k.toNat < (sidesT n).sh.length := by omega
    have hall : ∀ x ∈ (sidesT n).sh, x.lost = false := by
      unfold sidesT newT shOf
      split
      · simp
      · split <;> simp
    have hm := hall _ (List.getElem_mem hk)
    simp [List.getD, hk, hm]
end Go.Proofs.YtjgjhfeopmakaaaGreat
namespace Go.Proofs.YtjgjhfeopmakaaaGreat
open Go.RowKit Go.Maps
attribute [local go_sem] Oper.semAt_some

def boardL (l : List ThingL) (n : Nat) : BoardL := ⟨madeF l, sidesT n, dry0⟩
/-- What Board answers. -/
def RetBoard (w : World) (l : List ThingL) (n : Nat) (e : Ending) (w' : World) : Prop :=
  (playT l ∧ MadeS (madeF l) l ∧ ∃ lo g, e = .returned (.pointer (some ⟨g.q, 0, none⟩)) ∧ BoardAt w' lo g (boardL l n) ∧ w.heap.size ≤ lo ∧ Below w.heap.size w w') ∨ (¬playT l ∧ e = .returned (.pointer none) ∧ Below w.heap.size w w')
/-- The two ways, parted. -/
def RetBY (w : World) (l : List ThingL) (n : Nat) (e : Ending) (w' : World) : Prop := ∃ lo g, e = .returned (.pointer (some ⟨g.q, 0, none⟩)) ∧ BoardAt w' lo g (boardL l n) ∧ w.heap.size ≤ lo ∧ Below w.heap.size w w'
theorem RetBoard.yes {w : World} {l : List ThingL} {n : Nat} (hp : playT l) {e : Ending} {w' : World} (h : RetBoard w l n e w') : RetBY w l n e w' := by
  rcases h with ⟨_, _, h⟩ | ⟨h, _⟩
  · exact h
  · exact absurd hp h
theorem RetBoard.no {w : World} {l : List ThingL} {n : Nat} (hp : ¬playT l) {e : Ending} {w' : World} (h : RetBoard w l n e w') : RetV w (.pointer none) e w' := by
  rcases h with ⟨h, _⟩ | ⟨_, h⟩
  · exact absurd h hp
  · exact h
/-- What things make, as a function. -/
theorem made_fold (l : List ThingL) (hl : l.all okT = true) : MadeS (madeF l) l := by
  have h : ∀ k, k ≤ l.length → MadeS (madeF (l.take k)) (l.take k) := fun k => by
    induction k with
    | zero => intro _; rw [List.take_zero]; exact made_none
    | succ k ih =>
      intro hk
      have h := ih (by omega)
      have hok : okT l[k] = true := (List.all_eq_true.1 hl) _ (List.getElem_mem (by omega))
      simp only [okT, decide_eq_true_eq] at hok
      rw [List.take_succ_eq_append_getElem (by omega)]
      obtain ⟨_, _, _, _, _, _, _, hm⟩ := h.step (q := k) l[k] l[k].card.toNat l[k].owner.toNat l[k].zone.toNat (by omega) (by omega) (by omega) (by omega) (by omega) (by omega) (by omega) (by rw [List.length_take]; omega)
      rw [madeF_snoc]
      have e : (madeF (l.take k)).objs.length = k := by rw [h.len, List.length_take]; omega
      unfold stepF
      rw [e]
      exact hm
  have := h l.length (Nat.le_refl _)
  rwa [List.take_length] at this
def oneB11 : ThingL := ⟨0, 0, 1, false, false⟩
theorem hasT_board (l : List ThingL) (hl : MadeS (madeF l) l) (n : Nat) (k : Int) : hasT (boardL l n) k = decide (0 ≤ k ∧ k < 4) := by
  unfold hasT boardL
  dsimp only
  rw [hl.seats]
  rfl
end Go.Proofs.YtjgjhfeopmakaaaGreat
