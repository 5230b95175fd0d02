/- Entries in memory (layer 12): rows of them; slices.Clone, slices.Equal of them. Stacks (layer 12): Len, Room, Push, New, Copy, Same; a stack that isn't there. A stack's All, told from the top on (layer 12); Top, Pop. A stack's Top and Pop (layer 12). A stack that isn't there: Top, Pop (layer 12). -/
import Derived.Test.YtokgmffibafkcaaGreatJx
import Derived.Test.YtokgmffibafkcaaGreatOt
namespace Go.Proofs.YtokgmffibafkcaaGreat
open Go.RowKit Go.Maps

structure EntL where
  seat : Int
  obj : Int
  pos : Int
  trig : Bool
def zeroE : EntL := ⟨0, 0, 0, false⟩
def ecells (x : EntL) : List Value := [.int .i64 x.seat, .int .i64 x.obj, .int .i64 x.pos, .bool x.trig]
def entV (x : EntL) : Value := .agg #[.int .i64 x.seat, .int .i64 x.obj, .int .i64 x.pos, .bool x.trig]
def entsV (l : List EntL) : List Value := l.flatMap ecells
theorem entsV_len (l : List EntL) : (entsV l).length = l.length * 4 := by
  induction l with
  | nil => rfl
  | cons o l ih => simp only [entsV, List.flatMap_cons, List.length_append, List.length_cons] at ih ⊢; rw [ih]; simp [ecells]; omega
theorem entsV_append (l r : List EntL) : entsV (l ++ r) = entsV l ++ entsV r := by simp [entsV]
theorem entsV_at : ∀ (l : List EntL) (k j : Nat) (h : k < l.length) (_ : j < 4), (entsV l)[k * 4 + j]? = (ecells l[k])[j]?
  | [], k, j, h, _ => by simp at h
  | o :: l, 0, j, _, hj => by
    simp only [entsV, List.flatMap_cons, Nat.zero_mul, Nat.zero_add, List.getElem_cons_zero]
    exact List.getElem?_append_left (by simpa [ecells] using hj)
  | o :: l, k + 1, j, h, hj => by
    have e : (entsV (o :: l))[(k + 1) * 4 + j]? = (entsV l)[k * 4 + j]? := by
      rw [show (k + 1) * 4 + j = k * 4 + j + 4 by omega]
      simp [entsV, ecells]
    rw [e, entsV_at l k j (by simpa using h) hj]
    rfl
def EntCells (w : World) (b o : Nat) (x : EntL) : Prop :=
  w.cell? ⟨b, o, none⟩ = some (.int .i64 x.seat) ∧ w.cell? ⟨b, o + 1, none⟩ = some (.int .i64 x.obj) ∧ w.cell? ⟨b, o + 2, none⟩ = some (.int .i64 x.pos) ∧ w.cell? ⟨b, o + 3, none⟩ = some (.bool x.trig)
theorem EntCells.later {w w' : World} {b o : Nat} {x : EntL} (h : EntCells w b o x) (hb : Below w.heap.size w w') : EntCells w' b o x := by
  obtain ⟨c0, c1, c2, c3⟩ := h
  exact ⟨cell_stays hb c0, cell_stays hb c1, cell_stays hb c2, cell_stays hb c3⟩
def EntsAt (w : World) (v : Value) (l : List EntL) : Prop :=
  (∃ xa cap, v = .slice xa 0 cap ∧ l = []) ∨ ∃ b off cap, v = .slice (some ⟨b, off, none⟩) l.length cap ∧ b < w.heap.size ∧ ∀ i (h : i < l.length), EntCells w b (off + i * 4) l[i]
theorem EntsAt.later {w w' : World} {v : Value} {l : List EntL} (h : EntsAt w v l) (hb : Below w.heap.size w w') : EntsAt w' v l := by
  rcases h with h | ⟨b, off, cap, rfl, hlt, hc⟩
  · exact .inl h
  · exact .inr ⟨b, off, cap, rfl, Nat.lt_of_lt_of_le hlt hb.size, fun i hi => (hc i hi).later hb⟩
theorem EntsAt.form {w : World} {v : Value} {l : List EntL} (h : EntsAt w v l) : ∃ xa xc, v = .slice xa l.length xc := by
  rcases h with ⟨xa, cap, rfl, rfl⟩ | ⟨b, off, cap, rfl, _⟩
  · exact ⟨xa, cap, rfl⟩
  · exact ⟨_, cap, rfl⟩
theorem EntsAt.at {w : World} {xa : Option Addr} {xc : Nat} {l : List EntL} (h : EntsAt w (.slice xa l.length xc) l) (k : Nat) (hk : k < l.length) : ∃ b off, xa = some ⟨b, off, none⟩ ∧ b < w.heap.size ∧ EntCells w b (off + k * 4) l[k] := by
  rcases h with ⟨_, _, _, h2⟩ | ⟨b, off, cap, h1, hlt, hc⟩
  · subst h2; simp at hk
  · injection h1 with h1 _ _; exact ⟨b, off, h1, hlt, hc k hk⟩
theorem own_ent {w : World} {lo : Nat} {v : Value} {l : List EntL} (h : w.ownsRow lo 75 4 v l.length (entsV l)) (k : Nat) (hk : k < l.length) :
    ∃ g cap, v = .slice (some ⟨g, 0, none⟩) l.length cap ∧ EntCells w g (k * 4) l[k] ∧ (∀ j, w.frozen? ⟨g, j, none⟩ = false) := by
  rcases h.2 with ⟨_, h0⟩ | ⟨g, cap, cur, e, hb, hg, hn, hm, hs, ht⟩
  · omega
  · refine ⟨g, cap, e, ?_, fun j => frozen_of_row w g j _ _ hg⟩
    have hc : ∀ j (hj : j < 4), w.cell? ⟨g, k * 4 + j, none⟩ = (ecells l[k])[j]? := fun j hj => by
      rw [← entsV_at l k j hk hj, cell_of_row w g (k * 4 + j) _ _ (0, 0) hg, ← ht, List.getElem?_take_of_lt (by omega)]
      simp
    exact ⟨hc 0 (by decide), hc 1 (by decide), hc 2 (by decide), hc 3 (by decide)⟩
theorem own_ents {w : World} {lo : Nat} {v : Value} {l : List EntL} (h : w.ownsRow lo 75 4 v l.length (entsV l)) : EntsAt w v l := by
  rcases h.2 with ⟨e, h0⟩ | ⟨g, cap, cur, e, hb, hg, hn, hm, hs, ht⟩
  · exact .inl ⟨none, 0, e, List.eq_nil_of_length_eq_zero h0⟩
  · refine .inr ⟨g, 0, cap, e, (Array.getElem?_eq_some_iff.1 hg).1, fun i hi => ?_⟩
    obtain ⟨g', cap', e', hc, _⟩ := own_ent h i hi
    rw [e] at e'
    injection e' with e1 _ _
    injection e1 with e1
    injection e1 with e1 _ _
    subst e1
    simpa using hc
theorem own_lastE {w : World} {lo n : Nat} {xa : Option Addr} {xc : Nat} {l : List EntL} {x : EntL} (h : w.ownsRow lo 75 4 (.slice xa (l.length + 1) xc) n (entsV (l ++ [x]))) : w.ownsRow lo 75 4 (.slice xa l.length xc) l.length (entsV l) := by
  rcases h.2 with ⟨e, _⟩ | ⟨g, cap, cur, e, hb, hg, hn, hm, hs, ht⟩
  · cases e
  · injection e with e1 e2 e3
    subst e1 e2 e3
    refine ⟨by rw [entsV_len], .inr ⟨g, _, cur, rfl, hb, hg, by omega, hm, hs, ?_⟩⟩
    have h2 := congrArg (List.take (l.length * 4)) ht
    rw [List.take_take, entsV_append, List.take_append_of_le_length (by rw [entsV_len]; omega), show min (l.length * 4) ((l.length + 1) * 4) = l.length * 4 by omega] at h2
    rw [h2, ← entsV_len, List.take_length]
theorem info_ent : (Tryz.prog.info? 75).map (fun i => (i.zero, i.size, i.bytes)) = some (some (.agg #[.int .i64 0, .int .i64 0, .int .i64 0, .bool false]), 4, 32) := by kernel_rfl
theorem ecells_one (x : EntL) : ∀ u ∈ ecells x, u.oneCell' = true := by
  intro u hu
  simp only [ecells, List.mem_cons, List.not_mem_nil, or_false] at hu
  rcases hu with rfl | rfl | rfl | rfl <;> rfl
theorem step_append_ent {ops : Array Oper} {o : Oper} {a : Act} {w : World} {K : Act → World → Prop} {Q : Exit → Act → World → Prop} {E : Prop} (hgd : o.guard = none) (s x : Operand)
    (hop : o.op = .call { callee := .builtin .append, args := #[s, x], argTypes := #[71, 71] }) (base : Nat) (v : Value) (l : List EntL) (y : EntL) (hs : a.eval s = v) (r : Nat)
    (hown : w.ownsRow base 75 4 v l.length (entsV l)) (hx : a.eval x = .slice (some ⟨r, 0, none⟩) 1 1) (hr : w.heap[r]? = some (.cells (ecells y).toArray 75 (0, 0))) (h1 : l.length ≤ 1000) (hbase : base ≤ w.heap.size)
    (hK : ∀ g cap w', w'.ownsRow base 75 4 (.slice (some ⟨g, 0, none⟩) (l.length + 1) cap) (l.length + 1) (entsV (l ++ [y])) → w.grownBy w' v.ownBlock → (v.ownBlock = some g ∨ g = w.heap.size) → g < w'.heap.size → K (a.put o.dst (.slice (some ⟨g, 0, none⟩) (l.length + 1) cap)) w') :
    if Region.wanted o (yielded ops a.tmps) = true then Oper.wp Tryz.prog o a w K Q else E := by
  obtain ⟨i0, hi0, hz0, hz1, hz2⟩ := info_parts info_ent
  refine step_append_lies w hgd s x 71 hop base 75 i0 _ 4 32 Tryz.underlying71 hi0 hz0 hz1 hz2 rfl (by decide) v l.length (entsV l) hs hown ⟨r, 0, none⟩ 1 1 (ecells y) hx rfl (World.news_of_block hr) (ecells_one y) (by decide) (by unfold maxLen; omega) (by omega) hbase w.heap.size rfl ?_
  intro g cap w' h2 h3 h4 h5
  refine hK g cap w' ?_ h3 h4 h5
  rw [entsV_append, show entsV [y] = ecells y by simp [entsV]]
  exact h2
theorem wpList_push_ent {ops : Array Oper} {rest : List Oper} {o : Oper} {a : Act} {w : World} {Q : Exit → Act → World → Prop} (hgd : o.guard = none) (s x : Operand)
    (hop : o.op = .call { callee := .builtin .append, args := #[s, x], argTypes := #[71, 71] }) (base : Nat) (v : Value) (l : List EntL) (y : EntL) (hs : a.eval s = v) (r : Nat)
    (hown : w.ownsRow base 75 4 v l.length (entsV l)) (hx : a.eval x = .slice (some ⟨r, 0, none⟩) 1 1) (hr : w.heap[r]? = some (.cells (ecells y).toArray 75 (0, 0))) (h1 : l.length ≤ 1000) (hbase : base ≤ w.heap.size)
    (hK : ∀ g cap w', w'.ownsRow base 75 4 (.slice (some ⟨g, 0, none⟩) (l.length + 1) cap) (l.length + 1) (entsV (l ++ [y])) → w.grownBy w' v.ownBlock → (v.ownBlock = some g ∨ g = w.heap.size) → g < w'.heap.size → wpList Tryz.prog ops Q rest (a.put o.dst (.slice (some ⟨g, 0, none⟩) (l.length + 1) cap)) w') :
    wpList Tryz.prog ops Q (o :: rest) a w := by
  obtain ⟨i0, hi0, hz0, hz1, hz2⟩ := info_parts info_ent
  refine wpList_append_lies w hgd s x 71 hop base 75 i0 _ 4 32 Tryz.underlying71 hi0 hz0 hz1 hz2 rfl (by decide) v l.length (entsV l) hs hown ⟨r, 0, none⟩ 1 1 (ecells y) hx rfl (World.news_of_block hr) (ecells_one y) (by decide) (by unfold maxLen; omega) (by omega) hbase w.heap.size rfl ?_
  intro g cap w' h2 h3 h4 h5
  refine hK g cap w' ?_ h3 h4 h5
  rw [entsV_append, show entsV [y] = ecells y by simp [entsV]]
  exact h2
set_option maxHeartbeats 4000000 in
theorem eqEnt (n : Nat) (a0 c0 a1 c1 a2 c2 : Int) (a3 c3 : Bool) (w : World) : (Op.equalIn (n + 2) 75 (.agg #[.int .i64 a0, .int .i64 a1, .int .i64 a2, .bool a3]) (.agg #[.int .i64 c0, .int .i64 c1, .int .i64 c2, .bool c3])).run Tryz.prog w = .ok (a0 == c0 && (a1 == c1 && (a2 == c2 && (a3 == c3)))) w := by
  have uI := Tryz.underlying3
  have gI := Tryz.isAgg3
  have zI := Tryz.sizeOf3
  have uB := Tryz.underlying4
  have gB := Tryz.isAgg4
  have zB := Tryz.sizeOf4
  have hS : Tryz.prog.underlying 75 = some (.struct (Tryz.prog.fieldsOf 75)) := by kernel_rfl
  rw [run_equalIn_agg w (n + 1) 75 _ _ hS (by kernel_rfl)]
  simp only [Program.fieldsOf, Tryz.underlying75]
  go_simp
  by_cases h0 : a0 = c0
  · subst h0
    by_cases h1 : a1 = c1
    · subst h1
      by_cases h2 : a2 = c2
      · subst h2
        by_cases h3 : a3 = c3
        · subst h3
          simp
        · simp [h3]
      · simp [h2]
    · simp [h1]
  · simp [h0]
theorem neqEnt (a0 c0 a1 c1 a2 c2 : Int) (a3 c3 : Bool) (w : World) : (binOp .neq 75 (.agg #[.int .i64 a0, .int .i64 a1, .int .i64 a2, .bool a3]) (.agg #[.int .i64 c0, .int .i64 c1, .int .i64 c2, .bool c3])).run Tryz.prog w = .ok (.bool (!(a0 == c0 && (a1 == c1 && (a2 == c2 && (a3 == c3)))))) w := by
  rw [run_neq_struct, eqEnt 9998]
  rfl
theorem neqgE (x y : Operand) (xs ys : Array Value) (W : World) : (eqGuard .neq 75 x y (.agg xs) (.agg ys)).run Tryz.prog W = .ok () W := run_eqGuard_agg W .neq 75 x y xs ys (by kernel_rfl)
def eqE (x y : EntL) : Bool := x.seat == y.seat && (x.obj == y.obj && (x.pos == y.pos && (x.trig == y.trig)))
theorem eqE_iff (x y : EntL) : eqE x y = true ↔ x = y := by
  unfold eqE
  obtain ⟨x0, x1, x2, x3⟩ := x
  obtain ⟨y0, y1, y2, y3⟩ := y
  simp only [Bool.and_eq_true, beq_iff_eq, EntL.mk.injEq]
instance : DecidableEq EntL := fun x y => decidable_of_iff (eqE x y = true) (eqE_iff x y)
def RetEnts (w : World) (l : List EntL) (e : Ending) (w' : World) : Prop := ∃ v, e = .returned v ∧ w'.ownsRow w.heap.size 75 4 v l.length (entsV l) ∧ Below w.heap.size w w'
theorem append_zeroE (g : Nat) (xa : Option Addr) (xc : Nat) (w : World) : (Builtin.append_ #[71, 71] 71 #[.slice (some ⟨g, 0, none⟩) 0 0, .slice xa 0 xc]).run Tryz.prog w = .ok (.slice (some ⟨g, 0, none⟩) 0 0) w := by
  obtain ⟨i0, hi0, hz0, hz1, hz2⟩ := info_parts info_ent
  cases xa <;> simp [Builtin.append_, run_underlying Tryz.underlying71, sizeOf, typeInfo, hi0, Builtin.lenOf, Builtin.firstCells, loadCells, loadCellsFrom, storeCells]
theorem nil_ent (W : World) : (binOp .eql 71 (.slice none 0 0) (.slice none 0 0)).run Tryz.prog W = .ok (.bool true) W := by kernel_rfl
theorem some_ent (a : Addr) (n c : Nat) (W : World) : (binOp .eql 71 (.slice (some a) n c) (.slice none 0 0)).run Tryz.prog W = .ok (.bool false) W := by kernel_rfl
theorem entsV_one (l : List EntL) : ∀ u ∈ entsV l, u.oneCell' = true := by
  intro u hu
  simp only [entsV, List.mem_flatMap] at hu
  obtain ⟨o, _, hu⟩ := hu
  exact ecells_one o u hu
set_option maxRecDepth 100000 in
set_option maxHeartbeats 4000000 in
theorem equal_ents {lo lo' : Nat} {v u : Value} {l r : List EntL} {w : World} (hl : w.ownsRow lo 75 4 v l.length (entsV l)) (hr : w.ownsRow lo' 75 4 u r.length (entsV r)) (hn : l.length ≤ 1000) :
    Calls Tryz.prog 62 #[v, u] w fun e w' => e = .returned (.bool (decide (l = r))) ∧ ∃ n, w' = w.drewN n := by
  obtain ⟨xa, xc, rfl⟩ := own_form hl
  obtain ⟨ya, yc, rfl⟩ := own_form hr
  have HL := Lib.hid hl
  have HR := Lib.hid hr
  clear hl hr
  by_cases hne : l.length ≠ r.length
  · have d : ((l.length : Int) != r.length) = true := bne_iff_ne.2 (by omega)
    have HS := Lib.hid (show decide (l = r) = false from decide_eq_false (fun e => hne (by rw [e])))
    clear hne
    go_enter Tryz.func62, Tryz.ntmps62
    go_wp2
    go_ret
    exact ⟨ret_bool HS.out.symm, 0, rfl⟩
  have heq : l.length = r.length := Classical.not_not.1 hne
  have d : ((l.length : Int) != r.length) = false := by rw [heq]; exact bne_self_eq_false _
  have HQ := Lib.hid heq
  clear hne heq
  have h2 := @neqgE
  go_enter Tryz.func62, Tryz.ntmps62
  go_wp2
  go_loopw [13] (fun i wr => ∃ k n : Nat, k ≤ l.length ∧ i = .int .i64 k ∧ wr = w.drewN n ∧ Hid (l.take k = r.take k)) (fun i _ => l.length - (intOf i).toNat)
  case atStart => exact ⟨0, 0, Nat.zero_le _, rfl, rfl, Lib.hid rfl⟩
  case round =>
    obtain ⟨k, n, hk, rfl, rfl, HK⟩ := hrel
    by_cases hlt : k < l.length
    · have hlt2 : k < r.length := by have := HQ.out; omega
      obtain ⟨g, cap, hgv, ⟨o0, o1, o2, o3⟩, _⟩ := own_ent HL.out k hlt
      obtain ⟨g', cap', hgv', ⟨p0, p1, p2, p3⟩, _⟩ := own_ent HR.out k hlt2
      injection hgv with hxa _ hxc
      injection hgv' with hya _ hyc
      subst hxa hxc hya hyc
      have HT1 := Lib.hid (take_last l k hlt)
      have HT2 := Lib.hid (take_last r k hlt2)
      have HIX := Lib.hid (show l = r → l[k] = r[k] from fun e => by subst e; rfl)
      obtain ⟨x, hx⟩ : ∃ x, l[k] = x := ⟨_, rfl⟩
      obtain ⟨y, hy⟩ : ∃ y, r[k] = y := ⟨_, rfl⟩
      rw [hx] at o0 o1 o2 o3 HT1 HIX
      rw [hy] at p0 p1 p2 p3 HT2 HIX
      obtain ⟨E, hE⟩ : ∃ E, eqE x y = E := ⟨_, rfl⟩
      have h3 := fun W => neqEnt x.seat y.seat x.obj y.obj x.pos y.pos x.trig y.trig W
      have hE' := hE
      unfold eqE at hE'
      rw [hE'] at h3
      have d0 : (0 : Int) ≤ k := by omega
      have d1 : (k : Int) < l.length := by omega
      have d2 : (k : Int) < r.length := by omega
      clear hE' hx hy
      cases E
      · have HS := Lib.hid (show decide (l = r) = false from decide_eq_false (fun e => by
          have h4 := HIX.out e
          rw [(eqE_iff x y).2 h4] at hE
          cases hE))
        clear hE
        go_wp2
        go_quiet (fail)
        go_wp2
        go_ret
        exact ⟨ret_bool HS.out.symm, _, World.drewN_drewN _ _ _⟩
      · have HT : Hid (l.take (k + 1) = r.take (k + 1)) := Lib.hid (by
          rw [HT1.out, HT2.out, HK.out, (eqE_iff x y).1 hE])
        clear hE
        go_wp2
        go_quiet (fail)
        go_wp2
        go_roundw
        case rel => exact ⟨k + 1, _, by omega, by go_num, rfl, HT⟩
        case measure => simp [intOf]; omega
    · obtain rfl : k = l.length := by omega
      have HS := Lib.hid (show decide (l = r) = true from decide_eq_true (by
        have h1 := HK.out
        rw [List.take_length, HQ.out, List.take_length] at h1
        exact h1))
      go_wp2
      go_ret
      exact ⟨ret_bool HS.out.symm, _, rfl⟩
end Go.Proofs.YtokgmffibafkcaaGreat
namespace Go.Proofs.YtokgmffibafkcaaGreat
open Go.RowKit Go.Maps
attribute [local go_sem] Oper.semAt_some

theorem own_keepS {w w' : World} {base sz n : Nat} {t : TypeId} {v : Value} {xs : List Value} (h : w.ownsRow base t sz v n xs) (hk : ∀ k, v.ownBlock = some k → w'.heap[k]? = w.heap[k]?) : w'.ownsRow base t sz v n xs := by
  refine ⟨h.1, ?_⟩
  rcases h.2 with h2 | ⟨g, cap, cur, e, hb2, hg, r⟩
  · exact .inl h2
  · exact .inr ⟨g, cap, cur, e, hb2, (hk g (by rw [e]; rfl)).trans hg, r⟩
/-- A stack in memory: its box, its row. -/
def StackAt (w : World) (lo b : Nat) (g : Option Nat) (L : List EntL) : Prop :=
  ∃ v, w.heap[b]? = some (.cells #[v] 73 (0, 0)) ∧ v.ownBlock = g ∧ lo ≤ b ∧ w.ownsRow lo 75 4 v L.length (entsV L)
theorem StackAt.lt {w : World} {lo b : Nat} {g : Option Nat} {L : List EntL} (h : StackAt w lo b g L) : b < w.heap.size := by
  obtain ⟨v, h1, _⟩ := h
  exact (Array.getElem?_eq_some_iff.1 h1).1
theorem StackAt.lo {w : World} {lo b : Nat} {g : Option Nat} {L : List EntL} (h : StackAt w lo b g L) : lo ≤ b := by obtain ⟨v, _, _, h3, _⟩ := h; exact h3
theorem StackAt.row {w : World} {lo b : Nat} {g : Option Nat} {L : List EntL} (h : StackAt w lo b g L) : ∀ k, g = some k → lo ≤ k ∧ k < w.heap.size ∧ k ≠ b := by
  obtain ⟨v, h1, h2, _, h4⟩ := h
  intro k hk
  rw [← h2] at hk
  have := World.ownsRow.lt h4 k hk
  refine ⟨this.1, this.2, fun e => ?_⟩
  rcases h4.2 with ⟨rfl, _⟩ | ⟨g', cap, cur, rfl, _, hg, _⟩
  · simp [Value.ownBlock] at hk
  · obtain rfl : g' = k := by simpa [Value.ownBlock] using hk
    rw [e, h1] at hg
    injection hg with hg
    injection hg with _ ht
    exact absurd ht (by decide)
theorem StackAt.kept {w w' : World} {lo b : Nat} {g : Option Nat} {L : List EntL} (h : StackAt w lo b g L) (hb : w'.heap[b]? = w.heap[b]?) (hg : ∀ k, g = some k → w'.heap[k]? = w.heap[k]?) : StackAt w' lo b g L := by
  obtain ⟨v, h1, h2, h3, h4⟩ := h
  exact ⟨v, hb.trans h1, h2, h3, own_keepS h4 (fun k hk => hg k (by rw [← h2]; exact hk))⟩
theorem StackAt.later {w w' : World} {lo b : Nat} {g : Option Nat} {L : List EntL} (h : StackAt w lo b g L) (hb : Below w.heap.size w w') : StackAt w' lo b g L :=
  h.kept (hb.block b h.lt) fun k hk => hb.block k (h.row k hk).2.1
theorem StackAt.mono {w : World} {lo lo' b : Nat} {g : Option Nat} {L : List EntL} (h : StackAt w lo b g L) (hl : lo' ≤ lo) : StackAt w lo' b g L := by
  obtain ⟨v, h1, h2, h3, h4⟩ := h
  exact ⟨v, h1, h2, Nat.le_trans hl h3, own_mono h4 hl⟩
theorem StackAt.far {w w' : World} {lo b b2 : Nat} {g g2 : Option Nat} {L : List EntL} (h : StackAt w lo b2 g2 L) (hc : Chg w w' b g) (hs : Sep b g b2 g2) : StackAt w' lo b2 g2 L :=
  h.kept (hc.block b2 h.lt (Ne.symm hs.1) hs.2.1) fun k hk => hc.block k (h.row k hk).2.1 (fun e => hs.2.2.1 (by rw [hk, e])) (fun e => hs.2.2.2 k e hk)
theorem StackAt.free {w : World} {lo b : Nat} {g : Option Nat} {L : List EntL} (h : StackAt w lo b g L) (j : Nat) : w.frozen? ⟨b, j, none⟩ = false := by
  obtain ⟨v, h1, _⟩ := h
  exact frozen_of_row w b j _ _ h1
/-- The stack's field, its row. -/
theorem StackAt.field {w : World} {lo b : Nat} {g : Option Nat} {L : List EntL} (h : StackAt w lo b g L) : ∃ xa xc, w.cell? ⟨b, 0, none⟩ = some (.slice xa L.length xc) ∧ (Value.slice xa L.length xc).ownBlock = g ∧ w.ownsRow lo 75 4 (.slice xa L.length xc) L.length (entsV L) := by
  obtain ⟨v, h1, h2, h3, h4⟩ := h
  obtain ⟨xa, xc, rfl⟩ := own_form h4
  exact ⟨xa, xc, by rw [cell_of_row w b 0 _ _ _ h1]; rfl, h2, h4⟩
/-- A stack's row laid anew. -/
theorem stack_put {w w1 w2 : World} {lo b : Nat} {g : Option Nat} {v v' : Value} {L : List EntL} (hbl : w1.heap[b]? = some (.cells #[v] 73 (0, 0))) (hlo : lo ≤ b) (hb1 : Below w.heap.size w w1)
    (hg : w1.grownBy w2 g) (hgb : g ≠ some b) (hown : w2.ownsRow lo 75 4 v' L.length (entsV L)) (hnb : v'.ownBlock ≠ some b) :
    StackAt (w2.setCell ⟨b, 0, none⟩ v') lo b v'.ownBlock L ∧ Chg w (w2.setCell ⟨b, 0, none⟩ v') b g := by
  have h2 : w2.heap[b]? = some (.cells #[v] 73 (0, 0)) := (hg.block b (Array.getElem?_eq_some_iff.1 hbl).1 (Ne.symm hgb)).trans hbl
  refine ⟨⟨v', ?_, rfl, hlo, own_keepS hown (fun k hk => heap_setCell_other w2 ⟨b, 0, none⟩ k v' (fun e => hnb (by rw [hk, e])))⟩, ⟨hg.os.trans hb1.os, hg.tape.trans hb1.tape, hg.output.trans hb1.output, ?_, ?_⟩⟩
  · rw [heap_setCell_same w2 b 0 _ _ v' h2]; rfl
  · have := hb1.size; have := hg.size; simp; omega
  · intro k hk hkb hkg
    rw [heap_setCell_other w2 ⟨b, 0, none⟩ k v' hkb, hg.block k (Nat.lt_of_lt_of_le hk hb1.size) (Ne.symm hkg), hb1.block k hk]
def RetStk (w : World) (lo b : Nat) (g : Option Nat) (v : Value) (L : List EntL) (e : Ending) (w' : World) : Prop := ∃ g', e = .returned v ∧ StackAt w' lo b g' L ∧ Chg w w' b g ∧ Newer w g g'

theorem room_stk {w : World} {lo b : Nat} {g : Option Nat} {L : List EntL} (h : StackAt w lo b g L) (hL : L.length ≤ 1000) : Calls Tryz.prog 83 #[.pointer (some ⟨b, 0, none⟩)] w (Same w (.int .i64 (8 - (L.length : Int)))) := by
  obtain ⟨xa, xc, c0, -, -⟩ := h.field
  clear h
  go_enter Tryz.func83, Tryz.ntmps83
  go_wp2
  go_ret
  exact ⟨rfl, rfl⟩
theorem room_stk0 (w : World) : Calls Tryz.prog 83 #[.pointer none] w (Same w (.int .i64 0)) := by
  go_enter Tryz.func83, Tryz.ntmps83
  go_wp2
  go_ret
  exact ⟨rfl, rfl⟩
set_option maxRecDepth 100000 in
theorem push_stk0 (x : EntL) (w : World) : Calls Tryz.prog 41 #[.pointer none, entV x] w (RetV w (.int .i64 1)) := by
  obtain ⟨x0, x1, x2, x3⟩ := x
  unfold entV
  dsimp only
  go_enter Tryz.func41, Tryz.ntmps41
  go_wp2
  go_ret
  exact ⟨rfl, below_new w _⟩
theorem same_stk00 (w : World) : Calls Tryz.prog 29 #[.pointer none, .pointer none] w (Same w (.bool true)) := by
  go_enter Tryz.func29, Tryz.ntmps29
  go_wp2
  go_ret
  exact ⟨rfl, rfl⟩
set_option maxRecDepth 100000 in
theorem same_stk0 (b : Nat) (w : World) : Calls Tryz.prog 29 #[.pointer none, .pointer (some ⟨b, 0, none⟩)] w (Same w (.bool false)) := by
  have hq : ∀ W, (binOp .eql 30 (.pointer none) (.pointer (some ⟨b, 0, none⟩))).run Tryz.prog W = .ok (.bool false) W := fun W => by kernel_rfl
  go_enter Tryz.func29, Tryz.ntmps29
  go_wp2
  go_ret
  exact ⟨rfl, rfl⟩
set_option maxRecDepth 100000 in
/-- Push where there is no room. -/
theorem push_full {w : World} {lo b : Nat} {g : Option Nat} {L : List EntL} (x : EntL) (h : StackAt w lo b g L) (hL : L.length = 8) : Calls Tryz.prog 41 #[.pointer (some ⟨b, 0, none⟩), entV x] w (RetV w (.int .i64 6)) := by
  obtain ⟨x0, x1, x2, x3⟩ := x
  unfold entV
  dsimp only
  have HR := Lib.hid (room_stk (h.later (below_new w (.cells #[.int .i64 x0, .int .i64 x1, .int .i64 x2, .bool x3] 75))) (by omega))
  rw [hL] at HR
  clear h hL
  go_enter Tryz.func41, Tryz.ntmps41
  go_wp2_with fail
  refine HR.out.mono ?_
  rintro e w1 ⟨rfl, rfl⟩
  go_wp2
  go_ret
  exact ⟨rfl, below_new w _⟩
set_option maxRecDepth 100000 in
set_option maxHeartbeats 4000000 in
theorem push_ok {w : World} {lo b : Nat} {g : Option Nat} {L : List EntL} (x : EntL) (h : StackAt w lo b g L) (hL : L.length < 8) : Calls Tryz.prog 41 #[.pointer (some ⟨b, 0, none⟩), entV x] w (RetStk w lo b g (.int .i64 0) (L ++ [x])) := by
  obtain ⟨x0, x1, x2, x3⟩ := x
  have hW := below_new w (.cells #[.int .i64 x0, .int .i64 x1, .int .i64 x2, .bool x3] 75)
  have HR := Lib.hid (room_stk (h.later hW) (by omega))
  have e0 : ((8 : Int) - (L.length : Int) == 0) = false := beq_eq_false_iff_ne.2 (by omega)
  have HLO := Lib.hid (And.intro h.lo h.lt)
  have HRW := Lib.hid h.row
  obtain ⟨v, h1, h2, -, h4⟩ := h.later hW
  obtain ⟨xa, xc, rfl⟩ := own_form h4
  have c0 := cell_of_row _ b 0 _ _ _ h1
  rw [show #[Value.slice xa L.length xc][0]? = some (.slice xa L.length xc) from rfl] at c0
  have s0 := cell_of_row _ w.heap.size 0 _ _ _ (heap_alloc_new w (.cells #[.int .i64 x0, .int .i64 x1, .int .i64 x2, .bool x3] 75))
  have s1 := cell_of_row _ w.heap.size 1 _ _ _ (heap_alloc_new w (.cells #[.int .i64 x0, .int .i64 x1, .int .i64 x2, .bool x3] 75))
  have s2 := cell_of_row _ w.heap.size 2 _ _ _ (heap_alloc_new w (.cells #[.int .i64 x0, .int .i64 x1, .int .i64 x2, .bool x3] 75))
  have s3 := cell_of_row _ w.heap.size 3 _ _ _ (heap_alloc_new w (.cells #[.int .i64 x0, .int .i64 x1, .int .i64 x2, .bool x3] 75))
  rw [show #[Value.int .i64 x0, .int .i64 x1, .int .i64 x2, .bool x3][0]? = some (.int .i64 x0) from rfl] at s0
  rw [show #[Value.int .i64 x0, .int .i64 x1, .int .i64 x2, .bool x3][1]? = some (.int .i64 x1) from rfl] at s1
  rw [show #[Value.int .i64 x0, .int .i64 x1, .int .i64 x2, .bool x3][2]? = some (.int .i64 x2) from rfl] at s2
  rw [show #[Value.int .i64 x0, .int .i64 x1, .int .i64 x2, .bool x3][3]? = some (.bool x3) from rfl] at s3
  obtain ⟨W, hWW⟩ : ∃ W, w.alloc (.cells #[.int .i64 x0, .int .i64 x1, .int .i64 x2, .bool x3] 75) = W := ⟨_, rfl⟩
  rw [hWW] at HR hW h1 h4 c0 s0 s1 s2 s3
  have HH := Lib.hid (And.intro h1 h4)
  have HG := Lib.hid h2
  have HW := Lib.hid hWW
  have HB0 := Lib.hid hW
  unfold entV
  dsimp only
  clear h h1 h2 h4 hW hWW
  go_enter Tryz.func41, Tryz.ntmps41
  go_wp2_with fail
  rw [HW.out]
  refine HR.out.mono ?_
  rintro e w1 ⟨rfl, rfl⟩
  go_wp2
  have c0a := cell_stays (below_new w1 (.cells #[.int .i64 x0, .int .i64 x1, .int .i64 x2, .bool x3] 75)) c0
  go_region_law ((first
    | (refine step_append_ent rfl _ _ rfl lo (.slice xa L.length xc) L ⟨x0, x1, x2, x3⟩ rfl w1.heap.size (own_keepS HH.out.2 (fun k hk => (below_new w1 _).block k (World.ownsRow.lt HH.out.2 k hk).2)) rfl (heap_alloc_new w1 _) (by omega) (by have := HLO.out; have := HB0.out.size; simp; omega) ?_
       intro g' cap' w3 hown hgrow hat hlt3
       have hhd : w3.heap[b]? = some (.cells #[.slice xa L.length xc] 73 (0, 0)) := (hgrow.block b (by have := HLO.out.2; have := HB0.out.size; simp; omega) (by rw [HG.out]; exact fun e => (HRW.out b e.symm).2.2 rfl)).trans (((below_new w1 _).block b (by have := HLO.out.2; have := HB0.out.size; omega)).trans HH.out.1)
       have c3 : w3.cell? ⟨b, 0, none⟩ = some (.slice xa L.length xc) := (by rw [cell_of_row w3 b 0 _ _ _ hhd]; rfl)
       have f3 : w3.frozen? ⟨b, 0, none⟩ = false := frozen_of_row w3 b 0 _ _ hhd)
    | (fail "arm")))
  all_goals
    have hput := stack_put (w := w) (w1 := (w1.alloc (.cells #[.int .i64 x0, .int .i64 x1, .int .i64 x2, .bool x3] 75)).drew) (lo := lo) (g := g) (v' := .slice (some ⟨g', 0, none⟩) (L.length + 1) cap') (L := L ++ [⟨x0, x1, x2, x3⟩]) (((below_new w1 _).block b (by have := HLO.out.2; have := HB0.out.size; omega)).trans HH.out.1) HLO.out.1 (below_alloc2 HB0.out _).drew (by rw [← HG.out]; exact hgrow) (fun e => (HRW.out b e).2.2 rfl) (by simpa using hown) (by
      intro e
      have e1 : g' = b := by simpa [Value.ownBlock] using e
      rcases hat with h | h
      · rw [HG.out] at h; exact (HRW.out g' h).2.2 e1
      · have h1 := HLO.out.2; have h2 := HB0.out.size; have h3 : g' = w1.heap.size + 1 := by rw [h]; simp
        omega)
    have HPUT := Lib.hid hput
    have HN : Hid (Newer w g (some g')) := Lib.hid (by
      rcases hat with h | h
      · exact .inl (by rw [← HG.out, h])
      · exact .inr ⟨g', rfl, by have h2 := HB0.out.size; have h3 : g' = w1.heap.size + 1 := by rw [h]; simp
                                omega⟩)
    clear hown hgrow hat hlt3 hput hhd c3 f3
    go_wp2
    go_ret
    exact ⟨_, rfl, HPUT.out.1, HPUT.out.2, HN.out⟩
/-- A stack of its own. -/
def RetCopyK (w : World) (L : List EntL) (e : Ending) (w' : World) : Prop := ∃ b g, e = .returned (.pointer (some ⟨b, 0, none⟩)) ∧ StackAt w' w.heap.size b g L ∧ Below w.heap.size w w'
set_option maxRecDepth 100000 in
theorem same_stk {w : World} {lo b lo' b' : Nat} {g g' : Option Nat} {L L' : List EntL} (h : StackAt w lo b g L) (h' : StackAt w lo' b' g' L') (hL : L.length ≤ 1000) : Calls Tryz.prog 29 #[.pointer (some ⟨b, 0, none⟩), .pointer (some ⟨b', 0, none⟩)] w (Drew w (.bool (decide (L = L')))) := by
  obtain ⟨xa, xc, c0, -, ho⟩ := h.field
  obtain ⟨ya, yc, c1, -, ho'⟩ := h'.field
  have HQ := Lib.hid (fun nd => ((equal_ents (w := w.drewN nd) (own_keepS ho fun _ _ => rfl) (own_keepS ho' fun _ _ => rfl) hL).mono fun e w'' (hx : e = .returned (.bool (decide (L = L'))) ∧ ∃ n, w'' = (w.drewN nd).drewN n) => (⟨hx.1, by obtain ⟨_, n, rfl⟩ := hx; exact ⟨_, World.drewN_drewN _ _ _⟩⟩ : e = .returned (.bool (decide (L = L'))) ∧ ∃ m, w'' = w.drewN m) : Calls Tryz.prog 62 #[.slice xa L.length xc, .slice ya L'.length yc] (w.drewN nd) fun e w'' => e = .returned (.bool (decide (L = L'))) ∧ ∃ m, w'' = w.drewN m))
  obtain ⟨E, hE⟩ : ∃ E, decide (L = L') = E := ⟨_, rfl⟩
  rw [hE] at HQ ⊢
  clear h h' ho ho' hE
  go_enter Tryz.func29, Tryz.ntmps29
  go_wp2
  go_quiet ((with_reducible exact HQ.out _))
  go_wp2
  go_ret
  exact ⟨rfl, _, rfl⟩
theorem take8_lt {l : List EntL} {k : Nat} (hk : k < l.length) (h8 : k < 8) : (l.take (k + 1)).take 8 = (l.take k).take 8 ++ [l[k]] := by
  rw [List.take_take, List.take_take, show min 8 (k + 1) = k + 1 by omega, show min 8 k = k by omega, take_last l k hk]
theorem take8_ge {l : List EntL} {k : Nat} (h8 : 8 ≤ k) : (l.take (k + 1)).take 8 = (l.take k).take 8 := by
  rw [List.take_take, List.take_take, show min 8 (k + 1) = 8 by omega, show min 8 k = 8 by omega]
set_option maxRecDepth 100000 in
set_option maxHeartbeats 4000000 in
theorem new_stk {w : World} {v : Value} {l : List EntL} (hv : EntsAt w v l) (hl : l.length ≤ 9223372036854775806) : Calls Tryz.prog 9 #[v] w (RetCopyK w (l.take 8)) := by
  obtain ⟨xa, xc, rfl⟩ := hv.form
  have HV := Lib.hid hv
  have HS0 : Hid (StackAt (w.alloc (.cells #[.slice none 0 0] 73)) w.heap.size w.heap.size none ((l.take 0).take 8)) := Lib.hid ⟨.slice none 0 0, heap_alloc_new w _, rfl, Nat.le_refl _, World.ownsRow_nil _ _ _ _⟩
  have HB0 := Lib.hid (below_new w (.cells #[.slice none 0 0] 73))
  clear hv
  go_enter Tryz.func9, Tryz.ntmps9
  go_wp2
  go_loopw [9] (fun i wr => ∃ (k : Nat) (g : Option Nat), k ≤ l.length ∧ i = .int .i64 k ∧ Hid (StackAt wr w.heap.size w.heap.size g ((l.take k).take 8)) ∧ Hid (Below w.heap.size w wr)) (fun i _ => l.length - (intOf i).toNat)
  case atStart => exact ⟨0, none, Nat.zero_le _, rfl, HS0, HB0⟩
  case round =>
    obtain ⟨k, g, hk, rfl, HS, HB⟩ := hrel
    by_cases hlt : k < l.length
    · have d0 : decide ((k : Int) < l.length) = true := decide_eq_true (by omega)
      have d1 : decide (k < l.length) = true := decide_eq_true hlt
      obtain ⟨bb, off, rfl, hbb, s0, s1, s2, s3⟩ := (HV.out.later HB.out).at k hlt
      have hlen : ((l.take k).take 8).length = min k 8 := by rw [List.length_take, List.length_take]; omega
      have HT8 := Lib.hid (And.intro (take8_lt (l := l) hlt) (take8_ge (l := l) (k := k)))
      obtain ⟨x, hx⟩ : ∃ x, l[k] = x := ⟨_, rfl⟩
      rw [hx] at s0 s1 s2 s3 HT8
      obtain ⟨x0, x1, x2, x3⟩ := x
      dsimp only at s0 s1 s2 s3
      have hb1 := below_new wr (.cells #[.int .i64 x0, .int .i64 x1, .int .i64 x2, .bool x3] 75)
      have HS1 := Lib.hid (HS.out.later hb1)
      have HB1 := Lib.hid (stepB HB.out hb1)
      by_cases h8 : k < 8
      · have HP := Lib.hid (push_ok ⟨x0, x1, x2, x3⟩ HS1.out (by omega))
        have HN := Lib.hid (HT8.out.1 h8)
        have HRW := Lib.hid HS1.out.row
        unfold entV at HP
        dsimp only at HP
        clear hx hb1 hlen h8
        go_wp2_with fail
        refine HP.out.mono ?_
        rintro e w2 ⟨g', rfl, hs2, hc2, -⟩
        have HS2 := Lib.hid hs2
        have HB2 := Lib.hid (hc2.below HB1.out (Nat.le_refl _) (fun q hq => (HRW.out q hq).1))
        clear hs2 hc2 HP s0 s1 s2 s3
        go_wp2
        go_roundw
        case rel => exact ⟨k + 1, g', by omega, by go_num, Lib.hid (by rw [HN.out]; exact HS2.out), HB2⟩
        case measure => simp [intOf]; omega
      · have HP := Lib.hid (push_full ⟨x0, x1, x2, x3⟩ HS1.out (by omega))
        have HN := Lib.hid (HT8.out.2 (by omega))
        unfold entV at HP
        dsimp only at HP
        clear hx hb1 hlen h8
        go_wp2_with fail
        refine HP.out.mono ?_
        rintro e w2 ⟨rfl, hb2⟩
        have HS2 := Lib.hid (HS1.out.later hb2)
        have HB2 := Lib.hid (stepB HB1.out hb2)
        clear hb2 HP s0 s1 s2 s3
        go_wp2
        go_roundw
        case rel => exact ⟨k + 1, g, by omega, by go_num, Lib.hid (by rw [HN.out]; exact HS2.out), HB2⟩
        case measure => simp [intOf]; omega
    · obtain rfl : k = l.length := by omega
      go_wp2
      go_ret
      rw [List.take_length] at HS
      exact ⟨_, g, rfl, HS.out, HB.out⟩
end Go.Proofs.YtokgmffibafkcaaGreat
namespace Go.Proofs.YtokgmffibafkcaaGreat
open Go.RowKit Go.Maps
attribute [local go_sem] Oper.semAt_some

theorem ents_kp {E H : Nat → Prop} {W W' : World} {v : Value} {l : List EntL} (h : EntsAt W v l) (hk : KpP E H W W') (hv : ∀ k, v.ownBlock = some k → ¬E k ∧ Off H W k) : EntsAt W' v l := by
  rcases h with h | ⟨r, off, cap, rfl, hlt, hcell⟩
  · exact .inl h
  · obtain ⟨h1, h2⟩ := hv r rfl
    obtain ⟨o, ho⟩ : ∃ o, W.heap[r]? = some o := ⟨_, Array.getElem?_eq_getElem hlt⟩
    have hB : W'.heap[r]? = W.heap[r]? := (hk.rest r o ho h1 (fun _ => h2)).trans ho.symm
    refine .inr ⟨r, off, cap, rfl, Nat.lt_of_lt_of_le hlt hk.size, fun i hi => ?_⟩
    obtain ⟨c0, c1, c2, c3⟩ := hcell i hi
    exact ⟨(World.cell?_of_block (a := ⟨r, off + i * 4, none⟩) hB).trans c0, (World.cell?_of_block (a := ⟨r, off + i * 4 + 1, none⟩) hB).trans c1, (World.cell?_of_block (a := ⟨r, off + i * 4 + 2, none⟩) hB).trans c2, (World.cell?_of_block (a := ⟨r, off + i * 4 + 3, none⟩) hB).trans c3⟩
def encX (x : EntL) : Array Value := #[entV x]
theorem zip_revE (L : List EntL) (k : Nat) (h : k < L.length) : L.zipIdx.reverse.take (k + 1) = L.zipIdx.reverse.take k ++ [(L[L.length - 1 - k], L.length - 1 - k)] := by
  rw [take_last _ _ (by simpa using h)]
  simp
end Go.Proofs.YtokgmffibafkcaaGreat
namespace Go.Proofs.YtokgmffibafkcaaGreat
open Go.RowKit Go.Maps
attribute [local go_sem] Oper.semAt_some

theorem KpP.cell {E H : Nat → Prop} {W : World} {b j : Nat} (u : Value) (hE : E b) (hH : ∀ c, H c → c ≠ b) : KpP E H W (W.setCell ⟨b, j, none⟩ u) :=
  ⟨by simp, fun k o ho hn _ => (heap_setCell_other W ⟨b, j, none⟩ k u (fun e => hn (by rw [e]; exact hE))).trans ho, fun c v hc hv => ⟨v, hv.of (heap_setCell_other W ⟨b, j, none⟩ c u (hH c hc)), .inl rfl⟩⟩
theorem KeepsFrom.cell {B : Nat} {W : World} {b j : Nat} (u : Value) (hb : b < B) : KeepsFrom B W (W.setCell ⟨b, j, none⟩ u) :=
  (KpP.cell (E := fun k => k = b) (H := fun _ => False) u rfl (fun _ h => h.elim)).from (fun k e => by rw [e]; exact hb)
def topE (L : List EntL) : EntL := L.getLast?.getD zeroE
theorem topE_snoc (L : List EntL) (x : EntL) : topE (L ++ [x]) = x := by simp [topE]
def oneE (x : EntL) : Array Value := #[.int .i64 x.seat, .int .i64 x.obj, .int .i64 x.pos, .bool x.trig]
theorem set4E {W : World} {b : Nat} {xs : Array Value} {T : TypeId} (x0 x1 x2 : Int) (x3 : Bool) (h : W.heap[b]? = some (.cells xs T (0, 0))) (hx : xs.size = 4) :
    ((((W.setCell ⟨b, 0, none⟩ (.int .i64 x0)).setCell ⟨b, 1, none⟩ (.int .i64 x1)).setCell ⟨b, 2, none⟩ (.int .i64 x2)).setCell ⟨b, 3, none⟩ (.bool x3)).heap[b]? = some (.cells #[.int .i64 x0, .int .i64 x1, .int .i64 x2, .bool x3] T (0, 0)) := by
  obtain ⟨l⟩ := xs
  match l, hx with
  | [a, b1, c, d], _ =>
    have h1 := heap_setCell_same W b 0 _ _ (.int .i64 x0) h
    have h2 := heap_setCell_same _ b 1 _ _ (.int .i64 x1) h1
    have h3 := heap_setCell_same _ b 2 _ _ (.int .i64 x2) h2
    have h4 := heap_setCell_same _ b 3 _ _ (.bool x3) h3
    rw [h4]
    simp
theorem below_putD {A W : World} {D : Nat} {o : Obj} (h : Below A.heap.size A W) (hD : A.heap.size ≤ D) (_ : W.heap[D]? = some o) (o' : Obj) : Below A.heap.size A (W.putObj D o') :=
  ⟨h.os, h.tape, h.output, by simpa using h.size, fun k hk => (World.putObj_heap_other (by omega)).trans (h.block k hk)⟩
theorem other4E {W : World} {b k : Nat} (v0 v1 v2 v3 : Value) (h : k ≠ b) : ((((W.setCell ⟨b, 0, none⟩ v0).setCell ⟨b, 1, none⟩ v1).setCell ⟨b, 2, none⟩ v2).setCell ⟨b, 3, none⟩ v3).heap[k]? = W.heap[k]? := by
  rw [heap_setCell_other _ ⟨b, 3, none⟩ k _ h, heap_setCell_other _ ⟨b, 2, none⟩ k _ h, heap_setCell_other _ ⟨b, 1, none⟩ k _ h, heap_setCell_other _ ⟨b, 0, none⟩ k _ h]
end Go.Proofs.YtokgmffibafkcaaGreat
namespace Go.Proofs.YtokgmffibafkcaaGreat
open Go.RowKit Go.Maps
attribute [local go_sem] Oper.semAt_some

end Go.Proofs.YtokgmffibafkcaaGreat
