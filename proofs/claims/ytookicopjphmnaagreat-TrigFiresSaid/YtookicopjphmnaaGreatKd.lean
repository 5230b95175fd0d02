/- Entries in memory (layer 12): rows of them; slices.Clone, slices.Equal of them. Stacks (layer 12): Len, Room, Push, New, Copy, Same; a stack that isn't there. A stack's All, told from the top on (layer 12); Top, Pop. A stack's Top and Pop (layer 12). A stack that isn't there: Top, Pop (layer 12). -/
import Derived.Test.YtookicopjphmnaaGreatJx
import Derived.Test.YtookicopjphmnaaGreatOt
namespace Go.Proofs.YtookicopjphmnaaGreat
open Go.RowKit Go.Maps

structure EntL where
  seat : Int
  obj : Int
  pos : Int
  trig : Bool
def zeroE : EntL := ⟨0, 0, 0, false⟩
def ecells (x : EntL) : List Value := [.int .i64 x.seat, .int .i64 x.obj, .int .i64 x.pos, .bool x.trig]
def entV (x : EntL) : Value := .agg #[.int .i64 x.seat, .int .i64 x.obj, .int .i64 x.pos, .bool x.trig]
def entsV (l : List EntL) : List Value := l.flatMap ecells
theorem entsV_len (l : List EntL) : (entsV l).length = l.length * 4 := by
  induction l with
  | nil => rfl
  | cons o l ih => simp only [entsV, List.flatMap_cons, List.length_append, List.length_cons] at ih ⊢; rw [ih]; simp [ecells]; omega
theorem entsV_append (l r : List EntL) : entsV (l ++ r) = entsV l ++ entsV r := by simp [entsV]
theorem entsV_at : ∀ (l : List EntL) (k j : Nat) (h : k < l.length) (_ : j < 4), (entsV l)[k * 4 + j]? = (ecells l[k])[j]?
  | [], k, j, h, _ => by simp at h
  | o :: l, 0, j, _, hj => by
    simp only [entsV, List.flatMap_cons, Nat.zero_mul, Nat.zero_add, List.getElem_cons_zero]
    exact List.getElem?_append_left (by simpa [ecells] using hj)
  | o :: l, k + 1, j, h, hj => by
    have e : (entsV (o :: l))[(k + 1) * 4 + j]? = (entsV l)[k * 4 + j]? := by
      rw [show (k + 1) * 4 + j = k * 4 + j + 4 by omega]
      simp [entsV, ecells]
    rw [e, entsV_at l k j (by simpa using h) hj]
    rfl
def EntCells (w : World) (b o : Nat) (x : EntL) : Prop :=
  w.cell? ⟨b, o, none⟩ = some (.int .i64 x.seat) ∧ w.cell? ⟨b, o + 1, none⟩ = some (.int .i64 x.obj) ∧ w.cell? ⟨b, o + 2, none⟩ = some (.int .i64 x.pos) ∧ w.cell? ⟨b, o + 3, none⟩ = some (.bool x.trig)
theorem EntCells.later {w w' : World} {b o : Nat} {x : EntL} (h : EntCells w b o x) (hb : Below w.heap.size w w') : EntCells w' b o x := by
  obtain ⟨c0, c1, c2, c3⟩ := h
  exact ⟨cell_stays hb c0, cell_stays hb c1, cell_stays hb c2, cell_stays hb c3⟩
def EntsAt (w : World) (v : Value) (l : List EntL) : Prop :=
  (∃ xa cap, v = .slice xa 0 cap ∧ l = []) ∨ ∃ b off cap, v = .slice (some ⟨b, off, none⟩) l.length cap ∧ b < w.heap.size ∧ ∀ i (h : i < l.length), EntCells w b (off + i * 4) l[i]
theorem EntsAt.later {w w' : World} {v : Value} {l : List EntL} (h : EntsAt w v l) (hb : Below w.heap.size w w') : EntsAt w' v l := by
  rcases h with h | ⟨b, off, cap, rfl, hlt, hc⟩
  · exact .inl h
  · exact .inr ⟨b, off, cap, rfl, Nat.lt_of_lt_of_le hlt hb.size, fun i hi => (hc i hi).later hb⟩
theorem EntsAt.form {w : World} {v : Value} {l : List EntL} (h : EntsAt w v l) : ∃ xa xc, v = .slice xa l.length xc := by
  rcases h with ⟨xa, cap, rfl, rfl⟩ | ⟨b, off, cap, rfl, _⟩
  · exact ⟨xa, cap, rfl⟩
  · exact ⟨_, cap, rfl⟩
theorem EntsAt.at {w : World} {xa : Option Addr} {xc : Nat} {l : List EntL} (h : EntsAt w (.slice xa l.length xc) l) (k : Nat) (hk : k < l.length) : ∃ b off, xa = some ⟨b, off, none⟩ ∧ b < w.heap.size ∧ EntCells w b (off + k * 4) l[k] := by
  rcases h with ⟨_, _, _, h2⟩ | ⟨b, off, cap, h1, hlt, hc⟩
  · subst h2; simp at hk
  · injection h1 with h1 _ _; exact ⟨b, off, h1, hlt, hc k hk⟩
theorem own_ent {w : World} {lo : Nat} {v : Value} {l : List EntL} (h : w.ownsRow lo 49 4 v l.length (entsV l)) (k : Nat) (hk : k < l.length) :
    ∃ g cap, v = .slice (some ⟨g, 0, none⟩) l.length cap ∧ EntCells w g (k * 4) l[k] ∧ (∀ j, w.frozen? ⟨g, j, none⟩ = false) := by
  rcases h.2 with ⟨_, h0⟩ | ⟨g, cap, cur, e, hb, hg, hn, hm, hs, ht⟩
  · omega
  · refine ⟨g, cap, e, ?_, fun j => frozen_of_row w g j _ _ hg⟩
    have hc : ∀ j (hj : j < 4), w.cell? ⟨g, k * 4 + j, none⟩ = (ecells l[k])[j]? := fun j hj => by
      rw [← entsV_at l k j hk hj, cell_of_row w g (k * 4 + j) _ _ (0, 0) hg, ← ht, List.getElem?_take_of_lt (by omega)]
      simp
    exact ⟨hc 0 (by decide), hc 1 (by decide), hc 2 (by decide), hc 3 (by decide)⟩
theorem own_ents {w : World} {lo : Nat} {v : Value} {l : List EntL} (h : w.ownsRow lo 49 4 v l.length (entsV l)) : EntsAt w v l := by
  rcases h.2 with ⟨e, h0⟩ | ⟨g, cap, cur, e, hb, hg, hn, hm, hs, ht⟩
  · exact .inl ⟨none, 0, e, List.eq_nil_of_length_eq_zero h0⟩
  · refine .inr ⟨g, 0, cap, e, (Array.getElem?_eq_some_iff.1 hg).1, fun i hi => ?_⟩
    obtain ⟨g', cap', e', hc, _⟩ := own_ent h i hi
    rw [e] at e'
    injection e' with e1 _ _
    injection e1 with e1
    injection e1 with e1 _ _
    subst e1
    simpa using hc
theorem own_lastE {w : World} {lo n : Nat} {xa : Option Addr} {xc : Nat} {l : List EntL} {x : EntL} (h : w.ownsRow lo 49 4 (.slice xa (l.length + 1) xc) n (entsV (l ++ [x]))) : w.ownsRow lo 49 4 (.slice xa l.length xc) l.length (entsV l) := by
  rcases h.2 with ⟨e, _⟩ | ⟨g, cap, cur, e, hb, hg, hn, hm, hs, ht⟩
  · cases e
  · injection e with e1 e2 e3
    subst e1 e2 e3
    refine ⟨by rw [entsV_len], .inr ⟨g, _, cur, rfl, hb, hg, by omega, hm, hs, ?_⟩⟩
    have h2 := congrArg (List.take (l.length * 4)) ht
    rw [List.take_take, entsV_append, List.take_append_of_le_length (by rw [entsV_len]; omega), show min (l.length * 4) ((l.length + 1) * 4) = l.length * 4 by omega] at h2
    rw [h2, ← entsV_len, List.take_length]
theorem info_ent : (Tryz.prog.info? 49).map (fun i => (i.zero, i.size, i.bytes)) = some (some (.agg #[.int .i64 0, .int .i64 0, .int .i64 0, .bool false]), 4, 32) := by kernel_rfl
theorem ecells_one (x : EntL) : ∀ u ∈ ecells x, u.oneCell' = true := by
  intro u hu
  simp only [ecells, List.mem_cons, List.not_mem_nil, or_false] at hu
  rcases hu with rfl | rfl | rfl | rfl <;> rfl
theorem step_append_ent {ops : Array Oper} {o : Oper} {a : Act} {w : World} {K : Act → World → Prop} {Q : Exit → Act → World → Prop} {E : Prop} (hgd : o.guard = none) (s x : Operand)
    (hop : o.op = .call { callee := .builtin .append, args := #[s, x], argTypes := #[97, 97] }) (base : Nat) (v : Value) (l : List EntL) (y : EntL) (hs : a.eval s = v) (r : Nat)
    (hown : w.ownsRow base 49 4 v l.length (entsV l)) (hx : a.eval x = .slice (some ⟨r, 0, none⟩) 1 1) (hr : w.heap[r]? = some (.cells (ecells y).toArray 49 (0, 0))) (h1 : l.length ≤ 1000) (hbase : base ≤ w.heap.size)
    (hK : ∀ g cap w', w'.ownsRow base 49 4 (.slice (some ⟨g, 0, none⟩) (l.length + 1) cap) (l.length + 1) (entsV (l ++ [y])) → w.grownBy w' v.ownBlock → (v.ownBlock = some g ∨ g = w.heap.size) → g < w'.heap.size → K (a.put o.dst (.slice (some ⟨g, 0, none⟩) (l.length + 1) cap)) w') :
    if Region.wanted o (yielded ops a.tmps) = true then Oper.wp Tryz.prog o a w K Q else E := by
  obtain ⟨i0, hi0, hz0, hz1, hz2⟩ := info_parts info_ent
  refine step_append_lies w hgd s x 97 hop base 49 i0 _ 4 32 Tryz.underlying97 hi0 hz0 hz1 hz2 rfl (by decide) v l.length (entsV l) hs hown ⟨r, 0, none⟩ 1 1 (ecells y) hx rfl (World.news_of_block hr) (ecells_one y) (by decide) (by unfold maxLen; omega) (by omega) hbase w.heap.size rfl ?_
  intro g cap w' h2 h3 h4 h5
  refine hK g cap w' ?_ h3 h4 h5
  rw [entsV_append, show entsV [y] = ecells y by simp [entsV]]
  exact h2
theorem wpList_push_ent {ops : Array Oper} {rest : List Oper} {o : Oper} {a : Act} {w : World} {Q : Exit → Act → World → Prop} (hgd : o.guard = none) (s x : Operand)
    (hop : o.op = .call { callee := .builtin .append, args := #[s, x], argTypes := #[97, 97] }) (base : Nat) (v : Value) (l : List EntL) (y : EntL) (hs : a.eval s = v) (r : Nat)
    (hown : w.ownsRow base 49 4 v l.length (entsV l)) (hx : a.eval x = .slice (some ⟨r, 0, none⟩) 1 1) (hr : w.heap[r]? = some (.cells (ecells y).toArray 49 (0, 0))) (h1 : l.length ≤ 1000) (hbase : base ≤ w.heap.size)
    (hK : ∀ g cap w', w'.ownsRow base 49 4 (.slice (some ⟨g, 0, none⟩) (l.length + 1) cap) (l.length + 1) (entsV (l ++ [y])) → w.grownBy w' v.ownBlock → (v.ownBlock = some g ∨ g = w.heap.size) → g < w'.heap.size → wpList Tryz.prog ops Q rest (a.put o.dst (.slice (some ⟨g, 0, none⟩) (l.length + 1) cap)) w') :
    wpList Tryz.prog ops Q (o :: rest) a w := by
  obtain ⟨i0, hi0, hz0, hz1, hz2⟩ := info_parts info_ent
  refine wpList_append_lies w hgd s x 97 hop base 49 i0 _ 4 32 Tryz.underlying97 hi0 hz0 hz1 hz2 rfl (by decide) v l.length (entsV l) hs hown ⟨r, 0, none⟩ 1 1 (ecells y) hx rfl (World.news_of_block hr) (ecells_one y) (by decide) (by unfold maxLen; omega) (by omega) hbase w.heap.size rfl ?_
  intro g cap w' h2 h3 h4 h5
  refine hK g cap w' ?_ h3 h4 h5
  rw [entsV_append, show entsV [y] = ecells y by simp [entsV]]
  exact h2
set_option maxHeartbeats 4000000 in
theorem eqEnt (n : Nat) (a0 c0 a1 c1 a2 c2 : Int) (a3 c3 : Bool) (w : World) : (Op.equalIn (n + 2) 49 (.agg #[.int .i64 a0, .int .i64 a1, .int .i64 a2, .bool a3]) (.agg #[.int .i64 c0, .int .i64 c1, .int .i64 c2, .bool c3])).run Tryz.prog w = .ok (a0 == c0 && (a1 == c1 && (a2 == c2 && (a3 == c3)))) w := by
  have uI := Tryz.underlying3
  have gI := Tryz.isAgg3
  have zI := Tryz.sizeOf3
  have uB := Tryz.underlying4
  have gB := Tryz.isAgg4
  have zB := Tryz.sizeOf4
  have hS : Tryz.prog.underlying 49 = some (.struct (Tryz.prog.fieldsOf 49)) := by kernel_rfl
  rw [run_equalIn_agg w (n + 1) 49 _ _ hS (by kernel_rfl)]
  simp only [Program.fieldsOf, Tryz.underlying49]
  go_simp
  by_cases h0 : a0 = c0
  · subst h0
    by_cases h1 : a1 = c1
    · subst h1
      by_cases h2 : a2 = c2
      · subst h2
        by_cases h3 : a3 = c3
        · subst h3
          simp
        · simp [h3]
      · simp [h2]
    · simp [h1]
  · simp [h0]
theorem neqEnt (a0 c0 a1 c1 a2 c2 : Int) (a3 c3 : Bool) (w : World) : (binOp .neq 49 (.agg #[.int .i64 a0, .int .i64 a1, .int .i64 a2, .bool a3]) (.agg #[.int .i64 c0, .int .i64 c1, .int .i64 c2, .bool c3])).run Tryz.prog w = .ok (.bool (!(a0 == c0 && (a1 == c1 && (a2 == c2 && (a3 == c3)))))) w := by
  rw [run_neq_struct, eqEnt 9998]
  rfl
theorem neqgE (x y : Operand) (xs ys : Array Value) (W : World) : (eqGuard .neq 49 x y (.agg xs) (.agg ys)).run Tryz.prog W = .ok () W := run_eqGuard_agg W .neq 49 x y xs ys (by kernel_rfl)
def eqE (x y : EntL) : Bool := x.seat == y.seat && (x.obj == y.obj && (x.pos == y.pos && (x.trig == y.trig)))
theorem eqE_iff (x y : EntL) : eqE x y = true ↔ x = y := by
  unfold eqE
  obtain ⟨x0, x1, x2, x3⟩ := x
  obtain ⟨y0, y1, y2, y3⟩ := y
  simp only [Bool.and_eq_true, beq_iff_eq, EntL.mk.injEq]
instance : DecidableEq EntL := fun x y => decidable_of_iff (eqE x y = true) (eqE_iff x y)
def RetEnts (w : World) (l : List EntL) (e : Ending) (w' : World) : Prop := ∃ v, e = .returned v ∧ w'.ownsRow w.heap.size 49 4 v l.length (entsV l) ∧ Below w.heap.size w w'
theorem append_zeroE (g : Nat) (xa : Option Addr) (xc : Nat) (w : World) : (Builtin.append_ #[97, 97] 97 #[.slice (some ⟨g, 0, none⟩) 0 0, .slice xa 0 xc]).run Tryz.prog w = .ok (.slice (some ⟨g, 0, none⟩) 0 0) w := by
  obtain ⟨i0, hi0, hz0, hz1, hz2⟩ := info_parts info_ent
  cases xa <;> simp [Builtin.append_, run_underlying Tryz.underlying97, sizeOf, typeInfo, hi0, Builtin.lenOf, Builtin.firstCells, loadCells, loadCellsFrom, storeCells]
theorem nil_ent (W : World) : (binOp .eql 97 (.slice none 0 0) (.slice none 0 0)).run Tryz.prog W = .ok (.bool true) W := by kernel_rfl
theorem some_ent (a : Addr) (n c : Nat) (W : World) : (binOp .eql 97 (.slice (some a) n c) (.slice none 0 0)).run Tryz.prog W = .ok (.bool false) W := by kernel_rfl
theorem entsV_one (l : List EntL) : ∀ u ∈ entsV l, u.oneCell' = true := by
  intro u hu
  simp only [entsV, List.mem_flatMap] at hu
  obtain ⟨o, _, hu⟩ := hu
  exact ecells_one o u hu
set_option maxRecDepth 100000 in
set_option maxHeartbeats 2000000 in
theorem clone_ents {w : World} {lo : Nat} {v : Value} {l : List EntL} (h : w.ownsRow lo 49 4 v l.length (entsV l)) (hl : l.length ≤ 1000) :
    Calls Tryz.prog 45 #[v] w (RetEnts w l) := by
  obtain ⟨i0, hi0, hz0, hz1, hz2⟩ := info_parts info_ent
  rcases h.2 with ⟨rfl, h0⟩ | ⟨g, cap, cur, rfl, hb, hg, hn, hm, hs, ht⟩
  · obtain rfl := List.eq_nil_of_length_eq_zero h0
    clear h
    have hq := nil_ent
    go_enter Tryz.func45, Tryz.ntmps45
    go_wp2
    go_ret
    exact ⟨_, rfl, World.ownsRow_nil _ _ _ _, Below.refl _ _⟩
  · by_cases h0 : l.length = 0
    · obtain rfl := List.eq_nil_of_length_eq_zero h0
      have ha := append_zeroE w.heap.size (some ⟨g, 0, none⟩) cap
      clear h hb hg hn hm hs ht
      have hq := some_ent
      go_enter Tryz.func45, Tryz.ntmps45
      go_wp2_with (at_builtin; refine Crd.wpList_append_run rfl _ _ rfl rfl rfl (ha _) ?_)
      go_ret
      exact ⟨_, rfl, ⟨rfl, .inr ⟨w.heap.size, 0, #[], rfl, Nat.le_refl _, heap_alloc_new w _, Nat.le_refl _, Nat.zero_le _, rfl, rfl⟩⟩, below_new w _⟩
    · have HNW : Hid (∀ j u, (entsV l)[j]? = some u → (w.alloc (.cells #[] 49)).cell? ((⟨g, 0, none⟩ : Addr).add j) = some u) := Lib.hid fun j u hu => by
        have hj : j < l.length * 4 := by
          have := (List.getElem?_eq_some_iff.1 hu).1
          rwa [entsV_len] at this
        rw [show (⟨g, 0, none⟩ : Addr).add j = ⟨g, j, none⟩ by simp [Addr.add]; omega]
        refine cell_stays (below_new w _) ?_
        rw [cell_of_row w g j _ _ (0, 0) hg, ← hu, ← ht, List.getElem?_take_of_lt hj, Array.getElem?_toList]
      have HTL := Lib.hid (entsV_len l)
      have hpos : 0 < l.length := by omega
      have HW0 := Lib.hid (show (w.alloc (.cells #[] 49)).ownsRow w.heap.size 49 4 (.slice (some ⟨w.heap.size, 0, none⟩) 0 0) 0 [] from ⟨rfl, .inr ⟨w.heap.size, 0, #[], rfl, Nat.le_refl _, heap_alloc_new w _, Nat.le_refl _, Nat.zero_le _, rfl, rfl⟩⟩)
      clear h hb hg hn hm hs ht h0
      have hq := some_ent
      go_enter Tryz.func45, Tryz.ntmps45
      go_wp2_with (at_builtin; refine wpList_append_lies _ rfl _ _ 97 rfl w.heap.size 49 i0 _ 4 32 Tryz.underlying97 hi0 hz0 hz1 hz2 rfl (by decide) (.slice (some ⟨w.heap.size, 0, none⟩) 0 0) 0 [] rfl HW0.out ⟨g, 0, none⟩ l.length cap (entsV l) rfl HTL.out HNW.out (entsV_one _) hpos (by unfold maxLen; omega) (by omega) (by simp) _ rfl ?_)
      intro g' cap' w6 hown hgrow hat hlt6
      have HO := Lib.hid hown
      have HB := Lib.hid (show Below w.heap.size w w6 from (below_new w _).grown hgrow (by simp) (fun c e => by have e1 : w.heap.size = c := Option.some.inj e; omega))
      clear hown hgrow hat hlt6 hi0 hz0 hz1 hz2
      go_wp2
      go_ret
      exact ⟨_, rfl, HO.out, HB.out⟩
set_option maxRecDepth 100000 in
set_option maxHeartbeats 4000000 in
theorem equal_ents {lo lo' : Nat} {v u : Value} {l r : List EntL} {w : World} (hl : w.ownsRow lo 49 4 v l.length (entsV l)) (hr : w.ownsRow lo' 49 4 u r.length (entsV r)) (hn : l.length ≤ 1000) :
    Calls Tryz.prog 50 #[v, u] w fun e w' => e = .returned (.bool (decide (l = r))) ∧ ∃ n, w' = w.drewN n := by
  obtain ⟨xa, xc, rfl⟩ := own_form hl
  obtain ⟨ya, yc, rfl⟩ := own_form hr
  have HL := Lib.hid hl
  have HR := Lib.hid hr
  clear hl hr
  by_cases hne : l.length ≠ r.length
  · have d : ((l.length : Int) != r.length) = true := bne_iff_ne.2 (by omega)
    have HS := Lib.hid (show decide (l = r) = false from decide_eq_false (fun e => hne (by rw [e])))
    clear hne
    go_enter Tryz.func50, Tryz.ntmps50
    go_wp2
    go_ret
    exact ⟨ret_bool HS.out.symm, 0, rfl⟩
  have heq : l.length = r.length := Classical.not_not.1 hne
  have d : ((l.length : Int) != r.length) = false := by rw [heq]; exact bne_self_eq_false _
  have HQ := Lib.hid heq
  clear hne heq
  have h2 := @neqgE
  go_enter Tryz.func50, Tryz.ntmps50
  go_wp2
  go_loopw [13] (fun i wr => ∃ k n : Nat, k ≤ l.length ∧ i = .int .i64 k ∧ wr = w.drewN n ∧ Hid (l.take k = r.take k)) (fun i _ => l.length - (intOf i).toNat)
  case atStart => exact ⟨0, 0, Nat.zero_le _, rfl, rfl, Lib.hid rfl⟩
  case round =>
    obtain ⟨k, n, hk, rfl, rfl, HK⟩ := hrel
    by_cases hlt : k < l.length
    · have hlt2 : k < r.length := by have := HQ.out; omega
      obtain ⟨g, cap, hgv, ⟨o0, o1, o2, o3⟩, _⟩ := own_ent HL.out k hlt
      obtain ⟨g', cap', hgv', ⟨p0, p1, p2, p3⟩, _⟩ := own_ent HR.out k hlt2
      injection hgv with hxa _ hxc
      injection hgv' with hya _ hyc
      subst hxa hxc hya hyc
      have HT1 := Lib.hid (take_last l k hlt)
      have HT2 := Lib.hid (take_last r k hlt2)
      have HIX := Lib.hid (show l = r → l[k] = r[k] from fun e => by subst e; rfl)
      obtain ⟨x, hx⟩ : ∃ x, l[k] = x := ⟨_, rfl⟩
      obtain ⟨y, hy⟩ : ∃ y, r[k] = y := ⟨_, rfl⟩
      rw [hx] at o0 o1 o2 o3 HT1 HIX
      rw [hy] at p0 p1 p2 p3 HT2 HIX
      obtain ⟨E, hE⟩ : ∃ E, eqE x y = E := ⟨_, rfl⟩
      have h3 := fun W => neqEnt x.seat y.seat x.obj y.obj x.pos y.pos x.trig y.trig W
      have hE' := hE
      unfold eqE at hE'
      rw [hE'] at h3
      have d0 : (0 : Int) ≤ k := by omega
      have d1 : (k : Int) < l.length := by omega
      have d2 : (k : Int) < r.length := by omega
      clear hE' hx hy
      cases E
      · have HS := Lib.hid (show decide (l = r) = false from decide_eq_false (fun e => by
          have h4 := HIX.out e
          rw [(eqE_iff x y).2 h4] at hE
          cases hE))
        clear hE
        go_wp2
        go_quiet (fail)
        go_wp2
        go_ret
        exact ⟨ret_bool HS.out.symm, _, World.drewN_drewN _ _ _⟩
      · have HT : Hid (l.take (k + 1) = r.take (k + 1)) := Lib.hid (by
          rw [HT1.out, HT2.out, HK.out, (eqE_iff x y).1 hE])
        clear hE
        go_wp2
        go_quiet (fail)
        go_wp2
        go_roundw
        case rel => exact ⟨k + 1, _, by omega, by go_num, rfl, HT⟩
        case measure => simp [intOf]; omega
    · obtain rfl : k = l.length := by omega
      have HS := Lib.hid (show decide (l = r) = true from decide_eq_true (by
        have h1 := HK.out
        rw [List.take_length, HQ.out, List.take_length] at h1
        exact h1))
      go_wp2
      go_ret
      exact ⟨ret_bool HS.out.symm, _, rfl⟩
end Go.Proofs.YtookicopjphmnaaGreat
namespace Go.Proofs.YtookicopjphmnaaGreat
open Go.RowKit Go.Maps
attribute [local go_sem] Oper.semAt_some

theorem own_keepS {w w' : World} {base sz n : Nat} {t : TypeId} {v : Value} {xs : List Value} (h : w.ownsRow base t sz v n xs) (hk : ∀ k, v.ownBlock = some k → w'.heap[k]? = w.heap[k]?) : w'.ownsRow base t sz v n xs := by
  refine ⟨h.1, ?_⟩
  rcases h.2 with h2 | ⟨g, cap, cur, e, hb2, hg, r⟩
  · exact .inl h2
  · exact .inr ⟨g, cap, cur, e, hb2, (hk g (by rw [e]; rfl)).trans hg, r⟩
/-- A stack in memory: its box, its row. -/
def StackAt (w : World) (lo b : Nat) (g : Option Nat) (L : List EntL) : Prop :=
  ∃ v, w.heap[b]? = some (.cells #[v] 99 (0, 0)) ∧ v.ownBlock = g ∧ lo ≤ b ∧ w.ownsRow lo 49 4 v L.length (entsV L)
theorem StackAt.lt {w : World} {lo b : Nat} {g : Option Nat} {L : List EntL} (h : StackAt w lo b g L) : b < w.heap.size := by
  obtain ⟨v, h1, _⟩ := h
  exact (Array.getElem?_eq_some_iff.1 h1).1
theorem StackAt.lo {w : World} {lo b : Nat} {g : Option Nat} {L : List EntL} (h : StackAt w lo b g L) : lo ≤ b := by obtain ⟨v, _, _, h3, _⟩ := h; exact h3
theorem StackAt.row {w : World} {lo b : Nat} {g : Option Nat} {L : List EntL} (h : StackAt w lo b g L) : ∀ k, g = some k → lo ≤ k ∧ k < w.heap.size ∧ k ≠ b := by
  obtain ⟨v, h1, h2, _, h4⟩ := h
  intro k hk
  rw [← h2] at hk
  have := World.ownsRow.lt h4 k hk
  refine ⟨this.1, this.2, fun e => ?_⟩
  rcases h4.2 with ⟨rfl, _⟩ | ⟨g', cap, cur, rfl, _, hg, _⟩
  · simp [Value.ownBlock] at hk
  · obtain rfl : g' = k := by simpa [Value.ownBlock] using hk
    rw [e, h1] at hg
    injection hg with hg
    injection hg with _ ht
    exact absurd ht (by decide)
theorem StackAt.kept {w w' : World} {lo b : Nat} {g : Option Nat} {L : List EntL} (h : StackAt w lo b g L) (hb : w'.heap[b]? = w.heap[b]?) (hg : ∀ k, g = some k → w'.heap[k]? = w.heap[k]?) : StackAt w' lo b g L := by
  obtain ⟨v, h1, h2, h3, h4⟩ := h
  exact ⟨v, hb.trans h1, h2, h3, own_keepS h4 (fun k hk => hg k (by rw [← h2]; exact hk))⟩
theorem StackAt.later {w w' : World} {lo b : Nat} {g : Option Nat} {L : List EntL} (h : StackAt w lo b g L) (hb : Below w.heap.size w w') : StackAt w' lo b g L :=
  h.kept (hb.block b h.lt) fun k hk => hb.block k (h.row k hk).2.1
theorem StackAt.mono {w : World} {lo lo' b : Nat} {g : Option Nat} {L : List EntL} (h : StackAt w lo b g L) (hl : lo' ≤ lo) : StackAt w lo' b g L := by
  obtain ⟨v, h1, h2, h3, h4⟩ := h
  exact ⟨v, h1, h2, Nat.le_trans hl h3, own_mono h4 hl⟩
theorem StackAt.far {w w' : World} {lo b b2 : Nat} {g g2 : Option Nat} {L : List EntL} (h : StackAt w lo b2 g2 L) (hc : Chg w w' b g) (hs : Sep b g b2 g2) : StackAt w' lo b2 g2 L :=
  h.kept (hc.block b2 h.lt (Ne.symm hs.1) hs.2.1) fun k hk => hc.block k (h.row k hk).2.1 (fun e => hs.2.2.1 (by rw [hk, e])) (fun e => hs.2.2.2 k e hk)
theorem StackAt.free {w : World} {lo b : Nat} {g : Option Nat} {L : List EntL} (h : StackAt w lo b g L) (j : Nat) : w.frozen? ⟨b, j, none⟩ = false := by
  obtain ⟨v, h1, _⟩ := h
  exact frozen_of_row w b j _ _ h1
/-- The stack's field, its row. -/
theorem StackAt.field {w : World} {lo b : Nat} {g : Option Nat} {L : List EntL} (h : StackAt w lo b g L) : ∃ xa xc, w.cell? ⟨b, 0, none⟩ = some (.slice xa L.length xc) ∧ (Value.slice xa L.length xc).ownBlock = g ∧ w.ownsRow lo 49 4 (.slice xa L.length xc) L.length (entsV L) := by
  obtain ⟨v, h1, h2, h3, h4⟩ := h
  obtain ⟨xa, xc, rfl⟩ := own_form h4
  exact ⟨xa, xc, by rw [cell_of_row w b 0 _ _ _ h1]; rfl, h2, h4⟩
/-- A stack's row laid anew. -/
theorem stack_put {w w1 w2 : World} {lo b : Nat} {g : Option Nat} {v v' : Value} {L : List EntL} (hbl : w1.heap[b]? = some (.cells #[v] 99 (0, 0))) (hlo : lo ≤ b) (hb1 : Below w.heap.size w w1)
    (hg : w1.grownBy w2 g) (hgb : g ≠ some b) (hown : w2.ownsRow lo 49 4 v' L.length (entsV L)) (hnb : v'.ownBlock ≠ some b) :
    StackAt (w2.setCell ⟨b, 0, none⟩ v') lo b v'.ownBlock L ∧ Chg w (w2.setCell ⟨b, 0, none⟩ v') b g := by
  have h2 : w2.heap[b]? = some (.cells #[v] 99 (0, 0)) := (hg.block b (Array.getElem?_eq_some_iff.1 hbl).1 (Ne.symm hgb)).trans hbl
  refine ⟨⟨v', ?_, rfl, hlo, own_keepS hown (fun k hk => heap_setCell_other w2 ⟨b, 0, none⟩ k v' (fun e => hnb (by rw [hk, e])))⟩, ⟨hg.os.trans hb1.os, hg.tape.trans hb1.tape, hg.output.trans hb1.output, ?_, ?_⟩⟩
  · rw [heap_setCell_same w2 b 0 _ _ v' h2]; rfl
  · have := hb1.size; have := hg.size; simp; omega
  · intro k hk hkb hkg
    rw [heap_setCell_other w2 ⟨b, 0, none⟩ k v' hkb, hg.block k (Nat.lt_of_lt_of_le hk hb1.size) (Ne.symm hkg), hb1.block k hk]
def RetStk (w : World) (lo b : Nat) (g : Option Nat) (v : Value) (L : List EntL) (e : Ending) (w' : World) : Prop := ∃ g', e = .returned v ∧ StackAt w' lo b g' L ∧ Chg w w' b g ∧ Newer w g g'

theorem len_stk {w : World} {lo b : Nat} {g : Option Nat} {L : List EntL} (h : StackAt w lo b g L) : Calls Tryz.prog 28 #[.pointer (some ⟨b, 0, none⟩)] w (Same w (.int .i64 L.length)) := by
  obtain ⟨xa, xc, c0, -, -⟩ := h.field
  clear h
  go_enter Tryz.func28, Tryz.ntmps28
  go_wp2
  go_ret
  exact ⟨rfl, rfl⟩
theorem room_stk {w : World} {lo b : Nat} {g : Option Nat} {L : List EntL} (h : StackAt w lo b g L) (hL : L.length ≤ 1000) : Calls Tryz.prog 44 #[.pointer (some ⟨b, 0, none⟩)] w (Same w (.int .i64 (8 - (L.length : Int)))) := by
  obtain ⟨xa, xc, c0, -, -⟩ := h.field
  clear h
  go_enter Tryz.func44, Tryz.ntmps44
  go_wp2
  go_ret
  exact ⟨rfl, rfl⟩
theorem len_stk0 (w : World) : Calls Tryz.prog 28 #[.pointer none] w (Same w (.int .i64 0)) := by
  go_enter Tryz.func28, Tryz.ntmps28
  go_wp2
  go_ret
  exact ⟨rfl, rfl⟩
theorem room_stk0 (w : World) : Calls Tryz.prog 44 #[.pointer none] w (Same w (.int .i64 0)) := by
  go_enter Tryz.func44, Tryz.ntmps44
  go_wp2
  go_ret
  exact ⟨rfl, rfl⟩
set_option maxRecDepth 100000 in
theorem push_stk0 (x : EntL) (w : World) : Calls Tryz.prog 17 #[.pointer none, entV x] w (RetV w (.int .i64 1)) := by
  obtain ⟨x0, x1, x2, x3⟩ := x
  unfold entV
  dsimp only
  go_enter Tryz.func17, Tryz.ntmps17
  go_wp2
  go_ret
  exact ⟨rfl, below_new w _⟩
theorem copy_stk0 (w : World) : Calls Tryz.prog 18 #[.pointer none] w (Same w (.pointer none)) := by
  go_enter Tryz.func18, Tryz.ntmps18
  go_wp2
  go_ret
  exact ⟨rfl, rfl⟩
theorem same_stk00 (w : World) : Calls Tryz.prog 24 #[.pointer none, .pointer none] w (Same w (.bool true)) := by
  go_enter Tryz.func24, Tryz.ntmps24
  go_wp2
  go_ret
  exact ⟨rfl, rfl⟩
set_option maxRecDepth 100000 in
theorem same_stk0 (b : Nat) (w : World) : Calls Tryz.prog 24 #[.pointer none, .pointer (some ⟨b, 0, none⟩)] w (Same w (.bool false)) := by
  have hq : ∀ W, (binOp .eql 44 (.pointer none) (.pointer (some ⟨b, 0, none⟩))).run Tryz.prog W = .ok (.bool false) W := fun W => by kernel_rfl
  go_enter Tryz.func24, Tryz.ntmps24
  go_wp2
  go_ret
  exact ⟨rfl, rfl⟩
set_option maxRecDepth 100000 in
/-- Push where there is no room. -/
theorem push_full {w : World} {lo b : Nat} {g : Option Nat} {L : List EntL} (x : EntL) (h : StackAt w lo b g L) (hL : L.length = 8) : Calls Tryz.prog 17 #[.pointer (some ⟨b, 0, none⟩), entV x] w (RetV w (.int .i64 6)) := by
  obtain ⟨x0, x1, x2, x3⟩ := x
  unfold entV
  dsimp only
  have HR := Lib.hid (room_stk (h.later (below_new w (.cells #[.int .i64 x0, .int .i64 x1, .int .i64 x2, .bool x3] 49))) (by omega))
  rw [hL] at HR
  clear h hL
  go_enter Tryz.func17, Tryz.ntmps17
  go_wp2_with fail
  refine HR.out.mono ?_
  rintro e w1 ⟨rfl, rfl⟩
  go_wp2
  go_ret
  exact ⟨rfl, below_new w _⟩
set_option maxRecDepth 100000 in
set_option maxHeartbeats 4000000 in
theorem push_ok {w : World} {lo b : Nat} {g : Option Nat} {L : List EntL} (x : EntL) (h : StackAt w lo b g L) (hL : L.length < 8) : Calls Tryz.prog 17 #[.pointer (some ⟨b, 0, none⟩), entV x] w (RetStk w lo b g (.int .i64 0) (L ++ [x])) := by
  obtain ⟨x0, x1, x2, x3⟩ := x
  have hW := below_new w (.cells #[.int .i64 x0, .int .i64 x1, .int .i64 x2, .bool x3] 49)
  have HR := Lib.hid (room_stk (h.later hW) (by omega))
  have e0 : ((8 : Int) - (L.length : Int) == 0) = false := beq_eq_false_iff_ne.2 (by omega)
  have HLO := Lib.hid (And.intro h.lo h.lt)
  have HRW := Lib.hid h.row
  obtain ⟨v, h1, h2, -, h4⟩ := h.later hW
  obtain ⟨xa, xc, rfl⟩ := own_form h4
  have c0 := cell_of_row _ b 0 _ _ _ h1
  rw [show #[Value.slice xa L.length xc][0]? = some (.slice xa L.length xc) from rfl] at c0
  have s0 := cell_of_row _ w.heap.size 0 _ _ _ (heap_alloc_new w (.cells #[.int .i64 x0, .int .i64 x1, .int .i64 x2, .bool x3] 49))
  have s1 := cell_of_row _ w.heap.size 1 _ _ _ (heap_alloc_new w (.cells #[.int .i64 x0, .int .i64 x1, .int .i64 x2, .bool x3] 49))
  have s2 := cell_of_row _ w.heap.size 2 _ _ _ (heap_alloc_new w (.cells #[.int .i64 x0, .int .i64 x1, .int .i64 x2, .bool x3] 49))
  have s3 := cell_of_row _ w.heap.size 3 _ _ _ (heap_alloc_new w (.cells #[.int .i64 x0, .int .i64 x1, .int .i64 x2, .bool x3] 49))
  rw [show #[Value.int .i64 x0, .int .i64 x1, .int .i64 x2, .bool x3][0]? = some (.int .i64 x0) from rfl] at s0
  rw [show #[Value.int .i64 x0, .int .i64 x1, .int .i64 x2, .bool x3][1]? = some (.int .i64 x1) from rfl] at s1
  rw [show #[Value.int .i64 x0, .int .i64 x1, .int .i64 x2, .bool x3][2]? = some (.int .i64 x2) from rfl] at s2
  rw [show #[Value.int .i64 x0, .int .i64 x1, .int .i64 x2, .bool x3][3]? = some (.bool x3) from rfl] at s3
  obtain ⟨W, hWW⟩ : ∃ W, w.alloc (.cells #[.int .i64 x0, .int .i64 x1, .int .i64 x2, .bool x3] 49) = W := ⟨_, rfl⟩
  rw [hWW] at HR hW h1 h4 c0 s0 s1 s2 s3
  have HH := Lib.hid (And.intro h1 h4)
  have HG := Lib.hid h2
  have HW := Lib.hid hWW
  have HB0 := Lib.hid hW
  unfold entV
  dsimp only
  clear h h1 h2 h4 hW hWW
  go_enter Tryz.func17, Tryz.ntmps17
  go_wp2_with fail
  rw [HW.out]
  refine HR.out.mono ?_
  rintro e w1 ⟨rfl, rfl⟩
  go_wp2
  have c0a := cell_stays (below_new w1 (.cells #[.int .i64 x0, .int .i64 x1, .int .i64 x2, .bool x3] 49)) c0
  go_region_law ((first
    | (refine step_append_ent rfl _ _ rfl lo (.slice xa L.length xc) L ⟨x0, x1, x2, x3⟩ rfl w1.heap.size (own_keepS HH.out.2 (fun k hk => (below_new w1 _).block k (World.ownsRow.lt HH.out.2 k hk).2)) rfl (heap_alloc_new w1 _) (by omega) (by have := HLO.out; have := HB0.out.size; simp; omega) ?_
       intro g' cap' w3 hown hgrow hat hlt3
       have hhd : w3.heap[b]? = some (.cells #[.slice xa L.length xc] 99 (0, 0)) := (hgrow.block b (by have := HLO.out.2; have := HB0.out.size; simp; omega) (by rw [HG.out]; exact fun e => (HRW.out b e.symm).2.2 rfl)).trans (((below_new w1 _).block b (by have := HLO.out.2; have := HB0.out.size; omega)).trans HH.out.1)
       have c3 : w3.cell? ⟨b, 0, none⟩ = some (.slice xa L.length xc) := (by rw [cell_of_row w3 b 0 _ _ _ hhd]; rfl)
       have f3 : w3.frozen? ⟨b, 0, none⟩ = false := frozen_of_row w3 b 0 _ _ hhd)
    | (fail "arm")))
  all_goals
    have hput := stack_put (w := w) (w1 := (w1.alloc (.cells #[.int .i64 x0, .int .i64 x1, .int .i64 x2, .bool x3] 49)).drew) (lo := lo) (g := g) (v' := .slice (some ⟨g', 0, none⟩) (L.length + 1) cap') (L := L ++ [⟨x0, x1, x2, x3⟩]) (((below_new w1 _).block b (by have := HLO.out.2; have := HB0.out.size; omega)).trans HH.out.1) HLO.out.1 (below_alloc2 HB0.out _).drew (by rw [← HG.out]; exact hgrow) (fun e => (HRW.out b e).2.2 rfl) (by simpa using hown) (by
      intro e
      have e1 : g' = b := by simpa [Value.ownBlock] using e
      rcases hat with h | h
      · rw [HG.out] at h; exact (HRW.out g' h).2.2 e1
      · have h1 := HLO.out.2; have h2 := HB0.out.size; have h3 : g' = w1.heap.size + 1 := by rw [h]; simp
        omega)
    have HPUT := Lib.hid hput
    have HN : Hid (Newer w g (some g')) := Lib.hid (by
      rcases hat with h | h
      · exact .inl (by rw [← HG.out, h])
      · exact .inr ⟨g', rfl, by have h2 := HB0.out.size; have h3 : g' = w1.heap.size + 1 := by rw [h]; simp
                                omega⟩)
    clear hown hgrow hat hlt3 hput hhd c3 f3
    go_wp2
    go_ret
    exact ⟨_, rfl, HPUT.out.1, HPUT.out.2, HN.out⟩
/-- A stack of its own. -/
def RetCopyK (w : World) (L : List EntL) (e : Ending) (w' : World) : Prop := ∃ b g, e = .returned (.pointer (some ⟨b, 0, none⟩)) ∧ StackAt w' w.heap.size b g L ∧ Below w.heap.size w w'
set_option maxRecDepth 100000 in
theorem copy_stk {w : World} {lo b : Nat} {g : Option Nat} {L : List EntL} (h : StackAt w lo b g L) (hL : L.length ≤ 1000) : Calls Tryz.prog 18 #[.pointer (some ⟨b, 0, none⟩)] w (RetCopyK w L) := by
  obtain ⟨xa, xc, c0, -, ho⟩ := h.field
  have HC := Lib.hid (clone_ents ho hL)
  clear h ho
  go_enter Tryz.func18, Tryz.ntmps18
  go_wp2_with fail
  refine HC.out.mono ?_
  rintro e w1 ⟨v', rfl, ho, hb1⟩
  have HO := Lib.hid ho
  obtain ⟨ya, yc, rfl⟩ := own_form ho
  clear ho c0
  dsimp only
  go_wp2
  go_ret
  refine ⟨_, (Value.slice ya L.length yc).ownBlock, rfl, ⟨.slice ya L.length yc, heap_alloc_new w1 _, rfl, hb1.size, own_keepS HO.out fun k hk => ?_⟩, below_alloc2 hb1 _⟩
  exact (below_new w1 _).block k (World.ownsRow.lt HO.out k hk).2
set_option maxRecDepth 100000 in
theorem same_stk {w : World} {lo b lo' b' : Nat} {g g' : Option Nat} {L L' : List EntL} (h : StackAt w lo b g L) (h' : StackAt w lo' b' g' L') (hL : L.length ≤ 1000) : Calls Tryz.prog 24 #[.pointer (some ⟨b, 0, none⟩), .pointer (some ⟨b', 0, none⟩)] w (Drew w (.bool (decide (L = L')))) := by
  obtain ⟨xa, xc, c0, -, ho⟩ := h.field
  obtain ⟨ya, yc, c1, -, ho'⟩ := h'.field
  have HQ := Lib.hid (fun nd => ((equal_ents (w := w.drewN nd) (own_keepS ho fun _ _ => rfl) (own_keepS ho' fun _ _ => rfl) hL).mono fun e w'' (hx : e = .returned (.bool (decide (L = L'))) ∧ ∃ n, w'' = (w.drewN nd).drewN n) => (⟨hx.1, by obtain ⟨_, n, rfl⟩ := hx; exact ⟨_, World.drewN_drewN _ _ _⟩⟩ : e = .returned (.bool (decide (L = L'))) ∧ ∃ m, w'' = w.drewN m) : Calls Tryz.prog 50 #[.slice xa L.length xc, .slice ya L'.length yc] (w.drewN nd) fun e w'' => e = .returned (.bool (decide (L = L'))) ∧ ∃ m, w'' = w.drewN m))
  obtain ⟨E, hE⟩ : ∃ E, decide (L = L') = E := ⟨_, rfl⟩
  rw [hE] at HQ ⊢
  clear h h' ho ho' hE
  go_enter Tryz.func24, Tryz.ntmps24
  go_wp2
  go_quiet ((with_reducible exact HQ.out _))
  go_wp2
  go_ret
  exact ⟨rfl, _, rfl⟩
theorem take8_lt {l : List EntL} {k : Nat} (hk : k < l.length) (h8 : k < 8) : (l.take (k + 1)).take 8 = (l.take k).take 8 ++ [l[k]] := by
  rw [List.take_take, List.take_take, show min 8 (k + 1) = k + 1 by omega, show min 8 k = k by omega, take_last l k hk]
theorem take8_ge {l : List EntL} {k : Nat} (h8 : 8 ≤ k) : (l.take (k + 1)).take 8 = (l.take k).take 8 := by
  rw [List.take_take, List.take_take, show min 8 (k + 1) = 8 by omega, show min 8 k = 8 by omega]
set_option maxRecDepth 100000 in
set_option maxHeartbeats 4000000 in
theorem new_stk {w : World} {v : Value} {l : List EntL} (hv : EntsAt w v l) (hl : l.length ≤ 9223372036854775806) : Calls Tryz.prog 16 #[v] w (RetCopyK w (l.take 8)) := by
  obtain ⟨xa, xc, rfl⟩ := hv.form
  have HV := Lib.hid hv
  have HS0 : Hid (StackAt (w.alloc (.cells #[.slice none 0 0] 99)) w.heap.size w.heap.size none ((l.take 0).take 8)) := Lib.hid ⟨.slice none 0 0, heap_alloc_new w _, rfl, Nat.le_refl _, World.ownsRow_nil _ _ _ _⟩
  have HB0 := Lib.hid (below_new w (.cells #[.slice none 0 0] 99))
  clear hv
  go_enter Tryz.func16, Tryz.ntmps16
  go_wp2
  go_loopw [9] (fun i wr => ∃ (k : Nat) (g : Option Nat), k ≤ l.length ∧ i = .int .i64 k ∧ Hid (StackAt wr w.heap.size w.heap.size g ((l.take k).take 8)) ∧ Hid (Below w.heap.size w wr)) (fun i _ => l.length - (intOf i).toNat)
  case atStart => exact ⟨0, none, Nat.zero_le _, rfl, HS0, HB0⟩
  case round =>
    obtain ⟨k, g, hk, rfl, HS, HB⟩ := hrel
    by_cases hlt : k < l.length
    · have d0 : decide ((k : Int) < l.length) = true := decide_eq_true (by omega)
      have d1 : decide (k < l.length) = true := decide_eq_true hlt
      obtain ⟨bb, off, rfl, hbb, s0, s1, s2, s3⟩ := (HV.out.later HB.out).at k hlt
      have hlen : ((l.take k).take 8).length = min k 8 := by rw [List.length_take, List.length_take]; omega
      have HT8 := Lib.hid (And.intro (take8_lt (l := l) hlt) (take8_ge (l := l) (k := k)))
      obtain ⟨x, hx⟩ : ∃ x, l[k] = x := ⟨_, rfl⟩
      rw [hx] at s0 s1 s2 s3 HT8
      obtain ⟨x0, x1, x2, x3⟩ := x
      dsimp only at s0 s1 s2 s3
      have hb1 := below_new wr (.cells #[.int .i64 x0, .int .i64 x1, .int .i64 x2, .bool x3] 49)
      have HS1 := Lib.hid (HS.out.later hb1)
      have HB1 := Lib.hid (stepB HB.out hb1)
      by_cases h8 : k < 8
      · have HP := Lib.hid (push_ok ⟨x0, x1, x2, x3⟩ HS1.out (by omega))
        have HN := Lib.hid (HT8.out.1 h8)
        have HRW := Lib.hid HS1.out.row
        unfold entV at HP
        dsimp only at HP
        clear hx hb1 hlen h8
        go_wp2_with fail
        refine HP.out.mono ?_
        rintro e w2 ⟨g', rfl, hs2, hc2, -⟩
        have HS2 := Lib.hid hs2
        have HB2 := Lib.hid (hc2.below HB1.out (Nat.le_refl _) (fun q hq => (HRW.out q hq).1))
        clear hs2 hc2 HP s0 s1 s2 s3
        go_wp2
        go_roundw
        case rel => exact ⟨k + 1, g', by omega, by go_num, Lib.hid (by rw [HN.out]; exact HS2.out), HB2⟩
        case measure => simp [intOf]; omega
      · have HP := Lib.hid (push_full ⟨x0, x1, x2, x3⟩ HS1.out (by omega))
        have HN := Lib.hid (HT8.out.2 (by omega))
        unfold entV at HP
        dsimp only at HP
        clear hx hb1 hlen h8
        go_wp2_with fail
        refine HP.out.mono ?_
        rintro e w2 ⟨rfl, hb2⟩
        have HS2 := Lib.hid (HS1.out.later hb2)
        have HB2 := Lib.hid (stepB HB1.out hb2)
        clear hb2 HP s0 s1 s2 s3
        go_wp2
        go_roundw
        case rel => exact ⟨k + 1, g, by omega, by go_num, Lib.hid (by rw [HN.out]; exact HS2.out), HB2⟩
        case measure => simp [intOf]; omega
    · obtain rfl : k = l.length := by omega
      go_wp2
      go_ret
      rw [List.take_length] at HS
      exact ⟨_, g, rfl, HS.out, HB.out⟩
end Go.Proofs.YtookicopjphmnaaGreat
namespace Go.Proofs.YtookicopjphmnaaGreat
open Go.RowKit Go.Maps
attribute [local go_sem] Oper.semAt_some

theorem ents_kp {E H : Nat → Prop} {W W' : World} {v : Value} {l : List EntL} (h : EntsAt W v l) (hk : KpP E H W W') (hv : ∀ k, v.ownBlock = some k → ¬E k ∧ Off H W k) : EntsAt W' v l := by
  rcases h with h | ⟨r, off, cap, rfl, hlt, hcell⟩
  · exact .inl h
  · obtain ⟨h1, h2⟩ := hv r rfl
    obtain ⟨o, ho⟩ : ∃ o, W.heap[r]? = some o := ⟨_, Array.getElem?_eq_getElem hlt⟩
    have hB : W'.heap[r]? = W.heap[r]? := (hk.rest r o ho h1 (fun _ => h2)).trans ho.symm
    refine .inr ⟨r, off, cap, rfl, Nat.lt_of_lt_of_le hlt hk.size, fun i hi => ?_⟩
    obtain ⟨c0, c1, c2, c3⟩ := hcell i hi
    exact ⟨(World.cell?_of_block (a := ⟨r, off + i * 4, none⟩) hB).trans c0, (World.cell?_of_block (a := ⟨r, off + i * 4 + 1, none⟩) hB).trans c1, (World.cell?_of_block (a := ⟨r, off + i * 4 + 2, none⟩) hB).trans c2, (World.cell?_of_block (a := ⟨r, off + i * 4 + 3, none⟩) hB).trans c3⟩
theorem backwardE_any (v : Option Addr × Nat × Nat) (w : World) : Calls Tryz.prog 61 #[.slice v.1 v.2.1 v.2.2] w (RetFn w 94 (.slice v.1 v.2.1 v.2.2)) := by
  have hmf := @mk_func
  go_enter Tryz.func61, Tryz.ntmps61
  go_wp2
  go_ret
  exact ⟨rfl, HdAt.new w _ _, below_new w _⟩
abbrev EItem := EntL × Nat
def encE (x : EItem) : Array Value := #[.int .i64 (x.2 : Int), entV x.1]
def encX (x : EntL) : Array Value := #[entV x]
theorem zip_revE (L : List EntL) (k : Nat) (h : k < L.length) : L.zipIdx.reverse.take (k + 1) = L.zipIdx.reverse.take k ++ [(L[L.length - 1 - k], L.length - 1 - k)] := by
  rw [take_last _ _ (by simpa using h)]
  simp
def fstE (pre : List EItem) : List EntL := pre.map (·.1)
theorem fstE_snoc (pre : List EItem) (x : EItem) : fstE (pre ++ [x]) = fstE pre ++ [x.1] := by simp [fstE]
theorem fstE_all (L : List EntL) : fstE L.zipIdx.reverse = L.reverse := by simp [fstE, List.map_reverse]
set_option maxRecDepth 100000 in
set_option maxHeartbeats 4000000 in
theorem backwardE1_in (n : Nat) (l c : Nat) (xa : Option Addr) (xc : Nat) (L : List EntL) (E H : Nat → Prop) (W : World) (hc : Boxes H [(c, .slice xa L.length xc)] W) (hcE : ¬E c) (hi : EntsAt W (.slice xa L.length xc) L) (hL : L.length ≤ 1000)
    (hr : ∀ k, (Value.slice xa L.length xc).ownBlock = some k → ¬E k ∧ k < W.heap.size ∧ Off H W k)
    (J Jx : List EItem → World → Prop) (hJ : OwnFrom W.heap.size J)
    (hY : ∀ pre (x : EItem) W1, J pre W1 → pre ++ [x] <+: L.zipIdx.reverse → YieldAt Fence.wide (n - 1) Tryz.prog l (encE x) W1 fun e W' =>
      (e = .returned (.bool true) ∧ J (pre ++ [x]) W' ∧ KpP E H W1 W') ∨ (e = .returned (.bool false) ∧ Jx (pre ++ [x]) W' ∧ KpP E H W1 W'))
    (h0 : J [] W) (hn : 1 ≤ n) :
    CallsIn Fence.wide n Tryz.prog 94 #[.func (.yield l) #[] #[], .pointer (some ⟨c, 0, none⟩)] W fun e W' => (∃ v, e = .returned v) ∧
      ((∃ xs, xs = L.zipIdx.reverse ∧ J xs W') ∨ (∃ pre, pre <+: L.zipIdx.reverse ∧ Jx pre W')) := by
  have HJ := Lib.hid hJ
  have HY := Lib.hid hY
  have HI := Lib.hid hi
  have HR := Lib.hid hr
  have HC := Lib.hid hc
  have HL := Lib.hid hL
  have HJ1 := Lib.hid h0
  have c0 := (hc _ (List.mem_singleton.2 rfl)).1.cell
  simp only at c0
  clear hJ hY hL hc h0 hi hr
  refine callsIn_of_wp Tryz.func94 rfl trivial ?_ rfl
  simp only [Tryz.ntmps94, List.size_toArray, List.length_cons, List.length_nil, Nat.reduceAdd, Nat.reduceSub, Array.replicate_succ, Array.replicate_zero, List.push_toArray, List.append_toArray, List.nil_append, List.cons_append]
  have hL0 := HL.out
  gi_wp2
  gi_loopw [3] (fun i wr => ∃ k, k ≤ L.length ∧ i = .int .i64 ((L.length : Int) - 1 - (k : Int)) ∧ Hid (J (L.zipIdx.reverse.take k) wr) ∧ Hid (EntsAt wr (.slice xa L.length xc) L) ∧ Hid (Boxes H [(c, .slice xa L.length xc)] wr) ∧ Hid (∀ k, (Value.slice xa L.length xc).ownBlock = some k → ¬E k ∧ k < wr.heap.size ∧ Off H wr k)) (fun i _ => (intOf i + 1).toNat)
  case atStart => exact ⟨0, Nat.zero_le _, by simp, HJ1, HI, HC, HR⟩
  case round =>
    obtain ⟨k, hk, rfl, HJR, HIR, HCR, HRR⟩ := hrel
    by_cases hlt : k < L.length
    · obtain ⟨r, off, hxa, hr, s0, s1, s2, s3⟩ := HIR.out.at (L.length - 1 - k) (by omega)
      have hz := zip_revE L k hlt
      obtain ⟨x, hx⟩ : ∃ x, L[L.length - 1 - k] = x := ⟨_, rfl⟩
      obtain ⟨q, hq⟩ : ∃ q, L.length - 1 - k = q := ⟨_, rfl⟩
      have hqi : (L.length : Int) - 1 - (k : Int) = (q : Int) := by omega
      have c2 := (HCR.out _ (List.mem_singleton.2 rfl)).1.cell
      simp only at c2
      rw [hx] at s0 s1 s2 s3 hz
      rw [hq] at s0 s1 s2 s3 hz
      rw [hqi]
      have HZ := Lib.hid hz
      have HQI := Lib.hid hqi
      have hql : q < L.length := by omega
      have d1 : decide (0 ≤ (q : Int)) = true := decide_eq_true (by omega)
      subst hxa
      clear hx hz hq hqi
      obtain ⟨fn, tmps, assign, body, hy, hR⟩ := HY.out (L.zipIdx.reverse.take k) (x, q) wr HJR.out (by rw [← HZ.out]; exact List.take_prefix _ _)
      obtain ⟨x0, x1, x2, x3⟩ := x
      simp only [encE, entV] at hy
      dsimp only at s0 s1 s2 s3
      gi_wp2
      refine hR.mono ?_
      rintro e w3 (⟨rfl, hJ3, hk3⟩ | ⟨rfl, hJ3, hk3⟩)
      · have HJ3 := Lib.hid hJ3
        have HI3 := Lib.hid (ents_kp HIR.out hk3 (fun k hk => ⟨(HRR.out k hk).1, (HRR.out k hk).2.2⟩))
        have HC3 := Lib.hid (HCR.out.kept hk3 (fun q hq => by rw [List.mem_singleton.1 hq]; exact hcE))
        have HR3 := Lib.hid (show ∀ k, (Value.slice (some ⟨r, off, none⟩) L.length xc).ownBlock = some k → ¬E k ∧ k < w3.heap.size ∧ Off H w3 k from fun k hk => ⟨(HRR.out k hk).1, Nat.lt_of_lt_of_le (HRR.out k hk).2.1 hk3.size, hk3.off (HRR.out k hk).2.2 (HRR.out k hk).2.1⟩)
        have hL1 := HL.out
        clear hJ3 hk3 hy hR s0 s1 s2 s3 c2
        have hqi := HQI.out
        gi_wp2
        go_roundw
        case rel => exact ⟨k + 1, by omega, by go_num, Lib.hid (by rw [HZ.out]; exact HJ3.out), HI3, HC3, HR3⟩
        case measure => simp [intOf]
      · have HJ3 := Lib.hid hJ3
        clear hJ3 hk3 hy hR s0 s1 s2 s3
        gi_wp2
        refine bodyPost_ret (results_none rfl _ _ _) rfl ?_
        exact ⟨⟨_, rfl⟩, .inr ⟨_, by rw [← HZ.out]; exact List.take_prefix _ _, HJ3.out⟩⟩
    · have d1 : decide (0 ≤ (L.length : Int) - 1 - (k : Int)) = false := decide_eq_false (by omega)
      have hkl : L.zipIdx.reverse.take k = L.zipIdx.reverse := List.take_of_length_le (by simp; omega)
      rw [hkl] at HJR
      gi_wp2
      go_end0
      exact ⟨⟨_, rfl⟩, .inl ⟨_, rfl, HJR.out⟩⟩
theorem backwardE_seq (n : Nat) (hn : 1 ≤ n) {w : World} {c : Nat} {xa : Option Addr} {xc : Nat} {L : List EntL} (E H : Nat → Prop) (hc : Boxes H [(c, .slice xa L.length xc)] w) (hcE : ¬E c) (hi : EntsAt w (.slice xa L.length xc) L) (hL : L.length ≤ 1000)
    (hr : ∀ k, (Value.slice xa L.length xc).ownBlock = some k → ¬E k ∧ k < w.heap.size ∧ Off H w k) :
    SeqW Fence.wide n Tryz.prog 94 #[.pointer (some ⟨c, 0, none⟩)] encE (fun l => KpP (fun k => E k ∨ k = l) H) (fun pre x => pre ++ [x] <+: L.zipIdx.reverse) (fun xs _ => xs = L.zipIdx.reverse) (fun pre _ => pre <+: L.zipIdx.reverse) w := by
  intro l J Jx W hW hl1 hl2 hJ _ hY h0
  have h1 := (hc _ (List.mem_singleton.2 rfl)).1.lt
  simp only at h1
  exact backwardE1_in n l c xa xc L (fun k => E k ∨ k = l) H W (hc.later hW) (fun e => by rcases e with e | e; exact hcE e; omega) (hi.later hW) hL
    (fun k hk => ⟨fun e => by have := hr k hk; rcases e with e | e; exact this.1 e; omega, Nat.lt_of_lt_of_le (hr k hk).2.1 hW.size, (hr k hk).2.2.later hW⟩) J Jx hJ hY h0 hn
set_option maxRecDepth 100000 in
set_option maxHeartbeats 4000000 in
theorem allK1_in (n : Nat) (hn : 3 ≤ n) (l c2 bp lo : Nat) (gp : Option Nat) (L : List EntL) (E H : Nat → Prop) (W : World) (hE : ∀ k, E k → k < W.heap.size)
    (hc2 : HdAt W c2 (.pointer (some ⟨bp, 0, none⟩))) (hp : StackAt W lo bp gp L) (hL : L.length ≤ 1000) (hH : Heads H W) (hgo : ∀ k, gp = some k → ¬E k ∧ Off H W k)
    (J Jx : List EntL → World → Prop) (hJ : OwnFrom W.heap.size J) (hJx : OwnFrom W.heap.size Jx)
    (hY : ∀ pre (x : EntL) W1, J pre W1 → pre ++ [x] <+: L.reverse → YieldAt Fence.wide (n - 1) Tryz.prog l (encX x) W1 fun e W' =>
      (e = .returned (.bool true) ∧ J (pre ++ [x]) W' ∧ KpP E H W1 W') ∨ (e = .returned (.bool false) ∧ Jx (pre ++ [x]) W' ∧ KpP E H W1 W'))
    (h0 : J [] W) :
    CallsIn Fence.wide n Tryz.prog 60 #[.func (.yield l) #[] #[], .pointer (some ⟨c2, 0, none⟩)] W fun e W' => (∃ v, e = .returned v) ∧
      ((∃ xs, xs = L.reverse ∧ J xs W') ∨ (∃ pre, pre <+: L.reverse ∧ Jx pre W')) := by
  have HJ := Lib.hid hJ
  have HJX := Lib.hid hJx
  have HY := Lib.hid hY
  have HE := Lib.hid hE
  have b0 := below_new W (.cells #[.func (.yield l) #[] #[]] 118)
  have HH := Lib.hid (hH.later b0)
  have HL := Lib.hid hL
  have HB0 : Hid (Boxes H [(W.heap.size, .func (.yield l) #[] #[])] (W.alloc (.cells #[.func (.yield l) #[] #[]] 118))) := Lib.hid (fun q hq => by
    rw [List.mem_singleton.1 hq]
    exact ⟨HdAt.new W _ _, hH.off (Nat.le_refl _) b0⟩)
  have HJ0 := Lib.hid (OwnFrom.later hJ h0 b0)
  have c2c := (hc2.later b0).cell
  obtain ⟨xa, xc, f0, hown, ho⟩ := (hp.later b0).field
  have HI0 := Lib.hid (own_ents ho)
  have HGO := Lib.hid (show ∀ k, (Value.slice xa L.length xc).ownBlock = some k → ¬E k ∧ k < W.heap.size ∧ Off H W k from fun k hk => by
    rw [hown] at hk
    exact ⟨(hgo k hk).1, (hp.row k hk).2.1, (hgo k hk).2⟩)
  have HB := Lib.hid b0
  clear hJ hJx hY hE hH hp hL hc2 h0 b0 hgo ho hown
  obtain ⟨W0, hW0⟩ : ∃ W0, W.alloc (.cells #[.func (.yield l) #[] #[]] 118) = W0 := ⟨_, rfl⟩
  have HW0 := Lib.hid hW0
  rw [hW0] at HH HB0 HJ0 HI0 HB
  clear hW0
  refine callsIn_of_wp_marks Tryz.func60 rfl trivial ?_ rfl
  simp only [Tryz.ntmps60, List.size_toArray, List.length_cons, List.length_nil, Nat.reduceAdd, Nat.reduceSub, Array.replicate_succ, Array.replicate_zero, List.push_toArray, List.append_toArray, List.nil_append, List.cons_append]
  gi_wp2_with fail
  rw [HW0.out]
  refine ⟨trivial, fun _ => by omega, (callsIn_wide.2 (backwardE_any (xa, L.length, xc) W0)).mono ?_⟩
  rintro e w1 ⟨rfl, hc3, hb1⟩
  have HBB1 := Lib.hid (stepB HB.out hb1)
  have HH1 := Lib.hid (HH.out.later hb1)
  have HB1 := Lib.hid (HB0.out.later hb1)
  have HJ1 := Lib.hid (OwnFrom.later HJ.out HJ0.out hb1)
  have HS0 := Lib.hid (show W.heap.size ≤ W0.heap.size from HB.out.size)
  have HS1 := Lib.hid (Nat.le_trans HS0.out hb1.size)
  have HSW : Hid (W.heap.size < W0.heap.size) := Lib.hid (by rw [← HW0.out]; simp)
  have HC3 : Hid (Boxes H [(W0.heap.size, .slice xa L.length xc)] w1) := Lib.hid (fun q hq => by
    rw [List.mem_singleton.1 hq]
    exact ⟨hc3, HH.out.off (Nat.le_refl _) hb1⟩)
  have HI1 := Lib.hid (HI0.out.later hb1)
  have HR1 : Hid (∀ k, (Value.slice xa L.length xc).ownBlock = some k → ¬E k ∧ k < w1.heap.size ∧ Off H w1 k) := Lib.hid (fun k hk => ⟨(HGO.out k hk).1, Nat.lt_of_lt_of_le (HGO.out k hk).2.1 HS1.out, (HGO.out k hk).2.2.later HBB1.out⟩)
  clear hb1 hc3
  gi_wp2_with fail
  have HSEQ := Lib.hid (backwardE_seq (n - 1) (by omega) (w := w1) (c := W0.heap.size) E H HC3.out (fun e => by have := HE.out _ e; have := HS0.out; omega) HI1.out HL.out HR1.out)
  refine range_world3 rfl (by omega) (I := fun pre W' => J (fstE pre) W' ∧ Boxes H [(W.heap.size, .func (.yield l) #[] #[])] W') (Ix := fun c pre W' => c = .ret ∧ Jx (fstE pre) W') (gf := 94) (lb := #[.pointer (some ⟨W0.heap.size, 0, none⟩)]) rfl trivial (fun _ _ => by kernel_rfl) HSEQ.out KpP.trans (fun W' o o' ho hc _ => KpP.put o' (.inr rfl) ho hc) (fun W W' hb => KpP.of_below _ _ hb) (Below.refl _ _) (fun _ => rfl)
    (fun s A B row hs hg hr => ⟨HJ.out _ A B row hs.1 hg (fun r e => ⟨by have := (hr r e).1; have := HS1.out; omega, (hr r e).2⟩), hs.2.grown hg (fun r e => (hr r e).2)⟩)
    (fun c s A B row hs hg hr => ⟨hs.1, HJX.out _ A B row hs.2 hg (fun r e => ⟨by have := (hr r e).1; have := HS1.out; omega, (hr r e).2⟩)⟩)
    (fun s A B row hs hg hr => hs) (fun s A B row hs hg hr => hs) ⟨HJ1.out, HB1.out⟩ ?round ?done ?stop
  case round =>
    rintro pre ⟨⟨x0, x1, x2, x3⟩, q⟩ Wr K hI hT hsz hK
    have HPRE := Lib.hid (show fstE pre ++ [⟨x0, x1, x2, x3⟩] <+: L.reverse by have h := hT.map (·.1); simpa [fstE] using h)
    have HK := Lib.hid hK
    have HSZ := Lib.hid hsz
    clear hK hT hI hsz
    simp only [encE, entV]
    gi_wp2
    refine HK.out _ _ (below_new Wr _) ?_
    clear HK
    intro Wb hsz2 hrest hkw ⟨hj, hb⟩
    have hrow : Wb.heap[Wr.heap.size]? = some (.cells #[.int .i64 x0, .int .i64 x1, .int .i64 x2, .bool x3] 49 (0, 0)) := by
      rw [hrest Wr.heap.size (by have := HSZ.out; omega)]
      exact heap_alloc_new Wr _
    have e0 := cell_of_row Wb Wr.heap.size 0 _ _ _ hrow
    have e1 := cell_of_row Wb Wr.heap.size 1 _ _ _ hrow
    have e2 := cell_of_row Wb Wr.heap.size 2 _ _ _ hrow
    have e3 := cell_of_row Wb Wr.heap.size 3 _ _ _ hrow
    have HKW := Lib.hid hkw
    have HB' := Lib.hid hb
    have d3 := (hb _ (List.mem_singleton.2 rfl)).1.cell
    simp only at d3
    have HE2 := Lib.hid (show ∀ q ∈ [(W.heap.size, Value.func (.yield l) #[] #[])], ¬E q.1 from fun q hq => by
      rw [List.mem_singleton.1 hq]
      exact fun e => by have := HE.out _ e; omega)
    obtain ⟨fn, tmps, assign, body', hyy, hR⟩ := HY.out (fstE pre) ⟨x0, x1, x2, x3⟩ Wb hj HPRE.out
    simp only [encX, entV] at hyy
    have HRR := Lib.hid hR
    clear hsz2 hrest hkw hj hb hR hrow
    gi_wp2
    refine ⟨fun _ => by omega, ?_⟩
    refine RoundIn.mono (F := Fence.wide) (roundIn_wide HRR.out) ?_
    rintro e w3 (⟨rfl, hj3, hk3⟩ | ⟨rfl, hj3, hk3⟩)
    · have HP : Hid (KeepsFrom w1.heap.size Wb w3 ∧ KpP (fun k => E k ∨ k = w1.heap.size + 1) H Wr w3 ∧ J (fstE (pre ++ [(⟨x0, x1, x2, x3⟩, q)])) w3 ∧ Boxes H [(W.heap.size, .func (.yield l) #[] #[])] w3) := Lib.hid
        ⟨hk3.from (fun k e => by have := HE.out k e; have := HS1.out; omega), HKW.out.trans (hk3.mono (fun k h => .inl h)), by rw [fstE_snoc]; exact hj3, HB'.out.kept hk3 HE2.out⟩
      clear hj3 hk3 d3 hyy e0 e1 e2 e3
      gi_wp2
      exact HP.out
    · have HP : Hid (KeepsFrom w1.heap.size Wb w3 ∧ KpP (fun k => E k ∨ k = w1.heap.size + 1) H Wr w3 ∧ Jx (fstE (pre ++ [(⟨x0, x1, x2, x3⟩, q)])) w3) := Lib.hid
        ⟨hk3.from (fun k e => by have := HE.out k e; have := HS1.out; omega), HKW.out.trans (hk3.mono (fun k h => .inl h)), by rw [fstE_snoc]; exact hj3⟩
      clear hj3 hk3 d3 hyy e0 e1 e2 e3
      gi_wp2
      exact ⟨HP.out.1, HP.out.2.1, rfl, HP.out.2.2⟩
  case done =>
    rintro D xs W' hD hS ⟨hj, _⟩ hK
    rw [hS, fstE_all] at hj
    have HJ' := Lib.hid hj
    have HK := Lib.hid hK
    have HD := Lib.hid (show w1.heap.size ≤ D from hD)
    clear hS hj hD hK
    gi_wp2
    refine ⟨by simp, .inl ⟨_, _, rfl, run_takeDeferred HK.out, ?_⟩⟩
    exact ⟨_, results_none rfl _ _ _, ⟨_, rfl⟩, .inl ⟨_, rfl, HJ.out.putObj _ HJ'.out (by have := HD.out; have := HS1.out; omega) HK.out rfl⟩⟩
  case stop =>
    rintro D c pre W' hD hS ⟨rfl, hj⟩ hK
    have HP := Lib.hid (show fstE pre <+: L.reverse by have h := hS.map (·.1); simpa [fstE] using h)
    have HJ' := Lib.hid hj
    have HK := Lib.hid hK
    have HD := Lib.hid (show w1.heap.size ≤ D from hD)
    clear hS hj hD hK
    gi_wp2
    refine ⟨by simp, .inl ⟨_, _, rfl, run_takeDeferred HK.out, ?_⟩⟩
    exact ⟨_, results_none rfl _ _ _, ⟨_, rfl⟩, .inr ⟨_, HP.out, HJX.out.putObj _ HJ'.out (by have := HD.out; have := HS1.out; omega) HK.out rfl⟩⟩
/-- The function value that All returns keeps the contract of the law on ranges. -/
theorem allK_seq (n : Nat) (hn : 3 ≤ n) {w : World} {c2 bp lo : Nat} {gp : Option Nat} {L : List EntL} (E H : Nat → Prop) (hE : ∀ k, E k → k < w.heap.size) (hc2 : HdAt w c2 (.pointer (some ⟨bp, 0, none⟩))) (hp : StackAt w lo bp gp L) (hL : L.length ≤ 1000) (hH : Heads H w) (hgo : ∀ k, gp = some k → ¬E k ∧ Off H w k) :
    SeqW Fence.wide n Tryz.prog 60 #[.pointer (some ⟨c2, 0, none⟩)] encX (fun l => KpP (fun k => E k ∨ k = l) H) (fun pre x => pre ++ [x] <+: L.reverse) (fun xs _ => xs = L.reverse) (fun pre _ => pre <+: L.reverse) w := by
  intro l J Jx W hW hl1 hl2 hJ hJx hY h0
  exact allK1_in n hn l c2 bp lo gp L (fun k => E k ∨ k = l) H W (fun k hk => by rcases hk with hk | rfl; exact Nat.lt_of_lt_of_le (hE k hk) hW.size; exact hl2) (hc2.later hW) (hp.later hW) hL (hH.later hW)
    (fun k hk => ⟨fun e => by have := hp.row k hk; rcases e with e | e; exact (hgo k hk).1 e; omega, (hgo k hk).2.later hW⟩) J Jx hJ hJx hY h0
set_option maxRecDepth 100000 in
set_option maxHeartbeats 4000000 in
theorem allK0_seq (n : Nat) {w : World} {c2 : Nat} (Kp : Nat → World → World → Prop) (hc2 : HdAt w c2 (.pointer none)) :
    SeqW Fence.wide n Tryz.prog 60 #[.pointer (some ⟨c2, 0, none⟩)] encX Kp (fun _ _ => False) (fun xs _ => xs = []) (fun _ _ => False) w := by
  intro l J Jx W hW hl1 hl2 hJ hJx _ h0
  have b0 := below_new W (.cells #[.func (.yield l) #[] #[]] 118)
  have HJ0 := Lib.hid (OwnFrom.later hJ h0 b0)
  have c2c := ((hc2.later hW).later b0).cell
  clear hc2 hJ hJx h0 b0
  refine callsIn_of_wp_marks Tryz.func60 rfl trivial ?_ rfl
  simp only [Tryz.ntmps60, List.size_toArray, List.length_cons, List.length_nil, Nat.reduceAdd, Nat.reduceSub, Array.replicate_succ, Array.replicate_zero, List.push_toArray, List.append_toArray, List.nil_append, List.cons_append]
  gi_wp2
  exact ⟨_, results_none rfl _ _ _, ⟨_, rfl⟩, HJ0.out⟩
def RetAllK (w : World) (L : List EntL) (e : Ending) (w' : World) : Prop := ∃ c b g, e = .returned (.func (.func 60) #[] #[.pointer (some ⟨c, 0, none⟩)]) ∧ HdAt w' c (.pointer (some ⟨b, 0, none⟩)) ∧ w.heap.size ≤ c ∧ StackAt w' w.heap.size b g L ∧ Below w.heap.size w w'
set_option maxRecDepth 100000 in
theorem allK_any {w : World} {lo b : Nat} {g : Option Nat} {L : List EntL} (h : StackAt w lo b g L) (hL : L.length ≤ 1000) : Calls Tryz.prog 29 #[.pointer (some ⟨b, 0, none⟩)] w (RetAllK w L) := by
  have HC := Lib.hid (copy_stk h hL)
  have hmf := @mk_func
  clear h
  go_enter Tryz.func29, Tryz.ntmps29
  go_wp2_with fail
  refine HC.out.mono ?_
  rintro e w1 ⟨b2, g2, rfl, hs, hb1⟩
  have HS := Lib.hid hs
  have HB := Lib.hid hb1
  clear hs hb1
  dsimp only
  go_wp2
  go_ret
  exact ⟨_, b2, g2, rfl, HdAt.new w1 _ _, HB.out.size, HS.out.later (below_new w1 _), below_alloc2 HB.out _⟩
theorem allK0_any (w : World) : Calls Tryz.prog 29 #[.pointer none] w (RetFn w 60 (.pointer none)) := by
  have HC := Lib.hid (copy_stk0 w)
  have hmf := @mk_func
  go_enter Tryz.func29, Tryz.ntmps29
  go_wp2_with fail
  refine HC.out.mono ?_
  rintro e w1 ⟨rfl, rfl⟩
  go_wp2
  go_ret
  exact ⟨rfl, HdAt.new w1 _ _, below_new w1 _⟩
end Go.Proofs.YtookicopjphmnaaGreat
namespace Go.Proofs.YtookicopjphmnaaGreat
open Go.RowKit Go.Maps
attribute [local go_sem] Oper.semAt_some

theorem KpP.cell {E H : Nat → Prop} {W : World} {b j : Nat} (u : Value) (hE : E b) (hH : ∀ c, H c → c ≠ b) : KpP E H W (W.setCell ⟨b, j, none⟩ u) :=
  ⟨by simp, fun k o ho hn _ => (heap_setCell_other W ⟨b, j, none⟩ k u (fun e => hn (by rw [e]; exact hE))).trans ho, fun c v hc hv => ⟨v, hv.of (heap_setCell_other W ⟨b, j, none⟩ c u (hH c hc)), .inl rfl⟩⟩
theorem KeepsFrom.cell {B : Nat} {W : World} {b j : Nat} (u : Value) (hb : b < B) : KeepsFrom B W (W.setCell ⟨b, j, none⟩ u) :=
  (KpP.cell (E := fun k => k = b) (H := fun _ => False) u rfl (fun _ h => h.elim)).from (fun k e => by rw [e]; exact hb)
def topE (L : List EntL) : EntL := L.getLast?.getD zeroE
theorem topE_snoc (L : List EntL) (x : EntL) : topE (L ++ [x]) = x := by simp [topE]
def oneE (x : EntL) : Array Value := #[.int .i64 x.seat, .int .i64 x.obj, .int .i64 x.pos, .bool x.trig]
theorem set4E {W : World} {b : Nat} {xs : Array Value} {T : TypeId} (x0 x1 x2 : Int) (x3 : Bool) (h : W.heap[b]? = some (.cells xs T (0, 0))) (hx : xs.size = 4) :
    ((((W.setCell ⟨b, 0, none⟩ (.int .i64 x0)).setCell ⟨b, 1, none⟩ (.int .i64 x1)).setCell ⟨b, 2, none⟩ (.int .i64 x2)).setCell ⟨b, 3, none⟩ (.bool x3)).heap[b]? = some (.cells #[.int .i64 x0, .int .i64 x1, .int .i64 x2, .bool x3] T (0, 0)) := by
  obtain ⟨l⟩ := xs
  match l, hx with
  | [a, b1, c, d], _ =>
    have h1 := heap_setCell_same W b 0 _ _ (.int .i64 x0) h
    have h2 := heap_setCell_same _ b 1 _ _ (.int .i64 x1) h1
    have h3 := heap_setCell_same _ b 2 _ _ (.int .i64 x2) h2
    have h4 := heap_setCell_same _ b 3 _ _ (.bool x3) h3
    rw [h4]
    simp
theorem below_putD {A W : World} {D : Nat} {o : Obj} (h : Below A.heap.size A W) (hD : A.heap.size ≤ D) (_ : W.heap[D]? = some o) (o' : Obj) : Below A.heap.size A (W.putObj D o') :=
  ⟨h.os, h.tape, h.output, by simpa using h.size, fun k hk => (World.putObj_heap_other (by omega)).trans (h.block k hk)⟩
theorem top_results {W : World} {q : Nat} {x0 x1 x2 : Int} {x3 t : Bool} {T U : TypeId} (a0 a1 a4 a5 a6 a7 a8 a9 : Value) (h2 : W.heap[q]? = some (.cells #[.int .i64 x0, .int .i64 x1, .int .i64 x2, .bool x3] T (0, 0))) (h3 : W.heap[q + 1]? = some (.cells #[.bool t] U (0, 0))) :
    (results Tryz.f30 #[a0, a1, .pointer (some ⟨q, 0, none⟩), .pointer (some ⟨q + 1, 0, none⟩), a4, a5, a6, a7, a8, a9]).run Tryz.prog W = .ok (.tuple #[.agg #[.int .i64 x0, .int .i64 x1, .int .i64 x2, .bool x3], .bool t]) W := by
  have m0 : W.cell? ⟨q, 0, none⟩ = some (.int .i64 x0) := cell_of_row W q 0 _ _ _ h2
  have m1 : W.cell? ⟨q, 1, none⟩ = some (.int .i64 x1) := cell_of_row W q 1 _ _ _ h2
  have m2 : W.cell? ⟨q, 2, none⟩ = some (.int .i64 x2) := cell_of_row W q 2 _ _ _ h2
  have m3 : W.cell? ⟨q, 3, none⟩ = some (.bool x3) := cell_of_row W q 3 _ _ _ h2
  have n0 : W.cell? ⟨q + 1, 0, none⟩ = some (.bool t) := cell_of_row W (q + 1) 0 _ _ _ h3
  simp [results, Tryz.results30, go_sem, m0, m1, m2, m3, n0]
set_option maxRecDepth 100000 in
set_option maxHeartbeats 4000000 in
theorem top_stk {w : World} {lo b : Nat} {g : Option Nat} {L : List EntL} (h : StackAt w lo b g L) (hL : L.length ≤ 1000) : Calls Tryz.prog 30 #[.pointer (some ⟨b, 0, none⟩)] w (RetV w (.tuple #[entV (topE L), .bool (decide (0 < L.length))])) := by
  have hb2 := below_alloc2 (below_new w (.cells #[.int .i64 0, .int .i64 0, .int .i64 0, .bool false] 49)) (.cells #[.bool false] 4)
  have HA := Lib.hid (allK_any (h.later hb2) hL)
  have h2 : ((w.alloc (.cells #[.int .i64 0, .int .i64 0, .int .i64 0, .bool false] 49)).alloc (.cells #[.bool false] 4)).heap[w.heap.size]? = some (.cells #[.int .i64 0, .int .i64 0, .int .i64 0, .bool false] 49 (0, 0)) := (Below.heap_alloc _ _ _ (by simp)).trans (heap_alloc_new w _)
  have h3 : ((w.alloc (.cells #[.int .i64 0, .int .i64 0, .int .i64 0, .bool false] 49)).alloc (.cells #[.bool false] 4)).heap[w.heap.size + 1]? = some (.cells #[.bool false] 4 (0, 0)) := by
    have := heap_alloc_new (w.alloc (.cells #[.int .i64 0, .int .i64 0, .int .i64 0, .bool false] 49)) (.cells #[.bool false] 4)
    rwa [World.size_alloc] at this
  have hsz : ((w.alloc (.cells #[.int .i64 0, .int .i64 0, .int .i64 0, .bool false] 49)).alloc (.cells #[.bool false] 4)).heap.size = w.heap.size + 1 + 1 := by simp
  obtain ⟨W0, hW0⟩ : ∃ W0, (w.alloc (.cells #[.int .i64 0, .int .i64 0, .int .i64 0, .bool false] 49)).alloc (.cells #[.bool false] 4) = W0 := ⟨_, rfl⟩
  rw [hW0] at hb2 HA h2 h3 hsz
  have HW0 := Lib.hid hW0
  have HR2 := Lib.hid (And.intro h2 h3)
  have HSZ := Lib.hid hsz
  have HB2 := Lib.hid hb2
  have HL := Lib.hid hL
  clear h h2 h3 hsz hb2 hW0 hL
  refine (callsIn_wide (n := 9)).1 ?_
  refine callsIn_of_wp_marks Tryz.func30 rfl trivial ?_ rfl
  simp only [Tryz.ntmps30, List.size_toArray, List.length_cons, List.length_nil, Nat.reduceAdd, Nat.reduceSub, Array.replicate_succ, Array.replicate_zero, List.push_toArray, List.append_toArray, List.nil_append, List.cons_append]
  refine wpIn_wide.2 ?_
  go_wp2_with fail
  rw [HW0.out]
  obtain ⟨q2, hq2⟩ : ∃ q2, w.heap.size = q2 := ⟨_, rfl⟩
  have HQ2 := Lib.hid hq2
  try simp only [World.size_alloc]
  rw [hq2] at HR2 HSZ ⊢
  clear hq2
  refine HA.out.mono ?_
  rintro e w1 ⟨c, b2, g2, rfl, hc, hcs, hs, hb1⟩
  have HB1 := Lib.hid hb1
  have HSZ1 := Lib.hid (show q2 + 1 < w1.heap.size by have := HSZ.out; have := hb1.size; omega)
  have HSEQ := Lib.hid (allK_seq 8 (by omega) (w := w1) (fun k => k = q2 ∨ k = q2 + 1) (fun _ => False) (fun k hk => by have := HSZ1.out; omega) hc hs HL.out (fun _ h => h.elim) (fun k hk => by
    have hr := hs.row k hk
    have := HSZ.out
    exact ⟨by omega, fun e => e, fun _ e => e.elim⟩))
  have HR3 := Lib.hid (And.intro ((hb1.block q2 (by have := HSZ.out; omega)).trans HR2.out.1) ((hb1.block (q2 + 1) (by have := HSZ.out; omega)).trans HR2.out.2))
  have HBW := Lib.hid (stepB HB2.out hb1)
  clear hc hcs hs hb1 HA
  dsimp only
  go_wp2_with fail
  refine (wpIn_wide (n := 9)).1 ?_
  refine range_world3 rfl (by omega) (I := fun pre W' => pre = [] ∧ Below w1.heap.size w1 W') (Ix := fun c pre W' => c = .ret ∧ ∃ x, pre = [x] ∧ W'.heap[q2]? = some (.cells (oneE x) 49 (0, 0)) ∧ W'.heap[q2 + 1]? = some (.cells #[.bool true] 4 (0, 0)) ∧ Below w.heap.size w W') (gf := 60) (lb := _) rfl trivial (fun _ _ => by kernel_rfl) HSEQ.out KpP.trans (fun W' o o' ho hc _ => KpP.put o' (.inr rfl) ho hc) (fun W W' hb => KpP.of_below _ _ hb) (Below.refl _ _) (fun _ => rfl)
    (fun s A B row hs hg hr => ⟨hs.1, ownFrom_below (β := Unit) (Nat.le_refl _) (Nat.le_refl _) () A B row hs.2 hg hr⟩)
    (fun c s A B row hs hg hr => by
      obtain ⟨h1, x, h2, h3, h4, h5⟩ := hs
      have hr2 : ∀ r, row = some r → ∃ o : Obj, A.heap[r]? = some o ∧ o.isCells = false := fun r e => (hr r e).2
      exact ⟨h1, x, h2, (grownBy_keeps_cells hg hr2 h3 rfl).trans h3, (grownBy_keeps_cells hg hr2 h4 rfl).trans h4, h5.grown hg h5.size (fun k e => by have := (hr k e).1; have := HSZ1.out; have := HQ2.out; omega)⟩)
    (fun s A B row hs hg hr => hs) (fun s A B row hs hg hr => hs) ⟨rfl, Below.refl _ _⟩ ?round ?done ?stop
  case round =>
    rintro pre ⟨x0, x1, x2, x3⟩ Wr K ⟨hpre, hbr⟩ hT hsz hK
    subst hpre
    have HK := Lib.hid hK
    have HSR := Lib.hid hsz
    clear hK hT hsz hbr
    simp only [encX, entV]
    gi_wp2
    refine HK.out _ _ (below_new Wr _) ?_
    clear HK
    intro Wb hsz2 hrest hkw ⟨_, hb⟩
    have hrow : Wb.heap[Wr.heap.size]? = some (.cells #[.int .i64 x0, .int .i64 x1, .int .i64 x2, .bool x3] 49 (0, 0)) := by
      rw [hrest Wr.heap.size (by have := HSR.out; omega)]
      exact heap_alloc_new Wr _
    have e0 := cell_of_row Wb Wr.heap.size 0 _ _ _ hrow
    have e1 := cell_of_row Wb Wr.heap.size 1 _ _ _ hrow
    have e2 := cell_of_row Wb Wr.heap.size 2 _ _ _ hrow
    have e3 := cell_of_row Wb Wr.heap.size 3 _ _ _ hrow
    have hr2 := (hb.block q2 (by have := HSZ1.out; omega)).trans HR3.out.1
    have hr3 := (hb.block (q2 + 1) (by have := HSZ1.out; omega)).trans HR3.out.2
    have f2 := fun j => frozen_of_row Wb q2 j _ _ hr2
    have f3 := fun j => frozen_of_row Wb (q2 + 1) j _ _ hr3
    have m0 : Wb.cell? ⟨q2, 0, none⟩ = some (.int .i64 0) := cell_of_row Wb q2 0 _ _ _ hr2
    have m1 : Wb.cell? ⟨q2, 1, none⟩ = some (.int .i64 0) := cell_of_row Wb q2 1 _ _ _ hr2
    have m2 : Wb.cell? ⟨q2, 2, none⟩ = some (.int .i64 0) := cell_of_row Wb q2 2 _ _ _ hr2
    have m3 : Wb.cell? ⟨q2, 3, none⟩ = some (.bool false) := cell_of_row Wb q2 3 _ _ _ hr2
    have n0 : Wb.cell? ⟨q2 + 1, 0, none⟩ = some (.bool false) := cell_of_row Wb (q2 + 1) 0 _ _ _ hr3
    have HKW := Lib.hid hkw
    have HBB := Lib.hid hb
    have HRR := Lib.hid (And.intro hr2 hr3)
    clear hsz2 hrest hkw hb hrow hr2 hr3
    gi_wp2
    have kp : KpP (fun k => k = q2 ∨ k = q2 + 1) (fun _ => False) Wb (((((Wb.setCell ⟨q2, 0, none⟩ (.int .i64 x0)).setCell ⟨q2, 1, none⟩ (.int .i64 x1)).setCell ⟨q2, 2, none⟩ (.int .i64 x2)).setCell ⟨q2, 3, none⟩ (.bool x3)).setCell ⟨q2 + 1, 0, none⟩ (.bool true)) :=
      ((((KpP.cell _ (.inl rfl) (fun _ h => h.elim)).trans (KpP.cell _ (.inl rfl) (fun _ h => h.elim))).trans (KpP.cell _ (.inl rfl) (fun _ h => h.elim))).trans (KpP.cell _ (.inl rfl) (fun _ h => h.elim))).trans (KpP.cell _ (.inr rfl) (fun _ h => h.elim))
    have hle : w.heap.size ≤ q2 := Nat.le_of_eq HQ2.out
    refine ⟨kp.from (fun k hk => by have := HSZ1.out; omega), HKW.out.trans (kp.mono (fun k hk => .inl hk)), rfl, ⟨x0, x1, x2, x3⟩, rfl, ?_, ?_, ?_⟩
    · rw [heap_setCell_other _ ⟨q2 + 1, 0, none⟩ q2 _ (by simp)]
      exact set4E x0 x1 x2 x3 HRR.out.1 rfl
    · rw [heap_setCell_same _ (q2 + 1) 0 (#[.bool false]) 4 (.bool true) (by
        rw [heap_setCell_other _ ⟨q2, 3, none⟩ (q2 + 1) _ (by simp), heap_setCell_other _ ⟨q2, 2, none⟩ (q2 + 1) _ (by simp), heap_setCell_other _ ⟨q2, 1, none⟩ (q2 + 1) _ (by simp), heap_setCell_other _ ⟨q2, 0, none⟩ (q2 + 1) _ (by simp)]
        exact HRR.out.2)]
      rfl
    · exact (((((stepB HBW.out HBB.out).setCell hle _).setCell hle _).setCell hle _).setCell hle _).setCell (Nat.le_succ_of_le hle) _
  case done =>
    rintro D xs W' hD hS ⟨hpre, hb⟩ hK
    subst hpre
    have hL0 : L = [] := by simpa using hS.symm
    have hr2 := (hb.block q2 (by have := HSZ1.out; omega)).trans HR3.out.1
    have hr3 := (hb.block (q2 + 1) (by have := HSZ1.out; omega)).trans HR3.out.2
    have f2 := fun j => frozen_of_row W' q2 j _ _ hr2
    have f3 := fun j => frozen_of_row W' (q2 + 1) j _ _ hr3
    have m0 : W'.cell? ⟨q2, 0, none⟩ = some (.int .i64 0) := cell_of_row W' q2 0 _ _ _ hr2
    have m1 : W'.cell? ⟨q2, 1, none⟩ = some (.int .i64 0) := cell_of_row W' q2 1 _ _ _ hr2
    have m2 : W'.cell? ⟨q2, 2, none⟩ = some (.int .i64 0) := cell_of_row W' q2 2 _ _ _ hr2
    have m3 : W'.cell? ⟨q2, 3, none⟩ = some (.bool false) := cell_of_row W' q2 3 _ _ _ hr2
    have n0 : W'.cell? ⟨q2 + 1, 0, none⟩ = some (.bool false) := cell_of_row W' (q2 + 1) 0 _ _ _ hr3
    have HBB := Lib.hid hb
    have HK := Lib.hid hK
    have HD := Lib.hid (show w1.heap.size ≤ D from hD)
    have HL0 := Lib.hid hL0
    have HRR := Lib.hid (And.intro hr2 hr3)
    clear hS hb hK hD hr2 hr3 hL0
    go_wp2
    have hD' : q2 + 1 < D := by have := HD.out; have := HSZ1.out; omega
    have hDK : (((((W'.setCell ⟨q2, 0, none⟩ (.int .i64 0)).setCell ⟨q2, 1, none⟩ (.int .i64 0)).setCell ⟨q2, 2, none⟩ (.int .i64 0)).setCell ⟨q2, 3, none⟩ (.bool false)).setCell ⟨q2 + 1, 0, none⟩ (.bool false)).heap[D]? = some (.deferred (some [])) := by
      rw [heap_setCell_other _ ⟨q2 + 1, 0, none⟩ D _ (by show D ≠ q2 + 1; omega), heap_setCell_other _ ⟨q2, 3, none⟩ D _ (by show D ≠ q2; omega), heap_setCell_other _ ⟨q2, 2, none⟩ D _ (by show D ≠ q2; omega), heap_setCell_other _ ⟨q2, 1, none⟩ D _ (by show D ≠ q2; omega), heap_setCell_other _ ⟨q2, 0, none⟩ D _ (by show D ≠ q2; omega)]
      exact HK.out
    refine ⟨by simp, .inl ⟨_, _, rfl, run_takeDeferred hDK, ?_⟩⟩
    have g2 : (((((W'.setCell ⟨q2, 0, none⟩ (.int .i64 0)).setCell ⟨q2, 1, none⟩ (.int .i64 0)).setCell ⟨q2, 2, none⟩ (.int .i64 0)).setCell ⟨q2, 3, none⟩ (.bool false)).setCell ⟨q2 + 1, 0, none⟩ (.bool false)).heap[q2]? = some (.cells #[.int .i64 0, .int .i64 0, .int .i64 0, .bool false] 49 (0, 0)) := by
      rw [heap_setCell_other _ ⟨q2 + 1, 0, none⟩ q2 _ (by simp)]
      exact set4E 0 0 0 false HRR.out.1 rfl
    have g3 : (((((W'.setCell ⟨q2, 0, none⟩ (.int .i64 0)).setCell ⟨q2, 1, none⟩ (.int .i64 0)).setCell ⟨q2, 2, none⟩ (.int .i64 0)).setCell ⟨q2, 3, none⟩ (.bool false)).setCell ⟨q2 + 1, 0, none⟩ (.bool false)).heap[q2 + 1]? = some (.cells #[.bool false] 4 (0, 0)) := by
      rw [heap_setCell_same _ (q2 + 1) 0 (#[.bool false]) 4 (.bool false) (by
        rw [heap_setCell_other _ ⟨q2, 3, none⟩ (q2 + 1) _ (by simp), heap_setCell_other _ ⟨q2, 2, none⟩ (q2 + 1) _ (by simp), heap_setCell_other _ ⟨q2, 1, none⟩ (q2 + 1) _ (by simp), heap_setCell_other _ ⟨q2, 0, none⟩ (q2 + 1) _ (by simp)]
        exact HRR.out.2)]
      rfl
    have hle : w.heap.size ≤ q2 := Nat.le_of_eq HQ2.out
    have HL1 := HL0.out
    subst HL1
    refine ⟨_, top_results _ _ _ _ _ _ _ _ ((World.putObj_heap_other (by omega)).trans g2) ((World.putObj_heap_other (by omega)).trans g3), rfl, ?_⟩
    exact below_putD ((((((stepB HBW.out HBB.out).setCell hle _).setCell hle _).setCell hle _).setCell hle _).setCell (Nat.le_succ_of_le hle) _) (by omega) hDK _
  case stop =>
    rintro D c' pre W' hD hS ⟨rfl, x, rfl, h2, h3, hb⟩ hK
    have hx : topE L = x ∧ 0 < L.length := by
      obtain ⟨r, hr⟩ := hS
      have h := congrArg List.reverse hr
      simp at h
      rw [← h]
      exact ⟨topE_snoc _ _, by simp⟩
    obtain ⟨x0, x1, x2, x3⟩ := x
    have m0 : W'.cell? ⟨q2, 0, none⟩ = some (.int .i64 x0) := cell_of_row W' q2 0 _ _ _ h2
    have m1 : W'.cell? ⟨q2, 1, none⟩ = some (.int .i64 x1) := cell_of_row W' q2 1 _ _ _ h2
    have m2 : W'.cell? ⟨q2, 2, none⟩ = some (.int .i64 x2) := cell_of_row W' q2 2 _ _ _ h2
    have m3 : W'.cell? ⟨q2, 3, none⟩ = some (.bool x3) := cell_of_row W' q2 3 _ _ _ h2
    have n0 : W'.cell? ⟨q2 + 1, 0, none⟩ = some (.bool true) := cell_of_row W' (q2 + 1) 0 _ _ _ h3
    have HBB := Lib.hid hb
    have HK := Lib.hid hK
    have HD := Lib.hid (show w1.heap.size ≤ D from hD)
    have HX := Lib.hid hx
    have HRS := Lib.hid (And.intro h2 h3)
    clear hS hb hK hD h2 h3 hx
    gi_wp2
    refine ⟨by simp, .inl ⟨_, _, rfl, run_takeDeferred HK.out, ?_⟩⟩
    have hDq : q2 + 1 < D := by have := HD.out; have := HSZ1.out; omega
    have hle : w.heap.size ≤ q2 := Nat.le_of_eq HQ2.out
    refine ⟨_, top_results _ _ _ _ _ _ _ _ ((World.putObj_heap_other (by omega)).trans HRS.out.1) ((World.putObj_heap_other (by omega)).trans HRS.out.2), ?_, ?_⟩
    · rw [HX.out.1, decide_eq_true HX.out.2]
      rfl
    · exact below_putD HBB.out (by omega) HK.out _
theorem other4E {W : World} {b k : Nat} (v0 v1 v2 v3 : Value) (h : k ≠ b) : ((((W.setCell ⟨b, 0, none⟩ v0).setCell ⟨b, 1, none⟩ v1).setCell ⟨b, 2, none⟩ v2).setCell ⟨b, 3, none⟩ v3).heap[k]? = W.heap[k]? := by
  rw [heap_setCell_other _ ⟨b, 3, none⟩ k _ h, heap_setCell_other _ ⟨b, 2, none⟩ k _ h, heap_setCell_other _ ⟨b, 1, none⟩ k _ h, heap_setCell_other _ ⟨b, 0, none⟩ k _ h]
theorem pop_results {W : World} {q : Nat} {x0 x1 x2 : Int} {x3 t : Bool} {T : TypeId} {tmps : Array Value} (e2 : tmps.getD 2 undef = .pointer (some ⟨q, 0, none⟩)) (e3 : tmps.getD 3 undef = .bool t) (h2 : W.heap[q]? = some (.cells #[.int .i64 x0, .int .i64 x1, .int .i64 x2, .bool x3] T (0, 0))) :
    (results Tryz.f58 tmps).run Tryz.prog W = .ok (.tuple #[.agg #[.int .i64 x0, .int .i64 x1, .int .i64 x2, .bool x3], .bool t]) W := by
  have m0 : W.cell? ⟨q, 0, none⟩ = some (.int .i64 x0) := cell_of_row W q 0 _ _ _ h2
  have m1 : W.cell? ⟨q, 1, none⟩ = some (.int .i64 x1) := cell_of_row W q 1 _ _ _ h2
  have m2 : W.cell? ⟨q, 2, none⟩ = some (.int .i64 x2) := cell_of_row W q 2 _ _ _ h2
  have m3 : W.cell? ⟨q, 3, none⟩ = some (.bool x3) := cell_of_row W q 3 _ _ _ h2
  simp only [Array.getD_eq_getD_getElem?] at e2 e3
  simp [results, Tryz.results58, go_sem, e2, e3, m0, m1, m2, m3]
set_option maxRecDepth 100000 in
set_option maxHeartbeats 4000000 in
theorem pop_ok {w : World} {lo b : Nat} {g : Option Nat} {L : List EntL} (x : EntL) (h : StackAt w lo b g (L ++ [x])) (hL : L.length ≤ 999) : Calls Tryz.prog 58 #[.pointer (some ⟨b, 0, none⟩)] w (RetStk w lo b g (.tuple #[entV x, .bool true]) L) := by
  have hb0 := below_new w (.cells #[.int .i64 0, .int .i64 0, .int .i64 0, .bool false] 49)
  have ht := top_stk (h.later hb0) (by simp; omega)
  rw [topE_snoc, show decide (0 < (L ++ [x]).length) = true from decide_eq_true (by simp)] at ht
  obtain ⟨x0, x1, x2, x3⟩ := x
  unfold entV at ht ⊢
  dsimp only at ht ⊢
  have h2 := heap_alloc_new w (.cells #[.int .i64 0, .int .i64 0, .int .i64 0, .bool false] 49)
  have HSZ := Lib.hid (show (w.alloc (.cells #[.int .i64 0, .int .i64 0, .int .i64 0, .bool false] 49)).heap.size = w.heap.size + 1 from World.size_alloc _ _)
  obtain ⟨W0, hW0⟩ : ∃ W0, w.alloc (.cells #[.int .i64 0, .int .i64 0, .int .i64 0, .bool false] 49) = W0 := ⟨_, rfl⟩
  rw [hW0] at ht hb0 h2 HSZ
  have HT := Lib.hid ht
  have HW0 := Lib.hid hW0
  have HB0 := Lib.hid hb0
  have HR0 := Lib.hid h2
  have HH := Lib.hid h
  have HLT := Lib.hid (And.intro h.lt h.row)
  have HLL := Lib.hid hL
  clear ht hW0 hb0 h2 h hL
  go_enter Tryz.func58, Tryz.ntmps58
  go_wp2_with fail
  rw [HW0.out]
  refine HT.out.mono ?_
  rintro e w1 ⟨rfl, hb1⟩
  have hbW := stepB HB0.out hb1
  have hb2 := below_new w1 (.cells #[.int .i64 x0, .int .i64 x1, .int .i64 x2, .bool x3] 49)
  have HB2 := Lib.hid (stepB hbW hb2)
  obtain ⟨xa, xc, f0, hown, ho⟩ := (HH.out.later HB2.out).field
  have hfz := (HH.out.later HB2.out).free 0
  have HROW := Lib.hid ho
  have HOWN := Lib.hid hown
  have HR2 := Lib.hid ((hb2.block w.heap.size (by have := HSZ.out; have := hb1.size; omega)).trans ((hb1.block w.heap.size (by have := HSZ.out; omega)).trans HR0.out))
  have HR4 := Lib.hid (heap_alloc_new w1 (.cells #[.int .i64 x0, .int .i64 x1, .int .i64 x2, .bool x3] 49))
  have HSW := Lib.hid (show w.heap.size < w1.heap.size by have := HSZ.out; have := hb1.size; omega)
  have hcap : L.length + 1 ≤ xc := by
    rcases ho.2 with ⟨e, e2⟩ | ⟨g', cap, cur, e, _, _, hn, _⟩
    · simp at e2
    · injection e with _ e1 e2
      subst e2
      simpa using hn
  obtain ⟨W2, hW2⟩ : ∃ W2, w1.alloc (.cells #[.int .i64 x0, .int .i64 x1, .int .i64 x2, .bool x3] 49) = W2 := ⟨_, rfl⟩
  rw [hW2] at f0 hfz HROW HR2 HR4 HB2
  have HW2 := Lib.hid hW2
  rw [List.length_append, List.length_singleton] at f0 HROW HOWN
  obtain ⟨n, hn⟩ : ∃ n, L.length = n := ⟨_, rfl⟩
  have HN := Lib.hid hn
  have hn9 : n ≤ 999 := by rw [← hn]; exact HLL.out
  rw [hn] at f0 hcap
  have hi1 : ((n + 1 : Nat) : Int) - 1 = (n : Int) := by omega
  clear hbW hb1 hb2 ho hown hW2 hn HT
  dsimp only
  go_upto_region 3 with fail
  rw [HW2.out]
  obtain ⟨q4, hq4⟩ : ∃ q4, w1.heap.size = q4 := ⟨_, rfl⟩
  try simp only [hq4]
  rw [hq4] at HR4 HSW
  go_region
  obtain ⟨W3, hW3⟩ : ∃ W3, (W2.setCell ⟨b, 0, none⟩ (.slice xa n xc)).drew = W3 := ⟨_, rfl⟩
  have hbq : b < w.heap.size := HLT.out.1
  have h32 : W3.heap[w.heap.size]? = some (.cells #[.int .i64 0, .int .i64 0, .int .i64 0, .bool false] 49 (0, 0)) := by
    rw [← hW3]
    exact (heap_setCell_other W2 ⟨b, 0, none⟩ w.heap.size _ (by show w.heap.size ≠ b; omega)).trans HR2.out
  have h34 : W3.heap[q4]? = some (.cells #[.int .i64 x0, .int .i64 x1, .int .i64 x2, .bool x3] 49 (0, 0)) := by
    rw [← hW3]
    exact (heap_setCell_other W2 ⟨b, 0, none⟩ q4 _ (by show q4 ≠ b; have := HSW.out; omega)).trans HR4.out
  have hlast : W2.ownsRow lo 49 4 (.slice xa n xc) L.length (entsV L) := by
    have h := HROW.out
    have e := HN.out
    rw [← e]
    exact own_lastE h
  have hst := (HH.out.later HB2.out)
  obtain ⟨v, hv1, hv2, hv3, -⟩ := hst
  have hput := stack_put (w := w) (w1 := W2) (w2 := W2) (v' := .slice xa n xc) (L := L) hv1 hv3 HB2.out (World.grownBy.refl W2 g) (fun e => (HLT.out.2 b e).2.2 rfl) hlast (fun e => by
    have h1 : (Value.slice xa (L.length + 1) xc).ownBlock = some b := (by cases xa <;> rfl : (Value.slice xa (L.length + 1) xc).ownBlock = (Value.slice xa n xc).ownBlock).trans e
    rw [HOWN.out] at h1
    exact (HLT.out.2 b h1).2.2 rfl)
  have hs3 : StackAt W3 lo b g L ∧ Chg w W3 b g := by
    rw [← hW3]
    have e : (Value.slice xa n xc).ownBlock = g := (by cases xa <;> rfl : (Value.slice xa n xc).ownBlock = (Value.slice xa (L.length + 1) xc).ownBlock).trans HOWN.out
    rw [e] at hput
    exact ⟨hput.1.later ((Below.refl _ _).drew), hput.2.then ((Below.refl _ _).drew)⟩
  have HS3 := Lib.hid hs3
  have HR3 := Lib.hid h32
  rw [hW3]
  have f2 := fun j => frozen_of_row W3 w.heap.size j _ _ h32
  have m0 : W3.cell? ⟨w.heap.size, 0, none⟩ = some (.int .i64 0) := cell_of_row W3 _ 0 _ _ _ h32
  have m1 : W3.cell? ⟨w.heap.size, 1, none⟩ = some (.int .i64 0) := cell_of_row W3 _ 1 _ _ _ h32
  have m2 : W3.cell? ⟨w.heap.size, 2, none⟩ = some (.int .i64 0) := cell_of_row W3 _ 2 _ _ _ h32
  have m3 : W3.cell? ⟨w.heap.size, 3, none⟩ = some (.bool false) := cell_of_row W3 _ 3 _ _ _ h32
  have e0 : W3.cell? ⟨q4, 0, none⟩ = some (.int .i64 x0) := cell_of_row W3 _ 0 _ _ _ h34
  have e1 : W3.cell? ⟨q4, 1, none⟩ = some (.int .i64 x1) := cell_of_row W3 _ 1 _ _ _ h34
  have e2 : W3.cell? ⟨q4, 2, none⟩ = some (.int .i64 x2) := cell_of_row W3 _ 2 _ _ _ h34
  have e3 : W3.cell? ⟨q4, 3, none⟩ = some (.bool x3) := cell_of_row W3 _ 3 _ _ _ h34
  clear hW3 hbq h32 h34 hlast hv1 hv2 hv3 hput hs3 f0 hfz hcap hi1
  go_wp2
  refine bodyPost_ret (pop_results rfl rfl (set4E x0 x1 x2 x3 HR3.out rfl)) rfl ?_
  refine ⟨g, rfl, HS3.out.1.kept (other4E _ _ _ _ (Nat.ne_of_lt HLT.out.1)) (fun k hk => other4E _ _ _ _ (Nat.ne_of_lt (HLT.out.2 k hk).2.1)), ?_, .inl rfl⟩
  exact ⟨HS3.out.2.os, HS3.out.2.tape, HS3.out.2.output, by simpa using HS3.out.2.size, fun k hk h1 h2 => (other4E _ _ _ _ (Nat.ne_of_lt hk)).trans (HS3.out.2.block k hk h1 h2)⟩
set_option maxRecDepth 100000 in
set_option maxHeartbeats 4000000 in
theorem pop_none {w : World} {p : Option Addr} (ht : ∀ w' : World, Below w.heap.size w w' → Calls Tryz.prog 30 #[.pointer p] w' (RetV w' (.tuple #[entV zeroE, .bool false]))) : Calls Tryz.prog 58 #[.pointer p] w (RetV w (.tuple #[entV zeroE, .bool false])) := by
  have hb0 := below_new w (.cells #[.int .i64 0, .int .i64 0, .int .i64 0, .bool false] 49)
  have ht := ht _ hb0
  unfold entV zeroE at ht ⊢
  dsimp only at ht ⊢
  have h2 := heap_alloc_new w (.cells #[.int .i64 0, .int .i64 0, .int .i64 0, .bool false] 49)
  have HSZ := Lib.hid (show (w.alloc (.cells #[.int .i64 0, .int .i64 0, .int .i64 0, .bool false] 49)).heap.size = w.heap.size + 1 from World.size_alloc _ _)
  obtain ⟨W0, hW0⟩ : ∃ W0, w.alloc (.cells #[.int .i64 0, .int .i64 0, .int .i64 0, .bool false] 49) = W0 := ⟨_, rfl⟩
  rw [hW0] at ht hb0 h2 HSZ
  have HT := Lib.hid ht
  have HW0 := Lib.hid hW0
  have HB0 := Lib.hid hb0
  have HR0 := Lib.hid h2
  clear ht hW0 hb0 h2
  go_enter Tryz.func58, Tryz.ntmps58
  go_wp2_with fail
  rw [HW0.out]
  refine HT.out.mono ?_
  rintro e w1 ⟨rfl, hb1⟩
  have hbW := stepB HB0.out hb1
  have hb2 := below_new w1 (.cells #[.int .i64 0, .int .i64 0, .int .i64 0, .bool false] 49)
  have HB2 := Lib.hid (stepB hbW hb2)
  have h32 := ((hb2.block w.heap.size (by have := HSZ.out; have := hb1.size; omega)).trans ((hb1.block w.heap.size (by have := HSZ.out; omega)).trans HR0.out))
  have h34 := (heap_alloc_new w1 (.cells #[.int .i64 0, .int .i64 0, .int .i64 0, .bool false] 49))
  obtain ⟨W3, hW2⟩ : ∃ W2, w1.alloc (.cells #[.int .i64 0, .int .i64 0, .int .i64 0, .bool false] 49) = W2 := ⟨_, rfl⟩
  rw [hW2] at h32 h34 HB2
  have HW2 := Lib.hid hW2
  have HR3 := Lib.hid h32
  obtain ⟨q4, hq4⟩ : ∃ q4, w1.heap.size = q4 := ⟨_, rfl⟩
  have HQ4 := Lib.hid hq4
  rw [hq4] at h34
  have f2 := fun j => frozen_of_row W3 w.heap.size j _ _ h32
  have m0 : W3.cell? ⟨w.heap.size, 0, none⟩ = some (.int .i64 0) := cell_of_row W3 _ 0 _ _ _ h32
  have m1 : W3.cell? ⟨w.heap.size, 1, none⟩ = some (.int .i64 0) := cell_of_row W3 _ 1 _ _ _ h32
  have m2 : W3.cell? ⟨w.heap.size, 2, none⟩ = some (.int .i64 0) := cell_of_row W3 _ 2 _ _ _ h32
  have m3 : W3.cell? ⟨w.heap.size, 3, none⟩ = some (.bool false) := cell_of_row W3 _ 3 _ _ _ h32
  have e0 : W3.cell? ⟨q4, 0, none⟩ = some (.int .i64 0) := cell_of_row W3 _ 0 _ _ _ h34
  have e1 : W3.cell? ⟨q4, 1, none⟩ = some (.int .i64 0) := cell_of_row W3 _ 1 _ _ _ h34
  have e2 : W3.cell? ⟨q4, 2, none⟩ = some (.int .i64 0) := cell_of_row W3 _ 2 _ _ _ h34
  have e3 : W3.cell? ⟨q4, 3, none⟩ = some (.bool false) := cell_of_row W3 _ 3 _ _ _ h34
  clear hbW hb1 hb2 hW2 hq4 h32 h34 HT
  dsimp only
  go_upto_region 2 with fail
  rw [HW2.out]
  try simp only [HQ4.out]
  go_wp2
  refine bodyPost_ret (pop_results rfl rfl (set4E 0 0 0 false HR3.out rfl)) rfl ?_
  exact ⟨rfl, ((((HB2.out).setCell (Nat.le_refl _) _).setCell (Nat.le_refl _) _).setCell (Nat.le_refl _) _).setCell (Nat.le_refl _) _⟩
theorem pop_empty {w : World} {lo b : Nat} {g : Option Nat} (h : StackAt w lo b g []) : Calls Tryz.prog 58 #[.pointer (some ⟨b, 0, none⟩)] w (RetV w (.tuple #[entV zeroE, .bool false])) :=
  pop_none fun w' hb => top_stk (h.later hb) (by simp)
end Go.Proofs.YtookicopjphmnaaGreat
namespace Go.Proofs.YtookicopjphmnaaGreat
open Go.RowKit Go.Maps
attribute [local go_sem] Oper.semAt_some

set_option maxRecDepth 100000 in
set_option maxHeartbeats 4000000 in
theorem top_stk0 (w : World) : Calls Tryz.prog 30 #[.pointer none] w (RetV w (.tuple #[entV zeroE, .bool false])) := by
  have hb2 := below_alloc2 (below_new w (.cells #[.int .i64 0, .int .i64 0, .int .i64 0, .bool false] 49)) (.cells #[.bool false] 4)
  have HA := Lib.hid (allK0_any ((w.alloc (.cells #[.int .i64 0, .int .i64 0, .int .i64 0, .bool false] 49)).alloc (.cells #[.bool false] 4)))
  have h2 : ((w.alloc (.cells #[.int .i64 0, .int .i64 0, .int .i64 0, .bool false] 49)).alloc (.cells #[.bool false] 4)).heap[w.heap.size]? = some (.cells #[.int .i64 0, .int .i64 0, .int .i64 0, .bool false] 49 (0, 0)) := (Below.heap_alloc _ _ _ (by simp)).trans (heap_alloc_new w _)
  have h3 : ((w.alloc (.cells #[.int .i64 0, .int .i64 0, .int .i64 0, .bool false] 49)).alloc (.cells #[.bool false] 4)).heap[w.heap.size + 1]? = some (.cells #[.bool false] 4 (0, 0)) := by
    have := heap_alloc_new (w.alloc (.cells #[.int .i64 0, .int .i64 0, .int .i64 0, .bool false] 49)) (.cells #[.bool false] 4)
    rwa [World.size_alloc] at this
  have hsz : ((w.alloc (.cells #[.int .i64 0, .int .i64 0, .int .i64 0, .bool false] 49)).alloc (.cells #[.bool false] 4)).heap.size = w.heap.size + 1 + 1 := by simp
  obtain ⟨W0, hW0⟩ : ∃ W0, (w.alloc (.cells #[.int .i64 0, .int .i64 0, .int .i64 0, .bool false] 49)).alloc (.cells #[.bool false] 4) = W0 := ⟨_, rfl⟩
  rw [hW0] at hb2 HA h2 h3 hsz
  have HW0 := Lib.hid hW0
  have HR2 := Lib.hid (And.intro h2 h3)
  have HSZ := Lib.hid hsz
  have HB2 := Lib.hid hb2
  clear h2 h3 hsz hb2 hW0
  refine (callsIn_wide (n := 9)).1 ?_
  refine callsIn_of_wp_marks Tryz.func30 rfl trivial ?_ rfl
  simp only [Tryz.ntmps30, List.size_toArray, List.length_cons, List.length_nil, Nat.reduceAdd, Nat.reduceSub, Array.replicate_succ, Array.replicate_zero, List.push_toArray, List.append_toArray, List.nil_append, List.cons_append]
  refine wpIn_wide.2 ?_
  go_wp2_with fail
  rw [HW0.out]
  obtain ⟨q2, hq2⟩ : ∃ q2, w.heap.size = q2 := ⟨_, rfl⟩
  have HQ2 := Lib.hid hq2
  try simp only [World.size_alloc]
  rw [hq2] at HR2 HSZ ⊢
  clear hq2
  refine HA.out.mono ?_
  rintro e w1 ⟨rfl, hc, hb1⟩
  have HB1 := Lib.hid hb1
  have HSZ1 := Lib.hid (show q2 + 1 < w1.heap.size by have := HSZ.out; have := hb1.size; omega)
  have HSEQ := Lib.hid (allK0_seq 8 (w := w1) (fun l => KpP (fun k => (k = q2 ∨ k = q2 + 1) ∨ k = l) (fun _ => False)) hc)
  have HR3 := Lib.hid (And.intro ((hb1.block q2 (by have := HSZ.out; omega)).trans HR2.out.1) ((hb1.block (q2 + 1) (by have := HSZ.out; omega)).trans HR2.out.2))
  have HBW := Lib.hid (stepB HB2.out hb1)
  clear hc hb1 HA
  dsimp only
  go_wp2_with fail
  refine (wpIn_wide (n := 9)).1 ?_
  refine range_world3 rfl (by omega) (I := fun pre W' => pre = [] ∧ Below w1.heap.size w1 W') (Ix := fun _ _ _ => False) (gf := 60) (lb := _) rfl trivial (fun _ _ => by kernel_rfl) HSEQ.out KpP.trans (fun W' o o' ho hc _ => KpP.put o' (.inr rfl) ho hc) (fun W W' hb => KpP.of_below _ _ hb) (Below.refl _ _) (fun _ => rfl)
    (fun s A B row hs hg hr => ⟨hs.1, ownFrom_below (β := Unit) (Nat.le_refl _) (Nat.le_refl _) () A B row hs.2 hg hr⟩)
    (fun c s A B row hs hg hr => hs)
    (fun s A B row hs hg hr => hs) (fun s A B row hs hg hr => hs) ⟨rfl, Below.refl _ _⟩ ?round ?done ?stop
  case round =>
    rintro pre x Wr K hI hT hsz hK
    exact hT.elim
  case done =>
    rintro D xs W' hD hS ⟨hpre, hb⟩ hK
    subst hpre
    have hr2 := (hb.block q2 (by have := HSZ1.out; omega)).trans HR3.out.1
    have hr3 := (hb.block (q2 + 1) (by have := HSZ1.out; omega)).trans HR3.out.2
    have f2 := fun j => frozen_of_row W' q2 j _ _ hr2
    have f3 := fun j => frozen_of_row W' (q2 + 1) j _ _ hr3
    have m0 : W'.cell? ⟨q2, 0, none⟩ = some (.int .i64 0) := cell_of_row W' q2 0 _ _ _ hr2
    have m1 : W'.cell? ⟨q2, 1, none⟩ = some (.int .i64 0) := cell_of_row W' q2 1 _ _ _ hr2
    have m2 : W'.cell? ⟨q2, 2, none⟩ = some (.int .i64 0) := cell_of_row W' q2 2 _ _ _ hr2
    have m3 : W'.cell? ⟨q2, 3, none⟩ = some (.bool false) := cell_of_row W' q2 3 _ _ _ hr2
    have n0 : W'.cell? ⟨q2 + 1, 0, none⟩ = some (.bool false) := cell_of_row W' (q2 + 1) 0 _ _ _ hr3
    have HBB := Lib.hid hb
    have HK := Lib.hid hK
    have HD := Lib.hid (show w1.heap.size ≤ D from hD)
    have HRR := Lib.hid (And.intro hr2 hr3)
    clear hS hb hK hD hr2 hr3
    go_wp2
    have hD' : q2 + 1 < D := by have := HD.out; have := HSZ1.out; omega
    have hDK : (((((W'.setCell ⟨q2, 0, none⟩ (.int .i64 0)).setCell ⟨q2, 1, none⟩ (.int .i64 0)).setCell ⟨q2, 2, none⟩ (.int .i64 0)).setCell ⟨q2, 3, none⟩ (.bool false)).setCell ⟨q2 + 1, 0, none⟩ (.bool false)).heap[D]? = some (.deferred (some [])) := by
      rw [heap_setCell_other _ ⟨q2 + 1, 0, none⟩ D _ (by show D ≠ q2 + 1; omega), heap_setCell_other _ ⟨q2, 3, none⟩ D _ (by show D ≠ q2; omega), heap_setCell_other _ ⟨q2, 2, none⟩ D _ (by show D ≠ q2; omega), heap_setCell_other _ ⟨q2, 1, none⟩ D _ (by show D ≠ q2; omega), heap_setCell_other _ ⟨q2, 0, none⟩ D _ (by show D ≠ q2; omega)]
      exact HK.out
    refine ⟨by simp, .inl ⟨_, _, rfl, run_takeDeferred hDK, ?_⟩⟩
    have g2 : (((((W'.setCell ⟨q2, 0, none⟩ (.int .i64 0)).setCell ⟨q2, 1, none⟩ (.int .i64 0)).setCell ⟨q2, 2, none⟩ (.int .i64 0)).setCell ⟨q2, 3, none⟩ (.bool false)).setCell ⟨q2 + 1, 0, none⟩ (.bool false)).heap[q2]? = some (.cells #[.int .i64 0, .int .i64 0, .int .i64 0, .bool false] 49 (0, 0)) := by
      rw [heap_setCell_other _ ⟨q2 + 1, 0, none⟩ q2 _ (by simp)]
      exact set4E 0 0 0 false HRR.out.1 rfl
    have g3 : (((((W'.setCell ⟨q2, 0, none⟩ (.int .i64 0)).setCell ⟨q2, 1, none⟩ (.int .i64 0)).setCell ⟨q2, 2, none⟩ (.int .i64 0)).setCell ⟨q2, 3, none⟩ (.bool false)).setCell ⟨q2 + 1, 0, none⟩ (.bool false)).heap[q2 + 1]? = some (.cells #[.bool false] 4 (0, 0)) := by
      rw [heap_setCell_same _ (q2 + 1) 0 (#[.bool false]) 4 (.bool false) (by
        rw [heap_setCell_other _ ⟨q2, 3, none⟩ (q2 + 1) _ (by simp), heap_setCell_other _ ⟨q2, 2, none⟩ (q2 + 1) _ (by simp), heap_setCell_other _ ⟨q2, 1, none⟩ (q2 + 1) _ (by simp), heap_setCell_other _ ⟨q2, 0, none⟩ (q2 + 1) _ (by simp)]
        exact HRR.out.2)]
      rfl
    have hle : w.heap.size ≤ q2 := Nat.le_of_eq HQ2.out
    refine ⟨_, top_results _ _ _ _ _ _ _ _ ((World.putObj_heap_other (by omega)).trans g2) ((World.putObj_heap_other (by omega)).trans g3), rfl, ?_⟩
    exact below_putD ((((((stepB HBW.out HBB.out).setCell hle _).setCell hle _).setCell hle _).setCell hle _).setCell (Nat.le_succ_of_le hle) _) (by omega) hDK _
  case stop =>
    rintro D c' pre W' hD hS hI hK
    exact hI.elim
theorem pop_stk0 (w : World) : Calls Tryz.prog 58 #[.pointer none] w (RetV w (.tuple #[entV zeroE, .bool false])) :=
  pop_none fun w' _ => top_stk0 w'
end Go.Proofs.YtookicopjphmnaaGreat
