/- Entries in memory (layer 12): rows of them; slices.Clone, slices.Equal of them. -/
import Derived.Test.YtgjojjhppgjkkaaGreatJx
namespace Go.Proofs.YtgjojjhppgjkkaaGreat
open Go.RowKit Go.Maps

structure EntL where
  seat : Int
  obj : Int
  pos : Int
  trig : Bool
def zeroE : EntL := ⟨0, 0, 0, false⟩
def ecells (x : EntL) : List Value := [.int .i64 x.seat, .int .i64 x.obj, .int .i64 x.pos, .bool x.trig]
def entV (x : EntL) : Value := .agg #[.int .i64 x.seat, .int .i64 x.obj, .int .i64 x.pos, .bool x.trig]
def entsV (l : List EntL) : List Value := l.flatMap ecells
theorem entsV_len (l : List EntL) : (entsV l).length = l.length * 4 := by
  induction l with
  | nil => rfl
  | cons o l ih => simp only [entsV, List.flatMap_cons, List.length_append, List.length_cons] at ih ⊢; rw [ih]; simp [ecells]; omega
theorem entsV_append (l r : List EntL) : entsV (l ++ r) = entsV l ++ entsV r := by simp [entsV]
theorem entsV_at : ∀ (l : List EntL) (k j : Nat) (h : k < l.length) (_ : j < 4), (entsV l)[k * 4 + j]? = (ecells l[k])[j]?
  | [], k, j, h, _ => by simp at h
  | o :: l, 0, j, _, hj => by
    simp only [entsV, List.flatMap_cons, Nat.zero_mul, Nat.zero_add, List.getElem_cons_zero]
    exact List.getElem?_append_left (by simpa [ecells] using hj)
  | o :: l, k + 1, j, h, hj => by
    have e : (entsV (o :: l))[(k + 1) * 4 + j]? = (entsV l)[k * 4 + j]? := by
      rw [show (k + 1) * 4 + j = k * 4 + j + 4 by omega]
      simp [entsV, ecells]
    rw [e, entsV_at l k j (by simpa using h) hj]
    rfl
def EntCells (w : World) (b o : Nat) (x : EntL) : Prop :=
  w.cell? ⟨b, o, none⟩ = some (.int .i64 x.seat) ∧ w.cell? ⟨b, o + 1, none⟩ = some (.int .i64 x.obj) ∧ w.cell? ⟨b, o + 2, none⟩ = some (.int .i64 x.pos) ∧ w.cell? ⟨b, o + 3, none⟩ = some (.bool x.trig)
theorem EntCells.later {w w' : World} {b o : Nat} {x : EntL} (h : EntCells w b o x) (hb : Below w.heap.size w w') : EntCells w' b o x := by
  obtain ⟨c0, c1, c2, c3⟩ := h
  exact ⟨cell_stays hb c0, cell_stays hb c1, cell_stays hb c2, cell_stays hb c3⟩
def EntsAt (w : World) (v : Value) (l : List EntL) : Prop :=
  (∃ xa cap, v = .slice xa 0 cap ∧ l = []) ∨ ∃ b off cap, v = .slice (some ⟨b, off, none⟩) l.length cap ∧ b < w.heap.size ∧ ∀ i (h : i < l.length), EntCells w b (off + i * 4) l[i]
theorem EntsAt.later {w w' : World} {v : Value} {l : List EntL} (h : EntsAt w v l) (hb : Below w.heap.size w w') : EntsAt w' v l := by
  rcases h with h | ⟨b, off, cap, rfl, hlt, hc⟩
  · exact .inl h
  · exact .inr ⟨b, off, cap, rfl, Nat.lt_of_lt_of_le hlt hb.size, fun i hi => (hc i hi).later hb⟩
theorem EntsAt.form {w : World} {v : Value} {l : List EntL} (h : EntsAt w v l) : ∃ xa xc, v = .slice xa l.length xc := by
  rcases h with ⟨xa, cap, rfl, rfl⟩ | ⟨b, off, cap, rfl, _⟩
  · exact ⟨xa, cap, rfl⟩
  · exact ⟨_, cap, rfl⟩
theorem EntsAt.at {w : World} {xa : Option Addr} {xc : Nat} {l : List EntL} (h : EntsAt w (.slice xa l.length xc) l) (k : Nat) (hk : k < l.length) : ∃ b off, xa = some ⟨b, off, none⟩ ∧ b < w.heap.size ∧ EntCells w b (off + k * 4) l[k] := by
  rcases h with ⟨_, _, _, h2⟩ | ⟨b, off, cap, h1, hlt, hc⟩
  · subst h2; simp at hk
  · injection h1 with h1 _ _; exact ⟨b, off, h1, hlt, hc k hk⟩
theorem own_ent {w : World} {lo : Nat} {v : Value} {l : List EntL} (h : w.ownsRow lo 59 4 v l.length (entsV l)) (k : Nat) (hk : k < l.length) :
    ∃ g cap, v = .slice (some ⟨g, 0, none⟩) l.length cap ∧ EntCells w g (k * 4) l[k] ∧ (∀ j, w.frozen? ⟨g, j, none⟩ = false) := by
  rcases h.2 with ⟨_, h0⟩ | ⟨g, cap, cur, e, hb, hg, hn, hm, hs, ht⟩
  · omega
  · refine ⟨g, cap, e, ?_, fun j => frozen_of_row w g j _ _ hg⟩
    have hc : ∀ j (hj : j < 4), w.cell? ⟨g, k * 4 + j, none⟩ = (ecells l[k])[j]? := fun j hj => by
      rw [← entsV_at l k j hk hj, cell_of_row w g (k * 4 + j) _ _ (0, 0) hg, ← ht, List.getElem?_take_of_lt (by omega)]
      simp
    exact ⟨hc 0 (by decide), hc 1 (by decide), hc 2 (by decide), hc 3 (by decide)⟩
theorem own_ents {w : World} {lo : Nat} {v : Value} {l : List EntL} (h : w.ownsRow lo 59 4 v l.length (entsV l)) : EntsAt w v l := by
  rcases h.2 with ⟨e, h0⟩ | ⟨g, cap, cur, e, hb, hg, hn, hm, hs, ht⟩
  · exact .inl ⟨none, 0, e, List.eq_nil_of_length_eq_zero h0⟩
  · refine .inr ⟨g, 0, cap, e, (Array.getElem?_eq_some_iff.1 hg).1, fun i hi => ?_⟩
    obtain ⟨g', cap', e', hc, _⟩ := own_ent h i hi
    rw [e] at e'
    injection e' with e1 _ _
    injection e1 with e1
    injection e1 with e1 _ _
    subst e1
    simpa using hc
theorem own_lastE {w : World} {lo n : Nat} {xa : Option Addr} {xc : Nat} {l : List EntL} {x : EntL} (h : w.ownsRow lo 59 4 (.slice xa (l.length + 1) xc) n (entsV (l ++ [x]))) : w.ownsRow lo 59 4 (.slice xa l.length xc) l.length (entsV l) := by
  rcases h.2 with ⟨e, _⟩ | ⟨g, cap, cur, e, hb, hg, hn, hm, hs, ht⟩
  · cases e
  · injection e with e1 e2 e3
    subst e1 e2 e3
    refine ⟨by rw [entsV_len], .inr ⟨g, _, cur, rfl, hb, hg, by omega, hm, hs, ?_⟩⟩
    have h2 := congrArg (List.take (l.length * 4)) ht
    rw [List.take_take, entsV_append, List.take_append_of_le_length (by rw [entsV_len]; omega), show min (l.length * 4) ((l.length + 1) * 4) = l.length * 4 by omega] at h2
    rw [h2, ← entsV_len, List.take_length]
theorem info_ent : (Tryz.prog.info? 59).map (fun i => (i.zero, i.size, i.bytes)) = some (some (.agg #[.int .i64 0, .int .i64 0, .int .i64 0, .bool false]), 4, 32) := by kernel_rfl
theorem ecells_one (x : EntL) : ∀ u ∈ ecells x, u.oneCell' = true := by
  intro u hu
  simp only [ecells, List.mem_cons, List.not_mem_nil, or_false] at hu
  rcases hu with rfl | rfl | rfl | rfl <;> rfl
theorem step_append_ent {ops : Array Oper} {o : Oper} {a : Act} {w : World} {K : Act → World → Prop} {Q : Exit → Act → World → Prop} {E : Prop} (hgd : o.guard = none) (s x : Operand)
    (hop : o.op = .call { callee := .builtin .append, args := #[s, x], argTypes := #[57, 57] }) (base : Nat) (v : Value) (l : List EntL) (y : EntL) (hs : a.eval s = v) (r : Nat)
    (hown : w.ownsRow base 59 4 v l.length (entsV l)) (hx : a.eval x = .slice (some ⟨r, 0, none⟩) 1 1) (hr : w.heap[r]? = some (.cells (ecells y).toArray 59 (0, 0))) (h1 : l.length ≤ 1000) (hbase : base ≤ w.heap.size)
    (hK : ∀ g cap w', w'.ownsRow base 59 4 (.slice (some ⟨g, 0, none⟩) (l.length + 1) cap) (l.length + 1) (entsV (l ++ [y])) → w.grownBy w' v.ownBlock → (v.ownBlock = some g ∨ g = w.heap.size) → g < w'.heap.size → K (a.put o.dst (.slice (some ⟨g, 0, none⟩) (l.length + 1) cap)) w') :
    if Region.wanted o (yielded ops a.tmps) = true then Oper.wp Tryz.prog o a w K Q else E := by
  obtain ⟨i0, hi0, hz0, hz1, hz2⟩ := info_parts info_ent
  refine step_append_lies w hgd s x 57 hop base 59 i0 _ 4 32 Tryz.underlying57 hi0 hz0 hz1 hz2 rfl (by decide) v l.length (entsV l) hs hown ⟨r, 0, none⟩ 1 1 (ecells y) hx rfl (World.news_of_block hr) (ecells_one y) (by decide) (by unfold maxLen; omega) (by omega) hbase w.heap.size rfl ?_
  intro g cap w' h2 h3 h4 h5
  refine hK g cap w' ?_ h3 h4 h5
  rw [entsV_append, show entsV [y] = ecells y by simp [entsV]]
  exact h2
theorem wpList_push_ent {ops : Array Oper} {rest : List Oper} {o : Oper} {a : Act} {w : World} {Q : Exit → Act → World → Prop} (hgd : o.guard = none) (s x : Operand)
    (hop : o.op = .call { callee := .builtin .append, args := #[s, x], argTypes := #[57, 57] }) (base : Nat) (v : Value) (l : List EntL) (y : EntL) (hs : a.eval s = v) (r : Nat)
    (hown : w.ownsRow base 59 4 v l.length (entsV l)) (hx : a.eval x = .slice (some ⟨r, 0, none⟩) 1 1) (hr : w.heap[r]? = some (.cells (ecells y).toArray 59 (0, 0))) (h1 : l.length ≤ 1000) (hbase : base ≤ w.heap.size)
    (hK : ∀ g cap w', w'.ownsRow base 59 4 (.slice (some ⟨g, 0, none⟩) (l.length + 1) cap) (l.length + 1) (entsV (l ++ [y])) → w.grownBy w' v.ownBlock → (v.ownBlock = some g ∨ g = w.heap.size) → g < w'.heap.size → wpList Tryz.prog ops Q rest (a.put o.dst (.slice (some ⟨g, 0, none⟩) (l.length + 1) cap)) w') :
    wpList Tryz.prog ops Q (o :: rest) a w := by
  obtain ⟨i0, hi0, hz0, hz1, hz2⟩ := info_parts info_ent
  refine wpList_append_lies w hgd s x 57 hop base 59 i0 _ 4 32 Tryz.underlying57 hi0 hz0 hz1 hz2 rfl (by decide) v l.length (entsV l) hs hown ⟨r, 0, none⟩ 1 1 (ecells y) hx rfl (World.news_of_block hr) (ecells_one y) (by decide) (by unfold maxLen; omega) (by omega) hbase w.heap.size rfl ?_
  intro g cap w' h2 h3 h4 h5
  refine hK g cap w' ?_ h3 h4 h5
  rw [entsV_append, show entsV [y] = ecells y by simp [entsV]]
  exact h2
set_option maxHeartbeats 4000000 in
theorem eqEnt (n : Nat) (a0 c0 a1 c1 a2 c2 : Int) (a3 c3 : Bool) (w : World) : (Op.equalIn (n + 2) 59 (.agg #[.int .i64 a0, .int .i64 a1, .int .i64 a2, .bool a3]) (.agg #[.int .i64 c0, .int .i64 c1, .int .i64 c2, .bool c3])).run Tryz.prog w = .ok (a0 == c0 && (a1 == c1 && (a2 == c2 && (a3 == c3)))) w := by
  have uI := Tryz.underlying3
  have gI := Tryz.isAgg3
  have zI := Tryz.sizeOf3
  have uB := Tryz.underlying4
  have gB := Tryz.isAgg4
  have zB := Tryz.sizeOf4
  have hS : Tryz.prog.underlying 59 = some (.struct (Tryz.prog.fieldsOf 59)) := by kernel_rfl
  rw [run_equalIn_agg w (n + 1) 59 _ _ hS (by kernel_rfl)]
  simp only [Program.fieldsOf, Tryz.underlying59]
  go_simp
  by_cases h0 : a0 = c0
  · subst h0
    by_cases h1 : a1 = c1
    · subst h1
      by_cases h2 : a2 = c2
      · subst h2
        by_cases h3 : a3 = c3
        · subst h3
          simp
        · simp [h3]
      · simp [h2]
    · simp [h1]
  · simp [h0]
theorem neqEnt (a0 c0 a1 c1 a2 c2 : Int) (a3 c3 : Bool) (w : World) : (binOp .neq 59 (.agg #[.int .i64 a0, .int .i64 a1, .int .i64 a2, .bool a3]) (.agg #[.int .i64 c0, .int .i64 c1, .int .i64 c2, .bool c3])).run Tryz.prog w = .ok (.bool (!(a0 == c0 && (a1 == c1 && (a2 == c2 && (a3 == c3)))))) w := by
  rw [run_neq_struct, eqEnt 9998]
  rfl
theorem neqgE (x y : Operand) (xs ys : Array Value) (W : World) : (eqGuard .neq 59 x y (.agg xs) (.agg ys)).run Tryz.prog W = .ok () W := run_eqGuard_agg W .neq 59 x y xs ys (by kernel_rfl)
def eqE (x y : EntL) : Bool := x.seat == y.seat && (x.obj == y.obj && (x.pos == y.pos && (x.trig == y.trig)))
theorem eqE_iff (x y : EntL) : eqE x y = true ↔ x = y := by
  unfold eqE
  obtain ⟨x0, x1, x2, x3⟩ := x
  obtain ⟨y0, y1, y2, y3⟩ := y
  simp only [Bool.and_eq_true, beq_iff_eq, EntL.mk.injEq]
instance : DecidableEq EntL := fun x y => decidable_of_iff (eqE x y = true) (eqE_iff x y)
def RetEnts (w : World) (l : List EntL) (e : Ending) (w' : World) : Prop := ∃ v, e = .returned v ∧ w'.ownsRow w.heap.size 59 4 v l.length (entsV l) ∧ Below w.heap.size w w'
theorem append_zeroE (g : Nat) (xa : Option Addr) (xc : Nat) (w : World) : (Builtin.append_ #[57, 57] 57 #[.slice (some ⟨g, 0, none⟩) 0 0, .slice xa 0 xc]).run Tryz.prog w = .ok (.slice (some ⟨g, 0, none⟩) 0 0) w := by
  obtain ⟨i0, hi0, hz0, hz1, hz2⟩ := info_parts info_ent
  cases xa <;> simp [Builtin.append_, run_underlying Tryz.underlying57, sizeOf, typeInfo, hi0, Builtin.lenOf, Builtin.firstCells, loadCells, loadCellsFrom, storeCells]
theorem nil_ent (W : World) : (binOp .eql 57 (.slice none 0 0) (.slice none 0 0)).run Tryz.prog W = .ok (.bool true) W := by kernel_rfl
theorem some_ent (a : Addr) (n c : Nat) (W : World) : (binOp .eql 57 (.slice (some a) n c) (.slice none 0 0)).run Tryz.prog W = .ok (.bool false) W := by kernel_rfl
theorem entsV_one (l : List EntL) : ∀ u ∈ entsV l, u.oneCell' = true := by
  intro u hu
  simp only [entsV, List.mem_flatMap] at hu
  obtain ⟨o, _, hu⟩ := hu
  exact ecells_one o u hu
set_option maxRecDepth 100000 in
set_option maxHeartbeats 2000000 in
theorem clone_ents {w : World} {lo : Nat} {v : Value} {l : List EntL} (h : w.ownsRow lo 59 4 v l.length (entsV l)) (hl : l.length ≤ 1000) :
    Calls Tryz.prog 56 #[v] w (RetEnts w l) := by
  obtain ⟨i0, hi0, hz0, hz1, hz2⟩ := info_parts info_ent
  rcases h.2 with ⟨rfl, h0⟩ | ⟨g, cap, cur, rfl, hb, hg, hn, hm, hs, ht⟩
  · obtain rfl := List.eq_nil_of_length_eq_zero h0
    clear h
    have hq := nil_ent
    go_enter Tryz.func56, Tryz.ntmps56
    go_wp2
    go_ret
    exact ⟨_, rfl, World.ownsRow_nil _ _ _ _, Below.refl _ _⟩
  · by_cases h0 : l.length = 0
    · obtain rfl := List.eq_nil_of_length_eq_zero h0
      have ha := append_zeroE w.heap.size (some ⟨g, 0, none⟩) cap
      clear h hb hg hn hm hs ht
      have hq := some_ent
      go_enter Tryz.func56, Tryz.ntmps56
      go_wp2_with (at_builtin; refine Crd.wpList_append_run rfl _ _ rfl rfl rfl (ha _) ?_)
      go_ret
      exact ⟨_, rfl, ⟨rfl, .inr ⟨w.heap.size, 0, #[], rfl, Nat.le_refl _, heap_alloc_new w _, Nat.le_refl _, Nat.zero_le _, rfl, rfl⟩⟩, below_new w _⟩
    · have HNW : Hid (∀ j u, (entsV l)[j]? = some u → (w.alloc (.cells #[] 59)).cell? ((⟨g, 0, none⟩ : Addr).add j) = some u) := Lib.hid fun j u hu => by
        have hj : j < l.length * 4 := by
          have := (List.getElem?_eq_some_iff.1 hu).1
          rwa [entsV_len] at this
        rw [show (⟨g, 0, none⟩ : Addr).add j = ⟨g, j, none⟩ by simp [Addr.add]; omega]
        refine cell_stays (below_new w _) ?_
        rw [cell_of_row w g j _ _ (0, 0) hg, ← hu, ← ht, List.getElem?_take_of_lt hj, Array.getElem?_toList]
      have HTL := Lib.hid (entsV_len l)
      have hpos : 0 < l.length := by omega
      have HW0 := Lib.hid (show (w.alloc (.cells #[] 59)).ownsRow w.heap.size 59 4 (.slice (some ⟨w.heap.size, 0, none⟩) 0 0) 0 [] from ⟨rfl, .inr ⟨w.heap.size, 0, #[], rfl, Nat.le_refl _, heap_alloc_new w _, Nat.le_refl _, Nat.zero_le _, rfl, rfl⟩⟩)
      clear h hb hg hn hm hs ht h0
      have hq := some_ent
      go_enter Tryz.func56, Tryz.ntmps56
      go_wp2_with (at_builtin; refine wpList_append_lies _ rfl _ _ 57 rfl w.heap.size 59 i0 _ 4 32 Tryz.underlying57 hi0 hz0 hz1 hz2 rfl (by decide) (.slice (some ⟨w.heap.size, 0, none⟩) 0 0) 0 [] rfl HW0.out ⟨g, 0, none⟩ l.length cap (entsV l) rfl HTL.out HNW.out (entsV_one _) hpos (by unfold maxLen; omega) (by omega) (by simp) _ rfl ?_)
      intro g' cap' w6 hown hgrow hat hlt6
      have HO := Lib.hid hown
      have HB := Lib.hid (show Below w.heap.size w w6 from (below_new w _).grown hgrow (by simp) (fun c e => by have e1 : w.heap.size = c := Option.some.inj e; omega))
      clear hown hgrow hat hlt6 hi0 hz0 hz1 hz2
      go_wp2
      go_ret
      exact ⟨_, rfl, HO.out, HB.out⟩
set_option maxRecDepth 100000 in
set_option maxHeartbeats 4000000 in
theorem equal_ents {lo lo' : Nat} {v u : Value} {l r : List EntL} {w : World} (hl : w.ownsRow lo 59 4 v l.length (entsV l)) (hr : w.ownsRow lo' 59 4 u r.length (entsV r)) (hn : l.length ≤ 1000) :
    Calls Tryz.prog 55 #[v, u] w fun e w' => e = .returned (.bool (decide (l = r))) ∧ ∃ n, w' = w.drewN n := by
  obtain ⟨xa, xc, rfl⟩ := own_form hl
  obtain ⟨ya, yc, rfl⟩ := own_form hr
  have HL := Lib.hid hl
  have HR := Lib.hid hr
  clear hl hr
  by_cases hne : l.length ≠ r.length
  · have d : ((l.length : Int) != r.length) = true := bne_iff_ne.2 (by omega)
    have HS := Lib.hid (show decide (l = r) = false from decide_eq_false (fun e => hne (by rw [e])))
    clear hne
    go_enter Tryz.func55, Tryz.ntmps55
    go_wp2
    go_ret
    exact ⟨ret_bool HS.out.symm, 0, rfl⟩
  have heq : l.length = r.length := Classical.not_not.1 hne
  have d : ((l.length : Int) != r.length) = false := by rw [heq]; exact bne_self_eq_false _
  have HQ := Lib.hid heq
  clear hne heq
  have h2 := @neqgE
  go_enter Tryz.func55, Tryz.ntmps55
  go_wp2
  go_loopw [13] (fun i wr => ∃ k n : Nat, k ≤ l.length ∧ i = .int .i64 k ∧ wr = w.drewN n ∧ Hid (l.take k = r.take k)) (fun i _ => l.length - (intOf i).toNat)
  case atStart => exact ⟨0, 0, Nat.zero_le _, rfl, rfl, Lib.hid rfl⟩
  case round =>
    obtain ⟨k, n, hk, rfl, rfl, HK⟩ := hrel
    by_cases hlt : k < l.length
    · have hlt2 : k < r.length := by have := HQ.out; omega
      obtain ⟨g, cap, hgv, ⟨o0, o1, o2, o3⟩, _⟩ := own_ent HL.out k hlt
      obtain ⟨g', cap', hgv', ⟨p0, p1, p2, p3⟩, _⟩ := own_ent HR.out k hlt2
      injection hgv with hxa _ hxc
      injection hgv' with hya _ hyc
      subst hxa hxc hya hyc
      have HT1 := Lib.hid (take_last l k hlt)
      have HT2 := Lib.hid (take_last r k hlt2)
      have HIX := Lib.hid (show l = r → l[k] = r[k] from fun e => by subst e; rfl)
      obtain ⟨x, hx⟩ : ∃ x, l[k] = x := ⟨_, rfl⟩
      obtain ⟨y, hy⟩ : ∃ y, r[k] = y := ⟨_, rfl⟩
      rw [hx] at o0 o1 o2 o3 HT1 HIX
      rw [hy] at p0 p1 p2 p3 HT2 HIX
      obtain ⟨E, hE⟩ : ∃ E, eqE x y = E := ⟨_, rfl⟩
      have h3 := fun W => neqEnt x.seat y.seat x.obj y.obj x.pos y.pos x.trig y.trig W
      have hE' := hE
      unfold eqE at hE'
      rw [hE'] at h3
      have d0 : (0 : Int) ≤ k := by omega
      have d1 : (k : Int) < l.length := by omega
      have d2 : (k : Int) < r.length := by omega
      clear hE' hx hy
      cases E
      · have HS := Lib.hid (show decide (l = r) = false from decide_eq_false (fun e => by
          have h4 := HIX.out e
          rw [(eqE_iff x y).2 h4] at hE
          cases hE))
        clear hE
        go_wp2
        go_quiet (fail)
        go_wp2
        go_ret
        exact ⟨ret_bool HS.out.symm, _, World.drewN_drewN _ _ _⟩
      · have HT : Hid (l.take (k + 1) = r.take (k + 1)) := Lib.hid (by
          rw [HT1.out, HT2.out, HK.out, (eqE_iff x y).1 hE])
        clear hE
        go_wp2
        go_quiet (fail)
        go_wp2
        go_roundw
        case rel => exact ⟨k + 1, _, by omega, by go_num, rfl, HT⟩
        case measure => simp [intOf]; omega
    · obtain rfl : k = l.length := by omega
      have HS := Lib.hid (show decide (l = r) = true from decide_eq_true (by
        have h1 := HK.out
        rw [List.take_length, HQ.out, List.take_length] at h1
        exact h1))
      go_wp2
      go_ret
      exact ⟨ret_bool HS.out.symm, _, rfl⟩
end Go.Proofs.YtgjojjhppgjkkaaGreat
