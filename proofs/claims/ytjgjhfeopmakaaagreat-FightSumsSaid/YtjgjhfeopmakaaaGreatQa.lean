/- Rows of hits: who strikes whom, and for how much (layer 17). -/
import Derived.Test.YtjgjhfeopmakaaaGreatHf
import Derived.Lib.SliceRun
namespace Go.Proofs.YtjgjhfeopmakaaaGreat
open Go.RowKit Go.Maps
attribute [local go_sem] Oper.semAt_some

structure HitL where
  x : Int
  y : Int
  z : Int
instance : DecidableEq HitL := fun a b => by
  cases a; cases b
  rw [HitL.mk.injEq]; infer_instance
def HitCells (w : World) (b o : Nat) (t : HitL) : Prop := w.cell? ⟨b, o, none⟩ = some (.int .i64 t.x) ∧ w.cell? ⟨b, o + 1, none⟩ = some (.int .i64 t.y) ∧ w.cell? ⟨b, o + 2, none⟩ = some (.int .i64 t.z)
def HitsAt (w : World) (v : Value) (l : List HitL) : Prop :=
  (∃ xa cap, v = .slice xa 0 cap ∧ l = []) ∨ ∃ b off cap, v = .slice (some ⟨b, off, none⟩) l.length cap ∧ b < w.heap.size ∧ ∀ i (h : i < l.length), HitCells w b (off + i * 3) l[i]
theorem HitCells.later {w w' : World} {b o : Nat} {x : HitL} (h : HitCells w b o x) (hb : Below w.heap.size w w') : HitCells w' b o x := by
  obtain ⟨c0, c1, c2⟩ := h
  exact ⟨cell_stays hb c0, cell_stays hb c1, cell_stays hb c2⟩
theorem HitsAt.later {w w' : World} {v : Value} {l : List HitL} (h : HitsAt w v l) (hb : Below w.heap.size w w') : HitsAt w' v l := by
  rcases h with h | ⟨b, off, cap, rfl, hlt, hc⟩
  · exact .inl h
  · exact .inr ⟨b, off, cap, rfl, Nat.lt_of_lt_of_le hlt hb.size, fun i hi => (hc i hi).later hb⟩
theorem HitsAt.form {w : World} {v : Value} {l : List HitL} (h : HitsAt w v l) : ∃ xa xc, v = .slice xa l.length xc := by
  rcases h with ⟨xa, cap, rfl, rfl⟩ | ⟨b, off, cap, rfl, _⟩
  · exact ⟨xa, cap, rfl⟩
  · exact ⟨_, cap, rfl⟩
theorem HitsAt.at {w : World} {xa : Option Addr} {xc : Nat} {l : List HitL} (h : HitsAt w (.slice xa l.length xc) l) (k : Nat) (hk : k < l.length) : ∃ b off, xa = some ⟨b, off, none⟩ ∧ HitCells w b (off + k * 3) l[k] := by
  rcases h with ⟨_, _, _, h2⟩ | ⟨b, off, cap, h1, _, hc⟩
  · subst h2; simp at hk
  · injection h1 with h1 _ _; exact ⟨b, off, h1, hc k hk⟩

def hcells (x : HitL) : List Value := [.int .i64 x.x, .int .i64 x.y, .int .i64 x.z]
def hitV (x : HitL) : Value := .agg #[.int .i64 x.x, .int .i64 x.y, .int .i64 x.z]
def hitsV (l : List HitL) : List Value := l.flatMap hcells
theorem hitsV_len (l : List HitL) : (hitsV l).length = l.length * 3 := by
  induction l with
  | nil => rfl
  | cons o l ih => simp only [hitsV, List.flatMap_cons, List.length_append, List.length_cons] at ih ⊢; rw [ih]; simp [hcells]; omega
theorem hitsV_append (l r : List HitL) : hitsV (l ++ r) = hitsV l ++ hitsV r := by simp [hitsV]
theorem hitsV_at : ∀ (l : List HitL) (k j : Nat) (h : k < l.length) (_ : j < 3), (hitsV l)[k * 3 + j]? = (hcells l[k])[j]?
  | [], k, j, h, _ => by simp at h
  | o :: l, 0, j, _, hj => by
    simp only [hitsV, List.flatMap_cons, Nat.zero_mul, Nat.zero_add, List.getElem_cons_zero]
    exact List.getElem?_append_left (by simpa [hcells] using hj)
  | o :: l, k + 1, j, h, hj => by
    have e : (hitsV (o :: l))[(k + 1) * 3 + j]? = (hitsV l)[k * 3 + j]? := by
      rw [show (k + 1) * 3 + j = k * 3 + j + 3 by omega]
      simp [hitsV, hcells]
    rw [e, hitsV_at l k j (by simpa using h) hj]
    rfl
theorem own_hit {w : World} {lo : Nat} {v : Value} {l : List HitL} (h : w.ownsRow lo 52 3 v l.length (hitsV l)) (k : Nat) (hk : k < l.length) :
    ∃ g cap, v = .slice (some ⟨g, 0, none⟩) l.length cap ∧ HitCells w g (k * 3) l[k] ∧ (∀ j, w.frozen? ⟨g, j, none⟩ = false) ∧ g < w.heap.size ∧ lo ≤ g := by
  rcases h.2 with ⟨_, h0⟩ | ⟨g, cap, cur, e, hb, hg, hn, hm, hs, ht⟩
  · omega
  · refine ⟨g, cap, e, ?_, fun j => frozen_of_row w g j _ _ hg, (Array.getElem?_eq_some_iff.1 hg).1, hb⟩
    have hc : ∀ j (hj : j < 3), w.cell? ⟨g, k * 3 + j, none⟩ = (hcells l[k])[j]? := fun j hj => by
      rw [← hitsV_at l k j hk hj, cell_of_row w g (k * 3 + j) _ _ (0, 0) hg, ← ht, List.getElem?_take_of_lt (by omega)]
      simp
    exact ⟨hc 0 (by decide), hc 1 (by decide), hc 2 (by decide)⟩
theorem own_hits {w : World} {lo : Nat} {v : Value} {l : List HitL} (h : w.ownsRow lo 52 3 v l.length (hitsV l)) : HitsAt w v l := by
  rcases h.2 with ⟨e, h0⟩ | ⟨g, cap, cur, e, hb, hg, hn, hm, hs, ht⟩
  · exact .inl ⟨none, 0, e, List.eq_nil_of_length_eq_zero h0⟩
  · refine .inr ⟨g, 0, cap, e, (Array.getElem?_eq_some_iff.1 hg).1, fun i hi => ?_⟩
    obtain ⟨g', cap', e', hc, _⟩ := own_hit h i hi
    rw [e] at e'
    injection e' with e1 _ _
    injection e1 with e1
    injection e1 with e1 _ _
    subst e1
    simpa using hc
theorem info_hit : (Tryz.prog.info? 52).map (fun i => (i.zero, i.size, i.bytes)) = some (some (.agg #[.int .i64 0, .int .i64 0, .int .i64 0]), 3, 24) := by kernel_rfl
theorem hcells_one (x : HitL) : ∀ u ∈ hcells x, u.oneCell' = true := by
  intro u hu
  simp only [hcells, List.mem_cons, List.not_mem_nil, or_false] at hu
  rcases hu with rfl | rfl | rfl <;> rfl
theorem step_append_hit {ops : Array Oper} {o : Oper} {a : Act} {w : World} {K : Act → World → Prop} {Q : Exit → Act → World → Prop} {E : Prop} (hgd : o.guard = none) (s x : Operand)
    (hop : o.op = .call { callee := .builtin .append, args := #[s, x], argTypes := #[49, 49] }) (base : Nat) (v : Value) (l : List HitL) (y : HitL) (hs : a.eval s = v) (r : Nat)
    (hown : w.ownsRow base 52 3 v l.length (hitsV l)) (hx : a.eval x = .slice (some ⟨r, 0, none⟩) 1 1) (hr : w.heap[r]? = some (.cells (hcells y).toArray 52 (0, 0))) (h1 : l.length ≤ 1000000) (hbase : base ≤ w.heap.size)
    (hK : ∀ g cap w', w'.ownsRow base 52 3 (.slice (some ⟨g, 0, none⟩) (l.length + 1) cap) (l.length + 1) (hitsV (l ++ [y])) → w.grownBy w' v.ownBlock → (v.ownBlock = some g ∨ g = w.heap.size) → g < w'.heap.size → K (a.put o.dst (.slice (some ⟨g, 0, none⟩) (l.length + 1) cap)) w') :
    if Region.wanted o (yielded ops a.tmps) = true then Oper.wp Tryz.prog o a w K Q else E := by
  obtain ⟨i0, hi0, hz0, hz1, hz2⟩ := info_parts info_hit
  refine step_append_lies w hgd s x 49 hop base 52 i0 _ 3 24 Tryz.underlying49 hi0 hz0 hz1 hz2 rfl (by decide) v l.length (hitsV l) hs hown ⟨r, 0, none⟩ 1 1 (hcells y) hx rfl (World.news_of_block hr) (hcells_one y) (by decide) (by unfold maxLen; omega) (by omega) hbase w.heap.size rfl ?_
  intro g cap w' h2 h3 h4 h5
  refine hK g cap w' ?_ h3 h4 h5
  rw [hitsV_append, show hitsV [y] = hcells y by simp [hitsV]]
  exact h2
theorem wpList_push_hit {ops : Array Oper} {rest : List Oper} {o : Oper} {a : Act} {w : World} {Q : Exit → Act → World → Prop} (hgd : o.guard = none) (s x : Operand)
    (hop : o.op = .call { callee := .builtin .append, args := #[s, x], argTypes := #[49, 49] }) (base : Nat) (v : Value) (l : List HitL) (y : HitL) (hs : a.eval s = v) (r : Nat)
    (hown : w.ownsRow base 52 3 v l.length (hitsV l)) (hx : a.eval x = .slice (some ⟨r, 0, none⟩) 1 1) (hr : w.heap[r]? = some (.cells (hcells y).toArray 52 (0, 0))) (h1 : l.length ≤ 1000000) (hbase : base ≤ w.heap.size)
    (hK : ∀ g cap w', w'.ownsRow base 52 3 (.slice (some ⟨g, 0, none⟩) (l.length + 1) cap) (l.length + 1) (hitsV (l ++ [y])) → w.grownBy w' v.ownBlock → (v.ownBlock = some g ∨ g = w.heap.size) → g < w'.heap.size → wpList Tryz.prog ops Q rest (a.put o.dst (.slice (some ⟨g, 0, none⟩) (l.length + 1) cap)) w') :
    wpList Tryz.prog ops Q (o :: rest) a w := by
  obtain ⟨i0, hi0, hz0, hz1, hz2⟩ := info_parts info_hit
  refine wpList_append_lies w hgd s x 49 hop base 52 i0 _ 3 24 Tryz.underlying49 hi0 hz0 hz1 hz2 rfl (by decide) v l.length (hitsV l) hs hown ⟨r, 0, none⟩ 1 1 (hcells y) hx rfl (World.news_of_block hr) (hcells_one y) (by decide) (by unfold maxLen; omega) (by omega) hbase w.heap.size rfl ?_
  intro g cap w' h2 h3 h4 h5
  refine hK g cap w' ?_ h3 h4 h5
  rw [hitsV_append, show hitsV [y] = hcells y by simp [hitsV]]
  exact h2
theorem own_setHit {w : World} {lo k g cap : Nat} {v : Value} {l : List HitL} (h : w.ownsRow lo 52 3 v l.length (hitsV l)) (hk : k < l.length) (hv : v = .slice (some ⟨g, 0, none⟩) l.length cap) (x : HitL) :
    (w.setCells g (k * 3) (hcells x)).ownsRow lo 52 3 v (l.set k x).length (hitsV (l.set k x)) := by
  have hl := hitsV_len (l.set k x)
  rw [List.length_set] at hl ⊢
  refine ⟨hl, ?_⟩
  rcases h.2 with ⟨e, _⟩ | ⟨g', cap', cur, e, hb, hg, hn, hm, hs, ht⟩
  · rw [hv] at e; cases e
  · rw [hv] at e
    injection e with e1 _ e2
    injection e1 with e1
    injection e1 with e1 _ _
    subst e1 e2
    have tl : (hcells x).length = 3 := rfl
    have hsz : k * 3 + (hcells x).length ≤ cur.size := by rw [tl, hs]; omega
    refine .inr ⟨g, cap, _, hv, hb, heap_setCells_same _ _ hg hsz, hn, hm, ?_, ?_⟩
    · rw [List.size_toArray, length_splice _ _ _ (by simpa using hsz)]; simpa using hs
    · have hcur : cur.toList = hitsV (l.take k) ++ hcells l[k] ++ (hitsV (l.drop (k + 1)) ++ cur.toList.drop (l.length * 3)) := by
        have e1 : hitsV l = hitsV (l.take k) ++ hcells l[k] ++ hitsV (l.drop (k + 1)) := by
          conv => lhs; rw [← List.take_append_drop k l, hitsV_append, List.drop_eq_getElem_cons hk]
          simp only [hitsV, List.flatMap_cons, List.append_assoc]
        have e2 := (List.take_append_drop (l.length * 3) cur.toList).symm
        rw [ht, e1, List.append_assoc] at e2
        exact e2
      have hlen : k * 3 = (hitsV (l.take k)).length := by rw [hitsV_len, List.length_take]; congr 1; omega
      have hL : l.set k x = l.take k ++ x :: l.drop (k + 1) := List.set_eq_take_append_cons_drop.trans (if_pos hk)
      rw [List.toList_toArray, hcur, hlen, splice_mid _ _ _ (hcells x) (show (hcells l[k]).length = (hcells x).length from rfl), ← List.append_assoc]
      have : hitsV (l.set k x) = hitsV (l.take k) ++ hcells x ++ hitsV (l.drop (k + 1)) := by rw [hL, hitsV_append]; simp [hitsV]
      rw [← this]
      exact List.take_left' (by rw [hl])
theorem setCells_hit (w : World) (g o : Nat) (x : HitL) : w.setCells g o (hcells x) = ((w.setCell ⟨g, o, none⟩ (.int .i64 x.x)).setCell ⟨g, o + 1, none⟩ (.int .i64 x.y)).setCell ⟨g, o + 2, none⟩ (.int .i64 x.z) := rfl

theorem clearH (w : World) (g o n c : Nat) (hn : 0 < n) (hc : ∀ j, j < n * 3 → (w.cell? ⟨g, o + j, none⟩).isSome = true) (hf : ∀ j, j < n * 3 → w.frozen? ⟨g, o + j, none⟩ = false) :
    ∃ zs : List Value, zs.length = n * 3 ∧ ∀ ty, (Builtin.clear_ #[49] ty #[.slice (some ⟨g, o, none⟩) n c]).run Tryz.prog w = .ok (.tuple #[]) (w.setCells g o zs) := by
  have hz : ∀ w', (zeroValue 52).run Tryz.prog w' = .ok (.agg #[.int .i64 0, .int .i64 0, .int .i64 0]) w' := Tryz.zeroValue52
  obtain ⟨Z, hZ⟩ : ∃ Z, Builtin.zeroCells (Value.agg #[.int .i64 0, .int .i64 0, .int .i64 0]).cells n = Z := ⟨_, rfl⟩
  have hlen : Z.toList.length = n * 3 := by rw [← hZ]; simp [Builtin.zeroCells, Value.cells]
  have h1 : ∀ v ∈ Z.toList, v.oneCell' = true := by
    intro v hv
    rw [← hZ] at hv
    simp only [Builtin.zeroCells, Value.cells, Array.toList_map, List.mem_map] at hv
    obtain ⟨i, _, rfl⟩ := hv
    have : i % 3 = 0 ∨ i % 3 = 1 ∨ i % 3 = 2 := by omega
    rcases this with e | e | e <;> simp [e] <;> rfl
  refine ⟨Z.toList, hlen, fun ty => ?_⟩
  have hst := run_storeCells_cells (P := Tryz.prog) g o Z.toList 0 w (by rw [hlen]; simpa using hc) (by rw [hlen]; simpa using hf) h1
  simp only [Nat.add_zero] at hst
  obtain ⟨m, rfl⟩ : ∃ m, n = m + 1 := ⟨n - 1, by omega⟩
  simp [Builtin.clear_, run_underlying Tryz.underlying49, hz, hZ, hst]
theorem hcells_all (l : List HitL) : ∀ u ∈ hitsV l, u.oneCell' = true := by
  intro u hu
  unfold hitsV at hu
  obtain ⟨x, _, hx⟩ := List.mem_flatMap.1 hu
  exact hcells_one x u hx
theorem hits_news {w : World} {b off cap : Nat} {l : List HitL} (h : HitsAt w (.slice (some ⟨b, off, none⟩) l.length cap) l) (_hl : 0 < l.length) : ∀ j u, (hitsV l)[j]? = some u → w.cell? ((⟨b, off, none⟩ : Addr).add j) = some u := by
  intro j u hu
  have hj : j < (hitsV l).length := (List.getElem?_eq_some_iff.1 hu).1
  rw [hitsV_len] at hj
  have hk : j / 3 < l.length := by omega
  obtain ⟨b', off', e, c0, c1, c2⟩ := h.at (j / 3) hk
  injection e with e
  injection e with e1 e2 _
  subst e1 e2
  have hr := hitsV_at l (j / 3) (j % 3) hk (by omega)
  rw [show j / 3 * 3 + j % 3 = j by omega] at hr
  rw [hr] at hu
  rw [show ((⟨b, off, none⟩ : Addr).add j) = ⟨b, off + j, none⟩ by simp [Addr.add]]
  rcases (show j % 3 = 0 ∨ j % 3 = 1 ∨ j % 3 = 2 by omega) with hm | hm | hm
  · rw [show off + j = off + j / 3 * 3 by omega, c0]; rw [hm] at hu; simpa [hcells] using hu
  · rw [show off + j = off + j / 3 * 3 + 1 by omega, c1]; rw [hm] at hu; simpa [hcells] using hu
  · rw [show off + j = off + j / 3 * 3 + 2 by omega, c2]; rw [hm] at hu; simpa [hcells] using hu
theorem step_append_hits {ops : Array Oper} {o : Oper} {a : Act} {w : World} {K : Act → World → Prop} {Q : Exit → Act → World → Prop} {E : Prop} (hgd : o.guard = none) (s x : Operand)
    (hop : o.op = .call { callee := .builtin .append, args := #[s, x], argTypes := #[49, 49] }) (base : Nat) (v : Value) (l m : List HitL) (hs : a.eval s = v) (u : Value)
    (hown : w.ownsRow base 52 3 v l.length (hitsV l)) (hx : a.eval x = u) (hu : HitsAt w u m) (hm : 0 < m.length) (h1 : l.length + m.length ≤ 1000000) (hbase : base ≤ w.heap.size)
    (hK : ∀ g cap w', w'.ownsRow base 52 3 (.slice (some ⟨g, 0, none⟩) (l.length + m.length) cap) (l.length + m.length) (hitsV (l ++ m)) → w.grownBy w' v.ownBlock → (v.ownBlock = some g ∨ g = w.heap.size) → g < w'.heap.size → K (a.put o.dst (.slice (some ⟨g, 0, none⟩) (l.length + m.length) cap)) w') :
    if Region.wanted o (yielded ops a.tmps) = true then Oper.wp Tryz.prog o a w K Q else E := by
  obtain ⟨i0, hi0, hz0, hz1, hz2⟩ := info_parts info_hit
  obtain ⟨b, off, cap, rfl⟩ : ∃ b off cap, u = .slice (some ⟨b, off, none⟩) m.length cap := by
    rcases hu with ⟨_, _, _, rfl⟩ | ⟨b, off, cap, rfl, _⟩
    · simp at hm
    · exact ⟨b, off, cap, rfl⟩
  refine step_append_lies w hgd s x 49 hop base 52 i0 _ 3 24 Tryz.underlying49 hi0 hz0 hz1 hz2 rfl (by decide) v l.length (hitsV l) hs hown ⟨b, off, none⟩ m.length cap (hitsV m) hx (hitsV_len m) (hits_news hu hm) (hcells_all m) hm (by unfold maxLen; omega) (by omega) hbase w.heap.size rfl ?_
  intro g cap w' h2 h3 h4 h5
  refine hK g cap w' ?_ h3 h4 h5
  rw [hitsV_append]
  exact h2
end Go.Proofs.YtjgjhfeopmakaaaGreat
