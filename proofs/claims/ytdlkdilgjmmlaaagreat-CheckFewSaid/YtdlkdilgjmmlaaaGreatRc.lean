/- Rows of triples: appended to, set, sorted; slices.Compare, and what Order sorts by (layer 13). -/
import Derived.Test.YtdlkdilgjmmlaaaGreatRa
import Derived.Test.YtdlkdilgjmmlaaaGreatSo
import Derived.Test.YtdlkdilgjmmlaaaGreatHf
import Derived.Lib.SlicesCompact
import Derived.Lib.SliceRun
namespace Go.Proofs.YtdlkdilgjmmlaaaGreat
open Go.RowKit Go.Maps

def tcells (x : TriL) : List Value := [.int .i64 x.x, .int .i64 x.y, .int .i64 x.z]
def trisV (l : List TriL) : List Value := l.flatMap tcells
theorem trisV_len (l : List TriL) : (trisV l).length = l.length * 3 := by
  induction l with
  | nil => rfl
  | cons o l ih => simp only [trisV, List.flatMap_cons, List.length_append, List.length_cons] at ih ⊢; rw [ih]; simp [tcells]; omega
theorem trisV_append (l r : List TriL) : trisV (l ++ r) = trisV l ++ trisV r := by simp [trisV]
theorem trisV_at : ∀ (l : List TriL) (k j : Nat) (h : k < l.length) (_ : j < 3), (trisV l)[k * 3 + j]? = (tcells l[k])[j]?
  | [], k, j, h, _ => by simp at h
  | o :: l, 0, j, _, hj => by
    simp only [trisV, List.flatMap_cons, Nat.zero_mul, Nat.zero_add, List.getElem_cons_zero]
    exact List.getElem?_append_left (by simpa [tcells] using hj)
  | o :: l, k + 1, j, h, hj => by
    have e : (trisV (o :: l))[(k + 1) * 3 + j]? = (trisV l)[k * 3 + j]? := by
      rw [show (k + 1) * 3 + j = k * 3 + j + 3 by omega]
      simp [trisV, tcells]
    rw [e, trisV_at l k j (by simpa using h) hj]
    rfl
theorem own_tri {w : World} {lo : Nat} {v : Value} {l : List TriL} (h : w.ownsRow lo 64 3 v l.length (trisV l)) (k : Nat) (hk : k < l.length) :
    ∃ g cap, v = .slice (some ⟨g, 0, none⟩) l.length cap ∧ TriCells w g (k * 3) l[k] ∧ (∀ j, w.frozen? ⟨g, j, none⟩ = false) ∧ g < w.heap.size ∧ lo ≤ g := by
  rcases h.2 with ⟨_, h0⟩ | ⟨g, cap, cur, e, hb, hg, hn, hm, hs, ht⟩
  · omega
  · refine ⟨g, cap, e, ?_, fun j => frozen_of_row w g j _ _ hg, (Array.getElem?_eq_some_iff.1 hg).1, hb⟩
    have hc : ∀ j (hj : j < 3), w.cell? ⟨g, k * 3 + j, none⟩ = (tcells l[k])[j]? := fun j hj => by
      rw [← trisV_at l k j hk hj, cell_of_row w g (k * 3 + j) _ _ (0, 0) hg, ← ht, List.getElem?_take_of_lt (by omega)]
      simp
    exact ⟨hc 0 (by decide), hc 1 (by decide), hc 2 (by decide)⟩
theorem own_tris {w : World} {lo : Nat} {v : Value} {l : List TriL} (h : w.ownsRow lo 64 3 v l.length (trisV l)) : TrisAt w v l := by
  rcases h.2 with ⟨e, h0⟩ | ⟨g, cap, cur, e, hb, hg, hn, hm, hs, ht⟩
  · exact .inl ⟨none, 0, e, List.eq_nil_of_length_eq_zero h0⟩
  · refine .inr ⟨g, 0, cap, e, (Array.getElem?_eq_some_iff.1 hg).1, fun i hi => ?_⟩
    obtain ⟨g', cap', e', hc, _⟩ := own_tri h i hi
    rw [e] at e'
    injection e' with e1 _ _
    injection e1 with e1
    injection e1 with e1 _ _
    subst e1
    simpa using hc
theorem info_tri : (Tryz.prog.info? 64).map (fun i => (i.zero, i.size, i.bytes)) = some (some (.agg #[.int .i64 0, .int .i64 0, .int .i64 0]), 3, 24) := by kernel_rfl
theorem tcells_one (x : TriL) : ∀ u ∈ tcells x, u.oneCell' = true := by
  intro u hu
  simp only [tcells, List.mem_cons, List.not_mem_nil, or_false] at hu
  rcases hu with rfl | rfl | rfl <;> rfl
theorem step_append_tri {ops : Array Oper} {o : Oper} {a : Act} {w : World} {K : Act → World → Prop} {Q : Exit → Act → World → Prop} {E : Prop} (hgd : o.guard = none) (s x : Operand)
    (hop : o.op = .call { callee := .builtin .append, args := #[s, x], argTypes := #[22, 22] }) (base : Nat) (v : Value) (l : List TriL) (y : TriL) (hs : a.eval s = v) (r : Nat)
    (hown : w.ownsRow base 64 3 v l.length (trisV l)) (hx : a.eval x = .slice (some ⟨r, 0, none⟩) 1 1) (hr : w.heap[r]? = some (.cells (tcells y).toArray 64 (0, 0))) (h1 : l.length ≤ 1000) (hbase : base ≤ w.heap.size)
    (hK : ∀ g cap w', w'.ownsRow base 64 3 (.slice (some ⟨g, 0, none⟩) (l.length + 1) cap) (l.length + 1) (trisV (l ++ [y])) → w.grownBy w' v.ownBlock → (v.ownBlock = some g ∨ g = w.heap.size) → g < w'.heap.size → K (a.put o.dst (.slice (some ⟨g, 0, none⟩) (l.length + 1) cap)) w') :
    if Region.wanted o (yielded ops a.tmps) = true then Oper.wp Tryz.prog o a w K Q else E := by
  obtain ⟨i0, hi0, hz0, hz1, hz2⟩ := info_parts info_tri
  refine step_append_lies w hgd s x 22 hop base 64 i0 _ 3 24 Tryz.underlying22 hi0 hz0 hz1 hz2 rfl (by decide) v l.length (trisV l) hs hown ⟨r, 0, none⟩ 1 1 (tcells y) hx rfl (World.news_of_block hr) (tcells_one y) (by decide) (by unfold maxLen; omega) (by omega) hbase w.heap.size rfl ?_
  intro g cap w' h2 h3 h4 h5
  refine hK g cap w' ?_ h3 h4 h5
  rw [trisV_append, show trisV [y] = tcells y by simp [trisV]]
  exact h2
theorem own_setTri {w : World} {lo k g cap : Nat} {v : Value} {l : List TriL} (h : w.ownsRow lo 64 3 v l.length (trisV l)) (hk : k < l.length) (hv : v = .slice (some ⟨g, 0, none⟩) l.length cap) (x : TriL) :
    (w.setCells g (k * 3) (tcells x)).ownsRow lo 64 3 v (l.set k x).length (trisV (l.set k x)) := by
  have hl := trisV_len (l.set k x)
  rw [List.length_set] at hl ⊢
  refine ⟨hl, ?_⟩
  rcases h.2 with ⟨e, _⟩ | ⟨g', cap', cur, e, hb, hg, hn, hm, hs, ht⟩
  · rw [hv] at e; cases e
  · rw [hv] at e
    injection e with e1 _ e2
    injection e1 with e1
    injection e1 with e1 _ _
    subst e1 e2
    have tl : (tcells x).length = 3 := rfl
    have hsz : k * 3 + (tcells x).length ≤ cur.size := by rw [tl, hs]; omega
    refine .inr ⟨g, cap, _, hv, hb, heap_setCells_same _ _ hg hsz, hn, hm, ?_, ?_⟩
    · rw [List.size_toArray, length_splice _ _ _ (by simpa using hsz)]; simpa using hs
    · have hcur : cur.toList = trisV (l.take k) ++ tcells l[k] ++ (trisV (l.drop (k + 1)) ++ cur.toList.drop (l.length * 3)) := by
        have e1 : trisV l = trisV (l.take k) ++ tcells l[k] ++ trisV (l.drop (k + 1)) := by
          conv => lhs; rw [← List.take_append_drop k l, trisV_append, List.drop_eq_getElem_cons hk]
          simp only [trisV, List.flatMap_cons, List.append_assoc]
        have e2 := (List.take_append_drop (l.length * 3) cur.toList).symm
        rw [ht, e1, List.append_assoc] at e2
        exact e2
      have hlen : k * 3 = (trisV (l.take k)).length := by rw [trisV_len, List.length_take]; congr 1; omega
      have hL : l.set k x = l.take k ++ x :: l.drop (k + 1) := List.set_eq_take_append_cons_drop.trans (if_pos hk)
      rw [List.toList_toArray, hcur, hlen, splice_mid _ _ _ (tcells x) (show (tcells l[k]).length = (tcells x).length from rfl), ← List.append_assoc]
      have : trisV (l.set k x) = trisV (l.take k) ++ tcells x ++ trisV (l.drop (k + 1)) := by rw [hL, trisV_append]; simp [trisV]
      rw [← this]
      exact List.take_left' (by rw [hl])
theorem setCells_tri (w : World) (g o : Nat) (x : TriL) : w.setCells g o (tcells x) = ((w.setCell ⟨g, o, none⟩ (.int .i64 x.x)).setCell ⟨g, o + 1, none⟩ (.int .i64 x.y)).setCell ⟨g, o + 2, none⟩ (.int .i64 x.z) := rfl

/-! What two triples are one behind the other by. -/
instance : Inhabited TriL := ⟨⟨0, 0, 0⟩⟩
def cf3 (x y : TriL) : Int := if x.x = y.x then (if x.y = y.y then Lib.compareInt x.z y.z else Lib.compareInt x.y y.y) else Lib.compareInt x.x y.x
theorem compareInt_lt (x y : Int) : (Lib.compareInt x y < 0) ↔ x < y := by
  unfold Lib.compareInt
  by_cases h : x < y
  · simp [h]
  · by_cases h2 : x > y <;> simp [h, h2]
theorem compareInt_zero (x y : Int) : (Lib.compareInt x y = 0) ↔ x = y := by
  unfold Lib.compareInt
  by_cases h : x < y
  · simp [h]; omega
  · by_cases h2 : x > y <;> simp [h, h2] <;> omega
def lt3 (x y : TriL) : Bool := decide (x.x < y.x ∨ (x.x = y.x ∧ (x.y < y.y ∨ (x.y = y.y ∧ x.z < y.z))))
theorem ltOf_cf3 (x y : TriL) : Go.Proofs.ltOf cf3 x y = lt3 x y := by
  unfold Go.Proofs.ltOf lt3
  congr 1
  rw [eq_iff_iff]
  unfold cf3
  by_cases h1 : x.x = y.x
  · by_cases h2 : x.y = y.y
    · rw [if_pos h1, if_pos h2, compareInt_lt]; omega
    · rw [if_pos h1, if_neg h2, compareInt_lt]; omega
  · rw [if_neg h1, compareInt_lt]; omega
theorem swo3 : Go.Sort.SWO (Go.Proofs.ltOf cf3) where
  irrefl x := by rw [ltOf_cf3]; simp [lt3]
  trans x y z h1 h2 := by rw [ltOf_cf3] at *; simp only [lt3, decide_eq_true_eq] at *; omega
  ntrans x y z h1 h2 := by rw [ltOf_cf3] at *; simp only [lt3, decide_eq_false_iff_not] at *; omega
theorem total3 (x y : TriL) (h1 : Go.Proofs.ltOf cf3 x y = false) (h2 : Go.Proofs.ltOf cf3 y x = false) : x = y := by
  rw [ltOf_cf3] at *
  simp only [lt3, decide_eq_false_iff_not] at *
  obtain ⟨a, b, c⟩ := x
  obtain ⟨a', b', c'⟩ := y
  simp only [TriL.mk.injEq]
  dsimp only at h1 h2
  omega
end Go.Proofs.YtdlkdilgjmmlaaaGreat
