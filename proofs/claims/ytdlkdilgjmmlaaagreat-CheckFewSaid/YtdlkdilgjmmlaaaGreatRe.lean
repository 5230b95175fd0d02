/- A row of triples, sorted by slices.SortFunc; triples compared (layer 13). -/
import Derived.Test.YtdlkdilgjmmlaaaGreatRd
namespace Go.Proofs.YtdlkdilgjmmlaaaGreat
open Go.RowKit Go.Maps
attribute [local go_sem] Oper.semAt_some

theorem at_flat (l : List TriL) (t : Nat) (ht : t < l.length * 3) : (Go.Sort.flatK tcells 3 l.toArray)[t]! = (trisV l)[t]'(by rw [trisV_len]; exact ht) := by
  rw [Go.Sort.get_flatK tcells 3 l.toArray t (by simpa using ht)]
  have h3 : t / 3 < l.length := by omega
  have e := trisV_at l (t / 3) (t % 3) h3 (Nat.mod_lt _ (by decide))
  rw [show t / 3 * 3 + t % 3 = t by omega, List.getElem?_eq_getElem (by rw [trisV_len]; exact ht)] at e
  have e2 : l.toArray[t / 3]! = l[t / 3] := by simp [h3]
  rw [e2]
  have h4 : t % 3 < (tcells l[t / 3]).length := Nat.mod_lt _ (by decide)
  rw [List.getElem?_eq_getElem h4] at e
  rw [getElem!_pos (tcells l[t / 3]) (t % 3) h4]
  exact (Option.some.inj e).symm
theorem flat_tri (l : List TriL) : (Go.Sort.flatK tcells 3 l.toArray).toList = trisV l := by
  have hs : (Go.Sort.flatK tcells 3 l.toArray).size = l.length * 3 := by simp
  refine List.ext_getElem (by rw [trisV_len]; simp) fun t h1 h2 => ?_
  have ht : t < l.length * 3 := by rwa [trisV_len] at h2
  rw [Array.getElem_toList, ← at_flat l t ht]
  exact (getElem!_pos _ _ (by rw [hs]; exact ht)).symm
theorem own_holds {w : World} {lo g cap : Nat} {l : List TriL} (h : w.ownsRow lo 64 3 (.slice (some ⟨g, 0, none⟩) l.length cap) l.length (trisV l)) : Go.Sort.HoldsK tcells 3 w g 0 l.toArray := by
  intro j hj
  have hj2 : j < l.length * 3 := by simpa using hj
  rw [at_flat l j hj2]
  obtain ⟨g', cap', e, ⟨c0, c1, c2⟩, hf, _⟩ := own_tri h (j / 3) (by omega)
  injection e with e1 _ _
  injection e1 with e1
  injection e1 with e1 _ _
  subst e1
  refine ⟨?_, by rw [Nat.zero_add]; exact hf j⟩
  have hc : w.cell? ⟨g, j / 3 * 3 + j % 3, none⟩ = (tcells (l[j / 3]'(by omega)))[j % 3]? := by
    rcases (show j % 3 = 0 ∨ j % 3 = 1 ∨ j % 3 = 2 by omega) with e | e | e <;> rw [e]
    · exact c0
    · exact c1
    · exact c2
  rw [← trisV_at l (j / 3) (j % 3) (by omega) (Nat.mod_lt _ (by decide)), show j / 3 * 3 + j % 3 = j by omega, List.getElem?_eq_getElem (by rw [trisV_len]; exact hj2)] at hc
  rw [Nat.zero_add]
  exact hc
theorem put_take (F cur : Array Value) (h : F.size ≤ cur.size) : (Go.Sort.putCells id 0 F cur).toList.take F.size = F.toList := by
  refine List.ext_getElem (by simp [Go.Sort.putCells]; omega) fun t h1 h2 => ?_
  have ht : t < F.size := by simpa using h2
  simp [Go.Sort.putCells, ht]
theorem heap_sorted {w : World} {g n : Nat} {F cur : Array Value} {T : TypeId} {os : Array Obj} (hg : w.heap[g]? = some (.cells cur T (0, 0))) :
    (Go.Sort.grow (Go.Sort.putRow id (Go.Sort.ahead w n) g 0 F) os).heap[g]? = some (.cells (Go.Sort.putCells id 0 F cur) T (0, 0)) := by
  have hlt : g < w.heap.size := (Array.getElem?_eq_some_iff.1 hg).1
  rw [Go.Sort.heap_grow_old _ _ (by rw [Go.Sort.size_putRow]; exact hlt)]
  simp [Go.Sort.putRow, Go.Sort.mapBlock, Go.Sort.ahead, Array.getElem?_modify, hg, Go.Sort.onCells]
theorem grown_sorted (w : World) (g n : Nat) (F : Array Value) (os : Array Obj) : w.grownBy (Go.Sort.grow (Go.Sort.putRow id (Go.Sort.ahead w n) g 0 F) os) (some g) := by
  refine ⟨rfl, rfl, rfl, by rw [Go.Sort.size_grow, Go.Sort.size_putRow]; exact Nat.le_add_right _ _, fun k hk hne => ?_⟩
  rw [Go.Sort.heap_grow_old _ _ (by rw [Go.Sort.size_putRow]; exact hk)]
  have hne2 : ¬ g = k := fun e => hne (by rw [e])
  simp [Go.Sort.putRow, Go.Sort.mapBlock, Go.Sort.ahead, Array.getElem?_modify, hne2]
def sort3 (l : List TriL) : List TriL := l.mergeSort fun x y => !(Go.Proofs.ltOf cf3) y x
theorem sort3_len (l : List TriL) : (sort3 l).length = l.length := by simp [sort3]
def RetSort (w : World) (lo : Nat) (v : Value) (l : List TriL) (e : Ending) (w' : World) : Prop := e = .returned (.tuple #[]) ∧ w'.ownsRow lo 64 3 v l.length (trisV (sort3 l)) ∧ w.grownBy w' v.ownBlock
theorem enter_order1 : ∀ (args : Array Value) (w : World), (callFunc 96 args).run Tryz.prog w = .ok (.enter 96 args) w := enters_of Tryz.func96 (by kernel_rfl) rfl
theorem sortRow_any {w : World} {lo : Nat} {v : Value} {l : List TriL} (h : w.ownsRow lo 64 3 v l.length (trisV l)) (hl : l.length ≤ 1000) :
    Calls Tryz.prog 95 #[v, .func (.func 96) #[] #[]] w (RetSort w lo v l) := by
  rcases h.2 with ⟨e, h0⟩ | ⟨g, cap, cur, e, hb, hg, hn, hm, hs, ht⟩
  · obtain rfl : l = [] := List.eq_nil_of_length_eq_zero h0
    subst e
    refine (Tryz.slices_SortFunc_none (α := TriL) none 0 _ w).mono ?_
    rintro e w' ⟨rfl, rfl⟩
    exact ⟨rfl, by simpa [sort3] using h, World.grownBy.refl _ _⟩
  · subst e
    have hlt : g < w.heap.size := (Array.getElem?_eq_some_iff.1 hg).1
    have hc := Tryz.slices_SortFunc_total (α := TriL) 3 Tryz.isAgg64 Tryz.sizeOf64 tcells (fun _ => rfl) tcells_one cf3 swo3 96 #[] g 0 cap l.toArray w enter_order1
      (fun m os dk _ x y => order1_any x y _) (own_holds h) hlt (by simp; omega) total3
    refine hc.mono ?_
    rintro e w' ⟨rfl, n, os, rfl⟩
    have hF : (Go.Sort.flatK tcells 3 (sort3 l).toArray).size = l.length * 3 := by simp [sort3_len]
    refine ⟨rfl, ⟨by rw [trisV_len, sort3_len], .inr ⟨g, cap, Go.Sort.putCells id 0 (Go.Sort.flatK tcells 3 (sort3 l).toArray) cur, rfl, hb, heap_sorted hg, hn, hm, by simpa [Go.Sort.putCells] using hs, ?_⟩⟩, grown_sorted w g n _ os⟩
    rw [← hF, put_take _ _ (by rw [hF, hs]; omega), flat_tri]

/-! Triples compared. -/
theorem part30 (a b c : Value) (W : World) : (part 3 #[a, b, c] 0).run Tryz.prog W = .ok a W := by kernel_rfl
theorem part31 (a b c : Value) (W : World) : (part 3 #[a, b, c] 1).run Tryz.prog W = .ok b W := by kernel_rfl
theorem part32 (a b c : Value) (W : World) : (part 3 #[a, b, c] 2).run Tryz.prog W = .ok c W := by kernel_rfl
set_option maxRecDepth 100000 in
theorem equal3 (n : Nat) (a b c a' b' c' : Int) (W : World) : (Op.equalIn (n + 2) 64 (.agg #[.int .i64 a, .int .i64 b, .int .i64 c]) (.agg #[.int .i64 a', .int .i64 b', .int .i64 c'])).run Tryz.prog W = .ok (a == a' && (b == b' && c == c')) W := by
  generalize hX : #[Value.int .i64 a, .int .i64 b, .int .i64 c] = X
  generalize hY : #[Value.int .i64 a', .int .i64 b', .int .i64 c'] = Y
  have p0 := fun W => hX ▸ part30 (.int .i64 a) (.int .i64 b) (.int .i64 c) W
  have p1 := fun W => hX ▸ part31 (.int .i64 a) (.int .i64 b) (.int .i64 c) W
  have p2 := fun W => hX ▸ part32 (.int .i64 a) (.int .i64 b) (.int .i64 c) W
  have q0 := fun W => hY ▸ part30 (.int .i64 a') (.int .i64 b') (.int .i64 c') W
  have q1 := fun W => hY ▸ part31 (.int .i64 a') (.int .i64 b') (.int .i64 c') W
  have q2 := fun W => hY ▸ part32 (.int .i64 a') (.int .i64 b') (.int .i64 c') W
  clear hX hY
  rw [Op.equalIn]
  simp only [Sem.run_bind, run_underlying Tryz.underlying64, Result.andThen_ok, Crd.size3]
  rw [Std.Legacy.Range.forIn_eq_forIn_range']
  simp only [Std.Legacy.Range.size, Nat.sub_zero, Nat.add_sub_cancel, Nat.div_one, List.range', List.forIn_cons, List.forIn_nil, Nat.mul_one, Nat.zero_add, Sem.run_bind, p0, q0, Result.andThen_ok, Crd.eq3]
  by_cases h0 : a = a' <;> by_cases h1 : b = b' <;> by_cases h2 : c = c' <;> simp [h0, h1, h2, p1, p2, q1, q2, Crd.eq3]
theorem eql3 (x y : TriL) (W : World) : (binOp .eql 64 (.agg #[.int .i64 x.x, .int .i64 x.y, .int .i64 x.z]) (.agg #[.int .i64 y.x, .int .i64 y.y, .int .i64 y.z])).run Tryz.prog W = .ok (.bool (decide (x = y))) W := by
  rw [run_eql_struct, equal3 9998]
  show Result.ok (Value.bool _) W = Result.ok (Value.bool _) W
  congr 2
  obtain ⟨a, b, c⟩ := x
  obtain ⟨a', b', c'⟩ := y
  simp only [TriL.mk.injEq]
  rw [Bool.eq_iff_iff]
  simp
theorem neq3 (x y : TriL) (W : World) : (binOp .neq 64 (.agg #[.int .i64 x.x, .int .i64 x.y, .int .i64 x.z]) (.agg #[.int .i64 y.x, .int .i64 y.y, .int .i64 y.z])).run Tryz.prog W = .ok (.bool (!decide (x = y))) W := by
  rw [run_neq_struct, equal3 9998]
  show Result.ok (Value.bool _) W = Result.ok (Value.bool _) W
  congr 3
  obtain ⟨a, b, c⟩ := x
  obtain ⟨a', b', c'⟩ := y
  simp only [TriL.mk.injEq]
  rw [Bool.eq_iff_iff]
  simp
theorem eqlg3 (x y : Operand) (xs ys : Array Value) (W : World) : (eqGuard .eql 64 x y (.agg xs) (.agg ys)).run Tryz.prog W = .ok () W := run_eqGuard_agg W .eql 64 x y xs ys (by kernel_rfl)
theorem neqg3 (x y : Operand) (xs ys : Array Value) (W : World) : (eqGuard .neq 64 x y (.agg xs) (.agg ys)).run Tryz.prog W = .ok () W := run_eqGuard_agg W .neq 64 x y xs ys (by kernel_rfl)
end Go.Proofs.YtdlkdilgjmmlaaaGreat
