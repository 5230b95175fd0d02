/- Plain facts: a row that is sorted and compacted is the one list that rises and has the same members; the order of objects (layer 13). -/
import Derived.Test.YtookicopjphmnaaGreatRh
namespace Go.Proofs.YtookicopjphmnaaGreat

def Rises (M : List TriL) : Prop := M.Pairwise fun a b => lt3 a b = true
theorem lt3_irr (a : TriL) : lt3 a a = false := by simp [lt3]
theorem lt3_trans {a b c : TriL} (h1 : lt3 a b = true) (h2 : lt3 b c = true) : lt3 a c = true := by
  simp only [lt3, decide_eq_true_eq] at *; omega
theorem lt3_asym {a b : TriL} (h1 : lt3 a b = true) (h2 : lt3 b a = true) : False := by
  have := lt3_trans h1 h2
  rw [lt3_irr] at this
  cases this
theorem rises_unique : ∀ {M N : List TriL}, Rises M → Rises N → (∀ t, t ∈ M ↔ t ∈ N) → M = N
  | [], [], _, _, _ => rfl
  | [], b :: s, _, _, h => absurd ((h b).2 (by simp)) (by simp)
  | a :: r, [], _, _, h => absurd ((h a).1 (by simp)) (by simp)
  | a :: r, b :: s, hM, hN, h => by
    have hM2 := List.pairwise_cons.1 hM
    have hN2 := List.pairwise_cons.1 hN
    have hab : a = b := by
      rcases List.mem_cons.1 ((h a).1 (by simp)) with e | e
      · exact e
      · rcases List.mem_cons.1 ((h b).2 (by simp)) with e' | e'
        · exact e'.symm
        · exact (lt3_asym (hM2.1 b e') (hN2.1 a e)).elim
    subst hab
    have e := rises_unique hM2.2 hN2.2 (fun t => ⟨fun ht => by
      rcases List.mem_cons.1 ((h t).1 (List.mem_cons_of_mem _ ht)) with e | e
      · subst e
        have := hM2.1 t ht
        rw [lt3_irr] at this
        cases this
      · exact e, fun ht => by
      rcases List.mem_cons.1 ((h t).2 (List.mem_cons_of_mem _ ht)) with e | e
      · subst e
        have := hN2.1 t ht
        rw [lt3_irr] at this
        cases this
      · exact e⟩)
    rw [e]
def le3 (x y : TriL) : Bool := !lt3 y x
theorem sort3_le (l : List TriL) : sort3 l = l.mergeSort le3 := by
  unfold sort3
  congr 1
  funext x y
  rw [ltOf_cf3]
  rfl
theorem le3_trans (a b c : TriL) (h1 : le3 a b = true) (h2 : le3 b c = true) : le3 a c = true := by
  simp only [le3, lt3, Bool.not_eq_true', decide_eq_false_iff_not] at *; omega
theorem le3_total (a b : TriL) : (le3 a b || le3 b a) = true := by
  rw [Bool.or_eq_true]
  simp only [le3, lt3, Bool.not_eq_true', decide_eq_false_iff_not]
  omega
theorem le3_ne {a b : TriL} (h : le3 a b = true) (hn : b ≠ a) : lt3 a b = true := by
  cases h2 : lt3 a b with
  | true => rfl
  | false =>
    refine absurd (total3 b a ?_ ?_) hn
    · rw [ltOf_cf3]; simpa [le3] using h
    · rw [ltOf_cf3]; exact h2
theorem le3_lt {a b c : TriL} (h : le3 a b = true) (h2 : lt3 b c = true) : lt3 a c = true := by
  simp only [le3, lt3, Bool.not_eq_true', decide_eq_false_iff_not, decide_eq_true_eq] at *; omega
theorem compact_rises {l : List TriL} (h : l.Pairwise fun a b => le3 a b = true) : Rises (compact3 l) ∧ ∀ t, t ∈ compact3 l ↔ t ∈ l := by
  have key : ∀ m, m ≤ l.length → Rises (Lib.compactUpTo l.toArray m) ∧ (∀ t, t ∈ Lib.compactUpTo l.toArray m ↔ t ∈ l.take m) ∧ (∀ t ∈ Lib.compactUpTo l.toArray m, ∀ (hm : 0 < m) (hl : m - 1 < l.length), le3 t (l[m - 1]'hl) = true) := fun m => by
    induction m with
    | zero => intro _; exact ⟨List.Pairwise.nil, fun t => by simp [Lib.compactUpTo], fun t ht => by simp [Lib.compactUpTo] at ht⟩
    | succ m ih =>
      intro hm
      obtain ⟨i1, i2, i3⟩ := ih (by omega)
      have hml : m < l.length := by omega
      have e0 : l.take (m + 1) = l.take m ++ [l[m]] := take_last l m hml
      rw [Lib.compactUpTo_succ, e0, tri_at! l m hml]
      by_cases hk : Lib.keeps l.toArray m = true
      · rw [if_pos hk]
        have hlt : ∀ t ∈ Lib.compactUpTo l.toArray m, lt3 t l[m] = true := by
          intro t ht
          by_cases h0 : m = 0
          · subst h0; simp [Lib.compactUpTo] at ht
          · have hm1 : m - 1 < l.length := by omega
            have hne : l[m] ≠ l[m - 1] := by
              have h1 := hk
              unfold Lib.keeps at h1
              rcases of_decide_eq_true h1 with h2 | h2
              · exact absurd h2 h0
              · rwa [tri_at! l m hml, tri_at! l (m - 1) hm1] at h2
            exact le3_lt (i3 t ht (by omega) hm1) (le3_ne (List.pairwise_iff_getElem.1 h (m - 1) m hm1 hml (by omega)) hne)
        refine ⟨List.pairwise_append.2 ⟨i1, List.pairwise_singleton _ _, fun a ha b hb => by rw [List.mem_singleton.1 hb]; exact hlt a ha⟩, fun t => ?_, fun t ht _ hl => ?_⟩
        · rw [List.mem_append, List.mem_append, i2]
        · rcases List.mem_append.1 ht with h1 | h1
          · have h2 := hlt t h1
            show le3 t l[m] = true
            cases h3 : lt3 l[m] t with
            | true => exact (lt3_asym h2 h3).elim
            | false => simp [le3, h3]
          · rw [List.mem_singleton.1 h1]
            show le3 l[m] l[m] = true
            simp [le3, lt3_irr]
      · rw [if_neg hk, List.append_nil]
        have hm0 : 0 < m := Nat.pos_of_ne_zero fun e => hk (by subst e; exact Lib.keeps_lt_one _ 0 (by omega))
        have hm1 : m - 1 < l.length := by omega
        have heq : l[m] = l[m - 1] := by
          apply Classical.byContradiction
          intro hn
          exact hk (Lib.keeps_pos (by rw [tri_at! l m hml, tri_at! l (m - 1) hm1]; exact hn))
        refine ⟨i1, fun t => ?_, fun t ht _ hl => ?_⟩
        · rw [i2, List.mem_append]
          refine ⟨.inl, fun h1 => ?_⟩
          rcases h1 with h1 | h1
          · exact h1
          · rw [List.mem_singleton.1 h1, heq]
            exact List.mem_take_iff_getElem.2 ⟨m - 1, by omega, rfl⟩
        · show le3 t l[m] = true
          rw [heq]
          exact i3 t ht hm0 hm1
  obtain ⟨h1, h2, _⟩ := key l.length (Nat.le_refl _)
  rw [List.take_length] at h2
  exact ⟨h1, h2⟩
theorem compact_sort {l M : List TriL} (hM : Rises M) (hmem : ∀ t, t ∈ M ↔ t ∈ l) : compact3 (sort3 l) = M := by
  have hs : (sort3 l).Pairwise fun a b => le3 a b = true := by
    rw [sort3_le]
    exact List.pairwise_mergeSort le3_trans le3_total l
  obtain ⟨h1, h2⟩ := compact_rises hs
  refine rises_unique h1 hM fun t => ?_
  rw [h2, hmem]
  unfold sort3
  exact List.mem_mergeSort
/-- The order, told by any list of numbers whose keys rise, and whose members are those that there are. -/
theorem orderL_of {B : BoardL} {active : Int} {ids N : List Int} (h : N.Pairwise fun a b => lt3 (keyT B active a) (keyT B active b) = true) (hmem : ∀ x, x ∈ N ↔ (x ∈ ids ∧ hasS B.S x)) : orderL B active ids = N := by
  have e : compact3 (sort3 (keysT B active ids)) = N.map (keyT B active) := by
    refine compact_sort (List.pairwise_map.2 h) fun t => ?_
    unfold keysT
    rw [List.mem_map, List.mem_map]
    constructor
    · rintro ⟨x, hx, rfl⟩
      exact ⟨x, List.mem_filter.2 ⟨((hmem x).1 hx).1, decide_eq_true ((hmem x).1 hx).2⟩, rfl⟩
    · rintro ⟨x, hx, rfl⟩
      obtain ⟨h1, h2⟩ := List.mem_filter.1 hx
      exact ⟨x, (hmem x).2 ⟨h1, of_decide_eq_true h2⟩, rfl⟩
  unfold orderL
  rw [e, List.map_map]
  exact List.map_id' _
end Go.Proofs.YtookicopjphmnaaGreat
