/- Plain facts: what fires is told in the order; a board's teams keep their sides, whatever is done (layer 13). -/
import Derived.Test.YtookicopjphmnaaGreatRk
import Derived.Test.YtookicopjphmnaaGreatRj
import Derived.Test.YtookicopjphmnaaGreatRo
namespace Go.Proofs.YtookicopjphmnaaGreat
open Go.RowKit Go.Maps

def KeepT (T T' : TeamL) : Prop := T'.sides = T.sides ∧ T'.sh.length = T.sh.length
theorem KeepT.refl (T : TeamL) : KeepT T T := ⟨rfl, rfl⟩
theorem KeepT.trans {A B C : TeamL} (h : KeepT A B) (k : KeepT B C) : KeepT A C := ⟨k.1.trans h.1, k.2.trans h.2⟩
theorem KeepT.of {T T' : TeamL} (h : KeepT T T') (k : Int) : ofT T' k = ofT T k := by unfold ofT; rw [h.1]
theorem KeepT.gain (T : TeamL) (k n : Int) : KeepT T (gainT T k n) := ⟨gain_sides T k n, gain_len T k n⟩
theorem KeepT.drain (T : TeamL) (n : Int) (l : List Int) : KeepT T (drainL T n l) := ⟨(drain_flags T n l).2, (drain_flags T n l).1.1⟩
theorem keepT_draw (B : BoardL) (k : Nat) (n : Int) : KeepT B.T (drawB B k n).T := KeepT.refl _
theorem keepT_work (B : BoardL) (seat : Int) (t : Crd.TermL) (i : Int) : KeepT B.T (workB B seat t i).T := by
  unfold workB
  by_cases h1 : t.op = 1
  · rw [if_pos h1]
    unfold hurtB
    split
    · exact KeepT.gain _ _ _
    · exact KeepT.refl _
  · rw [if_neg h1]
    by_cases h2 : t.op = 2
    · rw [if_pos h2]; exact KeepT.gain _ _ _
    · rw [if_neg h2]
      by_cases h3 : t.op = 3
      · rw [if_pos h3]; exact keepT_draw _ _ _
      · rw [if_neg h3]
        by_cases h4 : t.op = 4
        · rw [if_pos h4]; exact KeepT.refl _
        · rw [if_neg h4]
          by_cases h5 : t.op = 5
          · rw [if_pos h5]; exact KeepT.refl _
          · rw [if_neg h5]
            by_cases h6 : t.op = 6
            · rw [if_pos h6]; exact KeepT.refl _
            · rw [if_neg h6]
              by_cases h7 : t.op = 7
              · rw [if_pos h7]; exact KeepT.refl _
              · rw [if_neg h7]
                by_cases h8 : t.op = 8
                · rw [if_pos h8]; exact KeepT.drain _ _ _
                · rw [if_neg h8]
                  split <;> exact KeepT.refl _
theorem keepT_do (B : BoardL) (seat : Int) (t : Crd.TermL) (i : Int) : KeepT B.T (doB B seat t i).T := by
  unfold doB
  split
  · exact keepT_work B seat t i
  · exact KeepT.refl _
theorem keepT_all (seat i : Int) : ∀ (l : List Crd.TermL) (p : BoardL × Nat), KeepT p.1.T (l.foldl (fun p t => (doB p.1 seat t (placeI t i), if canB p.1 seat t (placeI t i) then p.2 + 1 else p.2)) p).1.T
  | [], _ => KeepT.refl _
  | t :: l, p => (keepT_do p.1 seat t (placeI t i)).trans (keepT_all seat i l _)
theorem keepT_run (B : BoardL) (seat i : Int) (l : List Crd.TermL) : KeepT B.T (runAll B seat i l).1.T := keepT_all seat i l (B, 0)
theorem keepT_entry (B : BoardL) (x : EntL) : KeepT B.T (workE B x).1.T := by
  unfold workE
  split
  · exact keepT_run _ _ _ _
  · split
    · split
      · exact KeepT.refl _
      · exact keepT_run _ _ _ _
    · exact KeepT.refl _

/-! What fires. -/
theorem fire_sub (B : BoardL) (when : Int) (O : List Int) (L : List EntL) : ∃ F : List Int, F.Sublist O ∧ (fireL B when O L).2 = L ++ F.map (entT B) := by
  have h : ∀ k, k ≤ O.length → ∃ F : List Int, F.Sublist (O.take k) ∧ (fireL B when (O.take k) L).2 = L ++ F.map (entT B) := fun k => by
    induction k with
    | zero => intro _; exact ⟨[], List.nil_sublist _, by simp [fireL]⟩
    | succ k ih =>
      intro hk
      obtain ⟨F, h1, h2⟩ := ih (by omega)
      rw [take_last O k (by omega), fireL_snoc]
      unfold stepFire
      split
      · exact ⟨F ++ [O[k]], h1.append (List.Sublist.refl _), by rw [h2]; simp⟩
      · exact ⟨F, h1.trans (List.sublist_append_left _ _), h2⟩
  have := h O.length (Nat.le_refl _)
  rwa [List.take_length] at this
theorem order_rises (B : BoardL) (active : Int) (ids : List Int) : (orderL B active ids).Pairwise fun a b => lt3 (keyT B active a) (keyT B active b) = true := by
  have hs : (sort3 (keysT B active ids)).Pairwise fun a b => le3 a b = true := by
    rw [sort3_le]
    exact List.pairwise_mergeSort le3_trans le3_total _
  obtain ⟨h1, h2⟩ := compact_rises hs
  have hk : ∀ t ∈ compact3 (sort3 (keysT B active ids)), t = keyT B active t.z := by
    intro t ht
    have h3 := (h2 t).1 ht
    unfold sort3 at h3
    rw [List.mem_mergeSort] at h3
    unfold keysT at h3
    obtain ⟨x, _, rfl⟩ := List.mem_map.1 h3
    rfl
  unfold orderL
  rw [List.pairwise_map]
  exact List.Pairwise.imp_of_mem (fun {a b} ha hb h => by rw [← hk a ha, ← hk b hb]; exact h) h1
theorem order_mem (B : BoardL) (active : Int) (ids : List Int) (x : Int) : x ∈ orderL B active ids ↔ x ∈ ids ∧ hasS B.S x := by
  have hs : (sort3 (keysT B active ids)).Pairwise fun a b => le3 a b = true := by
    rw [sort3_le]
    exact List.pairwise_mergeSort le3_trans le3_total _
  obtain ⟨_, h2⟩ := compact_rises hs
  have hm : ∀ t, t ∈ compact3 (sort3 (keysT B active ids)) ↔ t ∈ keysT B active ids := by
    intro t
    rw [h2]
    unfold sort3
    exact List.mem_mergeSort
  unfold orderL
  rw [List.mem_map]
  constructor
  · rintro ⟨t, ht, rfl⟩
    have h3 := (hm t).1 ht
    unfold keysT at h3
    obtain ⟨y, hy, rfl⟩ := List.mem_map.1 h3
    obtain ⟨h4, h5⟩ := List.mem_filter.1 hy
    exact ⟨h4, of_decide_eq_true h5⟩
  · rintro ⟨h4, h5⟩
    exact ⟨keyT B active x, (hm _).2 (List.mem_map.2 ⟨x, List.mem_filter.2 ⟨h4, decide_eq_true h5⟩, rfl⟩), rfl⟩
/-- The entries of what fires come in the order of their teams. -/
theorem fire_rises (B : BoardL) (active when : Int) (ids : List Int) : ((fireL B when (orderL B active ids) []).2).Pairwise fun x y => aheadT B.T active x.seat ≤ aheadT B.T active y.seat := by
  obtain ⟨F, h1, h2⟩ := fire_sub B when (orderL B active ids) []
  rw [h2, List.nil_append, List.pairwise_map]
  refine ((order_rises B active ids).sublist h1).imp fun {a b} h => ?_
  have h2 := of_decide_eq_true (show lt3 (keyT B active a) (keyT B active b) = true from h)
  unfold keyT at h2
  dsimp only at h2
  show aheadT B.T active (objOf B.S a).owner ≤ aheadT B.T active (objOf B.S b).owner
  omega
/-- .. and are of objects that there are. -/
theorem fire_has (B : BoardL) (active when : Int) (ids : List Int) (x : EntL) (hx : x ∈ (fireL B when (orderL B active ids) []).2) : ∃ i, hasS B.S i ∧ x = entT B i := by
  obtain ⟨F, h1, h2⟩ := fire_sub B when (orderL B active ids) []
  rw [h2, List.nil_append] at hx
  obtain ⟨i, hi, rfl⟩ := List.mem_map.1 hx
  exact ⟨i, ((order_mem B active ids i).1 (h1.subset hi)).2, rfl⟩
end Go.Proofs.YtookicopjphmnaaGreat
