/- Sums of hits: whom each attacker strikes for in all (layer 17). -/
import Derived.Test.YtjgjhfeopmakaaaGreatQo
namespace Go.Proofs.YtjgjhfeopmakaaaGreat
open Go.RowKit Go.Maps

/-- For how much somebody strikes in all. -/
def sumH : List HitL → Int → Int
  | [], _ => 0
  | h :: l, x => (if h.x = x then h.z else 0) + sumH l x
theorem sumH_append : ∀ (l r : List HitL) (x : Int), sumH (l ++ r) x = sumH l x + sumH r x
  | [], r, x => by simp [sumH]
  | h :: l, r, x => by
    show (if h.x = x then h.z else 0) + sumH (l ++ r) x = (if h.x = x then h.z else 0) + sumH l x + sumH r x
    rw [sumH_append l r x]
    omega
theorem sumH_nz : ∀ (l : List HitL) (x : Int), sumH (l.filter nzB) x = sumH l x
  | [], _ => rfl
  | h :: l, x => by
    by_cases hz : h.z = 0
    · have : nzB h = false := by unfold nzB; rw [decide_eq_true hz]; rfl
      rw [List.filter_cons, if_neg (by rw [this]; decide), sumH_nz l x, sumH, hz]
      simp
    · have : nzB h = true := by unfold nzB; rw [decide_eq_false hz]; rfl
      rw [List.filter_cons, if_pos this, sumH, sumH, sumH_nz l x]
theorem sumH_none : ∀ (l : List HitL) (x : Int), (∀ h ∈ l, h.x ≠ x) → sumH l x = 0
  | [], _, _ => rfl
  | h :: l, x, hn => by
    rw [sumH, if_neg (hn h (by simp)), sumH_none l x (fun h' hh => hn h' (by simp [hh]))]
    rfl
theorem sumH_bound : ∀ (l : List HitL) (x : Int), (∀ h ∈ l, 0 ≤ h.z ∧ h.z ≤ 999) → 0 ≤ sumH l x ∧ sumH l x ≤ 999 * l.length
  | [], _, _ => by simp [sumH]
  | h :: l, x, hn => by
    have h1 := hn h (by simp)
    have h2 := sumH_bound l x (fun h' hh => hn h' (by simp [hh]))
    rw [sumH, List.length_cons]
    split <;> omega
theorem sumH_take {l : List HitL} {k : Nat} (hk : k < l.length) (x : Int) : sumH (l.take (k + 1)) x = sumH (l.take k) x + (if l[k].x = x then l[k].z else 0) := by
  rw [List.take_succ_eq_append_getElem hk, sumH_append]
  simp [sumH]
theorem pow_bound (S : StoreL) (i : Int) : 0 ≤ powS S i ∧ powS S i ≤ 999 := by
  unfold powS layZ
  exact raiseZ_in _ _
theorem lack_nonneg (S : StoreL) (i : Int) : 0 ≤ lackZ S i := by unfold lackZ; omega
/-- What is left, and what is shared out, make the power. -/
theorem share_sum (S : StoreL) (i : Int) (l : List Int) : ∀ k, k ≤ l.length → 0 ≤ (shareK S i l k).1 ∧ (shareK S i l k).1 + sumH (shareK S i l k).2 i = powS S i ∧ (∀ h ∈ (shareK S i l k).2, 0 ≤ h.z ∧ h.z ≤ 999) ∧ (shareK S i l k).1 ≤ 999 ∧ (k = l.length → 0 < k → (shareK S i l k).1 = 0)
  | 0, _ => by
    have := pow_bound S i
    refine ⟨this.1, ?_, ?_, this.2, fun _ h => absurd h (by omega)⟩
    · show powS S i + 0 = _
      omega
    · intro h hh
      cases hh
  | k + 1, hk => by
    obtain ⟨h1, h2, h3, h4, _⟩ := share_sum S i l k (by omega)
    obtain ⟨left, hl⟩ : ∃ left, (shareK S i l k).1 = left := ⟨_, rfl⟩
    obtain ⟨L, hL⟩ : ∃ L, (shareK S i l k).2 = L := ⟨_, rfl⟩
    have hn : 0 ≤ shareN S l k left (l.getD k 0) ∧ shareN S l k left (l.getD k 0) ≤ left ∧ (k + 1 = l.length → shareN S l k left (l.getD k 0) = left) := by
      have := lack_nonneg S (l.getD k 0)
      rw [hl] at h1
      unfold shareN
      by_cases hc : (k : Int) < (l.length : Int) - 1
      · rw [if_pos hc]
        exact ⟨by omega, by omega, fun e => by omega⟩
      · rw [if_neg hc]
        exact ⟨h1, by omega, fun _ => rfl⟩
    rw [shareK, hl, hL]
    rw [hl] at h1 h2 h4
    rw [hL] at h2 h3
    obtain ⟨n, hnn⟩ : ∃ n, shareN S l k left (l.getD k 0) = n := ⟨_, rfl⟩
    rw [hnn] at hn ⊢
    have hw : wrap64 (left - n) = left - n := by unfold wrap64; omega
    dsimp only
    rw [hw, sumH_append]
    have hs : sumH [⟨i, l.getD k 0, n⟩] i = n := by simp [sumH]
    rw [hs]
    refine ⟨by omega, by omega, fun h hh => ?_, by omega, fun e _ => by have := hn.2.2 e; omega⟩
    rcases List.mem_append.1 hh with h' | h'
    · exact h3 h h'
    · have e : h = ⟨i, l.getD k 0, n⟩ := by simpa using h'
      rw [e]
      exact ⟨hn.1, by show n ≤ 999; omega⟩
theorem blows_bound (B : BoardL) (t i : Int) : ∀ h ∈ blowsL B t i, 0 ≤ h.z ∧ h.z ≤ 999 := by
  intro h hh
  unfold blowsL at hh
  split at hh
  · have e : h = ⟨i, placeT (nextT B.T t), powS B.S i⟩ := by simpa using hh
    rw [e]
    exact pow_bound B.S i
  · rcases List.mem_append.1 hh with h' | h'
    · exact (share_sum B.S i (blockL B i) _ (Nat.le_refl _)).2.2.1 h h'
    · obtain ⟨x, _, rfl⟩ := List.mem_map.1 h'
      exact pow_bound B.S x
theorem plan_bound (B : BoardL) (t : Int) : ∀ h ∈ planL B t, 1 ≤ h.z ∧ h.z ≤ 999 := by
  intro h hh
  unfold planL at hh
  obtain ⟨h1, h2⟩ := List.mem_filter.1 hh
  obtain ⟨i, _, h3⟩ := List.mem_flatMap.1 h1
  have h4 := blows_bound B t i h h3
  have : ¬(h.z = 0) := by unfold nzB at h2; simpa using h2
  omega
/-- Who blocks nobody strikes for just its power when it attacks. -/
theorem blows_sum (B : BoardL) (t i x : Int) (hx : (objI B.S x).block = 0) : sumH (blowsL B t i) x = if i = x then powS B.S x else 0 := by
  have hback : sumH ((blockL B i).map (backH B.S i)) x = 0 := sumH_none _ _ fun h hh e => by
    obtain ⟨y, hy, rfl⟩ := List.mem_map.1 hh
    have e' : y = x := e
    obtain ⟨_, hb, h1⟩ := block_mem hy
    rw [e', hx] at hb
    omega
  unfold blowsL
  split
  · simp only [sumH]
    by_cases e : i = x
    · subst e
      simp
    · rw [if_neg e, if_neg e]
      rfl
  · rename_i hne
    rw [sumH_append, hback]
    by_cases e : i = x
    · subst e
      rw [if_pos rfl]
      obtain ⟨_, h2, _, _, h5⟩ := share_sum B.S i (blockL B i) _ (Nat.le_refl _)
      have := h5 rfl (List.length_pos_iff.2 hne)
      omega
    · rw [if_neg e, sumH_none _ _ (fun h hh e2 => e (by rw [← (share_mem _ (Nat.le_refl _) h hh).1]; exact e2))]
      rfl
theorem flat_sum (B : BoardL) (t x : Int) (hx : (objI B.S x).block = 0) : ∀ l : List Int, l.Nodup → sumH (planR B t l) x = if x ∈ l then powS B.S x else 0
  | [], _ => by simp [planR, sumH]
  | i :: l, hn => by
    obtain ⟨h1, h2⟩ := List.nodup_cons.1 hn
    show sumH (blowsL B t i ++ planR B t l) x = _
    rw [sumH_append, blows_sum B t i x hx, flat_sum B t x hx l h2]
    by_cases e : i = x
    · subst e
      rw [if_pos rfl, if_neg h1, if_pos (by simp)]
      omega
    · rw [if_neg e]
      by_cases hm : x ∈ l
      · rw [if_pos hm, if_pos (by simp [hm])]
        omega
      · rw [if_neg hm, if_neg (by simp [hm, Ne.symm e])]
        rfl
theorem crs_nodup {S : StoreL} (h : WfS S) (hn : 1 ≤ S.seats) : (crsL S).Nodup := by
  have hk : okK S.seats 0 3 := ⟨by omega, by decide, by decide, fun _ => rfl⟩
  have hp := h.nodup 0 3 hk
  have e : crsL S = ((S.pl 0 3).filter fun i => ownB [] (objOf S i) && kindB S (objOf S i)) := by
    have hid : ∀ i ∈ S.pl 0 3, (objOf S i).id = i := fun i hi => by
      obtain ⟨k, hk2, rfl, ho, _⟩ := h.onField hn hi
      rw [ho]
      exact (h.ids k hk2).1
    unfold crsL strL fieldL selO
    obtain ⟨L, hL⟩ : ∃ L, S.pl 0 3 = L := ⟨_, rfl⟩
    rw [hL] at hid ⊢
    clear hL hp
    induction L with
    | nil => rfl
    | cons i L ih =>
      have ih := ih (fun j hj => hid j (by simp [hj]))
      have hi := hid i (by simp)
      by_cases h1 : ownB [] (objOf S i) = true
      · by_cases h2 : kindB S (objOf S i) = true
        · simp [h1, h2, itemO, hi] at ih ⊢
          exact ih
        · simp [h1, h2] at ih ⊢
          exact ih
      · simp [h1] at ih ⊢
        exact ih
  rw [e]
  exact hp.filter _
theorem plan_sum {B : BoardL} (hw : WfS B.S) (hn : 1 ≤ B.S.seats) {t x : Int} (hx : x ∈ attackL B t) (hb : (objI B.S x).block = 0) : sumH (planL B t) x = powS B.S x := by
  unfold planL
  rw [sumH_nz]
  have h := flat_sum B t x hb (attackL B t) (by unfold attackL selP; exact (crs_nodup hw hn).filter _)
  rw [if_pos hx] at h
  exact h
end Go.Proofs.YtjgjhfeopmakaaaGreat
