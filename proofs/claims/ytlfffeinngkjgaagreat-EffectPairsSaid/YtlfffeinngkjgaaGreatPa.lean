/- Lives of teams, summed; what Heal and Drain make of them (layer 11). -/
import Derived.Test.YtlfffeinngkjgaaGreatBi
import Derived.Test.YtlfffeinngkjgaaGreatBj
namespace Go.Proofs.YtlfffeinngkjgaaGreat
open Go.RowKit Go.Maps

theorem mem_upTo {p : Nat → Bool} {k : Nat} {x : Int} : x ∈ upTo p k ↔ ∃ n : Nat, n < k ∧ p n = true ∧ x = (n : Int) := by
  unfold upTo
  simp only [List.mem_map, List.mem_filter, List.mem_range]
  constructor
  · rintro ⟨n, ⟨h1, h2⟩, rfl⟩
    exact ⟨n, h1, h2, rfl⟩
  · rintro ⟨n, h1, h2, rfl⟩
    exact ⟨n, ⟨h1, h2⟩, rfl⟩
theorem upTo_nodup (p : Nat → Bool) (k : Nat) : (upTo p k).Nodup := by
  unfold upTo
  have h : List.Pairwise (· ≠ ·) ((List.range k).filter p) := List.Pairwise.filter p List.nodup_range
  show List.Pairwise (· ≠ ·) _
  rw [List.pairwise_map]
  exact h.imp fun hne e => hne (by omega)

def sumT (T : TeamL) : List Int → Int
  | [] => 0
  | x :: r => lifeT T x + sumT T r
theorem sumT_snoc (T : TeamL) : ∀ (l : List Int) (x : Int), sumT T (l ++ [x]) = sumT T l + lifeT T x
  | [], x => by simp [sumT]
  | y :: l, x => by rw [List.cons_append, sumT, sumT, sumT_snoc T l x]; omega
theorem life_gain (T : TeamL) (a m k : Int) : lifeT (gainT T a m) k = if k = a ∧ inT T a = true then addZ (lifeT T a) m else lifeT T k := by
  cases hi : inT T a with
  | false => rw [if_neg (by simp)]; simp [gainT, hi]
  | true =>
    cases hx : inT T k with
    | false =>
      rw [if_neg (by rintro ⟨rfl, _⟩; rw [hi] at hx; cases hx)]
      simp [lifeT, gain_in, hx]
    | true =>
      obtain ⟨a, rfl, ha⟩ := in_nat hi
      obtain ⟨k, rfl, hk⟩ := in_nat hx
      have hs : (gainT T a m).sh = T.sh.set a ⟨addZ (shAt T a).life m, (shAt T a).poison, (shAt T a).lost⟩ := by simp [gainT, hi, putT]
      have hk' : k < (gainT T a m).sh.length := by rw [gain_len]; exact hk
      rw [lifeT_in hk']
      by_cases e : a = k
      · subst e
        rw [if_pos ⟨rfl, rfl⟩, lifeT_in ha]
        simp only [hs, List.getElem_set_self]
        rw [shAt_in ha]
      · rw [if_neg (by rintro ⟨h, _⟩; omega), lifeT_in hk]
        simp only [hs]
        rw [List.getElem_set_ne e]
theorem life_drain (n : Int) : ∀ (l : List Int) (T : TeamL), l.Nodup → (∀ x ∈ l, inT T x = true) → (∀ k, k ∉ l → lifeT (drainL T n l) k = lifeT T k) ∧ ∀ k ∈ l, lifeT (drainL T n l) k = addZ (lifeT T k) (-n)
  | [], T, _, _ => ⟨fun _ _ => rfl, fun k hk => by cases hk⟩
  | x :: l, T, hn, hi => by
    rw [List.nodup_cons] at hn
    have hx := hi x (by simp)
    have ih := life_drain n l (gainT T x (-n)) hn.2 (fun y hy => by rw [gain_in]; exact hi y (by simp [hy]))
    have e : drainL T n (x :: l) = drainL (gainT T x (-n)) n l := rfl
    rw [e]
    refine ⟨fun k hk => ?_, fun k hk => ?_⟩
    · rw [ih.1 k (fun h => hk (by simp [h])), life_gain, if_neg (by rintro ⟨rfl, _⟩; exact hk (by simp))]
    · by_cases hkx : k = x
      · subst hkx
        rw [ih.1 k hn.1, life_gain, if_pos ⟨rfl, hx⟩]
      · rcases List.mem_cons.1 hk with h | h
        · exact absurd h hkx
        · rw [ih.2 k h, life_gain, if_neg (by rintro ⟨h, _⟩; exact hkx h)]
theorem sum_drain (T T' : TeamL) (n : Int) : ∀ l : List Int, (∀ k ∈ l, lifeT T' k = lifeT T k - n) → sumT T' l = sumT T l - (l.length : Int) * n
  | [], _ => by simp [sumT]
  | x :: l, h => by
    rw [sumT, sumT, sum_drain T T' n l (fun k hk => h k (by simp [hk])), h x (by simp), List.length_cons]
    push_cast
    rw [Int.add_mul]
    omega
theorem foes_mem {T : TeamL} {k x : Int} (h : x ∈ foesT T k) : inT T x = true ∧ x ≠ k := by
  unfold foesT at h
  obtain ⟨i, hi, hp, rfl⟩ := mem_upTo.1 h
  unfold foeB at hp
  simp only [Bool.and_eq_true, bne_iff_ne, ne_eq] at hp
  exact ⟨inL_nat hi, hp.1⟩
theorem foes_flags {T T' : TeamL} (h : FlagsE T T') (k : Int) : foesT T' k = foesT T k := by
  unfold foesT
  rw [h.1]
  congr 1
  funext n
  unfold foeB
  rw [h.2]
theorem sides_life (n : Nat) (k : Int) : 0 ≤ lifeT (sidesT n) k ∧ lifeT (sidesT n) k ≤ 30 := by
  cases hi : inT (sidesT n) k with
  | false => simp [lifeT, hi]
  | true =>
    obtain ⟨a, rfl, ha⟩ := in_nat hi
    rw [lifeT_in ha]
    have hm := List.getElem_mem ha
    revert hm
    generalize (sidesT n).sh[a] = x
    intro hm
    unfold sidesT at hm
    split at hm
    · simp [newT, shOf] at hm; subst hm; exact ⟨by decide, by decide⟩
    · split at hm
      · simp [newT, shOf] at hm; subst hm; exact ⟨by decide, by decide⟩
      · simp [newT, shOf] at hm; subst hm; exact ⟨by decide, by decide⟩
theorem addZ_id {a b : Int} (ha : -999 ≤ a ∧ a ≤ 999) (hb : -999 ≤ b ∧ b ≤ 999) (h : -999 ≤ a + b ∧ a + b ≤ 999) : addZ a b = a + b := by
  unfold addZ holdZ
  omega
/-- What Heal and Drain make of the sides. -/
theorem heal_drain (n seat x y : Nat) (hs : seat < 4) (hx : x ≤ 20) (hy : y ≤ 20) :
    let T0 := sidesT n
    let own := ofT T0 seat
    let F := foesT T0 own
    let T2 := drainT (gainT T0 own x) seat y
    lifeT T2 own = lifeT T0 own + x ∧ sumT T2 F = sumT T0 F - (F.length : Int) * y ∧ foesT T2 own = F ∧ (∀ k, -999 ≤ lifeT T2 k ∧ lifeT T2 k ≤ 999) ∧ T2.sh.length = T0.sh.length := by
  intro T0 own F T2
  have hown : 0 ≤ own := sides_of n ⟨by omega, by omega⟩
  have hof : ofT (gainT T0 own x) seat = own := by unfold ofT; rw [gain_sides]; rfl
  have hF1 : foesT (gainT T0 own x) own = F := foes_flags (flags_gain T0 own x) own
  have hT2 : T2 = drainL (gainT T0 own x) y F := by
    show drainL (gainT T0 own x) y (foesT (gainT T0 own x) (ofT (gainT T0 own x) seat)) = _
    rw [hof, hF1]
  have hnF : own ∉ F := fun h => (foes_mem h).2 rfl
  have hnd : F.Nodup := upTo_nodup _ _
  have hld := life_drain y F (gainT T0 own x) hnd (fun z hz => by rw [gain_in]; exact (foes_mem hz).1)
  have hlo : 0 ≤ lifeT T0 own ∧ lifeT T0 own ≤ 30 := sides_life n own
  have hino : inT T0 own = true := by
    have h1 : own < T0.sh.length := by
      have hx4 : (seat : Int) = 0 ∨ (seat : Int) = 1 ∨ (seat : Int) = 2 ∨ (seat : Int) = 3 := by omega
      show ofT (sidesT n) seat < (sidesT n).sh.length
      unfold sidesT
      split
      · rcases hx4 with e | e | e | e <;> rw [e] <;> decide
      · split
        · rcases hx4 with e | e | e | e <;> rw [e] <;> decide
        · rcases hx4 with e | e | e | e <;> rw [e] <;> decide
    simp [inT, hown, h1]
  refine ⟨?_, ?_, ?_, ?_, ?_⟩
  · rw [hT2, hld.1 own hnF, life_gain, if_pos ⟨rfl, hino⟩]
    exact addZ_id (by omega) (by omega) (by omega)
  · rw [hT2]
    refine sum_drain T0 _ y F (fun k hk => ?_)
    have hlk : 0 ≤ lifeT T0 k ∧ lifeT T0 k ≤ 30 := sides_life n k
    rw [hld.2 k hk, life_gain, if_neg (by rintro ⟨e, _⟩; exact (foes_mem hk).2 e)]
    rw [addZ_id (show -999 ≤ lifeT T0 k ∧ lifeT T0 k ≤ 999 from ⟨by have := hlk.1; omega, by have := hlk.2; omega⟩) (by omega) ⟨by have := hlk.1; omega, by have := hlk.2; omega⟩]
    rfl
  · rw [hT2]
    exact (foes_flags ((flags_gain T0 own x).trans (drain_flags _ y F).1) own)
  · intro k
    rw [hT2]
    have hg : -999 ≤ lifeT (gainT T0 own x) k ∧ lifeT (gainT T0 own x) k ≤ 999 := by
      rw [life_gain]
      split
      · exact addZ_in _ _
      · have hlk : 0 ≤ lifeT T0 k ∧ lifeT T0 k ≤ 30 := sides_life n k
        omega
    by_cases hk : k ∈ F
    · rw [hld.2 k hk]
      exact addZ_in _ _
    · rw [hld.1 k hk]
      exact hg
  · rw [hT2, (drain_flags (gainT T0 own x) y F).1.1, gain_len]
end Go.Proofs.YtlfffeinngkjgaaGreat
