/- Plain facts: triggers of what dies need no aim: as many fire as there is room for (layer 13). -/
import Derived.Test.YtookicopjphmnaaGreatRq
namespace Go.Proofs.YtookicopjphmnaaGreat
open Go.RowKit Go.Maps

/-- An object's card, as the table has it. -/
theorem card13 {S : StoreL} {l : List TriL} (h : Made13 S l) (k : Nat) (hk : k < l.length) : cardI S ((k : Int) + 1) = T13.getD l[k].x.toNat zeroC := by
  obtain ⟨_, h2, h3⟩ := obj13 h k hk
  unfold cardI
  rw [if_pos h3]
  unfold cardS
  rw [h2, h.T]
theorem dies_card {x : Int} (h0 : 0 ≤ x) (h6 : x < 6) (h : (T13.getD x.toNat zeroC).whn = 2) : (T13.getD x.toNat zeroC).terms = [⟨8, 2, 0⟩] := by
  obtain ⟨k, rfl⟩ : ∃ k : Nat, x = k := ⟨x.toNat, by omega⟩
  rw [Int.toNat_natCast] at *
  rcases (show k = 0 ∨ k = 1 ∨ k = 2 ∨ k = 3 ∨ k = 4 ∨ k = 5 by omega) with rfl | rfl | rfl | rfl | rfl | rfl
  · exact absurd h (by decide)
  · rfl
  · exact absurd h (by decide)
  · exact absurd h (by decide)
  · exact absurd h (by decide)
  · exact absurd h (by decide)
theorem may_dies {l : List TriL} (hok : l.all okTri = true) (m : Nat) {i : Int} (hi : hasS (made13 l) i) (hw : wouldT (made13 l) i 2 = true) : mayT13 (board13 l m) i = true := by
  have hm := made13_fold l hok
  obtain ⟨k, hk, rfl⟩ := has13 hm hi
  obtain ⟨h0, h6, h1, h4, _⟩ := okTri_at hok k hk
  have ho := (obj13 hm k hk).1
  have hc := card13 hm k hk
  have hwn : (cardI (made13 l) ((k : Int) + 1)).whn = 2 := by
    have h2 := (Bool.and_eq_true _ _ ▸ hw).2
    have h3 := (Bool.and_eq_true _ _ ▸ h2).2
    exact of_decide_eq_true h3
  rw [hc] at hwn
  have ht := dies_card h0 h6 hwn
  obtain ⟨t0, t1⟩ := sides_in m h1 h4
  unfold mayT13 aimT
  rw [show (board13 l m).S = made13 l from rfl, show (board13 l m).T = sidesT m from rfl, ho, hc, ht]
  have e1 : lostT (sidesT m) (ofT (sidesT m) l[k].y) = false := by
    rw [sides_lost]
    simp [inT, t0, t1]
  have e2 : aimL (sidesT m) (made13 l) l[k].y (Crd.aimedAt [⟨8, 2, 0⟩]) = [0] := by
    have e3 : chkT (sidesT m) (made13 l) l[k].y 0 0 = 0 := by
      unfold chkT mayT
      rw [if_neg (by omega)]
      simp
    have e4 : Crd.aimedAt [⟨8, 2, 0⟩] = 0 := rfl
    rw [e4]
    unfold aimL amongL
    rw [if_pos rfl]
    simp [e3]
  rw [e1, e2]
  rfl
def diesL (B : BoardL) (O : List Int) : List Int := O.filter fun i => wouldT B.S i 2
theorem fire_room {l : List TriL} (hok : l.all okTri = true) (m : Nat) (O : List Int) (hO : ∀ x ∈ O, hasS (made13 l) x) (L : List EntL) (hL : L.length ≤ 8) :
    fireL (board13 l m) 2 O L = (min (diesL (board13 l m) O).length (8 - L.length), L ++ ((diesL (board13 l m) O).take (8 - L.length)).map (entT (board13 l m))) := by
  have h : ∀ k, k ≤ O.length → fireL (board13 l m) 2 (O.take k) L = (min (diesL (board13 l m) (O.take k)).length (8 - L.length), L ++ ((diesL (board13 l m) (O.take k)).take (8 - L.length)).map (entT (board13 l m))) := fun k => by
    induction k with
    | zero => intro _; simp [fireL, diesL]
    | succ k ih =>
      intro hk
      rw [take_last O k (by omega), fireL_snoc, ih (by omega)]
      obtain ⟨D, hD⟩ : ∃ D, diesL (board13 l m) (O.take k) = D := ⟨_, rfl⟩
      have hx : hasS (made13 l) O[k] := hO _ (List.getElem_mem _)
      unfold stepFire
      by_cases hw : wouldT (board13 l m).S O[k] 2 = true
      · have hD2 : diesL (board13 l m) (O.take k ++ [O[k]]) = D ++ [O[k]] := by
          rw [← hD]
          unfold diesL
          rw [List.filter_append]
          simp [hw]
        have hmay := may_dies hok m hx hw
        rw [hD, hD2, hw, Bool.true_and]
        unfold pushB
        rw [hmay, Bool.true_and]
        dsimp only
        by_cases h8 : D.length < 8 - L.length
        · have e1 : D.take (8 - L.length) = D := List.take_of_length_le (by omega)
          have e2 : (D ++ [O[k]]).take (8 - L.length) = D ++ [O[k]] := List.take_of_length_le (by simp; omega)
          rw [e1, e2]
          rw [if_pos (decide_eq_true (by simp; omega))]
          rw [List.map_append, ← List.append_assoc, List.length_append]
          simp only [List.length_singleton]
          congr 1
          omega
        · have e2 : (D ++ [O[k]]).take (8 - L.length) = D.take (8 - L.length) := List.take_append_of_le_length (by omega)
          rw [e2, if_neg (by rw [decide_eq_true_eq]; simp; omega), List.length_append]
          congr 1
          simp only [List.length_singleton]
          omega
      · have hD2 : diesL (board13 l m) (O.take k ++ [O[k]]) = D := by
          rw [← hD]
          unfold diesL
          rw [List.filter_append]
          simp [hw]
        rw [hD, hD2, if_neg (by simp [hw])]
  have := h O.length (Nat.le_refl _)
  rwa [List.take_length] at this
end Go.Proofs.YtookicopjphmnaaGreat
