/- Plain facts of what may be aimed at (layer 10): what All tells, by the piles and the teams. -/
import Derived.Test.YtgjojjhppgjkkaaGreatAf
import Derived.Test.YtgjojjhppgjkkaaGreatTn
namespace Go.Proofs.YtgjojjhppgjkkaaGreat
open Go.RowKit Go.Maps

theorem sides_len (n : Nat) : (sidesT n).sides.length = 4 ∧ 2 ≤ (sidesT n).sh.length ∧ (sidesT n).sh.length ≤ 4 := by
  unfold sidesT
  split
  · decide
  · split <;> decide
theorem sides_of (n : Nat) {x : Int} (h : 0 ≤ x ∧ x < 4) : 0 ≤ ofT (sidesT n) x := by
  have hx : x = 0 ∨ x = 1 ∨ x = 2 ∨ x = 3 := by omega
  unfold sidesT
  split
  · rcases hx with rfl | rfl | rfl | rfl <;> decide
  · split <;> rcases hx with rfl | rfl | rfl | rfl <;> decide
theorem sides_out (n : Nat) {x : Int} (h : x < 0 ∨ 3 < x) : ofT (sidesT n) x = -1 := by
  unfold ofT
  split
  · rename_i h0
    have := (sides_len n).1
    have hk : ¬ x.toNat < (sidesT n).sides.length := by omega
    simp [List.getD, hk]
  · rfl
theorem sides_two {n : Nat} (hn : n % 3 ≠ 2) {x : Int} (h0 : 0 ≤ x) (h4 : x < 4) : ofT (sidesT n) x = 0 ∨ ofT (sidesT n) x = 1 := by
  have hx : x = 0 ∨ x = 1 ∨ x = 2 ∨ x = 3 := by omega
  unfold sidesT
  rw [if_neg hn]
  split
  · rcases hx with rfl | rfl | rfl | rfl <;> decide
  · rcases hx with rfl | rfl | rfl | rfl <;> decide
theorem sides_lost (n : Nat) (k : Int) : lostT (sidesT n) k = !inT (sidesT n) k := by
  unfold lostT
  cases hi : inT (sidesT n) k with
  | false => rfl
  | true =>
    simp only [inT, Bool.and_eq_true, decide_eq_true_eq] at hi
    have hk : k.toNat < (sidesT n).sh.length := by omega
    have hall : ∀ x ∈ (sidesT n).sh, x.lost = false := by
      unfold sidesT newT shOf
      split
      · simp
      · split <;> simp
    have hm := hall _ (List.getElem_mem hk)
    simp [List.getD, hk, hm]
end Go.Proofs.YtgjojjhppgjkkaaGreat
