/- Plain facts for the laws of layer 9: who is left and who is next, by who has lost; the list that a range over Foes gathers. -/
import Derived.Test.YtgjojjhppgjkkaaGreatTk
namespace Go.Proofs.YtgjojjhppgjkkaaGreat
open Go.RowKit

def lostF (fl : List Bool) (n : Nat) : Bool := fl.getD n true
def flags (T : TeamL) : List Bool := T.sh.map (·.lost)
theorem flags_len (T : TeamL) : (flags T).length = T.sh.length := by simp [flags]
theorem lostT_flags (T : TeamL) (n : Nat) : lostT T n = lostF (flags T) n := by
  by_cases h : n < T.sh.length
  · rw [lostT_in h]; simp [lostF, flags, List.getD, h]
  · have e : inT T n = false := by simp [inT]; omega
    rw [lostT, e]
    simp [lostF, flags, List.getD, List.getElem?_eq_none (Nat.not_lt.1 h)]
theorem foesT_none (T : TeamL) : foesT T (-1) = leftT T := by
  unfold foesT leftT
  rw [show foeB T (-1) = fun n : Nat => !lostT T n from funext fun n => by
    unfold foeB
    rw [show ((n : Int) != -1) = true from bne_iff_ne.2 (by omega), Bool.true_and]]
/-- What a range over Foes holds: a list of numbers, in a box. -/
def IntsI (q : Nat) (A Wr : World) (pre : List Int) (W : World) : Prop :=
  ∃ v, ListIn W A.heap.size q v pre ∧ KpP (fun _ => False) (fun k => k = q) Wr W ∧ Below A.heap.size A W ∧ pre.length ≤ 1000
theorem intsI_own {q B : Nat} {A Wr : World} (hA : A.heap.size ≤ B) (hB : Wr.heap.size ≤ B) : OwnFrom B (IntsI q A Wr) := by
  rintro s X Y row ⟨v, h1, h2, h3, h4⟩ hg hr
  exact ⟨v, h1.grown hg fun r e => (hr r e).2, kpP_own (β := Unit) hB () X Y row h2 hg hr, ownFrom_below (β := Unit) (Nat.le_refl _) hA () X Y row h3 hg hr, h4⟩
theorem lits_take (W : World) (g : Nat) (L : List Int) (n : Nat) (hn : n ≤ L.length) (h : W.heap[g]? = some (.cells (intsV L).toArray 3 (0, 0))) (cap : Nat) : IntsAt W (.slice (some ⟨g, 0, none⟩) n cap) (L.take n) := by
  have hl : (L.take n).length = n := by simp; omega
  refine .inr ⟨g, 0, cap, by rw [intsV_len, hl], (Array.getElem?_eq_some_iff.1 h).1, fun i hi => ?_⟩
  rw [intsV_len, hl] at hi
  rw [cell_of_row W g _ _ _ _ h]
  simp [intsV, show i < L.length by omega]
end Go.Proofs.YtgjojjhppgjkkaaGreat
