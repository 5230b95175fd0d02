/- Plain facts for the laws of layer 9: who is left and who is next, by who has lost; the list that a range over Foes gathers. -/
import Derived.Test.YtciieodmihgpgaaTk
namespace Go.Proofs.Ytciieodmihgpgaa
open Go.RowKit

theorem own_form {w : World} {lo sz : Nat} {t : TypeId} {v : Value} {n : Nat} {xs : List Value} (h : w.ownsRow lo t sz v n xs) : ∃ xa xc, v = .slice xa n xc := by
  rcases h.2 with ⟨rfl, h0⟩ | ⟨g, cap, cur, rfl, _⟩
  · exact ⟨none, 0, by rw [h0]⟩
  · exact ⟨_, cap, rfl⟩
def lostF (fl : List Bool) (n : Nat) : Bool := fl.getD n true
def leftF (fl : List Bool) : List Int := upTo (fun n => !lostF fl n) fl.length
def nextF (fl : List Bool) (j : Nat) : Nat := ((List.range fl.length).find? fun n => !lostF fl ((j + 1 + n) % fl.length)).elim j fun n => (j + 1 + n) % fl.length
def flags (T : TeamL) : List Bool := T.sh.map (·.lost)
theorem flags_len (T : TeamL) : (flags T).length = T.sh.length := by simp [flags]
theorem lostT_flags (T : TeamL) (n : Nat) : lostT T n = lostF (flags T) n := by
  by_cases h : n < T.sh.length
  · rw [lostT_in h]; simp [lostF, flags, List.getD, h]
  · have e : inL T n = false := by simp [inL]; omega
    rw [lostT, e]
    simp [lostF, flags, List.getD, List.getElem?_eq_none (Nat.not_lt.1 h)]
theorem leftT_flags (T : TeamL) : leftT T = leftF (flags T) := by
  unfold leftT leftF
  rw [flags_len, show (fun n : Nat => !lostT T n) = fun n => !lostF (flags T) n from funext fun n => by rw [lostT_flags]]
theorem nextN_flags (T : TeamL) (j : Nat) : nextN T j = nextF (flags T) j := by
  unfold nextN nextF
  rw [flags_len, show (fun n : Nat => !lostT T ((j + 1 + n) % T.sh.length : Nat)) = fun n => !lostF (flags T) ((j + 1 + n) % T.sh.length) from funext fun n => by rw [lostT_flags]]
theorem foesT_none (T : TeamL) : foesT T (-1) = leftT T := by
  unfold foesT leftT
  rw [show foeB T (-1) = fun n : Nat => !lostT T n from funext fun n => by
    unfold foeB
    rw [show ((n : Int) != -1) = true from bne_iff_ne.2 (by omega), Bool.true_and]]
def ringOk (fl : List Bool) : Bool := (List.range (leftF fl).length).all fun i => (decide (0 ≤ (leftF fl).getD i 0) && decide ((leftF fl).getD i 0 < fl.length)) && ((nextF fl ((leftF fl).getD i 0).toNat : Int) == (leftF fl).getD ((i + 1) % (leftF fl).length) 0)
theorem ring_ok : ∀ fl : List Bool, fl.length ≤ 4 → ringOk fl = true
  | [], _ => by decide
  | [a], _ => by revert a; decide
  | [a, b], _ => by revert a b; decide
  | [a, b, c], _ => by revert a b c; decide
  | [a, b, c, d], _ => by revert a b c d; decide
  | a :: b :: c :: d :: e :: t, h => by simp at h
theorem ring_next {T : TeamL} (h : T.sh.length ≤ 4) (i : Nat) (hi : i < (leftT T).length) : nextT T ((leftT T).getD i 0) = (leftT T).getD ((i + 1) % (leftT T).length) 0 := by
  have h1 := ring_ok (flags T) (by rw [flags_len]; exact h)
  unfold ringOk at h1
  rw [← leftT_flags, List.all_eq_true] at h1
  have h2 := h1 i (List.mem_range.2 hi)
  simp only [Bool.and_eq_true, decide_eq_true_eq, beq_iff_eq] at h2
  obtain ⟨⟨h3, h4⟩, h5⟩ := h2
  rw [flags_len] at h4
  have e : inL T ((leftT T).getD i 0) = true := by simp only [inL, Bool.and_eq_true, decide_eq_true_eq]; exact ⟨h3, h4⟩
  rw [nextT, if_pos e, nextN_flags, h5]
/-- What a range over Foes holds: a list of numbers, in a box. -/
def IntsI (q : Nat) (A Wr : World) (pre : List Int) (W : World) : Prop :=
  ∃ v, ListIn W A.heap.size q v pre ∧ KpP (fun _ => False) (fun k => k = q) Wr W ∧ Below A.heap.size A W ∧ pre.length ≤ 1000
theorem intsI_own {q B : Nat} {A Wr : World} (hA : A.heap.size ≤ B) (hB : Wr.heap.size ≤ B) : OwnFrom B (IntsI q A Wr) := by
  rintro s X Y row ⟨v, h1, h2, h3, h4⟩ hg hr
  exact ⟨v, h1.grown hg fun r e => (hr r e).2, kpP_own (β := Unit) hB () X Y row h2 hg hr, ownFrom_below (β := Unit) (Nat.le_refl _) hA () X Y row h3 hg hr, h4⟩
theorem lits_take (W : World) (g : Nat) (L : List Int) (n : Nat) (hn : n ≤ L.length) (h : W.heap[g]? = some (.cells (intsV L).toArray 3 (0, 0))) (cap : Nat) : IntsAt W (.slice (some ⟨g, 0, none⟩) n cap) (L.take n) := by
  have hl : (L.take n).length = n := by simp; omega
  refine .inr ⟨g, 0, cap, by rw [intsV_len, hl], (Array.getElem?_eq_some_iff.1 h).1, fun i hi => ?_⟩
  rw [intsV_len, hl] at hi
  rw [cell_of_row W g _ _ _ _ h]
  simp [intsV, show i < L.length by omega]
end Go.Proofs.Ytciieodmihgpgaa
