/- Plain facts for the laws of layer 16: the three ways to seat four. -/
import Derived.Test.YtciieodmihgpgaaPf
namespace Go.Proofs.Ytciieodmihgpgaa

def three : List TeamL := [newT [0, 0, 1, 1] [30, 30], newT [0, 1, 1, 1] [30, 30], newT [0, 1, 2, 3] [20, 20, 20, 20]]
theorem sides_three (n : Nat) : sidesT n ∈ three := by
  unfold sidesT three
  split
  · simp
  · split <;> simp
/-- Of each team: it has a seat, a next team, and all are left. -/
def teamOk (T : TeamL) (k : Nat) : Bool := decide (1 ≤ (seatsT T k).length) && (decide (0 ≤ nextT T k) && (decide (nextT T k < T.sh.length) && decide (leftN T k = T.sh.length)))
theorem three_ok : ∀ T ∈ three, (T.sh.length ≤ 4 ∧ 2 ≤ T.sh.length) ∧ ∀ k < T.sh.length, teamOk T k = true := by
  intro T hT
  simp only [three, List.mem_cons, List.not_mem_nil, or_false] at hT
  rcases hT with rfl | rfl | rfl
  · exact ⟨by decide, by decide⟩
  · exact ⟨by decide, by decide⟩
  · exact ⟨by decide, by decide⟩
/-- Priority within bounds. -/
def Fit (T : TeamL) (P : PriL) : Prop := (0 ≤ P.team ∧ P.team < T.sh.length) ∧ 0 ≤ P.row ∧ P.row ≤ 3
theorem fit_ok {T : TeamL} {P : PriL} (hT : T ∈ three) (h : Fit T P) : 1 ≤ (seatsT T P.team).length ∧ (0 ≤ nextT T P.team ∧ nextT T P.team < T.sh.length) ∧ leftN T P.team = T.sh.length := by
  obtain ⟨k, hk⟩ : ∃ k : Nat, P.team = k := ⟨P.team.toNat, by have := h.1; omega⟩
  have h1 := (three_ok T hT).2 k (by have := h.1; omega)
  rw [hk]
  simp only [teamOk, Bool.and_eq_true, decide_eq_true_eq] at h1
  exact ⟨h1.1, ⟨h1.2.1, h1.2.2.1⟩, h1.2.2.2⟩
theorem fit_turn {T : TeamL} {P : PriL} (hT : T ∈ three) (h : Fit T P) : Fit T (turnP T P).1 := by
  have h1 := fit_ok hT h
  have h2 := (three_ok T hT).1
  unfold turnP
  split
  · exact ⟨h1.2.1, by simp, by simp⟩
  · rename_i hn
    have := h.2
    exact ⟨h1.2.1, by show 0 ≤ P.row + 1; omega, by show P.row + 1 ≤ 3; omega⟩
theorem fit_pass {T : TeamL} {P : PriL} (hT : T ∈ three) (h : Fit T P) (x : Int) : Fit T (passP T P x).1 := by
  unfold passP
  split
  · exact h
  · exact fit_turn hT (P := ⟨P.team, P.row, P.p.put x⟩) h
theorem fit_new {T : TeamL} {k : Int} (h0 : 0 ≤ k) (h1 : k < T.sh.length) : Fit T ⟨k, 0, no4⟩ := ⟨⟨h0, h1⟩, by simp, by simp⟩
/-! Not all have passed within the first calls. -/
def early (T : TeamL) : Bool := (List.range 4).all fun x : Nat => !mayP T ⟨0, 0, no4⟩ x || ((passP T ⟨0, 0, no4⟩ x).2 != 2 && (List.range 4).all fun y : Nat => !mayP T (passP T ⟨0, 0, no4⟩ x).1 y || (passP T (passP T ⟨0, 0, no4⟩ x).1 y).2 != 2)
theorem three_early : ∀ T ∈ three, early T = true := by
  intro T hT
  simp only [three, List.mem_cons, List.not_mem_nil, or_false] at hT
  rcases hT with rfl | rfl | rfl
  · rfl
  · rfl
  · rfl
/-- What priority may be ahead of call k. -/
def Soon (T : TeamL) (k : Nat) (P : PriL) : Prop := (k = 0 → P = ⟨0, 0, no4⟩) ∧ (k = 1 → P = ⟨0, 0, no4⟩ ∨ ∃ x : Int, 0 ≤ x ∧ x < 4 ∧ mayP T ⟨0, 0, no4⟩ x = true ∧ P = (passP T ⟨0, 0, no4⟩ x).1)
theorem early_one {T : TeamL} (hT : T ∈ three) {x : Int} (h0 : 0 ≤ x) (h4 : x < 4) (hm : mayP T ⟨0, 0, no4⟩ x = true) :
    (passP T ⟨0, 0, no4⟩ x).2 ≠ 2 ∧ ∀ y : Int, 0 ≤ y → y < 4 → mayP T (passP T ⟨0, 0, no4⟩ x).1 y = true → (passP T (passP T ⟨0, 0, no4⟩ x).1 y).2 ≠ 2 := by
  obtain ⟨n, rfl⟩ : ∃ n : Nat, x = n := ⟨x.toNat, by omega⟩
  have h1 := List.all_eq_true.1 (three_early T hT) n (List.mem_range.2 (by omega))
  simp only [Bool.or_eq_true, Bool.not_eq_true', Bool.and_eq_true, bne_iff_ne] at h1
  rcases h1 with h1 | ⟨h1, h2⟩
  · rw [hm] at h1; cases h1
  · refine ⟨h1, fun y hy0 hy4 hmy => ?_⟩
    obtain ⟨m, rfl⟩ : ∃ m : Nat, y = m := ⟨y.toNat, by omega⟩
    have h3 := List.all_eq_true.1 h2 m (List.mem_range.2 (by omega))
    simp only [Bool.or_eq_true, Bool.not_eq_true', bne_iff_ne] at h3
    rcases h3 with h3 | h3
    · rw [hmy] at h3; cases h3
    · exact h3
theorem soon_pass {T : TeamL} (hT : T ∈ three) {k : Nat} {P : PriL} (hs : Soon T k P) {x : Int} (h0 : 0 ≤ x) (h4 : x < 4) (hm : mayP T P x = true) (hk2 : k ≠ 2) :
    Soon T (k + 1) (passP T P x).1 ∧ ((passP T P x).2 = 2 → ¬k < 3) := by
  refine ⟨⟨fun e => by omega, fun e => .inr ?_⟩, fun e hk3 => ?_⟩
  · have hP := hs.1 (by omega)
    subst hP
    exact ⟨x, h0, h4, hm, rfl⟩
  · have hk : k = 0 ∨ k = 1 := by omega
    rcases hk with rfl | rfl
    · have hP := hs.1 rfl
      subst hP
      exact (early_one hT h0 h4 hm).1 e
    · rcases hs.2 rfl with hP | ⟨z, hz0, hz4, hzm, hP⟩
      · subst hP
        exact (early_one hT h0 h4 hm).1 e
      · subst hP
        exact (early_one hT hz0 hz4 hzm).2 x h0 h4 hm e
theorem soon_stay {T : TeamL} {k : Nat} {P : PriL} (hs : Soon T k P) : Soon T (k + 1) P := ⟨fun e => by omega, fun e => .inl (hs.1 (by omega))⟩
theorem soon_late {T : TeamL} {k : Nat} {P : PriL} (hk : 2 ≤ k) : Soon T k P := ⟨fun e => by omega, fun e => by omega⟩
end Go.Proofs.Ytciieodmihgpgaa
