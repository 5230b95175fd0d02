/- The document's Term, and what the table's cards are (layers 2 and 7). -/
import Derived.Test.YtgjojjhppgjkkaaGreatJm
import Derived.Test.YtgjojjhppgjkkaaGreatCd
namespace Go.Proofs.YtgjojjhppgjkkaaGreat.Crd
open Go.RowKit

set_option maxRecDepth 100000 in
set_option maxHeartbeats 3200000 in
theorem refTerm_any (t : TermL) (w : World) : Calls Tryz.prog 15 #[tval t] w (RetB w (termB t)) := by
  obtain ⟨op, n, on⟩ := t
  unfold tval
  by_cases h0 : n < 0
  · have HT := Lib.hid (show termB ⟨op, n, on⟩ = false by simp [termB]; omega)
    rw [HT.out]
    go_enter Tryz.func15, Tryz.ntmps15
    go_wp2
    go_ret
    exact ⟨rfl, below_new w _⟩
  by_cases h1 : 20 < n
  · have HT := Lib.hid (show termB ⟨op, n, on⟩ = false by simp only [termB, mostI]; split <;> simp <;> omega)
    rw [HT.out]
    go_enter Tryz.func15, Tryz.ntmps15
    go_wp2
    go_ret
    exact ⟨rfl, below_new w _⟩
  have h0' : 0 ≤ n := by omega
  have h1' : n ≤ 20 := by omega
  have hx : op = 1 ∨ op = 2 ∨ op = 3 ∨ op = 4 ∨ op = 5 ∨ op = 6 ∨ op = 7 ∨ op = 8 ∨ op = 9 ∨ (op ≠ 1 ∧ op ≠ 2 ∧ op ≠ 3 ∧ op ≠ 4 ∧ op ≠ 5 ∧ op ≠ 6 ∧ op ≠ 7 ∧ op ≠ 8 ∧ op ≠ 9) := by omega
  have d0 : decide (n < 0) = false := decide_eq_false h0
  have d1 : decide (20 < n) = false := decide_eq_false h1
  have dd : decide (0 ≤ n) = true := decide_eq_true h0'
  have d2 : decide (n ≤ 20) = true := decide_eq_true h1'
  clear h0 h1
  rcases hx with rfl | rfl | rfl | rfl | rfl | rfl | rfl | rfl | rfl | ⟨g1, g2, g3, g4, g5, g6, g7, g8, g9⟩
  · by_cases k1 : on = 1
    · subst k1
      have HT := Lib.hid (show termB ⟨1, n, 1⟩ = true by simp [termB, mostI, aimsI, h0', h1'])
      rw [HT.out]
      go_enter Tryz.func15, Tryz.ntmps15
      go_wp2
      go_ret
      exact ⟨rfl, below_new w _⟩
    by_cases k2 : on = 2
    · subst k2
      have HT := Lib.hid (show termB ⟨1, n, 2⟩ = true by simp [termB, mostI, aimsI, h0', h1'])
      rw [HT.out]
      go_enter Tryz.func15, Tryz.ntmps15
      go_wp2
      go_ret
      exact ⟨rfl, below_new w _⟩
    have b1 : (on == 1) = false := beq_eq_false_iff_ne.2 k1
    have b2 : (on == 2) = false := beq_eq_false_iff_ne.2 k2
    have HT := Lib.hid (show termB ⟨1, n, on⟩ = (on == 4) by simp [termB, mostI, aimsI, h0', h1', k1, k2]; rfl)
    rw [HT.out]
    clear k1 k2
    go_enter Tryz.func15, Tryz.ntmps15
    go_wp2
    go_ret
    exact ⟨rfl, below_new w _⟩
  · have HT := Lib.hid (show termB ⟨2, n, on⟩ = (on == 0) by simp [termB, mostI, aimsI, h0', h1']; rfl)
    rw [HT.out]
    go_enter Tryz.func15, Tryz.ntmps15
    go_wp2
    all_goals
      go_ret
      exact ⟨ret_bool (by first | rfl | simp [*]), below_new w _⟩
  · have HT := Lib.hid (show termB ⟨3, n, on⟩ = (on == 0) by simp [termB, mostI, aimsI, h0', h1']; rfl)
    rw [HT.out]
    go_enter Tryz.func15, Tryz.ntmps15
    go_wp2
    all_goals
      go_ret
      exact ⟨ret_bool (by first | rfl | simp [*]), below_new w _⟩
  · have HT := Lib.hid (show termB ⟨4, n, on⟩ = (on == 1 || on == 3) by simp [termB, mostI, aimsI, h0', h1']; rfl)
    rw [HT.out]
    go_enter Tryz.func15, Tryz.ntmps15
    go_wp2
    all_goals
      go_ret
      exact ⟨ret_bool (by first | rfl | simp [*]), below_new w _⟩
  · have HT := Lib.hid (show termB ⟨5, n, on⟩ = (on == 1 || on == 3) by simp [termB, mostI, aimsI, h0', h1']; rfl)
    rw [HT.out]
    go_enter Tryz.func15, Tryz.ntmps15
    go_wp2
    all_goals
      go_ret
      exact ⟨ret_bool (by first | rfl | simp [*]), below_new w _⟩
  · have e : decide (n ≤ 0) = (n == 0) := by (rw [Bool.eq_iff_iff]; simp; omega)
    have HT := Lib.hid (show termB ⟨6, n, on⟩ = (n == 0 && (on == 1 || on == 2)) by simp only [termB, mostI, aimsI, dd]; rw [← e]; simp; rfl)
    clear e
    rw [HT.out]
    go_enter Tryz.func15, Tryz.ntmps15
    go_wp2
    all_goals
      go_ret
      exact ⟨ret_bool (by first | rfl | simp [*]), below_new w _⟩
  · have e : decide (n ≤ 0) = (n == 0) := by (rw [Bool.eq_iff_iff]; simp; omega)
    have HT := Lib.hid (show termB ⟨7, n, on⟩ = (n == 0 && (on == 1 || on == 2)) by simp only [termB, mostI, aimsI, dd]; rw [← e]; simp; rfl)
    clear e
    rw [HT.out]
    go_enter Tryz.func15, Tryz.ntmps15
    go_wp2
    all_goals
      go_ret
      exact ⟨ret_bool (by first | rfl | simp [*]), below_new w _⟩
  · have HT := Lib.hid (show termB ⟨8, n, on⟩ = (on == 0) by simp [termB, mostI, aimsI, h0', h1']; rfl)
    rw [HT.out]
    go_enter Tryz.func15, Tryz.ntmps15
    go_wp2
    all_goals
      go_ret
      exact ⟨ret_bool (by first | rfl | simp [*]), below_new w _⟩
  · have e : decide (n ≤ 0) = (n == 0) := by (rw [Bool.eq_iff_iff]; simp; omega)
    have HT := Lib.hid (show termB ⟨9, n, on⟩ = (n == 0 && (on == 1 || on == 2)) by simp only [termB, mostI, aimsI, dd]; rw [← e]; simp; rfl)
    clear e
    rw [HT.out]
    go_enter Tryz.func15, Tryz.ntmps15
    go_wp2
    all_goals
      go_ret
      exact ⟨ret_bool (by first | rfl | simp [*]), below_new w _⟩
  · have HT := Lib.hid (show termB ⟨op, n, on⟩ = false by simp [termB, aimsI, g1, g2, g3, g4, g5, g6, g7, g8, g9])
    have b1 : (op == 1) = false := beq_eq_false_iff_ne.2 g1
    have b2 : (op == 2) = false := beq_eq_false_iff_ne.2 g2
    have b3 : (op == 3) = false := beq_eq_false_iff_ne.2 g3
    have b4 : (op == 4) = false := beq_eq_false_iff_ne.2 g4
    have b5 : (op == 5) = false := beq_eq_false_iff_ne.2 g5
    have b6 : (op == 6) = false := beq_eq_false_iff_ne.2 g6
    have b7 : (op == 7) = false := beq_eq_false_iff_ne.2 g7
    have b8 : (op == 8) = false := beq_eq_false_iff_ne.2 g8
    have b9 : (op == 9) = false := beq_eq_false_iff_ne.2 g9
    clear g1 g2 g3 g4 g5 g6 g7 g8 g9
    rw [HT.out]
    go_enter Tryz.func15, Tryz.ntmps15
    go_wp2
    all_goals
      go_ret
      exact ⟨ret_bool (by first | rfl | simp [*]), below_new w _⟩

end Go.Proofs.YtgjojjhppgjkkaaGreat.Crd
namespace Go.Proofs.YtgjojjhppgjkkaaGreat
open Go.RowKit Go.Maps

theorem table_form {w : World} {v : Value} (h : Crd.CardsAt w v T7) : ∃ b o cap, v = .slice (some ⟨b, o, none⟩) 4 cap := by
  rcases h with ⟨_, _, _, h2⟩ | ⟨b, off, cap, h1, _⟩
  · cases h2
  · exact ⟨b, off, cap, h1⟩
theorem table_kind {w : World} {b o cap : Nat} (h : Crd.CardsAt w (.slice (some ⟨b, o, none⟩) 4 cap) T7) (c : Nat) (hc : c < T7.length) : w.cell? ⟨b, o + c * 7, none⟩ = some (.int .i64 T7[c].kind) := by
  rcases h with ⟨_, _, _, h2⟩ | ⟨b', off, cap', h1, _, hcell⟩
  · cases h2
  · injection h1 with h1 _ _
    injection h1 with h1
    injection h1 with h3 h4
    subst h3 h4
    obtain ⟨_, _, c0, _⟩ := hcell c hc
    exact c0
end Go.Proofs.YtgjojjhppgjkkaaGreat
