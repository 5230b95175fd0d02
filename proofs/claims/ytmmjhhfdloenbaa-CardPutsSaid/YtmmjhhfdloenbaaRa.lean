/- The document's own answers for layer 2 (package hydraref02), walked: Term and Aimed. -/
import Derived.Test.YtmmjhhfdloenbaaCg
namespace Go.Proofs.Ytmmjhhfdloenbaa
open Go.RowKit

set_option maxRecDepth 100000 in
set_option maxHeartbeats 3200000 in
theorem refTerm_any (t : TermL) (w : World) : Calls Try.prog 104 #[tval t] w (RetB w (termB t)) := by
  obtain ⟨op, n, on⟩ := t
  unfold tval
  by_cases h0 : n < 0
  · have HT := Lib.hid (show termB ⟨op, n, on⟩ = false by simp [termB]; omega)
    rw [HT.out]
    go_enter Try.func104, Try.ntmps104
    go_wp2
    go_ret
    exact ⟨rfl, below_new w _⟩
  by_cases h1 : 20 < n
  · have HT := Lib.hid (show termB ⟨op, n, on⟩ = false by simp only [termB, mostI]; split <;> simp <;> omega)
    rw [HT.out]
    go_enter Try.func104, Try.ntmps104
    go_wp2
    go_ret
    exact ⟨rfl, below_new w _⟩
  have h0' : 0 ≤ n := by omega
  have h1' : n ≤ 20 := by omega
  have hx : op = 1 ∨ op = 2 ∨ op = 3 ∨ op = 4 ∨ op = 5 ∨ op = 6 ∨ op = 7 ∨ op = 8 ∨ op = 9 ∨ (op ≠ 1 ∧ op ≠ 2 ∧ op ≠ 3 ∧ op ≠ 4 ∧ op ≠ 5 ∧ op ≠ 6 ∧ op ≠ 7 ∧ op ≠ 8 ∧ op ≠ 9) := by omega
  have d0 : decide (n < 0) = false := decide_eq_false h0
  have d1 : decide (20 < n) = false := decide_eq_false h1
  have dd : decide (0 ≤ n) = true := decide_eq_true h0'
  have d2 : decide (n ≤ 20) = true := decide_eq_true h1'
  clear h0 h1
  rcases hx with rfl | rfl | rfl | rfl | rfl | rfl | rfl | rfl | rfl | ⟨g1, g2, g3, g4, g5, g6, g7, g8, g9⟩
  · by_cases k1 : on = 1
    · subst k1
      have HT := Lib.hid (show termB ⟨1, n, 1⟩ = true by simp [termB, mostI, aimsI, h0', h1'])
      rw [HT.out]
      go_enter Try.func104, Try.ntmps104
      go_wp2
      go_ret
      exact ⟨rfl, below_new w _⟩
    by_cases k2 : on = 2
    · subst k2
      have HT := Lib.hid (show termB ⟨1, n, 2⟩ = true by simp [termB, mostI, aimsI, h0', h1'])
      rw [HT.out]
      go_enter Try.func104, Try.ntmps104
      go_wp2
      go_ret
      exact ⟨rfl, below_new w _⟩
    have b1 : (on == 1) = false := beq_eq_false_iff_ne.2 k1
    have b2 : (on == 2) = false := beq_eq_false_iff_ne.2 k2
    have HT := Lib.hid (show termB ⟨1, n, on⟩ = (on == 4) by simp [termB, mostI, aimsI, h0', h1', k1, k2]; rfl)
    rw [HT.out]
    clear k1 k2
    go_enter Try.func104, Try.ntmps104
    go_wp2
    go_ret
    exact ⟨rfl, below_new w _⟩
  · have HT := Lib.hid (show termB ⟨2, n, on⟩ = (on == 0) by simp [termB, mostI, aimsI, h0', h1']; rfl)
    rw [HT.out]
    go_enter Try.func104, Try.ntmps104
    go_wp2
    all_goals
      go_ret
      exact ⟨ret_bool (by first | rfl | simp [*]), below_new w _⟩
  · have HT := Lib.hid (show termB ⟨3, n, on⟩ = (on == 0) by simp [termB, mostI, aimsI, h0', h1']; rfl)
    rw [HT.out]
    go_enter Try.func104, Try.ntmps104
    go_wp2
    all_goals
      go_ret
      exact ⟨ret_bool (by first | rfl | simp [*]), below_new w _⟩
  · have HT := Lib.hid (show termB ⟨4, n, on⟩ = (on == 1 || on == 3) by simp [termB, mostI, aimsI, h0', h1']; rfl)
    rw [HT.out]
    go_enter Try.func104, Try.ntmps104
    go_wp2
    all_goals
      go_ret
      exact ⟨ret_bool (by first | rfl | simp [*]), below_new w _⟩
  · have HT := Lib.hid (show termB ⟨5, n, on⟩ = (on == 1 || on == 3) by simp [termB, mostI, aimsI, h0', h1']; rfl)
    rw [HT.out]
    go_enter Try.func104, Try.ntmps104
    go_wp2
    all_goals
      go_ret
      exact ⟨ret_bool (by first | rfl | simp [*]), below_new w _⟩
  · have e : decide (n ≤ 0) = (n == 0) := by (rw [Bool.eq_iff_iff]; simp; omega)
    have HT := Lib.hid (show termB ⟨6, n, on⟩ = (n == 0 && (on == 1 || on == 2)) by simp only [termB, mostI, aimsI, dd]; rw [← e]; simp; rfl)
    clear e
    rw [HT.out]
    go_enter Try.func104, Try.ntmps104
    go_wp2
    all_goals
      go_ret
      exact ⟨ret_bool (by first | rfl | simp [*]), below_new w _⟩
  · have e : decide (n ≤ 0) = (n == 0) := by (rw [Bool.eq_iff_iff]; simp; omega)
    have HT := Lib.hid (show termB ⟨7, n, on⟩ = (n == 0 && (on == 1 || on == 2)) by simp only [termB, mostI, aimsI, dd]; rw [← e]; simp; rfl)
    clear e
    rw [HT.out]
    go_enter Try.func104, Try.ntmps104
    go_wp2
    all_goals
      go_ret
      exact ⟨ret_bool (by first | rfl | simp [*]), below_new w _⟩
  · have HT := Lib.hid (show termB ⟨8, n, on⟩ = (on == 0) by simp [termB, mostI, aimsI, h0', h1']; rfl)
    rw [HT.out]
    go_enter Try.func104, Try.ntmps104
    go_wp2
    all_goals
      go_ret
      exact ⟨ret_bool (by first | rfl | simp [*]), below_new w _⟩
  · have e : decide (n ≤ 0) = (n == 0) := by (rw [Bool.eq_iff_iff]; simp; omega)
    have HT := Lib.hid (show termB ⟨9, n, on⟩ = (n == 0 && (on == 1 || on == 2)) by simp only [termB, mostI, aimsI, dd]; rw [← e]; simp; rfl)
    clear e
    rw [HT.out]
    go_enter Try.func104, Try.ntmps104
    go_wp2
    all_goals
      go_ret
      exact ⟨ret_bool (by first | rfl | simp [*]), below_new w _⟩
  · have HT := Lib.hid (show termB ⟨op, n, on⟩ = false by simp [termB, aimsI, g1, g2, g3, g4, g5, g6, g7, g8, g9])
    have b1 : (op == 1) = false := beq_eq_false_iff_ne.2 g1
    have b2 : (op == 2) = false := beq_eq_false_iff_ne.2 g2
    have b3 : (op == 3) = false := beq_eq_false_iff_ne.2 g3
    have b4 : (op == 4) = false := beq_eq_false_iff_ne.2 g4
    have b5 : (op == 5) = false := beq_eq_false_iff_ne.2 g5
    have b6 : (op == 6) = false := beq_eq_false_iff_ne.2 g6
    have b7 : (op == 7) = false := beq_eq_false_iff_ne.2 g7
    have b8 : (op == 8) = false := beq_eq_false_iff_ne.2 g8
    have b9 : (op == 9) = false := beq_eq_false_iff_ne.2 g9
    clear g1 g2 g3 g4 g5 g6 g7 g8 g9
    rw [HT.out]
    go_enter Try.func104, Try.ntmps104
    go_wp2
    all_goals
      go_ret
      exact ⟨ret_bool (by first | rfl | simp [*]), below_new w _⟩

set_option maxRecDepth 100000 in
set_option maxHeartbeats 800000 in
theorem refAimed_some (l : List TermL) (b off cap : Nat) (w : World) (hlen : l.length ≤ 9223372036854775807)
    (hc : ∀ i (h : i < l.length), w.cell? ⟨b, off + i * 3, none⟩ = some (.int .i64 l[i].op) ∧ w.cell? ⟨b, off + i * 3 + 1, none⟩ = some (.int .i64 l[i].n) ∧ w.cell? ⟨b, off + i * 3 + 2, none⟩ = some (.int .i64 l[i].on)) :
    Calls Try.prog 103 #[.slice (some ⟨b, off, none⟩) l.length cap] w fun e w' => e = .returned (.int .i64 (aimedN l)) ∧ w = w' := by
  have HC := Lib.hid hc
  clear hc
  go_enter Try.func103, Try.ntmps103
  go_wp2
  go_loop [3, 4] (fun n i => ∃ k : Nat, k ≤ l.length ∧ i = .int .i64 k ∧ n = .int .i64 (aimedN (l.take k))) (fun _ i => l.length - (intOf i).toNat)
  case atStart => exact ⟨0, Nat.zero_le _, rfl, rfl⟩
  case round =>
    obtain ⟨k, hk, rfl, rfl⟩ := hrel
    have hle := aimedN_le (l.take k)
    have hle2 := List.length_take_le k l
    by_cases hlt : k < l.length
    · have h3 := HC.out k hlt
      have c2 := h3.2.2
      clear h3
      by_cases h0 : l[k].on = 0
      · have hb : (l[k].on != 0) = false := by simp [h0]
        have HN := Lib.hid (aimed_no l k hlt h0)
        clear h0
        go_wp2
        go_round
        case rel => exact ⟨k + 1, by omega, by go_num, by rw [HN.out]⟩
        case measure => simp [intOf]; omega
      · have hb : (l[k].on != 0) = true := by simp [h0]
        have HN := Lib.hid (aimed_yes l k hlt h0)
        clear h0
        go_wp2
        go_round
        case rel => exact ⟨k + 1, by omega, by go_num, by rw [HN.out]; go_num⟩
        case measure => simp [intOf]; omega
    · obtain rfl : k = l.length := by omega
      go_wp2
      go_ret
      exact ⟨ret_int rfl, rfl⟩

set_option maxRecDepth 100000 in
set_option maxHeartbeats 800000 in
theorem refAimed_none (xa : Option Addr) (cap : Nat) (w : World) : Calls Try.prog 103 #[.slice xa 0 cap] w fun e w' => e = .returned (.int .i64 (aimedN [])) ∧ w = w' := by
  go_enter Try.func103, Try.ntmps103
  go_wp2
  go_loop [3, 4] (fun n i => i = .int .i64 0 ∧ n = .int .i64 0) (fun _ _ => 0)
  case atStart => exact ⟨rfl, rfl⟩
  case round =>
    obtain ⟨rfl, rfl⟩ := hrel
    go_wp2
    go_ret
    exact ⟨rfl, rfl⟩

theorem refAimed_any {l : List TermL} {v : Value} {w : World} (h : TermsIs w v l) (hlen : l.length ≤ 9223372036854775807) :
    Calls Try.prog 103 #[v] w fun e w' => e = .returned (.int .i64 (aimedN l)) ∧ w = w' := by
  rcases h with ⟨xa, cap, rfl, rfl⟩ | ⟨b, off, cap, rfl, _, hc⟩
  · exact refAimed_none xa cap w
  · exact refAimed_some l b off cap w hlen hc
end Go.Proofs.Ytmmjhhfdloenbaa
