/- The document's own answers for layer 2 (package hydraref02), walked: Term and Aimed. Plain facts on which cards may be, as the document's own answer goes through them. The document's own answer on which cards may be (package hydraref02: May), walked: cards that may not be for their numbers, or how many terms they have. -/
import Derived.Test.YtekbdbcomfleeaaCg
namespace Go.Proofs.Ytekbdbcomfleeaa
open Go.RowKit

set_option maxRecDepth 100000 in
set_option maxHeartbeats 3200000 in
theorem refTerm_any (t : TermL) (w : World) : Calls Try.prog 38 #[tval t] w (RetB w (termB t)) := by
  obtain ⟨op, n, on⟩ := t
  unfold tval
  by_cases h0 : n < 0
  · have HT := Lib.hid (show termB ⟨op, n, on⟩ = false by simp [termB]; omega)
    rw [HT.out]
    go_enter Try.func38, Try.ntmps38
    go_wp2
    go_ret
    exact ⟨rfl, below_new w _⟩
  by_cases h1 : 20 < n
  · have HT := Lib.hid (show termB ⟨op, n, on⟩ = false by simp only [termB, mostI]; split <;> simp <;> omega)
    rw [HT.out]
    go_enter Try.func38, Try.ntmps38
    go_wp2
    go_ret
    exact ⟨rfl, below_new w _⟩
  have h0' : 0 ≤ n := by omega
  have h1' : n ≤ 20 := by omega
  have hx : op = 1 ∨ op = 2 ∨ op = 3 ∨ op = 4 ∨ op = 5 ∨ op = 6 ∨ op = 7 ∨ op = 8 ∨ op = 9 ∨ (op ≠ 1 ∧ op ≠ 2 ∧ op ≠ 3 ∧ op ≠ 4 ∧ op ≠ 5 ∧ op ≠ 6 ∧ op ≠ 7 ∧ op ≠ 8 ∧ op ≠ 9) := by omega
  have d0 : decide (n < 0) = false := decide_eq_false h0
  have d1 : decide (20 < n) = false := decide_eq_false h1
  have dd : decide (0 ≤ n) = true := decide_eq_true h0'
  have d2 : decide (n ≤ 20) = true := decide_eq_true h1'
  clear h0 h1
  rcases hx with rfl | rfl | rfl | rfl | rfl | rfl | rfl | rfl | rfl | ⟨g1, g2, g3, g4, g5, g6, g7, g8, g9⟩
  · by_cases k1 : on = 1
    · subst k1
      have HT := Lib.hid (show termB ⟨1, n, 1⟩ = true by simp [termB, mostI, aimsI, h0', h1'])
      rw [HT.out]
      go_enter Try.func38, Try.ntmps38
      go_wp2
      go_ret
      exact ⟨rfl, below_new w _⟩
    by_cases k2 : on = 2
    · subst k2
      have HT := Lib.hid (show termB ⟨1, n, 2⟩ = true by simp [termB, mostI, aimsI, h0', h1'])
      rw [HT.out]
      go_enter Try.func38, Try.ntmps38
      go_wp2
      go_ret
      exact ⟨rfl, below_new w _⟩
    have b1 : (on == 1) = false := beq_eq_false_iff_ne.2 k1
    have b2 : (on == 2) = false := beq_eq_false_iff_ne.2 k2
    have HT := Lib.hid (show termB ⟨1, n, on⟩ = (on == 4) by simp [termB, mostI, aimsI, h0', h1', k1, k2]; rfl)
    rw [HT.out]
    clear k1 k2
    go_enter Try.func38, Try.ntmps38
    go_wp2
    go_ret
    exact ⟨rfl, below_new w _⟩
  · have HT := Lib.hid (show termB ⟨2, n, on⟩ = (on == 0) by simp [termB, mostI, aimsI, h0', h1']; rfl)
    rw [HT.out]
    go_enter Try.func38, Try.ntmps38
    go_wp2
    all_goals
      go_ret
      exact ⟨ret_bool (by first | rfl | simp [*]), below_new w _⟩
  · have HT := Lib.hid (show termB ⟨3, n, on⟩ = (on == 0) by simp [termB, mostI, aimsI, h0', h1']; rfl)
    rw [HT.out]
    go_enter Try.func38, Try.ntmps38
    go_wp2
    all_goals
      go_ret
      exact ⟨ret_bool (by first | rfl | simp [*]), below_new w _⟩
  · have HT := Lib.hid (show termB ⟨4, n, on⟩ = (on == 1 || on == 3) by simp [termB, mostI, aimsI, h0', h1']; rfl)
    rw [HT.out]
    go_enter Try.func38, Try.ntmps38
    go_wp2
    all_goals
      go_ret
      exact ⟨ret_bool (by first | rfl | simp [*]), below_new w _⟩
  · have HT := Lib.hid (show termB ⟨5, n, on⟩ = (on == 1 || on == 3) by simp [termB, mostI, aimsI, h0', h1']; rfl)
    rw [HT.out]
    go_enter Try.func38, Try.ntmps38
    go_wp2
    all_goals
      go_ret
      exact ⟨ret_bool (by first | rfl | simp [*]), below_new w _⟩
  · have e : decide (n ≤ 0) = (n == 0) := by (rw [Bool.eq_iff_iff]; simp; omega)
    have HT := Lib.hid (show termB ⟨6, n, on⟩ = (n == 0 && (on == 1 || on == 2)) by simp only [termB, mostI, aimsI, dd]; rw [← e]; simp; rfl)
    clear e
    rw [HT.out]
    go_enter Try.func38, Try.ntmps38
    go_wp2
    all_goals
      go_ret
      exact ⟨ret_bool (by first | rfl | simp [*]), below_new w _⟩
  · have e : decide (n ≤ 0) = (n == 0) := by (rw [Bool.eq_iff_iff]; simp; omega)
    have HT := Lib.hid (show termB ⟨7, n, on⟩ = (n == 0 && (on == 1 || on == 2)) by simp only [termB, mostI, aimsI, dd]; rw [← e]; simp; rfl)
    clear e
    rw [HT.out]
    go_enter Try.func38, Try.ntmps38
    go_wp2
    all_goals
      go_ret
      exact ⟨ret_bool (by first | rfl | simp [*]), below_new w _⟩
  · have HT := Lib.hid (show termB ⟨8, n, on⟩ = (on == 0) by simp [termB, mostI, aimsI, h0', h1']; rfl)
    rw [HT.out]
    go_enter Try.func38, Try.ntmps38
    go_wp2
    all_goals
      go_ret
      exact ⟨ret_bool (by first | rfl | simp [*]), below_new w _⟩
  · have e : decide (n ≤ 0) = (n == 0) := by (rw [Bool.eq_iff_iff]; simp; omega)
    have HT := Lib.hid (show termB ⟨9, n, on⟩ = (n == 0 && (on == 1 || on == 2)) by simp only [termB, mostI, aimsI, dd]; rw [← e]; simp; rfl)
    clear e
    rw [HT.out]
    go_enter Try.func38, Try.ntmps38
    go_wp2
    all_goals
      go_ret
      exact ⟨ret_bool (by first | rfl | simp [*]), below_new w _⟩
  · have HT := Lib.hid (show termB ⟨op, n, on⟩ = false by simp [termB, aimsI, g1, g2, g3, g4, g5, g6, g7, g8, g9])
    have b1 : (op == 1) = false := beq_eq_false_iff_ne.2 g1
    have b2 : (op == 2) = false := beq_eq_false_iff_ne.2 g2
    have b3 : (op == 3) = false := beq_eq_false_iff_ne.2 g3
    have b4 : (op == 4) = false := beq_eq_false_iff_ne.2 g4
    have b5 : (op == 5) = false := beq_eq_false_iff_ne.2 g5
    have b6 : (op == 6) = false := beq_eq_false_iff_ne.2 g6
    have b7 : (op == 7) = false := beq_eq_false_iff_ne.2 g7
    have b8 : (op == 8) = false := beq_eq_false_iff_ne.2 g8
    have b9 : (op == 9) = false := beq_eq_false_iff_ne.2 g9
    clear g1 g2 g3 g4 g5 g6 g7 g8 g9
    rw [HT.out]
    go_enter Try.func38, Try.ntmps38
    go_wp2
    all_goals
      go_ret
      exact ⟨ret_bool (by first | rfl | simp [*]), below_new w _⟩

set_option maxRecDepth 100000 in
set_option maxHeartbeats 800000 in
theorem refAimed_some (l : List TermL) (b off cap : Nat) (w : World) (hlen : l.length ≤ 9223372036854775807)
    (hc : ∀ i (h : i < l.length), w.cell? ⟨b, off + i * 3, none⟩ = some (.int .i64 l[i].op) ∧ w.cell? ⟨b, off + i * 3 + 1, none⟩ = some (.int .i64 l[i].n) ∧ w.cell? ⟨b, off + i * 3 + 2, none⟩ = some (.int .i64 l[i].on)) :
    Calls Try.prog 37 #[.slice (some ⟨b, off, none⟩) l.length cap] w fun e w' => e = .returned (.int .i64 (aimedN l)) ∧ w = w' := by
  have HC := Lib.hid hc
  clear hc
  go_enter Try.func37, Try.ntmps37
  go_wp2
  go_loop [3, 4] (fun n i => ∃ k : Nat, k ≤ l.length ∧ i = .int .i64 k ∧ n = .int .i64 (aimedN (l.take k))) (fun _ i => l.length - (intOf i).toNat)
  case atStart => exact ⟨0, Nat.zero_le _, rfl, rfl⟩
  case round =>
    obtain ⟨k, hk, rfl, rfl⟩ := hrel
    have hle := aimedN_le (l.take k)
    have hle2 := List.length_take_le k l
    by_cases hlt : k < l.length
    · have h3 := HC.out k hlt
      have c2 := h3.2.2
      clear h3
      by_cases h0 : l[k].on = 0
      · have hb : (l[k].on != 0) = false := by simp [h0]
        have HN := Lib.hid (aimed_no l k hlt h0)
        clear h0
        go_wp2
        go_round
        case rel => exact ⟨k + 1, by omega, by go_num, by rw [HN.out]⟩
        case measure => simp [intOf]; omega
      · have hb : (l[k].on != 0) = true := by simp [h0]
        have HN := Lib.hid (aimed_yes l k hlt h0)
        clear h0
        go_wp2
        go_round
        case rel => exact ⟨k + 1, by omega, by go_num, by rw [HN.out]; go_num⟩
        case measure => simp [intOf]; omega
    · obtain rfl : k = l.length := by omega
      go_wp2
      go_ret
      exact ⟨ret_int rfl, rfl⟩

set_option maxRecDepth 100000 in
set_option maxHeartbeats 800000 in
theorem refAimed_none (xa : Option Addr) (cap : Nat) (w : World) : Calls Try.prog 37 #[.slice xa 0 cap] w fun e w' => e = .returned (.int .i64 (aimedN [])) ∧ w = w' := by
  go_enter Try.func37, Try.ntmps37
  go_wp2
  go_loop [3, 4] (fun n i => i = .int .i64 0 ∧ n = .int .i64 0) (fun _ _ => 0)
  case atStart => exact ⟨rfl, rfl⟩
  case round =>
    obtain ⟨rfl, rfl⟩ := hrel
    go_wp2
    go_ret
    exact ⟨rfl, rfl⟩

theorem refAimed_any {l : List TermL} {v : Value} {w : World} (h : TermsIs w v l) (hlen : l.length ≤ 9223372036854775807) :
    Calls Try.prog 37 #[v] w fun e w' => e = .returned (.int .i64 (aimedN l)) ∧ w = w' := by
  rcases h with ⟨xa, cap, rfl, rfl⟩ | ⟨b, off, cap, rfl, _, hc⟩
  · exact refAimed_none xa cap w
  · exact refAimed_some l b off cap w hlen hc
end Go.Proofs.Ytekbdbcomfleeaa
namespace Go.Proofs.Ytekbdbcomfleeaa
open Go.RowKit

def plainB (c : CardL) : Bool := c.power == 0 && (c.tough == 0 && (c.keys == 0 && c.whn == 0))
def refRest (c : CardL) (z a : Bool) : Bool :=
  if c.kind = 1 then plainB c && (c.cost == 0 && z) else if c.kind = 2 then (if c.tough < 1 then false else if c.whn < 0 then false else if 3 < c.whn then false else if c.whn = 0 then z else !z && (c.whn == 1 || a))
  else if c.kind = 3 then plainB c && !z else if c.kind = 4 then plainB c && (c.cost == 0 && (!z && a)) else false
theorem may_rest (c : CardL) (z a : Bool) (h1 : inB c.cost 9 = true) (h2 : inB c.power 20 = true) (h3 : inB c.tough 20 = true) (h4 : inB c.keys 31 = true) (ht : termsB c.terms = true)
    (hz : decide (c.terms.length = 0) = z) (ha : decide (aimedAt c.terms = 0) = a) : mayB c = refRest c z a := by
  have hp : decide (0 < c.terms.length) = !z := by
    rw [← hz]; by_cases h : c.terms.length = 0 <;> simp [h]; omega
  unfold mayB numsB
  rw [h1, h2, h3, h4, ht]
  simp only [Bool.true_and]
  unfold refRest kindB
  by_cases k1 : c.kind = 1
  · rw [if_pos k1, if_pos k1]
    simp only [landB, plainB, hz, k1, inB]
    by_cases w0 : c.whn = 0
    · by_cases e1 : c.power = 0 <;> by_cases e2 : c.tough = 0 <;> by_cases e3 : c.keys = 0 <;> by_cases e4 : c.cost = 0 <;> simp [w0, e1, e2, e3, e4]
    · simp [w0]
  rw [if_neg k1, if_neg k1]
  by_cases k2 : c.kind = 2
  · rw [if_pos k2, if_pos k2]
    simp only [whenB, hz, hp, ha, k2, inB]
    by_cases e1 : c.tough < 1
    · rw [if_pos e1]; have : ¬ 1 ≤ c.tough := by omega
      simp [this]
    · rw [if_neg e1]; have : 1 ≤ c.tough := by omega
      by_cases e2 : c.whn < 0
      · rw [if_pos e2]; have : ¬ 0 ≤ c.whn := by omega
        simp [this]
      · rw [if_neg e2]; have h0 : 0 ≤ c.whn := by omega
        by_cases e3 : 3 < c.whn
        · rw [if_pos e3]; have : ¬ c.whn ≤ 3 := by omega
          simp [this]
        · rw [if_neg e3]; have h3 : c.whn ≤ 3 := by omega
          by_cases e4 : c.whn = 0
          · simp [e4, this]
          · by_cases e5 : c.whn = 1
            · simp [e5, this]
            · have e6 : (c.whn == 1) = false := beq_eq_false_iff_ne.2 e5
              simp [e4, e5, e6, this, h0, h3]
  rw [if_neg k2, if_neg k2]
  by_cases k3 : c.kind = 3
  · rw [if_pos k3, if_pos k3]
    simp only [castB, plainB, hp, k3, inB]
    by_cases w0 : c.whn = 0
    · by_cases e1 : c.power = 0 <;> by_cases e2 : c.tough = 0 <;> by_cases e3 : c.keys = 0 <;> simp [w0, e1, e2, e3]
    · simp [w0]
  rw [if_neg k3, if_neg k3]
  by_cases k4 : c.kind = 4
  · rw [if_pos k4, if_pos k4]
    simp only [castB, plainB, hp, ha, k4, inB]
    by_cases w0 : c.whn = 0
    · by_cases e1 : c.power = 0 <;> by_cases e2 : c.tough = 0 <;> by_cases e3 : c.keys = 0 <;> by_cases e4 : c.cost = 0 <;> simp [w0, e1, e2, e3, e4]
    · simp [w0]
  rw [if_neg k4, if_neg k4]
  simp

theorem in_low {x m : Int} (h : x < 0) : inB x m = false := by unfold inB; simp; omega
theorem in_high {x m : Int} (h : m < x) : inB x m = false := by unfold inB; simp; omega
theorem in_yes {x m : Int} (h : ¬ x < 0) (h' : ¬ m < x) : inB x m = true := by unfold inB; simp; omega
end Go.Proofs.Ytekbdbcomfleeaa
namespace Go.Proofs.Ytekbdbcomfleeaa
open Go.RowKit

set_option maxRecDepth 100000 in
set_option maxHeartbeats 8000000 in
theorem refMay_no {c : CardL} {v : Value} {w : World} (h : CardIs w v c) (hlen : c.terms.length ≤ 9223372036854775807)
    (hbad : (inB c.cost 9 && (inB c.power 20 && (inB c.tough 20 && (inB c.keys 31 && (decide (c.terms.length ≤ 4) && decide (aimedN c.terms ≤ 1)))))) = false) :
    Calls Try.prog 13 #[v] w (RetB w false) := by
  obtain ⟨xa, xn, xc, rfl, ht⟩ := h
  obtain rfl := CardIs.len ht
  have HT := Lib.hid ht
  clear ht
  by_cases t0 : c.cost < 0
  · have d0 : decide (c.cost < 0) = true := decide_eq_true t0
    clear t0 hbad
    unfold cagg
    go_enter Try.func13, Try.ntmps13
    go_wp2
    go_ret
    exact ⟨rfl, below_new w _⟩
  have d0 : decide (c.cost < 0) = false := decide_eq_false t0
  by_cases t1 : 9 < c.cost
  · have d1 : decide (9 < c.cost) = true := decide_eq_true t1
    clear t1 hbad
    clear t0
    unfold cagg
    go_enter Try.func13, Try.ntmps13
    go_wp2
    go_ret
    exact ⟨rfl, below_new w _⟩
  have d1 : decide (9 < c.cost) = false := decide_eq_false t1
  by_cases t2 : c.power < 0
  · have d2 : decide (c.power < 0) = true := decide_eq_true t2
    clear t2 hbad
    clear t0 t1
    unfold cagg
    go_enter Try.func13, Try.ntmps13
    go_wp2
    go_ret
    exact ⟨rfl, below_new w _⟩
  have d2 : decide (c.power < 0) = false := decide_eq_false t2
  by_cases t3 : 20 < c.power
  · have d3 : decide (20 < c.power) = true := decide_eq_true t3
    clear t3 hbad
    clear t0 t1 t2
    unfold cagg
    go_enter Try.func13, Try.ntmps13
    go_wp2
    go_ret
    exact ⟨rfl, below_new w _⟩
  have d3 : decide (20 < c.power) = false := decide_eq_false t3
  by_cases t4 : c.tough < 0
  · have d4 : decide (c.tough < 0) = true := decide_eq_true t4
    clear t4 hbad
    clear t0 t1 t2 t3
    unfold cagg
    go_enter Try.func13, Try.ntmps13
    go_wp2
    go_ret
    exact ⟨rfl, below_new w _⟩
  have d4 : decide (c.tough < 0) = false := decide_eq_false t4
  by_cases t5 : 20 < c.tough
  · have d5 : decide (20 < c.tough) = true := decide_eq_true t5
    clear t5 hbad
    clear t0 t1 t2 t3 t4
    unfold cagg
    go_enter Try.func13, Try.ntmps13
    go_wp2
    go_ret
    exact ⟨rfl, below_new w _⟩
  have d5 : decide (20 < c.tough) = false := decide_eq_false t5
  by_cases t6 : c.keys < 0
  · have d6 : decide (c.keys < 0) = true := decide_eq_true t6
    clear t6 hbad
    clear t0 t1 t2 t3 t4 t5
    unfold cagg
    go_enter Try.func13, Try.ntmps13
    go_wp2
    go_ret
    exact ⟨rfl, below_new w _⟩
  have d6 : decide (c.keys < 0) = false := decide_eq_false t6
  by_cases t7 : 31 < c.keys
  · have d7 : decide (31 < c.keys) = true := decide_eq_true t7
    clear t7 hbad
    clear t0 t1 t2 t3 t4 t5 t6
    unfold cagg
    go_enter Try.func13, Try.ntmps13
    go_wp2
    go_ret
    exact ⟨rfl, below_new w _⟩
  have d7 : decide (31 < c.keys) = false := decide_eq_false t7
  rw [in_yes t0 t1, in_yes t2 t3, in_yes t4 t5, in_yes t6 t7] at hbad
  simp only [Bool.true_and] at hbad
  clear t0 t1 t2 t3 t4 t5 t6 t7
  by_cases t8 : 4 < c.terms.length
  · have d8 : decide ((4 : Int) < c.terms.length) = true := decide_eq_true (by omega)
    clear t8 hbad
    unfold cagg
    go_enter Try.func13, Try.ntmps13
    go_wp2
    go_ret
    exact ⟨rfl, below_new w _⟩
  have d8 : decide ((4 : Int) < c.terms.length) = false := decide_eq_false (by omega)
  have t9 : 1 < aimedN c.terms := by
    rw [decide_eq_true (show c.terms.length ≤ 4 by omega), Bool.true_and] at hbad
    simpa using hbad
  have hal := aimedN_le c.terms
  have d9 : decide ((1 : Int) < aimedN c.terms) = true := decide_eq_true (by omega)
  clear t9 t8 hbad
  unfold cagg
  go_enter Try.func13, Try.ntmps13
  go_wp2_with fail
  refine (refAimed_any (HT.out.later (below_new _ _)) hlen).mono ?_
  rintro e w' ⟨rfl, rfl⟩
  go_wp2
  go_ret
  exact ⟨rfl, below_new w _⟩
end Go.Proofs.Ytekbdbcomfleeaa
