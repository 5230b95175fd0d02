/- The contracts of kindFits and Check (layer 2, card): for every card, whether it may be. -/
import Derived.Test.YtekbdbcomfleeaaCf
namespace Go.Proofs.Ytekbdbcomfleeaa
open Go.RowKit

theorem CardIs.later {w w' : World} {v : Value} {c : CardL} (h : CardIs w v c) (hb : Below w.heap.size w w') : CardIs w' v c := by
  obtain ⟨xa, xn, xc, rfl, ht⟩ := h
  exact ⟨xa, xn, xc, rfl, ht.later hb⟩
theorem CardIs.len {w : World} {c : CardL} {xa : Option Addr} {xn xc : Nat} (h : TermsIs w (.slice xa xn xc) c.terms) : xn = c.terms.length := by
  rcases h with ⟨_, _, h1, h2⟩ | ⟨_, _, _, h1, _⟩
  · injection h1 with _ h1 _; rw [h2, h1]; rfl
  · injection h1

def sixB (c : CardL) : Bool := c.kind == 1 && (c.cost == 0 && (c.power == 0 && (c.tough == 0 && (c.keys == 0 && c.whn == 0))))
theorem eq_six (c : CardL) (W : World) : (binOp .eql 76 (nums6 c) (.agg #[.int .i64 1, .int .i64 0, .int .i64 0, .int .i64 0, .int .i64 0, .int .i64 0])).run Try.prog W = .ok (.bool (sixB c)) W := by
  unfold nums6
  rw [run_eql_struct, equal6 9998]
  rfl
theorem land_six (c : CardL) (h : c.kind = 1) : landB c = (sixB c && decide (c.terms.length = 0)) := by
  simp only [landB, sixB, h, beq_self_eq_true, Bool.true_and, Bool.and_assoc]
  rfl

set_option maxRecDepth 100000 in
set_option maxHeartbeats 1600000 in
theorem kindFits_any {c : CardL} {v : Value} {w : World} (h : CardIs w v c) (hlen : c.terms.length ≤ 9223372036854775807) :
    Calls Try.prog 44 #[v] w (RetB w (kindB c)) := by
  obtain ⟨xa, xn, xc, rfl, ht⟩ := h
  obtain rfl := CardIs.len ht
  have HA := Lib.hid (show CardIs (w.alloc (.cells #[.int .i64 c.kind, .int .i64 c.cost, .int .i64 c.power, .int .i64 c.tough, .int .i64 c.keys, .int .i64 c.whn, .slice xa c.terms.length xc] 24)) (cagg c (.slice xa c.terms.length xc)) c from ⟨_, _, _, rfl, ht.later (below_new _ _)⟩)
  clear ht
  by_cases h1 : c.kind = 1
  · have hb : (c.kind == 1) = true := by simp [h1]
    have HW : Hid (kindB c = (sixB c && decide (c.terms.length = 0))) := Lib.hid (by rw [← land_six c h1]; simp [kindB, h1])
    rw [HW.out]
    clear h1
    have he := eq_six c
    have hg := eqg6
    unfold nums6 at he
    unfold cagg
    cases hs : sixB c
    · rw [hs] at he
      have HS := Lib.hid hs
      clear hs
      go_enter Try.func44, Try.ntmps44
      go_wp2_with fail
      refine (numbers_any c _ _ _ _).mono ?_
      rintro e w2 ⟨rfl, hb2⟩
      unfold nums6
      go_wp2
      go_ret
      exact ⟨ret_bool rfl, (below_new w _).trans (hb2.mono (by simp))⟩
    · rw [hs] at he
      have HS := Lib.hid hs
      clear hs
      go_enter Try.func44, Try.ntmps44
      go_wp2_with fail
      refine (numbers_any c _ _ _ _).mono ?_
      rintro e w2 ⟨rfl, hb2⟩
      have c6 : w2.cell? ⟨w.heap.size, 6, none⟩ = some (.slice xa c.terms.length xc) := ((bcell hb2).1 _ 6 (show _ < _ by simp)).trans (by simp [go_sem])
      unfold nums6
      go_wp2
      go_ret
      exact ⟨ret_bool (by rw [Bool.true_and]; exact len_zero _), (below_new w _).trans (hb2.mono (by simp))⟩
  have b1 : (c.kind == 1) = false := by simp [h1]
  by_cases h2 : c.kind = 2
  · have hb : (c.kind == 2) = true := by simp [h2]
    have HW : Hid (kindB c = (decide (1 ≤ c.tough) && whenB c)) := Lib.hid (by simp [kindB, h2])
    rw [HW.out]
    clear h1 h2
    by_cases hp : 1 ≤ c.tough
    · have hd : decide (1 ≤ c.tough) = true := decide_eq_true hp
      have HP := Lib.hid hd
      unfold cagg
      go_enter Try.func44, Try.ntmps44
      go_wp2_with fail
      refine (whenFits_any HA.out hlen).mono ?_
      rintro e w2 ⟨rfl, hb2⟩
      go_wp2
      go_ret
      exact ⟨ret_bool (by rw [HP.out, Bool.true_and]), (below_new w _).trans (hb2.mono (by simp))⟩
    · have hd : decide (1 ≤ c.tough) = false := decide_eq_false hp
      have HP := Lib.hid hd
      unfold cagg
      go_enter Try.func44, Try.ntmps44
      go_wp2_with fail
      go_ret
      exact ⟨ret_bool rfl, below_new w _⟩
  have b2 : (c.kind == 2) = false := by simp [h2]
  by_cases h3 : c.kind = 3
  · have hb : (c.kind == 3) = true := by simp [h3]
    have HW : Hid (kindB c = castB c) := Lib.hid (by simp [kindB, h3])
    rw [HW.out]
    clear h1 h2 h3
    unfold cagg
    go_enter Try.func44, Try.ntmps44
    go_wp2_with fail
    refine (castFits_any c _ _ _).mono ?_
    rintro e w2 ⟨rfl, hb2⟩
    go_wp2
    go_ret
    exact ⟨ret_bool rfl, (below_new w _).trans (hb2.mono (by simp))⟩
  have b3 : (c.kind == 3) = false := by simp [h3]
  by_cases h4 : c.kind = 4
  · have hb : (c.kind == 4) = true := by simp [h4]
    have HW : Hid (kindB c = (castB c && (decide (c.cost = 0) && decide (aimedAt c.terms = 0)))) := Lib.hid (by simp [kindB, h4])
    rw [HW.out]
    clear h1 h2 h3 h4
    unfold cagg
    cases hs : castB c
    · have HS := Lib.hid hs
      go_enter Try.func44, Try.ntmps44
      go_wp2_with fail
      refine (castFits_any c _ _ _).mono ?_
      rw [HS.out]
      rintro e w2 ⟨rfl, hb2⟩
      go_wp2
      go_ret
      exact ⟨ret_bool rfl, (below_new w _).trans (hb2.mono (by simp))⟩
    · have HS := Lib.hid hs
      clear hs
      by_cases h0 : c.cost = 0
      · have hc : (c.cost == 0) = true := by simp [h0]
        have H0 := Lib.hid (decide_eq_true h0)
        clear h0
        go_enter Try.func44, Try.ntmps44
        go_wp2_with fail
        refine (castFits_any c _ _ _).mono ?_
        rw [HS.out]
        rintro e w2 ⟨rfl, hb2⟩
        have HB2 := Lib.hid hb2
        have hcl := fun j h => (bcell hb2).1 w.heap.size j h
        have k0 : w2.cell? ⟨w.heap.size, 0, none⟩ = some (.int .i64 c.kind) := (hcl 0 (show _ < _ by simp)).trans (by simp [go_sem])
        have k1 : w2.cell? ⟨w.heap.size, 1, none⟩ = some (.int .i64 c.cost) := (hcl 1 (show _ < _ by simp)).trans (by simp [go_sem])
        have k2 : w2.cell? ⟨w.heap.size, 2, none⟩ = some (.int .i64 c.power) := (hcl 2 (show _ < _ by simp)).trans (by simp [go_sem])
        have k3 : w2.cell? ⟨w.heap.size, 3, none⟩ = some (.int .i64 c.tough) := (hcl 3 (show _ < _ by simp)).trans (by simp [go_sem])
        have k4 : w2.cell? ⟨w.heap.size, 4, none⟩ = some (.int .i64 c.keys) := (hcl 4 (show _ < _ by simp)).trans (by simp [go_sem])
        have k5 : w2.cell? ⟨w.heap.size, 5, none⟩ = some (.int .i64 c.whn) := (hcl 5 (show _ < _ by simp)).trans (by simp [go_sem])
        have k6 : w2.cell? ⟨w.heap.size, 6, none⟩ = some (.slice xa c.terms.length xc) := (hcl 6 (show _ < _ by simp)).trans (by simp [go_sem])
        clear hcl hb2
        go_wp2_with fail
        refine (aimed_any (HA.out.later HB2.out) hlen).mono ?_
        rintro e w3 ⟨rfl, hb3⟩
        go_wp2
        go_ret
        exact ⟨ret_bool (by rw [H0.out]; rfl), ((below_new w _).trans (HB2.out.mono (by simp))).trans (hb3.mono (by have := HB2.out.size; simp at this; omega))⟩
      · have hc : (c.cost == 0) = false := by simp [h0]
        have H0 := Lib.hid (decide_eq_false h0)
        clear h0
        go_enter Try.func44, Try.ntmps44
        go_wp2_with fail
        refine (castFits_any c _ _ _).mono ?_
        rw [HS.out]
        rintro e w2 ⟨rfl, hb2⟩
        have HB2 := Lib.hid hb2
        have k1 : w2.cell? ⟨w.heap.size, 1, none⟩ = some (.int .i64 c.cost) := ((bcell hb2).1 w.heap.size 1 (show _ < _ by simp)).trans (by simp [go_sem])
        clear hb2
        go_wp2
        go_ret
        exact ⟨ret_bool (by rw [H0.out]; rfl), (below_new w _).trans (HB2.out.mono (by simp))⟩
  have b4 : (c.kind == 4) = false := by simp [h4]
  have HW : Hid (kindB c = false) := Lib.hid (by simp [kindB, h1, h2, h3, h4])
  rw [HW.out]
  clear h1 h2 h3 h4
  unfold cagg
  go_enter Try.func44, Try.ntmps44
  go_wp2_with fail
  go_ret
  exact ⟨ret_bool rfl, below_new w _⟩

theorem card_cells {c : CardL} {xa : Option Addr} {xn xc : Nat} {w w2 : World} {T : TypeId} (hb : Below (w.alloc (.cells #[.int .i64 c.kind, .int .i64 c.cost, .int .i64 c.power, .int .i64 c.tough, .int .i64 c.keys, .int .i64 c.whn, .slice xa xn xc] T)).heap.size (w.alloc (.cells #[.int .i64 c.kind, .int .i64 c.cost, .int .i64 c.power, .int .i64 c.tough, .int .i64 c.keys, .int .i64 c.whn, .slice xa xn xc] T)) w2) :
    w2.cell? ⟨w.heap.size, 0, none⟩ = some (.int .i64 c.kind) ∧ w2.cell? ⟨w.heap.size, 1, none⟩ = some (.int .i64 c.cost) ∧ w2.cell? ⟨w.heap.size, 2, none⟩ = some (.int .i64 c.power) ∧ w2.cell? ⟨w.heap.size, 3, none⟩ = some (.int .i64 c.tough) ∧
    w2.cell? ⟨w.heap.size, 4, none⟩ = some (.int .i64 c.keys) ∧ w2.cell? ⟨w.heap.size, 5, none⟩ = some (.int .i64 c.whn) ∧ w2.cell? ⟨w.heap.size, 6, none⟩ = some (.slice xa xn xc) := by
  have hcl := fun j h => (bcell hb).1 w.heap.size j h
  exact ⟨(hcl 0 (show _ < _ by simp)).trans (by simp [go_sem]), (hcl 1 (show _ < _ by simp)).trans (by simp [go_sem]), (hcl 2 (show _ < _ by simp)).trans (by simp [go_sem]), (hcl 3 (show _ < _ by simp)).trans (by simp [go_sem]),
    (hcl 4 (show _ < _ by simp)).trans (by simp [go_sem]), (hcl 5 (show _ < _ by simp)).trans (by simp [go_sem]), (hcl 6 (show _ < _ by simp)).trans (by simp [go_sem])⟩

set_option maxRecDepth 100000 in
set_option maxHeartbeats 1600000 in
theorem check_any {c : CardL} {v : Value} {w : World} (h : CardIs w v c) (hlen : c.terms.length ≤ 9223372036854775807) :
    Calls Try.prog 19 #[v] w fun e w' => e = .returned (.int .i64 (cardE (mayB c))) ∧ Below w.heap.size w w' := by
  obtain ⟨xa, xn, xc, rfl, ht⟩ := h
  have HA := Lib.hid (show CardIs (w.alloc (.cells #[.int .i64 c.kind, .int .i64 c.cost, .int .i64 c.power, .int .i64 c.tough, .int .i64 c.keys, .int .i64 c.whn, .slice xa xn xc] 24)) (cagg c (.slice xa xn xc)) c from ⟨_, _, _, rfl, ht.later (below_new _ _)⟩)
  have HT := Lib.hid (ht.later (below_new w (.cells #[.int .i64 c.kind, .int .i64 c.cost, .int .i64 c.power, .int .i64 c.tough, .int .i64 c.keys, .int .i64 c.whn, .slice xa xn xc] 24)))
  clear ht
  cases h1 : numsB c
  · have HM := Lib.hid (show mayB c = false by simp [mayB, h1])
    have H1 := Lib.hid h1
    rw [HM.out]
    clear h1
    unfold cagg
    go_enter Try.func19, Try.ntmps19
    go_wp2_with fail
    refine (numbersFit_any c _ _ _ _).mono ?_
    rw [H1.out]
    rintro e w2 ⟨rfl, hb2⟩
    go_wp2
    go_ret
    exact ⟨rfl, (below_new w _).trans (hb2.mono (by simp))⟩
  · have H1 := Lib.hid h1
    cases h2 : termsB c.terms
    · have HM := Lib.hid (show mayB c = false by simp [mayB, h1, h2])
      have H2 := Lib.hid h2
      rw [HM.out]
      clear h1 h2
      unfold cagg
      go_enter Try.func19, Try.ntmps19
      go_wp2_with fail
      refine (numbersFit_any c _ _ _ _).mono ?_
      rw [H1.out]
      rintro e w2 ⟨rfl, hb2⟩
      have HB2 := Lib.hid hb2
      obtain ⟨k0, k1, k2, k3, k4, k5, k6⟩ := card_cells hb2
      clear hb2
      go_wp2_with fail
      refine (termsFit_any (HT.out.later HB2.out) hlen).mono ?_
      rw [H2.out]
      rintro e w3 ⟨rfl, hb3⟩
      go_wp2
      go_ret
      exact ⟨rfl, ((below_new w _).trans (HB2.out.mono (by simp))).trans (hb3.mono (by have := HB2.out.size; simp at this; omega))⟩
    · have H2 := Lib.hid h2
      have HM := Lib.hid (show mayB c = kindB c by simp [mayB, h1, h2])
      rw [HM.out]
      clear h1 h2
      cases h3 : kindB c
      all_goals
        have H3 := Lib.hid h3
        clear h3
        unfold cagg
        go_enter Try.func19, Try.ntmps19
        go_wp2_with fail
        refine (numbersFit_any c _ _ _ _).mono ?_
        rw [H1.out]
        rintro e w2 ⟨rfl, hb2⟩
        have HB2 := Lib.hid hb2
        obtain ⟨k0, k1, k2, k3, k4, k5, k6⟩ := card_cells hb2
        clear hb2
        go_wp2_with fail
        refine (termsFit_any (HT.out.later HB2.out) hlen).mono ?_
        rw [H2.out]
        rintro e w3 ⟨rfl, hb3⟩
        have HB3 := Lib.hid (HB2.out.trans (hb3.mono HB2.out.size))
        obtain ⟨k0, k1, k2, k3, k4, k5, k6⟩ := card_cells HB3.out
        clear hb3
        go_wp2_with fail
        refine (kindFits_any (HA.out.later HB3.out) hlen).mono ?_
        rw [H3.out]
        rintro e w4 ⟨rfl, hb4⟩
        go_wp2
        go_ret
        exact ⟨rfl, ((below_new w _).trans (HB3.out.mono (by simp))).trans (hb4.mono (by have := HB3.out.size; simp at this; omega))⟩
end Go.Proofs.Ytekbdbcomfleeaa
