/- The document's own answer on which cards may be (package hydraref02: May), walked: cards that may not be for their numbers, or how many terms they have. -/
import Derived.Test.YtmmjhhfdloenbaaRl
namespace Go.Proofs.Ytmmjhhfdloenbaa
open Go.RowKit

set_option maxRecDepth 100000 in
set_option maxHeartbeats 8000000 in
theorem refMay_no {c : CardL} {v : Value} {w : World} (h : CardIs w v c) (hlen : c.terms.length ≤ 9223372036854775807)
    (hbad : (inB c.cost 9 && (inB c.power 20 && (inB c.tough 20 && (inB c.keys 31 && (decide (c.terms.length ≤ 4) && decide (aimedN c.terms ≤ 1)))))) = false) :
    Calls Try.prog 42 #[v] w (RetB w false) := by
  obtain ⟨xa, xn, xc, rfl, ht⟩ := h
  obtain rfl := CardIs.len ht
  have HT := Lib.hid ht
  clear ht
  by_cases t0 : c.cost < 0
  · have d0 : decide (c.cost < 0) = true := decide_eq_true t0
    clear t0 hbad
    unfold cagg
    go_enter Try.func42, Try.ntmps42
    go_wp2
    go_ret
    exact ⟨rfl, below_new w _⟩
  have d0 : decide (c.cost < 0) = false := decide_eq_false t0
  by_cases t1 : 9 < c.cost
  · have d1 : decide (9 < c.cost) = true := decide_eq_true t1
    clear t1 hbad
    clear t0
    unfold cagg
    go_enter Try.func42, Try.ntmps42
    go_wp2
    go_ret
    exact ⟨rfl, below_new w _⟩
  have d1 : decide (9 < c.cost) = false := decide_eq_false t1
  by_cases t2 : c.power < 0
  · have d2 : decide (c.power < 0) = true := decide_eq_true t2
    clear t2 hbad
    clear t0 t1
    unfold cagg
    go_enter Try.func42, Try.ntmps42
    go_wp2
    go_ret
    exact ⟨rfl, below_new w _⟩
  have d2 : decide (c.power < 0) = false := decide_eq_false t2
  by_cases t3 : 20 < c.power
  · have d3 : decide (20 < c.power) = true := decide_eq_true t3
    clear t3 hbad
    clear t0 t1 t2
    unfold cagg
    go_enter Try.func42, Try.ntmps42
    go_wp2
    go_ret
    exact ⟨rfl, below_new w _⟩
  have d3 : decide (20 < c.power) = false := decide_eq_false t3
  by_cases t4 : c.tough < 0
  · have d4 : decide (c.tough < 0) = true := decide_eq_true t4
    clear t4 hbad
    clear t0 t1 t2 t3
    unfold cagg
    go_enter Try.func42, Try.ntmps42
    go_wp2
    go_ret
    exact ⟨rfl, below_new w _⟩
  have d4 : decide (c.tough < 0) = false := decide_eq_false t4
  by_cases t5 : 20 < c.tough
  · have d5 : decide (20 < c.tough) = true := decide_eq_true t5
    clear t5 hbad
    clear t0 t1 t2 t3 t4
    unfold cagg
    go_enter Try.func42, Try.ntmps42
    go_wp2
    go_ret
    exact ⟨rfl, below_new w _⟩
  have d5 : decide (20 < c.tough) = false := decide_eq_false t5
  by_cases t6 : c.keys < 0
  · have d6 : decide (c.keys < 0) = true := decide_eq_true t6
    clear t6 hbad
    clear t0 t1 t2 t3 t4 t5
    unfold cagg
    go_enter Try.func42, Try.ntmps42
    go_wp2
    go_ret
    exact ⟨rfl, below_new w _⟩
  have d6 : decide (c.keys < 0) = false := decide_eq_false t6
  by_cases t7 : 31 < c.keys
  · have d7 : decide (31 < c.keys) = true := decide_eq_true t7
    clear t7 hbad
    clear t0 t1 t2 t3 t4 t5 t6
    unfold cagg
    go_enter Try.func42, Try.ntmps42
    go_wp2
    go_ret
    exact ⟨rfl, below_new w _⟩
  have d7 : decide (31 < c.keys) = false := decide_eq_false t7
  rw [in_yes t0 t1, in_yes t2 t3, in_yes t4 t5, in_yes t6 t7] at hbad
  simp only [Bool.true_and] at hbad
  clear t0 t1 t2 t3 t4 t5 t6 t7
  by_cases t8 : 4 < c.terms.length
  · have d8 : decide ((4 : Int) < c.terms.length) = true := decide_eq_true (by omega)
    clear t8 hbad
    unfold cagg
    go_enter Try.func42, Try.ntmps42
    go_wp2
    go_ret
    exact ⟨rfl, below_new w _⟩
  have d8 : decide ((4 : Int) < c.terms.length) = false := decide_eq_false (by omega)
  have t9 : 1 < aimedN c.terms := by
    rw [decide_eq_true (show c.terms.length ≤ 4 by omega), Bool.true_and] at hbad
    simpa using hbad
  have hal := aimedN_le c.terms
  have d9 : decide ((1 : Int) < aimedN c.terms) = true := decide_eq_true (by omega)
  clear t9 t8 hbad
  unfold cagg
  go_enter Try.func42, Try.ntmps42
  go_wp2_with fail
  refine (refAimed_any (HT.out.later (below_new _ _)) hlen).mono ?_
  rintro e w' ⟨rfl, rfl⟩
  go_wp2
  go_ret
  exact ⟨rfl, below_new w _⟩
end Go.Proofs.Ytmmjhhfdloenbaa
