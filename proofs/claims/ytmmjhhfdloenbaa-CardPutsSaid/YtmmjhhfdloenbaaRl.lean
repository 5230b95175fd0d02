/- Plain facts on which cards may be, as the document's own answer goes through them. -/
import Derived.Test.YtmmjhhfdloenbaaRa
namespace Go.Proofs.Ytmmjhhfdloenbaa
open Go.RowKit

def plainB (c : CardL) : Bool := c.power == 0 && (c.tough == 0 && (c.keys == 0 && c.whn == 0))
def refRest (c : CardL) (z a : Bool) : Bool :=
  if c.kind = 1 then plainB c && (c.cost == 0 && z) else if c.kind = 2 then (if c.tough < 1 then false else if c.whn < 0 then false else if 3 < c.whn then false else if c.whn = 0 then z else !z && (c.whn == 1 || a))
  else if c.kind = 3 then plainB c && !z else if c.kind = 4 then plainB c && (c.cost == 0 && (!z && a)) else false
theorem may_rest (c : CardL) (z a : Bool) (h1 : inB c.cost 9 = true) (h2 : inB c.power 20 = true) (h3 : inB c.tough 20 = true) (h4 : inB c.keys 31 = true) (ht : termsB c.terms = true)
    (hz : decide (c.terms.length = 0) = z) (ha : decide (aimedAt c.terms = 0) = a) : mayB c = refRest c z a := by
  have hp : decide (0 < c.terms.length) = !z := by
    rw [← hz]; by_cases h : c.terms.length = 0 <;> simp [h]; omega
  unfold mayB numsB
  rw [h1, h2, h3, h4, ht]
  simp only [Bool.true_and]
  unfold refRest kindB
  by_cases k1 : c.kind = 1
  · rw [if_pos k1, if_pos k1]
    simp only [landB, plainB, hz, k1, inB]
    by_cases w0 : c.whn = 0
    · by_cases e1 : c.power = 0 <;> by_cases e2 : c.tough = 0 <;> by_cases e3 : c.keys = 0 <;> by_cases e4 : c.cost = 0 <;> simp [w0, e1, e2, e3, e4]
    · simp [w0]
  rw [if_neg k1, if_neg k1]
  by_cases k2 : c.kind = 2
  · rw [if_pos k2, if_pos k2]
    simp only [whenB, hz, hp, ha, k2, inB]
    by_cases e1 : c.tough < 1
    · rw [if_pos e1]; have : ¬ 1 ≤ c.tough := by omega
      simp [this]
    · rw [if_neg e1]; have : 1 ≤ c.tough := by omega
      by_cases e2 : c.whn < 0
      · rw [if_pos e2]; have : ¬ 0 ≤ c.whn := by omega
        simp [this]
      · rw [if_neg e2]; have h0 : 0 ≤ c.whn := by omega
        by_cases e3 : 3 < c.whn
        · rw [if_pos e3]; have : ¬ c.whn ≤ 3 := by omega
          simp [this]
        · rw [if_neg e3]; have h3 : c.whn ≤ 3 := by omega
          by_cases e4 : c.whn = 0
          · simp [e4, this]
          · by_cases e5 : c.whn = 1
            · simp [e5, this]
            · have e6 : (c.whn == 1) = false := beq_eq_false_iff_ne.2 e5
              simp [e4, e5, e6, this, h0, h3]
  rw [if_neg k2, if_neg k2]
  by_cases k3 : c.kind = 3
  · rw [if_pos k3, if_pos k3]
    simp only [castB, plainB, hp, k3, inB]
    by_cases w0 : c.whn = 0
    · by_cases e1 : c.power = 0 <;> by_cases e2 : c.tough = 0 <;> by_cases e3 : c.keys = 0 <;> simp [w0, e1, e2, e3]
    · simp [w0]
  rw [if_neg k3, if_neg k3]
  by_cases k4 : c.kind = 4
  · rw [if_pos k4, if_pos k4]
    simp only [castB, plainB, hp, ha, k4, inB]
    by_cases w0 : c.whn = 0
    · by_cases e1 : c.power = 0 <;> by_cases e2 : c.tough = 0 <;> by_cases e3 : c.keys = 0 <;> by_cases e4 : c.cost = 0 <;> simp [w0, e1, e2, e3, e4]
    · simp [w0]
  rw [if_neg k4, if_neg k4]
  simp

theorem in_low {x m : Int} (h : x < 0) : inB x m = false := by unfold inB; simp; omega
theorem in_high {x m : Int} (h : m < x) : inB x m = false := by unfold inB; simp; omega
theorem in_yes {x m : Int} (h : ¬ x < 0) (h' : ¬ m < x) : inB x m = true := by unfold inB; simp; omega
end Go.Proofs.Ytmmjhhfdloenbaa
