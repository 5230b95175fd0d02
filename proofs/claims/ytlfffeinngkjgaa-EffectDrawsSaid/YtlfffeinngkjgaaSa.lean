/- How strong creatures are (layer 8): sums held within bounds, layers. -/
import Derived.Test.YtlfffeinngkjgaaHe
namespace Go.Proofs.Ytlfffeinngkjgaa
open Go.RowKit Go.Maps

def holdZ (n : Int) : Int := min (max n (-999)) 999
def addZ (a b : Int) : Int := holdZ (holdZ a + holdZ b)
def raiseZ (a b : Int) : Int := max (addZ a b) 0
def layZ (x c b : Int) : Int := raiseZ (raiseZ x c) b
theorem holdZ_in (n : Int) : -999 ≤ holdZ n ∧ holdZ n ≤ 999 := by unfold holdZ; omega
theorem holdZ_id {n : Int} (h : -999 ≤ n ∧ n ≤ 999) : holdZ n = n := by unfold holdZ; omega
theorem addZ_in (a b : Int) : -999 ≤ addZ a b ∧ addZ a b ≤ 999 := holdZ_in _
theorem raiseZ_in (a b : Int) : 0 ≤ raiseZ a b ∧ raiseZ a b ≤ 999 := by have := addZ_in a b; unfold raiseZ; omega
theorem addZ_comm (a b : Int) : addZ a b = addZ b a := by unfold addZ; rw [Int.add_comm]
def heldZ (n l m : Int) : Int := if n < l then l else if n > m then m else n
theorem heldZ_in (n l m : Int) (h : l ≤ m) : l ≤ heldZ n l m ∧ heldZ n l m ≤ m := by unfold heldZ; split <;> (try split) <;> omega
def refAddZ (a b : Int) : Int := heldZ (heldZ a (-999) 999 + heldZ b (-999) 999) (-999) 999
theorem held_hold (n : Int) : heldZ n (-999) 999 = holdZ n := by unfold heldZ holdZ; split <;> (try split) <;> omega
theorem refAdd_eq (a b : Int) : refAddZ a b = addZ a b := by unfold refAddZ addZ; rw [held_hold, held_hold, held_hold]
end Go.Proofs.Ytlfffeinngkjgaa
