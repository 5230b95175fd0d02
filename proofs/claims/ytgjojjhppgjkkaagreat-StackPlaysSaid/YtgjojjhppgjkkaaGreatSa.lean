/- How strong creatures are (layer 8): sums held within bounds, layers. -/
import Derived.Test.YtgjojjhppgjkkaaGreatHe
namespace Go.Proofs.YtgjojjhppgjkkaaGreat
open Go.RowKit Go.Maps

def holdZ (n : Int) : Int := min (max n (-999)) 999
def addZ (a b : Int) : Int := holdZ (holdZ a + holdZ b)
def raiseZ (a b : Int) : Int := max (addZ a b) 0
def layZ (x c b : Int) : Int := raiseZ (raiseZ x c) b
theorem holdZ_in (n : Int) : -999 ≤ holdZ n ∧ holdZ n ≤ 999 := by unfold holdZ; omega
theorem holdZ_id {n : Int} (h : -999 ≤ n ∧ n ≤ 999) : holdZ n = n := by unfold holdZ; omega
theorem addZ_in (a b : Int) : -999 ≤ addZ a b ∧ addZ a b ≤ 999 := holdZ_in _
theorem raiseZ_in (a b : Int) : 0 ≤ raiseZ a b ∧ raiseZ a b ≤ 999 := by have := addZ_in a b; unfold raiseZ; omega
theorem addZ_comm (a b : Int) : addZ a b = addZ b a := by unfold addZ; rw [Int.add_comm]
set_option maxRecDepth 100000 in
theorem hold_any (n : Int) (w : World) : Calls Tryz.prog 121 #[.int .i64 n] w (Same w (.int .i64 (holdZ n))) := by
  go_enter Tryz.func121, Tryz.ntmps121
  go_wp2
  go_ret
  exact ⟨rfl, rfl⟩
set_option maxRecDepth 100000 in
theorem add_any (a b : Int) (w : World) : Calls Tryz.prog 93 #[.int .i64 a, .int .i64 b] w (Same w (.int .i64 (addZ a b))) := by
  have h1 := holdZ_in a
  have h2 := holdZ_in b
  go_enter Tryz.func93, Tryz.ntmps93
  go_wp2_with fail
  refine (hold_any a w).mono ?_
  rintro e w1 ⟨rfl, rfl⟩
  go_wp2_with fail
  refine (hold_any b w1).mono ?_
  rintro e w2 ⟨rfl, rfl⟩
  unfold addZ
  obtain ⟨x, hx⟩ : ∃ x, holdZ a = x := ⟨_, rfl⟩
  obtain ⟨y, hy⟩ : ∃ y, holdZ b = y := ⟨_, rfl⟩
  rw [hx] at h1 ⊢
  rw [hy] at h2 ⊢
  go_wp2_with fail
  refine (hold_any (x + y) w2).mono ?_
  rintro e w3 ⟨rfl, rfl⟩
  go_wp2
  go_ret
  subst hx hy
  exact ⟨rfl, rfl⟩
set_option maxRecDepth 100000 in
theorem raise_any (a b : Int) (w : World) : Calls Tryz.prog 132 #[.int .i64 a, .int .i64 b] w (Same w (.int .i64 (raiseZ a b))) := by
  go_enter Tryz.func132, Tryz.ntmps132
  go_wp2_with fail
  refine (add_any a b w).mono ?_
  rintro e w1 ⟨rfl, rfl⟩
  go_wp2
  go_ret
  exact ⟨rfl, rfl⟩
def heldZ (n l m : Int) : Int := if n < l then l else if n > m then m else n
set_option maxRecDepth 100000 in
theorem held_any (n l m : Int) (w : World) : Calls Tryz.prog 94 #[.int .i64 n, .int .i64 l, .int .i64 m] w (Same w (.int .i64 (heldZ n l m))) := by
  by_cases h1 : n < l
  · have d1 : decide (n < l) = true := decide_eq_true h1
    have e : heldZ n l m = l := if_pos h1
    rw [e]
    go_enter Tryz.func94, Tryz.ntmps94
    go_wp2
    go_ret
    exact ⟨rfl, rfl⟩
  have d1 : decide (n < l) = false := decide_eq_false h1
  by_cases h2 : m < n
  · have d2 : decide (m < n) = true := decide_eq_true h2
    have e : heldZ n l m = m := by unfold heldZ; rw [if_neg h1, if_pos h2]
    rw [e]
    go_enter Tryz.func94, Tryz.ntmps94
    go_wp2
    go_ret
    exact ⟨rfl, rfl⟩
  have d2 : decide (m < n) = false := decide_eq_false h2
  have e : heldZ n l m = n := by unfold heldZ; rw [if_neg h1, if_neg h2]
  rw [e]
  go_enter Tryz.func94, Tryz.ntmps94
  go_wp2
  go_ret
  exact ⟨rfl, rfl⟩
theorem heldZ_in (n l m : Int) (h : l ≤ m) : l ≤ heldZ n l m ∧ heldZ n l m ≤ m := by unfold heldZ; split <;> (try split) <;> omega
def refAddZ (a b : Int) : Int := heldZ (heldZ a (-999) 999 + heldZ b (-999) 999) (-999) 999
theorem held_hold (n : Int) : heldZ n (-999) 999 = holdZ n := by unfold heldZ holdZ; split <;> (try split) <;> omega
theorem refAdd_eq (a b : Int) : refAddZ a b = addZ a b := by unfold refAddZ addZ; rw [held_hold, held_hold, held_hold]
set_option maxRecDepth 100000 in
theorem refAdd_any (a b : Int) (w : World) : Calls Tryz.prog 52 #[.int .i64 a, .int .i64 b] w (Same w (.int .i64 (addZ a b))) := by
  rw [← refAdd_eq]
  have h1 := heldZ_in a (-999) 999 (by decide)
  have h2 := heldZ_in b (-999) 999 (by decide)
  go_enter Tryz.func52, Tryz.ntmps52
  go_wp2_with fail
  refine (held_any a (-999) 999 w).mono ?_
  rintro e w1 ⟨rfl, rfl⟩
  go_wp2_with fail
  refine (held_any b (-999) 999 w1).mono ?_
  rintro e w2 ⟨rfl, rfl⟩
  unfold refAddZ
  obtain ⟨x, hx⟩ : ∃ x, heldZ a (-999) 999 = x := ⟨_, rfl⟩
  obtain ⟨y, hy⟩ : ∃ y, heldZ b (-999) 999 = y := ⟨_, rfl⟩
  rw [hx] at h1 ⊢
  rw [hy] at h2 ⊢
  go_wp2_with fail
  refine (held_any (x + y) (-999) 999 w2).mono ?_
  rintro e w3 ⟨rfl, rfl⟩
  go_wp2
  go_ret
  subst hx hy
  exact ⟨rfl, rfl⟩
end Go.Proofs.YtgjojjhppgjkkaaGreat
