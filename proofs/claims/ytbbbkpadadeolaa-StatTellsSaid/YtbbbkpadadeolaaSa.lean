/- How strong creatures are (layer 8): sums held within bounds, layers. -/
import Derived.Test.YtbbbkpadadeolaaHe
namespace Go.Proofs.Ytbbbkpadadeolaa
open Go.RowKit Go.Maps

def holdZ (n : Int) : Int := min (max n (-999)) 999
def addZ (a b : Int) : Int := holdZ (holdZ a + holdZ b)
def raiseZ (a b : Int) : Int := max (addZ a b) 0
def layZ (x c b : Int) : Int := raiseZ (raiseZ x c) b
theorem holdZ_in (n : Int) : -999 ≤ holdZ n ∧ holdZ n ≤ 999 := by unfold holdZ; omega
theorem holdZ_id {n : Int} (h : -999 ≤ n ∧ n ≤ 999) : holdZ n = n := by unfold holdZ; omega
theorem addZ_in (a b : Int) : -999 ≤ addZ a b ∧ addZ a b ≤ 999 := holdZ_in _
theorem raiseZ_in (a b : Int) : 0 ≤ raiseZ a b ∧ raiseZ a b ≤ 999 := by have := addZ_in a b; unfold raiseZ; omega
theorem addZ_comm (a b : Int) : addZ a b = addZ b a := by unfold addZ; rw [Int.add_comm]
set_option maxRecDepth 100000 in
theorem hold_any (n : Int) (w : World) : Calls Try.prog 57 #[.int .i64 n] w (Same w (.int .i64 (holdZ n))) := by
  go_enter Try.func57, Try.ntmps57
  go_wp2
  go_ret
  exact ⟨rfl, rfl⟩
set_option maxRecDepth 100000 in
theorem add_any (a b : Int) (w : World) : Calls Try.prog 29 #[.int .i64 a, .int .i64 b] w (Same w (.int .i64 (addZ a b))) := by
  have h1 := holdZ_in a
  have h2 := holdZ_in b
  go_enter Try.func29, Try.ntmps29
  go_wp2_with fail
  refine (hold_any a w).mono ?_
  rintro e w1 ⟨rfl, rfl⟩
  go_wp2_with fail
  refine (hold_any b w1).mono ?_
  rintro e w2 ⟨rfl, rfl⟩
  unfold addZ
  obtain ⟨x, hx⟩ : ∃ x, holdZ a = x := ⟨_, rfl⟩
  obtain ⟨y, hy⟩ : ∃ y, holdZ b = y := ⟨_, rfl⟩
  rw [hx] at h1 ⊢
  rw [hy] at h2 ⊢
  go_wp2_with fail
  refine (hold_any (x + y) w2).mono ?_
  rintro e w3 ⟨rfl, rfl⟩
  go_wp2
  go_ret
  subst hx hy
  exact ⟨rfl, rfl⟩
set_option maxRecDepth 100000 in
theorem raise_any (a b : Int) (w : World) : Calls Try.prog 44 #[.int .i64 a, .int .i64 b] w (Same w (.int .i64 (raiseZ a b))) := by
  go_enter Try.func44, Try.ntmps44
  go_wp2_with fail
  refine (add_any a b w).mono ?_
  rintro e w1 ⟨rfl, rfl⟩
  go_wp2
  go_ret
  exact ⟨rfl, rfl⟩
def heldZ (n l m : Int) : Int := if n < l then l else if n > m then m else n
set_option maxRecDepth 100000 in
theorem held_any (n l m : Int) (w : World) : Calls Try.prog 31 #[.int .i64 n, .int .i64 l, .int .i64 m] w (Same w (.int .i64 (heldZ n l m))) := by
  by_cases h1 : n < l
  · have d1 : decide (n < l) = true := decide_eq_true h1
    have e : heldZ n l m = l := if_pos h1
    rw [e]
    go_enter Try.func31, Try.ntmps31
    go_wp2
    go_ret
    exact ⟨rfl, rfl⟩
  have d1 : decide (n < l) = false := decide_eq_false h1
  by_cases h2 : m < n
  · have d2 : decide (m < n) = true := decide_eq_true h2
    have e : heldZ n l m = m := by unfold heldZ; rw [if_neg h1, if_pos h2]
    rw [e]
    go_enter Try.func31, Try.ntmps31
    go_wp2
    go_ret
    exact ⟨rfl, rfl⟩
  have d2 : decide (m < n) = false := decide_eq_false h2
  have e : heldZ n l m = n := by unfold heldZ; rw [if_neg h1, if_neg h2]
  rw [e]
  go_enter Try.func31, Try.ntmps31
  go_wp2
  go_ret
  exact ⟨rfl, rfl⟩
theorem heldZ_in (n l m : Int) (h : l ≤ m) : l ≤ heldZ n l m ∧ heldZ n l m ≤ m := by unfold heldZ; split <;> (try split) <;> omega
def refAddZ (a b : Int) : Int := heldZ (heldZ a (-999) 999 + heldZ b (-999) 999) (-999) 999
theorem held_hold (n : Int) : heldZ n (-999) 999 = holdZ n := by unfold heldZ holdZ; split <;> (try split) <;> omega
theorem refAdd_eq (a b : Int) : refAddZ a b = addZ a b := by unfold refAddZ addZ; rw [held_hold, held_hold, held_hold]
set_option maxRecDepth 100000 in
theorem refAdd_any (a b : Int) (w : World) : Calls Try.prog 25 #[.int .i64 a, .int .i64 b] w (Same w (.int .i64 (addZ a b))) := by
  rw [← refAdd_eq]
  have h1 := heldZ_in a (-999) 999 (by decide)
  have h2 := heldZ_in b (-999) 999 (by decide)
  go_enter Try.func25, Try.ntmps25
  go_wp2_with fail
  refine (held_any a (-999) 999 w).mono ?_
  rintro e w1 ⟨rfl, rfl⟩
  go_wp2_with fail
  refine (held_any b (-999) 999 w1).mono ?_
  rintro e w2 ⟨rfl, rfl⟩
  unfold refAddZ
  obtain ⟨x, hx⟩ : ∃ x, heldZ a (-999) 999 = x := ⟨_, rfl⟩
  obtain ⟨y, hy⟩ : ∃ y, heldZ b (-999) 999 = y := ⟨_, rfl⟩
  rw [hx] at h1 ⊢
  rw [hy] at h2 ⊢
  go_wp2_with fail
  refine (held_any (x + y) (-999) 999 w2).mono ?_
  rintro e w3 ⟨rfl, rfl⟩
  go_wp2
  go_ret
  subst hx hy
  exact ⟨rfl, rfl⟩
def refLayZ (x c b : Int) : Int := heldZ (heldZ (heldZ x 0 999 + heldZ c (-5000) 5000) 0 999 + heldZ b (-5000) 5000) 0 999
theorem refLay_eq {x : Int} (c b : Int) (h : 0 ≤ x ∧ x ≤ 999) : refLayZ x c b = layZ x c b := by
  have key : ∀ y d : Int, 0 ≤ y ∧ y ≤ 999 → heldZ (y + heldZ d (-5000) 5000) 0 999 = raiseZ y d := fun y d hy => by
    unfold raiseZ addZ
    rw [holdZ_id (show -999 ≤ y ∧ y ≤ 999 by omega)]
    unfold heldZ holdZ
    repeat' split
    all_goals omega
  have e0 : heldZ x 0 999 = x := by unfold heldZ; rw [if_neg (by omega), if_neg (by omega)]
  unfold refLayZ layZ
  rw [e0, key x c h, key _ b (raiseZ_in x c)]
set_option maxRecDepth 100000 in
theorem refLay_any (x c b : Int) (w : World) : Calls Try.prog 11 #[.int .i64 x, .int .i64 c, .int .i64 b] w (Same w (.int .i64 (refLayZ x c b))) := by
  unfold refLayZ
  obtain ⟨y0, hy0⟩ : ∃ y, heldZ x 0 999 = y := ⟨_, rfl⟩
  obtain ⟨y1, hy1⟩ : ∃ y, heldZ c (-5000) 5000 = y := ⟨_, rfl⟩
  obtain ⟨y2, hy2⟩ : ∃ y, heldZ (y0 + y1) 0 999 = y := ⟨_, rfl⟩
  obtain ⟨y3, hy3⟩ : ∃ y, heldZ b (-5000) 5000 = y := ⟨_, rfl⟩
  have h0 := heldZ_in x 0 999 (by decide)
  have h1 := heldZ_in c (-5000) 5000 (by decide)
  have h2 := heldZ_in (y0 + y1) 0 999 (by decide)
  have h3 := heldZ_in b (-5000) 5000 (by decide)
  have H0 := held_any x 0 999
  have H1 := held_any c (-5000) 5000
  have H2 := held_any (y0 + y1) 0 999
  have H3 := held_any b (-5000) 5000
  rw [hy0] at h0 H0 ⊢
  rw [hy1] at h1 H1 ⊢
  rw [hy2] at h2 H2 ⊢
  rw [hy3] at h3 H3 ⊢
  have K0 := Lib.hid H0
  have K1 := Lib.hid H1
  have K2 := Lib.hid H2
  have K3 := Lib.hid H3
  clear H0 H1 H2 H3 hy0 hy1 hy2 hy3
  go_enter Try.func11, Try.ntmps11
  go_wp2_with fail
  refine (K0.out w).mono ?_
  rintro e w1 ⟨rfl, rfl⟩
  go_wp2_with fail
  refine (K1.out w1).mono ?_
  rintro e w2 ⟨rfl, rfl⟩
  go_wp2_with fail
  refine (K2.out w2).mono ?_
  rintro e w3 ⟨rfl, rfl⟩
  go_wp2_with fail
  refine (K3.out w3).mono ?_
  rintro e w4 ⟨rfl, rfl⟩
  go_wp2_with fail
  refine (held_any (y2 + y3) 0 999 w4).mono ?_
  rintro e w5 ⟨rfl, rfl⟩
  go_wp2
  go_ret
  exact ⟨rfl, rfl⟩
set_option maxRecDepth 100000 in
set_option maxHeartbeats 2000000 in
theorem layers_any (x : Int) (o : ObjL) (w : World) : Calls Try.prog 33 #[.int .i64 x, oagg o] w (RetV w (.int .i64 (layZ x o.count o.boost))) := by
  obtain ⟨x0, x1, x2, x3, x4, x5, x6, x7, x8, x9, x10⟩ := o
  unfold oagg layZ
  dsimp only
  have HR := Lib.hid raise_any
  go_enter Try.func33, Try.ntmps33
  go_wp2
  go_region_with ((go_at_call 44; refine (HR.out _ _ _).mono ?_; rintro e w1 ⟨rfl, rfl⟩; dsimp only))
  all_goals
    go_wp2
    go_ret
    exact ⟨rfl, by first | assumption | exact (below_new w _).drew | exact (below_new w _)⟩
end Go.Proofs.Ytbbbkpadadeolaa
