/- How strong creatures are (layer 8): sums held within bounds, layers. -/
import Derived.Test.YthciiapdfjemaaaHe
namespace Go.Proofs.Ythciiapdfjemaaa
open Go.RowKit Go.Maps

def holdZ (n : Int) : Int := min (max n (-999)) 999
def addZ (a b : Int) : Int := holdZ (holdZ a + holdZ b)
def raiseZ (a b : Int) : Int := max (addZ a b) 0
def layZ (x c b : Int) : Int := raiseZ (raiseZ x c) b
theorem holdZ_in (n : Int) : -999 ≤ holdZ n ∧ holdZ n ≤ 999 := by unfold holdZ; omega
theorem holdZ_id {n : Int} (h : -999 ≤ n ∧ n ≤ 999) : holdZ n = n := by unfold holdZ; omega
theorem addZ_in (a b : Int) : -999 ≤ addZ a b ∧ addZ a b ≤ 999 := holdZ_in _
theorem raiseZ_in (a b : Int) : 0 ≤ raiseZ a b ∧ raiseZ a b ≤ 999 := by have := addZ_in a b; unfold raiseZ; omega
theorem addZ_comm (a b : Int) : addZ a b = addZ b a := by unfold addZ; rw [Int.add_comm]
set_option maxRecDepth 100000 in
theorem hold_any (n : Int) (w : World) : Calls Try.prog 89 #[.int .i64 n] w (Same w (.int .i64 (holdZ n))) := by
  go_enter Try.func89, Try.ntmps89
  go_wp2
  go_ret
  exact ⟨rfl, rfl⟩
set_option maxRecDepth 100000 in
theorem add_any (a b : Int) (w : World) : Calls Try.prog 86 #[.int .i64 a, .int .i64 b] w (Same w (.int .i64 (addZ a b))) := by
  have h1 := holdZ_in a
  have h2 := holdZ_in b
  go_enter Try.func86, Try.ntmps86
  go_wp2_with fail
  refine (hold_any a w).mono ?_
  rintro e w1 ⟨rfl, rfl⟩
  go_wp2_with fail
  refine (hold_any b w1).mono ?_
  rintro e w2 ⟨rfl, rfl⟩
  unfold addZ
  obtain ⟨x, hx⟩ : ∃ x, holdZ a = x := ⟨_, rfl⟩
  obtain ⟨y, hy⟩ : ∃ y, holdZ b = y := ⟨_, rfl⟩
  rw [hx] at h1 ⊢
  rw [hy] at h2 ⊢
  go_wp2_with fail
  refine (hold_any (x + y) w2).mono ?_
  rintro e w3 ⟨rfl, rfl⟩
  go_wp2
  go_ret
  subst hx hy
  exact ⟨rfl, rfl⟩
set_option maxRecDepth 100000 in
theorem raise_any (a b : Int) (w : World) : Calls Try.prog 80 #[.int .i64 a, .int .i64 b] w (Same w (.int .i64 (raiseZ a b))) := by
  go_enter Try.func80, Try.ntmps80
  go_wp2_with fail
  refine (add_any a b w).mono ?_
  rintro e w1 ⟨rfl, rfl⟩
  go_wp2
  go_ret
  exact ⟨rfl, rfl⟩
set_option maxRecDepth 100000 in
set_option maxHeartbeats 2000000 in
theorem layers_any (x : Int) (o : ObjL) (w : World) : Calls Try.prog 68 #[.int .i64 x, oagg o] w (RetV w (.int .i64 (layZ x o.count o.boost))) := by
  obtain ⟨x0, x1, x2, x3, x4, x5, x6, x7, x8, x9, x10⟩ := o
  unfold oagg layZ
  dsimp only
  have HR := Lib.hid raise_any
  go_enter Try.func68, Try.ntmps68
  go_wp2
  go_region_with ((go_at_call 80; refine (HR.out _ _ _).mono ?_; rintro e w1 ⟨rfl, rfl⟩; dsimp only))
  all_goals
    go_wp2
    go_ret
    exact ⟨rfl, by first | assumption | exact (below_new w _).drew | exact (below_new w _)⟩
end Go.Proofs.Ythciiapdfjemaaa
