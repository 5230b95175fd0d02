/- The contracts of mostOf, aimsOf and CheckTerm (layer 2, card): for every term, whether it may be. -/
import Derived.Test.YtmmjhhfdloenbaaCa
import Derived.Test.YtmmjhhfdloenbaaSc
import Derived.Test.YtmmjhhfdloenbaaE
import Derived.Deep.QuietTactic
import Derived.BigQuiet
import Derived.Deep.RegionHeld3
namespace Go.Proofs.Ytmmjhhfdloenbaa
open Go.RowKit

def tval (t : TermL) : Value := .agg #[.int .i64 t.op, .int .i64 t.n, .int .i64 t.on]

set_option maxRecDepth 100000 in
set_option maxHeartbeats 400000 in
theorem mostOf_any (op : Int) (w : World) : Calls Try.prog 157 #[.int .i64 op] w fun e w' => e = .returned (.int .i64 (mostI op)) ∧ w = w' := by
  by_cases h6 : op = 6
  · subst h6
    go_enter Try.func157, Try.ntmps157
    go_wp2
    go_ret
    exact ⟨rfl, rfl⟩
  by_cases h7 : op = 7
  · subst h7
    go_enter Try.func157, Try.ntmps157
    go_wp2
    go_ret
    exact ⟨rfl, rfl⟩
  by_cases h9 : op = 9
  · subst h9
    go_enter Try.func157, Try.ntmps157
    go_wp2
    go_ret
    exact ⟨rfl, rfl⟩
  have hm : Hid (mostI op = 20) := Lib.hid (by unfold mostI; rw [if_neg (by omega)])
  rw [hm.out]
  have b6 : (op == 6) = false := beq_eq_false_iff_ne.2 h6
  have b7 : (op == 7) = false := beq_eq_false_iff_ne.2 h7
  have b9 : (op == 9) = false := beq_eq_false_iff_ne.2 h9
  clear h6 h7 h9
  go_enter Try.func157, Try.ntmps157
  go_wp2
  go_ret
  exact ⟨rfl, rfl⟩

/-- A slice of numbers, or none; what it holds. -/
def NumsAt (w : World) (v : Value) (l : List Int) : Prop :=
  (v = .slice none 0 0 ∧ l = []) ∨ ∃ b off cap, v = .slice (some ⟨b, off, none⟩) l.length cap ∧ b < w.heap.size ∧ ∀ i, i < l.length → w.cell? ⟨b, off + i, none⟩ = some (.int .i64 (l.getD i 0))
def RetNums (w : World) (l : List Int) (e : Ending) (w' : World) : Prop :=
  ∃ xa xn xc, e = .returned (.slice xa xn xc) ∧ NumsAt w' (.slice xa xn xc) l ∧ Below w.heap.size w w'

theorem nums1 (w : World) (a : Int) : NumsAt (w.alloc (.cells #[.int .i64 a] 3)) (.slice (some ⟨w.heap.size, 0, none⟩) 1 1) [a] :=
  .inr ⟨_, _, _, rfl, by simp, fun i hi => by
    obtain rfl : i = 0 := by simp at hi; omega
    simp [go_sem]⟩
theorem nums2 (w : World) (a b : Int) : NumsAt (w.alloc (.cells #[.int .i64 a, .int .i64 b] 3)) (.slice (some ⟨w.heap.size, 0, none⟩) 2 2) [a, b] :=
  .inr ⟨_, _, _, rfl, by simp, fun i hi => by
    have h : i = 0 ∨ i = 1 := by simp at hi; omega
    rcases h with rfl | rfl <;> simp [go_sem]⟩
theorem nums3 (w : World) (a b c : Int) : NumsAt (w.alloc (.cells #[.int .i64 a, .int .i64 b, .int .i64 c] 3)) (.slice (some ⟨w.heap.size, 0, none⟩) 3 3) [a, b, c] :=
  .inr ⟨_, _, _, rfl, by simp, fun i hi => by
    have h : i = 0 ∨ i = 1 ∨ i = 2 := by simp at hi; omega
    rcases h with rfl | rfl | rfl <;> simp [go_sem]⟩

set_option maxRecDepth 100000 in
set_option maxHeartbeats 800000 in
theorem aimsOf_any (op : Int) (w : World) : Calls Try.prog 158 #[.int .i64 op] w (RetNums w (aimsI op)) := by
  by_cases h1 : op = 1
  · subst h1
    go_enter Try.func158, Try.ntmps158
    go_wp2
    go_ret
    exact ⟨_, _, _, rfl, nums3 _ _ _ _, (Below.refl _ _).alloc (Nat.le_refl _) _⟩
  by_cases h2 : op = 2
  · subst h2
    go_enter Try.func158, Try.ntmps158
    go_wp2
    go_ret
    exact ⟨_, _, _, rfl, nums1 _ _, (Below.refl _ _).alloc (Nat.le_refl _) _⟩
  by_cases h3 : op = 3
  · subst h3
    go_enter Try.func158, Try.ntmps158
    go_wp2
    go_ret
    exact ⟨_, _, _, rfl, nums1 _ _, (Below.refl _ _).alloc (Nat.le_refl _) _⟩
  by_cases h8 : op = 8
  · subst h8
    go_enter Try.func158, Try.ntmps158
    go_wp2
    go_ret
    exact ⟨_, _, _, rfl, nums1 _ _, (Below.refl _ _).alloc (Nat.le_refl _) _⟩
  by_cases h4 : op = 4
  · subst h4
    go_enter Try.func158, Try.ntmps158
    go_wp2
    go_ret
    exact ⟨_, _, _, rfl, nums2 _ _ _, (Below.refl _ _).alloc (Nat.le_refl _) _⟩
  by_cases h5 : op = 5
  · subst h5
    go_enter Try.func158, Try.ntmps158
    go_wp2
    go_ret
    exact ⟨_, _, _, rfl, nums2 _ _ _, (Below.refl _ _).alloc (Nat.le_refl _) _⟩
  by_cases h6 : op = 6
  · subst h6
    go_enter Try.func158, Try.ntmps158
    go_wp2
    go_ret
    exact ⟨_, _, _, rfl, nums2 _ _ _, (Below.refl _ _).alloc (Nat.le_refl _) _⟩
  by_cases h7 : op = 7
  · subst h7
    go_enter Try.func158, Try.ntmps158
    go_wp2
    go_ret
    exact ⟨_, _, _, rfl, nums2 _ _ _, (Below.refl _ _).alloc (Nat.le_refl _) _⟩
  by_cases h9 : op = 9
  · subst h9
    go_enter Try.func158, Try.ntmps158
    go_wp2
    go_ret
    exact ⟨_, _, _, rfl, nums2 _ _ _, (Below.refl _ _).alloc (Nat.le_refl _) _⟩
  have hm : Hid (aimsI op = []) := Lib.hid (by unfold aimsI; rw [if_neg (by omega), if_neg (by omega), if_neg (by omega), if_neg (by omega)])
  rw [hm.out]
  have b1 : (op == 1) = false := beq_eq_false_iff_ne.2 h1
  have b2 : (op == 2) = false := beq_eq_false_iff_ne.2 h2
  have b3 : (op == 3) = false := beq_eq_false_iff_ne.2 h3
  have b4 : (op == 4) = false := beq_eq_false_iff_ne.2 h4
  have b5 : (op == 5) = false := beq_eq_false_iff_ne.2 h5
  have b6 : (op == 6) = false := beq_eq_false_iff_ne.2 h6
  have b7 : (op == 7) = false := beq_eq_false_iff_ne.2 h7
  have b8 : (op == 8) = false := beq_eq_false_iff_ne.2 h8
  have b9 : (op == 9) = false := beq_eq_false_iff_ne.2 h9
  clear h1 h2 h3 h4 h5 h6 h7 h8 h9
  go_enter Try.func158, Try.ntmps158
  go_wp2
  go_ret
  exact ⟨_, _, _, rfl, .inl ⟨rfl, rfl⟩, Below.refl _ _⟩

set_option maxHeartbeats 400000 in
theorem contains_any (v : Value) (l : List Int) (x : Int) (w : World) (hn : l.length ≤ 9223372036854775807) (h : NumsAt w v l) :
    Calls Try.prog 111 #[v, .int .i64 x] w fun e w' => e = .returned (.bool (l.contains x)) ∧ w = w' := by
  rcases h with ⟨rfl, rfl⟩ | ⟨b, off, cap, rfl, _, hc⟩
  · exact (Try.slices_Contains_int_empty none 0 x w).mono fun e w' ⟨he, hw⟩ => ⟨he, hw.symm⟩
  · refine (Try.slices_Contains_int b off l.length cap l x w (Nat.le_refl _) hn (fun j hj => hc j hj)).mono fun e w' ⟨he, hw⟩ => ⟨?_, hw.symm⟩
    rw [he, List.take_length]
end Go.Proofs.Ytmmjhhfdloenbaa
