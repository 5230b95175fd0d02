/- The contract of CheckTerm (layer 2, card): for every term it tells whether the term may be; only new memory is made. -/
import Derived.Test.YtmmjhhfdloenbaaCb
namespace Go.Proofs.Ytmmjhhfdloenbaa
open Go.RowKit

def cardE (b : Bool) : Int := if b then 0 else 8
theorem below_drewN {B : Nat} {a w : World} (h : Below B a w) (n : Nat) : Below B a (w.drewN n) := ⟨h.os, h.tape, h.output, h.size, h.block⟩

set_option maxRecDepth 100000 in
set_option maxHeartbeats 800000 in
theorem checkTerm_neg (op n on : Int) (w : World) (h0 : n < 0) :
    Calls Try.prog 145 #[.agg #[.int .i64 op, .int .i64 n, .int .i64 on]] w fun e w' => e = .returned (.int .i64 8) ∧ Below w.heap.size w w' := by
  have hd : decide (n < 0) = true := by simpa using h0
  go_enter Try.func145, Try.ntmps145
  go_wp2
  go_quiet (fail)
  go_wp2
  go_ret
  exact ⟨rfl, below_drewN ((Below.refl _ _).alloc (Nat.le_refl _) _) _⟩

set_option maxRecDepth 100000 in
set_option maxHeartbeats 800000 in
theorem checkTerm_great (op n on : Int) (w : World) (h0 : 0 ≤ n) (h1 : mostI op < n) :
    Calls Try.prog 145 #[.agg #[.int .i64 op, .int .i64 n, .int .i64 on]] w fun e w' => e = .returned (.int .i64 8) ∧ Below w.heap.size w w' := by
  have hd : decide (n < 0) = false := by simpa using h0
  have hd1 : decide (mostI op < n) = true := by simpa using h1
  go_enter Try.func145, Try.ntmps145
  go_wp2
  go_quiet ((go_at_call 157; exact Calls.quiet_of_same ((mostOf_any _ _).mono fun _ _ ⟨he, hw⟩ => ⟨he, hw.symm⟩)))
  go_wp2
  go_ret
  exact ⟨rfl, below_drewN ((Below.refl _ _).alloc (Nat.le_refl _) _) _⟩

theorem cell_stays {w w' : World} {p : Addr} {v : Value} (hb : Below w.heap.size w w') (h : w.cell? p = some v) : w'.cell? p = some v := by
  by_cases hp : p.block < w.heap.size
  · rw [hb.cell hp]; exact h
  · unfold World.cell? at h
    rw [Array.getElem?_eq_none (by omega)] at h
    simp at h
theorem keepS3 {A w1 w2 : World} {b : Nat} {v1 v2 v3 : Value} (hb : Below w1.heap.size w1 w2)
    (h : Below A.heap.size A w1 ∧ w1.cell? ⟨b, 0, none⟩ = some v1 ∧ w1.cell? ⟨b, 1, none⟩ = some v2 ∧ w1.cell? ⟨b, 2, none⟩ = some v3) :
    Below A.heap.size A w2 ∧ w2.cell? ⟨b, 0, none⟩ = some v1 ∧ w2.cell? ⟨b, 1, none⟩ = some v2 ∧ w2.cell? ⟨b, 2, none⟩ = some v3 :=
  ⟨h.1.trans (hb.mono h.1.size), cell_stays hb h.2.1, cell_stays hb h.2.2.1, cell_stays hb h.2.2.2⟩

theorem aimsI_len (op : Int) : (aimsI op).length ≤ 9223372036854775807 := by
  unfold aimsI
  repeat' split
  all_goals simp

set_option maxRecDepth 100000 in
set_option maxHeartbeats 1600000 in
theorem checkTerm_rest (op n on : Int) (w : World) (h0 : 0 ≤ n) (h1 : n ≤ mostI op) :
    Calls Try.prog 145 #[.agg #[.int .i64 op, .int .i64 n, .int .i64 on]] w fun e w' => e = .returned (.int .i64 (cardE ((aimsI op).contains on))) ∧ Below w.heap.size w w' := by
  have hd : decide (n < 0) = false := by simpa using h0
  have hd1 : decide (mostI op < n) = false := by simpa using h1
  obtain ⟨b, hb⟩ : ∃ b, (aimsI op).contains on = b := ⟨_, rfl⟩
  rw [hb]
  have HB := Lib.hid hb
  have hl := Lib.hid (aimsI_len op)
  clear hb
  cases b
  all_goals
   go_enter Try.func145, Try.ntmps145
   go_wp2
   go_region_held3 (fun w' => Below w.heap.size w w' ∧ w'.cell? ⟨w.heap.size, 0, none⟩ = some (.int .i64 op) ∧ w'.cell? ⟨w.heap.size, 1, none⟩ = some (.int .i64 n) ∧ w'.cell? ⟨w.heap.size, 2, none⟩ = some (.int .i64 on))
    (first | assumption | exact ⟨((Below.refl _ _).alloc (Nat.le_refl _) _).drew, by simp [go_sem], by simp [go_sem], by simp [go_sem]⟩ | exact keepS3 (by assumption) (by assumption))
    (first
      | (go_at_call 157; refine (mostOf_any _ _).mono ?_; rintro e w1 ⟨rfl, rfl⟩)
      | (go_at_call 158; refine (aimsOf_any _ _).mono ?_; rintro e w1 ⟨xa, xn, xc, rfl, hN, hb1⟩)
      | (go_at_call 111; refine (contains_any _ _ _ _ hl.out (by assumption)).mono ?_; rw [HB.out]; rintro e w1 ⟨rfl, rfl⟩))
   have hbb : Below w.heap.size w _ := And.left (by assumption)
   go_wp2
   go_ret
   exact ⟨rfl, hbb⟩

theorem checkTerm_any (t : TermL) (w : World) :
    Calls Try.prog 145 #[tval t] w fun e w' => e = .returned (.int .i64 (cardE (termB t))) ∧ Below w.heap.size w w' := by
  obtain ⟨op, n, on⟩ := t
  by_cases h0 : 0 ≤ n
  · by_cases h1 : n ≤ mostI op
    · rw [show termB ⟨op, n, on⟩ = (aimsI op).contains on by simp [termB, h0, h1]]
      exact checkTerm_rest op n on w h0 h1
    · rw [show termB ⟨op, n, on⟩ = false by simp [termB, h1]]
      exact checkTerm_great op n on w h0 (by omega)
  · rw [show termB ⟨op, n, on⟩ = false by simp [termB, h0]]
    exact checkTerm_neg op n on w (by omega)
end Go.Proofs.Ytmmjhhfdloenbaa
