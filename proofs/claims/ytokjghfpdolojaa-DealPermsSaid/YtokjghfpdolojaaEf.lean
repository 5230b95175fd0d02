/- The contract of the document's draw (layer 4). -/
import Derived.Test.YtokjghfpdolojaaEe
import Derived.Deep.QuietTactic
import Derived.BigQuiet
namespace Go.Proofs.Ytokjghfpdolojaa
open Go.RowKit

theorem grown_drewN (w : World) (n : Nat) (r : Option Nat) : w.grownBy (w.drewN n) r := ⟨rfl, rfl, rfl, Nat.le_refl _, fun _ _ _ => rfl⟩
theorem drop_head (l : List Int) (k : Nat) : (l.drop k).headD 0 = if h : k < l.length then l[k] else 0 := by
  split
  · rename_i h
    rw [List.drop_eq_getElem_cons h]; rfl
  · rename_i h
    rw [List.drop_eq_nil_of_le (by omega)]; rfl
def RefAt (w : World) (b : Nat) (v : Value) (k : Nat) : Prop := RowAt w b 28 [v, .int .i64 k]
def RefOne (w : World) (b : Nat) (v : Value) (x : Int) (k : Nat) (e : Ending) (w' : World) : Prop :=
  e = .returned (.int .i64 x) ∧ RefAt w' b v k ∧ w.grownBy w' (some b) ∧ w'.heap.size = w.heap.size
theorem ref_end {w w' : World} {b k n : Nat} {v : Value} {a x : Int} (hr : RefAt w b v k) (hw : w' = (w.drewN n).setCell ⟨b, 1, none⟩ (.int .i64 ((k : Int) + 1))) (ha : a = x) : RefOne w b v x (k + 1) (.returned (.int .i64 a)) w' := by
  subst hw
  refine ⟨ret_int ha, ?_, grown_trans (grown_drewN w n _) (grown_set _ b 1 _), by simp⟩
  have h : RefAt (w.drewN n) b v k := hr
  have := RowAt.set h 1 (.int .i64 ((k : Int) + 1))
  simpa [RefAt] using this
set_option maxRecDepth 100000 in
set_option maxHeartbeats 8000000 in
theorem refBelow_any (n : Int) {w : World} {b k : Nat} {v : Value} {l : List Int} (hr : RefAt w b v k) (hi : IntsAt w v l) (hk : k ≤ 1000000) (hnn : n ≤ 9223372036854775807) :
    Calls Try.prog 11 #[.pointer (some ⟨b, 0, none⟩), .int .i64 n] w (RefOne w b v (drawN ((l.drop k).headD 0) n) (k + 1)) := by
  obtain ⟨xa, xc, rfl⟩ := hi.form
  have c0 := RowAt.cell hr 0 (by simp)
  have c1 := RowAt.cell hr 1 (by simp)
  have f1 := RowAt.free hr 1
  simp only [List.getElem_cons_zero, List.getElem_cons_succ] at c0 c1
  have HR := Lib.hid hr
  have k0 : (0 : Int) ≤ k := by omega
  have k1 : (k : Int) ≤ 1000000 := by omega
  by_cases hkl : k < l.length
  · obtain ⟨r, off, rfl, hrl, hc⟩ := hi.at k hkl
    have hx := drop_head l k
    rw [dif_pos hkl] at hx
    obtain ⟨x, hxx⟩ : ∃ x, l[k] = x := ⟨_, rfl⟩
    rw [hxx] at hx hc
    rw [hx]
    have d1 : decide ((k : Int) < l.length) = true := decide_eq_true (by omega)
    have d2 : (k : Int) < l.length := by omega
    clear hr hi hxx hx
    by_cases h1 : n < 1
    · have HD := Lib.hid (show drawN x n = 0 by unfold drawN; rw [if_pos h1])
      have b1 : decide (n < 1) = true := decide_eq_true h1
      clear h1
      go_enter Try.func11, Try.ntmps11
      go_wp2
      go_quiet (fail)
      go_wp2
      go_quiet (fail)
      go_wp2
      go_ret
      exact ref_end HR.out rfl HD.out.symm
    · have b1 : decide (n < 1) = false := decide_eq_false h1
      have hb := tmod_lt x n (by omega)
      have n0 : ¬ n = 0 := by omega
      by_cases h2 : x.tmod n < 0
      all_goals
        have HD := Lib.hid (show drawN x n = if x.tmod n < 0 then x.tmod n + n else x.tmod n by unfold drawN; rw [if_neg h1])
        go_enter Try.func11, Try.ntmps11
        go_wp2
        go_quiet (fail)
        go_wp2
        go_quiet (fail)
        go_wp2
        go_ret
        exact ref_end HR.out rfl (by rw [HD.out]; first | rw [if_pos h2] | rw [if_neg (by omega)])
  · have hx := drop_head l k
    rw [dif_neg hkl] at hx
    rw [hx]
    have d1 : decide ((k : Int) < l.length) = false := decide_eq_false (by omega)
    clear hr hi hx
    by_cases h1 : n < 1
    · have HD := Lib.hid (show drawN 0 n = 0 by unfold drawN; rw [if_pos h1])
      have b1 : decide (n < 1) = true := decide_eq_true h1
      clear h1
      go_enter Try.func11, Try.ntmps11
      go_wp2
      go_quiet (fail)
      go_wp2
      go_ret
      exact ref_end HR.out rfl HD.out.symm
    · have b1 : decide (n < 1) = false := decide_eq_false h1
      have n0 : ¬ n = 0 := by omega
      have ht : (0 : Int).tmod n = 0 := by simp
      have HD := Lib.hid (show drawN 0 n = 0 by unfold drawN; rw [if_neg h1, ht]; rfl)
      go_enter Try.func11, Try.ntmps11
      go_wp2
      go_quiet (fail)
      go_wp2
      go_ret
      exact ref_end HR.out rfl HD.out.symm
end Go.Proofs.Ytokjghfpdolojaa
