/- The document's example of priority (layer 16). -/
import Derived.Test.YtciieodmihgpgaaPe
namespace Go.Proofs.Ytciieodmihgpgaa
open Go.RowKit
attribute [local go_sem] Oper.semAt_some

def teams0 : TeamL := newT [0, 0, 1, 1] [30, 30]
theorem sidesT_zero : sidesT 0 = teams0 := rfl
/-- Priority behind k passes of the example. -/
def exP (k : Nat) : PriL := ([⟨0, 0, no4⟩, ⟨0, 0, ⟨true, false, false, false⟩⟩, ⟨1, 1, no4⟩, ⟨1, 1, ⟨false, false, true, false⟩⟩] : List PriL).getD k ⟨0, 0, no4⟩
def exL : List Int := [0, 1, 0, 2]
theorem ex_step (k : Nat) (h : k < 4) : mayP teams0 (exP k) k = true ∧ passP teams0 (exP k) k = (exP (k + 1), exL.getD k 0) ∧ 0 ≤ (exP k).row ∧ (exP k).row ≤ 1000 := by
  have h4 : k = 0 ∨ k = 1 ∨ k = 2 ∨ k = 3 := by omega
  rcases h4 with rfl | rfl | rfl | rfl
  all_goals exact ⟨rfl, rfl, by decide, by decide⟩
/-- What a pass leaves of what was there before: all but priority's box. -/
theorem rowAt_ret {w w' : World} {t g : Nat} {ty : TypeId} {xs : List Value} (h : RowAt w g ty xs) (hg : w.grownBy w' (some t)) (hn : g ≠ t) : RowAt w' g ty xs := h.grown hg hn
set_option maxRecDepth 100000 in
set_option maxHeartbeats 16000000 in
theorem awake16_any (w : World) : Calls Try.prog 6 #[] w (RetV w (.bool true)) := by
  go_enter Try.func6, Try.ntmps6
  go_wp2_with fail
  refine (sides_any (n := 0) (by omega) w).mono ?_
  rintro e w1 ⟨lo, b, s, r, rfl, ht, hlo, hb1⟩
  rw [sidesT_zero] at ht
  have HT := Lib.hid ht
  have HB1 := Lib.hid hb1
  have HLO := Lib.hid hlo
  clear ht hb1 hlo
  dsimp only
  go_wp2_with fail
  refine (newP_any 0 w1).mono ?_
  rintro e w2 ⟨rfl, hp2, hb2⟩
  have HPT := Lib.hid (PT.mk (HT.out.later hb2) hp2 ⟨by have := HT.out.lt; omega, by have := HT.out.sd.1; omega, by have := HT.out.ltr; omega⟩)
  have HB2 := Lib.hid (stepB HB1.out hb2)
  have HTL := Lib.hid (show w.heap.size ≤ w1.heap.size ∧ w1.heap.size < w2.heap.size from ⟨HB1.out.size, hp2.lt⟩)
  obtain ⟨t, ht⟩ : ∃ t, w1.heap.size = t := ⟨_, rfl⟩
  rw [ht] at HPT HTL ⊢
  clear hp2 hb2 ht HT HB1
  dsimp only
  have HR := Lib.hid (RowAt.new w2 3 (intsV exL))
  have HB3 := Lib.hid (stepB HB2.out (below_new w2 (.cells (intsV exL).toArray 3)))
  have HP3 := Lib.hid (HPT.out.later (below_new w2 (.cells (intsV exL).toArray 3)))
  go_upto_region 5 with fail
  go_wp2
  obtain ⟨w3, hw3⟩ : ∃ w3, w2.alloc (.cells #[.int .i64 0, .int .i64 1, .int .i64 0, .int .i64 2] 3) = w3 := ⟨_, rfl⟩
  rw [show w2.alloc (.cells (intsV exL).toArray 3) = w3 from hw3] at HR HB3 HP3
  rw [hw3]
  obtain ⟨g, hg⟩ : ∃ g, w2.heap.size = g := ⟨_, rfl⟩
  rw [hg] at HR HTL ⊢
  clear hw3 hg HPT HB2
  go_loopw [17] (fun i wr => ∃ k : Nat, k ≤ 4 ∧ i = .int .i64 k ∧ Hid (PT wr lo b s r t teams0 (exP k)) ∧ Hid (Below w.heap.size w wr) ∧ Hid (RowAt wr g 3 (intsV exL))) (fun i _ => 4 - (intOf i).toNat)
  case atStart => exact ⟨0, Nat.zero_le _, rfl, HP3, HB3, HR⟩
  case round =>
    obtain ⟨k, hk, rfl, HP, HB, HR⟩ := hrel
    by_cases hlt : k < 4
    · obtain ⟨e1, e2, e3, e4⟩ := ex_step k hlt
      have HPA := Lib.hid (pass_yes HP.out e1 e3 e4)
      rw [e2] at HPA
      have x0 : wr.cell? ⟨g, k, none⟩ = some (.int .i64 (exL.getD k 0)) := by
        rw [cell_of_row wr g k _ _ _ HR.out]
        have h4 : k = 0 ∨ k = 1 ∨ k = 2 ∨ k = 3 := by omega
        rcases h4 with rfl | rfl | rfl | rfl <;> rfl
      obtain ⟨x, hx⟩ : ∃ x, exL.getD k 0 = x := ⟨_, rfl⟩
      rw [hx] at x0 HPA
      have d0 : (0 : Int) ≤ k := by omega
      have d1 : (k : Int) < 4 := by omega
      clear e1 e2 e3 e4 hx
      go_wp2_with fail
      refine HPA.out.mono ?_
      rintro e w5 ⟨rfl, hp5, hg5⟩
      have HP5 := Lib.hid (HP.out.ret hp5 hg5)
      have HB5 := Lib.hid (grown_to HB.out hg5 (by have := HTL.out; omega))
      have HR5 := Lib.hid (rowAt_ret HR.out hg5 (by have := HTL.out; omega))
      clear hp5 hg5 HPA x0
      dsimp only
      go_wp2
      go_roundw
      case rel => exact ⟨k + 1, by omega, by go_num, HP5, HB5, HR5⟩
      case measure => simp [intOf]; omega
    · obtain rfl : k = 4 := by omega
      have HTE := Lib.hid (teamP_any HP.out.pr)
      go_wp2_with fail
      refine HTE.out.mono ?_
      rintro e w5 ⟨rfl, rfl⟩
      dsimp only
      go_wp2
      go_ret
      exact ⟨rfl, HB.out⟩
end Go.Proofs.Ytciieodmihgpgaa
