/- The contract of awake (the law file of layer 1): the example of the document comes out true. -/
import Derived.Test.YtplkodmmedhemaaO
namespace Go.Proofs.Ytplkodmmedhemaa
open Go.RowKit

theorem digits_bytes_le (x : Int) (n : Nat) : (numStr n x).size = n := by
  unfold numStr; rw [strOfNums_size, digits_length]
theorem putN_size (n : Nat) (hn : n ≤ 4) (x : Int) : (nrm2 (putN n x)).1.size ≤ 4 := by
  unfold nrm2 outS putN
  cases h : fitsN n x
  · exact Nat.zero_le _
  · simp [digits_bytes_le]; exact hn

theorem awake_put : nrm2 (lput (putN (heldN 2)) (mostN 9) [1, 300]) = (⟨#[2, 1, 0, 44, 1]⟩, 0) := by kernel_rfl

set_option maxHeartbeats 800000 in
theorem awake_any (w : World) : Calls Try.prog 7 #[] w fun e w' => e = .returned (.bool true) ∧ Below w.heap.size w w' := by
  go_enter Try.func7, Try.ntmps7
  go_wp2_with fail
  refine (num_codec 2 _).mono ?_
  rintro e w2 ⟨v1, rfl, hcod, hb1⟩
  have HC1 := Lib.hid hcod
  have HW1 := Lib.hid hb1
  clear hcod hb1
  go_wp2_with fail
  refine (list_codec HC1.out (Below.refl _ _) (putN_size _ (heldN_bd 2).2) 9).mono ?_
  rintro e w3 ⟨v2, rfl, hcod, hb1⟩
  have HC2 := Lib.hid hcod
  have HW2 := Lib.hid (HW1.out.trans (hb1.mono HW1.out.size))
  clear hcod hb1
  go_wp2_with fail
  have hsl : SliceIs (w3.alloc (.cells #[.int .i64 1, .int .i64 300] 3)) (.slice (some ⟨w3.heap.size, 0, none⟩) 2 2) [1, 300] := by
    refine .inr ⟨w3.heap.size, 0, 2, rfl, by simp, fun i hi => ?_⟩
    have h2 : i = 0 ∨ i = 1 := by simp at hi; omega
    rcases h2 with rfl | rfl <;> simp [go_sem]
  refine (lput_codec HC2.out ((Below.refl _ _).alloc (Nat.le_refl _) _) [1, 300] _ hsl).mono ?_
  rw [awake_put]
  rintro e w4 ⟨rfl, hb4⟩
  have HW4 := Lib.hid ((HW2.out.trans (((Below.refl w3.heap.size w3).alloc (Nat.le_refl _) (.cells #[.int .i64 1, .int .i64 300] 3)).mono HW2.out.size)).trans (hb4.mono (by have := HW2.out.size; simp; omega)))
  clear hb4 hsl
  unfold ret2
  go_wp2
  go_ret
  exact ⟨rfl, HW4.out⟩
end Go.Proofs.Ytplkodmmedhemaa
