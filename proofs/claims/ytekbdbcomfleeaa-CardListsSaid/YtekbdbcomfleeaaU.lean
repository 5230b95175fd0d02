/- The document's own answers for layer 1 (package hydraref01), walked: Held, power, Fits, Half, Num, Read. -/
import Derived.Test.YtekbdbcomfleeaaD
import Derived.Laws.Concat
namespace Go.Proofs.Ytekbdbcomfleeaa
open Go.RowKit

set_option maxHeartbeats 400000 in
theorem held_any (width : Int) (w : World) : Calls Try.prog 69 #[.int .i64 width] w fun e w' => e = .returned (.int .i64 (heldN width)) ∧ w = w' := by
  rcases (by omega : width < 1 ∨ (1 ≤ width ∧ width ≤ 4) ∨ 4 < width) with h | h | h
  · have hh : heldN width = 1 := by unfold heldN; rw [if_pos h]
    rw [hh]
    clear hh
    go_enter Try.func69, Try.ntmps69
    go_wp2
    go_ret
    exact ⟨rfl, rfl⟩
  · have hh : heldN width = width.toNat := by unfold heldN; rw [if_neg (by omega), if_neg (by omega)]
    rw [hh, Int.toNat_of_nonneg (by omega)]
    clear hh
    obtain ⟨h1, h2⟩ := h
    go_enter Try.func69, Try.ntmps69
    go_wp2
    go_ret
    exact ⟨rfl, rfl⟩
  · have hh : heldN width = 4 := by unfold heldN; rw [if_neg (by omega), if_pos h]
    rw [hh]
    clear hh
    go_enter Try.func69, Try.ntmps69
    go_wp2
    go_ret
    exact ⟨rfl, rfl⟩

set_option maxHeartbeats 400000 in
theorem power_any (n : Nat) (hn : n ≤ 4) (w : World) : Calls Try.prog 68 #[.int .i64 n] w fun e w' => e = .returned (.int .i64 (powN n)) ∧ w = w' := by
  go_enter Try.func68, Try.ntmps68
  go_wp2
  go_loop [3, 4] (fun p i => ∃ k : Nat, k ≤ n ∧ i = .int .i64 k ∧ p = .int .i64 (powN k)) (fun _ i => n - (intOf i).toNat)
  case atStart => exact ⟨0, Nat.zero_le _, rfl, rfl⟩
  case round =>
    obtain ⟨k, hk, rfl, rfl⟩ := hrel
    have hp := powN_le4 (show k ≤ 4 by omega)
    have hp0 := powN_pos k
    by_cases hlt : k < n
    · go_wp2
      go_round
      case rel => exact ⟨k + 1, by omega, by go_num, by rw [powN_succ]⟩
      case measure => simp [intOf]; omega
    · obtain rfl : k = n := by omega
      go_wp2
      go_ret
      exact ⟨rfl, rfl⟩

set_option maxHeartbeats 400000 in
theorem fits_any (width x : Int) (w : World) : Calls Try.prog 35 #[.int .i64 width, .int .i64 x] w fun e w' => e = .returned (.bool (fitsN (heldN width) x)) ∧ w = w' := by
  have hh := heldN_bd width
  by_cases h0 : 0 ≤ x
  · have hd : decide (0 ≤ x) = true := by simpa using h0
    have HF : Hid (fitsN (heldN width) x = decide (x < powN (heldN width))) := Lib.hid (by simp [fitsN, h0])
    rw [HF.out]
    go_enter Try.func35, Try.ntmps35
    go_wp2_with (first | (go_at_call 69; refine (held_any _ _).mono ?_; rintro e w' ⟨rfl, rfl⟩) | (go_at_call 68; refine (power_any _ hh.2 _).mono ?_; rintro e w' ⟨rfl, rfl⟩))
    go_ret
    exact ⟨rfl, rfl⟩
  · have hd : decide (0 ≤ x) = false := by simp; omega
    have HF : Hid (fitsN (heldN width) x = false) := Lib.hid (by simp [fitsN, h0])
    rw [HF.out]
    go_enter Try.func35, Try.ntmps35
    go_wp2_with fail
    go_ret
    exact ⟨rfl, rfl⟩

theorem strOfNums_snoc (l : List Int) (d : Int) : strOfNums l ++ strOfNums [d] = strOfNums (l ++ [d]) := by
  apply ByteArray.ext
  simp [strOfNums]

theorem conv_one (w : World) (d : Int) : (convert 96 9 (.slice (some ⟨w.heap.size, 0, none⟩) 1 1)).run Try.prog (w.alloc (.cells #[.int .u8 d] 5)) = .ok (.string (strOfNums [d])) (w.alloc (.cells #[.int .u8 d] 5)) := by
  refine run_convert_bytes_arg _ 96 5 Try.underlying96 Try.underlying5 w.heap.size 0 1 1 [d] rfl (fun i hi => ?_) 9 Try.underlying9
  obtain rfl : i = 0 := by omega
  simp [go_sem]

set_option maxHeartbeats 800000 in
theorem numRef_any (width x : Int) (hx : 0 ≤ x) (hx1 : x ≤ 9223372036854775807) (w : World) : Calls Try.prog 36 #[.int .i64 width, .int .i64 x] w fun e w' => e = .returned (.string (numStr (heldN width) x)) ∧ Below w.heap.size w w' := by
  have hh := heldN_bd width
  go_enter Try.func36, Try.ntmps36
  go_wp2
  go_loopw [1, 5, 6] (fun y s i wr => ∃ k : Nat, k ≤ heldN width ∧ i = .int .i64 k ∧ y = .int .i64 (x / powN k) ∧ s = .string (strOfNums (digits x k)) ∧ Hid (Below w.heap.size w wr)) (fun _ _ i _ => heldN width - (intOf i).toNat)
  case atStart => exact ⟨0, Nat.zero_le _, rfl, by simp [powN], rfl, Lib.hid (Below.refl _ _)⟩
  case round =>
    obtain ⟨k, hk, rfl, rfl, rfl, HB⟩ := hrel
    have hq : 0 ≤ x / powN k := Int.ediv_nonneg hx (by have := powN_pos k; omega)
    have hq1 : x / powN k ≤ 9223372036854775807 := Int.le_trans (Int.ediv_le_self _ hx) hx1
    by_cases hlt : k < heldN width
    · have hcv := conv_one
      have HS := Lib.hid (strOfNums_snoc (digits x k) (x / powN k % 256))
      have HQ : Hid (x / powN k / 256 = x / powN (k + 1)) := Lib.hid (by rw [powN_succ, Int.ediv_ediv_of_nonneg (by have := powN_pos k; omega)])
      have hl1 : (strOfNums (digits x k)).size ≤ 4 := by rw [strOfNums_size, digits_length]; omega
      have hl2 : (strOfNums [x / powN k % 256]).size ≤ 4 := by rw [strOfNums_size]; simp
      go_wp2_with (go_at_call 69; refine (held_any _ _).mono ?_; rintro e w' ⟨rfl, rfl⟩)
      go_roundw
      case rel => exact ⟨k + 1, by omega, by go_num, by rw [HQ.out], by rw [HS.out]; rfl, Lib.hid (HB.out.alloc HB.out.size _)⟩
      case measure => simp [intOf]; omega
    · obtain rfl : k = heldN width := by omega
      go_wp2_with (go_at_call 69; refine (held_any _ _).mono ?_; rintro e w' ⟨rfl, rfl⟩)
      go_ret
      exact ⟨rfl, HB.out⟩

/-- Horner's sum from the top: what stands above byte j of n. -/
def above (s : ByteArray) (a n : Nat) : Nat → Int
  | 0 => 0
  | m + 1 => 256 * above s a n m + byteAt s (a + (n - 1 - m))
theorem above_readN (s : ByteArray) (a n : Nat) : ∀ m, m ≤ n → readN s a n = readN s a (n - m) + powN (n - m) * above s a n m := by
  intro m
  induction m with
  | zero => intro _; simp [above]
  | succ m ih =>
    intro hm
    rw [ih (by omega), show n - m = (n - (m + 1)) + 1 by omega, powN_succ]
    show readN s a (n - (m + 1)) + byteAt s (a + (n - (m + 1))) * 256 ^ (n - (m + 1)) + _ = _
    rw [above, show n - 1 - m = n - (m + 1) by omega]
    show _ + byteAt s (a + (n - (m + 1))) * powN (n - (m + 1)) + _ = _
    rw [Int.mul_add, Int.mul_comm (byteAt s _), Int.mul_assoc]
    omega
theorem above_all (s : ByteArray) (a n : Nat) : above s a n n = readN s a n := by
  have := above_readN s a n n (Nat.le_refl _)
  rw [Nat.sub_self] at this
  simpa [readN, powN] using this.symm
theorem above_bd (s : ByteArray) (a n m : Nat) : 0 ≤ above s a n m ∧ above s a n m < powN m := by
  induction m with
  | zero => simp [above, powN]
  | succ m ih =>
    have hb := byteAt_bd s (a + (n - 1 - m))
    rw [powN_succ, above]
    omega

def agg3 (r : Int × Int × Int) : Value := .agg #[.int .i64 r.1, .int .i64 r.2.1, .int .i64 r.2.2]

end Go.Proofs.Ytekbdbcomfleeaa
