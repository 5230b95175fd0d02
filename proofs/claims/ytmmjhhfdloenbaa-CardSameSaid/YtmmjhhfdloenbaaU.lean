/- The document's own answers for layer 1 (package hydraref01), walked: Held, power, Fits, Half, Num, Read. -/
import Derived.Test.YtmmjhhfdloenbaaE
import Derived.Laws.Concat
namespace Go.Proofs.Ytmmjhhfdloenbaa
open Go.RowKit

set_option maxHeartbeats 400000 in
theorem held_any (width : Int) (w : World) : Calls Try.prog 79 #[.int .i64 width] w fun e w' => e = .returned (.int .i64 (heldN width)) ∧ w = w' := by
  rcases (by omega : width < 1 ∨ (1 ≤ width ∧ width ≤ 4) ∨ 4 < width) with h | h | h
  · have hh : heldN width = 1 := by unfold heldN; rw [if_pos h]
    rw [hh]
    clear hh
    go_enter Try.func79, Try.ntmps79
    go_wp2
    go_ret
    exact ⟨rfl, rfl⟩
  · have hh : heldN width = width.toNat := by unfold heldN; rw [if_neg (by omega), if_neg (by omega)]
    rw [hh, Int.toNat_of_nonneg (by omega)]
    clear hh
    obtain ⟨h1, h2⟩ := h
    go_enter Try.func79, Try.ntmps79
    go_wp2
    go_ret
    exact ⟨rfl, rfl⟩
  · have hh : heldN width = 4 := by unfold heldN; rw [if_neg (by omega), if_pos h]
    rw [hh]
    clear hh
    go_enter Try.func79, Try.ntmps79
    go_wp2
    go_ret
    exact ⟨rfl, rfl⟩

set_option maxHeartbeats 400000 in
theorem power_any (n : Nat) (hn : n ≤ 4) (w : World) : Calls Try.prog 78 #[.int .i64 n] w fun e w' => e = .returned (.int .i64 (powN n)) ∧ w = w' := by
  go_enter Try.func78, Try.ntmps78
  go_wp2
  go_loop [3, 4] (fun p i => ∃ k : Nat, k ≤ n ∧ i = .int .i64 k ∧ p = .int .i64 (powN k)) (fun _ i => n - (intOf i).toNat)
  case atStart => exact ⟨0, Nat.zero_le _, rfl, rfl⟩
  case round =>
    obtain ⟨k, hk, rfl, rfl⟩ := hrel
    have hp := powN_le4 (show k ≤ 4 by omega)
    have hp0 := powN_pos k
    by_cases hlt : k < n
    · go_wp2
      go_round
      case rel => exact ⟨k + 1, by omega, by go_num, by rw [powN_succ]⟩
      case measure => simp [intOf]; omega
    · obtain rfl : k = n := by omega
      go_wp2
      go_ret
      exact ⟨rfl, rfl⟩

set_option maxHeartbeats 400000 in
theorem fits_any (width x : Int) (w : World) : Calls Try.prog 21 #[.int .i64 width, .int .i64 x] w fun e w' => e = .returned (.bool (fitsN (heldN width) x)) ∧ w = w' := by
  have hh := heldN_bd width
  by_cases h0 : 0 ≤ x
  · have hd : decide (0 ≤ x) = true := by simpa using h0
    have HF : Hid (fitsN (heldN width) x = decide (x < powN (heldN width))) := Lib.hid (by simp [fitsN, h0])
    rw [HF.out]
    go_enter Try.func21, Try.ntmps21
    go_wp2_with (first | (go_at_call 79; refine (held_any _ _).mono ?_; rintro e w' ⟨rfl, rfl⟩) | (go_at_call 78; refine (power_any _ hh.2 _).mono ?_; rintro e w' ⟨rfl, rfl⟩))
    go_ret
    exact ⟨rfl, rfl⟩
  · have hd : decide (0 ≤ x) = false := by simp; omega
    have HF : Hid (fitsN (heldN width) x = false) := Lib.hid (by simp [fitsN, h0])
    rw [HF.out]
    go_enter Try.func21, Try.ntmps21
    go_wp2_with fail
    go_ret
    exact ⟨rfl, rfl⟩

set_option maxHeartbeats 400000 in
theorem half_any (width : Int) (w : World) : Calls Try.prog 24 #[.int .i64 width] w fun e w' => e = .returned (.int .i64 (powN (heldN width) / 2)) ∧ w = w' := by
  have hh := heldN_bd width
  have hp := powN_le4 hh.2
  have hp0 := powN_pos (heldN width)
  go_enter Try.func24, Try.ntmps24
  go_wp2_with (first | (go_at_call 79; refine (held_any _ _).mono ?_; rintro e w' ⟨rfl, rfl⟩) | (go_at_call 78; refine (power_any _ hh.2 _).mono ?_; rintro e w' ⟨rfl, rfl⟩))
  go_ret
  exact ⟨rfl, rfl⟩

theorem strOfNums_snoc (l : List Int) (d : Int) : strOfNums l ++ strOfNums [d] = strOfNums (l ++ [d]) := by
  apply ByteArray.ext
  simp [strOfNums]

theorem conv_one (w : World) (d : Int) : (convert 55 9 (.slice (some ⟨w.heap.size, 0, none⟩) 1 1)).run Try.prog (w.alloc (.cells #[.int .u8 d] 5)) = .ok (.string (strOfNums [d])) (w.alloc (.cells #[.int .u8 d] 5)) := by
  refine run_convert_bytes_arg _ 55 5 Try.underlying55 Try.underlying5 w.heap.size 0 1 1 [d] rfl (fun i hi => ?_) 9 Try.underlying9
  obtain rfl : i = 0 := by omega
  simp [go_sem]

set_option maxHeartbeats 800000 in
theorem numRef_any (width x : Int) (hx : 0 ≤ x) (hx1 : x ≤ 9223372036854775807) (w : World) : Calls Try.prog 23 #[.int .i64 width, .int .i64 x] w fun e w' => e = .returned (.string (numStr (heldN width) x)) ∧ Below w.heap.size w w' := by
  have hh := heldN_bd width
  go_enter Try.func23, Try.ntmps23
  go_wp2
  go_loopw [1, 5, 6] (fun y s i wr => ∃ k : Nat, k ≤ heldN width ∧ i = .int .i64 k ∧ y = .int .i64 (x / powN k) ∧ s = .string (strOfNums (digits x k)) ∧ Hid (Below w.heap.size w wr)) (fun _ _ i _ => heldN width - (intOf i).toNat)
  case atStart => exact ⟨0, Nat.zero_le _, rfl, by simp [powN], rfl, Lib.hid (Below.refl _ _)⟩
  case round =>
    obtain ⟨k, hk, rfl, rfl, rfl, HB⟩ := hrel
    have hq : 0 ≤ x / powN k := Int.ediv_nonneg hx (by have := powN_pos k; omega)
    have hq1 : x / powN k ≤ 9223372036854775807 := Int.le_trans (Int.ediv_le_self _ hx) hx1
    by_cases hlt : k < heldN width
    · have hcv := conv_one
      have HS := Lib.hid (strOfNums_snoc (digits x k) (x / powN k % 256))
      have HQ : Hid (x / powN k / 256 = x / powN (k + 1)) := Lib.hid (by rw [powN_succ, Int.ediv_ediv_of_nonneg (by have := powN_pos k; omega)])
      have hl1 : (strOfNums (digits x k)).size ≤ 4 := by rw [strOfNums_size, digits_length]; omega
      have hl2 : (strOfNums [x / powN k % 256]).size ≤ 4 := by rw [strOfNums_size]; simp
      go_wp2_with (go_at_call 79; refine (held_any _ _).mono ?_; rintro e w' ⟨rfl, rfl⟩)
      go_roundw
      case rel => exact ⟨k + 1, by omega, by go_num, by rw [HQ.out], by rw [HS.out]; rfl, Lib.hid (HB.out.alloc HB.out.size _)⟩
      case measure => simp [intOf]; omega
    · obtain rfl : k = heldN width := by omega
      go_wp2_with (go_at_call 79; refine (held_any _ _).mono ?_; rintro e w' ⟨rfl, rfl⟩)
      go_ret
      exact ⟨rfl, HB.out⟩

/-- Horner's sum from the top: what stands above byte j of n. -/
def above (s : ByteArray) (a n : Nat) : Nat → Int
  | 0 => 0
  | m + 1 => 256 * above s a n m + byteAt s (a + (n - 1 - m))
theorem above_readN (s : ByteArray) (a n : Nat) : ∀ m, m ≤ n → readN s a n = readN s a (n - m) + powN (n - m) * above s a n m := by
  intro m
  induction m with
  | zero => intro _; simp [above]
  | succ m ih =>
    intro hm
    rw [ih (by omega), show n - m = (n - (m + 1)) + 1 by omega, powN_succ]
    show readN s a (n - (m + 1)) + byteAt s (a + (n - (m + 1))) * 256 ^ (n - (m + 1)) + _ = _
    rw [above, show n - 1 - m = n - (m + 1) by omega]
    show _ + byteAt s (a + (n - (m + 1))) * powN (n - (m + 1)) + _ = _
    rw [Int.mul_add, Int.mul_comm (byteAt s _), Int.mul_assoc]
    omega
theorem above_all (s : ByteArray) (a n : Nat) : above s a n n = readN s a n := by
  have := above_readN s a n n (Nat.le_refl _)
  rw [Nat.sub_self] at this
  simpa [readN, powN] using this.symm
theorem above_bd (s : ByteArray) (a n m : Nat) : 0 ≤ above s a n m ∧ above s a n m < powN m := by
  induction m with
  | zero => simp [above, powN]
  | succ m ih =>
    have hb := byteAt_bd s (a + (n - 1 - m))
    rw [powN_succ, above]
    omega

def agg3 (r : Int × Int × Int) : Value := .agg #[.int .i64 r.1, .int .i64 r.2.1, .int .i64 r.2.2]

set_option maxHeartbeats 1000000 in
theorem readRef_any (width : Int) (s : ByteArray) (a : Int) (hs : s.size ≤ 300) (w : World) :
    Calls Try.prog 26 #[.int .i64 width, .string s, .int .i64 a] w fun e w' => e = .returned (agg3 (nextAt (nextN (heldN width)) s a)) ∧ Below w.heap.size w w' := by
  have hh := heldN_bd width
  obtain ⟨h1, h4⟩ := hh
  by_cases hneg : a < 0
  · have hd : decide (a < 0) = true := by simpa using hneg
    have HR : Hid (nextAt (nextN (heldN width)) s a = (0, a, 1)) := Lib.hid (by unfold nextAt; rw [if_neg (by omega)])
    rw [HR.out]
    go_enter Try.func26, Try.ntmps26
    go_wp2_with (go_at_call 79; refine (held_any _ _).mono ?_; rintro e w' ⟨rfl, rfl⟩)
    exact bodyPost_ret (v := agg3 (0, a, 1)) (by simp [agg3, results, Try.results26, go_sem]) rfl ⟨rfl, (Below.refl _ _).alloc (Nat.le_refl _) _⟩
  · have hd : decide (a < 0) = false := by simpa using hneg
    obtain ⟨n, rfl⟩ := Int.eq_ofNat_of_zero_le (by omega : 0 ≤ a)
    by_cases hbig : s.size < n
    · have hd2 : decide ((s.size : Int) < n) = true := by simp; omega
      have HR : Hid (nextAt (nextN (heldN width)) s n = (0, (n : Int), 1)) := Lib.hid (by unfold nextAt; rw [if_neg (by omega)])
      rw [HR.out]
      go_enter Try.func26, Try.ntmps26
      go_wp2_with (go_at_call 79; refine (held_any _ _).mono ?_; rintro e w' ⟨rfl, rfl⟩)
      exact bodyPost_ret (v := agg3 (0, (n : Int), 1)) (by simp [agg3, results, Try.results26, go_sem]) rfl ⟨rfl, (Below.refl _ _).alloc (Nat.le_refl _) _⟩
    · have hd2 : decide ((s.size : Int) < n) = false := by simp; omega
      by_cases hsh : s.size < n + heldN width
      · have hd3 : decide ((s.size : Int) < (n : Int) + heldN width) = true := by simp; omega
        have HR : Hid (nextAt (nextN (heldN width)) s n = (0, (n : Int), 3)) := Lib.hid (by unfold nextAt; rw [if_pos ⟨by omega, by omega⟩]; unfold nextN nrm3; simp [hsh])
        rw [HR.out]
        go_enter Try.func26, Try.ntmps26
        go_wp2_with (go_at_call 79; refine (held_any _ _).mono ?_; rintro e w' ⟨rfl, rfl⟩)
        exact bodyPost_ret (v := agg3 (0, (n : Int), 3)) (by simp [agg3, results, Try.results26, go_sem]) rfl ⟨rfl, (Below.refl _ _).alloc (Nat.le_refl _) _⟩
      · have hd3 : decide ((s.size : Int) < (n : Int) + heldN width) = false := by simp; omega
        have HR : Hid (nextAt (nextN (heldN width)) s n = (readN s n (heldN width), (n : Int) + heldN width, 0)) := Lib.hid (by unfold nextAt; rw [if_pos ⟨by omega, by omega⟩]; unfold nextN nrm3; simp [hsh])
        rw [HR.out]
        go_enter Try.func26, Try.ntmps26
        go_wp2_with (go_at_call 79; refine (held_any _ _).mono ?_; rintro e w' ⟨rfl, rfl⟩)
        go_loop [8, 9] (fun x i => ∃ j : Nat, j ≤ heldN width ∧ i = .int .i64 ((j : Int) - 1) ∧ x = .int .i64 (above s n (heldN width) (heldN width - j))) (fun _ i => (intOf i + 1).toNat)
        case atStart => exact ⟨heldN width, Nat.le_refl _, rfl, by rw [Nat.sub_self]; rfl⟩
        case round =>
          obtain ⟨j, hj, hi, rfl⟩ := hrel
          have hab := above_bd s n (heldN width) (heldN width - j)
          have hpp := powN_le4 (show heldN width - j ≤ 4 by omega)
          cases j with
          | zero =>
            subst hi
            have hi2 : ((0 : Nat) : Int) - 1 = -1 := by omega
            rw [hi2]
            have HA := Lib.hid (above_all s n (heldN width))
            go_wp2
            exact bodyPost_ret (v := agg3 (readN s n (heldN width), (n : Int) + heldN width, 0)) (by simp [agg3, results, Try.results26, go_sem, HA.out]) rfl ⟨rfl, (Below.refl _ _).alloc (Nat.le_refl _) _⟩
          | succ k =>
            rw [show ((k + 1 : Nat) : Int) - 1 = (k : Int) by omega] at hi
            subst hi
            have hb := byteAt_bd s (n + k)
            have HB := Lib.hid (byteAt_get s (n + k) (by omega))
            have HA : Hid (256 * above s n (heldN width) (heldN width - (k + 1)) + byteAt s (n + k) = above s n (heldN width) (heldN width - k)) := by
              refine Lib.hid ?_
              rw [show heldN width - k = (heldN width - (k + 1)) + 1 by omega, above, show heldN width - 1 - (heldN width - (k + 1)) = k by omega]
            have HW : Hid (wrap64 (256 * above s n (heldN width) (heldN width - (k + 1)) + wrap64 (byteAt s (n + k))) = above s n (heldN width) (heldN width - k)) := by
              refine Lib.hid ?_
              rw [IntWalk.wrap64_in (byteAt s (n + k)) (by omega), IntWalk.wrap64_in _ (by omega), HA.out]
            clear hb
            go_wp2
            go_round
            case rel => exact ⟨k, by omega, rfl, by rw [HB.out, HW.out]⟩
            case measure => simp [intOf]
end Go.Proofs.Ytmmjhhfdloenbaa
