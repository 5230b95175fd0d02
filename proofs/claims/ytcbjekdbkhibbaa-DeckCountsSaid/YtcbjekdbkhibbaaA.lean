/- The contracts of putNum and nextNum (layer 1, octet): what each answers, for widths 1 to 4, in any world; only new memory is made. -/
import Derived.Test.YtcbjekdbkhibbaaRows
import Derived.Test.YtcbjekdbkhibbaaM
import Derived.WalkLawsBesides
namespace Go.Proofs.Ytcbjekdbkhibbaa
open Go.RowKit

def nextN (n : Nat) (s : ByteArray) (a : Nat) : Int × Int × Int := if s.size < a + n then (0, a, 3) else (readN s a n, a + n, 0)
def putN (n : Nat) (x : Int) : ByteArray × Int := if fitsN n x then (numStr n x, 0) else (⟨#[]⟩, 2)
def ret3 (r : Int × Int × Int) : Ending := .returned (.tuple #[.int .i64 r.1, .int .i64 r.2.1, .int .i64 r.2.2])
def ret2 (r : ByteArray × Int) : Ending := .returned (.tuple #[.string r.1, .int .i64 r.2])

set_option maxHeartbeats 400000 in
theorem nextNum_any (width : Nat) (s : ByteArray) (a : Nat) (w : World) (h1 : 1 ≤ width) (h4 : width ≤ 4) (ha : a ≤ s.size) (hs : s.size ≤ maxLen) :
    Calls Try.prog 73 #[.int .i64 width, .string s, .int .i64 a] w fun e w' => e = ret3 (nextN width s a) ∧ w = w' := by
  unfold maxLen at hs
  by_cases hsh : (s.size : Int) - a < width
  · have hn : nextN width s a = (0, (a : Int), 3) := by unfold nextN; rw [if_pos (by omega)]
    rw [hn]
    go_enter Try.func73, Try.ntmps73
    go_wp2
    go_ret3
    exact ⟨rfl, rfl⟩
  · have hn : nextN width s a = (readN s a width, (a : Int) + width, 0) := by unfold nextN; rw [if_neg (by omega)]
    rw [hn]
    clear hn
    go_enter Try.func73, Try.ntmps73
    go_wp2
    go_loop [9, 19] (fun x i => ∃ k : Nat, k ≤ width ∧ i = .int .i64 k ∧ x = .int .i64 (readN s a k)) (fun _ i => width - (intOf i).toNat)
    case atStart => exact ⟨0, Nat.zero_le _, rfl, rfl⟩
    case round =>
      obtain ⟨k, hk, rfl, rfl⟩ := hrel
      by_cases hlt : k < width
      · have HS := Lib.hid (or_walk s a k (by omega) (by omega))
        go_wp2
        go_round
        case rel => exact ⟨k + 1, by omega, by go_num, by rw [HS.out]⟩
        case measure => simp [intOf]; omega
      · obtain rfl : k = width := by omega
        go_wp2
        go_ret3
        exact ⟨rfl, rfl⟩

theorem info5 : (Try.prog.info? 5).map (fun i => (i.zero, i.size, i.bytes)) = some (some (.int .u8 0), 1, 1) := by kernel_rfl

set_option maxHeartbeats 400000 in
theorem putNum_yes (width : Nat) (x : Int) (w : World) (h1 : 1 ≤ width) (h4 : width ≤ 4) (hx0 : 0 ≤ x) (hx : x < powN width) :
    Calls Try.prog 71 #[.int .i64 width, .int .i64 x] w fun e w' => e = ret2 (putN width x) ∧ Below w.heap.size w w' := by
  obtain ⟨i0, hi, hz0, hz1, hz2⟩ := info_parts info5
  have hp := powN_le4 h4
  have hmk : ∀ u : World, (Instr.makeSlice 55 (.int .i64 (width : Int)) (.int .i64 (width : Int))).run Try.prog u =
      .ok (.slice (some ⟨u.heap.size, 0, none⟩) width width) (u.alloc (.cells (madeCells #[.int .u8 0] width) 5)) := fun u => by
    have h := run_make (P := Try.prog) u 55 5 i0 (.int .u8 0) Try.underlying55 hi hz0 .i64 .i64 (width : Int) (width : Int) (by omega) (Int.le_refl _) (by rw [hz2]; omega) (by omega)
    simpa [hz1, Value.cells] using h
  clear hi hz0 hz1 hz2
  have hpw : wrap64 (2 ^ (8 * width)) = powN width := by rw [two_pow8, IntWalk.wrap64_in _ (by have := powN_pos width; omega)]
  have hd0 : decide (x < 0) = false := by simp; omega
  go_enter Try.func71, Try.ntmps71
  go_wp2
  go_loopw [20] (fun i wr => ∃ k : Nat, k ≤ width ∧ i = .int .i64 k ∧ wr = w.alloc (.cells (bufv x width k) 5)) (fun i _ => width - (intOf i).toNat)
  case atStart => exact ⟨0, Nat.zero_le _, rfl, by rw [bufv_zero]⟩
  case round =>
    obtain ⟨k, hk, rfl, rfl⟩ := hrel
    by_cases hlt : k < width
    · have hg := bufv_get x width k k hlt
      rw [if_neg (by omega)] at hg
      have HS := Lib.hid (bufv_set x width k hlt)
      have HP := Lib.hid (two_pow8 k)
      go_wp2
      go_roundw
      case rel => exact ⟨k + 1, by omega, by go_num, by rw [HP.out]; exact congrArg (fun c => w.alloc (.cells c 5)) HS.out⟩
      case measure => simp [intOf]; omega
    · obtain rfl : k = width := by omega
      have hcv : (convert 55 9 (.slice (some ⟨w.heap.size, 0, none⟩) k k)).run Try.prog (w.alloc (.cells (bufv x k k) 5)) = .ok (.string (numStr k x)) (w.alloc (.cells (bufv x k k) 5)) := by
        refine run_convert_bytes_arg _ 55 5 Try.underlying55 Try.underlying5 w.heap.size 0 k k (digits x k) (digits_length x k) (fun i hi => ?_) 9 Try.underlying9
        rw [Nat.zero_add, World.cell?_alloc_at _ _ _ _ rfl, bufv_get _ _ _ _ hi, if_pos hi, digits_get _ _ _ hi]
      go_wp2
      go_ret2
      refine ⟨?_, (Below.refl _ _).alloc (Nat.le_refl _) _⟩
      have hf : fitsN k x = true := by simp [fitsN, hx0, hx]
      simp [putN, hf, ret2]

set_option maxHeartbeats 400000 in
theorem putNum_no (width : Nat) (x : Int) (w : World) (h1 : 1 ≤ width) (h4 : width ≤ 4) (hx : x < 0 ∨ powN width ≤ x) :
    Calls Try.prog 71 #[.int .i64 width, .int .i64 x] w fun e w' => e = ret2 (putN width x) ∧ Below w.heap.size w w' := by
  have hp := powN_le4 h4
  have hf : fitsN width x = false := by unfold fitsN; rcases hx with h | h <;> simp <;> omega
  have hpw : wrap64 (2 ^ (8 * width)) = powN width := by rw [two_pow8, IntWalk.wrap64_in _ (by have := powN_pos width; omega)]
  rw [putN, hf]
  rcases hx with h | h
  · have hd0 : decide (x < 0) = true := by simpa using h
    go_enter Try.func71, Try.ntmps71
    go_wp2
    go_ret2
    exact ⟨rfl, Below.refl _ _⟩
  · have hd0 : decide (x < 0) = false := by have := powN_pos width; simp; omega
    have hd1 : decide (powN width ≤ x) = true := by simpa using h
    go_enter Try.func71, Try.ntmps71
    go_wp2
    go_ret2
    exact ⟨rfl, Below.refl _ _⟩

theorem putNum_any (width : Nat) (x : Int) (w : World) (h1 : 1 ≤ width) (h4 : width ≤ 4) :
    Calls Try.prog 71 #[.int .i64 width, .int .i64 x] w fun e w' => e = ret2 (putN width x) ∧ Below w.heap.size w w' := by
  by_cases h : 0 ≤ x ∧ x < powN width
  · exact putNum_yes width x w h1 h4 h.1 h.2
  · exact putNum_no width x w h1 h4 (by omega)
end Go.Proofs.Ytcbjekdbkhibbaa
