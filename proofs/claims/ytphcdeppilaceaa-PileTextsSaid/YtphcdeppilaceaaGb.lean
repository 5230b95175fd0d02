/- What PileTexts (layer 5) wants beside: the name of a number, an empty pile of texts. -/
import Derived.Test.YtphcdeppilaceaaGa
import Derived.Test.YtphcdeppilaceaaFo
namespace Go.Proofs.Ytphcdeppilaceaa
open Go.RowKit

def nameB (n : Int) : ByteArray := strOfNums [n % 256, n / 256]
theorem conv_two (w : World) (d e : Int) : (convert 51 9 (.slice (some ⟨w.heap.size, 0, none⟩) 2 2)).run Try.prog (w.alloc (.cells #[.int .u8 d, .int .u8 e] 5)) = .ok (.string (strOfNums [d, e])) (w.alloc (.cells #[.int .u8 d, .int .u8 e] 5)) := by
  refine run_convert_bytes_arg _ 51 5 Try.underlying51 Try.underlying5 w.heap.size 0 2 2 [d, e] rfl (fun i hi => ?_) 9 Try.underlying9
  have h := heap_alloc_new w (.cells #[.int .u8 d, .int .u8 e] 5)
  rw [cell_of_row _ w.heap.size (0 + i) _ _ _ h]
  obtain rfl | rfl : i = 0 ∨ i = 1 := by omega
  · rfl
  · rfl
theorem name_any (n : Int) (w : World) (h0 : 0 ≤ n) (h1 : n < 65536) : Calls Try.prog 28 #[.int .i64 n] w (RetV w (.string (nameB n))) := by
  have hcv := conv_two w (n % 256) (n / 256)
  go_enter Try.func28, Try.ntmps28
  go_wp2
  go_ret
  exact ⟨rfl, below_new w _⟩
theorem newS_any (w : World) : Calls Try.prog 29 #[.slice none 0 0] w (fun e w' => e = .returned (.pointer (some ⟨w.heap.size, 0, none⟩)) ∧ Txt.PileAt w' w.heap.size w.heap.size none [] ∧ Below w.heap.size w w') := by
  go_enter Try.func29, Try.ntmps29
  go_wp2
  go_loopw [9] (fun i wr => i = .int .i64 0 ∧ wr = w.alloc (.cells #[.slice none 0 0] 73)) (fun _ _ => 0)
  case atStart => exact ⟨rfl, rfl⟩
  case round =>
    obtain ⟨rfl, rfl⟩ := hrel
    go_wp2
    go_ret
    exact ⟨rfl, ⟨_, World.alloc_heap_new w _, rfl, Nat.le_refl _, World.ownsRow_nil _ _ _ _⟩, below_new w _⟩
theorem name_inj {a b : Int} (ha : 0 ≤ a ∧ a < 65536) (hb : 0 ≤ b ∧ b < 65536) (h : nameB a = nameB b) : a = b := by
  unfold nameB at h
  have h2 := congrArg (fun x : ByteArray => x.data.toList) h
  simp [strOfNums] at h2
  have e1 := congrArg UInt8.toNat h2.1
  have e2 := congrArg UInt8.toNat h2.2
  simp at e1 e2
  omega
theorem mask_bd (x : Int) : 0 ≤ bits BinOp.and IntKind.i64 x 65535 ∧ bits BinOp.and IntKind.i64 x 65535 < 65536 := by
  have h : (BitVec.ofInt 64 x &&& BitVec.ofInt 64 65535).toNat < 65536 := by
    rw [BitVec.toNat_and]
    exact Nat.lt_of_le_of_lt Nat.and_le_right (by decide)
  have e : bits BinOp.and IntKind.i64 x 65535 = IntKind.i64.wrap ((BitVec.ofInt 64 x &&& BitVec.ofInt 64 65535).toNat : Int) := rfl
  rw [e, IntWalk.i64_in _ (by omega)]
  omega
end Go.Proofs.Ytphcdeppilaceaa
