/- The document's Ints, at two slices that hold one list of numbers: true. -/
import Derived.Test.YtplkodmmedhemaaN
namespace Go.Proofs.Ytplkodmmedhemaa
open Go.RowKit

theorem SliceIs.shape {w : World} {v : Value} {l : List Int} (h : SliceIs w v l) : ∃ a c, v = .slice a l.length c := by
  rcases h with ⟨rfl, rfl⟩ | ⟨b, off, cap, rfl, _⟩
  · exact ⟨none, 0, rfl⟩
  · exact ⟨_, _, rfl⟩

set_option maxHeartbeats 400000 in
theorem ints_nil (a1 a2 : Option Addr) (c1 c2 : Nat) (w : World) :
    Calls Try.prog 20 #[.slice a1 0 c1, .slice a2 0 c2] w fun e w' => e = .returned (.bool true) ∧ Below w.heap.size w w' := by
  go_enter Try.func20, Try.ntmps20
  go_wp2
  go_loopw [5] (fun i wr => i = .int .i64 0 ∧ wr = w) (fun _ _ => 0)
  case atStart => exact ⟨rfl, rfl⟩
  case round =>
    obtain ⟨rfl, rfl⟩ := hrel
    go_wp2
    go_ret
    exact ⟨rfl, Below.refl _ _⟩

set_option maxHeartbeats 800000 in
theorem ints_some (l : List Int) (hl : l.length ≤ 255) (b1 o1 c1 b2 o2 c2 : Nat) (w : World) (hb1 : b1 < w.heap.size) (hb2 : b2 < w.heap.size)
    (h1 : ∀ i, i < l.length → w.cell? ⟨b1, o1 + i, none⟩ = some (.int .i64 (l.getD i 0))) (h2 : ∀ i, i < l.length → w.cell? ⟨b2, o2 + i, none⟩ = some (.int .i64 (l.getD i 0))) :
    Calls Try.prog 20 #[.slice (some ⟨b1, o1, none⟩) l.length c1, .slice (some ⟨b2, o2, none⟩) l.length c2] w fun e w' => e = .returned (.bool true) ∧ Below w.heap.size w w' := by
  have H1 := Lib.hid h1
  have H2 := Lib.hid h2
  clear h1 h2
  go_enter Try.func20, Try.ntmps20
  go_wp2
  go_loopw [5] (fun i wr => ∃ k : Nat, k ≤ l.length ∧ i = .int .i64 k ∧ Hid (Below w.heap.size w wr)) (fun i _ => l.length - (RowKit.intOf i).toNat)
  case atStart => exact ⟨0, Nat.zero_le _, rfl, Lib.hid (Below.refl _ _)⟩
  case round =>
    obtain ⟨k, hk, rfl, HW⟩ := hrel
    by_cases hlt : k < l.length
    · have g1 := (HW.out.cell (p := ⟨b1, o1 + k, none⟩) hb1).trans (H1.out k hlt)
      have g2 := (HW.out.cell (p := ⟨b2, o2 + k, none⟩) hb2).trans (H2.out k hlt)
      go_wp2
      go_region
      all_goals go_wp2
      all_goals go_roundw
      case rel => exact ⟨k + 1, by omega, by go_num, Lib.hid HW.out.drew⟩
      case measure => simp [RowKit.intOf]; omega
    · obtain rfl : k = l.length := by omega
      go_wp2
      go_ret
      exact ⟨rfl, HW.out⟩

theorem ints_same {w : World} {v1 v2 : Value} {l : List Int} (h1 : SliceIs w v1 l) (h2 : SliceIs w v2 l) (hl : l.length ≤ 255) :
    Calls Try.prog 20 #[v1, v2] w fun e w' => e = .returned (.bool true) ∧ Below w.heap.size w w' := by
  by_cases h0 : l = []
  · subst h0
    obtain ⟨a1, c1, rfl⟩ := h1.shape
    obtain ⟨a2, c2, rfl⟩ := h2.shape
    exact ints_nil a1 a2 c1 c2 w
  · rcases h1 with ⟨_, h⟩ | ⟨b1, o1, c1, rfl, hb1, hc1⟩
    · exact absurd h h0
    · rcases h2 with ⟨_, h⟩ | ⟨b2, o2, c2, rfl, hb2, hc2⟩
      · exact absurd h h0
      · exact ints_some l hl b1 o1 c1 b2 o2 c2 w hb1 hb2 hc1 hc2
end Go.Proofs.Ytplkodmmedhemaa
