/- The document's plain words on lists (layer 5): Ints, Has, and the law's list without a number; the document's example of piles. -/
import Derived.Test.YtkhgdfalbmkgcaaAp
import Derived.RangeFuncBox
namespace Go.Proofs.Ytkhgdfalbmkgcaa
open Go.RowKit

set_option maxRecDepth 100000 in
set_option maxHeartbeats 4000000 in
theorem ints_same {v u : Value} {l : List Int} {w : World} (hv : IntsAt w v l) (hu : IntsAt w u l) (hl : l.length ≤ 1000) :
    Calls Try.prog 17 #[v, u] w (Drew w (.bool true)) := by
  obtain ⟨xa, xc, rfl⟩ := hv.form
  obtain ⟨ya, yc, rfl⟩ := hu.form
  have HV := Lib.hid hv
  have HU := Lib.hid hu
  clear hv hu
  go_enter Try.func17, Try.ntmps17
  go_wp2
  go_loopw [5] (fun i wr => ∃ k : Nat, k ≤ l.length ∧ i = .int .i64 k ∧ Hid (∃ n, wr = w.drewN n)) (fun i _ => l.length - (intOf i).toNat)
  case atStart => exact ⟨0, Nat.zero_le _, rfl, Lib.hid ⟨0, rfl⟩⟩
  case round =>
    obtain ⟨k, hk, rfl, HW⟩ := hrel
    obtain ⟨nw, hnw⟩ := HW.out
    subst hnw
    by_cases hlt : k < l.length
    · obtain ⟨b1, o1, rfl, _, c1⟩ := HV.out.at k hlt
      obtain ⟨b2, o2, rfl, _, c2⟩ := HU.out.at k hlt
      obtain ⟨x, hx⟩ : ∃ x, l[k] = x := ⟨_, rfl⟩
      rw [hx] at c1 c2
      clear hx
      have d0 : (0 : Int) ≤ k := by omega
      have d1 : (k : Int) < l.length := by omega
      go_wp2
      go_quiet (fail)
      go_wp2
      go_roundw
      case rel => exact ⟨k + 1, by omega, by go_num, Lib.hid ⟨_, rfl⟩⟩
      case measure => simp [intOf]; omega
    · obtain rfl : k = l.length := by omega
      go_wp2
      go_ret
      exact ⟨rfl, nw, rfl⟩

theorem mem_take {L : List Int} {x : Int} {k : Nat} (hlt : k < L.length) (h : x ∉ L.take k) (hne : L[k] ≠ x) : x ∉ L.take (k + 1) := by
  rw [take_last L k hlt]
  intro hm
  rcases List.mem_append.1 hm with hm | hm
  · exact h hm
  · exact hne (List.mem_singleton.1 hm).symm
set_option maxRecDepth 100000 in
theorem hasRef_any {u : Value} {L : List Int} (x : Int) {w : World} (hu : IntsAt w u L) (hl : L.length ≤ 1000) :
    Calls Try.prog 31 #[u, .int .i64 x] w (Same w (.bool (decide (x ∈ L)))) := by
  obtain ⟨ya, yc, rfl⟩ := hu.form
  have HU := Lib.hid hu
  clear hu
  go_enter Try.func31, Try.ntmps31
  go_wp2
  go_loop [5] (fun i => ∃ k : Nat, k ≤ L.length ∧ i = .int .i64 k ∧ Hid (x ∉ L.take k)) (fun i => L.length - (intOf i).toNat)
  case atStart => exact ⟨0, Nat.zero_le _, rfl, Lib.hid (by simp)⟩
  case round =>
    obtain ⟨k, hk, rfl, HX⟩ := hrel
    by_cases hlt : k < L.length
    · obtain ⟨r, off, rfl, _, c0⟩ := HU.out.at k hlt
      obtain ⟨y, hy⟩ : ∃ y, L[k] = y := ⟨_, rfl⟩
      rw [hy] at c0
      by_cases hyx : y = x
      · subst hyx
        have HD := Lib.hid (show decide (y ∈ L) = true from decide_eq_true (by rw [← hy]; exact List.getElem_mem hlt))
        clear hy
        go_wp2
        go_ret
        exact ⟨by rw [HD.out]; rfl, rfl⟩
      · have HN := Lib.hid (mem_take hlt HX.out (by rw [hy]; exact hyx))
        have e0 : (y == x) = false := beq_eq_false_iff_ne.2 hyx
        clear hy
        go_wp2
        go_round
        case rel => exact ⟨k + 1, by omega, by go_num, HN⟩
        case measure => simp [intOf]; omega
    · obtain rfl : k = L.length := by omega
      have HD := Lib.hid (show decide (x ∈ L) = false from decide_eq_false (by have := HX.out; rwa [List.take_length] at this))
      go_wp2
      go_ret
      exact ⟨by rw [HD.out]; rfl, rfl⟩

theorem two_at {w : World} : IntsAt (w.alloc (.cells #[.int .i64 1, .int .i64 2] 3)) (.slice (some ⟨w.heap.size, 0, none⟩) 2 2) [1, 2] := (RowAt.new w 3 (intsV [1, 2])).vals 2
theorem four_at {w : World} : IntsAt (w.alloc (.cells #[.int .i64 3, .int .i64 1, .int .i64 2, .int .i64 4] 3)) (.slice (some ⟨w.heap.size, 0, none⟩) 4 4) [3, 1, 2, 4] := (RowAt.new w 3 (intsV [3, 1, 2, 4])).vals 4
end Go.Proofs.Ytkhgdfalbmkgcaa
