/- The library's Values, AppendSeq, Collect and Sort at numbers. -/
import Derived.Test.YtgjojjhppgjkkaaGreatHl
import Derived.RangeFuncFrom
import Derived.Maps.AppendAt
namespace Go.Proofs.YtgjojjhppgjkkaaGreat
open Go.RowKit
theorem intsV_eq (l : List Int) : intsV l = l.map (Value.int .i64) := rfl
theorem grown_of {A w w' : World} {r : Option Nat} (h : Below A.heap.size A w) (hg : w.grownBy w' r) (hr : ∀ k, r = some k → A.heap.size ≤ k) : Below A.heap.size A w' := h.grown hg h.size hr
set_option maxRecDepth 100000 in
set_option maxHeartbeats 4000000 in
theorem equal_ints {v u : Value} {l r : List Int} {w : World} (hl : IntsAt w v l) (hr : IntsAt w u r) (hn : l.length ≤ 1000) (_hn2 : r.length ≤ 1000) :
    Calls Tryz.prog 89 #[v, u] w fun e w' => e = .returned (.bool (decide (l = r))) ∧ ∃ n, w' = w.drewN n := by
  obtain ⟨xa, xc, rfl⟩ := hl.form
  obtain ⟨ya, yc, rfl⟩ := hr.form
  have HL := Lib.hid hl
  have HR := Lib.hid hr
  clear hl hr
  by_cases hne : l.length ≠ r.length
  · have d : ((l.length : Int) != r.length) = true := bne_iff_ne.2 (by omega)
    have HS := Lib.hid (show decide (l = r) = false from decide_eq_false (fun e => hne (by rw [e])))
    clear hne
    go_enter Tryz.func89, Tryz.ntmps89
    go_wp2
    go_ret
    exact ⟨ret_bool HS.out.symm, 0, rfl⟩
  have heq : l.length = r.length := Classical.not_not.1 hne
  have d : ((l.length : Int) != r.length) = false := by rw [heq]; exact bne_self_eq_false _
  have HQ := Lib.hid heq
  clear hne heq
  go_enter Tryz.func89, Tryz.ntmps89
  go_wp2
  go_loopw [13] (fun i wr => ∃ k n : Nat, k ≤ l.length ∧ i = .int .i64 k ∧ wr = w.drewN n ∧ Hid (l.take k = r.take k)) (fun i _ => l.length - (intOf i).toNat)
  case atStart => exact ⟨0, 0, Nat.zero_le _, rfl, rfl, Lib.hid rfl⟩
  case round =>
    obtain ⟨k, n, hk, rfl, rfl, HK⟩ := hrel
    by_cases hlt : k < l.length
    · have hlt2 : k < r.length := by have := HQ.out; omega
      obtain ⟨p, o, rfl, hp, x0⟩ := HL.out.at k hlt
      obtain ⟨p', o', rfl, hp', y0⟩ := HR.out.at k hlt2
      obtain ⟨a, ha⟩ : ∃ a, l[k] = a := ⟨_, rfl⟩
      obtain ⟨b, hb⟩ : ∃ b, r[k] = b := ⟨_, rfl⟩
      have HT1 := Lib.hid (take_last l k hlt)
      have HT2 := Lib.hid (take_last r k hlt2)
      rw [ha] at x0 HT1
      rw [hb] at y0 HT2
      have HA := Lib.hid ha
      have HBB := Lib.hid hb
      have d0 : (0 : Int) ≤ k := by omega
      have d1 : (k : Int) < l.length := by omega
      have d2 : (k : Int) < r.length := by omega
      clear ha hb
      by_cases hab : a = b
      · subst hab
        have hbb : (a != a) = false := bne_self_eq_false _
        go_wp2
        go_region
        all_goals
          go_wp2
          go_roundw
        case rel => exact ⟨k + 1, n + 1, by omega, by go_num, rfl, Lib.hid (by rw [HT1.out, HT2.out, HK.out])⟩
        case measure => simp [intOf]; omega
      · have hbb : (a != b) = true := bne_iff_ne.2 hab
        have HS := Lib.hid (show decide (l = r) = false from decide_eq_false (fun e => hab (by rw [← HA.out, ← HBB.out]; simp [e])))
        go_wp2
        go_region
        all_goals
          go_wp2
          go_ret
          exact ⟨ret_bool HS.out.symm, n + 1, rfl⟩
    · obtain rfl : k = l.length := by omega
      have HE := Lib.hid (show decide (l = r) = true from decide_eq_true (by have h := HK.out; rw [List.take_length] at h; rw [h, HQ.out, List.take_length]))
      go_wp2
      go_ret
      exact ⟨ret_bool HE.out.symm, n, rfl⟩
end Go.Proofs.YtgjojjhppgjkkaaGreat
