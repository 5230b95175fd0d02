/- The law DealDraws, walked: for every two lists of numbers it returns true, and only new memory is made. -/
import Derived.Test.YtokjghfpdolojaaEh
namespace Go.Proofs.Ytokjghfpdolojaa
open Go.RowKit

/-- Each number is one of the machine's. -/
def WfI (l : List Int) : Prop := ∀ x ∈ l, (Lit.int .i64 x).wf = true
theorem wf_le {x : Int} (h : (Lit.int .i64 x).wf = true) : -9223372036854775808 ≤ x ∧ x ≤ 9223372036854775807 := by
  simp [Lit.wf, IntKind.min, IntKind.max, IntKind.signed, IntKind.bits] at h; omega
/-- What a round of the law keeps. -/
def DrIs (w wr : World) (bd bw : Nat) (v : Value) (l : List Int) (i : Nat) : Prop :=
  DrawsAt wr w.heap.size bd (l.drop i) i ∧ RefAt wr bw v i ∧ bd < bw ∧ Below w.heap.size w wr
theorem ref_later {w w' : World} {b k : Nat} {v : Value} (h : RefAt w b v k) (hb : Below w.heap.size w w') : RefAt w' b v k := RowAt.later h hb
theorem ref_lt {w : World} {b k : Nat} {v : Value} (h : RefAt w b v k) : b < w.heap.size := RowAt.lt h

set_option maxRecDepth 100000 in
set_option maxHeartbeats 8000000 in
theorem dealDraws_walk {v u : Value} {l m : List Int} {w : World} (hv : IntsAt w v l) (hu : IntsAt w u m) (hl : l.length ≤ 9223372036854775807) (hm : m.length ≤ 9223372036854775807) (hwf : WfI m) :
    Calls Try.prog 3 #[v, u] w (RetB w true) := by
  obtain ⟨xa, xc, rfl⟩ := hv.form
  obtain ⟨ya, yc, rfl⟩ := hu.form
  have HV := Lib.hid hv
  have HU := Lib.hid hu
  have HWI := Lib.hid hwf
  clear hv hu hwf
  by_cases hl1 : 100 < l.length
  · have b1 : decide ((100 : Int) < l.length) = true := decide_eq_true (by omega)
    clear hl1
    go_enter Try.func3, Try.ntmps3
    go_wp2_with fail
    refine (awake4_any _).mono ?_
    rintro e w1 ⟨rfl, hb1⟩
    go_wp2
    go_ret
    exact ⟨rfl, hb1⟩
  have b1 : decide ((100 : Int) < l.length) = false := decide_eq_false (by omega)
  by_cases hm1 : 100 < m.length
  · have b2 : decide ((100 : Int) < m.length) = true := decide_eq_true (by omega)
    clear hl1 hm1
    go_enter Try.func3, Try.ntmps3
    go_wp2_with fail
    refine (awake4_any _).mono ?_
    rintro e w1 ⟨rfl, hb1⟩
    go_wp2
    go_ret
    exact ⟨rfl, hb1⟩
  have b2 : decide ((100 : Int) < m.length) = false := decide_eq_false (by omega)
  have l1 : l.length ≤ 100 := by omega
  have m1 : m.length ≤ 100 := by omega
  clear hl1 hm1
  go_enter Try.func3, Try.ntmps3
  go_wp2_with fail
  refine (awake4_any _).mono ?_
  rintro e w1 ⟨rfl, hb1⟩
  have HB1 := Lib.hid hb1
  clear hb1
  go_wp2_with fail
  refine (new_any (HV.out.later HB1.out) (by omega)).mono ?_
  rintro e w2 ⟨bd, rfl, hd, hlo, hb2⟩
  have HB2 := Lib.hid (stepB HB1.out hb2)
  have HDR := Lib.hid (show DrIs w (w2.alloc (.cells #[.slice xa l.length xc, .int .i64 0] 28)) bd w2.heap.size (.slice xa l.length xc) l 0 from by
    refine ⟨?_, RowAt.new w2 _ [.slice xa l.length xc, .int .i64 0], hd.lt, below_alloc2 HB2.out _⟩
    obtain ⟨h0, x, h1, h2⟩ := hd.later (below_new w2 (.cells #[.slice xa l.length xc, .int .i64 0] 28))
    refine ⟨Nat.le_trans HB1.out.size h0, x, h1, ?_⟩
    rcases h2 with h2 | ⟨r, off, a1, a2⟩
    · exact .inl h2
    · exact .inr ⟨r, off, Nat.le_trans HB1.out.size a1, a2⟩)
  clear hd hlo hb2
  go_wp2
  go_loopw [29] (fun i wr => ∃ k : Nat, k ≤ m.length ∧ i = .int .i64 k ∧ Hid (DrIs w wr bd w2.heap.size (.slice xa l.length xc) l k)) (fun i _ => m.length - (intOf i).toNat)
  case atStart => exact ⟨0, Nat.zero_le _, rfl, HDR⟩
  case round =>
    obtain ⟨k, hk, rfl, HS⟩ := hrel
    by_cases hlt : k < m.length
    · obtain ⟨r, off, rfl, hrl, c0⟩ := (HU.out.later HS.out.2.2.2).at k hlt
      have HWF := Lib.hid (show m[k] ≤ 9223372036854775807 from (wf_le (HWI.out _ (List.getElem_mem hlt))).2)
      obtain ⟨n, hn⟩ : ∃ n, m[k] = n := ⟨_, rfl⟩
      rw [hn] at c0 HWF
      have HLT := Lib.hid hlt
      have d0 : (0 : Int) ≤ k := by omega
      have d1 : (k : Int) < m.length := by omega
      have d2 : (k : Int) ≤ 100 := by omega
      clear hn
      obtain ⟨X, hX⟩ : ∃ X, drawN ((l.drop k).headD 0) n = X := ⟨_, rfl⟩
      have HX := Lib.hid hX
      clear hX
      go_wp2_with fail
      refine (copy_any HS.out.1 (by rw [List.length_drop]; omega)).mono ?_
      rintro e w3 ⟨c, rfl, hc3, hlo3, hb3⟩
      have HC3 := Lib.hid hc3
      have HS3 := Lib.hid (show DrIs w w3 bd w2.heap.size (.slice xa l.length xc) l k from ⟨HS.out.1.later hb3, ref_later HS.out.2.1 hb3, HS.out.2.2.1, stepB HS.out.2.2.2 hb3⟩)
      have HLO := Lib.hid (show w2.heap.size < wr.heap.size from ref_lt HS.out.2.1)
      have HLC := Lib.hid hlo3
      clear hc3 hlo3 hb3
      go_wp2_with fail
      refine (below_any n HWF.out HS3.out.1 (by omega) (by rw [List.length_drop]; omega)).mono ?_
      rw [HX.out, drop_tail]
      rintro e w4 ⟨rfl, hd4, hg4, hz4⟩
      have HD4 := Lib.hid hd4
      have HR4 := Lib.hid (show RefAt w4 w2.heap.size (.slice xa l.length xc) k from RowAt.grown HS3.out.2.1 hg4 (by have := HS3.out.2.2.1; omega))
      have HC4 := Lib.hid (HC3.out.grown hg4 (.inl (by have := HS3.out.2.2.1; have := HLO.out; omega)))
      have HB4 := Lib.hid (grown_to HS3.out.2.2.2 hg4 HS3.out.1.1)
      clear hd4 hg4 hz4
      go_wp2_with fail
      refine (refBelow_any n HR4.out (HV.out.later HB4.out) (by omega) HWF.out).mono ?_
      rw [HX.out]
      rintro e w5 ⟨rfl, hr5, hg5, hz5⟩
      have HR5 := Lib.hid hr5
      have HD5 := Lib.hid (HD4.out.grown hg5 (.inr HS3.out.2.2.1))
      have HC5 := Lib.hid (HC4.out.grown hg5 (.inl HLO.out))
      have HB5 := Lib.hid (grown_to HB4.out hg5 (by have := HS3.out.1.1; have := HS3.out.2.2.1; omega))
      clear hr5 hg5 hz5
      have e1 : ((l.drop (k + 1)).length : Int) = max ((l.length : Int) - k - 1) 0 := by rw [List.length_drop]; omega
      have l2 : (l.length : Int) ≤ 100 := by omega
      have l0 : (0 : Int) ≤ l.length := by omega
      go_wp2_with (first
        | (go_at_call 12; (with_reducible refine (taken_any HD5.out).mono ?_); rintro e w' ⟨rfl, rfl⟩)
        | (go_at_call 12; (with_reducible refine (taken_any HC5.out).mono ?_); rintro e w' ⟨rfl, rfl⟩)
        | (go_at_call 13; (with_reducible refine (left_any HD5.out).mono ?_); rintro e w' ⟨rfl, rfl⟩)
        | (go_at_call 10; (with_reducible refine (below_any n HWF.out HC5.out ?_ ?_).mono ?_); (omega); (rw [List.length_drop]; omega); rw [HX.out]; rintro e w6 ⟨rfl, hd6, hg6, hz6⟩))
      all_goals
        have h1 := HLO.out
        have h2 := HLC.out
        have h3 := HS3.out.2.2.1
        have h4 := HS3.out.1.1
        have h5 := HLT.out
        refine ⟨⟨k + 1, by omega, by go_num, Lib.hid ⟨HD5.out.grown hg6 (.inr (by omega)), RowAt.grown HR5.out hg6 (by omega), h3, grown_to HB5.out hg6 (by omega)⟩⟩, by simp [intOf]; omega⟩
    · obtain rfl : k = m.length := by omega
      have HB := Lib.hid HS.out.2.2.2
      clear HS
      go_wp2_with (first
        | (go_at_call 12; refine (taken_none _).mono ?_; rintro e w' ⟨rfl, rfl⟩)
        | (go_at_call 13; refine (left_none _).mono ?_; rintro e w' ⟨rfl, rfl⟩)
        | (go_at_call 9; refine (copy_none _).mono ?_; rintro e w' ⟨rfl, rfl⟩)
        | (go_at_call 10; refine (below_none _).mono ?_; rintro e w' ⟨rfl, rfl⟩))
      go_ret
      exact ⟨rfl, HB.out⟩
end Go.Proofs.Ytokjghfpdolojaa
