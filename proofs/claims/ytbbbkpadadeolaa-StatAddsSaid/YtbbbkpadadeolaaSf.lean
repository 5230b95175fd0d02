/- The law StatAdds (layer 8), walked: for every two numbers and every list of numbers it returns true, and only new memory is made. -/
import Derived.Test.YtbbbkpadadeolaaSe
namespace Go.Proofs.Ytbbbkpadadeolaa
open Go.RowKit Go.Maps

theorem addZ_zero (a b : Int) : addZ (addZ a b) 0 = addZ a b := by unfold addZ holdZ; omega
theorem addZ_top {a : Int} (h : 999 < a) : addZ a 0 = 999 := by unfold addZ holdZ; omega
set_option maxRecDepth 100000 in
set_option maxHeartbeats 4000000 in
theorem statAdds_walk {w : World} {v : Value} {l : List Int} (a b : Int) (hv : IntsAt w v l) (hl : l.length ≤ 9223372036854775807) :
    Calls Try.prog 5 #[.int .i64 a, .int .i64 b, v] w (RetV w (.bool true)) := by
  have HA := Lib.hid (awake8_any w)
  have HV := Lib.hid hv
  obtain ⟨va, vc, rfl⟩ := hv.form
  clear hv
  go_enter Try.func5, Try.ntmps5
  go_wp2_with fail
  refine HA.out.mono ?_
  rintro e w1 ⟨rfl, hb1⟩
  have HB1 := Lib.hid hb1
  clear hb1 HA
  dsimp only
  by_cases h100 : 100 < l.length
  · have d0 : decide ((100 : Int) < l.length) = true := decide_eq_true (by omega)
    go_wp2
    go_ret
    exact ⟨rfl, HB1.out⟩
  have d0 : decide ((100 : Int) < l.length) = false := decide_eq_false (by omega)
  go_wp2
  go_loopw [7, 18] (fun n i wr => ∃ (k : Nat) (x : Int), k ≤ l.length ∧ n = .int .i64 x ∧ i = .int .i64 k ∧ wr = w1) (fun n i _ => l.length - (intOf i).toNat)
  case atStart => exact ⟨0, 0, Nat.zero_le _, rfl, rfl, rfl⟩
  case round =>
    obtain ⟨k, x, hk, rfl, rfl, rfl⟩ := hrel
    by_cases hlt : k < l.length
    · have hat := HV.out.later HB1.out
      obtain ⟨y, hy⟩ : ∃ y, l[k] = y := ⟨_, rfl⟩
      obtain ⟨tb, off, cap, he, c0⟩ : ∃ tb off cap, (Value.slice va l.length vc) = .slice (some ⟨tb, off, none⟩) l.length cap ∧ wr.cell? ⟨tb, off + k, none⟩ = some (.int .i64 y) := by
        rcases hat with ⟨_, _, _, h0⟩ | ⟨tb, off, cap, e, _, hc⟩
        · have : l = [] := by simpa [intsV] using h0
          subst this
          simp at hlt
        · rw [intsV_len] at e
          refine ⟨tb, off, cap, e, ?_⟩
          rw [hc k (by rw [intsV_len]; exact hlt)]
          simp [intsV, hy]
      injection he with h1 h2 h3
      subst h1 h3
      have hz := addZ_in x y
      have HADD := Lib.hid (add_any x y wr)
      obtain ⟨z, hzz⟩ : ∃ z, addZ x y = z := ⟨_, rfl⟩
      rw [hzz] at hz HADD
      have d1 : decide (z < -999) = false := decide_eq_false (by omega)
      have d2 : decide (999 < z) = false := decide_eq_false (by omega)
      clear hat hy hzz
      go_wp2_with fail
      refine HADD.out.mono ?_
      rintro e w3 ⟨rfl, rfl⟩
      dsimp only
      go_wp2
      go_roundw
      case rel => exact ⟨k + 1, z, by omega, rfl, by go_num, trivial⟩
      case measure => simp [intOf]; omega
    · obtain rfl : k = l.length := by omega
      have E1 := Lib.hid (addZ_comm a b)
      have E2 := Lib.hid (addZ_zero a b)
      have HA1 := Lib.hid (add_any a b wr)
      have HA2 := Lib.hid (refAdd_any a b wr)
      have HA3 := Lib.hid (add_any b a wr)
      rw [← E1.out] at HA3
      have HA4 := Lib.hid (add_any (addZ a b) 0 wr)
      rw [E2.out] at HA4
      have HA5 := Lib.hid (add_any a 0 wr)
      obtain ⟨z, hz⟩ : ∃ z, addZ a b = z := ⟨_, rfl⟩
      rw [hz] at HA1 HA2 HA3 HA4
      clear hz E1 E2
      by_cases h9 : a ≤ 999
      · have d1 : decide (a ≤ 999) = true := decide_eq_true h9
        clear HA5
        go_wp2_with fail
        refine HA1.out.mono ?_
        rintro e w3 ⟨rfl, rfl⟩
        dsimp only
        go_wp2_with fail
        refine HA2.out.mono ?_
        rintro e w4 ⟨rfl, rfl⟩
        dsimp only
        go_wp2_with fail
        refine HA3.out.mono ?_
        rintro e w5 ⟨rfl, rfl⟩
        dsimp only
        go_wp2_with fail
        refine HA4.out.mono ?_
        rintro e w6 ⟨rfl, rfl⟩
        dsimp only
        go_wp2
        go_ret
        exact ⟨ret_bool (by simp), HB1.out⟩
      · have d1 : decide (a ≤ 999) = false := decide_eq_false h9
        have e9 : addZ a 0 = 999 := addZ_top (by omega)
        rw [e9] at HA5
        clear e9 h9
        go_wp2_with fail
        refine HA1.out.mono ?_
        rintro e w3 ⟨rfl, rfl⟩
        dsimp only
        go_wp2_with fail
        refine HA2.out.mono ?_
        rintro e w4 ⟨rfl, rfl⟩
        dsimp only
        go_wp2_with fail
        refine HA3.out.mono ?_
        rintro e w5 ⟨rfl, rfl⟩
        dsimp only
        go_wp2_with fail
        refine HA4.out.mono ?_
        rintro e w6 ⟨rfl, rfl⟩
        dsimp only
        go_wp2_with fail
        refine HA5.out.mono ?_
        rintro e w7 ⟨rfl, rfl⟩
        dsimp only
        go_wp2
        go_ret
        exact ⟨ret_bool (by simp), HB1.out⟩
end Go.Proofs.Ytbbbkpadadeolaa
