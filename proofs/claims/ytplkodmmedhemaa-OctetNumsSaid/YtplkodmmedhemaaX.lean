/- The law OctetNums (layer 1), walked: for every width, number, bytes and place it returns true, and only new memory is made. -/
import Derived.Test.YtplkodmmedhemaaW
import Derived.Test.YtplkodmmedhemaaU
import Derived.Test.YtplkodmmedhemaaR
namespace Go.Proofs.Ytplkodmmedhemaa
open Go.RowKit

set_option maxHeartbeats 4000000 in
set_option maxRecDepth 100000 in
theorem octetNums_walk (width x : Int) (s : ByteArray) (a : Int) (w : World) (hs : s.size ≤ maxLen) (hx0 : -9223372036854775808 ≤ x) (hx1 : x ≤ 9223372036854775807) :
    Calls Try.prog 3 #[.int .i64 width, .int .i64 x, .agg #[.string s, .int .i64 a]] w fun e w' => e = .returned (.bool true) ∧ Below w.heap.size w w' := by
  have hs' := hs
  unfold maxLen at hs
  by_cases hlong : 300 < s.size
  · have hd : decide ((300 : Int) < s.size) = true := by simp; omega
    go_enter Try.func3, Try.ntmps3
    go_wp2_with fail
    refine (awake_any _).mono ?_
    rintro e w1 ⟨rfl, hb1⟩
    have c0 := cell_keeps hb1 (Has2.new w (.string s) (.int .i64 a) 23).1
    go_wp2
    go_ret
    exact ⟨rfl, (below_alloc _ _).trans (hb1.mono (by simp))⟩
  · have hd : decide ((300 : Int) < s.size) = false := by simp; omega
    have hmf := @mk_func
    have HS := Lib.hid hs'
    have hh := heldN_bd width
    obtain ⟨hn1, hn4⟩ := hh
    clear hs'
    go_enter Try.func3, Try.ntmps3
    go_wp2_with fail
    refine (awake_any _).mono ?_
    rintro e w1 ⟨rfl, hb1⟩
    have HP1 := Lib.hid ((Has2.new w (.string s) (.int .i64 a) 23).later hb1)
    have HW1 := Lib.hid (below_step (below_alloc w (.cells #[.string s, .int .i64 a] 23)) hb1)
    have c0 := HP1.out.1
    clear hb1
    go_wp2_with fail
    refine (num_codec width _).mono ?_
    rintro e w2 ⟨vc, rfl, hcod, hb2⟩
    have HP2 := Lib.hid (HP1.out.later hb2)
    have HW2 := Lib.hid (below_step HW1.out hb2)
    have HC := Lib.hid hcod
    obtain ⟨k0, f0, a0, k1, f1, a1, rfl⟩ := hcod.shape
    clear hcod hb2 c0
    go_wp2_with fail
    refine (turn_codec width _).mono ?_
    rintro e w3 ⟨vd, rfl, hcod, hb3⟩
    have HP3 := Lib.hid (HP2.out.later hb3)
    have HW3 := Lib.hid (below_step HW2.out hb3)
    have HC3 := Lib.hid (HC.out.later hb3)
    have HD3 := Lib.hid hcod
    obtain ⟨k2, f2, a2, k3, f3, a3, rfl⟩ := hcod.shape
    clear hcod hb3
    go_wp2_with fail
    -- GEN
    have hU : Below w3.heap.size w3 ((w3.alloc (.cells #[.func (.func k0) f0 a0, .func (.func k1) f1 a1] 28)).alloc (.cells #[.func (.func k2) f2 a2, .func (.func k3) f3 a3] 28)) := below_step (below_alloc w3 (.cells #[.func (.func k0) f0 a0, .func (.func k1) f1 a1] 28)) (below_alloc _ _)
    have HPu := Lib.hid (HP3.out.later hU)
    have HWu := Lib.hid (below_step HW3.out hU)
    have HCu := Lib.hid (HC3.out.later hU)
    have HDu := Lib.hid (HD3.out.later hU)
    have HAu := Lib.hid ((Has2.new w3 (.func (.func k0) f0 a0) (.func (.func k1) f1 a1) 28).later (below_alloc _ (.cells #[.func (.func k2) f2 a2, .func (.func k3) f3 a3] 28)))
    have HBu : Hid (Has2 ((w3.alloc (.cells #[.func (.func k0) f0 a0, .func (.func k1) f1 a1] 28)).alloc (.cells #[.func (.func k2) f2 a2, .func (.func k3) f3 a3] 28)) (w3.heap.size + 1) (.func (.func k2) f2 a2) (.func (.func k3) f3 a3)) := Lib.hid (by simpa using Has2.new (w3.alloc (.cells #[.func (.func k0) f0 a0, .func (.func k1) f1 a1] 28)) (.func (.func k2) f2 a2) (.func (.func k3) f3 a3) 28)
    clear hU
    obtain ⟨X, N, E, hR⟩ : ∃ X N E, nextAt (nextN (heldN width)) s a = (X, N, E) := ⟨_, _, _, rfl⟩
    obtain ⟨hR2, hEX, hX0, hX1⟩ := tnext_eq hn1 hn4 s a hR
    have HRR := Lib.hid hR
    have HRT := Lib.hid hR2
    clear hR hR2
    have hhalf := halfN_bd hn1 hn4
    obtain ⟨hhf0, hhf1, hpw⟩ := hhalf
    have HPW := Lib.hid hpw
    clear hpw
    refine (put_codec HCu.out (Below.refl _ _) x).mono ?_
    by_cases hf : fitsN (heldN width) x = true
    · rw [put_fits hf]
      rintro e w4 ⟨rfl, hb⟩
      have HB4 := Lib.hid hb
      clear hb
      unfold ret2
      have p0 := (HPu.out.later HB4.out).1
      have p1 := (HPu.out.later HB4.out).2
      have c0 := (HAu.out.later HB4.out).1
      have c1 := (HAu.out.later HB4.out).2
      have d0 := (HBu.out.later HB4.out).1
      have d1 := (HBu.out.later HB4.out).2
      have hsz4 : (numStr (heldN width) x).size ≤ 4 := by rw [numStr_size]; exact hn4
      have hxf : 0 ≤ x := by simp [fitsN] at hf; exact hf.1
      have HNB := Lib.hid (next_back hf s)
      have HNS := Lib.hid (numStr_size (heldN width) x)
      have HSZ := Lib.hid (show (s ++ numStr (heldN width) x).size ≤ maxLen by rw [ByteArray.size_append, numStr_size]; unfold maxLen; omega)
      go_wp2_with fail
      refine (fits_any width x _).mono ?_
      rintro e w_ ⟨rfl, rfl⟩
      rw [hf]
      go_wp2_with fail
      refine (next_codec HCu.out HB4.out _ _ HSZ.out).mono ?_
      rw [HNB.out]
      rintro e w5 ⟨rfl, hb⟩
      have HB5 := Lib.hid (below_step HB4.out hb)
      clear hb p0 p1 c0 c1 d0 d1
      unfold ret3
      have p0 := (HPu.out.later HB5.out).1
      have p1 := (HPu.out.later HB5.out).2
      have c0 := (HAu.out.later HB5.out).1
      have c1 := (HAu.out.later HB5.out).2
      have d0 := (HBu.out.later HB5.out).1
      have d1 := (HBu.out.later HB5.out).2
      go_wp2_with fail
      refine (numRef_any width x hxf hx1 _).mono ?_
      rintro e w6 ⟨rfl, hb⟩
      have HB6 := Lib.hid (below_step HB5.out hb)
      clear hb p0 p1 c0 c1 d0 d1
      have hns := HNS.out
      have p0 := (HPu.out.later HB6.out).1
      have p1 := (HPu.out.later HB6.out).2
      have c0 := (HAu.out.later HB6.out).1
      have c1 := (HAu.out.later HB6.out).2
      have d0 := (HBu.out.later HB6.out).1
      have d1 := (HBu.out.later HB6.out).2
      go_wp2_with fail
      clear hns
      refine (half_any width _).mono ?_
      rintro e w_ ⟨rfl, rfl⟩
      rw [show powN (heldN width) / 2 = halfN (heldN width) from rfl]
      go_wp2_with fail
      refine (put_codec HDu.out HB6.out x).mono ?_
      by_cases hin : -halfN (heldN width) ≤ x ∧ x < halfN (heldN width)
      · rw [tput_fits hn1 hn4 hin.1 hin.2]
        rintro e w7 ⟨rfl, hb⟩
        have HB7 := Lib.hid (below_step HB6.out hb)
        clear hb
        clear p0 p1 c0 c1 d0 d1
        unfold ret2
        have p0 := (HPu.out.later HB7.out).1
        have p1 := (HPu.out.later HB7.out).2
        have c0 := (HAu.out.later HB7.out).1
        have c1 := (HAu.out.later HB7.out).2
        have d0 := (HBu.out.later HB7.out).1
        have d1 := (HBu.out.later HB7.out).2
        obtain ⟨hin1, hin2⟩ := hin
        have HTG := Lib.hid (tget_back hn1 hn4 hin1 hin2)
        have hi1 : decide (-halfN (heldN width) ≤ x) = true := by simpa using hin1
        have hi2 : decide (x < halfN (heldN width)) = true := by simpa using hin2
        have hsz4 : (numStr (heldN width) (x + halfN (heldN width))).size ≤ 4 := by rw [numStr_size]; exact hn4
        have HSZ := Lib.hid (show (numStr (heldN width) (x + halfN (heldN width))).size ≤ maxLen by rw [numStr_size]; unfold maxLen; omega)
        go_wp2_with fail
        refine (get_codec HDu.out HB7.out _ HSZ.out).mono ?_
        rw [HTG.out]
        rintro e w8 ⟨rfl, hb⟩
        have HB8 := Lib.hid (below_step HB7.out hb)
        clear hb p0 p1 c0 c1 d0 d1
        unfold ret2i
        have p0 := (HPu.out.later HB8.out).1
        have p1 := (HPu.out.later HB8.out).2
        have c0 := (HAu.out.later HB8.out).1
        have c1 := (HAu.out.later HB8.out).2
        have d0 := (HBu.out.later HB8.out).1
        have d1 := (HBu.out.later HB8.out).2
        go_wp2_with fail
        refine (numRef_any width (x + halfN (heldN width)) (by omega) (by omega) _).mono ?_
        rintro e w9 ⟨rfl, hb⟩
        have HB9 := Lib.hid (below_step HB8.out hb)
        clear hb p0 p1 c0 c1 d0 d1
        have p0 := (HPu.out.later HB9.out).1
        have p1 := (HPu.out.later HB9.out).2
        have c0 := (HAu.out.later HB9.out).1
        have c1 := (HAu.out.later HB9.out).2
        have d0 := (HBu.out.later HB9.out).1
        have d1 := (HBu.out.later HB9.out).2
        go_wp2_with fail
        refine (readRef_any width s a (by omega) _).mono ?_
        rw [HRR.out]
        rintro e w10 ⟨rfl, hb⟩
        have HB10 := Lib.hid (below_step HB9.out hb)
        clear hb p0 p1 c0 c1 d0 d1
        unfold agg3
        have p0 := (HPu.out.later HB10.out).1
        have p1 := (HPu.out.later HB10.out).2
        have c0 := (HAu.out.later HB10.out).1
        have c1 := (HAu.out.later HB10.out).2
        have d0 := (HBu.out.later HB10.out).1
        have d1 := (HBu.out.later HB10.out).2
        have q0 := lt_of_cell c0
        have q1 := lt_of_cell p0
        have q2 := lt_of_cell d0
        go_wp2_with fail
        refine (next_codec HCu.out (below_step HB10.out (below_alloc _ _)) s a HS.out).mono ?_
        rw [HRR.out]
        rintro e w11 ⟨rfl, hb⟩
        have HB11 := Lib.hid (below_step HB10.out (below_step (below_alloc w10 (.cells #[.int .i64 X, .int .i64 N, .int .i64 E] 39)) hb))
        have HG0 := Lib.hid (cell_keeps hb (show (w10.alloc (.cells #[.int .i64 X, .int .i64 N, .int .i64 E] 39)).cell? ⟨w10.heap.size, 0, none⟩ = some (.int .i64 X) by simp [go_sem]))
        have HG1 := Lib.hid (cell_keeps hb (show (w10.alloc (.cells #[.int .i64 X, .int .i64 N, .int .i64 E] 39)).cell? ⟨w10.heap.size, 1, none⟩ = some (.int .i64 N) by simp [go_sem]))
        have HG2 := Lib.hid (cell_keeps hb (show (w10.alloc (.cells #[.int .i64 X, .int .i64 N, .int .i64 E] 39)).cell? ⟨w10.heap.size, 2, none⟩ = some (.int .i64 E) by simp [go_sem]))
        clear hb p0 p1 c0 c1 d0 d1
        unfold ret3
        have p0 := (HPu.out.later HB11.out).1
        have p1 := (HPu.out.later HB11.out).2
        have c0 := (HAu.out.later HB11.out).1
        have c1 := (HAu.out.later HB11.out).2
        have d0 := (HBu.out.later HB11.out).1
        have d1 := (HBu.out.later HB11.out).2
        go_wp2_with fail
        refine (next_codec HDu.out HB11.out s a HS.out).mono ?_
        rw [HRT.out]
        by_cases hE : E = 0
        · subst hE
          rw [if_pos rfl]
          rintro e w12 ⟨rfl, hb⟩
          have HB12 := Lib.hid (below_step HB11.out hb)
          have g0 := cell_keeps hb HG0.out
          have g1 := cell_keeps hb HG1.out
          have g2 := cell_keeps hb HG2.out
          clear hb p0 p1 c0 c1 d0 d1
          unfold ret3
          go_wp2
          go_ret
          exact ⟨by simp, below_step HWu.out HB12.out⟩
        · obtain rfl := hEX hE
          rw [if_neg hE]
          have hE1 : (E != 0) = true := by simpa using hE
          have hE2 : (E == 0) = false := by simpa using hE
          clear hE
          rintro e w12 ⟨rfl, hb⟩
          have HB12 := Lib.hid (below_step HB11.out hb)
          have g0 := cell_keeps hb HG0.out
          have g1 := cell_keeps hb HG1.out
          have g2 := cell_keeps hb HG2.out
          clear hb p0 p1 c0 c1 d0 d1
          unfold ret3
          go_wp2
          go_ret
          exact ⟨by simp, below_step HWu.out HB12.out⟩
      · rw [tput_not hn1 hn4 hx0 hx1 hin]
        rintro e w7 ⟨rfl, hb⟩
        have HB7 := Lib.hid (below_step HB6.out hb)
        clear hb
        clear p0 p1 c0 c1 d0 d1
        unfold ret2
        have p0 := (HPu.out.later HB7.out).1
        have p1 := (HPu.out.later HB7.out).2
        have c0 := (HAu.out.later HB7.out).1
        have c1 := (HAu.out.later HB7.out).2
        have d0 := (HBu.out.later HB7.out).1
        have d1 := (HBu.out.later HB7.out).2
        have hdec : decide (-halfN (heldN width) ≤ x) = false ∨ (decide (-halfN (heldN width) ≤ x) = true ∧ decide (x < halfN (heldN width)) = false) := by
          by_cases h1 : -halfN (heldN width) ≤ x
          · exact .inr ⟨by simpa using h1, by simp; omega⟩
          · exact .inl (by simpa using h1)
        rcases hdec with hi1 | ⟨hi1, hi2⟩
        all_goals go_wp2_with fail
        all_goals (
          refine (readRef_any width s a (by omega) _).mono ?_
          rw [HRR.out]
          rintro e w8 ⟨rfl, hb⟩
          have HB8 := Lib.hid (below_step HB7.out hb)
          clear hb p0 p1 c0 c1 d0 d1
          unfold agg3
          have p0 := (HPu.out.later HB8.out).1
          have p1 := (HPu.out.later HB8.out).2
          have c0 := (HAu.out.later HB8.out).1
          have c1 := (HAu.out.later HB8.out).2
          have d0 := (HBu.out.later HB8.out).1
          have d1 := (HBu.out.later HB8.out).2
          have q0 := lt_of_cell c0
          have q1 := lt_of_cell p0
          have q2 := lt_of_cell d0
          go_wp2_with fail
          refine (next_codec HCu.out (below_step HB8.out (below_alloc _ _)) s a HS.out).mono ?_
          rw [HRR.out]
          rintro e w9 ⟨rfl, hb⟩
          have HB9 := Lib.hid (below_step HB8.out (below_step (below_alloc w8 (.cells #[.int .i64 X, .int .i64 N, .int .i64 E] 39)) hb))
          have HG0 := Lib.hid (cell_keeps hb (show (w8.alloc (.cells #[.int .i64 X, .int .i64 N, .int .i64 E] 39)).cell? ⟨w8.heap.size, 0, none⟩ = some (.int .i64 X) by simp [go_sem]))
          have HG1 := Lib.hid (cell_keeps hb (show (w8.alloc (.cells #[.int .i64 X, .int .i64 N, .int .i64 E] 39)).cell? ⟨w8.heap.size, 1, none⟩ = some (.int .i64 N) by simp [go_sem]))
          have HG2 := Lib.hid (cell_keeps hb (show (w8.alloc (.cells #[.int .i64 X, .int .i64 N, .int .i64 E] 39)).cell? ⟨w8.heap.size, 2, none⟩ = some (.int .i64 E) by simp [go_sem]))
          clear hb p0 p1 c0 c1 d0 d1
          unfold ret3
          have p0 := (HPu.out.later HB9.out).1
          have p1 := (HPu.out.later HB9.out).2
          have c0 := (HAu.out.later HB9.out).1
          have c1 := (HAu.out.later HB9.out).2
          have d0 := (HBu.out.later HB9.out).1
          have d1 := (HBu.out.later HB9.out).2
          go_wp2_with fail
          refine (next_codec HDu.out HB9.out s a HS.out).mono ?_
          rw [HRT.out]
          by_cases hE : E = 0
          · subst hE
            rw [if_pos rfl]
            rintro e w10 ⟨rfl, hb⟩
            have HB10 := Lib.hid (below_step HB9.out hb)
            have g0 := cell_keeps hb HG0.out
            have g1 := cell_keeps hb HG1.out
            have g2 := cell_keeps hb HG2.out
            clear hb p0 p1 c0 c1 d0 d1
            unfold ret3
            go_wp2
            go_ret
            exact ⟨by simp, below_step HWu.out HB10.out⟩
          · obtain rfl := hEX hE
            rw [if_neg hE]
            have hE1 : (E != 0) = true := by simpa using hE
            have hE2 : (E == 0) = false := by simpa using hE
            clear hE
            rintro e w10 ⟨rfl, hb⟩
            have HB10 := Lib.hid (below_step HB9.out hb)
            have g0 := cell_keeps hb HG0.out
            have g1 := cell_keeps hb HG1.out
            have g2 := cell_keeps hb HG2.out
            clear hb p0 p1 c0 c1 d0 d1
            unfold ret3
            go_wp2
            go_ret
            exact ⟨by simp, below_step HWu.out HB10.out⟩)
    · rw [put_not (by simpa using hf)]
      rintro e w4 ⟨rfl, hb⟩
      have HB4 := Lib.hid hb
      clear hb
      unfold ret2
      have p0 := (HPu.out.later HB4.out).1
      have p1 := (HPu.out.later HB4.out).2
      have c0 := (HAu.out.later HB4.out).1
      have c1 := (HAu.out.later HB4.out).2
      have d0 := (HBu.out.later HB4.out).1
      have d1 := (HBu.out.later HB4.out).2
      have HF := Lib.hid (show fitsN (heldN width) x = false by simpa using hf)
      clear hf
      go_wp2_with fail
      refine (fits_any width x _).mono ?_
      rintro e w_ ⟨rfl, rfl⟩
      rw [HF.out]
      go_wp2_with fail
      refine (half_any width _).mono ?_
      rintro e w_ ⟨rfl, rfl⟩
      rw [show powN (heldN width) / 2 = halfN (heldN width) from rfl]
      go_wp2_with fail
      refine (put_codec HDu.out HB4.out x).mono ?_
      by_cases hin : -halfN (heldN width) ≤ x ∧ x < halfN (heldN width)
      · rw [tput_fits hn1 hn4 hin.1 hin.2]
        rintro e w5 ⟨rfl, hb⟩
        have HB5 := Lib.hid (below_step HB4.out hb)
        clear hb
        clear p0 p1 c0 c1 d0 d1
        unfold ret2
        have p0 := (HPu.out.later HB5.out).1
        have p1 := (HPu.out.later HB5.out).2
        have c0 := (HAu.out.later HB5.out).1
        have c1 := (HAu.out.later HB5.out).2
        have d0 := (HBu.out.later HB5.out).1
        have d1 := (HBu.out.later HB5.out).2
        obtain ⟨hin1, hin2⟩ := hin
        have HTG := Lib.hid (tget_back hn1 hn4 hin1 hin2)
        have hi1 : decide (-halfN (heldN width) ≤ x) = true := by simpa using hin1
        have hi2 : decide (x < halfN (heldN width)) = true := by simpa using hin2
        have hsz4 : (numStr (heldN width) (x + halfN (heldN width))).size ≤ 4 := by rw [numStr_size]; exact hn4
        have HSZ := Lib.hid (show (numStr (heldN width) (x + halfN (heldN width))).size ≤ maxLen by rw [numStr_size]; unfold maxLen; omega)
        go_wp2_with fail
        refine (get_codec HDu.out HB5.out _ HSZ.out).mono ?_
        rw [HTG.out]
        rintro e w6 ⟨rfl, hb⟩
        have HB6 := Lib.hid (below_step HB5.out hb)
        clear hb p0 p1 c0 c1 d0 d1
        unfold ret2i
        have p0 := (HPu.out.later HB6.out).1
        have p1 := (HPu.out.later HB6.out).2
        have c0 := (HAu.out.later HB6.out).1
        have c1 := (HAu.out.later HB6.out).2
        have d0 := (HBu.out.later HB6.out).1
        have d1 := (HBu.out.later HB6.out).2
        go_wp2_with fail
        refine (numRef_any width (x + halfN (heldN width)) (by omega) (by omega) _).mono ?_
        rintro e w7 ⟨rfl, hb⟩
        have HB7 := Lib.hid (below_step HB6.out hb)
        clear hb p0 p1 c0 c1 d0 d1
        have p0 := (HPu.out.later HB7.out).1
        have p1 := (HPu.out.later HB7.out).2
        have c0 := (HAu.out.later HB7.out).1
        have c1 := (HAu.out.later HB7.out).2
        have d0 := (HBu.out.later HB7.out).1
        have d1 := (HBu.out.later HB7.out).2
        go_wp2_with fail
        refine (readRef_any width s a (by omega) _).mono ?_
        rw [HRR.out]
        rintro e w8 ⟨rfl, hb⟩
        have HB8 := Lib.hid (below_step HB7.out hb)
        clear hb p0 p1 c0 c1 d0 d1
        unfold agg3
        have p0 := (HPu.out.later HB8.out).1
        have p1 := (HPu.out.later HB8.out).2
        have c0 := (HAu.out.later HB8.out).1
        have c1 := (HAu.out.later HB8.out).2
        have d0 := (HBu.out.later HB8.out).1
        have d1 := (HBu.out.later HB8.out).2
        have q0 := lt_of_cell c0
        have q1 := lt_of_cell p0
        have q2 := lt_of_cell d0
        go_wp2_with fail
        refine (next_codec HCu.out (below_step HB8.out (below_alloc _ _)) s a HS.out).mono ?_
        rw [HRR.out]
        rintro e w9 ⟨rfl, hb⟩
        have HB9 := Lib.hid (below_step HB8.out (below_step (below_alloc w8 (.cells #[.int .i64 X, .int .i64 N, .int .i64 E] 39)) hb))
        have HG0 := Lib.hid (cell_keeps hb (show (w8.alloc (.cells #[.int .i64 X, .int .i64 N, .int .i64 E] 39)).cell? ⟨w8.heap.size, 0, none⟩ = some (.int .i64 X) by simp [go_sem]))
        have HG1 := Lib.hid (cell_keeps hb (show (w8.alloc (.cells #[.int .i64 X, .int .i64 N, .int .i64 E] 39)).cell? ⟨w8.heap.size, 1, none⟩ = some (.int .i64 N) by simp [go_sem]))
        have HG2 := Lib.hid (cell_keeps hb (show (w8.alloc (.cells #[.int .i64 X, .int .i64 N, .int .i64 E] 39)).cell? ⟨w8.heap.size, 2, none⟩ = some (.int .i64 E) by simp [go_sem]))
        clear hb p0 p1 c0 c1 d0 d1
        unfold ret3
        have p0 := (HPu.out.later HB9.out).1
        have p1 := (HPu.out.later HB9.out).2
        have c0 := (HAu.out.later HB9.out).1
        have c1 := (HAu.out.later HB9.out).2
        have d0 := (HBu.out.later HB9.out).1
        have d1 := (HBu.out.later HB9.out).2
        go_wp2_with fail
        refine (next_codec HDu.out HB9.out s a HS.out).mono ?_
        rw [HRT.out]
        by_cases hE : E = 0
        · subst hE
          rw [if_pos rfl]
          rintro e w10 ⟨rfl, hb⟩
          have HB10 := Lib.hid (below_step HB9.out hb)
          have g0 := cell_keeps hb HG0.out
          have g1 := cell_keeps hb HG1.out
          have g2 := cell_keeps hb HG2.out
          clear hb p0 p1 c0 c1 d0 d1
          unfold ret3
          go_wp2
          go_ret
          exact ⟨by simp, below_step HWu.out HB10.out⟩
        · obtain rfl := hEX hE
          rw [if_neg hE]
          have hE1 : (E != 0) = true := by simpa using hE
          have hE2 : (E == 0) = false := by simpa using hE
          clear hE
          rintro e w10 ⟨rfl, hb⟩
          have HB10 := Lib.hid (below_step HB9.out hb)
          have g0 := cell_keeps hb HG0.out
          have g1 := cell_keeps hb HG1.out
          have g2 := cell_keeps hb HG2.out
          clear hb p0 p1 c0 c1 d0 d1
          unfold ret3
          go_wp2
          go_ret
          exact ⟨by simp, below_step HWu.out HB10.out⟩
      · rw [tput_not hn1 hn4 hx0 hx1 hin]
        rintro e w5 ⟨rfl, hb⟩
        have HB5 := Lib.hid (below_step HB4.out hb)
        clear hb
        clear p0 p1 c0 c1 d0 d1
        unfold ret2
        have p0 := (HPu.out.later HB5.out).1
        have p1 := (HPu.out.later HB5.out).2
        have c0 := (HAu.out.later HB5.out).1
        have c1 := (HAu.out.later HB5.out).2
        have d0 := (HBu.out.later HB5.out).1
        have d1 := (HBu.out.later HB5.out).2
        have hdec : decide (-halfN (heldN width) ≤ x) = false ∨ (decide (-halfN (heldN width) ≤ x) = true ∧ decide (x < halfN (heldN width)) = false) := by
          by_cases h1 : -halfN (heldN width) ≤ x
          · exact .inr ⟨by simpa using h1, by simp; omega⟩
          · exact .inl (by simpa using h1)
        rcases hdec with hi1 | ⟨hi1, hi2⟩
        all_goals go_wp2_with fail
        all_goals (
          refine (readRef_any width s a (by omega) _).mono ?_
          rw [HRR.out]
          rintro e w6 ⟨rfl, hb⟩
          have HB6 := Lib.hid (below_step HB5.out hb)
          clear hb p0 p1 c0 c1 d0 d1
          unfold agg3
          have p0 := (HPu.out.later HB6.out).1
          have p1 := (HPu.out.later HB6.out).2
          have c0 := (HAu.out.later HB6.out).1
          have c1 := (HAu.out.later HB6.out).2
          have d0 := (HBu.out.later HB6.out).1
          have d1 := (HBu.out.later HB6.out).2
          have q0 := lt_of_cell c0
          have q1 := lt_of_cell p0
          have q2 := lt_of_cell d0
          go_wp2_with fail
          refine (next_codec HCu.out (below_step HB6.out (below_alloc _ _)) s a HS.out).mono ?_
          rw [HRR.out]
          rintro e w7 ⟨rfl, hb⟩
          have HB7 := Lib.hid (below_step HB6.out (below_step (below_alloc w6 (.cells #[.int .i64 X, .int .i64 N, .int .i64 E] 39)) hb))
          have HG0 := Lib.hid (cell_keeps hb (show (w6.alloc (.cells #[.int .i64 X, .int .i64 N, .int .i64 E] 39)).cell? ⟨w6.heap.size, 0, none⟩ = some (.int .i64 X) by simp [go_sem]))
          have HG1 := Lib.hid (cell_keeps hb (show (w6.alloc (.cells #[.int .i64 X, .int .i64 N, .int .i64 E] 39)).cell? ⟨w6.heap.size, 1, none⟩ = some (.int .i64 N) by simp [go_sem]))
          have HG2 := Lib.hid (cell_keeps hb (show (w6.alloc (.cells #[.int .i64 X, .int .i64 N, .int .i64 E] 39)).cell? ⟨w6.heap.size, 2, none⟩ = some (.int .i64 E) by simp [go_sem]))
          clear hb p0 p1 c0 c1 d0 d1
          unfold ret3
          have p0 := (HPu.out.later HB7.out).1
          have p1 := (HPu.out.later HB7.out).2
          have c0 := (HAu.out.later HB7.out).1
          have c1 := (HAu.out.later HB7.out).2
          have d0 := (HBu.out.later HB7.out).1
          have d1 := (HBu.out.later HB7.out).2
          go_wp2_with fail
          refine (next_codec HDu.out HB7.out s a HS.out).mono ?_
          rw [HRT.out]
          by_cases hE : E = 0
          · subst hE
            rw [if_pos rfl]
            rintro e w8 ⟨rfl, hb⟩
            have HB8 := Lib.hid (below_step HB7.out hb)
            have g0 := cell_keeps hb HG0.out
            have g1 := cell_keeps hb HG1.out
            have g2 := cell_keeps hb HG2.out
            clear hb p0 p1 c0 c1 d0 d1
            unfold ret3
            go_wp2
            go_ret
            exact ⟨by simp, below_step HWu.out HB8.out⟩
          · obtain rfl := hEX hE
            rw [if_neg hE]
            have hE1 : (E != 0) = true := by simpa using hE
            have hE2 : (E == 0) = false := by simpa using hE
            clear hE
            rintro e w8 ⟨rfl, hb⟩
            have HB8 := Lib.hid (below_step HB7.out hb)
            have g0 := cell_keeps hb HG0.out
            have g1 := cell_keeps hb HG1.out
            have g2 := cell_keeps hb HG2.out
            clear hb p0 p1 c0 c1 d0 d1
            unfold ret3
            go_wp2
            go_ret
            exact ⟨by simp, below_step HWu.out HB8.out⟩)
end Go.Proofs.Ytplkodmmedhemaa
