/- The law ManaSeats (layer 7), walked: for all things and numbers it returns true, and only new memory is made. -/
import Derived.Test.YtkhgdfalbmkgcaaJn
import Derived.Deep.Cut
namespace Go.Proofs.Ytkhgdfalbmkgcaa
open Go.RowKit Go.Maps

theorem drew_below {w w' : World} {v : Value} {e : Ending} (h : Drew w v e w') : e = .returned v ∧ Below w.heap.size w w' := by
  obtain ⟨h1, n, rfl⟩ := h
  exact ⟨h1, below_drewN (Below.refl _ _) n⟩
set_option maxRecDepth 100000 in
set_option maxHeartbeats 16000000 in
theorem manaSeats_walk {u : Value} {l : List ThingL} {a b c : Nat} {w : World} (hu : ThingsAt w u l) (hw : ∀ x ∈ l, Wf x.owner ∧ Wf x.zone) (hl : l.length ≤ 9223372036854775807) (ha : a < 256) (hb : b < 256) (hc : c < 256) :
    Calls Try.prog 9 #[u, .agg #[.int .u8 a, .int .u8 b, .int .u8 c]] w (RetV w (.bool true)) := by
  have HM := Lib.hid (fun (w' : World) (hb : Below w.heap.size w w') => made_any (hu.later hb) hw hl)
  obtain ⟨ua, uc, rfl⟩ := hu.form
  clear hu hw
  obtain ⟨x, hx⟩ : ∃ x, a % 4 = x := ⟨_, rfl⟩
  obtain ⟨y, hy⟩ : ∃ y, b % 4 = y := ⟨_, rfl⟩
  obtain ⟨n, hn⟩ : ∃ n, c % 10 = n := ⟨_, rfl⟩
  have dx : ((a : Int)).tmod 4 = (x : Int) := by rw [Int.tmod_eq_emod_of_nonneg (by omega)]; omega
  have dy : ((b : Int)).tmod 4 = (y : Int) := by rw [Int.tmod_eq_emod_of_nonneg (by omega)]; omega
  have dn : ((c : Int)).tmod 10 = (n : Int) := by rw [Int.tmod_eq_emod_of_nonneg (by omega)]; omega
  have hx4 : x < 4 := by omega
  have hy4 : y < 4 := by omega
  have hn10 : n < 10 := by omega
  have k0 : ∀ j, (w.alloc (.cells #[.int .u8 a, .int .u8 b, .int .u8 c] 74)).cell? ⟨w.heap.size, j, none⟩ = (#[.int .u8 a, .int .u8 b, .int .u8 c] : Array Value)[j]? := fun j => cell_of_row _ _ j _ _ _ (heap_alloc_new w _)
  have q0 : (w.alloc (.cells #[.int .u8 a, .int .u8 b, .int .u8 c] 74)).cell? ⟨w.heap.size, 0, none⟩ = some (.int .u8 a) := k0 0
  have q1 : (w.alloc (.cells #[.int .u8 a, .int .u8 b, .int .u8 c] 74)).cell? ⟨w.heap.size, 1, none⟩ = some (.int .u8 b) := k0 1
  have q2 : (w.alloc (.cells #[.int .u8 a, .int .u8 b, .int .u8 c] 74)).cell? ⟨w.heap.size, 2, none⟩ = some (.int .u8 c) := k0 2
  clear k0 hx hy hn
  go_enter Try.func9, Try.ntmps9
  go_wp2_with fail
  refine (awake7_any _).mono ?_
  rintro e w1 ⟨rfl, hb1⟩
  have HB1 := Lib.hid (stepB (below_new w _) hb1)
  have c0 := cell_stays hb1 q0
  have c1 := cell_stays hb1 q1
  have c2 := cell_stays hb1 q2
  clear hb1 q0 q1 q2
  dsimp only
  go_wp2
  go_region
  all_goals
    go_wp2_with fail
    refine (HM.out _ HB1.out.drew).mono ?_
    rintro e w2 (⟨_, bb, lo, G, S, rfl, hs, hm, hlo, hle, hb2⟩ | ⟨_, rfl, hb2⟩)
    case inr =>
      have HB2 := Lib.hid (stepB HB1.out.drew hb2)
      clear hb2 c0 c1 c2
      dsimp only
      go_wp2
      go_ret
      exact ⟨rfl, HB2.out⟩
    have HB2 := Lib.hid (stepB HB1.out.drew hb2)
    have HFAR := Lib.hid (show ∀ k, G.tag k ≠ .no → w.heap.size ≤ k from fun k hk => Nat.le_trans (Nat.le_trans HB1.out.drew.size hlo) (hs.low k hk))
    have HSL := Lib.hid (show S.objs.length ≤ 1000 by rw [hm.len]; have := ‹playT l›.1; omega)
    have HWF := Lib.hid hm.wf
    have HS2 := Lib.hid hs
    clear hs hm hlo hle hb2 c0 c1 c2 HM
    dsimp only
    by_cases hxy : x = y
    · subst hxy
      go_wp2
      go_ret
      exact ⟨rfl, HB2.out⟩
    have e0 : ((x : Int) == (y : Int)) = false := beq_eq_false_iff_ne.2 (by omega)
    have HNE := Lib.hid (show (x : Int) ≠ (y : Int) by omega)
    have HLY := Lib.hid (lands_mine HS2.out HWF.out HSL.out y)
    go_wp2_with fail
    refine HLY.out.mono ?_
    rintro e w3 ⟨v, rfl, ho, hb3⟩
    have HK3 := Lib.hid (KeptI.new HS2.out ho)
    have HB3 := Lib.hid hb3
    have HU := Lib.hid (untap_any (HS2.out.later (stepB hb3 (below_new w3 (.cells #[.int .i64 x] 3)))) HWF.out HSL.out (one_int w3 x) (by simp))
    obtain ⟨va, vc, rfl⟩ := own_form ho
    clear ho hb3 HLY
    dsimp only
    go_wp2_with fail
    refine HU.out.mono ?_
    rintro e w4 ⟨rfl, G4, hs4, ht4⟩
    have HT4 := Lib.hid ((Turned.of_below (stepB HB3.out (below_new w3 _))).trans ht4)
    have HK4 := Lib.hid ((HK3.out.later (below_new w3 _)).turn ht4)
    have HS4 := Lib.hid hs4
    have HWF4 := Lib.hid (untapL_wf HWF.out [(x : Int)])
    have HSL4 := Lib.hid (show (untapL S [(x : Int)]).objs.length ≤ 1000 by rw [untapL_len]; exact HSL.out)
    have HMY := Lib.hid (mine_untap_other S HNE.out)
    have HMX := Lib.hid (mine_untap_self S (x : Int))
    obtain ⟨S4, hS4⟩ : ∃ S4, untapL S [(x : Int)] = S4 := ⟨_, rfl⟩
    have HAL := Lib.hid (show allL S4 x = allL S x by rw [← hS4, all_untap])
    rw [hS4] at HS4 HWF4 HSL4 HMY HMX
    clear hs4 ht4 HU HK3 hS4
    dsimp only
    have hall := has_of (lands_mine HS4.out HWF4.out HSL4.out (x : Int)) (Nat.le_trans (mine_len _) HSL4.out)
    have HHA := Lib.hid hall
    have HLEN := Lib.hid (Nat.le_trans (mine_len (S := S4) (x : Int)) HSL4.out)
    clear hall
    go_wp2_with fail
    refine HHA.out.mono ?_
    rintro e w5 ⟨rfl, hb5⟩
    have HB5 := Lib.hid hb5
    obtain ⟨q, hq⟩ : ∃ q, (mineL S4 (x : Int)).length = q := ⟨_, rfl⟩
    have hqb := HLEN.out
    rw [hq] at hqb ⊢
    have HQ := Lib.hid hq
    clear hb5 hq HHA
    dsimp only
    by_cases hnq : n ≤ q
    · have HP := Lib.hid (pay_ok (HS4.out.later HB5.out) HWF4.out HSL4.out (x : Int) n (by rw [HQ.out]; exact hnq))
      have d1 : decide ((n : Int) ≤ (q : Int)) = true := decide_eq_true (by omega)
      have d1' : decide (n ≤ q) = true := decide_eq_true hnq
      go_wp2_with fail
      refine HP.out.mono ?_
      rintro e w6 ⟨rfl, G6, hs6, ht6⟩
      have HMI := Lib.hid (mine_tap_other HWF4.out HNE.out (X := (mineL S4 (x : Int)).take n) (fun i hi => List.mem_of_mem_take hi))
      have HAT := Lib.hid (all_tap S4 ((mineL S4 (x : Int)).take n) (x : Int))
      have HWF6 := Lib.hid (tapAll_wf HWF4.out ((mineL S4 (x : Int)).take n))
      have HSL6 := Lib.hid (show (tapAll S4 ((mineL S4 (x : Int)).take n)).objs.length ≤ 1000 by rw [tapAll_len]; exact HSL4.out)
      have HS6 := Lib.hid hs6
      have HT6 := Lib.hid ((HT4.out.trans (Turned.of_below HB5.out)).trans ht6)
      have HK6 := Lib.hid ((HK4.out.later HB5.out).turn ht6)
      obtain ⟨S6, hS6⟩ : ∃ S6, tapAll S4 ((mineL S4 (x : Int)).take n) = S6 := ⟨_, rfl⟩
      rw [hS6] at HMI HAT HWF6 HSL6 HS6
      have HY6 := Lib.hid (HMI.out.trans HMY.out)
      have HA6 := Lib.hid (HAT.out.trans HAL.out)
      clear hs6 ht6 hS6 HP
      dsimp only
      have hlen : (mineL S (y : Int)).length ≤ 1000 := Nat.le_trans (mine_len _) HSL.out
      have hl6 := lands_mine HS6.out HWF6.out HSL6.out (y : Int)
      rw [HY6.out] at hl6
      have HL6 := Lib.hid hl6
      clear hl6
      go_wp2_with fail
      refine HL6.out.mono ?_
      rintro e w7 ⟨v7, rfl, ho7, hb7⟩
      have HI7 := Lib.hid (ints_same (own_ints ho7) (HK6.out.later hb7).ints hlen)
      have HB7 := Lib.hid hb7
      obtain ⟨ya, yc, rfl⟩ := own_form ho7
      clear ho7 hb7 HL6
      dsimp only
      go_wp2_with fail
      refine HI7.out.mono ?_
      rintro e w8 hd
      obtain ⟨rfl, hb8⟩ := drew_below hd
      have HB8 := Lib.hid (stepB HB7.out hb8)
      have HU9 := Lib.hid (untap_any (HS6.out.later (stepB HB8.out (below_new w8 (.cells #[.int .i64 x] 3)))) HWF6.out HSL6.out (one_int w8 x) (by simp))
      clear hd hb8 HI7 HB7
      dsimp only
      go_wp2_with fail
      refine HU9.out.mono ?_
      rintro e w9 ⟨rfl, G9, hs9, ht9⟩
      have HT9 := Lib.hid ((HT6.out.trans (Turned.of_below (stepB HB8.out (below_new w8 _)))).trans ht9)
      have HK9 := Lib.hid ((HK6.out.later (stepB HB8.out (below_new w8 _))).turn ht9)
      have HS9 := Lib.hid hs9
      have HWF9 := Lib.hid (untapL_wf HWF6.out [(x : Int)])
      have hsl9 : (untapL S6 [(x : Int)]).objs.length ≤ 1000 := by rw [untapL_len]; exact HSL6.out
      have HSL9 := Lib.hid hsl9
      have hh := has_of (lands_mine hs9 HWF9.out hsl9 (x : Int)) (Nat.le_trans (mine_len _) hsl9)
      rw [mine_untap_self, HA6.out, ← HMX.out, HQ.out] at hh
      have HH9 := Lib.hid hh
      have HY9 := Lib.hid ((mine_untap_other S6 HNE.out).trans HY6.out)
      clear hs9 ht9 HU9 hsl9 hh
      dsimp only
      go_wp2_with fail
      refine HH9.out.mono ?_
      rintro e w10 ⟨rfl, hb10⟩
      have hl10 := lands_mine (HS9.out.later hb10) HWF9.out HSL9.out (y : Int)
      rw [HY9.out] at hl10
      have HL10 := Lib.hid hl10
      have HB10 := Lib.hid hb10
      clear hl10 hb10 HH9
      dsimp only
      go_wp2_with fail
      refine HL10.out.mono ?_
      rintro e w11 ⟨v11, rfl, ho11, hb11⟩
      have HI11 := Lib.hid (ints_same (own_ints ho11) (HK9.out.later (stepB HB10.out hb11)).ints hlen)
      have HB11 := Lib.hid (stepB HB10.out hb11)
      obtain ⟨za, zc, rfl⟩ := own_form ho11
      clear ho11 hb11 HL10
      dsimp only
      go_wp2_with fail
      refine HI11.out.mono ?_
      rintro e w12 hd
      obtain ⟨rfl, hb12⟩ := drew_below hd
      have HB12 := Lib.hid (stepB HB11.out hb12)
      clear hd hb12 HI11
      dsimp only
      go_wp2
      go_ret
      exact ⟨ret_bool (by simp), stepB (HT9.out.below HB2.out HFAR.out) HB12.out⟩
    · have HP := Lib.hid (pay_no (HS4.out.later HB5.out) HWF4.out HSL4.out (x : Int) n (by omega) (by rw [HQ.out]; omega))
      have d1 : decide ((n : Int) ≤ (q : Int)) = false := decide_eq_false (by omega)
      have d1' : decide (n ≤ q) = false := decide_eq_false hnq
      go_wp2_with fail
      refine HP.out.mono ?_
      rintro e w6 ⟨rfl, hb6⟩
      have HS6 := Lib.hid (HS4.out.later (stepB HB5.out hb6))
      have HT6 := Lib.hid (HT4.out.trans (Turned.of_below (stepB HB5.out hb6)))
      have HK6 := Lib.hid (HK4.out.later (stepB HB5.out hb6))
      obtain ⟨S6, hS6⟩ : ∃ S6, S4 = S6 := ⟨_, rfl⟩
      have HY6 := HMY
      have HA6 := HAL
      have HSL6 := HSL4
      have HWF6 := HWF4
      rw [hS6] at HS6 HY6 HA6 HSL6 HWF6
      clear hb6 hS6 HP
      dsimp only
      have hlen : (mineL S (y : Int)).length ≤ 1000 := Nat.le_trans (mine_len _) HSL.out
      have hl6 := lands_mine HS6.out HWF6.out HSL6.out (y : Int)
      rw [HY6.out] at hl6
      have HL6 := Lib.hid hl6
      clear hl6
      go_wp2_with fail
      refine HL6.out.mono ?_
      rintro e w7 ⟨v7, rfl, ho7, hb7⟩
      have HI7 := Lib.hid (ints_same (own_ints ho7) (HK6.out.later hb7).ints hlen)
      have HB7 := Lib.hid hb7
      obtain ⟨ya, yc, rfl⟩ := own_form ho7
      clear ho7 hb7 HL6
      dsimp only
      go_wp2_with fail
      refine HI7.out.mono ?_
      rintro e w8 hd
      obtain ⟨rfl, hb8⟩ := drew_below hd
      have HB8 := Lib.hid (stepB HB7.out hb8)
      have HU9 := Lib.hid (untap_any (HS6.out.later (stepB HB8.out (below_new w8 (.cells #[.int .i64 x] 3)))) HWF6.out HSL6.out (one_int w8 x) (by simp))
      clear hd hb8 HI7 HB7
      dsimp only
      go_wp2_with fail
      refine HU9.out.mono ?_
      rintro e w9 ⟨rfl, G9, hs9, ht9⟩
      have HT9 := Lib.hid ((HT6.out.trans (Turned.of_below (stepB HB8.out (below_new w8 _)))).trans ht9)
      have HK9 := Lib.hid ((HK6.out.later (stepB HB8.out (below_new w8 _))).turn ht9)
      have HS9 := Lib.hid hs9
      have HWF9 := Lib.hid (untapL_wf HWF6.out [(x : Int)])
      have hsl9 : (untapL S6 [(x : Int)]).objs.length ≤ 1000 := by rw [untapL_len]; exact HSL6.out
      have HSL9 := Lib.hid hsl9
      have hh := has_of (lands_mine hs9 HWF9.out hsl9 (x : Int)) (Nat.le_trans (mine_len _) hsl9)
      rw [mine_untap_self, HA6.out, ← HMX.out, HQ.out] at hh
      have HH9 := Lib.hid hh
      have HY9 := Lib.hid ((mine_untap_other S6 HNE.out).trans HY6.out)
      clear hs9 ht9 HU9 hsl9 hh
      dsimp only
      go_wp2_with fail
      refine HH9.out.mono ?_
      rintro e w10 ⟨rfl, hb10⟩
      have hl10 := lands_mine (HS9.out.later hb10) HWF9.out HSL9.out (y : Int)
      rw [HY9.out] at hl10
      have HL10 := Lib.hid hl10
      have HB10 := Lib.hid hb10
      clear hl10 hb10 HH9
      dsimp only
      go_wp2_with fail
      refine HL10.out.mono ?_
      rintro e w11 ⟨v11, rfl, ho11, hb11⟩
      have HI11 := Lib.hid (ints_same (own_ints ho11) (HK9.out.later (stepB HB10.out hb11)).ints hlen)
      have HB11 := Lib.hid (stepB HB10.out hb11)
      obtain ⟨za, zc, rfl⟩ := own_form ho11
      clear ho11 hb11 HL10
      dsimp only
      go_wp2_with fail
      refine HI11.out.mono ?_
      rintro e w12 hd
      obtain ⟨rfl, hb12⟩ := drew_below hd
      have HB12 := Lib.hid (stepB HB11.out hb12)
      clear hd hb12 HI11
      dsimp only
      go_wp2
      go_ret
      exact ⟨ret_bool (by simp), stepB (HT9.out.below HB2.out HFAR.out) HB12.out⟩
end Go.Proofs.Ytkhgdfalbmkgcaa
