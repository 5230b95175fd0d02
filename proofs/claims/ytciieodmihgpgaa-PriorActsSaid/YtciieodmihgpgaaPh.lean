/- The law PriorActs (layer 16), walked. -/
import Derived.Test.YtciieodmihgpgaaPg
import Derived.Test.YtciieodmihgpgaaTo
import Derived.IntWalk
namespace Go.Proofs.Ytciieodmihgpgaa
open Go.RowKit
attribute [local go_sem] Oper.semAt_some

set_option maxRecDepth 100000 in
set_option maxHeartbeats 32000000 in
theorem priorActs_walk {n : Nat} {v : Value} {l : List Int} {w : World} (hn : n < 256) (hv : ValsAt w v (u8sV l)) (hl : l.length ≤ 9223372036854775807) (hw : ∀ x ∈ l, 0 ≤ x ∧ x < 256) :
    Calls Try.prog 5 #[.int .u8 n, v] w (RetV w (.bool true)) := by
  have hvl : (u8sV l).length = l.length := by simp [u8sV]
  obtain ⟨va, vc, rfl⟩ := hv.form
  rw [hvl] at hv ⊢
  have HV := Lib.hid hv
  have HW := Lib.hid hw
  have HSD := Lib.hid (fun (W : World) => sides_any hn W)
  obtain ⟨T, hT⟩ : ∃ T, sidesT n = T := ⟨_, rfl⟩
  have HT3 := Lib.hid (show T ∈ three from by rw [← hT]; exact sides_three n)
  rw [hT] at HSD
  clear hv hw hT
  go_enter Try.func5, Try.ntmps5
  go_wp2_with fail
  refine (awake16_any _).mono ?_
  rintro e w1 ⟨rfl, hb1⟩
  have HB1 := Lib.hid hb1
  clear hb1
  dsimp only
  go_wp2_with fail
  refine (HSD.out w1).mono ?_
  rintro e w2 ⟨lo, b, s, r, rfl, ht, hlo, hb2⟩
  have HT2 := Lib.hid ht
  have HB2 := Lib.hid (stepB HB1.out hb2)
  have HLO := Lib.hid hlo
  clear ht hb2 hlo HSD
  by_cases hlong : l.length ≤ 60
  case neg =>
    have d0 : decide ((60 : Int) < l.length) = true := decide_eq_true (by omega)
    dsimp only
    go_wp2
    go_ret
    exact ⟨rfl, HB2.out⟩
  have d0 : decide ((60 : Int) < l.length) = false := decide_eq_false (by omega)
  dsimp only
  go_wp2_with fail
  refine (newP_any 0 w2).mono ?_
  rintro e w3 ⟨rfl, hp3, hb3⟩
  have HP3 := Lib.hid (PT.mk (HT2.out.later hb3) hp3 ⟨by have := HT2.out.lt; omega, by have := HT2.out.sd.1; omega, by have := HT2.out.ltr; omega⟩)
  have HB3 := Lib.hid (stepB HB2.out hb3)
  have HTL := Lib.hid (show w.heap.size ≤ w2.heap.size from HB2.out.size)
  obtain ⟨t, ht⟩ : ∃ t, w2.heap.size = t := ⟨_, rfl⟩
  rw [ht] at HP3 HTL ⊢
  clear hp3 hb3 ht HT2 HB1 HB2 d0
  dsimp only
  go_wp2
  go_loopw [29] (fun i wr => ∃ (k : Nat) (P : PriL), k ≤ l.length ∧ i = .int .i64 k ∧ Hid (PT wr lo b s r t T P) ∧ Hid (Fit T P ∧ Soon T k P) ∧ Hid (Below w.heap.size w wr)) (fun i _ => l.length - (intOf i).toNat)
  case atStart => exact ⟨0, _, Nat.zero_le _, rfl, HP3, Lib.hid ⟨fit_new (by decide) (by have := ((three_ok T HT3.out).1).2; omega), fun _ => rfl, fun e => by omega⟩, HB3⟩
  case round =>
    obtain ⟨k, P, hk, rfl, HP, HF, HB⟩ := hrel
    by_cases hlt : k < l.length
    · obtain ⟨b1, o1, rfl, hb1, x0⟩ : ∃ b1 o1, va = some ⟨b1, o1, none⟩ ∧ b1 < w.heap.size ∧ w.cell? ⟨b1, o1 + k, none⟩ = some (.int .u8 l[k]) := by
        have hv' := HV.out
        rw [← hvl] at hv'
        obtain ⟨b1, o1, h1, h2, h3⟩ := hv'.at k (by rw [hvl]; exact hlt)
        exact ⟨b1, o1, h1, h2, by rw [h3]; simp [u8sV]⟩
      have x1 := HB.out.cell (p := ⟨b1, o1 + k, none⟩) hb1
      rw [x0] at x1
      have hxr := HW.out l[k] (List.getElem_mem hlt)
      obtain ⟨x, hx⟩ : ∃ x, l[k] = x := ⟨_, rfl⟩
      rw [hx] at x1 hxr
      have e0 : (0 : Int) ≤ k := by omega
      have e1 : (k : Int) < l.length := by omega
      have HTE := Lib.hid (teamP_any HP.out.pr)
      have HIN := Lib.hid (tin_any HP.out.tm P.team)
      have HFO := Lib.hid (fit_ok HT3.out HF.out.1)
      obtain ⟨tm, htm⟩ : ∃ tm, P.team = tm := ⟨_, rfl⟩
      have HTM := Lib.hid htm
      rw [htm] at HTE HIN HFO
      clear hx x0 hb1 htm
      go_wp2_with fail
      refine HTE.out.mono ?_
      rintro e w4 ⟨rfl, rfl⟩
      dsimp only
      go_wp2_with fail
      refine HIN.out.mono ?_
      rintro e w5 ⟨vs, rfl, hr5, hb5⟩
      have hi5 := own_ints hr5
      obtain ⟨va5, vc5, rfl⟩ := hi5.form
      have hfew := seats_few HP.out.tm tm
      obtain ⟨L, hL⟩ : ∃ L, seatsT T tm = L := ⟨_, rfl⟩
      have HSE := Lib.hid (show ∀ y ∈ L, 0 ≤ y ∧ y < 4 from by rw [← hL]; exact seat_in HP.out.tm tm)
      have h1L := HFO.out.1
      rw [hL] at hi5 hfew h1L ⊢
      have HI5 := Lib.hid hi5
      have HP5 := Lib.hid (HP.out.later hb5)
      have HB5 := Lib.hid (stepB HB.out hb5)
      clear hi5 hr5 hb5 hL HTE HIN HP HB x1
      obtain ⟨S, hS⟩ : ∃ S : Nat, L.length = S := ⟨_, rfl⟩
      obtain ⟨j, hj⟩ : ∃ j : Nat, x % (S : Int) = j := ⟨(x % (S : Int)).toNat, by rw [Int.toNat_of_nonneg]; exact Int.emod_nonneg _ (by omega)⟩
      have hjS : j < S := by
        have := Int.emod_lt_of_pos x (b := (S : Int)) (by omega)
        omega
      obtain ⟨b6, o6, rfl, _, y0⟩ := HI5.out.at j (by omega)
      have hyr := HSE.out L[j] (List.getElem_mem (by omega))
      obtain ⟨y, hy⟩ : ∃ y, L[j] = y := ⟨_, rfl⟩
      rw [hy] at y0 hyr
      rw [hS]
      have hSz : (S : Int) ≠ 0 := by omega
      have hj0 : (0 : Int) ≤ j := by omega
      have hj1 : (j : Int) < S := by omega
      have HMA := Lib.hid (may_any HP5.out.tm HP5.out.pr y)
      have HYR := Lib.hid hyr
      clear hy hS h1L hfew HI5 HSE HFO hyr
      cases hm : mayP T P y with
      | false =>
        rw [hm] at HMA
        clear hm
        dsimp only
        go_wp2_with fail
        refine HMA.out.mono ?_
        rintro e w7 ⟨rfl, hb7⟩
        have HP7 := Lib.hid (HP5.out.later hb7)
        have HB7 := Lib.hid (stepB HB5.out hb7)
        clear hb7 HMA HP5 HB5 y0
        dsimp only
        go_wp2
        go_roundw
        case rel => exact ⟨k + 1, P, by omega, by go_num, HP7, Lib.hid ⟨HF.out.1, soon_stay HF.out.2⟩, HB7⟩
        case measure => simp [intOf]; omega
      | true =>
        rw [hm] at HMA
        have HM := Lib.hid hm
        clear hm
        obtain ⟨z, hz⟩ : ∃ z : Bool, ((k : Int) % 3 == 2) = z := ⟨_, rfl⟩
        have HZ := Lib.hid hz
        obtain ⟨m, hm3⟩ : ∃ m : Int, (k : Int) % 3 = m := ⟨_, rfl⟩
        rw [hm3] at hz
        dsimp only
        go_wp2_with fail
        refine HMA.out.mono ?_
        rintro e w7 ⟨rfl, hb7⟩
        have HP7 := Lib.hid (HP5.out.later hb7)
        have HB7 := Lib.hid (stepB HB5.out hb7)
        clear hb7 HMA HP5 HB5 y0
        dsimp only
        cases z with
        | true =>
          have HAC := Lib.hid (act_any HP7.out.tm HP7.out.pr y)
          rw [HM.out, if_pos rfl, if_pos rfl, HTM.out] at HAC
          have HK2 := Lib.hid (show 2 ≤ k from by have := beq_iff_eq.1 HZ.out; omega)
          go_wp2_with fail
          refine HAC.out.mono ?_
          rintro e w8 ⟨rfl, hp8, hg8⟩
          have HP8 := Lib.hid (HP7.out.ret hp8 hg8)
          have HB8 := Lib.hid (grown_to HB7.out hg8 HTL.out)
          have HPS := Lib.hid (passed_any hp8)
          clear hp8 hg8 HAC HP7 HB7
          dsimp only
          go_wp2_with fail
          refine HPS.out.mono ?_
          rintro e w9 ⟨vs, rfl, hr9, hb9⟩
          have hi9 := own_ints hr9
          obtain ⟨va9, vc9, rfl⟩ := hi9.form
          rw [show (passedL no4).length = 0 from rfl] at hi9 ⊢
          have HP9 := Lib.hid (HP8.out.later hb9)
          have HB9 := Lib.hid (stepB HB8.out hb9)
          clear hi9 hr9 hb9 HPS HP8 HB8
          dsimp only
          go_wp2
          go_roundw
          case rel => exact ⟨k + 1, _, by omega, by go_num, HP9, Lib.hid ⟨fit_new (by have := HF.out.1.1; rw [HTM.out] at this; exact this.1) (by have := HF.out.1.1; rw [HTM.out] at this; exact this.2), soon_late (by have := HK2.out; omega)⟩, HB9⟩
          case measure => simp [intOf]; omega
        | false =>
          have HPA := Lib.hid (pass_yes HP7.out HM.out HF.out.1.2.1 (Int.le_trans HF.out.1.2.2 (by decide)))
          have HSO := Lib.hid (soon_pass HT3.out HF.out.2 HYR.out.1 HYR.out.2 HM.out (by have := beq_eq_false_iff_ne.1 HZ.out; omega))
          have HFI := Lib.hid (fit_pass HT3.out HF.out.1 y)
          obtain ⟨Q, hQ⟩ : ∃ Q, passP T P y = Q := ⟨_, rfl⟩
          rw [hQ] at HPA HSO HFI
          obtain ⟨Q, nn⟩ := Q
          dsimp only at HPA HSO HFI
          clear hQ
          go_wp2_with fail
          refine HPA.out.mono ?_
          rintro e w8 ⟨rfl, hp8, hg8⟩
          have HP8 := Lib.hid (HP7.out.ret hp8 hg8)
          have HB8 := Lib.hid (grown_to HB7.out hg8 HTL.out)
          clear hp8 hg8 HPA HP7 HB7
          dsimp only
          by_cases hnn : nn = 2
          · have c1 : (nn == 2) = true := beq_iff_eq.2 hnn
            have c2 : decide ((k : Int) < 3) = false := decide_eq_false (by have := HSO.out.2 hnn; omega)
            clear hnn
            go_wp2
            go_roundw
            case rel => exact ⟨k + 1, Q, by omega, by go_num, HP8, Lib.hid ⟨HFI.out, HSO.out.1⟩, HB8⟩
            case measure => simp [intOf]; omega
          · have c1 : (nn == 2) = false := beq_eq_false_iff_ne.2 hnn
            clear hnn
            go_wp2
            go_roundw
            case rel => exact ⟨k + 1, Q, by omega, by go_num, HP8, Lib.hid ⟨HFI.out, HSO.out.1⟩, HB8⟩
            case measure => simp [intOf]; omega
    · obtain rfl : k = l.length := by omega
      go_wp2
      go_ret
      exact ⟨rfl, HB.out⟩
end Go.Proofs.Ytciieodmihgpgaa
