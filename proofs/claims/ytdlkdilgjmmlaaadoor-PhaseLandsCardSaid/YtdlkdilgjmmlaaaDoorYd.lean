/- The law PhaseLands, walked. -/
import Derived.Test.YtdlkdilgjmmlaaaDoorYc
namespace Go.Proofs.YtdlkdilgjmmlaaaDoor
open Go.RowKit
attribute [local go_sem] Oper.semAt_some

set_option maxRecDepth 100000 in
set_option maxHeartbeats 40000000 in
theorem phaseLands_walk {w : World} {v : Value} {l : List Int} (hnm : NamesAt w) (hv : IntsAt w v l) (hwf : ∀ x ∈ l, (Lit.int .i64 x).wf = true) (hlen : l.length ≤ 9223372036854775807) (ph : Int) :
    Calls Tryd.prog 3 #[v, .int .i64 ph] w (RetV w (.bool true)) := by
  have HAW := Lib.hid (fun (w' : World) => awake15_any w')
  have HBO := Lib.hid (fun (w' : World) => board0_any w' 0 (by decide))
  have HNT := Lib.hid (fun (w' : World) => newTurn_any 0 w')
  have hmm := @run_makeMap Tryd.prog
  obtain ⟨xa, xc, rfl⟩ := hv.form
  have HV := Lib.hid hv
  have HWF := Lib.hid hwf
  have HNM := Lib.hid hnm
  clear hv hwf hnm
  go_enter Tryd.func3, Tryd.ntmps3
  go_wp2_with fail
  refine (HAW.out _).mono ?_
  rintro e w1 ⟨rfl, hb1⟩
  have HB1 := Lib.hid hb1
  clear hb1 HAW
  dsimp only
  go_wp2_with fail
  refine (HBO.out _).mono ?_
  rintro e w2 ⟨lo, g, rfl, hbd, hlo, hb2⟩
  obtain ⟨T, hT⟩ : ∃ T, sidesT 0 = T := ⟨_, rfl⟩
  rw [hT] at hbd
  have HBD := Lib.hid hbd
  have HLO := Lib.hid (show ∀ k, g.own k → w.heap.size ≤ k from fun k hk => Nat.le_trans HB1.out.size (Nat.le_trans hlo (hbd.ownLo hk)))
  have HB2 := Lib.hid (stepB HB1.out hb2)
  obtain ⟨q, hq⟩ : ∃ q, g.q = q := ⟨_, rfl⟩
  have HQ := Lib.hid hq
  rw [hq]
  clear hbd hlo hb2 hq HBO hT
  dsimp only
  by_cases h60 : l.length ≤ 60
  case neg =>
    have e60 : decide ((60 : Int) < l.length) = true := decide_eq_true (by omega)
    go_wp2
    go_ret
    exact ⟨rfl, HB2.out⟩
  have e60 : decide ((60 : Int) < l.length) = false := decide_eq_false (by omega)
  go_wp2_with fail
  refine (HNT.out w2).mono ?_
  rintro e V ⟨rfl, ht, hb4⟩
  have hj := phj_new HBD.out ht hb4
  rw [HQ.out] at hj
  have HBV := Lib.hid (stepB HB2.out hb4)
  have HLV := Lib.hid (show ∀ k, own3 g w2.heap.size k → w.heap.size ≤ k from fun k hk => by
    rcases hk with hk | rfl
    · exact HLO.out k hk
    · exact HB2.out.size)
  have HTV := Lib.hid (show w2.heap.size < V.heap.size from ht.lt)
  have HJ0 := Lib.hid (hj.row (.map #[] 0))
  have HM0 := Lib.hid (laid_made V)
  obtain ⟨t, ht9⟩ : ∃ t, w2.heap.size = t := ⟨_, rfl⟩
  rw [ht9] at HJ0 HLV HTV ⊢
  obtain ⟨mb, hmb⟩ : ∃ mb, V.heap.size = mb := ⟨_, rfl⟩
  have HMB := Lib.hid hmb
  clear hj ht hb4 ht9 HBD HNT
  dsimp only
  go_upto_region 8 with fail
  try rw [hmb]
  rw [hmb] at HJ0 HM0
  clear hmb
  go_wp2
  go_loopw [33, 7] (fun i mv wr => ∃ (k mb : Nat) (f : Int → Bool) (y : TurnL), k ≤ l.length ∧ i = .int .i64 k ∧ mv = .map (some mb) ∧ Hid (PhJ V wr lo g q t T y (fun i => i = mb)) ∧ Hid (LaidMap wr mb k f) ∧ Hid (V.heap.size ≤ mb ∧ y.phase = 1 ∧ 1 ≤ y.no ∧ y.no ≤ 1 + (k : Int) ∧ ∀ s, f s = y.laid.get s)) (fun i _ _ => l.length - (intOf i).toNat)
  case atStart => exact ⟨0, mb, _, _, Nat.zero_le _, rfl, rfl, HJ0, HM0, Lib.hid ⟨Nat.le_of_eq HMB.out, rfl, by decide, by decide, fun s => (dry0_getD s).symm⟩⟩
  case round =>
    clear HJ0 HM0 HMB
    obtain ⟨k, mb, f, y, hk, rfl, rfl, HJ, HM, HY⟩ := hrel
    by_cases hlt : k < l.length
    · have e0 : decide ((k : Int) < l.length) = true := decide_eq_true (by omega)
      have hw1 : IntKind.i64.wrap ((k : Int) + 1) = (k : Int) + 1 := wrap4 (by omega) (by omega)
      obtain ⟨b, off, hr, _, c0⟩ := (HV.out.later (HJ.out.below HBV.out HLV.out)).at k hlt
      have hwx := HWF.out l[k] (List.getElem_mem hlt)
      obtain ⟨x, hx⟩ : ∃ x, l[k] = x := ⟨_, rfl⟩
      rw [hx] at c0 hwx
      have k1 : (0 : Int) ≤ k := by omega
      have k2 : (k : Int) < l.length := by omega
      subst hr
      clear hx
      by_cases h9 : x = 9
      · have e9 : (x == 9) = true := beq_iff_eq.2 h9
        clear h9
        have hz0 : atZ T y 0 = y := by
          obtain ⟨tm, no, p, la⟩ := y
          have hp : p = 1 := HY.out.2.1
          subst hp
          rfl
        have HJZ := Lib.hid (show PhJ V wr lo g q t T (atZ T y 0) (fun i => i = mb) from by rw [hz0]; exact HJ.out)
        obtain ⟨wA, rfl⟩ : ∃ wA, wA = wr := ⟨_, rfl⟩
        clear hz0
        go_wp2
        go_loopw [10] (fun i wi => ∃ (j : Nat), j ≤ 8 ∧ i = .int .i64 j ∧ Hid (PhJ V wi lo g q t T (atZ T y j) (fun i => i = mb))) (fun i _ => 8 - (intOf i).toNat)
        case atStart => exact ⟨0, by omega, rfl, HJZ⟩
        case round =>
          clear HJZ HJ HM
          obtain ⟨j, hj, rfl, HJ⟩ := hrel
          by_cases hlj : j < 8
          · have e2 : decide ((j : Int) < 8) = true := decide_eq_true (by omega)
            have hwj : IntKind.i64.wrap ((j : Int) + 1) = (j : Int) + 1 := wrap4 (by omega) (by omega)
            have hy := atZ_ok (T := T) (y := y) hlj
            have hc := HJ.out.next hy.1 hy.2.1 (by rw [hy.2.2]; have := HY.out.2.2.1; omega) (by rw [hy.2.2]; have := HY.out.2.2.2.1; omega)
            rw [atZ_next hlj] at hc
            have HC := Lib.hid hc
            clear hc hy
            go_wp2_with fail
            refine HC.out.mono ?_
            rintro e w8 ⟨rfl, hj8, _⟩
            have HJ8 := Lib.hid hj8
            clear hj8 HC HJ
            dsimp only
            go_wp2
            go_roundw
            case rel => exact ⟨j + 1, by omega, by go_num, HJ8⟩
            case measure => simp [intOf]; omega
          · obtain rfl : j = 8 := by omega
            have HJ9 := Lib.hid (HJ.out.row (.map #[] 0))
            have HM9 := Lib.hid ((laid_made wr).mono (Nat.zero_le (k + 1)))
            have HVS := Lib.hid (show V.heap.size ≤ wr.heap.size from by obtain ⟨_, _, _, _, h3, _⟩ := HJ.out; exact h3.size)
            go_wp2
            go_roundw
            case rel => exact ⟨k + 1, wr.heap.size, _, _, by omega, by go_num, by first | rfl | simp, HJ9, HM9, Lib.hid ⟨HVS.out, rfl, by show 1 ≤ y.no + 1; have := HY.out.2.2.1; omega, by show y.no + 1 ≤ 1 + ((k + 1 : Nat) : Int); have := HY.out.2.2.2.1; omega, fun s => (dry0_getD s).symm⟩⟩
            case measure => simp [intOf]; omega
      · have e9 : (x == 9) = false := beq_eq_false_iff_ne.2 h9
        clear h9
        by_cases hx4 : 0 ≤ x ∧ x < 4
        · have d0 : decide (x < 0) = false := decide_eq_false (by omega)
          have d3 : decide ((3 : Int) < x) = false := decide_eq_false (by omega)
          cases hlx : y.laid.get x with
          | true =>
            have HLY := Lib.hid (lay_again HJ.out.turn hlx)
            have hlk := HM.out.look hwx
            rw [HY.out.2.2.2.2 x, hlx] at hlk
            clear hlx
            go_wp2_with fail
            refine HLY.out.mono ?_
            rintro e w5 ⟨rfl, e5⟩
            rw [e5]
            clear e5 w5
            have HJY := HJ
            have HMY := Lib.hid (HM.out.mono (Nat.le_succ k))
            have HPY := Lib.hid (show y.phase = 1 ∧ 1 ≤ y.no ∧ y.no ≤ 1 + ((k + 1 : Nat) : Int) from ⟨HY.out.2.1, HY.out.2.2.1, by have := HY.out.2.2.2.1; omega⟩)
            have HFY := Lib.hid HY.out.2.2.2.2
            dsimp only
            obtain ⟨wA, rfl⟩ : ∃ wA, wA = wr := ⟨_, rfl⟩
            go_wp2
            go_loopw [12] (fun i wi => ∃ j : Nat, j ≤ 6 ∧ i = .int .i64 ((j : Int) - 1) ∧ Hid (Below wA.heap.size wA wi)) (fun i _ => 6 - (intOf i + 1).toNat)
            case atStart => exact ⟨0, by omega, rfl, Lib.hid (Below.refl _ _)⟩
            case round =>
              obtain ⟨j, hj, rfl, HBE⟩ := hrel
              by_cases hlj : j < 6
              · obtain ⟨s, hs⟩ : ∃ s, (j : Int) - 1 = s := ⟨_, rfl⟩
                have e2 : decide (s < 5) = true := decide_eq_true (by omega)
                have hws : IntKind.i64.wrap (s + 1) = s + 1 := by
                  by_cases h0 : 0 ≤ s + 1
                  · exact wrap4 h0 (by omega)
                  · omega
                have hwfs : (Lit.int .i64 s).wf = true := by simp [Lit.wf, IntKind.min, IntKind.max, IntKind.signed, IntKind.bits]; omega
                obtain ⟨bb, hbb⟩ : ∃ bb, y.laid.get s = bb := ⟨_, rfl⟩
                have HLD := Lib.hid (fun nd => by have h1 := laid_any (HJY.out.turn.later (HBE.out.trans ((below_drewN (Below.refl _ wr) nd).mono HBE.out.size))) s; rw [hbb] at h1; exact h1)
                have hlk := fun nd => (HMY.out.later (HBE.out.trans ((below_drewN (Below.refl _ wr) nd).mono HBE.out.size))).look hwfs
                rw [HFY.out s, hbb] at hlk
                rw [hs]
                clear hbb
                go_upto_region 30 with fail
                go_quiet ((go_at_call 9; exact Calls.quiet_of_same ((HLD.out _).mono fun _ _ ⟨he, hw⟩ => ⟨he, hw⟩)))
                have HB3 := Lib.hid (fun nd => HBE.out.trans ((below_drewN (Below.refl _ wr) nd).mono HBE.out.size))
                go_wp2
                go_roundw
                case rel => exact ⟨j + 1, by omega, by rw [← hs]; go_num, Lib.hid (HB3.out _)⟩
                case measure => simp [intOf]; omega
              · obtain rfl : j = 6 := by omega
                have HJ9 := Lib.hid (HJY.out.later HBE.out)
                have HM9 := Lib.hid (HMY.out.later HBE.out)
                go_wp2
                go_roundw
                case rel => exact ⟨k + 1, mb, _, _, by omega, by go_num, rfl, HJ9, HM9, Lib.hid ⟨HY.out.1, HPY.out.1, HPY.out.2.1, HPY.out.2.2, HFY.out⟩⟩
                case measure => simp [intOf]; omega
          | false =>
            obtain ⟨s0, rfl⟩ : ∃ s0 : Nat, x = s0 := ⟨x.toNat, by omega⟩
            have hs4 : s0 < 4 := by omega
            have HLY := Lib.hid (lay_new HJ.out.turn hs4 hlx)
            have hlk0 := HM.out.look hwx
            rw [HY.out.2.2.2.2 (s0 : Int), hlx] at hlk0
            have HJL := Lib.hid (HJ.out.lay hs4)
            have hmt : mb ≠ t := by
              have h1 := HY.out.1
              have h2 := HTV.out
              omega
            have hml := HM.out.of (heap_setCell_other wr ⟨t, 3 + s0, none⟩ mb (.bool true) hmt)
            have hlk := hml.look hwx
            rw [HY.out.2.2.2.2 (s0 : Int), hlx] at hlk
            obtain ⟨w9, hrun, hlm, hgr⟩ := hml.put (Nat.lt_of_le_of_lt (show k ≤ 60 by omega) (by decide)) hwx
            have HJY := Lib.hid (HJL.out.map HY.out.1 hgr)
            have HMY := Lib.hid hlm
            have HPY := Lib.hid (show y.phase = 1 ∧ 1 ≤ y.no ∧ y.no ≤ 1 + ((k + 1 : Nat) : Int) from ⟨HY.out.2.1, HY.out.2.2.1, by have := HY.out.2.2.2.1; omega⟩)
            have HFY := Lib.hid (show ∀ s, (fun z => if z = (s0 : Int) then true else f z) s = (y.laid.put (s0 : Int)).get s from fun s => by rw [put_getD _ hs4]; show (if s = (s0 : Int) then true else f s) = _; rw [HY.out.2.2.2.2 s])
            clear hlk0 hlx hml hlm hgr hmt
            go_wp2_with fail
            refine HLY.out.mono ?_
            rintro e w5 ⟨rfl, e5⟩
            rw [e5]
            clear e5 w5
            dsimp only
            obtain ⟨wA, rfl⟩ : ∃ wA, wA = w9 := ⟨_, rfl⟩
            go_wp2
            go_loopw [12] (fun i wi => ∃ j : Nat, j ≤ 6 ∧ i = .int .i64 ((j : Int) - 1) ∧ Hid (Below wA.heap.size wA wi)) (fun i _ => 6 - (intOf i + 1).toNat)
            case atStart => exact ⟨0, by omega, rfl, Lib.hid (Below.refl _ _)⟩
            case round =>
              obtain ⟨j, hj, rfl, HBE⟩ := hrel
              by_cases hlj : j < 6
              · obtain ⟨s, hs⟩ : ∃ s, (j : Int) - 1 = s := ⟨_, rfl⟩
                have e2 : decide (s < 5) = true := decide_eq_true (by omega)
                have hws : IntKind.i64.wrap (s + 1) = s + 1 := by
                  by_cases h0 : 0 ≤ s + 1
                  · exact wrap4 h0 (by omega)
                  · omega
                have hwfs : (Lit.int .i64 s).wf = true := by simp [Lit.wf, IntKind.min, IntKind.max, IntKind.signed, IntKind.bits]; omega
                obtain ⟨bb, hbb⟩ : ∃ bb, ({ y with laid := y.laid.put (s0 : Int) } : TurnL).laid.get s = bb := ⟨_, rfl⟩
                have HLD := Lib.hid (fun nd => by have h1 := laid_any (HJY.out.turn.later (HBE.out.trans ((below_drewN (Below.refl _ wr) nd).mono HBE.out.size))) s; rw [hbb] at h1; exact h1)
                have hlk := fun nd => (HMY.out.later (HBE.out.trans ((below_drewN (Below.refl _ wr) nd).mono HBE.out.size))).look hwfs
                rw [HFY.out s, hbb] at hlk
                rw [hs]
                clear hbb
                go_upto_region 30 with fail
                go_quiet ((go_at_call 9; exact Calls.quiet_of_same ((HLD.out _).mono fun _ _ ⟨he, hw⟩ => ⟨he, hw⟩)))
                have HB3 := Lib.hid (fun nd => HBE.out.trans ((below_drewN (Below.refl _ wr) nd).mono HBE.out.size))
                go_wp2
                go_roundw
                case rel => exact ⟨j + 1, by omega, by rw [← hs]; go_num, Lib.hid (HB3.out _)⟩
                case measure => simp [intOf]; omega
              · obtain rfl : j = 6 := by omega
                have HJ9 := Lib.hid (HJY.out.later HBE.out)
                have HM9 := Lib.hid (HMY.out.later HBE.out)
                go_wp2
                go_roundw
                case rel => exact ⟨k + 1, mb, _, _, by omega, by go_num, rfl, HJ9, HM9, Lib.hid ⟨HY.out.1, HPY.out.1, HPY.out.2.1, HPY.out.2.2, HFY.out⟩⟩
                case measure => simp [intOf]; omega
        · have HLY := Lib.hid (lay_out HJ.out.turn hx4)
          have HJY := HJ
          have HMY := Lib.hid (HM.out.mono (Nat.le_succ k))
          have HPY := Lib.hid (show y.phase = 1 ∧ 1 ≤ y.no ∧ y.no ≤ 1 + ((k + 1 : Nat) : Int) from ⟨HY.out.2.1, HY.out.2.2.1, by have := HY.out.2.2.2.1; omega⟩)
          have HFY := Lib.hid HY.out.2.2.2.2
          by_cases hx0 : x < 0
          · have d0 : decide (x < 0) = true := decide_eq_true hx0
            clear hx0 hx4
            go_wp2_with fail
            refine HLY.out.mono ?_
            rintro e w5 ⟨rfl, e5⟩
            rw [e5]
            clear e5 w5
            dsimp only
            obtain ⟨wA, rfl⟩ : ∃ wA, wA = wr := ⟨_, rfl⟩
            go_wp2
            go_loopw [12] (fun i wi => ∃ j : Nat, j ≤ 6 ∧ i = .int .i64 ((j : Int) - 1) ∧ Hid (Below wA.heap.size wA wi)) (fun i _ => 6 - (intOf i + 1).toNat)
            case atStart => exact ⟨0, by omega, rfl, Lib.hid (Below.refl _ _)⟩
            case round =>
              obtain ⟨j, hj, rfl, HBE⟩ := hrel
              by_cases hlj : j < 6
              · obtain ⟨s, hs⟩ : ∃ s, (j : Int) - 1 = s := ⟨_, rfl⟩
                have e2 : decide (s < 5) = true := decide_eq_true (by omega)
                have hws : IntKind.i64.wrap (s + 1) = s + 1 := by
                  by_cases h0 : 0 ≤ s + 1
                  · exact wrap4 h0 (by omega)
                  · omega
                have hwfs : (Lit.int .i64 s).wf = true := by simp [Lit.wf, IntKind.min, IntKind.max, IntKind.signed, IntKind.bits]; omega
                obtain ⟨bb, hbb⟩ : ∃ bb, y.laid.get s = bb := ⟨_, rfl⟩
                have HLD := Lib.hid (fun nd => by have h1 := laid_any (HJY.out.turn.later (HBE.out.trans ((below_drewN (Below.refl _ wr) nd).mono HBE.out.size))) s; rw [hbb] at h1; exact h1)
                have hlk := fun nd => (HMY.out.later (HBE.out.trans ((below_drewN (Below.refl _ wr) nd).mono HBE.out.size))).look hwfs
                rw [HFY.out s, hbb] at hlk
                rw [hs]
                clear hbb
                go_upto_region 30 with fail
                go_quiet ((go_at_call 9; exact Calls.quiet_of_same ((HLD.out _).mono fun _ _ ⟨he, hw⟩ => ⟨he, hw⟩)))
                have HB3 := Lib.hid (fun nd => HBE.out.trans ((below_drewN (Below.refl _ wr) nd).mono HBE.out.size))
                go_wp2
                go_roundw
                case rel => exact ⟨j + 1, by omega, by rw [← hs]; go_num, Lib.hid (HB3.out _)⟩
                case measure => simp [intOf]; omega
              · obtain rfl : j = 6 := by omega
                have HJ9 := Lib.hid (HJY.out.later HBE.out)
                have HM9 := Lib.hid (HMY.out.later HBE.out)
                go_wp2
                go_roundw
                case rel => exact ⟨k + 1, mb, _, _, by omega, by go_num, rfl, HJ9, HM9, Lib.hid ⟨HY.out.1, HPY.out.1, HPY.out.2.1, HPY.out.2.2, HFY.out⟩⟩
                case measure => simp [intOf]; omega
          · have d0 : decide (x < 0) = false := decide_eq_false hx0
            have d3 : decide ((3 : Int) < x) = true := decide_eq_true (by omega)
            clear hx0 hx4
            go_wp2_with fail
            refine HLY.out.mono ?_
            rintro e w5 ⟨rfl, e5⟩
            rw [e5]
            clear e5 w5
            dsimp only
            obtain ⟨wA, rfl⟩ : ∃ wA, wA = wr := ⟨_, rfl⟩
            go_wp2
            go_loopw [12] (fun i wi => ∃ j : Nat, j ≤ 6 ∧ i = .int .i64 ((j : Int) - 1) ∧ Hid (Below wA.heap.size wA wi)) (fun i _ => 6 - (intOf i + 1).toNat)
            case atStart => exact ⟨0, by omega, rfl, Lib.hid (Below.refl _ _)⟩
            case round =>
              obtain ⟨j, hj, rfl, HBE⟩ := hrel
              by_cases hlj : j < 6
              · obtain ⟨s, hs⟩ : ∃ s, (j : Int) - 1 = s := ⟨_, rfl⟩
                have e2 : decide (s < 5) = true := decide_eq_true (by omega)
                have hws : IntKind.i64.wrap (s + 1) = s + 1 := by
                  by_cases h0 : 0 ≤ s + 1
                  · exact wrap4 h0 (by omega)
                  · omega
                have hwfs : (Lit.int .i64 s).wf = true := by simp [Lit.wf, IntKind.min, IntKind.max, IntKind.signed, IntKind.bits]; omega
                obtain ⟨bb, hbb⟩ : ∃ bb, y.laid.get s = bb := ⟨_, rfl⟩
                have HLD := Lib.hid (fun nd => by have h1 := laid_any (HJY.out.turn.later (HBE.out.trans ((below_drewN (Below.refl _ wr) nd).mono HBE.out.size))) s; rw [hbb] at h1; exact h1)
                have hlk := fun nd => (HMY.out.later (HBE.out.trans ((below_drewN (Below.refl _ wr) nd).mono HBE.out.size))).look hwfs
                rw [HFY.out s, hbb] at hlk
                rw [hs]
                clear hbb
                go_upto_region 30 with fail
                go_quiet ((go_at_call 9; exact Calls.quiet_of_same ((HLD.out _).mono fun _ _ ⟨he, hw⟩ => ⟨he, hw⟩)))
                have HB3 := Lib.hid (fun nd => HBE.out.trans ((below_drewN (Below.refl _ wr) nd).mono HBE.out.size))
                go_wp2
                go_roundw
                case rel => exact ⟨j + 1, by omega, by rw [← hs]; go_num, Lib.hid (HB3.out _)⟩
                case measure => simp [intOf]; omega
              · obtain rfl : j = 6 := by omega
                have HJ9 := Lib.hid (HJY.out.later HBE.out)
                have HM9 := Lib.hid (HMY.out.later HBE.out)
                go_wp2
                go_roundw
                case rel => exact ⟨k + 1, mb, _, _, by omega, by go_num, rfl, HJ9, HM9, Lib.hid ⟨HY.out.1, HPY.out.1, HPY.out.2.1, HPY.out.2.2, HFY.out⟩⟩
                case measure => simp [intOf]; omega
    · obtain rfl : k = l.length := by omega
      have e0 : decide ((l.length : Int) < l.length) = false := decide_eq_false (by omega)
      obtain ⟨wA, rfl⟩ : ∃ wA, wA = wr := ⟨_, rfl⟩
      have HNB := Lib.hid (HJ.out.below HBV.out HLV.out)
      have hjt := HJ.out
      obtain ⟨g1, D1, hp, hq1, htv, _⟩ := hjt
      have HP := Lib.hid hp
      have HQ1 := Lib.hid hq1
      have HO1 := Lib.hid (show ∀ k, g1.own k → w.heap.size ≤ k from fun k hk => by
        by_cases h2 : k < V.heap.size
        · exact HLV.out k (htv.own k h2 (.inl hk))
        · have := HBV.out.size; omega)
      have HCP := Lib.hid (copyTurn_any hp.tu)
      have hne : y.phase = 1 := HY.out.2.1
      have HPH := Lib.hid hne
      clear hp hq1 htv hne HM HJ
      go_wp2_with fail
      refine HCP.out.mono ?_
      rintro e w5 ⟨rfl, hc5, hb5⟩
      have HC5 := Lib.hid hc5
      have HB5 := Lib.hid hb5
      have HS5 := Lib.hid (sameTurn_any hc5 (HP.out.tu.later hb5))
      have HTC := Lib.hid (show t < wA.heap.size from HP.out.tu.lt)
      have HGC := Lib.hid (show ¬g1.own wA.heap.size from fun e => Nat.lt_irrefl _ (HP.out.bd.ownLt e))
      have HWC := Lib.hid HNB.out.size
      obtain ⟨c, hc⟩ : ∃ c, wA.heap.size = c := ⟨_, rfl⟩
      rw [hc] at HC5 HS5 HTC HGC HWC ⊢
      clear hc5 hb5 HCP hc
      dsimp only
      go_wp2_with fail
      refine HS5.out.mono ?_
      rintro e w6 ⟨rfl, hb6⟩
      have hb56 := stepB HB5.out hb6
      have hnx := next_bare (PhAt.mk (HP.out.bd.later hb56) (HC5.out.later hb6) HGC.out) (by rw [HPH.out]; decide) (by rw [HPH.out]; decide) (by have := HY.out.2.2.1; omega) (by have := HY.out.2.2.2.1; omega)
      rw [HQ1.out, show nextY T y = { y with phase := 2 } from by unfold nextY; rw [if_pos (by rw [HPH.out]; decide), HPH.out]; rfl] at hnx
      have HNX := Lib.hid hnx
      have HT6 := Lib.hid (HP.out.tu.later hb56)
      have HB6 := Lib.hid (stepB HNB.out hb56)
      clear hnx hb6 hb56 HS5 HC5 HB5
      dsimp only
      go_wp2_with fail
      refine HNX.out.mono ?_
      rintro e w7 ⟨rfl, g2, D2, hp2, hq2, htu⟩
      have HT7 := Lib.hid (HT6.out.of (htu.block t HT6.out.lt (fun e => by
        rcases e with e | e
        · exact HP.out.nt e
        · have := HTC.out; omega)))
      have HC7 := Lib.hid hp2.tu
      have HB7 := Lib.hid (htu.below HB6.out (fun k hk => by
        rcases hk with hk | rfl
        · exact HO1.out k hk
        · exact HWC.out))
      clear hp2 hq2 htu HNX HT6 HB6
      dsimp only
      have hb8 := below_new w7 (.cells #[.string ⟨#[]⟩, .string ⟨#[87, 97, 107, 101]⟩, .string ⟨#[68, 114, 97, 119]⟩, .string ⟨#[70, 105, 114, 115, 116]⟩, .string ⟨#[83, 116, 114, 105, 107, 101]⟩, .string ⟨#[83, 104, 105, 101, 108, 100]⟩, .string ⟨#[66, 108, 111, 119]⟩, .string ⟨#[83, 101, 99, 111, 110, 100]⟩, .string ⟨#[69, 110, 100]⟩] 9)
      have hr8 := heap_alloc_new w7 (.cells #[.string ⟨#[]⟩, .string ⟨#[87, 97, 107, 101]⟩, .string ⟨#[68, 114, 97, 119]⟩, .string ⟨#[70, 105, 114, 115, 116]⟩, .string ⟨#[83, 116, 114, 105, 107, 101]⟩, .string ⟨#[83, 104, 105, 101, 108, 100]⟩, .string ⟨#[66, 108, 111, 119]⟩, .string ⟨#[83, 101, 99, 111, 110, 100]⟩, .string ⟨#[69, 110, 100]⟩] 9)
      go_upto_region 39 with fail
      obtain ⟨w8, hw8⟩ : ∃ w8, w7.alloc (.cells #[.string ⟨#[]⟩, .string ⟨#[87, 97, 107, 101]⟩, .string ⟨#[68, 114, 97, 119]⟩, .string ⟨#[70, 105, 114, 115, 116]⟩, .string ⟨#[83, 116, 114, 105, 107, 101]⟩, .string ⟨#[83, 104, 105, 101, 108, 100]⟩, .string ⟨#[66, 108, 111, 119]⟩, .string ⟨#[83, 101, 99, 111, 110, 100]⟩, .string ⟨#[69, 110, 100]⟩] 9) = w8 := ⟨_, rfl⟩
      rw [hw8] at hb8 hr8
      try rw [hw8]
      have HT8 := Lib.hid (HT7.out.later hb8)
      have HC8 := Lib.hid (HC7.out.later hb8)
      have HB8 := Lib.hid (stepB HB7.out hb8)
      have HR8 := Lib.hid hr8
      have HN8 := Lib.hid (HNM.out.later HB8.out)
      clear hb8 hr8 hw8 HT7 HC7 HB7
      obtain ⟨nb, hnb⟩ : ∃ nb, nameB ph = nb := ⟨_, rfl⟩
      have HNBB := Lib.hid hnb
      by_cases hin : 0 ≤ ph ∧ ph < 9
      · obtain ⟨j, rfl⟩ : ∃ j : Nat, ph = j := ⟨ph.toNat, by omega⟩
        have hj9 : j < 9 := by omega
        have cj : w8.cell? ⟨w7.heap.size, j, none⟩ = some (.string nb) := by
          rw [← hnb]
          have h9 : j = 0 ∨ j = 1 ∨ j = 2 ∨ j = 3 ∨ j = 4 ∨ j = 5 ∨ j = 6 ∨ j = 7 ∨ j = 8 := by omega
          rcases h9 with rfl | rfl | rfl | rfl | rfl | rfl | rfl | rfl | rfl <;> exact cell_of_row w8 w7.heap.size _ _ _ (0, 0) HR8.out
        have d1 : decide ((0 : Int) ≤ (j : Int)) = true := decide_eq_true (by omega)
        have d2 : decide ((j : Int) < 9) = true := decide_eq_true (by omega)
        have k1 : (0 : Int) ≤ j := by omega
        have k2 : (j : Int) < 9 := by omega
        clear hnb hin
        have HNA := Lib.hid (fun (w' : World) (hb : Below w8.heap.size w8 w') => by have h1 := name_any (HN8.out.later hb) (j : Int); rw [HNBB.out] at h1; exact h1)
        have HSM := Lib.hid (unlikeTurn_any (p := 2) (by rw [HPH.out]; decide) HC8.out HT8.out)
        go_wp2_with fail
        refine (next_nil _ _).mono ?_
        rintro e w9 ⟨rfl, e9⟩
        rw [e9]
        clear e9 w9
        dsimp only
        go_wp2_with fail
        refine (begin_nil _ _).mono ?_
        rintro e w9 ⟨rfl, e9⟩
        rw [e9]
        clear e9 w9
        dsimp only
        go_wp2_with fail
        refine HSM.out.mono ?_
        rintro e w9 ⟨rfl, hb9⟩
        have HB9 := Lib.hid (stepB HB8.out hb9)
        dsimp only
        go_wp2_with fail
        refine (HNA.out w9 hb9).mono ?_
        rintro e w10 ⟨rfl, e10⟩
        rw [e10]
        clear e10 w10
        dsimp only
        go_wp2_with fail
        refine (main_nil _).mono ?_
        rintro e w10 ⟨rfl, e10⟩
        rw [e10]
        clear e10 w10
        dsimp only
        go_wp2_with fail
        refine (may_nil _ _ _).mono ?_
        rintro e w10 ⟨rfl, e10⟩
        rw [e10]
        clear e10 w10
        dsimp only
        go_wp2_with fail
        refine (laid_nil _ _).mono ?_
        rintro e w10 ⟨rfl, e10⟩
        rw [e10]
        clear e10 w10
        dsimp only
        go_wp2_with fail
        refine (lay_nil _ _).mono ?_
        rintro e w10 ⟨rfl, e10⟩
        rw [e10]
        clear e10 w10
        dsimp only
        go_wp2_with fail
        refine (copy_nilT _).mono ?_
        rintro e w10 ⟨rfl, e10⟩
        rw [e10]
        clear e10 w10
        dsimp only
        go_wp2_with fail
        refine (same_nilT _).mono ?_
        rintro e w10 ⟨rfl, e10⟩
        rw [e10]
        clear e10 w10
        dsimp only
        go_wp2_with fail
        refine (same_noneT _ _).mono ?_
        rintro e w10 ⟨rfl, e10⟩
        rw [e10]
        clear e10 w10
        dsimp only
        go_wp2_with fail
        refine (may_nob _ _ _).mono ?_
        rintro e w10 ⟨rfl, e10⟩
        rw [e10]
        clear e10 w10
        dsimp only
        go_wp2
        go_ret
        exact ⟨by simp, HB9.out⟩
      · have e : nb = ⟨#[]⟩ := by
          rw [← hnb]
          unfold nameB
          rw [if_neg hin]
        clear hnb
        rw [e] at HNBB
        by_cases h0 : 0 ≤ ph
        · have d1 : decide (0 ≤ ph) = true := decide_eq_true h0
          have d2 : decide (ph < 9) = false := decide_eq_false (by omega)
          clear hin h0
          have HNA := Lib.hid (fun (w' : World) (hb : Below w8.heap.size w8 w') => by have h1 := name_any (HN8.out.later hb) ph; rw [HNBB.out] at h1; exact h1)
          have HSM := Lib.hid (unlikeTurn_any (p := 2) (by rw [HPH.out]; decide) HC8.out HT8.out)
          go_wp2_with fail
          refine (next_nil _ _).mono ?_
          rintro e w9 ⟨rfl, e9⟩
          rw [e9]
          clear e9 w9
          dsimp only
          go_wp2_with fail
          refine (begin_nil _ _).mono ?_
          rintro e w9 ⟨rfl, e9⟩
          rw [e9]
          clear e9 w9
          dsimp only
          go_wp2_with fail
          refine HSM.out.mono ?_
          rintro e w9 ⟨rfl, hb9⟩
          have HB9 := Lib.hid (stepB HB8.out hb9)
          dsimp only
          go_wp2_with fail
          refine (HNA.out w9 hb9).mono ?_
          rintro e w10 ⟨rfl, e10⟩
          rw [e10]
          clear e10 w10
          dsimp only
          go_wp2_with fail
          refine (main_nil _).mono ?_
          rintro e w10 ⟨rfl, e10⟩
          rw [e10]
          clear e10 w10
          dsimp only
          go_wp2_with fail
          refine (may_nil _ _ _).mono ?_
          rintro e w10 ⟨rfl, e10⟩
          rw [e10]
          clear e10 w10
          dsimp only
          go_wp2_with fail
          refine (laid_nil _ _).mono ?_
          rintro e w10 ⟨rfl, e10⟩
          rw [e10]
          clear e10 w10
          dsimp only
          go_wp2_with fail
          refine (lay_nil _ _).mono ?_
          rintro e w10 ⟨rfl, e10⟩
          rw [e10]
          clear e10 w10
          dsimp only
          go_wp2_with fail
          refine (copy_nilT _).mono ?_
          rintro e w10 ⟨rfl, e10⟩
          rw [e10]
          clear e10 w10
          dsimp only
          go_wp2_with fail
          refine (same_nilT _).mono ?_
          rintro e w10 ⟨rfl, e10⟩
          rw [e10]
          clear e10 w10
          dsimp only
          go_wp2_with fail
          refine (same_noneT _ _).mono ?_
          rintro e w10 ⟨rfl, e10⟩
          rw [e10]
          clear e10 w10
          dsimp only
          go_wp2_with fail
          refine (may_nob _ _ _).mono ?_
          rintro e w10 ⟨rfl, e10⟩
          rw [e10]
          clear e10 w10
          dsimp only
          go_wp2
          go_ret
          exact ⟨by simp, HB9.out⟩
        · have d1 : decide (0 ≤ ph) = false := decide_eq_false h0
          clear hin h0
          have HNA := Lib.hid (fun (w' : World) (hb : Below w8.heap.size w8 w') => by have h1 := name_any (HN8.out.later hb) ph; rw [HNBB.out] at h1; exact h1)
          have HSM := Lib.hid (unlikeTurn_any (p := 2) (by rw [HPH.out]; decide) HC8.out HT8.out)
          go_wp2_with fail
          refine (next_nil _ _).mono ?_
          rintro e w9 ⟨rfl, e9⟩
          rw [e9]
          clear e9 w9
          dsimp only
          go_wp2_with fail
          refine (begin_nil _ _).mono ?_
          rintro e w9 ⟨rfl, e9⟩
          rw [e9]
          clear e9 w9
          dsimp only
          go_wp2_with fail
          refine HSM.out.mono ?_
          rintro e w9 ⟨rfl, hb9⟩
          have HB9 := Lib.hid (stepB HB8.out hb9)
          dsimp only
          go_wp2_with fail
          refine (HNA.out w9 hb9).mono ?_
          rintro e w10 ⟨rfl, e10⟩
          rw [e10]
          clear e10 w10
          dsimp only
          go_wp2_with fail
          refine (main_nil _).mono ?_
          rintro e w10 ⟨rfl, e10⟩
          rw [e10]
          clear e10 w10
          dsimp only
          go_wp2_with fail
          refine (may_nil _ _ _).mono ?_
          rintro e w10 ⟨rfl, e10⟩
          rw [e10]
          clear e10 w10
          dsimp only
          go_wp2_with fail
          refine (laid_nil _ _).mono ?_
          rintro e w10 ⟨rfl, e10⟩
          rw [e10]
          clear e10 w10
          dsimp only
          go_wp2_with fail
          refine (lay_nil _ _).mono ?_
          rintro e w10 ⟨rfl, e10⟩
          rw [e10]
          clear e10 w10
          dsimp only
          go_wp2_with fail
          refine (copy_nilT _).mono ?_
          rintro e w10 ⟨rfl, e10⟩
          rw [e10]
          clear e10 w10
          dsimp only
          go_wp2_with fail
          refine (same_nilT _).mono ?_
          rintro e w10 ⟨rfl, e10⟩
          rw [e10]
          clear e10 w10
          dsimp only
          go_wp2_with fail
          refine (same_noneT _ _).mono ?_
          rintro e w10 ⟨rfl, e10⟩
          rw [e10]
          clear e10 w10
          dsimp only
          go_wp2_with fail
          refine (may_nob _ _ _).mono ?_
          rintro e w10 ⟨rfl, e10⟩
          rw [e10]
          clear e10 w10
          dsimp only
          go_wp2
          go_ret
          exact ⟨by simp, HB9.out⟩
end Go.Proofs.YtdlkdilgjmmlaaaDoor
