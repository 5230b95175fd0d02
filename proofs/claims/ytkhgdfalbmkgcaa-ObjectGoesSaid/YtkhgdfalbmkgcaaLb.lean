/- The stores of the laws of layer 6: made, behind any calls. -/
import Derived.Test.YtkhgdfalbmkgcaaLa
namespace Go.Proofs.Ytkhgdfalbmkgcaa
open Go.RowKit Go.Maps

set_option maxRecDepth 100000 in
set_option maxHeartbeats 8000000 in
theorem madeO_any {w : World} {v u : Value} {T : List Crd.CardL} {l : List OpL} (hv : Crd.CardsAt w v T) (hT : T.length ≤ 9223372036854775807) (hu : OpsAt w u l) (hw : ∀ x ∈ l, WfO x) (hlen : l.length ≤ 9223372036854775807) (n : Nat) (hn1 : 1 ≤ n) (hn4 : n ≤ 4) :
    Calls Try.prog 11 #[v, .int .i64 n, u] w (RetMadeO w n) := by
  have HV := Lib.hid hv
  have HU := Lib.hid hu
  have HW := Lib.hid hw
  obtain ⟨va, vc, rfl⟩ := hv.form
  obtain ⟨ua, uc, rfl⟩ := hu.form
  have HGR := Lib.hid (Crd.great_any none 0 0 (l := []) hv rfl hT (by simp))
  obtain ⟨gr, hgr⟩ : ∃ gr, Crd.greatB T [] = gr := ⟨_, rfl⟩
  rw [hgr] at HGR
  have HGB := Lib.hid hgr
  clear hv hu hw hgr
  cases gr
  case true =>
    go_enter Try.func11, Try.ntmps11
    go_wp2_with fail
    refine HGR.out.mono ?_
    rintro e w1 ⟨rfl, hb1⟩
    dsimp only
    go_wp2
    go_ret
    exact .inl ⟨rfl, hb1⟩
  by_cases h80 : 80 < l.length
  · have d0 : decide ((80 : Int) < l.length) = true := decide_eq_true (by omega)
    have d0' : decide (80 < l.length) = true := decide_eq_true h80
    go_enter Try.func11, Try.ntmps11
    go_wp2_with fail
    refine HGR.out.mono ?_
    rintro e w1 ⟨rfl, hb1⟩
    dsimp only
    go_wp2
    go_ret
    exact .inl ⟨rfl, hb1⟩
  have d0 : decide ((80 : Int) < l.length) = false := decide_eq_false (by omega)
  have d0' : decide (80 < l.length) = false := decide_eq_false h80
  by_cases hte : Crd.tableE T = 0
  case neg =>
    have HN := Lib.hid (fun (w' : World) (hb : Below w.heap.size w w') => newS_bad (HV.out.later hb) (great_small HGB.out).1 (great_small HGB.out).2 hte n)
    obtain ⟨q, hq⟩ : ∃ q, Crd.tableE T = q := ⟨_, rfl⟩
    rw [hq] at HN hte
    have e0 : (q != 0) = true := bne_iff_ne.2 hte
    clear hte hq
    go_enter Try.func11, Try.ntmps11
    go_wp2_with fail
    refine HGR.out.mono ?_
    rintro e w1 ⟨rfl, hb1⟩
    have HB1 := Lib.hid hb1
    clear hb1
    dsimp only
    go_wp2_with fail
    refine (HN.out _ HB1.out).mono ?_
    rintro e w2 ⟨rfl, hb2⟩
    have HB2 := Lib.hid (stepB HB1.out hb2)
    clear hb2
    dsimp only
    go_wp2
    go_ret
    exact .inl ⟨rfl, HB2.out⟩
  have HN := Lib.hid (fun (w' : World) (hb : Below w.heap.size w w') => newS_ok (HV.out.later hb) hte n hn1 hn4)
  clear hte
  go_enter Try.func11, Try.ntmps11
  go_wp2_with fail
  refine HGR.out.mono ?_
  rintro e w1 ⟨rfl, hb1⟩
  have HB1 := Lib.hid hb1
  clear hb1
  dsimp only
  go_wp2_with fail
  refine (HN.out _ HB1.out).mono ?_
  rintro e w2 ⟨b, G, rfl, hst, hb2⟩
  have HB2 := Lib.hid (stepB HB1.out hb2)
  have HS2 := Lib.hid hst
  have HL2 := Lib.hid (And.intro HB1.out.size hb2.size)
  obtain ⟨lo, hlo⟩ : ∃ lo, w1.heap.size = lo := ⟨_, rfl⟩
  rw [hlo] at HS2 HL2
  clear hst hb2 hlo HN HB1
  dsimp only
  go_wp2
  go_loopw [30] (fun i wr => ∃ (k : Nat) (G : Ghost) (S : StoreL), k ≤ l.length ∧ i = .int .i64 k ∧ Hid (StoreAt wr lo b G S) ∧ Hid (Fine S n k) ∧ Hid (Below w.heap.size w wr) ∧ Hid (lo ≤ wr.heap.size)) (fun i _ => l.length - (intOf i).toNat)
  case atStart => exact ⟨0, G, _, Nat.zero_le _, rfl, HS2, Lib.hid ⟨WfS.none _ _, Nat.le_refl _, rfl⟩, HB2, Lib.hid HL2.out.2⟩
  case round =>
    obtain ⟨k, G3, S3, hk, rfl, H3, HF3, HB3, HL3⟩ := hrel
    by_cases hlt : k < l.length
    · obtain ⟨tb, off, hua, t0, t1, t2, t3, t4⟩ := (HU.out.later HB3.out).at k hlt
      have hwx := HW.out l[k] (List.getElem_mem hlt)
      obtain ⟨x, hx⟩ : ∃ x, l[k] = x := ⟨_, rfl⟩
      rw [hx] at t0 t1 t2 t3 t4 hwx
      obtain ⟨ok, oa, ob, oc, un⟩ := x
      obtain ⟨wa, wb, wc⟩ := hwx
      dsimp only at wa wb wc t0 t1 t2 t3 t4
      cases hua
      clear hx
      have hb0 := below_new wr (.cells #[.int .i64 ok, .int .i64 oa, .int .i64 ob, .int .i64 oc, .bool un] 43)
      have HB0 := Lib.hid hb0
      have H0 := Lib.hid (H3.out.later hb0)
      have HL0 := Lib.hid (show lo ≤ (wr.alloc (.cells #[.int .i64 ok, .int .i64 oa, .int .i64 ob, .int .i64 oc, .bool un] 43)).heap.size by have := HL3.out; simp; omega)
      have HBW := Lib.hid (show ∀ q, G3.tag q ≠ .no → w.heap.size ≤ q from fun q hq => Nat.le_trans (by have := HL2.out.1; omega) (H3.out.low q hq))
      have HSL := Lib.hid (show S3.objs.length ≤ 80 by have := HF3.out.len; omega)
      clear hb0
      by_cases hk0 : ok = 0
      · subst hk0
        by_cases hadd : addB S3 oa ob oc
        · obtain ⟨a1, a2, a3, a4, a5, a6⟩ := hadd
          obtain ⟨cn, rfl⟩ : ∃ m : Nat, oa = m := ⟨oa.toNat, by omega⟩
          obtain ⟨ow, rfl⟩ : ∃ m : Nat, ob = m := ⟨ob.toNat, by omega⟩
          obtain ⟨z, rfl⟩ : ∃ m : Nat, oc = m := ⟨oc.toNat, by omega⟩
          have HAD := Lib.hid (add_ok H0.out HL0.out (HF3.out.wf.short (by have := HSL.out; omega)) cn ow z (by omega) (by omega) (by omega) (by omega))
          have HF4 := Lib.hid (show Fine (addL S3 cn ow z) n (k + 1) from ⟨HF3.out.wf.add (by omega) (by omega) (by omega) (by omega), (by have h1 : (addL S3 cn ow z).objs.length = S3.objs.length + 1 := (by simp [addL]); have h2 := HF3.out.len; omega), HF3.out.seats⟩)
          clear wa wb wc a1 a2 a3 a4 a5 a6
          go_wp2_with fail
          refine HAD.out.mono ?_
          rintro e w4 ⟨rfl, G4, hst4, ht4⟩
          have HT4 := Lib.hid (show Turned wr w4 G3 G4 from (Turned.of_below HB0.out).trans ht4)
          have H4 := Lib.hid hst4
          have HB4 := Lib.hid (HT4.out.below HB3.out HBW.out)
          have HL4 := Lib.hid (Nat.le_trans HL3.out HT4.out.chg.size)
          clear hst4 ht4 t0 t1 t2 t3 t4
          dsimp only
          go_wp2
          go_roundw
          case rel => exact ⟨k + 1, G4, _, by omega, by go_num, H4, HF4, HB4, HL4⟩
          case measure => simp [intOf]; omega
        · have HAD := Lib.hid (add_bad H0.out oa ob oc wb wc hadd)
          have HF4 := Lib.hid (show Fine S3 n (k + 1) from ⟨HF3.out.wf, by have := HF3.out.len; omega, HF3.out.seats⟩)
          clear hadd wa wb wc
          go_wp2_with fail
          refine HAD.out.mono ?_
          rintro e w4 ⟨rfl, hb4⟩
          have H4 := Lib.hid (H0.out.later hb4)
          have HB4 := Lib.hid (stepB (stepB HB3.out HB0.out) hb4)
          have HL4 := Lib.hid (Nat.le_trans HL0.out hb4.size)
          clear hb4 t0 t1 t2 t3 t4
          dsimp only
          go_wp2
          go_roundw
          case rel => exact ⟨k + 1, G3, _, by omega, by go_num, H4, HF4, HB4, HL4⟩
          case measure => simp [intOf]; omega
      have n0 : (ok == 0) = false := beq_eq_false_iff_ne.2 hk0
      by_cases hk1 : ok = 1
      · subst hk1
        by_cases hin : 1 ≤ oa ∧ oa ≤ (S3.objs.length : Int)
        · obtain ⟨j, rfl⟩ : ∃ j : Nat, oa = (j : Int) + 1 := ⟨(oa - 1).toNat, by omega⟩
          have hj : j < S3.objs.length := by omega
          by_cases hz : 1 ≤ oc ∧ oc ≤ 7
          · obtain ⟨z, rfl⟩ : ∃ m : Nat, oc = m := ⟨oc.toNat, by omega⟩
            have HMV := Lib.hid (move_ok H0.out HF3.out.wf (by have := HSL.out; omega) j z hj (by omega) (by omega) un)
            have HF4 := Lib.hid (show Fine (moveL S3 j S3.objs[j] z un) n (k + 1) from ⟨HF3.out.wf.move hj (by omega) (by omega) un, (by have h1 : (moveL S3 j S3.objs[j] z un).objs.length = S3.objs.length := (by simp [moveL]); have h2 := HF3.out.len; omega), HF3.out.seats⟩)
            clear hin hz wa wb wc hk0
            go_wp2_with fail
            refine HMV.out.mono ?_
            rintro e w4 ⟨rfl, G4, hst4, ht4⟩
            have HT4 := Lib.hid (show Turned wr w4 G3 G4 from (Turned.of_below HB0.out).trans ht4)
            have H4 := Lib.hid hst4
            have HB4 := Lib.hid (HT4.out.below HB3.out HBW.out)
            have HL4 := Lib.hid (Nat.le_trans HL3.out HT4.out.chg.size)
            clear hst4 ht4 t0 t1 t2 t3 t4
            dsimp only
            go_wp2
            go_roundw
            case rel => exact ⟨k + 1, G4, _, by omega, by go_num, H4, HF4, HB4, HL4⟩
            case measure => simp [intOf]; omega
          · have HMV := Lib.hid (move_bad H0.out HF3.out.wf (by have := HSL.out; omega) j hj oc wc hz un)
            have HF4 := Lib.hid (show Fine S3 n (k + 1) from ⟨HF3.out.wf, by have := HF3.out.len; omega, HF3.out.seats⟩)
            clear hin hz wa wb wc hk0
            go_wp2_with fail
            refine HMV.out.mono ?_
            rintro e w4 ⟨rfl, hb4⟩
            have H4 := Lib.hid (H0.out.later hb4)
            have HB4 := Lib.hid (stepB (stepB HB3.out HB0.out) hb4)
            have HL4 := Lib.hid (Nat.le_trans HL0.out hb4.size)
            clear hb4 t0 t1 t2 t3 t4
            dsimp only
            go_wp2
            go_roundw
            case rel => exact ⟨k + 1, G3, _, by omega, by go_num, H4, HF4, HB4, HL4⟩
            case measure => simp [intOf]; omega
        · have HMV := Lib.hid (move_out (zone := oc) un (by decide) (get_out H0.out (by have := HSL.out; omega) oa (by omega)))
          have HF4 := Lib.hid (show Fine S3 n (k + 1) from ⟨HF3.out.wf, by have := HF3.out.len; omega, HF3.out.seats⟩)
          clear hin wa wb wc hk0
          go_wp2_with fail
          refine HMV.out.mono ?_
          rintro e w4 ⟨rfl, hb4⟩
          have H4 := Lib.hid (H0.out.later hb4)
          have HB4 := Lib.hid (stepB (stepB HB3.out HB0.out) hb4)
          have HL4 := Lib.hid (Nat.le_trans HL0.out hb4.size)
          clear hb4 t0 t1 t2 t3 t4
          dsimp only
          go_wp2
          go_roundw
          case rel => exact ⟨k + 1, G3, _, by omega, by go_num, H4, HF4, HB4, HL4⟩
          case measure => simp [intOf]; omega
      have n1 : (ok == 1) = false := beq_eq_false_iff_ne.2 hk1
      by_cases hk2 : ok = 2
      · subst hk2
        by_cases hin : 1 ≤ oa ∧ oa ≤ (S3.objs.length : Int)
        · obtain ⟨j, rfl⟩ : ∃ j : Nat, oa = (j : Int) + 1 := ⟨(oa - 1).toNat, by omega⟩
          have hj : j < S3.objs.length := by omega
          have HGE := Lib.hid (get_in H0.out (by have := HSL.out; omega) j hj)
          have hid := (HF3.out.wf.ids j hj).1
          have HWF := Lib.hid (fun (y : ObjL) (h0 : y.id = (j : Int) + 1) (h1 : y.card = S3.objs[j].card) (h2 : y.owner = S3.objs[j].owner) (h3 : y.zone = S3.objs[j].zone) => HF3.out.wf.set hj h0 h1 h2 h3)
          have HSE := Lib.hid (fun (w' : World) (hs : StoreAt w' lo b G3 S3) (y : ObjL) (h0 : y.id = (j : Int) + 1) (h1 : y.card = S3.objs[j].card) (h2 : y.owner = S3.objs[j].owner) (h3 : y.zone = S3.objs[j].zone) => set_any hs (by have := HSL.out; omega) j hj y h0 h1 h2 h3)
          obtain ⟨x, hx⟩ : ∃ x, S3.objs[j] = x := ⟨_, rfl⟩
          rw [hx] at HGE HSE HWF hid
          obtain ⟨x0, x1, x2, x3, x4, x5, x6, x7, x8, x9, x10⟩ := x
          dsimp only at hid
          subst hid
          have HSE2 := Lib.hid (fun (w' : World) (hs : StoreAt w' lo b G3 S3) => HSE.out w' hs ⟨(j : Int) + 1, x1, x2, x3, un, x5, ob, x7, x8, x9, x10⟩ rfl rfl rfl rfl)
          have HF4 := Lib.hid (show Fine { S3 with objs := S3.objs.set j ⟨(j : Int) + 1, x1, x2, x3, un, x5, ob, x7, x8, x9, x10⟩ } n (k + 1) from ⟨HWF.out ⟨(j : Int) + 1, x1, x2, x3, un, x5, ob, x7, x8, x9, x10⟩ rfl rfl rfl rfl, by
            show (S3.objs.set j _).length ≤ k + 1
            rw [List.length_set]
            have := HF3.out.len
            omega, HF3.out.seats⟩)
          unfold RetGet oagg at HGE
          unfold oagg at HSE2
          dsimp only at HGE HSE2
          have hT0 := fun q => cell_of_row _ _ q _ _ _ (heap_alloc_new wr (.cells #[.int .i64 2, .int .i64 ((j : Int) + 1), .int .i64 ob, .int .i64 oc, .bool un] 43))
          have p2 : (wr.alloc (.cells #[.int .i64 2, .int .i64 ((j : Int) + 1), .int .i64 ob, .int .i64 oc, .bool un] 43)).cell? ⟨wr.heap.size, 2, none⟩ = some (.int .i64 ob) := hT0 2
          have p4 : (wr.alloc (.cells #[.int .i64 2, .int .i64 ((j : Int) + 1), .int .i64 ob, .int .i64 oc, .bool un] 43)).cell? ⟨wr.heap.size, 4, none⟩ = some (.bool un) := hT0 4
          clear hT0 HSE HWF hx hin wa wb wc hk0 hk1
          go_wp2_with fail
          refine HGE.out.mono ?_
          rintro e w5 ⟨rfl, hb5⟩
          have HB5 := Lib.hid hb5
          have r02 := cell_stays (stepB hb5 (below_new w5 (.cells #[.int .i64 ((j : Int) + 1), .int .i64 x1, .int .i64 x2, .int .i64 x3, .bool x4, .bool x5, .int .i64 x6, .int .i64 x7, .int .i64 x8, .int .i64 x9, .bool x10] 32))) p2
          have r04 := cell_stays (stepB hb5 (below_new w5 (.cells #[.int .i64 ((j : Int) + 1), .int .i64 x1, .int .i64 x2, .int .i64 x3, .bool x4, .bool x5, .int .i64 x6, .int .i64 x7, .int .i64 x8, .int .i64 x9, .bool x10] 32))) p4
          have r12 := cell_stays (stepB hb5 (below_new w5 (.cells #[.int .i64 ((j : Int) + 1), .int .i64 x1, .int .i64 x2, .int .i64 x3, .bool un, .bool x5, .int .i64 x6, .int .i64 x7, .int .i64 x8, .int .i64 x9, .bool x10] 32))) p2
          have r14 := cell_stays (stepB hb5 (below_new w5 (.cells #[.int .i64 ((j : Int) + 1), .int .i64 x1, .int .i64 x2, .int .i64 x3, .bool un, .bool x5, .int .i64 x6, .int .i64 x7, .int .i64 x8, .int .i64 x9, .bool x10] 32))) p4
          have r22 := cell_stays (stepB hb5 (below_new w5 (.cells #[.int .i64 ((j : Int) + 1), .int .i64 x1, .int .i64 x2, .int .i64 x3, .bool x4, .bool x5, .int .i64 ob, .int .i64 x7, .int .i64 x8, .int .i64 x9, .bool x10] 32))) p2
          have r24 := cell_stays (stepB hb5 (below_new w5 (.cells #[.int .i64 ((j : Int) + 1), .int .i64 x1, .int .i64 x2, .int .i64 x3, .bool x4, .bool x5, .int .i64 ob, .int .i64 x7, .int .i64 x8, .int .i64 x9, .bool x10] 32))) p4
          have r32 := cell_stays (stepB hb5 (below_new w5 (.cells #[.int .i64 ((j : Int) + 1), .int .i64 x1, .int .i64 x2, .int .i64 x3, .bool un, .bool x5, .int .i64 ob, .int .i64 x7, .int .i64 x8, .int .i64 x9, .bool x10] 32))) p2
          have r34 := cell_stays (stepB hb5 (below_new w5 (.cells #[.int .i64 ((j : Int) + 1), .int .i64 x1, .int .i64 x2, .int .i64 x3, .bool un, .bool x5, .int .i64 ob, .int .i64 x7, .int .i64 x8, .int .i64 x9, .bool x10] 32))) p4
          clear hb5 t0 t1 t2 t3 t4 p2 p4
          dsimp only
          go_wp2
          go_region
          all_goals
            go_wp2_with fail
            refine (HSE2.out _ (H0.out.later (stepB HB5.out (below_new w5 _)).drew)).mono ?_
            rintro e w6 ⟨rfl, G6, hs6, ht6⟩
            have HT6 := Lib.hid (((Turned.of_below HB0.out).trans (Turned.of_below (stepB HB5.out (below_new w5 _)).drew)).trans ht6)
            have HB6 := Lib.hid (HT6.out.below HB3.out HBW.out)
            have H6 := Lib.hid hs6
            have HL6 := Lib.hid (Nat.le_trans HL3.out HT6.out.chg.size)
            clear hs6 ht6
            dsimp only
            go_wp2
            go_roundw
            case rel => exact ⟨k + 1, G6, _, by omega, by go_num, H6, HF4, HB6, HL6⟩
            case measure => simp [intOf]; omega
        · have HGE := Lib.hid (get_out H0.out (by have := HSL.out; omega) oa (by omega))
          have HF4 := Lib.hid (show Fine S3 n (k + 1) from ⟨HF3.out.wf, by have := HF3.out.len; omega, HF3.out.seats⟩)
          unfold RetGet oagg zeroO at HGE
          dsimp only at HGE
          clear hin wa wb wc hk0 hk1
          go_wp2_with fail
          refine HGE.out.mono ?_
          rintro e w4 ⟨rfl, hb4⟩
          have HBN := Lib.hid (below_alloc2 hb4 (.cells #[.int .i64 0, .int .i64 0, .int .i64 0, .int .i64 0, .bool false, .bool false, .int .i64 0, .int .i64 0, .int .i64 0, .int .i64 0, .bool false] 32))
          have H4 := Lib.hid (H0.out.later HBN.out)
          have HB4 := Lib.hid (stepB (stepB HB3.out HB0.out) HBN.out)
          have HL4 := Lib.hid (Nat.le_trans HL0.out HBN.out.size)
          clear hb4 t0 t1 t2 t3 t4
          dsimp only
          go_wp2
          go_roundw
          case rel => exact ⟨k + 1, G3, _, by omega, by go_num, H4, HF4, HB4, HL4⟩
          case measure => simp [intOf]; omega
      have n2 : (ok == 2) = false := beq_eq_false_iff_ne.2 hk2
      have HF4 := Lib.hid (show Fine S3 n (k + 1) from ⟨HF3.out.wf, by have := HF3.out.len; omega, HF3.out.seats⟩)
      have HB4 := Lib.hid (stepB HB3.out HB0.out)
      clear wa wb wc hk0 hk1 hk2
      go_wp2
      go_roundw
      case rel => exact ⟨k + 1, G3, _, by omega, by go_num, H0, HF4, HB4, HL0⟩
      case measure => simp [intOf]; omega
    · obtain rfl : k = l.length := by omega
      have HF4 := Lib.hid (show Fine S3 n 80 from ⟨HF3.out.wf, by have := HF3.out.len; omega, HF3.out.seats⟩)
      go_wp2
      go_ret
      exact .inr ⟨b, lo, G3, S3, rfl, H3.out, HF4.out, HL2.out.1, HL3.out, HB3.out⟩
end Go.Proofs.Ytkhgdfalbmkgcaa
