/- mayBlock, Block (layer 17). -/
import Derived.Test.YtjgjhfeopmakaaaGreatQi
namespace Go.Proofs.YtjgjhfeopmakaaaGreat
open Go.RowKit Go.Maps
attribute [local go_sem] Oper.semAt_some

def mayBlk (B : BoardL) (team seat : Int) (o : ObjL) (at' : Int) : Int :=
  if ¬(o.owner = seat) ∨ isOfB B.T o.owner team = true then 14 else if ¬(o.block = 0) then 19 else if o.tapped then 15 else if ¬(at' ∈ attackL B team) then 12 else if (hasK B.S at' 2 && !hasK B.S o.id 2) = true then 12 else 0
set_option maxRecDepth 100000 in
set_option maxHeartbeats 8000000 in
theorem mayBlk_any {w : World} {lo : Nat} {g : GhostB} {B : BoardL} (h : BoardAt w lo g B) (team seat : Int) (o : ObjL) (at' : Int) : Calls Tryz.prog 35 #[.pointer (some ⟨g.q, 0, none⟩), .int .i64 team, .int .i64 seat, oagg o, .int .i64 at'] w (RetV w (.int .i64 (mayBlk B team seat o at'))) := by
  obtain ⟨x0, x1, x2, x3, x4, x5, x6, x7, x8, x9, x10⟩ := o
  unfold mayBlk oagg
  dsimp only
  have hb := below_new w (.cells #[.int .i64 x0, .int .i64 x1, .int .i64 x2, .int .i64 x3, .bool x4, .bool x5, .int .i64 x6, .int .i64 x7, .int .i64 x8, .int .i64 x9, .bool x10] 30)
  have HB := Lib.hid hb
  have HO := Lib.hid (isOf_any (h.later hb) x2 team)
  have HAT := Lib.hid (attacking_any (h.later hb) team)
  have HAL := Lib.hid (attackL_len h team)
  have HK := Lib.hid (fun (W : World) (hW : Below w.heap.size w W) (i : Int) => hasK_any (h.later hW) i 2)
  have HR0 := Lib.hid (heap_alloc_new w (.cells #[.int .i64 x0, .int .i64 x1, .int .i64 x2, .int .i64 x3, .bool x4, .bool x5, .int .i64 x6, .int .i64 x7, .int .i64 x8, .int .i64 x9, .bool x10] 30))
  obtain ⟨z, hz⟩ : ∃ z, isOfB B.T x2 team = z := ⟨_, rfl⟩
  obtain ⟨L, hL⟩ : ∃ L, attackL B team = L := ⟨_, rfl⟩
  rw [hz] at HO ⊢
  rw [hL] at HAT HAL ⊢
  have HK1 := Lib.hid (fun (W : World) (hW : Below w.heap.size w W) => HK.out W hW at')
  have HK2 := Lib.hid (fun (W : World) (hW : Below w.heap.size w W) => HK.out W hW x0)
  obtain ⟨k1, hk1⟩ : ∃ k1, hasK B.S at' 2 = k1 := ⟨_, rfl⟩
  obtain ⟨k2, hk2⟩ : ∃ k2, hasK B.S x0 2 = k2 := ⟨_, rfl⟩
  rw [hk1] at HK1 ⊢
  rw [hk2] at HK2 ⊢
  clear h hz hb hL hk1 hk2 HK
  by_cases ho : x2 = seat
  · subst ho
    cases z
    · rw [if_neg (by rintro (e | e); exact e rfl; cases e)]
      by_cases h9 : x9 = 0
      · subst h9
        rw [if_neg (by simp)]
        cases x4
        · rw [if_neg (by decide)]
          by_cases hm : at' ∈ L
          · have dm : decide (at' ∈ L) = true := decide_eq_true hm
            rw [if_neg (by simpa using hm)]
            cases k1
            · rw [if_neg (by simp)]
              go_enter Tryz.func35, Tryz.ntmps35
              go_wp2_with fail
              refine HO.out.mono ?_
              rintro e w1 ⟨rfl, rfl⟩
              go_wp2_with fail
              refine HAT.out.mono ?_
              rintro e w3 ⟨v, rfl, ho3, hb3⟩
              have HI3 := Lib.hid (own_ints ho3)
              have HB3 := Lib.hid (stepB HB.out hb3)
              have hr3 := (hb3.block _ (by simp)).trans HR0.out
              have c30 := cell_of_row w3 w.heap.size 0 _ _ _ hr3
              simp only [List.getElem?_toArray, List.getElem?_cons_zero] at c30
              obtain ⟨va, vc, rfl⟩ := (own_ints ho3).form
              have HCT := Lib.hid (contains_at at' HI3.out HAL.out)
              rw [dm] at HCT
              have HR3 := Lib.hid hr3
              clear ho3 hb3 hr3
              dsimp only
              go_wp2_with fail
              refine HCT.out.mono ?_
              rintro e w4 ⟨rfl, rfl⟩
              go_wp2_with fail
              refine (HK1.out _ HB3.out).mono ?_
              rintro e w5 ⟨rfl, hb5⟩
              have HB5 := Lib.hid (stepB HB3.out hb5)
              have c50 := cell_stays hb5 c30
              clear hb5 c30
              dsimp only
              go_wp2
              go_ret
              exact ⟨rfl, by first | exact HB6.out | exact HB5.out | exact HB3.out | exact HB.out⟩
            · cases k2
              · rw [if_pos (by rfl)]
                go_enter Tryz.func35, Tryz.ntmps35
                go_wp2_with fail
                refine HO.out.mono ?_
                rintro e w1 ⟨rfl, rfl⟩
                go_wp2_with fail
                refine HAT.out.mono ?_
                rintro e w3 ⟨v, rfl, ho3, hb3⟩
                have HI3 := Lib.hid (own_ints ho3)
                have HB3 := Lib.hid (stepB HB.out hb3)
                have hr3 := (hb3.block _ (by simp)).trans HR0.out
                have c30 := cell_of_row w3 w.heap.size 0 _ _ _ hr3
                simp only [List.getElem?_toArray, List.getElem?_cons_zero] at c30
                obtain ⟨va, vc, rfl⟩ := (own_ints ho3).form
                have HCT := Lib.hid (contains_at at' HI3.out HAL.out)
                rw [dm] at HCT
                have HR3 := Lib.hid hr3
                clear ho3 hb3 hr3
                dsimp only
                go_wp2_with fail
                refine HCT.out.mono ?_
                rintro e w4 ⟨rfl, rfl⟩
                go_wp2_with fail
                refine (HK1.out _ HB3.out).mono ?_
                rintro e w5 ⟨rfl, hb5⟩
                have HB5 := Lib.hid (stepB HB3.out hb5)
                have c50 := cell_stays hb5 c30
                clear hb5 c30
                dsimp only
                go_wp2_with fail
                refine (HK2.out _ HB5.out).mono ?_
                rintro e w6 ⟨rfl, hb6⟩
                have HB6 := Lib.hid (stepB HB5.out hb6)
                clear hb6
                dsimp only
                go_wp2
                go_ret
                exact ⟨rfl, by first | exact HB6.out | exact HB5.out | exact HB3.out | exact HB.out⟩
              · rw [if_neg (by decide)]
                go_enter Tryz.func35, Tryz.ntmps35
                go_wp2_with fail
                refine HO.out.mono ?_
                rintro e w1 ⟨rfl, rfl⟩
                go_wp2_with fail
                refine HAT.out.mono ?_
                rintro e w3 ⟨v, rfl, ho3, hb3⟩
                have HI3 := Lib.hid (own_ints ho3)
                have HB3 := Lib.hid (stepB HB.out hb3)
                have hr3 := (hb3.block _ (by simp)).trans HR0.out
                have c30 := cell_of_row w3 w.heap.size 0 _ _ _ hr3
                simp only [List.getElem?_toArray, List.getElem?_cons_zero] at c30
                obtain ⟨va, vc, rfl⟩ := (own_ints ho3).form
                have HCT := Lib.hid (contains_at at' HI3.out HAL.out)
                rw [dm] at HCT
                have HR3 := Lib.hid hr3
                clear ho3 hb3 hr3
                dsimp only
                go_wp2_with fail
                refine HCT.out.mono ?_
                rintro e w4 ⟨rfl, rfl⟩
                go_wp2_with fail
                refine (HK1.out _ HB3.out).mono ?_
                rintro e w5 ⟨rfl, hb5⟩
                have HB5 := Lib.hid (stepB HB3.out hb5)
                have c50 := cell_stays hb5 c30
                clear hb5 c30
                dsimp only
                go_wp2_with fail
                refine (HK2.out _ HB5.out).mono ?_
                rintro e w6 ⟨rfl, hb6⟩
                have HB6 := Lib.hid (stepB HB5.out hb6)
                clear hb6
                dsimp only
                go_wp2
                go_ret
                exact ⟨rfl, by first | exact HB6.out | exact HB5.out | exact HB3.out | exact HB.out⟩
          · have dm : decide (at' ∈ L) = false := decide_eq_false hm
            rw [if_pos hm]
            go_enter Tryz.func35, Tryz.ntmps35
            go_wp2_with fail
            refine HO.out.mono ?_
            rintro e w1 ⟨rfl, rfl⟩
            go_wp2_with fail
            refine HAT.out.mono ?_
            rintro e w3 ⟨v, rfl, ho3, hb3⟩
            have HI3 := Lib.hid (own_ints ho3)
            have HB3 := Lib.hid (stepB HB.out hb3)
            have hr3 := (hb3.block _ (by simp)).trans HR0.out
            have c30 := cell_of_row w3 w.heap.size 0 _ _ _ hr3
            simp only [List.getElem?_toArray, List.getElem?_cons_zero] at c30
            obtain ⟨va, vc, rfl⟩ := (own_ints ho3).form
            have HCT := Lib.hid (contains_at at' HI3.out HAL.out)
            rw [dm] at HCT
            have HR3 := Lib.hid hr3
            clear ho3 hb3 hr3
            dsimp only
            go_wp2_with fail
            refine HCT.out.mono ?_
            rintro e w4 ⟨rfl, rfl⟩
            go_wp2
            go_ret
            exact ⟨rfl, by first | exact HB6.out | exact HB5.out | exact HB3.out | exact HB.out⟩
        · rw [if_pos rfl]
          go_enter Tryz.func35, Tryz.ntmps35
          go_wp2_with fail
          refine HO.out.mono ?_
          rintro e w1 ⟨rfl, rfl⟩
          go_wp2
          go_ret
          exact ⟨rfl, by first | exact HB6.out | exact HB5.out | exact HB3.out | exact HB.out⟩
      · have d9 : decide (x9 = 0) = false := decide_eq_false h9
        rw [if_pos h9]
        go_enter Tryz.func35, Tryz.ntmps35
        go_wp2_with fail
        refine HO.out.mono ?_
        rintro e w1 ⟨rfl, rfl⟩
        go_wp2
        go_ret
        exact ⟨rfl, by first | exact HB6.out | exact HB5.out | exact HB3.out | exact HB.out⟩
    · rw [if_pos (.inr rfl)]
      go_enter Tryz.func35, Tryz.ntmps35
      go_wp2_with fail
      refine HO.out.mono ?_
      rintro e w1 ⟨rfl, rfl⟩
      go_wp2
      go_ret
      exact ⟨rfl, by first | exact HB6.out | exact HB5.out | exact HB3.out | exact HB.out⟩
  · have d0 : decide (x2 = seat) = false := decide_eq_false ho
    rw [if_pos (.inl ho)]
    clear HO
    go_enter Tryz.func35, Tryz.ntmps35
    go_wp2
    go_ret
    exact ⟨rfl, HB.out⟩
def blkO (S : StoreL) (i at' : Int) : ObjL := ⟨(objOf S i).id, (objOf S i).card, (objOf S i).owner, (objOf S i).zone, (objOf S i).tapped, (objOf S i).sick, (objOf S i).hurt, (objOf S i).count, (objOf S i).boost, at', (objOf S i).attacks⟩
def blkE (B : BoardL) (team seat i at' : Int) : Int := if creE B.S i = 0 then mayBlk B team seat (objOf B.S i) at' else creE B.S i
def blkD (B : BoardL) (team seat i at' : Int) : BoardL := if blkE B team seat i at' = 0 then ⟨setI B.S i (blkO B.S i at'), B.T, B.D⟩ else B
set_option maxRecDepth 100000 in
set_option maxHeartbeats 16000000 in
theorem block_any {w : World} {lo : Nat} {g : GhostB} {B : BoardL} (h : BoardAt w lo g B) (team seat i at' : Int) : Calls Tryz.prog 14 #[.pointer (some ⟨g.q, 0, none⟩), .int .i64 team, .int .i64 seat, .int .i64 i, .int .i64 at'] w (RetBd w lo g (blkD B team seat i at') (.int .i64 (blkE B team seat i at'))) := by
  have HH := Lib.hid h
  have HCR := Lib.hid (fcre_any h i)
  have HMY := Lib.hid (fun (W : World) (hb : Below w.heap.size w W) => mayBlk_any (h.later hb) team seat (objOf B.S i) at')
  have HCC := Lib.hid (fun (W : World) (hb : Below w.heap.size w W) => (h.later hb).cells.1)
  have HBS := Lib.hid (fun (W : World) (hb : Below w.heap.size w W) => RetBd.same (B := B) h (e := .returned (.int .i64 (blkE B team seat i at'))) (v := .int .i64 (blkE B team seat i at')) ⟨rfl, hb⟩)
  by_cases hc : creE B.S i = 0
  · have hco : creO B.S i = objOf B.S i := by unfold creO; rw [if_pos hc]
    have HST := Lib.hid (fun (W : World) (hb : Below w.heap.size w W) => (setI_any (h.later hb) (creE_has hc) (x := blkO B.S i at') ⟨rfl, rfl, rfl, rfl⟩).mono fun _ _ hr => RetBd.of hr (TurnedB.of_below hb) rfl)
    have hE : blkE B team seat i at' = mayBlk B team seat (objOf B.S i) at' := if_pos hc
    rw [hc, hco] at HCR
    rw [hE] at HBS ⊢
    obtain ⟨m, hm⟩ : ∃ m, mayBlk B team seat (objOf B.S i) at' = m := ⟨_, rfl⟩
    rw [hm] at HMY HBS ⊢
    have hD0 : m = 0 → blkD B team seat i at' = ⟨setI B.S i (blkO B.S i at'), B.T, B.D⟩ := fun e => by unfold blkD; rw [hE, hm, if_pos e]
    have hD1 : m ≠ 0 → blkD B team seat i at' = B := fun e => by unfold blkD; rw [hE, hm, if_neg e]
    unfold blkO at hD0 HST
    obtain ⟨o, ho⟩ : ∃ o, objOf B.S i = o := ⟨_, rfl⟩
    rw [ho] at HCR HMY hD0
    simp only [ho] at HST
    obtain ⟨x0, x1, x2, x3, x4, x5, x6, x7, x8, x9, x10⟩ := o
    unfold RetGet oagg at HCR
    unfold oagg at HMY HST
    dsimp only at HCR HMY HST hD0
    clear h hE hco hm hc ho
    obtain ⟨q, b, tb, s, r0, G⟩ := g
    dsimp only at HH HCR HMY HCC HBS HST ⊢
    by_cases hm0 : m = 0
    · subst hm0
      rw [hD0 rfl]
      clear hD0 hD1
      go_enter Tryz.func14, Tryz.ntmps14
      go_wp2_with fail
      refine HCR.out.mono ?_
      rintro e w1 ⟨rfl, hb1⟩
      have HB1 := Lib.hid (below_alloc2 hb1 (.cells #[.int .i64 x0, .int .i64 x1, .int .i64 x2, .int .i64 x3, .bool x4, .bool x5, .int .i64 x6, .int .i64 x7, .int .i64 x8, .int .i64 x9, .bool x10] 30))
      have HSZ := Lib.hid hb1.size
      have hr1 := heap_alloc_new w1 (.cells #[.int .i64 x0, .int .i64 x1, .int .i64 x2, .int .i64 x3, .bool x4, .bool x5, .int .i64 x6, .int .i64 x7, .int .i64 x8, .int .i64 x9, .bool x10] 30)
      obtain ⟨W1, hW1⟩ : ∃ W1, w1.alloc (.cells #[.int .i64 x0, .int .i64 x1, .int .i64 x2, .int .i64 x3, .bool x4, .bool x5, .int .i64 x6, .int .i64 x7, .int .i64 x8, .int .i64 x9, .bool x10] 30) = W1 := ⟨_, rfl⟩
      obtain ⟨qo, hqo⟩ : ∃ qo, w1.heap.size = qo := ⟨_, rfl⟩
      rw [hW1] at HB1 hr1
      rw [hqo] at hr1 HSZ
      have HR1 := Lib.hid hr1
      have p0 := cell_of_row W1 qo 0 _ _ _ hr1
      have p1 := cell_of_row W1 qo 1 _ _ _ hr1
      have p2 := cell_of_row W1 qo 2 _ _ _ hr1
      have p3 := cell_of_row W1 qo 3 _ _ _ hr1
      have p4 := cell_of_row W1 qo 4 _ _ _ hr1
      have p5 := cell_of_row W1 qo 5 _ _ _ hr1
      have p6 := cell_of_row W1 qo 6 _ _ _ hr1
      have p7 := cell_of_row W1 qo 7 _ _ _ hr1
      have p8 := cell_of_row W1 qo 8 _ _ _ hr1
      have p9 := cell_of_row W1 qo 9 _ _ _ hr1
      have p10 := cell_of_row W1 qo 10 _ _ _ hr1
      simp only [List.getElem?_toArray, List.getElem?_cons_succ, List.getElem?_cons_zero] at p0 p1 p2 p3 p4 p5 p6 p7 p8 p9 p10
      clear hb1 hr1
      dsimp only
      go_wp2_with fail
      refine (HMY.out _ HB1.out).mono ?_
      rintro e w2 ⟨rfl, hb2⟩
      have HB2 := Lib.hid (stepB HB1.out hb2)
      have HR2 := Lib.hid ((hb2.block qo (Crd.lt_of_row HR1.out)).trans HR1.out)
      clear hb2 p0 p1 p2 p3 p4 p5 p6 p7 p8 p9 p10 hW1 hqo HR1
      dsimp only
      have p9 := cell_of_row w2 qo 9 _ _ _ HR2.out
      have f9 := frozen_of_row w2 qo 9 _ _ HR2.out
      simp only [List.getElem?_toArray, List.getElem?_cons_succ, List.getElem?_cons_zero] at p9
      have hr5 := heap_setCell_same w2 qo 9 _ _ (.int .i64 at') HR2.out
      have HB5 := Lib.hid (show Below w.heap.size w (w2.setCell ⟨qo, 9, none⟩ (.int .i64 at')) from HB2.out.setCell HSZ.out _)
      obtain ⟨W5, hW5⟩ : ∃ W5, w2.setCell ⟨qo, 9, none⟩ (.int .i64 at') = W5 := ⟨_, rfl⟩
      rw [hW5] at hr5 HB5
      have hr5' : W5.heap[qo]? = some (.cells #[.int .i64 x0, .int .i64 x1, .int .i64 x2, .int .i64 x3, .bool x4, .bool x5, .int .i64 x6, .int .i64 x7, .int .i64 x8, .int .i64 at', .bool x10] 30 (0, 0)) := hr5
      go_upto_region 8 with fail
      try rw [hW5]
      clear hr5 p9 f9 hW5 HR2
      have p0 := cell_of_row W5 qo 0 _ _ _ hr5'
      have p1 := cell_of_row W5 qo 1 _ _ _ hr5'
      have p2 := cell_of_row W5 qo 2 _ _ _ hr5'
      have p3 := cell_of_row W5 qo 3 _ _ _ hr5'
      have p4 := cell_of_row W5 qo 4 _ _ _ hr5'
      have p5 := cell_of_row W5 qo 5 _ _ _ hr5'
      have p6 := cell_of_row W5 qo 6 _ _ _ hr5'
      have p7 := cell_of_row W5 qo 7 _ _ _ hr5'
      have p8 := cell_of_row W5 qo 8 _ _ _ hr5'
      have p9 := cell_of_row W5 qo 9 _ _ _ hr5'
      have p10 := cell_of_row W5 qo 10 _ _ _ hr5'
      simp only [List.getElem?_toArray, List.getElem?_cons_succ, List.getElem?_cons_zero] at p0 p1 p2 p3 p4 p5 p6 p7 p8 p9 p10
      have cb := HCC.out _ HB5.out
      have HSS := Lib.hid (fun (W : World) (hb : Below W5.heap.size W5 W) => HST.out W (stepB HB5.out hb))
      clear hr5'
      go_region_with ((go_at_call 12; refine (HSS.out _ (by first | exact Below.refl _ _ | exact (Below.refl _ _).drew)).mono ?_; rintro e w6 ⟨rfl, hr6⟩; have HR6 := Lib.hid hr6; clear hr6; dsimp only))
      all_goals
        go_wp2
        go_ret
        exact ⟨rfl, HR6.out⟩
    · have d0 : decide (m = 0) = false := decide_eq_false hm0
      have d1 : (m == 0) = false := beq_eq_false_iff_ne.2 hm0
      rw [hD1 hm0]
      clear hD0 hD1
      go_enter Tryz.func14, Tryz.ntmps14
      go_wp2_with fail
      refine HCR.out.mono ?_
      rintro e w1 ⟨rfl, hb1⟩
      have HB1 := Lib.hid (below_alloc2 hb1 (.cells #[.int .i64 x0, .int .i64 x1, .int .i64 x2, .int .i64 x3, .bool x4, .bool x5, .int .i64 x6, .int .i64 x7, .int .i64 x8, .int .i64 x9, .bool x10] 30))
      have HSZ := Lib.hid hb1.size
      have hr1 := heap_alloc_new w1 (.cells #[.int .i64 x0, .int .i64 x1, .int .i64 x2, .int .i64 x3, .bool x4, .bool x5, .int .i64 x6, .int .i64 x7, .int .i64 x8, .int .i64 x9, .bool x10] 30)
      obtain ⟨W1, hW1⟩ : ∃ W1, w1.alloc (.cells #[.int .i64 x0, .int .i64 x1, .int .i64 x2, .int .i64 x3, .bool x4, .bool x5, .int .i64 x6, .int .i64 x7, .int .i64 x8, .int .i64 x9, .bool x10] 30) = W1 := ⟨_, rfl⟩
      obtain ⟨qo, hqo⟩ : ∃ qo, w1.heap.size = qo := ⟨_, rfl⟩
      rw [hW1] at HB1 hr1
      rw [hqo] at hr1 HSZ
      have HR1 := Lib.hid hr1
      have p0 := cell_of_row W1 qo 0 _ _ _ hr1
      have p1 := cell_of_row W1 qo 1 _ _ _ hr1
      have p2 := cell_of_row W1 qo 2 _ _ _ hr1
      have p3 := cell_of_row W1 qo 3 _ _ _ hr1
      have p4 := cell_of_row W1 qo 4 _ _ _ hr1
      have p5 := cell_of_row W1 qo 5 _ _ _ hr1
      have p6 := cell_of_row W1 qo 6 _ _ _ hr1
      have p7 := cell_of_row W1 qo 7 _ _ _ hr1
      have p8 := cell_of_row W1 qo 8 _ _ _ hr1
      have p9 := cell_of_row W1 qo 9 _ _ _ hr1
      have p10 := cell_of_row W1 qo 10 _ _ _ hr1
      simp only [List.getElem?_toArray, List.getElem?_cons_succ, List.getElem?_cons_zero] at p0 p1 p2 p3 p4 p5 p6 p7 p8 p9 p10
      clear hb1 hr1
      dsimp only
      go_wp2_with fail
      refine (HMY.out _ HB1.out).mono ?_
      rintro e w2 ⟨rfl, hb2⟩
      have HB2 := Lib.hid (stepB HB1.out hb2)
      have HR2 := Lib.hid ((hb2.block qo (Crd.lt_of_row HR1.out)).trans HR1.out)
      clear hb2 p0 p1 p2 p3 p4 p5 p6 p7 p8 p9 p10 hW1 hqo HR1
      dsimp only
      clear HR2
      go_wp2
      go_ret
      exact HBS.out _ HB2.out
  · have hco : creO B.S i = zeroO := by unfold creO; rw [if_neg hc]
    have hE : blkE B team seat i at' = creE B.S i := if_neg hc
    have hD : blkD B team seat i at' = B := by unfold blkD; rw [hE, if_neg hc]
    rw [hE] at HBS ⊢
    rw [hD]
    rw [hco] at HCR
    obtain ⟨n, hn⟩ : ∃ n, creE B.S i = n := ⟨_, rfl⟩
    rw [hn] at HCR HBS hc ⊢
    have d0 : decide (n = 0) = false := decide_eq_false hc
    have d1 : (n == 0) = false := beq_eq_false_iff_ne.2 hc
    unfold RetGet oagg zeroO at HCR
    dsimp only at HCR
    clear h hE hD hco hn HMY
    go_enter Tryz.func14, Tryz.ntmps14
    go_wp2_with fail
    refine HCR.out.mono ?_
    rintro e w1 ⟨rfl, hb1⟩
    have HB := Lib.hid (below_alloc2 hb1 (.cells #[.int .i64 0, .int .i64 0, .int .i64 0, .int .i64 0, .bool false, .bool false, .int .i64 0, .int .i64 0, .int .i64 0, .int .i64 0, .bool false] 30))
    clear hb1
    dsimp only
    go_wp2
    go_ret
    exact HBS.out _ HB.out
end Go.Proofs.YtjgjhfeopmakaaaGreat
