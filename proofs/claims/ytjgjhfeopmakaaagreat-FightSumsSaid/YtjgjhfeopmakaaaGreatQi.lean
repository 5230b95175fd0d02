/- Attack and Block (layer 17). -/
import Derived.Test.YtjgjhfeopmakaaaGreatQd
import Derived.Deep.RegionHeld3
namespace Go.Proofs.YtjgjhfeopmakaaaGreat
open Go.RowKit Go.Maps
attribute [local go_sem] Oper.semAt_some

def setI (S : StoreL) (i : Int) (x : ObjL) : StoreL := setL S (i - 1).toNat x
structure LikeO (x y : ObjL) : Prop where
  id : x.id = y.id
  card : x.card = y.card
  owner : x.owner = y.owner
  zone : x.zone = y.zone
theorem setI_any {w : World} {lo : Nat} {g : GhostB} {B : BoardL} (h : BoardAt w lo g B) {i : Int} (hh : hasS B.S i) {x : ObjL} (hx : LikeO x (objOf B.S i)) : Calls Tryz.prog 12 #[.pointer (some ⟨g.b, 0, none⟩), oagg x] w (RetBd w lo g ⟨setI B.S i x, B.T, B.D⟩ (.int .i64 0)) := by
  have hl := h.len
  obtain ⟨k, rfl⟩ : ∃ k : Nat, i = (k : Int) + 1 := ⟨(i - 1).toNat, by have := hh.1; omega⟩
  have hk : k < B.S.objs.length := by have := hh.2; omega
  rw [objOf_at hk] at hx
  have e : setI B.S ((k : Int) + 1) x = { B.S with objs := B.S.objs.set k x } := by unfold setI setL; rw [show ((k : Int) + 1 - 1).toNat = k by omega]
  rw [e]
  have hid : x.id = (k : Int) + 1 := hx.id.trans (h.wf.ids k hk).1
  refine (set_any h.st (by omega) k hk x hid hx.card hx.owner hx.zone).mono fun _ _ hr => h.retS (h.wf.set hk hid hx.card hx.owner hx.zone) (by simp) rfl hr
def atkO (S : StoreL) (i : Int) : ObjL := ⟨(objOf S i).id, (objOf S i).card, (objOf S i).owner, (objOf S i).zone, !hasK S i 4, (objOf S i).sick, (objOf S i).hurt, (objOf S i).count, (objOf S i).boost, (objOf S i).block, true⟩
def atkE (B : BoardL) (team seat i : Int) : Int := if creE B.S i = 0 then mayAtk B.T team seat (objOf B.S i) else creE B.S i
def atkD (B : BoardL) (team seat i : Int) : BoardL := if atkE B team seat i = 0 then ⟨setI B.S i (atkO B.S i), B.T, B.D⟩ else B
theorem keepL13 {A w1 w2 : World} {a b0 b1 b2 b3 b4 b5 b6 b7 b8 b9 b10 : Addr} {u v0 v1 v2 v3 v4 v5 v6 v7 v8 v9 v10 : Value} (hb : Below w1.heap.size w1 w2) (h : Below A.heap.size A w1 ∧ w1.cell? a = some u ∧ w1.cell? b0 = some v0 ∧ w1.cell? b1 = some v1 ∧ w1.cell? b2 = some v2 ∧ w1.cell? b3 = some v3 ∧ w1.cell? b4 = some v4 ∧ w1.cell? b5 = some v5 ∧ w1.cell? b6 = some v6 ∧ w1.cell? b7 = some v7 ∧ w1.cell? b8 = some v8 ∧ w1.cell? b9 = some v9 ∧ w1.cell? b10 = some v10) :
    Below A.heap.size A w2 ∧ w2.cell? a = some u ∧ w2.cell? b0 = some v0 ∧ w2.cell? b1 = some v1 ∧ w2.cell? b2 = some v2 ∧ w2.cell? b3 = some v3 ∧ w2.cell? b4 = some v4 ∧ w2.cell? b5 = some v5 ∧ w2.cell? b6 = some v6 ∧ w2.cell? b7 = some v7 ∧ w2.cell? b8 = some v8 ∧ w2.cell? b9 = some v9 ∧ w2.cell? b10 = some v10 := by
  obtain ⟨h0, h1, h2, h3, h4, h5, h6, h7, h8, h9, h10, h11, h12⟩ := h
  exact ⟨stepB h0 hb, cell_stays hb h1, cell_stays hb h2, cell_stays hb h3, cell_stays hb h4, cell_stays hb h5, cell_stays hb h6, cell_stays hb h7, cell_stays hb h8, cell_stays hb h9, cell_stays hb h10, cell_stays hb h11, cell_stays hb h12⟩
set_option maxRecDepth 100000 in
theorem attack_nil (team seat i : Int) (w : World) : Calls Tryz.prog 11 #[.pointer none, .int .i64 team, .int .i64 seat, .int .i64 i] w (RetV w (.int .i64 1)) := by
  have H := Lib.hid (fcre_nil i w)
  unfold RetGet oagg zeroO at H
  dsimp only at H
  go_enter Tryz.func11, Tryz.ntmps11
  go_wp2_with fail
  refine H.out.mono ?_
  rintro e w1 ⟨rfl, hb1⟩
  have HB := Lib.hid (below_alloc2 hb1 (.cells #[.int .i64 0, .int .i64 0, .int .i64 0, .int .i64 0, .bool false, .bool false, .int .i64 0, .int .i64 0, .int .i64 0, .int .i64 0, .bool false] 30))
  clear hb1
  dsimp only
  go_wp2
  go_ret
  exact ⟨rfl, HB.out⟩
set_option maxRecDepth 100000 in
theorem block_nil (team seat i at' : Int) (w : World) : Calls Tryz.prog 14 #[.pointer none, .int .i64 team, .int .i64 seat, .int .i64 i, .int .i64 at'] w (RetV w (.int .i64 1)) := by
  have H := Lib.hid (fcre_nil i w)
  unfold RetGet oagg zeroO at H
  dsimp only at H
  go_enter Tryz.func14, Tryz.ntmps14
  go_wp2_with fail
  refine H.out.mono ?_
  rintro e w1 ⟨rfl, hb1⟩
  have HB := Lib.hid (below_alloc2 hb1 (.cells #[.int .i64 0, .int .i64 0, .int .i64 0, .int .i64 0, .bool false, .bool false, .int .i64 0, .int .i64 0, .int .i64 0, .int .i64 0, .bool false] 30))
  clear hb1
  dsimp only
  go_wp2
  go_ret
  exact ⟨rfl, HB.out⟩
set_option maxRecDepth 100000 in
set_option maxHeartbeats 16000000 in
theorem attack_any {w : World} {lo : Nat} {g : GhostB} {B : BoardL} (h : BoardAt w lo g B) (team seat i : Int) : Calls Tryz.prog 11 #[.pointer (some ⟨g.q, 0, none⟩), .int .i64 team, .int .i64 seat, .int .i64 i] w (RetBd w lo g (atkD B team seat i) (.int .i64 (atkE B team seat i))) := by
  have HH := Lib.hid h
  have HCR := Lib.hid (fcre_any h i)
  have HMY := Lib.hid (fun (W : World) (hb : Below w.heap.size w W) => mayAtk_any (h.later hb) team seat (objOf B.S i))
  have HHK := Lib.hid (fun (W : World) (hb : Below w.heap.size w W) => hasK_any (h.later hb) i 4)
  have HCC := Lib.hid (fun (W : World) (hb : Below w.heap.size w W) => (h.later hb).cells.1)
  have HBS := Lib.hid (fun (W : World) (hb : Below w.heap.size w W) => RetBd.same (B := B) h (e := .returned (.int .i64 (atkE B team seat i))) (v := .int .i64 (atkE B team seat i)) ⟨rfl, hb⟩)
  by_cases hc : creE B.S i = 0
  · have hco : creO B.S i = objOf B.S i := by unfold creO; rw [if_pos hc]
    have HST := Lib.hid (fun (W : World) (hb : Below w.heap.size w W) => (setI_any (h.later hb) (creE_has hc) (x := atkO B.S i) ⟨rfl, rfl, rfl, rfl⟩).mono fun _ _ hr => RetBd.of hr (TurnedB.of_below hb) rfl)
    have hE : atkE B team seat i = mayAtk B.T team seat (objOf B.S i) := if_pos hc
    rw [hc, hco] at HCR
    rw [hE] at HBS ⊢
    obtain ⟨m, hm⟩ : ∃ m, mayAtk B.T team seat (objOf B.S i) = m := ⟨_, rfl⟩
    rw [hm] at HMY HBS ⊢
    have hD0 : m = 0 → atkD B team seat i = ⟨setI B.S i (atkO B.S i), B.T, B.D⟩ := fun e => by unfold atkD; rw [hE, hm, if_pos e]
    have hD1 : m ≠ 0 → atkD B team seat i = B := fun e => by unfold atkD; rw [hE, hm, if_neg e]
    unfold atkO at hD0 HST
    obtain ⟨o, ho⟩ : ∃ o, objOf B.S i = o := ⟨_, rfl⟩
    obtain ⟨vg, hvg⟩ : ∃ vg, hasK B.S i 4 = vg := ⟨_, rfl⟩
    rw [ho] at HCR HMY hD0
    rw [hvg] at HHK hD0
    simp only [ho, hvg] at HST
    obtain ⟨x0, x1, x2, x3, x4, x5, x6, x7, x8, x9, x10⟩ := o
    unfold RetGet oagg at HCR
    unfold oagg at HMY HST
    dsimp only at HCR HMY HST hD0
    clear h hE hco hm hc ho hvg
    obtain ⟨q, b, tb, s, r0, G⟩ := g
    dsimp only at HH HCR HMY HHK HCC HBS HST ⊢
    by_cases hm0 : m = 0
    · subst hm0
      rw [hD0 rfl]
      clear hD0 hD1
      go_enter Tryz.func11, Tryz.ntmps11
      go_wp2_with fail
      refine HCR.out.mono ?_
      rintro e w1 ⟨rfl, hb1⟩
      have HB1 := Lib.hid (below_alloc2 hb1 (.cells #[.int .i64 x0, .int .i64 x1, .int .i64 x2, .int .i64 x3, .bool x4, .bool x5, .int .i64 x6, .int .i64 x7, .int .i64 x8, .int .i64 x9, .bool x10] 30))
      have HSZ := Lib.hid hb1.size
      have hr1 := heap_alloc_new w1 (.cells #[.int .i64 x0, .int .i64 x1, .int .i64 x2, .int .i64 x3, .bool x4, .bool x5, .int .i64 x6, .int .i64 x7, .int .i64 x8, .int .i64 x9, .bool x10] 30)
      obtain ⟨W1, hW1⟩ : ∃ W1, w1.alloc (.cells #[.int .i64 x0, .int .i64 x1, .int .i64 x2, .int .i64 x3, .bool x4, .bool x5, .int .i64 x6, .int .i64 x7, .int .i64 x8, .int .i64 x9, .bool x10] 30) = W1 := ⟨_, rfl⟩
      obtain ⟨qo, hqo⟩ : ∃ qo, w1.heap.size = qo := ⟨_, rfl⟩
      rw [hW1] at HB1 hr1
      rw [hqo] at hr1 HSZ
      have HR1 := Lib.hid hr1
      have p0 := cell_of_row W1 qo 0 _ _ _ hr1
      have p1 := cell_of_row W1 qo 1 _ _ _ hr1
      have p2 := cell_of_row W1 qo 2 _ _ _ hr1
      have p3 := cell_of_row W1 qo 3 _ _ _ hr1
      have p4 := cell_of_row W1 qo 4 _ _ _ hr1
      have p5 := cell_of_row W1 qo 5 _ _ _ hr1
      have p6 := cell_of_row W1 qo 6 _ _ _ hr1
      have p7 := cell_of_row W1 qo 7 _ _ _ hr1
      have p8 := cell_of_row W1 qo 8 _ _ _ hr1
      have p9 := cell_of_row W1 qo 9 _ _ _ hr1
      have p10 := cell_of_row W1 qo 10 _ _ _ hr1
      simp only [List.getElem?_toArray, List.getElem?_cons_succ, List.getElem?_cons_zero] at p0 p1 p2 p3 p4 p5 p6 p7 p8 p9 p10
      clear hb1 hr1
      dsimp only
      go_wp2_with fail
      refine (HMY.out _ HB1.out).mono ?_
      rintro e w2 ⟨rfl, hb2⟩
      have HB2 := Lib.hid (stepB HB1.out hb2)
      have HR2 := Lib.hid ((hb2.block qo (Crd.lt_of_row HR1.out)).trans HR1.out)
      clear hb2 p0 p1 p2 p3 p4 p5 p6 p7 p8 p9 p10 hW1 hqo HR1
      dsimp only
      have p10 := cell_of_row w2 qo 10 _ _ _ HR2.out
      have f10 := frozen_of_row w2 qo 10 _ _ HR2.out
      simp only [List.getElem?_toArray, List.getElem?_cons_succ, List.getElem?_cons_zero] at p10
      have hr3 := heap_setCell_same w2 qo 10 _ _ (.bool true) HR2.out
      have HB3 := Lib.hid (show Below w.heap.size w (w2.setCell ⟨qo, 10, none⟩ (.bool true)) from HB2.out.setCell HSZ.out _)
      obtain ⟨W3, hW3⟩ : ∃ W3, w2.setCell ⟨qo, 10, none⟩ (.bool true) = W3 := ⟨_, rfl⟩
      rw [hW3] at hr3 HB3
      have HR3 := Lib.hid (show W3.heap[qo]? = some (.cells #[.int .i64 x0, .int .i64 x1, .int .i64 x2, .int .i64 x3, .bool x4, .bool x5, .int .i64 x6, .int .i64 x7, .int .i64 x8, .int .i64 x9, .bool true] 30 (0, 0)) from hr3)
      clear hr3
      go_wp2_with fail
      refine (HHK.out _ HB3.out).mono ?_
      rintro e w4 ⟨rfl, hb4⟩
      have HB4 := Lib.hid (stepB HB3.out hb4)
      have HR4 := Lib.hid ((hb4.block qo (Crd.lt_of_row HR3.out)).trans HR3.out)
      clear hb4 p10 f10 hW3 HR3
      dsimp only
      have p4 := cell_of_row w4 qo 4 _ _ _ HR4.out
      have f4 := frozen_of_row w4 qo 4 _ _ HR4.out
      simp only [List.getElem?_toArray, List.getElem?_cons_succ, List.getElem?_cons_zero] at p4
      have hr5 := heap_setCell_same w4 qo 4 _ _ (.bool (!vg)) HR4.out
      have HB5 := Lib.hid (show Below w.heap.size w (w4.setCell ⟨qo, 4, none⟩ (.bool (!vg))) from HB4.out.setCell HSZ.out _)
      obtain ⟨W5, hW5⟩ : ∃ W5, w4.setCell ⟨qo, 4, none⟩ (.bool (!vg)) = W5 := ⟨_, rfl⟩
      rw [hW5] at hr5 HB5
      have hr5' : W5.heap[qo]? = some (.cells #[.int .i64 x0, .int .i64 x1, .int .i64 x2, .int .i64 x3, .bool (!vg), .bool x5, .int .i64 x6, .int .i64 x7, .int .i64 x8, .int .i64 x9, .bool true] 30 (0, 0)) := hr5
      go_upto_region 9 with fail
      try rw [hW5]
      clear hr5 p4 f4 hW5 HR4
      have p0 := cell_of_row W5 qo 0 _ _ _ hr5'
      have p1 := cell_of_row W5 qo 1 _ _ _ hr5'
      have p2 := cell_of_row W5 qo 2 _ _ _ hr5'
      have p3 := cell_of_row W5 qo 3 _ _ _ hr5'
      have p4 := cell_of_row W5 qo 4 _ _ _ hr5'
      have p5 := cell_of_row W5 qo 5 _ _ _ hr5'
      have p6 := cell_of_row W5 qo 6 _ _ _ hr5'
      have p7 := cell_of_row W5 qo 7 _ _ _ hr5'
      have p8 := cell_of_row W5 qo 8 _ _ _ hr5'
      have p9 := cell_of_row W5 qo 9 _ _ _ hr5'
      have p10 := cell_of_row W5 qo 10 _ _ _ hr5'
      simp only [List.getElem?_toArray, List.getElem?_cons_succ, List.getElem?_cons_zero] at p0 p1 p2 p3 p4 p5 p6 p7 p8 p9 p10
      have cb := HCC.out _ HB5.out
      have HSS := Lib.hid (fun (W : World) (hb : Below W5.heap.size W5 W) => HST.out W (stepB HB5.out hb))
      clear hr5'
      go_region_with ((go_at_call 12; refine (HSS.out _ (by first | exact Below.refl _ _ | exact (Below.refl _ _).drew)).mono ?_; rintro e w6 ⟨rfl, hr6⟩; have HR6 := Lib.hid hr6; clear hr6; dsimp only))
      all_goals
        go_wp2
        go_ret
        exact ⟨rfl, HR6.out⟩
    · have d0 : decide (m = 0) = false := decide_eq_false hm0
      have d1 : (m == 0) = false := beq_eq_false_iff_ne.2 hm0
      rw [hD1 hm0]
      clear hD0 hD1
      go_enter Tryz.func11, Tryz.ntmps11
      go_wp2_with fail
      refine HCR.out.mono ?_
      rintro e w1 ⟨rfl, hb1⟩
      have HB1 := Lib.hid (below_alloc2 hb1 (.cells #[.int .i64 x0, .int .i64 x1, .int .i64 x2, .int .i64 x3, .bool x4, .bool x5, .int .i64 x6, .int .i64 x7, .int .i64 x8, .int .i64 x9, .bool x10] 30))
      have HSZ := Lib.hid hb1.size
      have hr1 := heap_alloc_new w1 (.cells #[.int .i64 x0, .int .i64 x1, .int .i64 x2, .int .i64 x3, .bool x4, .bool x5, .int .i64 x6, .int .i64 x7, .int .i64 x8, .int .i64 x9, .bool x10] 30)
      obtain ⟨W1, hW1⟩ : ∃ W1, w1.alloc (.cells #[.int .i64 x0, .int .i64 x1, .int .i64 x2, .int .i64 x3, .bool x4, .bool x5, .int .i64 x6, .int .i64 x7, .int .i64 x8, .int .i64 x9, .bool x10] 30) = W1 := ⟨_, rfl⟩
      obtain ⟨qo, hqo⟩ : ∃ qo, w1.heap.size = qo := ⟨_, rfl⟩
      rw [hW1] at HB1 hr1
      rw [hqo] at hr1 HSZ
      have HR1 := Lib.hid hr1
      have p0 := cell_of_row W1 qo 0 _ _ _ hr1
      have p1 := cell_of_row W1 qo 1 _ _ _ hr1
      have p2 := cell_of_row W1 qo 2 _ _ _ hr1
      have p3 := cell_of_row W1 qo 3 _ _ _ hr1
      have p4 := cell_of_row W1 qo 4 _ _ _ hr1
      have p5 := cell_of_row W1 qo 5 _ _ _ hr1
      have p6 := cell_of_row W1 qo 6 _ _ _ hr1
      have p7 := cell_of_row W1 qo 7 _ _ _ hr1
      have p8 := cell_of_row W1 qo 8 _ _ _ hr1
      have p9 := cell_of_row W1 qo 9 _ _ _ hr1
      have p10 := cell_of_row W1 qo 10 _ _ _ hr1
      simp only [List.getElem?_toArray, List.getElem?_cons_succ, List.getElem?_cons_zero] at p0 p1 p2 p3 p4 p5 p6 p7 p8 p9 p10
      clear hb1 hr1
      dsimp only
      go_wp2_with fail
      refine (HMY.out _ HB1.out).mono ?_
      rintro e w2 ⟨rfl, hb2⟩
      have HB2 := Lib.hid (stepB HB1.out hb2)
      have HR2 := Lib.hid ((hb2.block qo (Crd.lt_of_row HR1.out)).trans HR1.out)
      clear hb2 p0 p1 p2 p3 p4 p5 p6 p7 p8 p9 p10 hW1 hqo HR1
      dsimp only
      clear HR2
      go_wp2
      go_ret
      exact HBS.out _ HB2.out
  · have hco : creO B.S i = zeroO := by unfold creO; rw [if_neg hc]
    have hE : atkE B team seat i = creE B.S i := if_neg hc
    have hD : atkD B team seat i = B := by unfold atkD; rw [hE, if_neg hc]
    rw [hE] at HBS ⊢
    rw [hD]
    rw [hco] at HCR
    obtain ⟨n, hn⟩ : ∃ n, creE B.S i = n := ⟨_, rfl⟩
    rw [hn] at HCR HBS hc ⊢
    have d0 : decide (n = 0) = false := decide_eq_false hc
    have d1 : (n == 0) = false := beq_eq_false_iff_ne.2 hc
    unfold RetGet oagg zeroO at HCR
    dsimp only at HCR
    clear h hE hD hco hn HMY
    go_enter Tryz.func11, Tryz.ntmps11
    go_wp2_with fail
    refine HCR.out.mono ?_
    rintro e w1 ⟨rfl, hb1⟩
    have HB := Lib.hid (below_alloc2 hb1 (.cells #[.int .i64 0, .int .i64 0, .int .i64 0, .int .i64 0, .bool false, .bool false, .int .i64 0, .int .i64 0, .int .i64 0, .int .i64 0, .bool false] 30))
    clear hb1
    dsimp only
    go_wp2
    go_ret
    exact HBS.out _ HB.out
end Go.Proofs.YtjgjhfeopmakaaaGreat
