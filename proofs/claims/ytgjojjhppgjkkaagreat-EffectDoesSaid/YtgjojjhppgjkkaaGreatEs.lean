/- The statements' own answer on what a term does (hydralaw11.same), walked operation by operation (layer 11). -/
import Derived.Test.YtgjojjhppgjkkaaGreatBi
import Derived.Test.YtgjojjhppgjkkaaGreatEa
import Derived.StillTailTactics
namespace Go.Proofs.YtgjojjhppgjkkaaGreat
open Go.RowKit Go.Maps
attribute [local go_sem] Oper.semAt_some

/-- What `same` answers: that it is so; the other board alone has changed. -/
def RetSm (w : World) (g' : GhostB) (e : Ending) (w' : World) : Prop := e = .returned (.bool true) ∧ ∃ g'', TurnedB w w' g' g''
/-- An object of the other board is set. -/
theorem set_bd {w : World} {lo : Nat} {g : GhostB} {B : BoardL} (h : BoardAt w lo g B) (k : Nat) (hk : k < B.S.objs.length) (x : ObjL) (h0 : x.id = (k : Int) + 1) (h1 : x.card = B.S.objs[k].card) (h2 : x.owner = B.S.objs[k].owner) (h3 : x.zone = B.S.objs[k].zone) :
    Calls Tryz.prog 41 #[.pointer (some ⟨g.b, 0, none⟩), oagg x] w (RetBd w lo g ⟨setL B.S k x, B.T, B.D⟩ (.int .i64 0)) :=
  (set_any h.st (by have := h.len; omega) k hk x h0 h1 h2 h3).mono fun _ _ hr => h.retS (h.wf.set hk h0 h1 h2 h3) (by simp [setL]) rfl hr
theorem BoardAt.setFar {w : World} {lo q j : Nat} {g : GhostB} {B : BoardL} (h : BoardAt w lo g B) (hq : ¬g.own q) (u : Value) : BoardAt (w.setCell ⟨q, j, none⟩ u) lo g B :=
  h.kept (by simp) fun k hk => heap_setCell_other w ⟨q, j, none⟩ k u (fun e => hq (by rw [← show k = q from e]; exact hk))
theorem keepB4 {A w w' : World} {a0 a1 a2 a3 : Addr} {v0 v1 v2 v3 : Value} (hb : Below w.heap.size w w') (h : Below A.heap.size A w ∧ w.cell? a0 = some v0 ∧ w.cell? a1 = some v1 ∧ w.cell? a2 = some v2 ∧ w.cell? a3 = some v3) :
    Below A.heap.size A w' ∧ w'.cell? a0 = some v0 ∧ w'.cell? a1 = some v1 ∧ w'.cell? a2 = some v2 ∧ w'.cell? a3 = some v3 :=
  ⟨stepB h.1 hb, cell_stays hb h.2.1, cell_stays hb h.2.2.1, cell_stays hb h.2.2.2.1, cell_stays hb h.2.2.2.2⟩
set_option maxRecDepth 100000 in
set_option maxHeartbeats 8000000 in
theorem same_2 {w : World} {lo lo' : Nat} {g g' : GhostB} {B : BoardL} (seat n on i : Int) (o : ObjL) (hb : BoardAt w lo g (⟨B.S, gainT B.T (ofT B.T seat) n, B.D⟩)) (hw : BoardAt w lo' g' B) (ha : ApartB g g') :
    Calls Tryz.prog 19 #[.pointer (some ⟨g.q, 0, none⟩), .pointer (some ⟨g'.q, 0, none⟩), .agg #[.int .i64 seat, .int .i64 2, .int .i64 n, .int .i64 on, .int .i64 i], oagg o] w (RetSm w g') := by
  have hb1 := below_new w (.cells #[.int .i64 seat, .int .i64 2, .int .i64 n, .int .i64 on, .int .i64 i] 26)
  have hb2 := below_alloc2 hb1 (.cells (ocs o) 35)
  obtain ⟨W, hW⟩ : ∃ W, (w.alloc (.cells #[.int .i64 seat, .int .i64 2, .int .i64 n, .int .i64 on, .int .i64 i] 26)).alloc (.cells (ocs o) 35) = W := ⟨_, rfl⟩
  have hq6 : W.heap[w.heap.size]? = some (.cells #[.int .i64 seat, .int .i64 2, .int .i64 n, .int .i64 on, .int .i64 i] 26) := by
    rw [← hW, Below.heap_alloc _ _ _ (by simp)]
    exact heap_alloc_new _ _
  have hq7 : W.heap[w.heap.size + 1]? = some (.cells (ocs o) 35) := by
    have := heap_alloc_new (w.alloc (.cells #[.int .i64 seat, .int .i64 2, .int .i64 n, .int .i64 on, .int .i64 i] 26)) (.cells (ocs o) 35)
    rw [World.size_alloc] at this
    rw [← hW]
    exact this
  rw [hW] at hb2
  have HSZ := Lib.hid (show W.heap.size = w.heap.size + 2 by rw [← hW]; simp)
  have hk := fun j => cell_of_row W w.heap.size j _ _ _ hq6
  have KD := Lib.hid (show W.cell? ⟨w.heap.size, 0, none⟩ = some (.int .i64 seat) ∧ W.cell? ⟨w.heap.size, 1, none⟩ = some (.int .i64 2) ∧ W.cell? ⟨w.heap.size, 2, none⟩ = some (.int .i64 n) ∧ W.cell? ⟨w.heap.size, 3, none⟩ = some (.int .i64 on) ∧ W.cell? ⟨w.heap.size, 4, none⟩ = some (.int .i64 i) from ⟨hk 0, hk 1, hk 2, hk 3, hk 4⟩)
  have HO7 := Lib.hid hq7
  have HB := Lib.hid (hb.later hb2)
  have HV := Lib.hid (hw.later hb2)
  have HA := Lib.hid ha
  have HBW := Lib.hid hb2
  have HLT := Lib.hid (show ∀ k, (g.own k ∨ g'.own k) → k < w.heap.size from fun k hk => hk.elim (fun h => hb.ownLt h) (fun h => hw.ownLt h))
  obtain ⟨x0, x1, x2, x3, x4, x5, x6, x7, x8, x9, x10⟩ := o
  unfold ocs at hW HO7
  unfold oagg
  dsimp only at hW HO7 ⊢
  have HW := Lib.hid hW
  clear hb1 hb2 hq6 hq7 hk hW hb hw ha
  go_enter Tryz.func19, Tryz.ntmps19
  go_upto_region 1 with fail
  rw [HW.out]
  obtain ⟨q6, hq6⟩ : ∃ q, w.heap.size = q := ⟨_, rfl⟩
  have HQ6 := Lib.hid hq6
  try simp only [World.size_alloc]
  rw [hq6] at KD HO7 HSZ HLT ⊢
  clear hq6
  obtain ⟨k0, k1, k2, k3, k4⟩ := KD.out
  obtain ⟨_, ct, -⟩ := HV.out.cells
  go_upto_region 2 with fail
  go_still_tail 6, (by kernel_rfl)
  have hd := (Below.refl W.heap.size W).drew
  change wpList _ _ _ _ _ (World.drew W)
  obtain ⟨wd, hwd⟩ : ∃ wd, W.drew = wd := ⟨_, rfl⟩
  rw [hwd] at hd ⊢
  have HBd := Lib.hid (HB.out.later hd)
  have HVd := Lib.hid (HV.out.later hd)
  have HBWd := Lib.hid (stepB HBW.out hd)
  have HO7d := Lib.hid ((hd.block _ (Array.getElem?_eq_some_iff.1 HO7.out).1).trans HO7.out)
  have HOF := Lib.hid (tof_any HVd.out.tm seat)
  have KDd := Lib.hid (keepC5 hd KD.out)
  obtain ⟨k0, k1, k2, k3, k4⟩ := KDd.out
  have HSd := Lib.hid (show q6 + 2 ≤ wd.heap.size from by have := hd.size; have := HSZ.out; omega)
  clear hd hwd ct HB HV HO7
  go_wp2_with fail
  refine HOF.out.mono ?_
  rintro e wd ⟨rfl, rfl⟩
  obtain ⟨cs, ct, -⟩ := HVd.out.cells
  obtain ⟨vv, hg⟩ := gain_bd HVd.out (ofT B.T seat) n
  have HG := Lib.hid hg
  have HBd2 := HBd
  have HBWe := HBWd
  clear hg
  go_wp2_with fail
  refine HG.out.mono ?_
  rintro e w3 ⟨rfl, g3, hr1, hr2, hr3⟩
  have hfar := HBd2.out.far HA.out.flip hr2
  have hsm := bsame_self hfar.1 hr1
  rw [hr3] at hsm
  have HSM := Lib.hid hsm
  have HTU := Lib.hid ((TurnedB.of_below HBWe.out).trans hr2)
  clear hr1 hr2 hr3 hfar hsm
  dsimp only
  go_wp2_with fail
  refine HSM.out.mono ?_
  rintro e w9 ⟨rfl, hb9⟩
  have HB9 := Lib.hid (HTU.out.trans (TurnedB.of_below hb9))
  clear hb9
  go_wp2
  go_ret
  exact ⟨rfl, _, HB9.out⟩
set_option maxRecDepth 100000 in
set_option maxHeartbeats 8000000 in
theorem same_6 {w : World} {lo lo' : Nat} {g g' : GhostB} {B : BoardL} (seat n on i : Int) (o : ObjL) (hb : BoardAt w lo g (⟨moveI B.S i 5, B.T, B.D⟩)) (hw : BoardAt w lo' g' B) (ha : ApartB g g') (hi : hasS B.S i) :
    Calls Tryz.prog 19 #[.pointer (some ⟨g.q, 0, none⟩), .pointer (some ⟨g'.q, 0, none⟩), .agg #[.int .i64 seat, .int .i64 6, .int .i64 n, .int .i64 on, .int .i64 i], oagg o] w (RetSm w g') := by
  have hb1 := below_new w (.cells #[.int .i64 seat, .int .i64 6, .int .i64 n, .int .i64 on, .int .i64 i] 26)
  have hb2 := below_alloc2 hb1 (.cells (ocs o) 35)
  obtain ⟨W, hW⟩ : ∃ W, (w.alloc (.cells #[.int .i64 seat, .int .i64 6, .int .i64 n, .int .i64 on, .int .i64 i] 26)).alloc (.cells (ocs o) 35) = W := ⟨_, rfl⟩
  have hq6 : W.heap[w.heap.size]? = some (.cells #[.int .i64 seat, .int .i64 6, .int .i64 n, .int .i64 on, .int .i64 i] 26) := by
    rw [← hW, Below.heap_alloc _ _ _ (by simp)]
    exact heap_alloc_new _ _
  have hq7 : W.heap[w.heap.size + 1]? = some (.cells (ocs o) 35) := by
    have := heap_alloc_new (w.alloc (.cells #[.int .i64 seat, .int .i64 6, .int .i64 n, .int .i64 on, .int .i64 i] 26)) (.cells (ocs o) 35)
    rw [World.size_alloc] at this
    rw [← hW]
    exact this
  rw [hW] at hb2
  have HSZ := Lib.hid (show W.heap.size = w.heap.size + 2 by rw [← hW]; simp)
  have hk := fun j => cell_of_row W w.heap.size j _ _ _ hq6
  have KD := Lib.hid (show W.cell? ⟨w.heap.size, 0, none⟩ = some (.int .i64 seat) ∧ W.cell? ⟨w.heap.size, 1, none⟩ = some (.int .i64 6) ∧ W.cell? ⟨w.heap.size, 2, none⟩ = some (.int .i64 n) ∧ W.cell? ⟨w.heap.size, 3, none⟩ = some (.int .i64 on) ∧ W.cell? ⟨w.heap.size, 4, none⟩ = some (.int .i64 i) from ⟨hk 0, hk 1, hk 2, hk 3, hk 4⟩)
  have HO7 := Lib.hid hq7
  have HB := Lib.hid (hb.later hb2)
  have HV := Lib.hid (hw.later hb2)
  have HA := Lib.hid ha
  have HBW := Lib.hid hb2
  have HLT := Lib.hid (show ∀ k, (g.own k ∨ g'.own k) → k < w.heap.size from fun k hk => hk.elim (fun h => hb.ownLt h) (fun h => hw.ownLt h))
  obtain ⟨x0, x1, x2, x3, x4, x5, x6, x7, x8, x9, x10⟩ := o
  unfold ocs at hW HO7
  unfold oagg
  dsimp only at hW HO7 ⊢
  have HW := Lib.hid hW
  clear hb1 hb2 hq6 hq7 hk hW hb hw ha
  go_enter Tryz.func19, Tryz.ntmps19
  go_upto_region 1 with fail
  rw [HW.out]
  obtain ⟨q6, hq6⟩ : ∃ q, w.heap.size = q := ⟨_, rfl⟩
  have HQ6 := Lib.hid hq6
  try simp only [World.size_alloc]
  rw [hq6] at KD HO7 HSZ HLT ⊢
  clear hq6
  obtain ⟨k0, k1, k2, k3, k4⟩ := KD.out
  obtain ⟨_, ct, -⟩ := HV.out.cells
  go_upto_region 2 with fail
  go_still_tail 6, (by kernel_rfl)
  have hd := (Below.refl W.heap.size W).drew
  change wpList _ _ _ _ _ (World.drew W)
  obtain ⟨wd, hwd⟩ : ∃ wd, W.drew = wd := ⟨_, rfl⟩
  rw [hwd] at hd ⊢
  have HBd := Lib.hid (HB.out.later hd)
  have HVd := Lib.hid (HV.out.later hd)
  have HBWd := Lib.hid (stepB HBW.out hd)
  have HO7d := Lib.hid ((hd.block _ (Array.getElem?_eq_some_iff.1 HO7.out).1).trans HO7.out)
  have HOF := Lib.hid (tof_any HVd.out.tm seat)
  have KDd := Lib.hid (keepC5 hd KD.out)
  obtain ⟨k0, k1, k2, k3, k4⟩ := KDd.out
  have HSd := Lib.hid (show q6 + 2 ≤ wd.heap.size from by have := hd.size; have := HSZ.out; omega)
  clear hd hwd ct HB HV HO7
  go_wp2_with fail
  refine HOF.out.mono ?_
  rintro e wd ⟨rfl, rfl⟩
  obtain ⟨cs, ct, -⟩ := HVd.out.cells
  have HG := Lib.hid (fun (w' : World) (hb : Below wd.heap.size wd w') => move_bd (HVd.out.later hb) i hi 5 (by omega) (by omega))
  go_upto_region 27 with fail
  go_still_tail 6, (by kernel_rfl)
  change wpList _ _ _ _ _ (World.drew wd)
  obtain ⟨we, hwe⟩ : ∃ we, wd.drew = we := ⟨_, rfl⟩
  have hd := (Below.refl wd.heap.size wd).drew
  rw [hwe] at hd ⊢
  have HBd2 := Lib.hid (HBd.out.later hd)
  have HBWe := Lib.hid (stepB HBWd.out hd)
  have HGe := Lib.hid (HG.out we hd)
  clear hd hwe HG
  go_wp2_with fail
  refine HGe.out.mono ?_
  rintro e w3 ⟨rfl, g3, hr1, hr2, hr3⟩
  have hfar := HBd2.out.far HA.out.flip hr2
  have hsm := bsame_self hfar.1 hr1
  rw [hr3] at hsm
  have HSM := Lib.hid hsm
  have HTU := Lib.hid ((TurnedB.of_below HBWe.out).trans hr2)
  clear hr1 hr2 hr3 hfar hsm
  dsimp only
  go_wp2_with fail
  refine HSM.out.mono ?_
  rintro e w9 ⟨rfl, hb9⟩
  have HB9 := Lib.hid (HTU.out.trans (TurnedB.of_below hb9))
  clear hb9
  go_wp2
  go_ret
  exact ⟨rfl, _, HB9.out⟩
set_option maxRecDepth 100000 in
set_option maxHeartbeats 8000000 in
theorem same_7 {w : World} {lo lo' : Nat} {g g' : GhostB} {B : BoardL} (seat n on i : Int) (o : ObjL) (hb : BoardAt w lo g (⟨moveI B.S i 2, B.T, B.D⟩)) (hw : BoardAt w lo' g' B) (ha : ApartB g g') (hi : hasS B.S i) :
    Calls Tryz.prog 19 #[.pointer (some ⟨g.q, 0, none⟩), .pointer (some ⟨g'.q, 0, none⟩), .agg #[.int .i64 seat, .int .i64 7, .int .i64 n, .int .i64 on, .int .i64 i], oagg o] w (RetSm w g') := by
  have hb1 := below_new w (.cells #[.int .i64 seat, .int .i64 7, .int .i64 n, .int .i64 on, .int .i64 i] 26)
  have hb2 := below_alloc2 hb1 (.cells (ocs o) 35)
  obtain ⟨W, hW⟩ : ∃ W, (w.alloc (.cells #[.int .i64 seat, .int .i64 7, .int .i64 n, .int .i64 on, .int .i64 i] 26)).alloc (.cells (ocs o) 35) = W := ⟨_, rfl⟩
  have hq6 : W.heap[w.heap.size]? = some (.cells #[.int .i64 seat, .int .i64 7, .int .i64 n, .int .i64 on, .int .i64 i] 26) := by
    rw [← hW, Below.heap_alloc _ _ _ (by simp)]
    exact heap_alloc_new _ _
  have hq7 : W.heap[w.heap.size + 1]? = some (.cells (ocs o) 35) := by
    have := heap_alloc_new (w.alloc (.cells #[.int .i64 seat, .int .i64 7, .int .i64 n, .int .i64 on, .int .i64 i] 26)) (.cells (ocs o) 35)
    rw [World.size_alloc] at this
    rw [← hW]
    exact this
  rw [hW] at hb2
  have HSZ := Lib.hid (show W.heap.size = w.heap.size + 2 by rw [← hW]; simp)
  have hk := fun j => cell_of_row W w.heap.size j _ _ _ hq6
  have KD := Lib.hid (show W.cell? ⟨w.heap.size, 0, none⟩ = some (.int .i64 seat) ∧ W.cell? ⟨w.heap.size, 1, none⟩ = some (.int .i64 7) ∧ W.cell? ⟨w.heap.size, 2, none⟩ = some (.int .i64 n) ∧ W.cell? ⟨w.heap.size, 3, none⟩ = some (.int .i64 on) ∧ W.cell? ⟨w.heap.size, 4, none⟩ = some (.int .i64 i) from ⟨hk 0, hk 1, hk 2, hk 3, hk 4⟩)
  have HO7 := Lib.hid hq7
  have HB := Lib.hid (hb.later hb2)
  have HV := Lib.hid (hw.later hb2)
  have HA := Lib.hid ha
  have HBW := Lib.hid hb2
  have HLT := Lib.hid (show ∀ k, (g.own k ∨ g'.own k) → k < w.heap.size from fun k hk => hk.elim (fun h => hb.ownLt h) (fun h => hw.ownLt h))
  obtain ⟨x0, x1, x2, x3, x4, x5, x6, x7, x8, x9, x10⟩ := o
  unfold ocs at hW HO7
  unfold oagg
  dsimp only at hW HO7 ⊢
  have HW := Lib.hid hW
  clear hb1 hb2 hq6 hq7 hk hW hb hw ha
  go_enter Tryz.func19, Tryz.ntmps19
  go_upto_region 1 with fail
  rw [HW.out]
  obtain ⟨q6, hq6⟩ : ∃ q, w.heap.size = q := ⟨_, rfl⟩
  have HQ6 := Lib.hid hq6
  try simp only [World.size_alloc]
  rw [hq6] at KD HO7 HSZ HLT ⊢
  clear hq6
  obtain ⟨k0, k1, k2, k3, k4⟩ := KD.out
  obtain ⟨_, ct, -⟩ := HV.out.cells
  go_upto_region 2 with fail
  go_still_tail 6, (by kernel_rfl)
  have hd := (Below.refl W.heap.size W).drew
  change wpList _ _ _ _ _ (World.drew W)
  obtain ⟨wd, hwd⟩ : ∃ wd, W.drew = wd := ⟨_, rfl⟩
  rw [hwd] at hd ⊢
  have HBd := Lib.hid (HB.out.later hd)
  have HVd := Lib.hid (HV.out.later hd)
  have HBWd := Lib.hid (stepB HBW.out hd)
  have HO7d := Lib.hid ((hd.block _ (Array.getElem?_eq_some_iff.1 HO7.out).1).trans HO7.out)
  have HOF := Lib.hid (tof_any HVd.out.tm seat)
  have KDd := Lib.hid (keepC5 hd KD.out)
  obtain ⟨k0, k1, k2, k3, k4⟩ := KDd.out
  have HSd := Lib.hid (show q6 + 2 ≤ wd.heap.size from by have := hd.size; have := HSZ.out; omega)
  clear hd hwd ct HB HV HO7
  go_wp2_with fail
  refine HOF.out.mono ?_
  rintro e wd ⟨rfl, rfl⟩
  obtain ⟨cs, ct, -⟩ := HVd.out.cells
  have HG := Lib.hid (fun (w' : World) (hb : Below wd.heap.size wd w') => move_bd (HVd.out.later hb) i hi 2 (by omega) (by omega))
  go_upto_region 29 with fail
  go_still_tail 6, (by kernel_rfl)
  change wpList _ _ _ _ _ (World.drew wd)
  obtain ⟨we, hwe⟩ : ∃ we, wd.drew = we := ⟨_, rfl⟩
  have hd := (Below.refl wd.heap.size wd).drew
  rw [hwe] at hd ⊢
  have HBd2 := Lib.hid (HBd.out.later hd)
  have HBWe := Lib.hid (stepB HBWd.out hd)
  have HGe := Lib.hid (HG.out we hd)
  clear hd hwe HG
  go_wp2_with fail
  refine HGe.out.mono ?_
  rintro e w3 ⟨rfl, g3, hr1, hr2, hr3⟩
  have hfar := HBd2.out.far HA.out.flip hr2
  have hsm := bsame_self hfar.1 hr1
  rw [hr3] at hsm
  have HSM := Lib.hid hsm
  have HTU := Lib.hid ((TurnedB.of_below HBWe.out).trans hr2)
  clear hr1 hr2 hr3 hfar hsm
  dsimp only
  go_wp2_with fail
  refine HSM.out.mono ?_
  rintro e w9 ⟨rfl, hb9⟩
  have HB9 := Lib.hid (HTU.out.trans (TurnedB.of_below hb9))
  clear hb9
  go_wp2
  go_ret
  exact ⟨rfl, _, HB9.out⟩
set_option maxRecDepth 100000 in
set_option maxHeartbeats 8000000 in
theorem same_1s {w : World} {lo lo' : Nat} {g g' : GhostB} {B : BoardL} (seat n on i : Int) (o : ObjL) (hb : BoardAt w lo g (⟨B.S, gainT B.T i (-n), B.D⟩)) (hw : BoardAt w lo' g' B) (ha : ApartB g g') (hon : Hid (on = 4)) (h0 : 0 ≤ n) (h20 : n ≤ 20) :
    Calls Tryz.prog 19 #[.pointer (some ⟨g.q, 0, none⟩), .pointer (some ⟨g'.q, 0, none⟩), .agg #[.int .i64 seat, .int .i64 1, .int .i64 n, .int .i64 on, .int .i64 i], oagg o] w (RetSm w g') := by
  have hb1 := below_new w (.cells #[.int .i64 seat, .int .i64 1, .int .i64 n, .int .i64 on, .int .i64 i] 26)
  have hb2 := below_alloc2 hb1 (.cells (ocs o) 35)
  obtain ⟨W, hW⟩ : ∃ W, (w.alloc (.cells #[.int .i64 seat, .int .i64 1, .int .i64 n, .int .i64 on, .int .i64 i] 26)).alloc (.cells (ocs o) 35) = W := ⟨_, rfl⟩
  have hq6 : W.heap[w.heap.size]? = some (.cells #[.int .i64 seat, .int .i64 1, .int .i64 n, .int .i64 on, .int .i64 i] 26) := by
    rw [← hW, Below.heap_alloc _ _ _ (by simp)]
    exact heap_alloc_new _ _
  have hq7 : W.heap[w.heap.size + 1]? = some (.cells (ocs o) 35) := by
    have := heap_alloc_new (w.alloc (.cells #[.int .i64 seat, .int .i64 1, .int .i64 n, .int .i64 on, .int .i64 i] 26)) (.cells (ocs o) 35)
    rw [World.size_alloc] at this
    rw [← hW]
    exact this
  rw [hW] at hb2
  have HSZ := Lib.hid (show W.heap.size = w.heap.size + 2 by rw [← hW]; simp)
  have hk := fun j => cell_of_row W w.heap.size j _ _ _ hq6
  have KD := Lib.hid (show W.cell? ⟨w.heap.size, 0, none⟩ = some (.int .i64 seat) ∧ W.cell? ⟨w.heap.size, 1, none⟩ = some (.int .i64 1) ∧ W.cell? ⟨w.heap.size, 2, none⟩ = some (.int .i64 n) ∧ W.cell? ⟨w.heap.size, 3, none⟩ = some (.int .i64 on) ∧ W.cell? ⟨w.heap.size, 4, none⟩ = some (.int .i64 i) from ⟨hk 0, hk 1, hk 2, hk 3, hk 4⟩)
  have HO7 := Lib.hid hq7
  have HB := Lib.hid (hb.later hb2)
  have HV := Lib.hid (hw.later hb2)
  have HA := Lib.hid ha
  have HBW := Lib.hid hb2
  have HLT := Lib.hid (show ∀ k, (g.own k ∨ g'.own k) → k < w.heap.size from fun k hk => hk.elim (fun h => hb.ownLt h) (fun h => hw.ownLt h))
  obtain ⟨x0, x1, x2, x3, x4, x5, x6, x7, x8, x9, x10⟩ := o
  unfold ocs at hW HO7
  unfold oagg
  dsimp only at hW HO7 ⊢
  have HW := Lib.hid hW
  clear hb1 hb2 hq6 hq7 hk hW hb hw ha
  go_enter Tryz.func19, Tryz.ntmps19
  go_upto_region 1 with fail
  rw [HW.out]
  obtain ⟨q6, hq6⟩ : ∃ q, w.heap.size = q := ⟨_, rfl⟩
  have HQ6 := Lib.hid hq6
  try simp only [World.size_alloc]
  rw [hq6] at KD HO7 HSZ HLT ⊢
  clear hq6
  obtain ⟨k0, k1, k2, k3, k4⟩ := KD.out
  obtain ⟨_, ct, -⟩ := HV.out.cells
  go_upto_region 2 with fail
  go_still_tail 6, (by kernel_rfl)
  have hd := (Below.refl W.heap.size W).drew
  change wpList _ _ _ _ _ (World.drew W)
  obtain ⟨wd, hwd⟩ : ∃ wd, W.drew = wd := ⟨_, rfl⟩
  rw [hwd] at hd ⊢
  have HBd := Lib.hid (HB.out.later hd)
  have HVd := Lib.hid (HV.out.later hd)
  have HBWd := Lib.hid (stepB HBW.out hd)
  have HO7d := Lib.hid ((hd.block _ (Array.getElem?_eq_some_iff.1 HO7.out).1).trans HO7.out)
  have HOF := Lib.hid (tof_any HVd.out.tm seat)
  have KDd := Lib.hid (keepC5 hd KD.out)
  obtain ⟨k0, k1, k2, k3, k4⟩ := KDd.out
  have HSd := Lib.hid (show q6 + 2 ≤ wd.heap.size from by have := hd.size; have := HSZ.out; omega)
  clear hd hwd ct HB HV HO7
  go_wp2_with fail
  refine HOF.out.mono ?_
  rintro e wd ⟨rfl, rfl⟩
  obtain ⟨cs, ct, -⟩ := HVd.out.cells
  have hon := hon.out
  subst hon
  have hwr : IntKind.i64.wrap (-n) = -n := IntWalk.i64_in _ (by omega)
  obtain ⟨vv, hg⟩ : ∃ vv, ∀ w' : World, Below wd.heap.size wd w' → Calls Tryz.prog 51 #[.pointer (some ⟨g'.tb, 0, none⟩), .int .i64 i, .int .i64 (-n)] w' (RetBd w' lo' g' ⟨B.S, gainT B.T i (-n), B.D⟩ (.int .i64 vv)) := ⟨_, fun w' hb => (tgain_any (HVd.out.later hb).tm i (-n)).mono fun _ _ hr => (HVd.out.later hb).retT (gain_sides _ _ _) hr⟩
  have HG := Lib.hid hg
  clear hg
  go_upto_region 6 with fail
  go_still_tail 8, (by kernel_rfl)
  change wpList _ _ _ _ _ (World.drew wd)
  obtain ⟨we, hwe⟩ : ∃ we, wd.drew = we := ⟨_, rfl⟩
  have hd := (Below.refl wd.heap.size wd).drew
  rw [hwe] at hd ⊢
  have HBd2 := Lib.hid (HBd.out.later hd)
  have HBWe := Lib.hid (stepB HBWd.out hd)
  have HGe := Lib.hid (HG.out we hd)
  clear hd hwe HG
  go_wp2_with fail
  refine HGe.out.mono ?_
  rintro e w3 ⟨rfl, g3, hr1, hr2, hr3⟩
  have hfar := HBd2.out.far HA.out.flip hr2
  have hsm := bsame_self hfar.1 hr1
  rw [hr3] at hsm
  have HSM := Lib.hid hsm
  have HTU := Lib.hid ((TurnedB.of_below HBWe.out).trans hr2)
  clear hr1 hr2 hr3 hfar hsm
  dsimp only
  go_wp2_with fail
  refine HSM.out.mono ?_
  rintro e w9 ⟨rfl, hb9⟩
  have HB9 := Lib.hid (HTU.out.trans (TurnedB.of_below hb9))
  clear hb9
  go_wp2
  go_ret
  exact ⟨rfl, _, HB9.out⟩
set_option maxRecDepth 100000 in
set_option maxHeartbeats 8000000 in
theorem same_9 {w : World} {lo lo' : Nat} {g g' : GhostB} {B : BoardL} (seat n on i : Int) (o : ObjL) (hb : BoardAt w lo g (⟨tapI B.S i, B.T, B.D⟩)) (hw : BoardAt w lo' g' B) (ha : ApartB g g') (hE : creE B.S i = 0) (ho : objOf B.S i = o) :
    Calls Tryz.prog 19 #[.pointer (some ⟨g.q, 0, none⟩), .pointer (some ⟨g'.q, 0, none⟩), .agg #[.int .i64 seat, .int .i64 9, .int .i64 n, .int .i64 on, .int .i64 i], oagg o] w (RetSm w g') := by
  have hb1 := below_new w (.cells #[.int .i64 seat, .int .i64 9, .int .i64 n, .int .i64 on, .int .i64 i] 26)
  have hb2 := below_alloc2 hb1 (.cells (ocs o) 35)
  obtain ⟨W, hW⟩ : ∃ W, (w.alloc (.cells #[.int .i64 seat, .int .i64 9, .int .i64 n, .int .i64 on, .int .i64 i] 26)).alloc (.cells (ocs o) 35) = W := ⟨_, rfl⟩
  have hq6 : W.heap[w.heap.size]? = some (.cells #[.int .i64 seat, .int .i64 9, .int .i64 n, .int .i64 on, .int .i64 i] 26) := by
    rw [← hW, Below.heap_alloc _ _ _ (by simp)]
    exact heap_alloc_new _ _
  have hq7 : W.heap[w.heap.size + 1]? = some (.cells (ocs o) 35) := by
    have := heap_alloc_new (w.alloc (.cells #[.int .i64 seat, .int .i64 9, .int .i64 n, .int .i64 on, .int .i64 i] 26)) (.cells (ocs o) 35)
    rw [World.size_alloc] at this
    rw [← hW]
    exact this
  rw [hW] at hb2
  have HSZ := Lib.hid (show W.heap.size = w.heap.size + 2 by rw [← hW]; simp)
  have hk := fun j => cell_of_row W w.heap.size j _ _ _ hq6
  have KD := Lib.hid (show W.cell? ⟨w.heap.size, 0, none⟩ = some (.int .i64 seat) ∧ W.cell? ⟨w.heap.size, 1, none⟩ = some (.int .i64 9) ∧ W.cell? ⟨w.heap.size, 2, none⟩ = some (.int .i64 n) ∧ W.cell? ⟨w.heap.size, 3, none⟩ = some (.int .i64 on) ∧ W.cell? ⟨w.heap.size, 4, none⟩ = some (.int .i64 i) from ⟨hk 0, hk 1, hk 2, hk 3, hk 4⟩)
  have HO7 := Lib.hid hq7
  have HB := Lib.hid (hb.later hb2)
  have HV := Lib.hid (hw.later hb2)
  have HA := Lib.hid ha
  have HBW := Lib.hid hb2
  have HLT := Lib.hid (show ∀ k, (g.own k ∨ g'.own k) → k < w.heap.size from fun k hk => hk.elim (fun h => hb.ownLt h) (fun h => hw.ownLt h))
  obtain ⟨x0, x1, x2, x3, x4, x5, x6, x7, x8, x9, x10⟩ := o
  unfold ocs at hW HO7
  unfold oagg
  dsimp only at hW HO7 ⊢
  have HW := Lib.hid hW
  clear hb1 hb2 hq6 hq7 hk hW hb hw ha
  go_enter Tryz.func19, Tryz.ntmps19
  go_upto_region 1 with fail
  rw [HW.out]
  obtain ⟨q6, hq6⟩ : ∃ q, w.heap.size = q := ⟨_, rfl⟩
  have HQ6 := Lib.hid hq6
  try simp only [World.size_alloc]
  rw [hq6] at KD HO7 HSZ HLT ⊢
  clear hq6
  obtain ⟨k0, k1, k2, k3, k4⟩ := KD.out
  obtain ⟨_, ct, -⟩ := HV.out.cells
  go_upto_region 2 with fail
  go_still_tail 6, (by kernel_rfl)
  have hd := (Below.refl W.heap.size W).drew
  change wpList _ _ _ _ _ (World.drew W)
  obtain ⟨wd, hwd⟩ : ∃ wd, W.drew = wd := ⟨_, rfl⟩
  rw [hwd] at hd ⊢
  have HBd := Lib.hid (HB.out.later hd)
  have HVd := Lib.hid (HV.out.later hd)
  have HBWd := Lib.hid (stepB HBW.out hd)
  have HO7d := Lib.hid ((hd.block _ (Array.getElem?_eq_some_iff.1 HO7.out).1).trans HO7.out)
  have HOF := Lib.hid (tof_any HVd.out.tm seat)
  have KDd := Lib.hid (keepC5 hd KD.out)
  obtain ⟨k0, k1, k2, k3, k4⟩ := KDd.out
  have HSd := Lib.hid (show q6 + 2 ≤ wd.heap.size from by have := hd.size; have := HSZ.out; omega)
  clear hd hwd ct HB HV HO7
  go_wp2_with fail
  refine HOF.out.mono ?_
  rintro e wd ⟨rfl, rfl⟩
  obtain ⟨cs, ct, -⟩ := HVd.out.cells
  obtain ⟨k, hk, hik, hok, _⟩ := creE_live hE
  rw [ho] at hok
  have hids := HVd.out.wf.ids k hk
  rw [← hok] at hids
  dsimp only at hids
  have HG : Hid (∀ w' : World, BoardAt w' lo' g' B → Calls Tryz.prog 41 #[.pointer (some ⟨g'.b, 0, none⟩), .agg #[.int .i64 x0, .int .i64 x1, .int .i64 x2, .int .i64 x3, .bool true, .bool x5, .int .i64 x6, .int .i64 x7, .int .i64 x8, .int .i64 x9, .bool x10]] w' (RetBd w' lo' g' ⟨setL B.S k ⟨x0, x1, x2, x3, true, x5, x6, x7, x8, x9, x10⟩, B.T, B.D⟩ (.int .i64 0))) := Lib.hid fun w' hb =>
    set_bd hb k hk ⟨x0, x1, x2, x3, true, x5, x6, x7, x8, x9, x10⟩ hids.1 (by rw [← hok]) (by rw [← hok]) (by rw [← hok])
  have HEQ := Lib.hid (show setL B.S k ⟨x0, x1, x2, x3, true, x5, x6, x7, x8, x9, x10⟩ = tapI B.S i from by rw [hik, tapI_at hk, ← hok]; rfl)
  have h7 := fun j => cell_of_row wd (q6 + 1) j _ _ _ HO7d.out
  have c6 : wd.cell? ⟨q6 + 1, 4, none⟩ = some (.bool x4) := h7 4
  have f6 : wd.frozen? ⟨q6 + 1, 4, none⟩ = false := frozen_of_row wd (q6 + 1) 4 _ _ HO7d.out
  have hno : ¬g.own (q6 + 1) ∧ ¬g'.own (q6 + 1) := ⟨fun e => by have := HLT.out _ (.inl e); omega, fun e => by have := HLT.out _ (.inr e); omega⟩
  clear h7 hE ho hok hids hik
  go_upto_region 39 with fail
  obtain ⟨we, hwe⟩ : ∃ we, wd.setCell ⟨q6 + 1, 4, none⟩ (.bool true) = we := ⟨_, rfl⟩
  have hrow := RowAt.set (xs := [.int .i64 x0, .int .i64 x1, .int .i64 x2, .int .i64 x3, .bool x4, .bool x5, .int .i64 x6, .int .i64 x7, .int .i64 x8, .int .i64 x9, .bool x10]) (show RowAt wd (q6 + 1) 35 [.int .i64 x0, .int .i64 x1, .int .i64 x2, .int .i64 x3, .bool x4, .bool x5, .int .i64 x6, .int .i64 x7, .int .i64 x8, .int .i64 x9, .bool x10] from HO7d.out) 4 (.bool true)
  have hbE := HBd.out.setFar (j := 4) hno.1 (.bool true)
  have hvE := HVd.out.setFar (j := 4) hno.2 (.bool true)
  have hBE := HBWd.out.setCell (p := ⟨q6 + 1, 4, none⟩) (by show w.heap.size ≤ q6 + 1; have := HQ6.out; omega) (.bool true)
  rw [hwe] at hrow hbE hvE hBE
  try rw [hwe]
  have hrc := fun (j : Nat) (hj : j < 11) => RowAt.cell hrow j (by simpa using hj)
  have r0 := hrc 0 (by omega)
  have r1 := hrc 1 (by omega)
  have r2 := hrc 2 (by omega)
  have r3 := hrc 3 (by omega)
  have r4 := hrc 4 (by omega)
  have r5 := hrc 5 (by omega)
  have r6 := hrc 6 (by omega)
  have r7 := hrc 7 (by omega)
  have r8 := hrc 8 (by omega)
  have r9 := hrc 9 (by omega)
  have r10 := hrc 10 (by omega)
  simp only [List.set_cons_succ, List.set_cons_zero, List.getElem_cons_succ, List.getElem_cons_zero] at r0 r1 r2 r3 r4 r5 r6 r7 r8 r9 r10
  obtain ⟨cs, -⟩ := hvE.cells
  have HBE := Lib.hid hbE
  have HVE := Lib.hid hvE
  have HBWE := Lib.hid hBE
  clear hwe hrow hrc hbE hvE hBE c6 f6 k0 k1 k2 k3 k4 ct HBd HVd HBWd HO7d
  go_still_tail 5, (by kernel_rfl)
  change wpList _ _ _ _ _ (World.drew we)
  obtain ⟨wf, hwf⟩ : ∃ wf, we.drew = wf := ⟨_, rfl⟩
  have hd := (Below.refl we.heap.size we).drew
  rw [hwf] at hd ⊢
  have HBd2 := Lib.hid (HBE.out.later hd)
  have HBWe := Lib.hid (stepB HBWE.out hd)
  have HGe := Lib.hid (HG.out wf (HVE.out.later hd))
  rw [HEQ.out] at HGe
  clear hd hwf HG r0 r1 r2 r3 r4 r5 r6 r7 r8 r9 r10 cs
  go_wp2_with fail
  refine HGe.out.mono ?_
  rintro e w3 ⟨rfl, g3, hr1, hr2, hr3⟩
  have hfar := HBd2.out.far HA.out.flip hr2
  have hsm := bsame_self hfar.1 hr1
  rw [hr3] at hsm
  have HSM := Lib.hid hsm
  have HTU := Lib.hid ((TurnedB.of_below HBWe.out).trans hr2)
  clear hr1 hr2 hr3 hfar hsm
  dsimp only
  go_wp2_with fail
  refine HSM.out.mono ?_
  rintro e w9 ⟨rfl, hb9⟩
  have HB9 := Lib.hid (HTU.out.trans (TurnedB.of_below hb9))
  clear hb9
  go_wp2
  go_ret
  exact ⟨rfl, _, HB9.out⟩
set_option maxRecDepth 100000 in
set_option maxHeartbeats 8000000 in
theorem same_4 {w : World} {lo lo' : Nat} {g g' : GhostB} {B : BoardL} (seat n on i : Int) (o : ObjL) (hb : BoardAt w lo g (⟨boostS B.S i n, B.T, B.D⟩)) (hw : BoardAt w lo' g' B) (ha : ApartB g g') (hE : creE B.S i = 0) (ho : objOf B.S i = o) :
    Calls Tryz.prog 19 #[.pointer (some ⟨g.q, 0, none⟩), .pointer (some ⟨g'.q, 0, none⟩), .agg #[.int .i64 seat, .int .i64 4, .int .i64 n, .int .i64 on, .int .i64 i], oagg o] w (RetSm w g') := by
  have hb1 := below_new w (.cells #[.int .i64 seat, .int .i64 4, .int .i64 n, .int .i64 on, .int .i64 i] 26)
  have hb2 := below_alloc2 hb1 (.cells (ocs o) 35)
  obtain ⟨W, hW⟩ : ∃ W, (w.alloc (.cells #[.int .i64 seat, .int .i64 4, .int .i64 n, .int .i64 on, .int .i64 i] 26)).alloc (.cells (ocs o) 35) = W := ⟨_, rfl⟩
  have hq6 : W.heap[w.heap.size]? = some (.cells #[.int .i64 seat, .int .i64 4, .int .i64 n, .int .i64 on, .int .i64 i] 26) := by
    rw [← hW, Below.heap_alloc _ _ _ (by simp)]
    exact heap_alloc_new _ _
  have hq7 : W.heap[w.heap.size + 1]? = some (.cells (ocs o) 35) := by
    have := heap_alloc_new (w.alloc (.cells #[.int .i64 seat, .int .i64 4, .int .i64 n, .int .i64 on, .int .i64 i] 26)) (.cells (ocs o) 35)
    rw [World.size_alloc] at this
    rw [← hW]
    exact this
  rw [hW] at hb2
  have HSZ := Lib.hid (show W.heap.size = w.heap.size + 2 by rw [← hW]; simp)
  have hk := fun j => cell_of_row W w.heap.size j _ _ _ hq6
  have KD := Lib.hid (show W.cell? ⟨w.heap.size, 0, none⟩ = some (.int .i64 seat) ∧ W.cell? ⟨w.heap.size, 1, none⟩ = some (.int .i64 4) ∧ W.cell? ⟨w.heap.size, 2, none⟩ = some (.int .i64 n) ∧ W.cell? ⟨w.heap.size, 3, none⟩ = some (.int .i64 on) ∧ W.cell? ⟨w.heap.size, 4, none⟩ = some (.int .i64 i) from ⟨hk 0, hk 1, hk 2, hk 3, hk 4⟩)
  have HO7 := Lib.hid hq7
  have HB := Lib.hid (hb.later hb2)
  have HV := Lib.hid (hw.later hb2)
  have HA := Lib.hid ha
  have HBW := Lib.hid hb2
  have HLT := Lib.hid (show ∀ k, (g.own k ∨ g'.own k) → k < w.heap.size from fun k hk => hk.elim (fun h => hb.ownLt h) (fun h => hw.ownLt h))
  obtain ⟨x0, x1, x2, x3, x4, x5, x6, x7, x8, x9, x10⟩ := o
  unfold ocs at hW HO7
  unfold oagg
  dsimp only at hW HO7 ⊢
  have HW := Lib.hid hW
  clear hb1 hb2 hq6 hq7 hk hW hb hw ha
  go_enter Tryz.func19, Tryz.ntmps19
  go_upto_region 1 with fail
  rw [HW.out]
  obtain ⟨q6, hq6⟩ : ∃ q, w.heap.size = q := ⟨_, rfl⟩
  have HQ6 := Lib.hid hq6
  try simp only [World.size_alloc]
  rw [hq6] at KD HO7 HSZ HLT ⊢
  clear hq6
  obtain ⟨k0, k1, k2, k3, k4⟩ := KD.out
  obtain ⟨_, ct, -⟩ := HV.out.cells
  go_upto_region 2 with fail
  go_still_tail 6, (by kernel_rfl)
  have hd := (Below.refl W.heap.size W).drew
  change wpList _ _ _ _ _ (World.drew W)
  obtain ⟨wd, hwd⟩ : ∃ wd, W.drew = wd := ⟨_, rfl⟩
  rw [hwd] at hd ⊢
  have HBd := Lib.hid (HB.out.later hd)
  have HVd := Lib.hid (HV.out.later hd)
  have HBWd := Lib.hid (stepB HBW.out hd)
  have HO7d := Lib.hid ((hd.block _ (Array.getElem?_eq_some_iff.1 HO7.out).1).trans HO7.out)
  have HOF := Lib.hid (tof_any HVd.out.tm seat)
  have KDd := Lib.hid (keepC5 hd KD.out)
  obtain ⟨k0, k1, k2, k3, k4⟩ := KDd.out
  have HSd := Lib.hid (show q6 + 2 ≤ wd.heap.size from by have := hd.size; have := HSZ.out; omega)
  clear hd hwd ct HB HV HO7
  go_wp2_with fail
  refine HOF.out.mono ?_
  rintro e wd ⟨rfl, rfl⟩
  obtain ⟨cs, ct, -⟩ := HVd.out.cells
  obtain ⟨k, hk, hik, hok, _⟩ := creE_live hE
  rw [ho] at hok
  have hids := HVd.out.wf.ids k hk
  rw [← hok] at hids
  dsimp only at hids
  obtain ⟨vv, hvv⟩ : ∃ vv, addZ x8 n = vv := ⟨_, rfl⟩
  have HAD := Lib.hid (refAdd_any x8 n wd)
  rw [hvv] at HAD
  have HG : Hid (∀ w' : World, BoardAt w' lo' g' B → Calls Tryz.prog 41 #[.pointer (some ⟨g'.b, 0, none⟩), .agg #[.int .i64 x0, .int .i64 x1, .int .i64 x2, .int .i64 x3, .bool x4, .bool x5, .int .i64 x6, .int .i64 x7, .int .i64 vv, .int .i64 x9, .bool x10]] w' (RetBd w' lo' g' ⟨setL B.S k ⟨x0, x1, x2, x3, x4, x5, x6, x7, vv, x9, x10⟩, B.T, B.D⟩ (.int .i64 0))) := Lib.hid fun w' hb =>
    set_bd hb k hk ⟨x0, x1, x2, x3, x4, x5, x6, x7, vv, x9, x10⟩ hids.1 (by rw [← hok]) (by rw [← hok]) (by rw [← hok])
  have HEQ := Lib.hid (show setL B.S k ⟨x0, x1, x2, x3, x4, x5, x6, x7, vv, x9, x10⟩ = boostS B.S i n from by rw [hik, boostS_at n (by rw [← hik]; exact hE), ← hik, ho, ← hvv]; rfl)
  have h7 := fun j => cell_of_row wd (q6 + 1) j _ _ _ HO7d.out
  have c6 : wd.cell? ⟨q6 + 1, 8, none⟩ = some (.int .i64 x8) := h7 8
  have f6 : wd.frozen? ⟨q6 + 1, 8, none⟩ = false := frozen_of_row wd (q6 + 1) 8 _ _ HO7d.out
  have hno : ¬g.own (q6 + 1) ∧ ¬g'.own (q6 + 1) := ⟨fun e => by have := HLT.out _ (.inl e); omega, fun e => by have := HLT.out _ (.inr e); omega⟩
  clear h7 hE ho hok hids hik
  go_wp2_with fail
  refine HAD.out.mono ?_
  rintro e wd ⟨rfl, rfl⟩
  go_upto_region 22 with fail
  obtain ⟨we, hwe⟩ : ∃ we, wd.setCell ⟨q6 + 1, 8, none⟩ (.int .i64 vv) = we := ⟨_, rfl⟩
  have hrow := RowAt.set (xs := [.int .i64 x0, .int .i64 x1, .int .i64 x2, .int .i64 x3, .bool x4, .bool x5, .int .i64 x6, .int .i64 x7, .int .i64 x8, .int .i64 x9, .bool x10]) (show RowAt wd (q6 + 1) 35 [.int .i64 x0, .int .i64 x1, .int .i64 x2, .int .i64 x3, .bool x4, .bool x5, .int .i64 x6, .int .i64 x7, .int .i64 x8, .int .i64 x9, .bool x10] from HO7d.out) 8 (.int .i64 vv)
  have hbE := HBd.out.setFar (j := 8) hno.1 (.int .i64 vv)
  have hvE := HVd.out.setFar (j := 8) hno.2 (.int .i64 vv)
  have hBE := HBWd.out.setCell (p := ⟨q6 + 1, 8, none⟩) (by show w.heap.size ≤ q6 + 1; have := HQ6.out; omega) (.int .i64 vv)
  rw [hwe] at hrow hbE hvE hBE
  try rw [hwe]
  have hrc := fun (j : Nat) (hj : j < 11) => RowAt.cell hrow j (by simpa using hj)
  have r0 := hrc 0 (by omega)
  have r1 := hrc 1 (by omega)
  have r2 := hrc 2 (by omega)
  have r3 := hrc 3 (by omega)
  have r4 := hrc 4 (by omega)
  have r5 := hrc 5 (by omega)
  have r6 := hrc 6 (by omega)
  have r7 := hrc 7 (by omega)
  have r8 := hrc 8 (by omega)
  have r9 := hrc 9 (by omega)
  have r10 := hrc 10 (by omega)
  simp only [List.set_cons_succ, List.set_cons_zero, List.getElem_cons_succ, List.getElem_cons_zero] at r0 r1 r2 r3 r4 r5 r6 r7 r8 r9 r10
  obtain ⟨cs, -⟩ := hvE.cells
  have HBE := Lib.hid hbE
  have HVE := Lib.hid hvE
  have HBWE := Lib.hid hBE
  clear hwe hrow hrc hbE hvE hBE c6 f6 k0 k1 k2 k3 k4 ct HBd HVd HBWd HO7d
  go_still_tail 5, (by kernel_rfl)
  change wpList _ _ _ _ _ (World.drew we)
  obtain ⟨wf, hwf⟩ : ∃ wf, we.drew = wf := ⟨_, rfl⟩
  have hd := (Below.refl we.heap.size we).drew
  rw [hwf] at hd ⊢
  have HBd2 := Lib.hid (HBE.out.later hd)
  have HBWe := Lib.hid (stepB HBWE.out hd)
  have HGe := Lib.hid (HG.out wf (HVE.out.later hd))
  rw [HEQ.out] at HGe
  clear hd hwf HG r0 r1 r2 r3 r4 r5 r6 r7 r8 r9 r10 cs
  go_wp2_with fail
  refine HGe.out.mono ?_
  rintro e w3 ⟨rfl, g3, hr1, hr2, hr3⟩
  have hfar := HBd2.out.far HA.out.flip hr2
  have hsm := bsame_self hfar.1 hr1
  rw [hr3] at hsm
  have HSM := Lib.hid hsm
  have HTU := Lib.hid ((TurnedB.of_below HBWe.out).trans hr2)
  clear hr1 hr2 hr3 hfar hsm
  dsimp only
  go_wp2_with fail
  refine HSM.out.mono ?_
  rintro e w9 ⟨rfl, hb9⟩
  have HB9 := Lib.hid (HTU.out.trans (TurnedB.of_below hb9))
  clear hb9
  go_wp2
  go_ret
  exact ⟨rfl, _, HB9.out⟩
set_option maxRecDepth 100000 in
set_option maxHeartbeats 8000000 in
theorem same_5 {w : World} {lo lo' : Nat} {g g' : GhostB} {B : BoardL} (seat n on i : Int) (o : ObjL) (hb : BoardAt w lo g (⟨countS B.S i n, B.T, B.D⟩)) (hw : BoardAt w lo' g' B) (ha : ApartB g g') (hE : creE B.S i = 0) (ho : objOf B.S i = o) :
    Calls Tryz.prog 19 #[.pointer (some ⟨g.q, 0, none⟩), .pointer (some ⟨g'.q, 0, none⟩), .agg #[.int .i64 seat, .int .i64 5, .int .i64 n, .int .i64 on, .int .i64 i], oagg o] w (RetSm w g') := by
  have hb1 := below_new w (.cells #[.int .i64 seat, .int .i64 5, .int .i64 n, .int .i64 on, .int .i64 i] 26)
  have hb2 := below_alloc2 hb1 (.cells (ocs o) 35)
  obtain ⟨W, hW⟩ : ∃ W, (w.alloc (.cells #[.int .i64 seat, .int .i64 5, .int .i64 n, .int .i64 on, .int .i64 i] 26)).alloc (.cells (ocs o) 35) = W := ⟨_, rfl⟩
  have hq6 : W.heap[w.heap.size]? = some (.cells #[.int .i64 seat, .int .i64 5, .int .i64 n, .int .i64 on, .int .i64 i] 26) := by
    rw [← hW, Below.heap_alloc _ _ _ (by simp)]
    exact heap_alloc_new _ _
  have hq7 : W.heap[w.heap.size + 1]? = some (.cells (ocs o) 35) := by
    have := heap_alloc_new (w.alloc (.cells #[.int .i64 seat, .int .i64 5, .int .i64 n, .int .i64 on, .int .i64 i] 26)) (.cells (ocs o) 35)
    rw [World.size_alloc] at this
    rw [← hW]
    exact this
  rw [hW] at hb2
  have HSZ := Lib.hid (show W.heap.size = w.heap.size + 2 by rw [← hW]; simp)
  have hk := fun j => cell_of_row W w.heap.size j _ _ _ hq6
  have KD := Lib.hid (show W.cell? ⟨w.heap.size, 0, none⟩ = some (.int .i64 seat) ∧ W.cell? ⟨w.heap.size, 1, none⟩ = some (.int .i64 5) ∧ W.cell? ⟨w.heap.size, 2, none⟩ = some (.int .i64 n) ∧ W.cell? ⟨w.heap.size, 3, none⟩ = some (.int .i64 on) ∧ W.cell? ⟨w.heap.size, 4, none⟩ = some (.int .i64 i) from ⟨hk 0, hk 1, hk 2, hk 3, hk 4⟩)
  have HO7 := Lib.hid hq7
  have HB := Lib.hid (hb.later hb2)
  have HV := Lib.hid (hw.later hb2)
  have HA := Lib.hid ha
  have HBW := Lib.hid hb2
  have HLT := Lib.hid (show ∀ k, (g.own k ∨ g'.own k) → k < w.heap.size from fun k hk => hk.elim (fun h => hb.ownLt h) (fun h => hw.ownLt h))
  obtain ⟨x0, x1, x2, x3, x4, x5, x6, x7, x8, x9, x10⟩ := o
  unfold ocs at hW HO7
  unfold oagg
  dsimp only at hW HO7 ⊢
  have HW := Lib.hid hW
  clear hb1 hb2 hq6 hq7 hk hW hb hw ha
  go_enter Tryz.func19, Tryz.ntmps19
  go_upto_region 1 with fail
  rw [HW.out]
  obtain ⟨q6, hq6⟩ : ∃ q, w.heap.size = q := ⟨_, rfl⟩
  have HQ6 := Lib.hid hq6
  try simp only [World.size_alloc]
  rw [hq6] at KD HO7 HSZ HLT ⊢
  clear hq6
  obtain ⟨k0, k1, k2, k3, k4⟩ := KD.out
  obtain ⟨_, ct, -⟩ := HV.out.cells
  go_upto_region 2 with fail
  go_still_tail 6, (by kernel_rfl)
  have hd := (Below.refl W.heap.size W).drew
  change wpList _ _ _ _ _ (World.drew W)
  obtain ⟨wd, hwd⟩ : ∃ wd, W.drew = wd := ⟨_, rfl⟩
  rw [hwd] at hd ⊢
  have HBd := Lib.hid (HB.out.later hd)
  have HVd := Lib.hid (HV.out.later hd)
  have HBWd := Lib.hid (stepB HBW.out hd)
  have HO7d := Lib.hid ((hd.block _ (Array.getElem?_eq_some_iff.1 HO7.out).1).trans HO7.out)
  have HOF := Lib.hid (tof_any HVd.out.tm seat)
  have KDd := Lib.hid (keepC5 hd KD.out)
  obtain ⟨k0, k1, k2, k3, k4⟩ := KDd.out
  have HSd := Lib.hid (show q6 + 2 ≤ wd.heap.size from by have := hd.size; have := HSZ.out; omega)
  clear hd hwd ct HB HV HO7
  go_wp2_with fail
  refine HOF.out.mono ?_
  rintro e wd ⟨rfl, rfl⟩
  obtain ⟨cs, ct, -⟩ := HVd.out.cells
  obtain ⟨k, hk, hik, hok, _⟩ := creE_live hE
  rw [ho] at hok
  have hids := HVd.out.wf.ids k hk
  rw [← hok] at hids
  dsimp only at hids
  obtain ⟨vv, hvv⟩ : ∃ vv, addZ x7 n = vv := ⟨_, rfl⟩
  have HAD := Lib.hid (refAdd_any x7 n wd)
  rw [hvv] at HAD
  have HG : Hid (∀ w' : World, BoardAt w' lo' g' B → Calls Tryz.prog 41 #[.pointer (some ⟨g'.b, 0, none⟩), .agg #[.int .i64 x0, .int .i64 x1, .int .i64 x2, .int .i64 x3, .bool x4, .bool x5, .int .i64 x6, .int .i64 vv, .int .i64 x8, .int .i64 x9, .bool x10]] w' (RetBd w' lo' g' ⟨setL B.S k ⟨x0, x1, x2, x3, x4, x5, x6, vv, x8, x9, x10⟩, B.T, B.D⟩ (.int .i64 0))) := Lib.hid fun w' hb =>
    set_bd hb k hk ⟨x0, x1, x2, x3, x4, x5, x6, vv, x8, x9, x10⟩ hids.1 (by rw [← hok]) (by rw [← hok]) (by rw [← hok])
  have HEQ := Lib.hid (show setL B.S k ⟨x0, x1, x2, x3, x4, x5, x6, vv, x8, x9, x10⟩ = countS B.S i n from by rw [hik, countS_at n (by rw [← hik]; exact hE), ← hik, ho, ← hvv]; rfl)
  have h7 := fun j => cell_of_row wd (q6 + 1) j _ _ _ HO7d.out
  have c6 : wd.cell? ⟨q6 + 1, 7, none⟩ = some (.int .i64 x7) := h7 7
  have f6 : wd.frozen? ⟨q6 + 1, 7, none⟩ = false := frozen_of_row wd (q6 + 1) 7 _ _ HO7d.out
  have hno : ¬g.own (q6 + 1) ∧ ¬g'.own (q6 + 1) := ⟨fun e => by have := HLT.out _ (.inl e); omega, fun e => by have := HLT.out _ (.inr e); omega⟩
  clear h7 hE ho hok hids hik
  go_wp2_with fail
  refine HAD.out.mono ?_
  rintro e wd ⟨rfl, rfl⟩
  go_upto_region 25 with fail
  obtain ⟨we, hwe⟩ : ∃ we, wd.setCell ⟨q6 + 1, 7, none⟩ (.int .i64 vv) = we := ⟨_, rfl⟩
  have hrow := RowAt.set (xs := [.int .i64 x0, .int .i64 x1, .int .i64 x2, .int .i64 x3, .bool x4, .bool x5, .int .i64 x6, .int .i64 x7, .int .i64 x8, .int .i64 x9, .bool x10]) (show RowAt wd (q6 + 1) 35 [.int .i64 x0, .int .i64 x1, .int .i64 x2, .int .i64 x3, .bool x4, .bool x5, .int .i64 x6, .int .i64 x7, .int .i64 x8, .int .i64 x9, .bool x10] from HO7d.out) 7 (.int .i64 vv)
  have hbE := HBd.out.setFar (j := 7) hno.1 (.int .i64 vv)
  have hvE := HVd.out.setFar (j := 7) hno.2 (.int .i64 vv)
  have hBE := HBWd.out.setCell (p := ⟨q6 + 1, 7, none⟩) (by show w.heap.size ≤ q6 + 1; have := HQ6.out; omega) (.int .i64 vv)
  rw [hwe] at hrow hbE hvE hBE
  try rw [hwe]
  have hrc := fun (j : Nat) (hj : j < 11) => RowAt.cell hrow j (by simpa using hj)
  have r0 := hrc 0 (by omega)
  have r1 := hrc 1 (by omega)
  have r2 := hrc 2 (by omega)
  have r3 := hrc 3 (by omega)
  have r4 := hrc 4 (by omega)
  have r5 := hrc 5 (by omega)
  have r6 := hrc 6 (by omega)
  have r7 := hrc 7 (by omega)
  have r8 := hrc 8 (by omega)
  have r9 := hrc 9 (by omega)
  have r10 := hrc 10 (by omega)
  simp only [List.set_cons_succ, List.set_cons_zero, List.getElem_cons_succ, List.getElem_cons_zero] at r0 r1 r2 r3 r4 r5 r6 r7 r8 r9 r10
  obtain ⟨cs, -⟩ := hvE.cells
  have HBE := Lib.hid hbE
  have HVE := Lib.hid hvE
  have HBWE := Lib.hid hBE
  clear hwe hrow hrc hbE hvE hBE c6 f6 k0 k1 k2 k3 k4 ct HBd HVd HBWd HO7d
  go_still_tail 5, (by kernel_rfl)
  change wpList _ _ _ _ _ (World.drew we)
  obtain ⟨wf, hwf⟩ : ∃ wf, we.drew = wf := ⟨_, rfl⟩
  have hd := (Below.refl we.heap.size we).drew
  rw [hwf] at hd ⊢
  have HBd2 := Lib.hid (HBE.out.later hd)
  have HBWe := Lib.hid (stepB HBWE.out hd)
  have HGe := Lib.hid (HG.out wf (HVE.out.later hd))
  rw [HEQ.out] at HGe
  clear hd hwf HG r0 r1 r2 r3 r4 r5 r6 r7 r8 r9 r10 cs
  go_wp2_with fail
  refine HGe.out.mono ?_
  rintro e w3 ⟨rfl, g3, hr1, hr2, hr3⟩
  have hfar := HBd2.out.far HA.out.flip hr2
  have hsm := bsame_self hfar.1 hr1
  rw [hr3] at hsm
  have HSM := Lib.hid hsm
  have HTU := Lib.hid ((TurnedB.of_below HBWe.out).trans hr2)
  clear hr1 hr2 hr3 hfar hsm
  dsimp only
  go_wp2_with fail
  refine HSM.out.mono ?_
  rintro e w9 ⟨rfl, hb9⟩
  have HB9 := Lib.hid (HTU.out.trans (TurnedB.of_below hb9))
  clear hb9
  go_wp2
  go_ret
  exact ⟨rfl, _, HB9.out⟩
set_option maxRecDepth 100000 in
set_option maxHeartbeats 8000000 in
theorem same_1c {w : World} {lo lo' : Nat} {g g' : GhostB} {B : BoardL} (seat n on i : Int) (o : ObjL) (hb : BoardAt w lo g (⟨hurtS B.S i n, B.T, B.D⟩)) (hw : BoardAt w lo' g' B) (ha : ApartB g g') (hE : creE B.S i = 0) (ho : objOf B.S i = o) (hon : on ≠ 4) :
    Calls Tryz.prog 19 #[.pointer (some ⟨g.q, 0, none⟩), .pointer (some ⟨g'.q, 0, none⟩), .agg #[.int .i64 seat, .int .i64 1, .int .i64 n, .int .i64 on, .int .i64 i], oagg o] w (RetSm w g') := by
  have hb1 := below_new w (.cells #[.int .i64 seat, .int .i64 1, .int .i64 n, .int .i64 on, .int .i64 i] 26)
  have hb2 := below_alloc2 hb1 (.cells (ocs o) 35)
  obtain ⟨W, hW⟩ : ∃ W, (w.alloc (.cells #[.int .i64 seat, .int .i64 1, .int .i64 n, .int .i64 on, .int .i64 i] 26)).alloc (.cells (ocs o) 35) = W := ⟨_, rfl⟩
  have hq6 : W.heap[w.heap.size]? = some (.cells #[.int .i64 seat, .int .i64 1, .int .i64 n, .int .i64 on, .int .i64 i] 26) := by
    rw [← hW, Below.heap_alloc _ _ _ (by simp)]
    exact heap_alloc_new _ _
  have hq7 : W.heap[w.heap.size + 1]? = some (.cells (ocs o) 35) := by
    have := heap_alloc_new (w.alloc (.cells #[.int .i64 seat, .int .i64 1, .int .i64 n, .int .i64 on, .int .i64 i] 26)) (.cells (ocs o) 35)
    rw [World.size_alloc] at this
    rw [← hW]
    exact this
  rw [hW] at hb2
  have HSZ := Lib.hid (show W.heap.size = w.heap.size + 2 by rw [← hW]; simp)
  have hk := fun j => cell_of_row W w.heap.size j _ _ _ hq6
  have KD := Lib.hid (show W.cell? ⟨w.heap.size, 0, none⟩ = some (.int .i64 seat) ∧ W.cell? ⟨w.heap.size, 1, none⟩ = some (.int .i64 1) ∧ W.cell? ⟨w.heap.size, 2, none⟩ = some (.int .i64 n) ∧ W.cell? ⟨w.heap.size, 3, none⟩ = some (.int .i64 on) ∧ W.cell? ⟨w.heap.size, 4, none⟩ = some (.int .i64 i) from ⟨hk 0, hk 1, hk 2, hk 3, hk 4⟩)
  have HO7 := Lib.hid hq7
  have HB := Lib.hid (hb.later hb2)
  have HV := Lib.hid (hw.later hb2)
  have HA := Lib.hid ha
  have HBW := Lib.hid hb2
  have HLT := Lib.hid (show ∀ k, (g.own k ∨ g'.own k) → k < w.heap.size from fun k hk => hk.elim (fun h => hb.ownLt h) (fun h => hw.ownLt h))
  obtain ⟨x0, x1, x2, x3, x4, x5, x6, x7, x8, x9, x10⟩ := o
  unfold ocs at hW HO7
  unfold oagg
  dsimp only at hW HO7 ⊢
  have HW := Lib.hid hW
  clear hb1 hb2 hq6 hq7 hk hW hb hw ha
  go_enter Tryz.func19, Tryz.ntmps19
  go_upto_region 1 with fail
  rw [HW.out]
  obtain ⟨q6, hq6⟩ : ∃ q, w.heap.size = q := ⟨_, rfl⟩
  have HQ6 := Lib.hid hq6
  try simp only [World.size_alloc]
  rw [hq6] at KD HO7 HSZ HLT ⊢
  clear hq6
  obtain ⟨k0, k1, k2, k3, k4⟩ := KD.out
  obtain ⟨_, ct, -⟩ := HV.out.cells
  go_upto_region 2 with fail
  go_still_tail 6, (by kernel_rfl)
  have hd := (Below.refl W.heap.size W).drew
  change wpList _ _ _ _ _ (World.drew W)
  obtain ⟨wd, hwd⟩ : ∃ wd, W.drew = wd := ⟨_, rfl⟩
  rw [hwd] at hd ⊢
  have HBd := Lib.hid (HB.out.later hd)
  have HVd := Lib.hid (HV.out.later hd)
  have HBWd := Lib.hid (stepB HBW.out hd)
  have HO7d := Lib.hid ((hd.block _ (Array.getElem?_eq_some_iff.1 HO7.out).1).trans HO7.out)
  have HOF := Lib.hid (tof_any HVd.out.tm seat)
  have KDd := Lib.hid (keepC5 hd KD.out)
  obtain ⟨k0, k1, k2, k3, k4⟩ := KDd.out
  have HSd := Lib.hid (show q6 + 2 ≤ wd.heap.size from by have := hd.size; have := HSZ.out; omega)
  clear hd hwd ct HB HV HO7
  go_wp2_with fail
  refine HOF.out.mono ?_
  rintro e wd ⟨rfl, rfl⟩
  obtain ⟨cs, ct, -⟩ := HVd.out.cells
  obtain ⟨k, hk, hik, hok, _⟩ := creE_live hE
  rw [ho] at hok
  have hids := HVd.out.wf.ids k hk
  rw [← hok] at hids
  dsimp only at hids
  have eon : (on == 4) = false := beq_eq_false_iff_ne.2 hon
  obtain ⟨vv, hvv⟩ : ∃ vv, max (addZ x6 n) 0 = vv := ⟨_, rfl⟩
  have HVV := Lib.hid hvv
  have HAD := Lib.hid (refAdd_any x6 n wd)
  have HG : Hid (∀ w' : World, BoardAt w' lo' g' B → Calls Tryz.prog 41 #[.pointer (some ⟨g'.b, 0, none⟩), .agg #[.int .i64 x0, .int .i64 x1, .int .i64 x2, .int .i64 x3, .bool x4, .bool x5, .int .i64 vv, .int .i64 x7, .int .i64 x8, .int .i64 x9, .bool x10]] w' (RetBd w' lo' g' ⟨setL B.S k ⟨x0, x1, x2, x3, x4, x5, vv, x7, x8, x9, x10⟩, B.T, B.D⟩ (.int .i64 0))) := Lib.hid fun w' hb =>
    set_bd hb k hk ⟨x0, x1, x2, x3, x4, x5, vv, x7, x8, x9, x10⟩ hids.1 (by rw [← hok]) (by rw [← hok]) (by rw [← hok])
  have HEQ := Lib.hid (show setL B.S k ⟨x0, x1, x2, x3, x4, x5, vv, x7, x8, x9, x10⟩ = hurtS B.S i n from by rw [hik, hurtS_at n (by rw [← hik]; exact hE), ← hik, ho, ← hvv]; rfl)
  have h7 := fun j => cell_of_row wd (q6 + 1) j _ _ _ HO7d.out
  have c6 : wd.cell? ⟨q6 + 1, 6, none⟩ = some (.int .i64 x6) := h7 6
  have f6 : wd.frozen? ⟨q6 + 1, 6, none⟩ = false := frozen_of_row wd (q6 + 1) 6 _ _ HO7d.out
  have hno : ¬g.own (q6 + 1) ∧ ¬g'.own (q6 + 1) := ⟨fun e => by have := HLT.out _ (.inl e); omega, fun e => by have := HLT.out _ (.inr e); omega⟩
  clear h7 hE ho hok hids hik
  go_wp2_with fail
  refine HAD.out.mono ?_
  rintro e wd ⟨rfl, rfl⟩
  go_upto_region 8 with fail
  try rw [HVV.out]
  obtain ⟨we, hwe⟩ : ∃ we, wd.setCell ⟨q6 + 1, 6, none⟩ (.int .i64 vv) = we := ⟨_, rfl⟩
  have hrow := RowAt.set (xs := [.int .i64 x0, .int .i64 x1, .int .i64 x2, .int .i64 x3, .bool x4, .bool x5, .int .i64 x6, .int .i64 x7, .int .i64 x8, .int .i64 x9, .bool x10]) (show RowAt wd (q6 + 1) 35 [.int .i64 x0, .int .i64 x1, .int .i64 x2, .int .i64 x3, .bool x4, .bool x5, .int .i64 x6, .int .i64 x7, .int .i64 x8, .int .i64 x9, .bool x10] from HO7d.out) 6 (.int .i64 vv)
  have hbE := HBd.out.setFar (j := 6) hno.1 (.int .i64 vv)
  have hvE := HVd.out.setFar (j := 6) hno.2 (.int .i64 vv)
  have hBE := HBWd.out.setCell (p := ⟨q6 + 1, 6, none⟩) (by show w.heap.size ≤ q6 + 1; have := HQ6.out; omega) (.int .i64 vv)
  rw [hwe] at hrow hbE hvE hBE
  try rw [hwe]
  have hrc := fun (j : Nat) (hj : j < 11) => RowAt.cell hrow j (by simpa using hj)
  have r0 := hrc 0 (by omega)
  have r1 := hrc 1 (by omega)
  have r2 := hrc 2 (by omega)
  have r3 := hrc 3 (by omega)
  have r4 := hrc 4 (by omega)
  have r5 := hrc 5 (by omega)
  have r6 := hrc 6 (by omega)
  have r7 := hrc 7 (by omega)
  have r8 := hrc 8 (by omega)
  have r9 := hrc 9 (by omega)
  have r10 := hrc 10 (by omega)
  simp only [List.set_cons_succ, List.set_cons_zero, List.getElem_cons_succ, List.getElem_cons_zero] at r0 r1 r2 r3 r4 r5 r6 r7 r8 r9 r10
  obtain ⟨cs, -⟩ := hvE.cells
  have HBE := Lib.hid hbE
  have HVE := Lib.hid hvE
  have HBWE := Lib.hid hBE
  clear hwe hrow hrc hbE hvE hBE c6 f6 k0 k1 k2 k3 k4 ct HBd HVd HBWd HO7d
  go_still_tail 5, (by kernel_rfl)
  change wpList _ _ _ _ _ (World.drew we)
  obtain ⟨wf, hwf⟩ : ∃ wf, we.drew = wf := ⟨_, rfl⟩
  have hd := (Below.refl we.heap.size we).drew
  rw [hwf] at hd ⊢
  have HBd2 := Lib.hid (HBE.out.later hd)
  have HBWe := Lib.hid (stepB HBWE.out hd)
  have HGe := Lib.hid (HG.out wf (HVE.out.later hd))
  rw [HEQ.out] at HGe
  clear hd hwf HG r0 r1 r2 r3 r4 r5 r6 r7 r8 r9 r10 cs
  go_wp2_with fail
  refine HGe.out.mono ?_
  rintro e w3 ⟨rfl, g3, hr1, hr2, hr3⟩
  have hfar := HBd2.out.far HA.out.flip hr2
  have hsm := bsame_self hfar.1 hr1
  rw [hr3] at hsm
  have HSM := Lib.hid hsm
  have HTU := Lib.hid ((TurnedB.of_below HBWe.out).trans hr2)
  clear hr1 hr2 hr3 hfar hsm
  dsimp only
  go_wp2_with fail
  refine HSM.out.mono ?_
  rintro e w9 ⟨rfl, hb9⟩
  have HB9 := Lib.hid (HTU.out.trans (TurnedB.of_below hb9))
  clear hb9
  go_wp2
  go_ret
  exact ⟨rfl, _, HB9.out⟩
set_option maxRecDepth 100000 in
set_option maxHeartbeats 8000000 in
theorem same_8 {w : World} {lo lo' : Nat} {g g' : GhostB} {B : BoardL} (seat n on i : Int) (o : ObjL) (hb : BoardAt w lo g (⟨B.S, drainT B.T seat n, B.D⟩)) (hw : BoardAt w lo' g' B) (ha : ApartB g g') (h0 : 0 ≤ n) (h20 : n ≤ 20) (hf : Hid (foesT B.T (ofT B.T seat) = upTo (fun j => ((j : Nat) : Int) != ofT B.T seat) B.T.sh.length)) :
    Calls Tryz.prog 19 #[.pointer (some ⟨g.q, 0, none⟩), .pointer (some ⟨g'.q, 0, none⟩), .agg #[.int .i64 seat, .int .i64 8, .int .i64 n, .int .i64 on, .int .i64 i], oagg o] w (RetSm w g') := by
  have hb1 := below_new w (.cells #[.int .i64 seat, .int .i64 8, .int .i64 n, .int .i64 on, .int .i64 i] 26)
  have hb2 := below_alloc2 hb1 (.cells (ocs o) 35)
  obtain ⟨W, hW⟩ : ∃ W, (w.alloc (.cells #[.int .i64 seat, .int .i64 8, .int .i64 n, .int .i64 on, .int .i64 i] 26)).alloc (.cells (ocs o) 35) = W := ⟨_, rfl⟩
  have hq6 : W.heap[w.heap.size]? = some (.cells #[.int .i64 seat, .int .i64 8, .int .i64 n, .int .i64 on, .int .i64 i] 26) := by
    rw [← hW, Below.heap_alloc _ _ _ (by simp)]
    exact heap_alloc_new _ _
  have hq7 : W.heap[w.heap.size + 1]? = some (.cells (ocs o) 35) := by
    have := heap_alloc_new (w.alloc (.cells #[.int .i64 seat, .int .i64 8, .int .i64 n, .int .i64 on, .int .i64 i] 26)) (.cells (ocs o) 35)
    rw [World.size_alloc] at this
    rw [← hW]
    exact this
  rw [hW] at hb2
  have HSZ := Lib.hid (show W.heap.size = w.heap.size + 2 by rw [← hW]; simp)
  have hk := fun j => cell_of_row W w.heap.size j _ _ _ hq6
  have KD := Lib.hid (show W.cell? ⟨w.heap.size, 0, none⟩ = some (.int .i64 seat) ∧ W.cell? ⟨w.heap.size, 1, none⟩ = some (.int .i64 8) ∧ W.cell? ⟨w.heap.size, 2, none⟩ = some (.int .i64 n) ∧ W.cell? ⟨w.heap.size, 3, none⟩ = some (.int .i64 on) ∧ W.cell? ⟨w.heap.size, 4, none⟩ = some (.int .i64 i) from ⟨hk 0, hk 1, hk 2, hk 3, hk 4⟩)
  have HO7 := Lib.hid hq7
  have HB := Lib.hid (hb.later hb2)
  have HV := Lib.hid (hw.later hb2)
  have HA := Lib.hid ha
  have HBW := Lib.hid hb2
  have HLT := Lib.hid (show ∀ k, (g.own k ∨ g'.own k) → k < w.heap.size from fun k hk => hk.elim (fun h => hb.ownLt h) (fun h => hw.ownLt h))
  obtain ⟨x0, x1, x2, x3, x4, x5, x6, x7, x8, x9, x10⟩ := o
  unfold ocs at hW HO7
  unfold oagg
  dsimp only at hW HO7 ⊢
  have HW := Lib.hid hW
  clear hb1 hb2 hq6 hq7 hk hW hb hw ha
  go_enter Tryz.func19, Tryz.ntmps19
  go_upto_region 1 with fail
  rw [HW.out]
  obtain ⟨q6, hq6⟩ : ∃ q, w.heap.size = q := ⟨_, rfl⟩
  have HQ6 := Lib.hid hq6
  try simp only [World.size_alloc]
  rw [hq6] at KD HO7 HSZ HLT ⊢
  clear hq6
  obtain ⟨k0, k1, k2, k3, k4⟩ := KD.out
  obtain ⟨_, ct, -⟩ := HV.out.cells
  go_upto_region 2 with fail
  go_still_tail 6, (by kernel_rfl)
  have hd := (Below.refl W.heap.size W).drew
  change wpList _ _ _ _ _ (World.drew W)
  obtain ⟨wd, hwd⟩ : ∃ wd, W.drew = wd := ⟨_, rfl⟩
  rw [hwd] at hd ⊢
  have HBd := Lib.hid (HB.out.later hd)
  have HVd := Lib.hid (HV.out.later hd)
  have HBWd := Lib.hid (stepB HBW.out hd)
  have HO7d := Lib.hid ((hd.block _ (Array.getElem?_eq_some_iff.1 HO7.out).1).trans HO7.out)
  have HOF := Lib.hid (tof_any HVd.out.tm seat)
  have KDd := Lib.hid (keepC5 hd KD.out)
  obtain ⟨k0, k1, k2, k3, k4⟩ := KDd.out
  have HSd := Lib.hid (show q6 + 2 ≤ wd.heap.size from by have := hd.size; have := HSZ.out; omega)
  clear hd hwd ct HB HV HO7
  go_wp2_with fail
  refine HOF.out.mono ?_
  rintro e wd ⟨rfl, rfl⟩
  obtain ⟨cs, ct, -⟩ := HVd.out.cells
  have hwr : IntKind.i64.wrap (-n) = -n := IntWalk.i64_in _ (by omega)
  have HLN := Lib.hid (tlen_any HVd.out.tm)
  have hN4 := HVd.out.tm.n2
  have hfo := hf.out
  unfold drainT at HBd
  obtain ⟨ow, how⟩ : ∃ ow, ofT B.T seat = ow := ⟨_, rfl⟩
  rw [how] at hfo HBd ⊢
  rw [hfo] at HBd
  obtain ⟨N, hN⟩ : ∃ N, B.T.sh.length = N := ⟨_, rfl⟩
  rw [hN] at HLN HBd hN4
  clear hfo how hN hf
  go_wp2_with fail
  refine HLN.out.mono ?_
  rintro e wd ⟨rfl, rfl⟩
  go_wp2
  go_loopw [172] (fun j wr => ∃ (k : Nat) (gw : GhostB), k ≤ N ∧ j = .int .i64 (k : Int) ∧ Hid (BoardAt wr lo' gw ⟨B.S, drainL B.T n (upTo (fun j => ((j : Nat) : Int) != ow) k), B.D⟩) ∧ Hid (TurnedB wd wr g' gw) ∧ gw.q = g'.q) (fun j _ => N - (intOf j).toNat)
  case atStart => exact ⟨0, g', Nat.zero_le _, rfl, HVd, Lib.hid (TurnedB.of_below (Below.refl _ _)), rfl⟩
  case round =>
    obtain ⟨k, gw, hk, rfl, HV', HT', hq⟩ := hrel
    by_cases hlt : k < N
    · have d0 : decide ((k : Int) < N) = true := decide_eq_true (by omega)
      by_cases hko : (k : Int) = ow
      · have e0 : ((k : Int) != ow) = false := by rw [hko]; exact bne_self_eq_false _
        have HNO := Lib.hid (upTo_no (p := fun j => ((j : Nat) : Int) != ow) (k := k) e0)
        clear hko
        go_wp2
        go_roundw
        case rel => exact ⟨k + 1, gw, by omega, by go_num, Lib.hid (by rw [HNO.out]; exact HV'.out), HT', hq⟩
        case measure => simp [intOf]; omega
      · have e0 : ((k : Int) != ow) = true := bne_iff_ne.2 hko
        have HYES := Lib.hid (upTo_yes (p := fun j => ((j : Nat) : Int) != ow) (k := k) e0)
        have HSN := Lib.hid (drain_snoc B.T n (upTo (fun j => ((j : Nat) : Int) != ow) k) (k : Int))
        obtain ⟨vv, hg⟩ := gain_bd HV'.out (k : Int) (-n)
        have HG := Lib.hid hg
        obtain ⟨_, ct, -⟩ := HV'.out.cells
        rw [hq] at ct
        clear hg hko
        go_wp2_with fail
        refine HG.out.mono ?_
        rintro e w3 ⟨rfl, g3, hr1, hr2, hr3⟩
        have HR := Lib.hid (And.intro hr1 (And.intro (HT'.out.trans hr2) (hr3.trans hq)))
        clear hr1 hr2 hr3 HG ct
        dsimp only
        go_wp2
        go_roundw
        case rel => exact ⟨k + 1, g3, by omega, by go_num, Lib.hid (by rw [HYES.out, HSN.out]; exact HR.out.1), Lib.hid HR.out.2.1, HR.out.2.2⟩
        case measure => simp [intOf]; omega
    · obtain rfl : k = N := by omega
      have d0 : decide ((k : Int) < k) = false := decide_eq_false (by omega)
      have hr1 := HV'.out
      have hr2 := HT'.out
      have hr3 := hq
      have HBd2 := HBd
      have HBWe := HBWd
      have hfar := HBd2.out.far HA.out.flip hr2
      have hsm := bsame_self hfar.1 hr1
      rw [hr3] at hsm
      have HSM := Lib.hid hsm
      have HTU := Lib.hid ((TurnedB.of_below HBWe.out).trans hr2)
      clear hr1 hr2 hr3 hfar hsm
      go_wp2_with fail
      refine HSM.out.mono ?_
      rintro e w9 ⟨rfl, hb9⟩
      have HB9 := Lib.hid (HTU.out.trans (TurnedB.of_below hb9))
      clear hb9
      go_wp2
      go_ret
      exact ⟨rfl, _, HB9.out⟩
set_option maxRecDepth 100000 in
set_option maxHeartbeats 8000000 in
theorem same_3 {w : World} {lo lo' : Nat} {g g' : GhostB} {B : BoardL} (seat n on i : Int) (o : ObjL) (hb : BoardAt w lo g (drawB B seat.toNat n)) (hw : BoardAt w lo' g' B) (ha : ApartB g g') (h0 : 0 ≤ n) (h20 : n ≤ 20) (hs : Hid (hasT B seat = true)) (hd0 : Hid (B.D = dry0)) :
    Calls Tryz.prog 19 #[.pointer (some ⟨g.q, 0, none⟩), .pointer (some ⟨g'.q, 0, none⟩), .agg #[.int .i64 seat, .int .i64 3, .int .i64 n, .int .i64 on, .int .i64 i], oagg o] w (RetSm w g') := by
  have hb1 := below_new w (.cells #[.int .i64 seat, .int .i64 3, .int .i64 n, .int .i64 on, .int .i64 i] 26)
  have hb2 := below_alloc2 hb1 (.cells (ocs o) 35)
  obtain ⟨W, hW⟩ : ∃ W, (w.alloc (.cells #[.int .i64 seat, .int .i64 3, .int .i64 n, .int .i64 on, .int .i64 i] 26)).alloc (.cells (ocs o) 35) = W := ⟨_, rfl⟩
  have hq6 : W.heap[w.heap.size]? = some (.cells #[.int .i64 seat, .int .i64 3, .int .i64 n, .int .i64 on, .int .i64 i] 26) := by
    rw [← hW, Below.heap_alloc _ _ _ (by simp)]
    exact heap_alloc_new _ _
  have hq7 : W.heap[w.heap.size + 1]? = some (.cells (ocs o) 35) := by
    have := heap_alloc_new (w.alloc (.cells #[.int .i64 seat, .int .i64 3, .int .i64 n, .int .i64 on, .int .i64 i] 26)) (.cells (ocs o) 35)
    rw [World.size_alloc] at this
    rw [← hW]
    exact this
  rw [hW] at hb2
  have HSZ := Lib.hid (show W.heap.size = w.heap.size + 2 by rw [← hW]; simp)
  have hk := fun j => cell_of_row W w.heap.size j _ _ _ hq6
  have KD := Lib.hid (show W.cell? ⟨w.heap.size, 0, none⟩ = some (.int .i64 seat) ∧ W.cell? ⟨w.heap.size, 1, none⟩ = some (.int .i64 3) ∧ W.cell? ⟨w.heap.size, 2, none⟩ = some (.int .i64 n) ∧ W.cell? ⟨w.heap.size, 3, none⟩ = some (.int .i64 on) ∧ W.cell? ⟨w.heap.size, 4, none⟩ = some (.int .i64 i) from ⟨hk 0, hk 1, hk 2, hk 3, hk 4⟩)
  have HO7 := Lib.hid hq7
  have HB := Lib.hid (hb.later hb2)
  have HV := Lib.hid (hw.later hb2)
  have HA := Lib.hid ha
  have HBW := Lib.hid hb2
  have HLT := Lib.hid (show ∀ k, (g.own k ∨ g'.own k) → k < w.heap.size from fun k hk => hk.elim (fun h => hb.ownLt h) (fun h => hw.ownLt h))
  obtain ⟨x0, x1, x2, x3, x4, x5, x6, x7, x8, x9, x10⟩ := o
  unfold ocs at hW HO7
  unfold oagg
  dsimp only at hW HO7 ⊢
  have HW := Lib.hid hW
  clear hb1 hb2 hq6 hq7 hk hW hb hw ha
  go_enter Tryz.func19, Tryz.ntmps19
  go_upto_region 1 with fail
  rw [HW.out]
  obtain ⟨q6, hq6⟩ : ∃ q, w.heap.size = q := ⟨_, rfl⟩
  have HQ6 := Lib.hid hq6
  try simp only [World.size_alloc]
  rw [hq6] at KD HO7 HSZ HLT ⊢
  clear hq6
  obtain ⟨k0, k1, k2, k3, k4⟩ := KD.out
  obtain ⟨_, ct, -⟩ := HV.out.cells
  go_upto_region 2 with fail
  go_still_tail 6, (by kernel_rfl)
  have hd := (Below.refl W.heap.size W).drew
  change wpList _ _ _ _ _ (World.drew W)
  obtain ⟨wd, hwd⟩ : ∃ wd, W.drew = wd := ⟨_, rfl⟩
  rw [hwd] at hd ⊢
  have HBd := Lib.hid (HB.out.later hd)
  have HVd := Lib.hid (HV.out.later hd)
  have HBWd := Lib.hid (stepB HBW.out hd)
  have HO7d := Lib.hid ((hd.block _ (Array.getElem?_eq_some_iff.1 HO7.out).1).trans HO7.out)
  have HOF := Lib.hid (tof_any HVd.out.tm seat)
  have KDd := Lib.hid (keepC5 hd KD.out)
  obtain ⟨k0, k1, k2, k3, k4⟩ := KDd.out
  have HSd := Lib.hid (show q6 + 2 ≤ wd.heap.size from by have := hd.size; have := HSZ.out; omega)
  clear hd hwd ct HB HV HO7
  go_wp2_with fail
  refine HOF.out.mono ?_
  rintro e wd ⟨rfl, rfl⟩
  obtain ⟨cs, ct, -⟩ := HVd.out.cells
  have hs1 := of_decide_eq_true hs.out
  have hn4 := HVd.out.st.n4
  obtain ⟨kk, rfl⟩ : ∃ kk : Nat, seat = kk := ⟨seat.toNat, by omega⟩
  rw [Int.toNat_natCast] at HBd
  have hks : kk < B.S.seats := by omega
  have hpl1 : inL B.S (kk : Int) 1 = B.S.pl kk 1 := by
    unfold inL
    rw [show canS (kk : Int) 1 = kk by unfold canS; rw [if_neg (by decide)], if_pos ⟨by omega, by decide, by rw [Int.toNat_natCast]; exact okK_lib hks⟩]
    rfl
  have HIN := Lib.hid (fun (w' : World) (hb : Below wd.heap.size wd w') => show Calls Tryz.prog 36 #[.pointer (some ⟨g'.b, 0, none⟩), .int .i64 kk, .int .i64 1] w' (RetList w' (B.S.pl kk 1)) from by
    have := in_any (HVd.out.later hb).st (HVd.out.wf.short (by have := HVd.out.len; omega)) (s := kk) (z := 1) ⟨by omega, by omega⟩ ⟨by decide, by decide⟩
    rwa [hpl1] at this)
  have HWF := Lib.hid (fun c hc => drawS_wf HVd.out.wf hks c hc)
  have HNX := Lib.hid (fun c hc => drawS_next HVd.out.wf hks (c := c) hc)
  obtain ⟨L, hL⟩ : ∃ L, B.S.pl kk 1 = L := ⟨_, rfl⟩
  have HLL := Lib.hid hL
  rw [hL] at HIN
  have hL1000 : L.length ≤ 1000 := by rw [← hL]; exact (HVd.out.wf.short (by have := HVd.out.len; omega)).2 _ _ (okK_lib hks)
  clear hs1 hpl1 hL
  go_upto_region 12 with fail
  go_still_tail 6, (by kernel_rfl)
  change wpList _ _ _ _ _ (World.drew wd)
  obtain ⟨we, hwe⟩ : ∃ we, wd.drew = we := ⟨_, rfl⟩
  have hd := (Below.refl wd.heap.size wd).drew
  rw [hwe] at hd ⊢
  have HINe := Lib.hid (HIN.out we hd)
  have HBE := Lib.hid (HBd.out.later hd)
  have HVE := Lib.hid (HVd.out.later hd)
  have HBWE := Lib.hid (stepB HBWd.out hd)
  have KDE := Lib.hid (keepC5 hd KDd.out)
  have HSE := Lib.hid (show q6 + 2 ≤ we.heap.size from by have := HSd.out; have := hd.size; omega)
  clear hwe hd HIN
  go_wp2_with fail
  refine HINe.out.mono ?_
  rintro e w5 ⟨v5, rfl, ho5, hb5⟩
  obtain ⟨xa, xc, rfl⟩ := own_form ho5
  have HO5 := Lib.hid ho5
  have HB5 := Lib.hid (HBE.out.later hb5)
  have HV5 := Lib.hid (HVE.out.later hb5)
  have HBW5 := Lib.hid (stepB HBWE.out hb5)
  have KD5 := Lib.hid (keepC5 hb5 KDE.out)
  have HOW5 := Lib.hid (show ∀ k, g'.own k → k < we.heap.size from fun k hk => HVE.out.ownLt hk)
  have HQW := Lib.hid (show q6 < w5.heap.size from by have := HSE.out; have := hb5.size; omega)
  clear ho5 hb5 HINe cs ct k0 k1 k2 k3 k4
  dsimp only
  go_wp2
  go_loopw [12] (fun d wr => ∃ (c : Nat) (gw : GhostB), c ≤ L.length ∧ c ≤ n.toNat ∧ d = .int .i64 (c : Int) ∧ Hid (BoardAt wr lo' gw ⟨drawS B.S kk c, B.T, B.D⟩) ∧ Hid (TurnedB w5 wr g' gw) ∧ gw.q = g'.q) (fun d _ => L.length - (intOf d).toNat)
  case atStart => exact ⟨0, g', Nat.zero_le _, Nat.zero_le _, rfl, HV5, Lib.hid (TurnedB.of_below (Below.refl _ _)), rfl⟩
  case round =>
    obtain ⟨c, gw, hcl, hcn, rfl, HV', HT', hq⟩ := hrel
    by_cases h1 : (c : Int) < n
    · have d1 : decide ((c : Int) < n) = true := decide_eq_true h1
      by_cases h2 : c < L.length
      · have d2 : decide ((c : Int) < L.length) = true := decide_eq_true (by omega)
        have hwf := HWF.out c (by rw [HLL.out]; omega)
        have hpl : (drawS B.S kk c).pl kk 1 = L[c] :: L.drop (c + 1) := by rw [hwf.lib, HLL.out]; exact List.drop_eq_getElem_cons h2
        have HMV := Lib.hid (fun (w' : World) (hb : Below wr.heap.size wr w') => draw_step (HV'.out.later hb) (k := kk) (i := L[c]) (L := L.drop (c + 1)) (by show kk < (drawS B.S kk c).seats; rw [hwf.seats]; exact hks) hpl)
        have hnx := HNX.out c (by rw [HLL.out]; exact h2)
        have hnx2 : drawS B.S kk (c + 1) = moveI (drawS B.S kk c) L[c] 2 := by
          have e : (B.S.pl kk 1)[c]'(by rw [HLL.out]; exact h2) = L[c] := by simp only [HLL.out]
          rw [hnx, e]
        rw [← hnx2] at HMV
        have hro : IntsAt wr (.slice xa L.length xc) L := own_ints (own11_later HO5.out fun k e => (HT'.out.keeps (World.ownsRow.lt HO5.out k e).2 (fun e2 => by have h3 := HOW5.out k e2; have h4 := (World.ownsRow.lt HO5.out k e).1; omega)).1)
        obtain ⟨bL, oL, rfl, _, hcL⟩ := IntsAt.at hro c h2
        obtain ⟨xv, hxv⟩ : ∃ xv, L[c] = xv := ⟨_, rfl⟩
        rw [hxv] at HMV hcL
        obtain ⟨c0, -⟩ := HV'.out.cells
        rw [hq] at c0
        clear hwf hpl hnx hnx2 hro hxv
        go_upto_region 16 with fail
        go_still_tail 8, (by kernel_rfl)
        change wpList _ _ _ _ _ (World.drew wr)
        obtain ⟨wz, hwz⟩ : ∃ wz, wr.drew = wz := ⟨_, rfl⟩
        have hd := (Below.refl wr.heap.size wr).drew
        rw [hwz] at hd ⊢
        have HMZ := Lib.hid (HMV.out wz hd)
        have HTZ := Lib.hid (HT'.out.trans (TurnedB.of_below (g := gw) hd))
        clear hd hwz HMV hcL c0
        go_wp2_with fail
        refine HMZ.out.mono ?_
        rintro e w3 ⟨rfl, g3, hr1, hr2, hr3⟩
        have HR := Lib.hid (And.intro hr1 (And.intro (HTZ.out.trans hr2) (hr3.trans hq)))
        clear hr1 hr2 hr3
        dsimp only
        go_wp2
        go_roundw
        case rel => exact ⟨c + 1, g3, by omega, by omega, by go_num, Lib.hid HR.out.1, Lib.hid HR.out.2.1, HR.out.2.2⟩
        case measure => simp [intOf]; omega
      · have d2 : decide ((c : Int) < L.length) = false := decide_eq_false (by omega)
        have HCC := Lib.hid (show c = drawnN B.S kk n from by have := HLL.out; unfold drawnN askN; rw [this]; omega)
        have hfar := HB5.out.far HA.out.flip HT'.out
        have hB9 : BoardAt wr lo g ⟨drawS B.S kk c, B.T, if L.length < askN n then B.D.put (kk : Int) else B.D⟩ := by
          have := hfar.1
          unfold drawB at this
          rw [← HCC.out, HLL.out] at this
          exact this
        obtain ⟨z, hz⟩ : ∃ z, decide ((L.length : Int) < n) = z := ⟨_, rfl⟩
        have hdr := dry_any hB9 (kk : Int)
        have hdz : dryT ⟨drawS B.S kk c, B.T, if L.length < askN n then B.D.put (kk : Int) else B.D⟩ (kk : Int) = z := by
          unfold dryT
          rw [show hasT ⟨drawS B.S kk c, B.T, if L.length < askN n then B.D.put (kk : Int) else B.D⟩ (kk : Int) = true from decide_eq_true ⟨by omega, by show (kk : Int) < (drawS B.S kk c).seats; rw [(HWF.out c (by rw [HLL.out]; omega)).seats]; omega⟩, Bool.true_and, ← hz]
          have hg : ((dry0.put (kk : Int)).get kk = true) ∧ dry0.get kk = false := by
            rcases (show kk = 0 ∨ kk = 1 ∨ kk = 2 ∨ kk = 3 by omega) with rfl | rfl | rfl | rfl <;> exact ⟨by decide, by decide⟩
          show (if L.length < askN n then B.D.put (kk : Int) else B.D).get kk = _
          rw [hd0.out]
          by_cases h : (L.length : Int) < n
          · rw [if_pos (by unfold askN; omega), decide_eq_true h]; exact hg.1
          · rw [if_neg (by unfold askN; omega), decide_eq_false h]; exact hg.2
        rw [hdz] at hdr
        have HDR := Lib.hid hdr
        have HV9 := HV'.out
        have hsh : ShortS (drawS B.S kk c) := (HWF.out c (by rw [HLL.out]; omega)).wf.short (by rw [(HWF.out c (by rw [HLL.out]; omega)).len]; have := HVd.out.len; omega)
        have HSS := Lib.hid (fun (w' : World) (hb : Below wr.heap.size wr w') => same_true (hB9.later hb).st (HV9.later hb).st hsh)
        have HTT := Lib.hid (fun (w' : World) (hb : Below wr.heap.size wr w') => show Calls Tryz.prog 50 #[.pointer (some ⟨g.tb, 0, none⟩), .pointer (some ⟨gw.tb, 0, none⟩)] w' (RetV w' (.bool true)) from by
          have := tsame_any (hB9.later hb).tm (HV9.later hb).tm
          rwa [sameT_self] at this)
        obtain ⟨b0, b1, -⟩ := hB9.cells
        obtain ⟨v0, v1, -⟩ := HV9.cells
        rw [hq] at v0 v1
        have k0 : wr.cell? ⟨q6, 0, none⟩ = some (.int .i64 (kk : Int)) := by rw [World.cell?_of_block (a := ⟨q6, 0, none⟩) (HT'.out.keeps HQW.out (fun e => by have := HLT.out _ (.inr e); omega)).1]; exact KD5.out.1
        have HIZ := Lib.hid (show _ ∧ _ ∧ _ ∧ _ ∧ _ from ⟨Below.refl wr.heap.size wr, b0, b1, v0, v1⟩)
        have HTU := Lib.hid ((TurnedB.of_below HBW5.out).trans HT'.out)
        have hcz : ((z : Bool) != z) = false := bne_self_eq_false _
        clear hfar hB9 hdr hdz HV9 hsh b0 b1 v0 v1
        cases z
        all_goals
          go_wp2_with fail
          refine HDR.out.mono ?_
          rintro e wr ⟨rfl, rfl⟩
          go_upto_region 19 with fail
          go_region_held3 (fun w' => Below wr.heap.size wr w' ∧ w'.cell? ⟨g.q, 0, none⟩ = some (.pointer (some ⟨g.b, 0, none⟩)) ∧ w'.cell? ⟨g.q, 1, none⟩ = some (.pointer (some ⟨g.tb, 0, none⟩)) ∧ w'.cell? ⟨g'.q, 0, none⟩ = some (.pointer (some ⟨gw.b, 0, none⟩)) ∧ w'.cell? ⟨g'.q, 1, none⟩ = some (.pointer (some ⟨gw.tb, 0, none⟩)))
            (first | assumption | (with_reducible exact HIZ.out) | exact keepB4 ((Below.refl _ _).drew) HIZ.out | exact keepB4 (by assumption) (by assumption))
            (first
              | (go_at_call 49; refine (HSS.out _ (And.left (by assumption))).mono ?_; rintro e w2 ⟨rfl, hb2⟩)
              | (go_at_call 50; refine (HTT.out _ (And.left (by assumption))).mono ?_; rintro e w2 ⟨rfl, hb2⟩))
          have hB : Below wr.heap.size wr w2 := And.left (by assumption)
          have HBL := Lib.hid (HTU.out.trans (TurnedB.of_below hB))
          go_wp2
          go_ret
          exact ⟨rfl, _, HBL.out⟩
    · have d1 : decide ((c : Int) < n) = false := decide_eq_false h1
      have HCC := Lib.hid (show c = drawnN B.S kk n from by have := HLL.out; unfold drawnN askN; rw [this]; omega)
      have hfar := HB5.out.far HA.out.flip HT'.out
      have hB9 : BoardAt wr lo g ⟨drawS B.S kk c, B.T, if L.length < askN n then B.D.put (kk : Int) else B.D⟩ := by
        have := hfar.1
        unfold drawB at this
        rw [← HCC.out, HLL.out] at this
        exact this
      obtain ⟨z, hz⟩ : ∃ z, decide ((L.length : Int) < n) = z := ⟨_, rfl⟩
      have hdr := dry_any hB9 (kk : Int)
      have hdz : dryT ⟨drawS B.S kk c, B.T, if L.length < askN n then B.D.put (kk : Int) else B.D⟩ (kk : Int) = z := by
        unfold dryT
        rw [show hasT ⟨drawS B.S kk c, B.T, if L.length < askN n then B.D.put (kk : Int) else B.D⟩ (kk : Int) = true from decide_eq_true ⟨by omega, by show (kk : Int) < (drawS B.S kk c).seats; rw [(HWF.out c (by rw [HLL.out]; omega)).seats]; omega⟩, Bool.true_and, ← hz]
        have hg : ((dry0.put (kk : Int)).get kk = true) ∧ dry0.get kk = false := by
          rcases (show kk = 0 ∨ kk = 1 ∨ kk = 2 ∨ kk = 3 by omega) with rfl | rfl | rfl | rfl <;> exact ⟨by decide, by decide⟩
        show (if L.length < askN n then B.D.put (kk : Int) else B.D).get kk = _
        rw [hd0.out]
        by_cases h : (L.length : Int) < n
        · rw [if_pos (by unfold askN; omega), decide_eq_true h]; exact hg.1
        · rw [if_neg (by unfold askN; omega), decide_eq_false h]; exact hg.2
      rw [hdz] at hdr
      have HDR := Lib.hid hdr
      have HV9 := HV'.out
      have hsh : ShortS (drawS B.S kk c) := (HWF.out c (by rw [HLL.out]; omega)).wf.short (by rw [(HWF.out c (by rw [HLL.out]; omega)).len]; have := HVd.out.len; omega)
      have HSS := Lib.hid (fun (w' : World) (hb : Below wr.heap.size wr w') => same_true (hB9.later hb).st (HV9.later hb).st hsh)
      have HTT := Lib.hid (fun (w' : World) (hb : Below wr.heap.size wr w') => show Calls Tryz.prog 50 #[.pointer (some ⟨g.tb, 0, none⟩), .pointer (some ⟨gw.tb, 0, none⟩)] w' (RetV w' (.bool true)) from by
        have := tsame_any (hB9.later hb).tm (HV9.later hb).tm
        rwa [sameT_self] at this)
      obtain ⟨b0, b1, -⟩ := hB9.cells
      obtain ⟨v0, v1, -⟩ := HV9.cells
      rw [hq] at v0 v1
      have k0 : wr.cell? ⟨q6, 0, none⟩ = some (.int .i64 (kk : Int)) := by rw [World.cell?_of_block (a := ⟨q6, 0, none⟩) (HT'.out.keeps HQW.out (fun e => by have := HLT.out _ (.inr e); omega)).1]; exact KD5.out.1
      have HIZ := Lib.hid (show _ ∧ _ ∧ _ ∧ _ ∧ _ from ⟨Below.refl wr.heap.size wr, b0, b1, v0, v1⟩)
      have HTU := Lib.hid ((TurnedB.of_below HBW5.out).trans HT'.out)
      have hcz : ((z : Bool) != z) = false := bne_self_eq_false _
      clear hfar hB9 hdr hdz HV9 hsh b0 b1 v0 v1
      cases z
      all_goals
        go_wp2_with fail
        refine HDR.out.mono ?_
        rintro e wr ⟨rfl, rfl⟩
        go_upto_region 19 with fail
        go_region_held3 (fun w' => Below wr.heap.size wr w' ∧ w'.cell? ⟨g.q, 0, none⟩ = some (.pointer (some ⟨g.b, 0, none⟩)) ∧ w'.cell? ⟨g.q, 1, none⟩ = some (.pointer (some ⟨g.tb, 0, none⟩)) ∧ w'.cell? ⟨g'.q, 0, none⟩ = some (.pointer (some ⟨gw.b, 0, none⟩)) ∧ w'.cell? ⟨g'.q, 1, none⟩ = some (.pointer (some ⟨gw.tb, 0, none⟩)))
          (first | assumption | (with_reducible exact HIZ.out) | exact keepB4 ((Below.refl _ _).drew) HIZ.out | exact keepB4 (by assumption) (by assumption))
          (first
            | (go_at_call 49; refine (HSS.out _ (And.left (by assumption))).mono ?_; rintro e w2 ⟨rfl, hb2⟩)
            | (go_at_call 50; refine (HTT.out _ (And.left (by assumption))).mono ?_; rintro e w2 ⟨rfl, hb2⟩))
        have hB : Below wr.heap.size wr w2 := And.left (by assumption)
        have HBL := Lib.hid (HTU.out.trans (TurnedB.of_below hB))
        go_wp2
        go_ret
        exact ⟨rfl, _, HBL.out⟩

end Go.Proofs.YtgjojjhppgjkkaaGreat
