/- Blow where one attacker strikes a team, and has neither Link nor Toxic: the document's example (layer 17). -/
import Derived.Test.YtjgjhfeopmakaaaGreatQh
namespace Go.Proofs.YtjgjhfeopmakaaaGreat
open Go.RowKit Go.Maps
attribute [local go_sem] Oper.semAt_some

def RetStrike (w : World) (lo : Nat) (g : GhostB) (B : BoardL) (e : Ending) (w' : World) : Prop := (∃ v, e = .returned v) ∧ ∃ g', BoardAt w' lo g' B ∧ TurnedB w w' g g' ∧ g'.q = g.q
set_option maxRecDepth 100000 in
set_option maxHeartbeats 8000000 in
theorem strike_team {w : World} {lo : Nat} {g : GhostB} {B : BoardL} (h : BoardAt w lo g B) (hk : hasK B.S 1 8 = false) : Calls Tryz.prog 50 #[.pointer (some ⟨g.q, 0, none⟩), .agg #[.int .i64 1, .int .i64 (-2), .int .i64 2]] w (RetStrike w lo g ⟨B.S, gainT B.T 1 (-2), B.D⟩) := by
  have hb0 := below_new w (.cells #[.int .i64 1, .int .i64 (-2), .int .i64 2] 52)
  have hr0 := heap_alloc_new w (.cells #[.int .i64 1, .int .i64 (-2), .int .i64 2] 52)
  obtain ⟨W, hW⟩ : ∃ W, w.alloc (.cells #[.int .i64 1, .int .i64 (-2), .int .i64 2] 52) = W := ⟨_, rfl⟩
  rw [hW] at hb0 hr0
  have h0 := h.later hb0
  have HH := Lib.hid h0
  have HB0 := Lib.hid hb0
  have HR0 := Lib.hid hr0
  have HNO := Lib.hid (show ¬g.own w.heap.size from fun e => by have := h.ownLt e; omega)
  have HG := Lib.hid (fun (W' : World) (hb : Below W.heap.size W W') => gain_bd (h0.later hb) 1 (-2))
  have HP := Lib.hid (fun (W' : World) => retV_same (placeOf17_any (-2) W'))
  rw [show placeT (-2) = 1 by simp [placeT, wrap64]] at HP
  have cb := h0.cells.2.1
  have p0 := cell_of_row W w.heap.size 0 _ _ _ hr0
  have p1 := cell_of_row W w.heap.size 1 _ _ _ hr0
  have p2 := cell_of_row W w.heap.size 2 _ _ _ hr0
  simp only [List.getElem?_toArray, List.getElem?_cons_succ, List.getElem?_cons_zero] at p0 p1 p2
  obtain ⟨qh, hqh⟩ : ∃ qh, w.heap.size = qh := ⟨_, rfl⟩
  rw [hqh] at p0 p1 p2 HR0 HNO
  clear h h0 hb0 hr0
  obtain ⟨q, b, tb, s, r0, G⟩ := g
  dsimp only at HH HG cb HNO ⊢
  go_enter Tryz.func50, Tryz.ntmps50
  go_upto_region 2 with fail
  clear hW hqh
  have HS := Lib.hid (fun (W' : World) (hb : Below W.heap.size W W') => show W'.cell? ⟨q, 1, none⟩ = some (.pointer (some ⟨tb, 0, none⟩)) ∧ W'.cell? ⟨qh, 1, none⟩ = some (.int .i64 (-2)) ∧ W'.cell? ⟨qh, 2, none⟩ = some (.int .i64 2) from ⟨cell_stays hb cb, cell_stays hb p1, cell_stays hb p2⟩)
  refine wp_region_noPanic ?_
  refine (wpIn_wide (n := 9)).1 ?_
  refine wpIn_region_any (by kernel_rfl) ?_
  change wpAnyIn _ _ _ _ _ _ _ _ _ (World.drew _)
  refine anyC.any (c := 10) (S := fun w' => w'.cell? ⟨q, 1, none⟩ = some (.pointer (some ⟨tb, 0, none⟩)) ∧ w'.cell? ⟨qh, 1, none⟩ = some (.int .i64 (-2)) ∧ w'.cell? ⟨qh, 2, none⟩ = some (.int .i64 2)) ?_
  refine anyC_take [1, 2, 3, 10] (i := 0) (v := ?_) (by decide) (by decide) (by kernel_rfl) (by kernel_rfl) (by kernel_rfl) (by kernel_rfl) rfl (by kernel_rfl) (by kernel_rfl) (by kernel_rfl) (fun _ _ _ h => h) (by kernel_rfl) (fun _ => rfl) ?_ ?_
  rotate_left
  · intro w' hS
    obtain ⟨s1, s2, s3⟩ := hS
    go_simp
    try with_reducible rfl
  refine anyC_take [2, 3, 10] (i := 1) (v := ?_) (by decide) (by decide) (by kernel_rfl) (by kernel_rfl) (by kernel_rfl) (by kernel_rfl) rfl (by kernel_rfl) (by kernel_rfl) (by kernel_rfl) (fun _ _ _ h => h) (by kernel_rfl) (fun _ => rfl) ?_ ?_
  rotate_left
  · intro w' hS
    obtain ⟨s1, s2, s3⟩ := hS
    go_simp
    try with_reducible rfl
  refine anyC_take [3, 10] (i := 2) (v := ?_) (by decide) (by decide) (by kernel_rfl) (by kernel_rfl) (by kernel_rfl) (by kernel_rfl) rfl (by kernel_rfl) (by kernel_rfl) (by kernel_rfl) (fun _ _ _ h => h) (by kernel_rfl) (fun _ => rfl) ?_ ?_
  rotate_left
  · intro w' hS
    obtain ⟨s1, s2, s3⟩ := hS
    go_simp
    try with_reducible rfl
  refine anyC_take [10] (i := 3) (v := ?_) (by decide) (by decide) (by kernel_rfl) (by kernel_rfl) (by kernel_rfl) (by kernel_rfl) rfl (by kernel_rfl) (by kernel_rfl) (by kernel_rfl) (fun _ _ _ h => h) (by kernel_rfl) (fun _ => rfl) ?_ ?_
  rotate_left
  · intro w' hS
    obtain ⟨s1, s2, s3⟩ := hS
    go_simp
    try with_reducible rfl
  refine anyC_take [5, 6, 10] (i := 4) (v := ?_) (by decide) (by decide) (by kernel_rfl) (by kernel_rfl) (by kernel_rfl) (by kernel_rfl) rfl (by kernel_rfl) (by kernel_rfl) (by kernel_rfl) (fun _ _ _ h => h) (by kernel_rfl) (fun _ => rfl) ?_ ?_
  rotate_left
  · intro w' hS
    obtain ⟨s1, s2, s3⟩ := hS
    go_simp
    try with_reducible rfl
  refine anyC_take [6, 10] (i := 5) (v := ?_) (by decide) (by decide) (by kernel_rfl) (by kernel_rfl) (by kernel_rfl) (by kernel_rfl) rfl (by kernel_rfl) (by kernel_rfl) (by kernel_rfl) (fun _ _ _ h => h) (by kernel_rfl) (fun _ => rfl) ?_ ?_
  rotate_left
  · intro w' hS
    obtain ⟨s1, s2, s3⟩ := hS
    go_simp
    try with_reducible rfl
  refine anyC_take [8, 9, 10] (i := 7) (v := ?_) (by decide) (by decide) (by kernel_rfl) (by kernel_rfl) (by kernel_rfl) (by kernel_rfl) rfl (by kernel_rfl) (by kernel_rfl) (by kernel_rfl) (fun _ _ _ h => h) (by kernel_rfl) (fun _ => rfl) ?_ ?_
  rotate_left
  · intro w' hS
    obtain ⟨s1, s2, s3⟩ := hS
    go_simp
    try with_reducible rfl
  refine anyC_take [9, 10] (i := 8) (v := ?_) (by decide) (by decide) (by kernel_rfl) (by kernel_rfl) (by kernel_rfl) (by kernel_rfl) rfl (by kernel_rfl) (by kernel_rfl) (by kernel_rfl) (fun _ _ _ h => h) (by kernel_rfl) (fun _ => rfl) ?_ ?_
  rotate_left
  · intro w' hS
    obtain ⟨s1, s2, s3⟩ := hS
    go_simp
    try with_reducible rfl
  refine anyC_take [10] (i := 9) (v := ?_) (by decide) (by decide) (by kernel_rfl) (by kernel_rfl) (by kernel_rfl) (by kernel_rfl) rfl (by kernel_rfl) (by kernel_rfl) (by kernel_rfl) (fun _ _ _ h => h) (by kernel_rfl) (fun _ => rfl) ?_ ?_
  rotate_left
  · intro w' hS
    obtain ⟨s1, s2, s3⟩ := hS
    go_simp
    try with_reducible rfl
  refine anyC_one (i := 6) (by kernel_rfl) rfl (fun _ => HS.out _ (Below.refl _ _).drew) (fun K hK => ?_)
  go_simp
  gi_wp2_with ((refine ⟨trivial, ?_⟩; gi_at_call 73; refine CallsIn.mono (F := Fence.wide) (callsIn_wide.2 (HP.out _)) ?_; rintro e w2 ⟨rfl, hb2⟩; have HB2 := Lib.hid (stepB (Below.refl W.heap.size W).drew hb2); clear hb2))
  refine anyC_one (i := 10) (by kernel_rfl) rfl (fun _ => HS.out _ HB2.out) (fun K hK => ?_)
  obtain ⟨vg, hvg⟩ := HG.out _ HB2.out
  have HGG := Lib.hid hvg
  clear hvg
  go_simp
  gi_wp2_with ((refine ⟨trivial, ?_⟩; gi_at_call 87; refine CallsIn.mono (F := Fence.wide) (callsIn_wide.2 HGG.out) ?_; rintro e w3 ⟨rfl, g3, hg3, ht3, hq3⟩))
  refine anyC_done (by kernel_rfl) (fun h => absurd ((show Array.getD _ 10 true = true by kernel_rfl).symm.trans h) (by decide)) ?_ _
  refine NoPanic.normal ?_
  have HT3 := Lib.hid ((TurnedB.of_below (stepB HB0.out HB2.out)).trans ht3)
  have r3 := (ht3.keeps (k := qh) (Nat.lt_of_lt_of_le (Crd.lt_of_row HR0.out) HB2.out.size) HNO.out).1.trans ((HB2.out.block qh (Crd.lt_of_row HR0.out)).trans HR0.out)
  have z0 := cell_of_row w3 qh 0 _ _ _ r3
  simp only [List.getElem?_toArray, List.getElem?_cons_zero] at z0
  have HK3 := Lib.hid (hasK_any hg3 1 8)
  rw [show hasK (BoardL.mk B.S (gainT B.T 1 (-2)) B.D).S 1 8 = false from hk] at HK3
  have HG3 := Lib.hid hg3
  obtain ⟨q3, b3, tb3, s3, r03, G3⟩ := g3
  dsimp only at hq3 HK3 HG3 ht3
  subst hq3
  have HHT := HT3
  clear ht3 hg3 r3 p0 p1 p2 cb HS
  try dsimp only
  go_wp2_with fail
  refine HK3.out.mono ?_
  rintro e w4 ⟨rfl, hb4⟩
  have HR := Lib.hid (show ∃ g', BoardAt w4 lo g' ⟨B.S, gainT B.T 1 (-2), B.D⟩ ∧ TurnedB w w4 _ g' ∧ g'.q = q3 from ⟨_, HG3.out.later hb4, HHT.out.trans (TurnedB.of_below hb4), rfl⟩)
  clear hb4
  dsimp only
  go_wp2
  go_end0
  exact ⟨⟨_, rfl⟩, HR.out⟩
theorem HitsAt.keptB {w w' : World} {v : Value} {L : List HitL} (h : HitsAt w v L) (hs : w.heap.size ≤ w'.heap.size) (hk : ∀ k, v.ownBlock = some k → k < w.heap.size → w'.heap[k]? = w.heap[k]?) : HitsAt w' v L := by
  rcases h with h | ⟨b, off, cap, rfl, hlt, hc⟩
  · exact .inl h
  · have e : ∀ j, w'.cell? ⟨b, j, none⟩ = w.cell? ⟨b, j, none⟩ := fun j => World.cell?_of_block (w := w) (a := ⟨b, j, none⟩) (hk b rfl hlt)
    refine .inr ⟨b, off, cap, rfl, Nat.lt_of_lt_of_le hlt hs, fun i hi => ?_⟩
    obtain ⟨c0, c1, c2⟩ := hc i hi
    exact ⟨(e _).trans c0, (e _).trans c1, (e _).trans c2⟩
def RetBlow (w : World) (lo : Nat) (g : GhostB) (B : BoardL) (L : List HitL) (e : Ending) (w' : World) : Prop := ∃ v, e = .returned v ∧ HitsAt w' v L ∧ ∃ g', BoardAt w' lo g' B ∧ TurnedB w w' g g' ∧ g'.q = g.q
theorem blowI_own {w4 : World} {D : Nat} (hB : w4.heap.size ≤ D) : OwnFrom D (fun (_ : List Int) (W : World) => Below w4.heap.size w4 W) := by
  rintro s X Y row h3 hg hr
  exact ownFrom_below (β := Unit) (Nat.le_refl _) hB () X Y row h3 hg hr
set_option maxRecDepth 100000 in
set_option maxHeartbeats 16000000 in
theorem blow1_in {w : World} {lo : Nat} {g : GhostB} {B : BoardL} (h : BoardAt w lo g B) (team : Int) (hn : (attackL B team).length ≤ 100) (hp : planL B team = [⟨1, -2, 2⟩]) (ha : attackL ⟨B.S, gainT B.T 1 (-2), B.D⟩ team = [1]) (h8 : hasK B.S 1 8 = false) (h16 : hasK B.S 1 16 = false) :
    CallsIn Fence.wide 9 Tryz.prog 21 #[.pointer (some ⟨g.q, 0, none⟩), .int .i64 team] w (RetBlow w lo g ⟨B.S, gainT B.T 1 (-2), B.D⟩ [⟨1, -2, 2⟩]) := by
  have hb1 := below_new w (.cells #[.pointer (some ⟨g.q, 0, none⟩)] 26)
  have hb2 := below_new (w.alloc (.cells #[.pointer (some ⟨g.q, 0, none⟩)] 26)) (.cells #[.int .i64 team] 3)
  have hr1 := ((hb2.block w.heap.size (by simp)).trans (heap_alloc_new w (.cells #[.pointer (some ⟨g.q, 0, none⟩)] 26)))
  have hr2 := heap_alloc_new (w.alloc (.cells #[.pointer (some ⟨g.q, 0, none⟩)] 26)) (.cells #[.int .i64 team] 3)
  have hbb := stepB hb1 hb2
  obtain ⟨Wc, hWc⟩ : ∃ Wc, (w.alloc (.cells #[.pointer (some ⟨g.q, 0, none⟩)] 26)).alloc (.cells #[.int .i64 team] 3) = Wc := ⟨_, rfl⟩
  rw [hWc] at hr1 hr2 hbb
  rw [World.size_alloc] at hr2
  have hno : ∀ k, w.heap.size ≤ k → ¬g.own k := fun k hk e => by have := h.ownLt e; omega
  have h0 := h.later hbb
  have HPL := Lib.hid (plan_any h0 team hn)
  rw [hp] at HPL
  have HH := Lib.hid h0
  have HNO := Lib.hid hno
  have HBB := Lib.hid hbb
  have HR1 := Lib.hid hr1
  have HR2 := Lib.hid hr2
  have z1 := cell_of_row Wc w.heap.size 0 _ _ _ hr1
  have z2 := cell_of_row Wc (w.heap.size + 1) 0 _ _ _ hr2
  simp only [List.getElem?_toArray, List.getElem?_cons_zero] at z1 z2
  have HA := Lib.hid ha
  have H8 := Lib.hid h8
  have H16 := Lib.hid h16
  clear h hn hp ha h8 h16 hb1 hb2 hr1 hr2 hbb hno h0
  obtain ⟨q, b, tb, s, r0, G⟩ := g
  dsimp only at z1 HH HNO HPL HR1 hWc ⊢
  obtain ⟨qq, hqq⟩ : ∃ qq, w.heap.size = qq := ⟨_, rfl⟩
  have HQQ := Lib.hid hqq
  rw [hqq] at z1 z2 HR1 HR2 HNO
  refine callsIn_of_wp_marks Tryz.func21 rfl trivial ?_ rfl
  simp only [Tryz.ntmps21, List.size_toArray, List.length_cons, List.length_nil, Nat.reduceAdd, Nat.reduceSub, Array.replicate_succ, Array.replicate_zero, List.push_toArray, List.append_toArray, List.nil_append, List.cons_append]
  gi_wp2_with fail
  refine ⟨trivial, (callsIn_wide.2 HPL.out).mono ?_⟩
  rintro e w1 ⟨v, rfl, hv, hfr, hb3⟩
  have hqc : qq + 1 < Wc.heap.size := Crd.lt_of_row HR2.out
  have HV1 := Lib.hid hv
  have HVF := Lib.hid (show ∀ k, v.ownBlock = some k → qq ≤ k from fun k hk => by have := hfr k hk; omega)
  have HB1 := Lib.hid hb3
  have HR11 := Lib.hid ((hb3.block _ (by omega)).trans HR1.out)
  have HR12 := Lib.hid ((hb3.block _ hqc).trans HR2.out)
  have HG1 := Lib.hid (HH.out.later hb3)
  obtain ⟨va, vc, rfl⟩ := hv.form
  clear hv hfr hb3 z1 z2 hWc hqq hqc HPL
  simp only [List.length_cons, List.length_nil, Nat.zero_add] at HV1 HVF ⊢
  gi_wp2
  gi_loopw [14] (fun i wr => (i = .int .i64 0 ∧ wr = w1) ∨ (i = .int .i64 1 ∧ Hid (∃ g', BoardAt wr lo g' ⟨B.S, gainT B.T 1 (-2), B.D⟩ ∧ TurnedB w1 wr ⟨q, b, tb, s, r0, G⟩ g' ∧ g'.q = q))) (fun i _ => 1 - (intOf i).toNat)
  case atStart => exact .inl ⟨rfl, rfl⟩
  case round =>
    rcases hrel with ⟨rfl, rfl⟩ | ⟨rfl, HGE⟩
    · obtain ⟨b0, off, rfl, x0, x1, x2⟩ := HitsAt.at (l := [HitL.mk 1 (-2) 2]) HV1.out 0 (by simp)
      simp only [List.getElem_cons_zero, Nat.zero_mul, Nat.add_zero] at x0 x1 x2
      have hb4 := below_new wr (.cells #[.int .i64 1, .int .i64 (-2), .int .i64 2] 52)
      have HB4 := Lib.hid hb4
      have HSK := Lib.hid (strike_team (HG1.out.later hb4) H8.out)
      have y1 := cell_of_row _ qq 0 _ _ _ ((hb4.block _ (Crd.lt_of_row HR11.out)).trans HR11.out)
      simp only [List.getElem?_toArray, List.getElem?_cons_zero] at y1
      clear hb4
      dsimp only at HSK
      gi_wp2_with fail
      refine ⟨trivial, (callsIn_wide.2 HSK.out).mono ?_⟩
      rintro e w3 ⟨⟨v3, rfl⟩, g3, hg3, ht3, hq3⟩
      have HGE := Lib.hid (show ∃ g', BoardAt w3 lo g' ⟨B.S, gainT B.T 1 (-2), B.D⟩ ∧ TurnedB wr w3 ⟨q, b, tb, s, r0, G⟩ g' ∧ g'.q = q from ⟨g3, hg3, (TurnedB.of_below HB4.out).trans ht3, hq3⟩)
      clear hg3 ht3 hq3 x0 x1 x2 y1 HSK
      gi_wp2
      go_roundw
      case rel => exact .inr ⟨rfl, HGE⟩
      case measure => decide
    · obtain ⟨g3, hg3, ht3, hq3⟩ := HGE.out
      have HG3 := Lib.hid hg3
      have HT3 := Lib.hid ht3
      have k1 := (ht3.keeps (Crd.lt_of_row HR11.out) (HNO.out _ (Nat.le_refl _))).1.trans HR11.out
      have k2 := (ht3.keeps (Crd.lt_of_row HR12.out) (HNO.out _ (by omega))).1.trans HR12.out
      have HK1 := Lib.hid k1
      have z1 := cell_of_row wr qq 0 _ _ _ k1
      have z2 := cell_of_row wr (qq + 1) 0 _ _ _ k2
      simp only [List.getElem?_toArray, List.getElem?_cons_zero] at z1 z2
      have HV3 := Lib.hid (HV1.out.keptB ht3.size (fun k hk hlt => (ht3.keeps hlt (HNO.out k (HVF.out k hk))).1))
      have HST := Lib.hid (attackers_any q team wr)
      obtain ⟨wB, hwB⟩ : ∃ wB, wr = wB := ⟨_, rfl⟩
      subst hwB
      clear hg3 ht3 k1 k2
      obtain ⟨q3, b3, tb3, s3, r3, G3⟩ := g3
      dsimp only at hq3
      subst hq3
      gi_wp2_with fail
      refine ⟨trivial, (callsIn_wide.2 HST.out).mono ?_⟩
      rintro e w4 ⟨rfl, j1, j2, hb4⟩
      have HB4 := Lib.hid hb4
      have HSEQ := Lib.hid (attk_seq 8 (by omega) (w := w4) (fun _ => False) (fun _ => False) (fun _ e => e.elim) j1 j2 (HG3.out.later hb4) (fun c hc => hc.elim))
      rw [HA.out] at HSEQ
      have HSZ := Lib.hid (show qq < wr.heap.size from Crd.lt_of_row HK1.out)
      have HK4 := Lib.hid ((hb4.block _ HSZ.out).trans HK1.out)
      have HG4 := Lib.hid (HG3.out.later hb4)
      have HI0 : Hid (Below w4.heap.size w4 w4) := Lib.hid (Below.refl _ _)
      clear j1 j2 hb4 z1 z2
      gi_wp2_with fail
      refine range_world3 rfl (by omega) (I := fun _ W => Below w4.heap.size w4 W) (Ix := fun _ _ _ => False) (gf := 41) (lb := _) rfl trivial (fun _ _ => by kernel_rfl) HSEQ.out KpP.trans (fun W' o o' ho hc _ => KpP.put o' (.inr rfl) ho hc) (fun W W' hb => KpP.of_below _ _ hb) (Below.refl _ _) (fun _ => rfl)
        (blowI_own (Nat.le_refl _)) (fun c s A B row hs hg hr => hs) (fun s A B row hs hg hr => hs) (fun s A B row hs hg hr => hs) HI0.out ?round ?done ?stop
      case stop =>
        rintro D c pre W hD hS hI hK
        exact hI.elim
      case round =>
        rintro pre x W K hI hT hsz hK
        have hx : x = 1 := by have h1 := hT.subset (show x ∈ pre ++ [x] by simp); simpa using h1
        subst hx
        have HK := Lib.hid hK
        clear hK hT hI
        simp only [encF]
        simp
        gi_wp2
        refine HK.out _ _ (Below.refl _ _) ?_
        clear HK
        intro Wb hsz2 hrest hkw hbw
        have HKB := Lib.hid hkw
        have HBW := Lib.hid hbw
        have c2 := cell_of_row Wb qq 0 _ _ _ ((hbw.block _ (Crd.lt_of_row HK4.out)).trans HK4.out)
        simp only [List.getElem?_toArray, List.getElem?_cons_zero] at c2
        have HHK := Lib.hid (hasK_any (HG4.out.later hbw) 1 16)
        rw [show hasK (BoardL.mk B.S (gainT B.T 1 (-2)) B.D).S 1 16 = false from H16.out] at HHK
        clear hsz2 hrest hkw hbw
        dsimp only at HHK
        gi_wp2_with fail
        refine ⟨trivial, (callsIn_wide.2 HHK.out).mono ?_⟩
        rintro e w7 ⟨rfl, hb7⟩
        have HB7 := Lib.hid hb7
        clear hb7 c2 HHK
        dsimp only
        gi_wp2
        refine ⟨trivial, ?_⟩
        gi_wp2
        have HKW := KpP.of_below (fun _ => False) (fun _ => False) HB7.out
        exact ⟨HKW.from (fun k e => e.elim), HKB.out.trans (HKW.mono (fun k e => e.elim)), stepB HBW.out HB7.out⟩
      case done =>
        rintro D ys W hD hS hbw hK
        have HBW := Lib.hid hbw
        have HK1 := Lib.hid hK
        have HD := Lib.hid (show w4.heap.size ≤ D from hD)
        clear hbw hK hS hD
        gi_wp2
        refine ⟨by simp, .inl ⟨_, _, rfl, run_takeDeferred HK1.out, ?_⟩⟩
        have hbf := fun o => HBW.out.trans (belowK_b (w := w4) (Nat.le_refl _) W D _ o HD.out HK1.out rfl rfl)
        have hbg := fun o => HB4.out.trans ((hbf o).mono HB4.out.size)
        refine ⟨_, results_tmp (t := 4) rfl _ _ _, _, rfl, HV3.out.keptB (hbg _).size (fun k _ hk => (hbg _).block k hk), _, HG3.out.later (hbg _), ?_, rfl⟩
        exact ((TurnedB.of_below (stepB HBB.out HB1.out)).trans HT3.out).trans (TurnedB.of_below (hbg _))
theorem blow1_any {w : World} {lo : Nat} {g : GhostB} {B : BoardL} (h : BoardAt w lo g B) (team : Int) (hn : (attackL B team).length ≤ 100) (hp : planL B team = [⟨1, -2, 2⟩]) (ha : attackL ⟨B.S, gainT B.T 1 (-2), B.D⟩ team = [1]) (h8 : hasK B.S 1 8 = false) (h16 : hasK B.S 1 16 = false) :
    Calls Tryz.prog 21 #[.pointer (some ⟨g.q, 0, none⟩), .int .i64 team] w (RetBlow w lo g ⟨B.S, gainT B.T 1 (-2), B.D⟩ [⟨1, -2, 2⟩]) := (callsIn_wide (n := 9)).1 (blow1_in h team hn hp ha h8 h16)
end Go.Proofs.YtjgjhfeopmakaaaGreat
