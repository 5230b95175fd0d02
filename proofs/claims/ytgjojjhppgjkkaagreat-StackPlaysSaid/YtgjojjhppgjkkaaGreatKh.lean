/- The document's example (layer 12). -/
import Derived.Test.YtgjojjhppgjkkaaGreatKg
namespace Go.Proofs.YtgjojjhppgjkkaaGreat
open Go.RowKit Go.Maps
attribute [local go_sem] Oper.semAt_some

def two12 : List ThingL := [⟨3, 0, 4, false, false⟩, ⟨1, 2, 3, false, false⟩]
def ent12 : EntL := ⟨0, 1, 2, false⟩
set_option maxRecDepth 100000 in
theorem two12_play : playT two12 := ⟨by decide, by decide⟩
set_option maxRecDepth 100000 in
theorem work12 : (workE (boardL two12 0) ent12).2 = 1 ∧ (objI (workE (boardL two12 0) ent12).1.S 2).hurt = 2 ∧ (objI (workE (boardL two12 0) ent12).1.S 1).zone = 5 ∧ errI (workE (boardL two12 0) ent12).1.S 2 = 0 ∧ errI (workE (boardL two12 0) ent12).1.S 1 = 0 := by decide +kernel
set_option maxRecDepth 100000 in
set_option maxHeartbeats 8000000 in
theorem awake12_any (w : World) : Calls Tryz.prog 20 #[] w (RetV w (.bool true)) := by
  have HM := Lib.hid (fun (w' : World) (v : Value) (hv : ThingsAt w' v two12) => board_any hv (by intro x hx; simp [two12] at hx; rcases hx with rfl | rfl <;> exact ⟨⟨by decide, by decide⟩, ⟨by decide, by decide⟩⟩) (by simp [two12]) 0 (by decide))
  go_enter Tryz.func20, Tryz.ntmps20
  go_wp2_with fail
  refine (HM.out _ _ ?hv).mono ?_
  case hv =>
    refine .inr ⟨w.heap.size, 0, 2, rfl, by simp, fun i hi => ?_⟩
    have hc := fun j => cell_of_row _ w.heap.size j _ _ _ (heap_alloc_new w (.cells #[.int .i64 3, .int .i64 0, .int .i64 4, .bool false, .bool false, .int .i64 1, .int .i64 2, .int .i64 3, .bool false, .bool false] 79))
    match i, hi with
    | 0, _ => exact ⟨hc 0, hc 1, hc 2, hc 3, hc 4⟩
    | 1, _ => exact ⟨hc 5, hc 6, hc 7, hc 8, hc 9⟩
  rintro e w1 (⟨_, hm, lo, g, rfl, hb, hlo, hb1⟩ | ⟨hn, _, _⟩)
  case inr => exact absurd two12_play hn
  have HBD := Lib.hid hb
  have HB1 := Lib.hid (stepB (below_new w _) hb1)
  have HLO := Lib.hid (show ∀ k, g.own k → w.heap.size ≤ k from fun k hk => Nat.le_trans (Nat.le_trans (by simp) hlo) (hb.ownLo hk))
  clear hb hlo hb1 hm HM
  dsimp only
  go_wp2_with fail
  refine (new_stk (l := [ent12]) ?hv (by decide)).mono ?_
  case hv =>
    refine .inr ⟨w1.heap.size, 0, 1, rfl, by simp, fun i hi => ?_⟩
    have hc := fun j => cell_of_row _ w1.heap.size j _ _ _ (heap_alloc_new w1 (.cells #[.int .i64 0, .int .i64 1, .int .i64 2, .bool false] 59))
    obtain rfl : i = 0 := by simp at hi; omega
    exact ⟨hc 0, hc 1, hc 2, hc 3⟩
  rintro e w2 ⟨b, gk, rfl, hs, hb2⟩
  have hbb := stepB (below_new w1 (.cells #[.int .i64 0, .int .i64 1, .int .i64 2, .bool false] 59)) hb2
  have hbd2 := HBD.out.later hbb
  have hsz : w1.heap.size < (w1.alloc (.cells #[.int .i64 0, .int .i64 1, .int .i64 2, .bool false] 59)).heap.size := by simp
  have hap : ∀ k, g.own k → ¬ownK b gk k := fun k h1 h2 => by have h3 := HBD.out.ownLt h1; have h4 := hs.ownLo h2; omega
  have HRS := Lib.hid (resolve_ok (L := []) ent12 hbd2 hs hap (by decide))
  have HBW2 := Lib.hid (stepB HB1.out hbb)
  have HLO2 := Lib.hid (show ∀ k, (g.own k ∨ ownK b gk k) → w.heap.size ≤ k from fun k hk => by
    rcases hk with hk | hk
    · exact HLO.out k hk
    · have h4 := hs.ownLo hk; have := HB1.out.size; omega)
  obtain ⟨R, hR⟩ : ∃ R, workE (boardL two12 0) ent12 = R := ⟨_, rfl⟩
  have hw := work12
  rw [hR] at HRS hw
  obtain ⟨RB, rn⟩ := R
  dsimp only at HRS hw
  obtain ⟨rfl, w2, w3, w4, w5⟩ := hw
  obtain ⟨o2, ho2⟩ : ∃ o, objI RB.S 2 = o := ⟨_, rfl⟩
  obtain ⟨o1, ho1⟩ : ∃ o, objI RB.S 1 = o := ⟨_, rfl⟩
  rw [ho2] at w2
  rw [ho1] at w3
  have HO := Lib.hid (And.intro ho2 (And.intro ho1 (And.intro w4 w5)))
  obtain ⟨y0, y1, y2, y3, y4, y5, y6, y7, y8, y9, y10⟩ := o2
  obtain ⟨z0, z1, z2, z3, z4, z5, z6, z7, z8, z9, z10⟩ := o1
  dsimp only at w2 w3
  subst w2 w3
  clear hs hb2 hbb hbd2 hsz hap hR ho2 ho1 w4 w5
  dsimp only
  go_wp2_with fail
  refine HRS.out.mono ?_
  rintro e w4 ⟨rfl, g', gk', hb4, hq4, hs4, _, ht4⟩
  have hb5 := below_new w4 (.cells #[.int .i64 0, .int .i64 1, .int .i64 2, .bool false] 59)
  have HBW4 := Lib.hid (stepB (ht4.below HBW2.out HLO2.out) hb5)
  have hB5 := hb4.later hb5
  have HS5 := Lib.hid (hs4.later hb5)
  have h3 := heap_alloc_new w4 (.cells #[.int .i64 0, .int .i64 1, .int .i64 2, .bool false] 59)
  obtain ⟨W5, hW5⟩ : ∃ W5, w4.alloc (.cells #[.int .i64 0, .int .i64 1, .int .i64 2, .bool false] 59) = W5 := ⟨_, rfl⟩
  obtain ⟨q3, hq3⟩ : ∃ q3, w4.heap.size = q3 := ⟨_, rfl⟩
  rw [hW5] at HBW4 hB5 HS5 h3
  rw [hq3] at h3
  have HW5 := Lib.hid hW5
  have HQ3 := Lib.hid hq3
  have HR3 := Lib.hid h3
  have HB5 := Lib.hid hB5
  have hg2 := fun (w' : World) (hb : Below W5.heap.size W5 w') => getI_any (hB5.later hb) 2
  have hg1 := fun (w' : World) (hb : Below W5.heap.size W5 w') => getI_any (hB5.later hb) 1
  rw [HO.out.1, HO.out.2.2.1] at hg2
  rw [HO.out.2.1, HO.out.2.2.2] at hg1
  have HG2 := Lib.hid hg2
  have HG1 := Lib.hid hg1
  unfold RetGet oagg at HG2 HG1
  dsimp only at HG2 HG1
  obtain ⟨c0, -⟩ := hB5.cells
  have HQG := Lib.hid hq4
  rw [hq4] at c0
  clear hb4 hq4 hs4 ht4 hb5 hB5 h3 hW5 hq3 hg2 hg1 HRS HO
  simp only [entV, ent12]
  go_upto_region 6 with fail
  rw [HW5.out]
  simp only [HQ3.out]
  go_wp2_with fail
  refine (HG2.out _ (Below.refl _ _)).mono ?_
  rintro e w6 ⟨rfl, hb6⟩
  have hbx := stepB hb6 (below_new w6 (.cells #[.int .i64 y0, .int .i64 y1, .int .i64 y2, .int .i64 y3, .bool y4, .bool y5, .int .i64 2, .int .i64 y7, .int .i64 y8, .int .i64 y9, .bool y10] 35))
  have h6 := heap_alloc_new w6 (.cells #[.int .i64 y0, .int .i64 y1, .int .i64 y2, .int .i64 y3, .bool y4, .bool y5, .int .i64 2, .int .i64 y7, .int .i64 y8, .int .i64 y9, .bool y10] 35)
  have c0 := cell_stays hbx c0
  have HBX := Lib.hid hbx
  obtain ⟨W6, hW6⟩ : ∃ W6, w6.alloc (.cells #[.int .i64 y0, .int .i64 y1, .int .i64 y2, .int .i64 y3, .bool y4, .bool y5, .int .i64 2, .int .i64 y7, .int .i64 y8, .int .i64 y9, .bool y10] 35) = W6 := ⟨_, rfl⟩
  obtain ⟨q6, hq6⟩ : ∃ q6, w6.heap.size = q6 := ⟨_, rfl⟩
  rw [hW6] at h6 c0 HBX
  rw [hq6] at h6
  have HW6 := Lib.hid hW6
  have HQ6 := Lib.hid hq6
  have HR6 := Lib.hid h6
  clear hb6 hbx h6 hW6 hq6
  dsimp only
  go_upto_region 7 with fail
  rw [HW6.out]
  simp only [HQ6.out]
  go_wp2_with fail
  refine (HG1.out _ HBX.out).mono ?_
  rintro e w7 ⟨rfl, hb7⟩
  have hbx := stepB hb7 (below_new w7 (.cells #[.int .i64 z0, .int .i64 z1, .int .i64 z2, .int .i64 5, .bool z4, .bool z5, .int .i64 z6, .int .i64 z7, .int .i64 z8, .int .i64 z9, .bool z10] 35))
  have h8 := heap_alloc_new w7 (.cells #[.int .i64 z0, .int .i64 z1, .int .i64 z2, .int .i64 5, .bool z4, .bool z5, .int .i64 z6, .int .i64 z7, .int .i64 z8, .int .i64 z9, .bool z10] 35)
  obtain ⟨W7, hW7⟩ : ∃ W7, w7.alloc (.cells #[.int .i64 z0, .int .i64 z1, .int .i64 z2, .int .i64 5, .bool z4, .bool z5, .int .i64 z6, .int .i64 z7, .int .i64 z8, .int .i64 z9, .bool z10] 35) = W7 := ⟨_, rfl⟩
  obtain ⟨q8, hq8⟩ : ∃ q8, w7.heap.size = q8 := ⟨_, rfl⟩
  rw [hW7] at h8 hbx
  rw [hq8] at h8
  have HW7 := Lib.hid hW7
  have HQ8 := Lib.hid hq8
  have m3 := cell_of_row W7 q3 1 _ _ _ (((stepB HBX.out hbx).block q3 (Crd.lt_of_row HR3.out)).trans HR3.out)
  have m6 := cell_of_row W7 q6 6 _ _ _ ((hbx.block q6 (Crd.lt_of_row HR6.out)).trans HR6.out)
  have m8 := cell_of_row W7 q8 3 _ _ _ h8
  have HLN := Lib.hid (len_stk (HS5.out.later (stepB HBX.out hbx)))
  have HBF := Lib.hid (stepB HBW4.out (stepB HBX.out hbx))
  clear hb7 hbx h8 hW7 hq8 c0
  dsimp only
  go_upto_region 8 with fail
  rw [HW7.out]
  simp only [HQ8.out]
  go_wp2_with fail
  refine HLN.out.mono ?_
  rintro e w8 ⟨rfl, rfl⟩
  go_wp2
  go_ret
  exact ⟨rfl, HBF.out⟩
end Go.Proofs.YtgjojjhppgjkkaaGreat
