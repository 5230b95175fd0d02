/- The document's example: awake (layer 17). -/
import Derived.Test.YtjgjhfeopmakaaaGreatQj
import Derived.Test.YtjgjhfeopmakaaaGreatQl
import Derived.Test.YtjgjhfeopmakaaaGreatQm
namespace Go.Proofs.YtjgjhfeopmakaaaGreat
open Go.RowKit Go.Maps
attribute [local go_sem] Oper.semAt_some

def m1 : ManL := ⟨2, 2, 0, 0, 0, 0, false, false, false⟩
def B1 : BoardL := board17 [m1] 0
def B2 : BoardL := atkD B1 0 0 1
theorem one_play : play17 [m1] := ⟨by decide, by decide, by decide⟩
theorem one_atk : atkE B1 0 0 1 = 0 := by decide
theorem one_attack : attackL B2 0 = [1] := by decide
theorem one_plan : planL B2 0 = [⟨1, -2, 2⟩] := by kernel_rfl
theorem one_after : attackL ⟨B2.S, gainT B2.T 1 (-2), B2.D⟩ 0 = [1] := by decide
theorem one_link : hasK B2.S 1 8 = false := by decide
theorem one_toxic : hasK B2.S 1 16 = false := by decide
theorem one_life : lifeT (gainT B2.T 1 (-2)) 1 = 28 := by decide
theorem one_wf : ∀ x ∈ [m1], Wf x.owner := by
  intro x hx
  have e : x = m1 := by simpa using hx
  rw [e]
  unfold Wf m1
  decide
theorem man_lit (w : World) : MansAt (w.alloc (.cells #[.int .i64 2, .int .i64 2, .int .i64 0, .int .i64 0, .int .i64 0, .int .i64 0, .bool false, .bool false, .bool false] 42)) (.slice (some ⟨w.heap.size, 0, none⟩) 1 1) [m1] := by
  refine .inr ⟨w.heap.size, 0, 1, rfl, by simp, fun i hi => ?_⟩
  have hc : ∀ j, (w.alloc (.cells #[.int .i64 2, .int .i64 2, .int .i64 0, .int .i64 0, .int .i64 0, .int .i64 0, .bool false, .bool false, .bool false] 42)).cell? ⟨w.heap.size, j, none⟩ = (#[.int .i64 2, .int .i64 2, .int .i64 0, .int .i64 0, .int .i64 0, .int .i64 0, .bool false, .bool false, .bool false] : Array Value)[j]? := fun j => cell_of_row _ _ j _ _ (0, 0) (heap_alloc_new w _)
  have : i = 0 := by simp at hi; omega
  subst this
  exact ⟨hc 0, hc 1, hc 2, hc 3, hc 4, hc 5, hc 6, hc 7, hc 8⟩
set_option maxRecDepth 100000 in
set_option maxHeartbeats 8000000 in
theorem awake17_any (w : World) : Calls Tryz.prog 6 #[] w (RetV w (.bool true)) := by
  have hb0 := below_new w (.cells #[.int .i64 2, .int .i64 2, .int .i64 0, .int .i64 0, .int .i64 0, .int .i64 0, .bool false, .bool false, .bool false] 42)
  have HB0 := Lib.hid hb0
  have HBO := Lib.hid (board17_any (man_lit w) one_wf (by simp) 0 (by decide))
  clear hb0
  go_enter Tryz.func6, Tryz.ntmps6
  go_wp2_with fail
  refine HBO.out.mono ?_
  rintro e w1 (⟨_, lo, g, rfl, hg, hlo, hb1⟩ | ⟨hn, _⟩)
  rotate_left
  · exact absurd one_play hn
  have HB1 := Lib.hid (stepB HB0.out hb1)
  have HLO := Lib.hid (show w.heap.size ≤ lo from by have := HB0.out.size; omega)
  have hatt := attack_any hg 0 0 1
  rw [show atkE (board17 [m1] 0) 0 0 1 = 0 from one_atk, show atkD (board17 [m1] 0) 0 0 1 = B2 from rfl] at hatt
  have HAT := Lib.hid hatt
  have HOW := Lib.hid (fun k hk => hg.ownLo (k := k) hk)
  clear hg hlo hb1 hatt
  dsimp only
  go_wp2_with fail
  refine HAT.out.mono ?_
  rintro e w2 ⟨rfl, g2, hg2, ht2, hq2⟩
  have HB2 := Lib.hid (ht2.below HB1.out (fun k hk => by have := HOW.out k hk; have := HLO.out; omega))
  have HOW2 := Lib.hid (fun k hk => hg2.ownLo (k := k) hk)
  have HBL := Lib.hid (blow1_any hg2 0 (by rw [one_attack]; decide) one_plan one_after one_link one_toxic)
  rw [hq2] at HBL
  have HQ2 := Lib.hid hq2
  clear hg2 ht2 hq2 HAT
  dsimp only
  go_wp2_with fail
  refine HBL.out.mono ?_
  rintro e w3 ⟨v, rfl, hv, g3, hg3, ht3, hq3⟩
  have HB3 := Lib.hid (ht3.below HB2.out (fun k hk => by have := HOW2.out k hk; have := HLO.out; omega))
  have HLF := Lib.hid (tlife_any hg3.tm 1)
  rw [show lifeT (BoardL.mk B2.S (gainT B2.T 1 (-2)) B2.D).T 1 = 28 from one_life] at HLF
  have c1 := hg3.cells.2.1
  rw [hq3.trans HQ2.out] at c1
  obtain ⟨va, vc, rfl⟩ := hv.form
  obtain ⟨b0, off, rfl, x0, x1, x2⟩ := HitsAt.at (l := [HitL.mk 1 (-2) 2]) hv 0 (by simp)
  simp only [List.getElem_cons_zero, Nat.zero_mul, Nat.add_zero, List.length_cons, List.length_nil, Nat.zero_add] at x0 x1 x2 ⊢
  clear hv hg3 ht3 hq3 HBL
  go_wp2_with fail
  refine HLF.out.mono ?_
  rintro e w4 ⟨rfl, rfl⟩
  go_wp2
  go_ret
  exact ⟨rfl, HB3.out⟩
end Go.Proofs.YtjgjhfeopmakaaaGreat
