/- The document's example (layer 7): awake. -/
import Derived.Test.YtkhgdfalbmkgcaaJl
import Derived.Test.YtkhgdfalbmkgcaaJf
namespace Go.Proofs.Ytkhgdfalbmkgcaa
open Go.RowKit Go.Maps

def oneT : ThingL := ⟨0, 0, 3, false, false⟩
def threeT : List ThingL := [oneT, oneT, oneT]
theorem mine_made {S : StoreL} {l : List ThingL} (h : MadeS S l) (seat : Int) : mineL S seat = ((objsT l).filter fun o => o.owner == seat && (o.zone == 3 && (!o.tapped && isLandB T7 o.card))).map (·.id) := by
  unfold mineL mineB landO
  rw [h.objs, h.T]
theorem three_mine {S : StoreL} (h : MadeS S threeT) : mineL S 0 = [1, 2, 3] := by
  rw [mine_made h]
  decide
set_option maxRecDepth 100000 in
set_option maxHeartbeats 4000000 in
theorem awake7_any (w : World) : Calls Try.prog 24 #[] w (RetV w (.bool true)) := by
  have HM := Lib.hid (fun (w' : World) (v : Value) (hv : ThingsAt w' v threeT) => made_any hv (by intro x hx; simp [threeT] at hx; subst hx; exact ⟨⟨by decide, by decide⟩, ⟨by decide, by decide⟩⟩) (by decide))
  go_enter Try.func24, Try.ntmps24
  go_wp2_with fail
  refine (HM.out _ _ ?hv).mono ?_
  case hv =>
    refine .inr ⟨w.heap.size, 0, 3, rfl, by simp, fun i hi => ?_⟩
    have hc := fun j => cell_of_row _ w.heap.size j _ _ _ (heap_alloc_new w (.cells #[.int .i64 0, .int .i64 0, .int .i64 3, .bool false, .bool false, .int .i64 0, .int .i64 0, .int .i64 3, .bool false, .bool false, .int .i64 0, .int .i64 0, .int .i64 3, .bool false, .bool false] 62))
    rcases (show i = 0 ∨ i = 1 ∨ i = 2 by simp [threeT] at hi; omega) with rfl | rfl | rfl
    · exact ⟨hc 0, hc 1, hc 2, hc 3, hc 4⟩
    · exact ⟨hc 5, hc 6, hc 7, hc 8, hc 9⟩
    · exact ⟨hc 10, hc 11, hc 12, hc 13, hc 14⟩
  rintro e w1 (⟨_, b, lo, G, S, rfl, hs, hm, hlo, _, hb1⟩ | ⟨hn, _, _⟩)
  case inr => exact absurd (show playT threeT from ⟨by decide, by decide⟩) hn
  have hmine := three_mine hm
  have hl : S.objs.length ≤ 1000 := by rw [hm.len]; decide
  have hp1 := pay_ok hs hm.wf hl 0 2 (by rw [hmine]; decide)
  rw [hmine] at hp1
  have HP1 := Lib.hid (show Calls Try.prog 29 #[.pointer (some ⟨b, 0, none⟩), .int .i64 0, .int .i64 2] w1 (RetS w1 lo b G (tapAll S [1, 2]) (.int .i64 0)) from hp1)
  have hmine2 : mineL (tapAll S [1, 2]) 0 = [3] := by rw [mine_tap, hmine]; decide
  have HW2 := Lib.hid (tapAll_wf hm.wf [1, 2])
  have HL2 := Lib.hid (show (tapAll S [1, 2]).objs.length ≤ 1000 by rw [tapAll_len]; exact hl)
  have HM2 := Lib.hid hmine2
  have HB1 := Lib.hid (stepB (below_new w _) hb1)
  have HLO := Lib.hid (show ∀ k, G.tag k ≠ .no → w.heap.size ≤ k from fun k hk => Nat.le_trans (Nat.le_trans (by simp) hlo) (hs.low k hk))
  clear hs hm hlo hb1 hmine hl hp1 hmine2 HM
  dsimp only
  go_wp2_with fail
  refine HP1.out.mono ?_
  rintro e w2 ⟨rfl, G2, hs2, ht2⟩
  have HN := Lib.hid (pay_no hs2 HW2.out HL2.out 0 2 (by decide) (by rw [HM2.out]; decide))
  have HS2 := Lib.hid hs2
  have HB2 := Lib.hid (ht2.below HB1.out HLO.out)
  clear hs2 ht2
  dsimp only
  go_wp2_with fail
  refine HN.out.mono ?_
  rintro e w3 ⟨rfl, hb3⟩
  have hh := has_of (lands_mine (HS2.out.later hb3) HW2.out HL2.out 0) (by rw [HM2.out]; decide)
  rw [HM2.out] at hh
  have HH := Lib.hid hh
  have HB3 := Lib.hid (stepB HB2.out hb3)
  clear hb3 hh
  dsimp only
  go_wp2_with fail
  refine HH.out.mono ?_
  rintro e w4 ⟨rfl, hb4⟩
  dsimp only
  go_wp2
  go_ret
  exact ⟨ret_bool (by simp), stepB HB3.out hb4⟩
end Go.Proofs.Ytkhgdfalbmkgcaa
