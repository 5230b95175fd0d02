/- The teams of the laws of layer 10; the document's example. -/
import Derived.Test.YthciiapdfjemaaaAe
namespace Go.Proofs.Ythciiapdfjemaaa
open Go.RowKit Go.Maps

def sidesT (n : Nat) : TeamL := if n % 3 = 1 then newT [0, 1, 1, 1] [30, 30] else if n % 3 = 2 then newT [0, 1, 2, 3] [20, 20, 20, 20] else newT [0, 0, 1, 1] [30, 30]
def RetSides (w : World) (T : TeamL) (e : Ending) (w' : World) : Prop := ∃ lo b s r, e = .returned (.pointer (some ⟨b, 0, none⟩)) ∧ TeamAt w' lo b s r T ∧ w.heap.size ≤ lo ∧ Below w.heap.size w w'
theorem new4_any {w : World} {g1 g2 c1 c2 : Nat} {S L : List Int} (h1 : w.heap[g1]? = some (.cells (intsV S).toArray 3 (0, 0))) (h2 : w.heap[g2]? = some (.cells (intsV L).toArray 3 (0, 0))) (hS : S.length ≤ 4) (hL : L.length ≤ 4) (hm : MayP S L) :
    Calls Try.prog 21 #[.slice (some ⟨g1, 0, none⟩) S.length c1, .slice (some ⟨g2, 0, none⟩) L.length c2] w (RetNewT w true (newT S L)) :=
  new9_any (by have h := RowAt.vals h1 c1; rwa [intsV_len] at h) (by have h := RowAt.vals h2 c2; rwa [intsV_len] at h) (by omega) (by omega) ⟨fun _ => hm, fun _ => rfl⟩
set_option maxRecDepth 100000 in
set_option maxHeartbeats 4000000 in
theorem sides_any {n : Nat} (hn : n < 256) (w : World) : Calls Try.prog 9 #[.int .u8 n] w (RetSides w (sidesT n)) := by
  have hc : (n : Int) % 3 = 0 ∨ (n : Int) % 3 = 1 ∨ (n : Int) % 3 = 2 := by omega
  have b2 := below_alloc2 (below_new w (.cells #[.int .i64 0, .int .i64 0, .int .i64 1, .int .i64 1] 3)) (.cells #[.int .i64 30, .int .i64 30] 3)
  have HB2 := Lib.hid b2
  rcases hc with hm | hm | hm
  · have hs : sidesT n = newT [0, 0, 1, 1] [30, 30] := by unfold sidesT; rw [if_neg (by omega), if_neg (by omega)]
    rw [hs]
    have HN := Lib.hid (new4_any (w := (w.alloc (.cells #[.int .i64 0, .int .i64 0, .int .i64 1, .int .i64 1] 3)).alloc (.cells #[.int .i64 30, .int .i64 30] 3)) (g1 := w.heap.size) (g2 := w.heap.size + 1) (c1 := 4) (c2 := 2) (S := [0, 0, 1, 1]) (L := [30, 30]) ((below_new _ _).block _ (by simp) |>.trans (heap_alloc_new w _)) (by have h := heap_alloc_new (w.alloc (.cells #[.int .i64 0, .int .i64 0, .int .i64 1, .int .i64 1] 3)) (.cells #[.int .i64 30, .int .i64 30] 3); rw [World.size_alloc] at h; exact h) (by simp) (by simp) (by unfold MayP FitP; decide))
    clear b2 hs
    go_enter Try.func9, Try.ntmps9
    go_wp2_with fail
    refine HN.out.mono ?_
    rintro e w2 ⟨hyes, _, hb2⟩
    obtain ⟨b, s, r, rfl, ht⟩ := hyes rfl
    have HT := Lib.hid ht
    have HB := Lib.hid (stepB HB2.out hb2)
    clear hyes ht hb2 HN
    dsimp only
    go_wp2
    go_ret
    exact ⟨_, b, s, r, rfl, HT.out, HB2.out.size, HB.out⟩
  · have hs : sidesT n = newT [0, 1, 1, 1] [30, 30] := by unfold sidesT; rw [if_pos (by omega)]
    rw [hs]
    have b3 := below_alloc2 b2 (.cells #[.int .i64 0, .int .i64 1, .int .i64 1, .int .i64 1] 3)
    have HB3 := Lib.hid b3
    have HN := Lib.hid (new4_any (w := ((w.alloc (.cells #[.int .i64 0, .int .i64 0, .int .i64 1, .int .i64 1] 3)).alloc (.cells #[.int .i64 30, .int .i64 30] 3)).alloc (.cells #[.int .i64 0, .int .i64 1, .int .i64 1, .int .i64 1] 3)) (g1 := w.heap.size + 2) (g2 := w.heap.size + 1) (c1 := 4) (c2 := 2) (S := [0, 1, 1, 1]) (L := [30, 30]) (by have h := heap_alloc_new ((w.alloc (.cells #[.int .i64 0, .int .i64 0, .int .i64 1, .int .i64 1] 3)).alloc (.cells #[.int .i64 30, .int .i64 30] 3)) (.cells #[.int .i64 0, .int .i64 1, .int .i64 1, .int .i64 1] 3); simp only [World.size_alloc] at h; exact h) (by have h := heap_alloc_new (w.alloc (.cells #[.int .i64 0, .int .i64 0, .int .i64 1, .int .i64 1] 3)) (.cells #[.int .i64 30, .int .i64 30] 3); rw [World.size_alloc] at h; exact ((below_new _ _).block _ (by simp)).trans h) (by simp) (by simp) (by unfold MayP FitP; decide))
    clear b2 b3 hs HB2
    go_enter Try.func9, Try.ntmps9
    go_wp2_with fail
    refine HN.out.mono ?_
    rintro e w2 ⟨hyes, _, hb2⟩
    obtain ⟨b, s, r, rfl, ht⟩ := hyes rfl
    have HT := Lib.hid ht
    have HB := Lib.hid (stepB HB3.out hb2)
    clear hyes ht hb2 HN
    dsimp only
    go_wp2
    go_ret
    exact ⟨_, b, s, r, rfl, HT.out, HB3.out.size, HB.out⟩
  · have hs : sidesT n = newT [0, 1, 2, 3] [20, 20, 20, 20] := by unfold sidesT; rw [if_neg (by omega), if_pos (by omega)]
    rw [hs]
    have b3 := below_alloc2 (below_alloc2 b2 (.cells #[.int .i64 0, .int .i64 1, .int .i64 2, .int .i64 3] 3)) (.cells #[.int .i64 20, .int .i64 20, .int .i64 20, .int .i64 20] 3)
    have HB3 := Lib.hid b3
    have HN := Lib.hid (new4_any (w := (((w.alloc (.cells #[.int .i64 0, .int .i64 0, .int .i64 1, .int .i64 1] 3)).alloc (.cells #[.int .i64 30, .int .i64 30] 3)).alloc (.cells #[.int .i64 0, .int .i64 1, .int .i64 2, .int .i64 3] 3)).alloc (.cells #[.int .i64 20, .int .i64 20, .int .i64 20, .int .i64 20] 3)) (g1 := w.heap.size + 2) (g2 := w.heap.size + 3) (c1 := 4) (c2 := 4) (S := [0, 1, 2, 3]) (L := [20, 20, 20, 20]) (by have h := heap_alloc_new ((w.alloc (.cells #[.int .i64 0, .int .i64 0, .int .i64 1, .int .i64 1] 3)).alloc (.cells #[.int .i64 30, .int .i64 30] 3)) (.cells #[.int .i64 0, .int .i64 1, .int .i64 2, .int .i64 3] 3); simp only [World.size_alloc] at h; exact ((below_new _ _).block _ (by simp)).trans h) (by have h := heap_alloc_new (((w.alloc (.cells #[.int .i64 0, .int .i64 0, .int .i64 1, .int .i64 1] 3)).alloc (.cells #[.int .i64 30, .int .i64 30] 3)).alloc (.cells #[.int .i64 0, .int .i64 1, .int .i64 2, .int .i64 3] 3)) (.cells #[.int .i64 20, .int .i64 20, .int .i64 20, .int .i64 20] 3); simp only [World.size_alloc] at h; exact h) (by simp) (by simp) (by unfold MayP FitP; decide))
    clear b2 b3 hs HB2
    go_enter Try.func9, Try.ntmps9
    go_wp2_with fail
    refine HN.out.mono ?_
    rintro e w2 ⟨hyes, _, hb2⟩
    obtain ⟨b, s, r, rfl, ht⟩ := hyes rfl
    have HT := Lib.hid ht
    have HB := Lib.hid (stepB HB3.out hb2)
    clear hyes ht hb2 HN
    dsimp only
    go_wp2
    go_ret
    exact ⟨_, b, s, r, rfl, HT.out, HB3.out.size, HB.out⟩
theorem crs_land {S : StoreL} (hm : MadeS S [oneT]) : crs S = [] := by
  have h : strL S (fieldL S []) = [] := by
    unfold strL
    rw [List.map_eq_nil_iff, List.filter_eq_nil_iff]
    intro x hx
    obtain ⟨k, hk, rfl, _⟩ := field_mem hm.wf (by rw [hm.seats]; decide) hx
    have hk0 : k = 0 := by rw [hm.len] at hk; simpa using hk
    subst hk0
    have hc : S.objs[0].card = 0 := by
      have := hm.objs
      simp only [this]
      rfl
    simp [kindB, cardS, hc, hm.T, T7]
  unfold crs
  rw [h]
  rfl
theorem creE_land {S : StoreL} (hm : MadeS S [oneT]) : creE S 1 = 10 := by
  have hl : S.objs.length = 1 := by rw [hm.len]; rfl
  have ho : objOf S 1 = objT 0 oneT := by
    unfold objOf
    rw [hm.objs]
    rfl
  unfold creE
  rw [if_pos ⟨by omega, by omega⟩, ho]
  unfold liveO cardS
  rw [hm.T]
  rfl
set_option maxRecDepth 100000 in
set_option maxHeartbeats 4000000 in
theorem awake10_any (w : World) : Calls Try.prog 7 #[] w (RetV w (.bool true)) := by
  have HM := Lib.hid (fun (w' : World) (v : Value) (hv : ThingsAt w' v [oneT]) => made_any hv (by intro x hx; simp [oneT] at hx; subst hx; exact ⟨⟨by decide, by decide⟩, ⟨by decide, by decide⟩⟩) (by decide))
  go_enter Try.func7, Try.ntmps7
  go_wp2_with fail
  refine (HM.out _ _ ?hv).mono ?_
  case hv =>
    refine .inr ⟨w.heap.size, 0, 1, rfl, by simp, fun i hi => ?_⟩
    have hc := fun j => cell_of_row _ w.heap.size j _ _ _ (heap_alloc_new w (.cells #[.int .i64 0, .int .i64 0, .int .i64 3, .bool false, .bool false] 42))
    obtain rfl : i = 0 := by simp at hi; omega
    exact ⟨hc 0, hc 1, hc 2, hc 3, hc 4⟩
  rintro e w1 (⟨_, b, lo, G, S, rfl, hs, hm, hlo, _, hb1⟩ | ⟨hn, _, _⟩)
  case inr => exact absurd (show playT [oneT] from ⟨by decide, by decide⟩) hn
  have HB1 := Lib.hid (stepB (below_new w (.cells #[.int .i64 0, .int .i64 0, .int .i64 3, .bool false, .bool false] 42)) hb1)
  have hl : S.objs.length ≤ 1000 := by rw [hm.len]; decide
  have b2 := below_alloc2 (below_new w1 (.cells #[.int .i64 0, .int .i64 1] 3)) (.cells #[.int .i64 9, .int .i64 9] 3)
  have HB2 := Lib.hid b2
  have HSS := Lib.hid hs
  have HN := Lib.hid (new4_any (w := (w1.alloc (.cells #[.int .i64 0, .int .i64 1] 3)).alloc (.cells #[.int .i64 9, .int .i64 9] 3)) (g1 := w1.heap.size) (g2 := w1.heap.size + 1) (c1 := 2) (c2 := 2) (S := [0, 1]) (L := [9, 9]) ((below_new _ _).block _ (by simp) |>.trans (heap_alloc_new w1 _)) (by have h := heap_alloc_new (w1.alloc (.cells #[.int .i64 0, .int .i64 1] 3)) (.cells #[.int .i64 9, .int .i64 9] 3); rw [World.size_alloc] at h; exact h) (by simp) (by simp) (by unfold MayP FitP; decide))
  have HL := Lib.hid hl
  have HMD := Lib.hid hm
  have HC := Lib.hid (And.intro (crs_land hm) (creE_land hm))
  clear hs hm hlo hb1 hl b2 HM
  dsimp only
  go_wp2_with fail
  refine HN.out.mono ?_
  rintro e w2 ⟨hyes, _, hb2⟩
  obtain ⟨tb, s, r, rfl, ht⟩ := hyes rfl
  have HT := Lib.hid ht
  have HB3 := Lib.hid (stepB HB2.out hb2)
  have HS3 := Lib.hid (HSS.out.later (stepB HB2.out hb2))
  have HA1 := Lib.hid (show aimL (newT [0, 1] [9, 9]) S 0 1 = [] from by unfold aimL amongL; rw [if_neg (by decide), if_neg (by decide), HC.out.1]; rfl)
  have HA2 := Lib.hid (show aimL (newT [0, 1] [9, 9]) S 0 4 = [1] from by
    unfold aimL amongL
    rw [if_neg (by decide), if_pos rfl, show foesT (newT [0, 1] [9, 9]) (ofT (newT [0, 1] [9, 9]) 0) = [1] by decide]
    have hmy : mayT (newT [0, 1] [9, 9]) S 0 4 1 = true := by
      unfold mayT
      rw [if_neg (by decide), if_neg (by decide), if_neg (by decide), if_pos rfl]
      decide
    have : (chkT (newT [0, 1] [9, 9]) S 0 4 1 == 0) = true := by
      unfold chkT
      rw [if_neg (by decide), hmy]
      rfl
    simp [this])
  have HK := Lib.hid (show chkT (newT [0, 1] [9, 9]) S 0 1 1 = 12 from by
    unfold chkT mayT
    rw [if_neg (by decide), if_pos rfl, HC.out.2]
    rfl)
  obtain ⟨T, hT⟩ : ∃ T, newT [0, 1] [9, 9] = T := ⟨_, rfl⟩
  rw [hT] at HA1 HA2 HK HT
  clear hyes ht hb2 HN hT
  dsimp only
  have HF1 := Lib.hid (first_any HS3.out HMD.out.wf HL.out HT.out 0 1)
  rw [HA1.out] at HF1
  go_wp2_with fail
  refine HF1.out.mono ?_
  rintro e w4 ⟨rfl, hb4⟩
  have HB4 := Lib.hid hb4
  have HF2 := Lib.hid (first_any (HS3.out.later hb4) HMD.out.wf HL.out (HT.out.later hb4) 0 4)
  rw [HA2.out] at HF2
  clear hb4
  go_wp2_with fail
  refine HF2.out.mono ?_
  rintro e w5 ⟨rfl, hb5⟩
  have HB5 := Lib.hid (stepB HB4.out hb5)
  have HCK := Lib.hid (aimCheck_any (HS3.out.later HB5.out) HMD.out.wf HL.out (HT.out.later HB5.out) 0 1 1)
  rw [HK.out] at HCK
  clear hb5
  dsimp only [List.getD_cons_zero]
  go_wp2_with fail
  refine HCK.out.mono ?_
  rintro e w6 ⟨rfl, hb6⟩
  have HB6 := Lib.hid (stepB HB5.out hb6)
  clear hb6
  go_wp2
  go_ret
  exact ⟨rfl, stepB (stepB HB1.out HB3.out) HB6.out⟩
end Go.Proofs.Ythciiapdfjemaaa
