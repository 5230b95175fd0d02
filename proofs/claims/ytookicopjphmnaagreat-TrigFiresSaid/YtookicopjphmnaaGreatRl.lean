/- The document's example (hydralaw13.awake; layer 13). -/
import Derived.Test.YtookicopjphmnaaGreatRb
import Derived.Test.YtookicopjphmnaaGreatRj
import Derived.Test.YtookicopjphmnaaGreatRk
namespace Go.Proofs.YtookicopjphmnaaGreat
open Go.RowKit Go.Maps
attribute [local go_sem] Oper.semAt_some

def two13 : List TriL := [⟨1, 2, 3⟩, ⟨1, 0, 3⟩]
theorem two13_play : play13 two13 := ⟨by decide, by decide⟩
set_option maxRecDepth 100000 in
theorem order13 : orderL (board13 two13 0) 0 [1, 2] = [2, 1] := by
  refine orderL_of (by decide +kernel) fun x => ?_
  have hl : (board13 two13 0).S.objs.length = 2 := by decide +kernel
  unfold hasS
  rw [hl]
  simp only [List.mem_cons, List.not_mem_nil, or_false]
  omega
set_option maxRecDepth 100000 in
theorem fire13 : (fireL (board13 two13 0) 2 [2, 1] []).1 = 2 ∧ (topE (fireL (board13 two13 0) 2 [2, 1] []).2).obj = 1 ∧ (topE (fireL (board13 two13 0) 2 [2, 1] []).2).trig = true ∧ (fireL (board13 two13 0) 2 [2, 1] []).2.length = 2 := by decide +kernel
set_option maxRecDepth 100000 in
set_option maxHeartbeats 8000000 in
theorem awake13_any (w : World) : Calls Tryz.prog 7 #[] w (RetV w (.bool true)) := by
  have HM := Lib.hid (fun (w' : World) (v : Value) (hv : TrisAt w' v two13) => board13_any hv (by intro x hx; simp [two13] at hx; rcases hx with rfl | rfl <;> exact ⟨⟨by decide, by decide⟩, ⟨by decide, by decide⟩⟩) (by simp [two13]) 0 (by decide))
  have HNK := Lib.hid (fun (w' : World) => new_stk (w := w') (v := .slice none 0 0) (l := []) (.inl ⟨none, 0, rfl, rfl⟩) (by decide))
  go_enter Tryz.func7, Tryz.ntmps7
  go_wp2_with fail
  refine (HM.out _ _ ?hv).mono ?_
  case hv =>
    refine .inr ⟨w.heap.size, 0, 2, rfl, by simp, fun i hi => ?_⟩
    have hc := fun j => cell_of_row _ w.heap.size j _ _ _ (heap_alloc_new w (.cells #[.int .i64 1, .int .i64 2, .int .i64 3, .int .i64 1, .int .i64 0, .int .i64 3] 34))
    match i, hi with
    | 0, _ => exact ⟨hc 0, hc 1, hc 2⟩
    | 1, _ => exact ⟨hc 3, hc 4, hc 5⟩
  rintro e w1 (⟨_, lo, g, rfl, hb, hlo, hb1⟩ | ⟨hn, _, _⟩)
  case inr => exact absurd two13_play hn
  have HBD := Lib.hid hb
  have HB1 := Lib.hid (stepB (below_new w _) hb1)
  clear hb hlo hb1 HM
  dsimp only
  go_wp2_with fail
  refine (HNK.out _).mono ?_
  rintro e w2 ⟨b, gk, rfl, hs, hb2⟩
  have hbn := below_new w2 (.cells #[.int .i64 1, .int .i64 2] 3)
  have hi2 : IntsAt (w2.alloc (.cells #[.int .i64 1, .int .i64 2] 3)) (.slice (some ⟨w2.heap.size, 0, none⟩) 2 2) [1, 2] := by
    have hc := fun j => cell_of_row _ w2.heap.size j _ _ _ (heap_alloc_new w2 (.cells #[.int .i64 1, .int .i64 2] 3))
    refine .inr ⟨w2.heap.size, 0, 2, rfl, by simp, fun i hi => ?_⟩
    match i, hi with
    | 0, _ => exact hc 0
    | 1, _ => exact hc 1
  have hf := fire_any ((HBD.out.later hb2).later hbn) (hs.later hbn) (fun k h1 h2 => by have h3 := HBD.out.ownLt h1; have h4 := hs.ownLo h2; omega) (by decide) 0 2 hi2 (by decide)
  rw [show orderL (board13 two13 0) 0 [1, 2] = [2, 1] from order13] at hf
  rw [show List.take 8 ([] : List EntL) = [] from rfl] at hf
  have HF := Lib.hid hf
  have hx := fire13
  obtain ⟨P, hP⟩ : ∃ P, fireL (board13 two13 0) 2 [2, 1] [] = P := ⟨_, rfl⟩
  rw [hP] at HF hx
  obtain ⟨pn, pl⟩ := P
  dsimp only at HF hx
  obtain ⟨x1, x2, x3, x4⟩ := hx
  subst x1
  have HB2 := Lib.hid (stepB HB1.out (stepB hb2 hbn))
  have HLO := Lib.hid (show ∀ k, ownK b gk k → w.heap.size ≤ k from fun k hk => Nat.le_trans HB1.out.size (hs.ownLo hk))
  have HX := Lib.hid (And.intro x2 (And.intro x3 x4))
  clear hs hb2 hbn hi2 hf hP x2 x3 x4
  dsimp only
  go_wp2_with fail
  refine HF.out.mono ?_
  rintro e w3 ⟨rfl, g3, hs3, ht3⟩
  have HT := Lib.hid (top_stk (L := pl) hs3 (by have := HX.out.2.2; omega))
  have HB3 := Lib.hid (ht3.below HB2.out HLO.out)
  have hx := HX.out
  rw [show decide (0 < pl.length) = true from decide_eq_true (by omega)] at HT
  obtain ⟨t, ht⟩ : ∃ t, topE pl = t := ⟨_, rfl⟩
  rw [ht] at HT hx
  obtain ⟨t0, t1, t2, t3⟩ := t
  dsimp only at hx
  obtain ⟨rfl, rfl, _⟩ := hx
  unfold entV at HT
  dsimp only at HT
  clear hs3 ht3 ht HF HX
  dsimp only
  go_wp2_with fail
  refine HT.out.mono ?_
  rintro e w4 ⟨rfl, hb4⟩
  have HB4 := Lib.hid (stepB (stepB HB3.out hb4) (below_new w4 (.cells #[.int .i64 t0, .int .i64 1, .int .i64 t2, .bool true] 49)))
  clear hb4
  dsimp only
  go_wp2
  go_ret
  exact ⟨rfl, HB4.out⟩
end Go.Proofs.YtookicopjphmnaaGreat
