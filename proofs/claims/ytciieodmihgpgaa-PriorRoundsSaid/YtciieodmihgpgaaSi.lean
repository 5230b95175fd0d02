/- The teams of the laws of layer 10. -/
import Derived.Test.YtciieodmihgpgaaTn
namespace Go.Proofs.Ytciieodmihgpgaa
open Go.RowKit Go.Maps
attribute [local go_sem] Oper.semAt_some

def sidesT (n : Nat) : TeamL := if n % 3 = 1 then newT [0, 1, 1, 1] [30, 30] else if n % 3 = 2 then newT [0, 1, 2, 3] [20, 20, 20, 20] else newT [0, 0, 1, 1] [30, 30]
def RetSides (w : World) (T : TeamL) (e : Ending) (w' : World) : Prop := ∃ lo b s r, e = .returned (.pointer (some ⟨b, 0, none⟩)) ∧ TeamAt w' lo b s r T ∧ w.heap.size ≤ lo ∧ Below w.heap.size w w'
theorem new4_any {w : World} {g1 g2 c1 c2 : Nat} {S L : List Int} (h1 : w.heap[g1]? = some (.cells (intsV S).toArray 3 (0, 0))) (h2 : w.heap[g2]? = some (.cells (intsV L).toArray 3 (0, 0))) (hS : S.length ≤ 4) (hL : L.length ≤ 4) (hm : MayP S L) :
    Calls Try.prog 19 #[.slice (some ⟨g1, 0, none⟩) S.length c1, .slice (some ⟨g2, 0, none⟩) L.length c2] w (RetNew w true (newT S L)) :=
  new9_any (by have h := RowAt.vals h1 c1; rwa [intsV_len] at h) (by have h := RowAt.vals h2 c2; rwa [intsV_len] at h) (by omega) (by omega) ⟨fun _ => hm, fun _ => rfl⟩
set_option maxRecDepth 100000 in
set_option maxHeartbeats 4000000 in
theorem sides_any {n : Nat} (hn : n < 256) (w : World) : Calls Try.prog 7 #[.int .u8 n] w (RetSides w (sidesT n)) := by
  have hc : (n : Int) % 3 = 0 ∨ (n : Int) % 3 = 1 ∨ (n : Int) % 3 = 2 := by omega
  have b2 := below_alloc2 (below_new w (.cells #[.int .i64 0, .int .i64 0, .int .i64 1, .int .i64 1] 3)) (.cells #[.int .i64 30, .int .i64 30] 3)
  have HB2 := Lib.hid b2
  rcases hc with hm | hm | hm
  · have hs : sidesT n = newT [0, 0, 1, 1] [30, 30] := by unfold sidesT; rw [if_neg (by omega), if_neg (by omega)]
    rw [hs]
    have HN := Lib.hid (new4_any (w := (w.alloc (.cells #[.int .i64 0, .int .i64 0, .int .i64 1, .int .i64 1] 3)).alloc (.cells #[.int .i64 30, .int .i64 30] 3)) (g1 := w.heap.size) (g2 := w.heap.size + 1) (c1 := 4) (c2 := 2) (S := [0, 0, 1, 1]) (L := [30, 30]) ((below_new _ _).block _ (by simp) |>.trans (heap_alloc_new w _)) (by have h := heap_alloc_new (w.alloc (.cells #[.int .i64 0, .int .i64 0, .int .i64 1, .int .i64 1] 3)) (.cells #[.int .i64 30, .int .i64 30] 3); rw [World.size_alloc] at h; exact h) (by simp) (by simp) (by unfold MayP FitP; decide))
    clear b2 hs
    go_enter Try.func7, Try.ntmps7
    go_wp2_with fail
    refine HN.out.mono ?_
    rintro e w2 ⟨hyes, _, hb2⟩
    obtain ⟨b, s, r, rfl, ht⟩ := hyes rfl
    have HT := Lib.hid ht
    have HB := Lib.hid (stepB HB2.out hb2)
    clear hyes ht hb2 HN
    dsimp only
    go_wp2
    go_ret
    exact ⟨_, b, s, r, rfl, HT.out, HB2.out.size, HB.out⟩
  · have hs : sidesT n = newT [0, 1, 1, 1] [30, 30] := by unfold sidesT; rw [if_pos (by omega)]
    rw [hs]
    have b3 := below_alloc2 b2 (.cells #[.int .i64 0, .int .i64 1, .int .i64 1, .int .i64 1] 3)
    have HB3 := Lib.hid b3
    have HN := Lib.hid (new4_any (w := ((w.alloc (.cells #[.int .i64 0, .int .i64 0, .int .i64 1, .int .i64 1] 3)).alloc (.cells #[.int .i64 30, .int .i64 30] 3)).alloc (.cells #[.int .i64 0, .int .i64 1, .int .i64 1, .int .i64 1] 3)) (g1 := w.heap.size + 2) (g2 := w.heap.size + 1) (c1 := 4) (c2 := 2) (S := [0, 1, 1, 1]) (L := [30, 30]) (by have h := heap_alloc_new ((w.alloc (.cells #[.int .i64 0, .int .i64 0, .int .i64 1, .int .i64 1] 3)).alloc (.cells #[.int .i64 30, .int .i64 30] 3)) (.cells #[.int .i64 0, .int .i64 1, .int .i64 1, .int .i64 1] 3); simp only [World.size_alloc] at h; exact h) (by have h := heap_alloc_new (w.alloc (.cells #[.int .i64 0, .int .i64 0, .int .i64 1, .int .i64 1] 3)) (.cells #[.int .i64 30, .int .i64 30] 3); rw [World.size_alloc] at h; exact ((below_new _ _).block _ (by simp)).trans h) (by simp) (by simp) (by unfold MayP FitP; decide))
    clear b2 b3 hs HB2
    go_enter Try.func7, Try.ntmps7
    go_wp2_with fail
    refine HN.out.mono ?_
    rintro e w2 ⟨hyes, _, hb2⟩
    obtain ⟨b, s, r, rfl, ht⟩ := hyes rfl
    have HT := Lib.hid ht
    have HB := Lib.hid (stepB HB3.out hb2)
    clear hyes ht hb2 HN
    dsimp only
    go_wp2
    go_ret
    exact ⟨_, b, s, r, rfl, HT.out, HB3.out.size, HB.out⟩
  · have hs : sidesT n = newT [0, 1, 2, 3] [20, 20, 20, 20] := by unfold sidesT; rw [if_neg (by omega), if_pos (by omega)]
    rw [hs]
    have b3 := below_alloc2 (below_alloc2 b2 (.cells #[.int .i64 0, .int .i64 1, .int .i64 2, .int .i64 3] 3)) (.cells #[.int .i64 20, .int .i64 20, .int .i64 20, .int .i64 20] 3)
    have HB3 := Lib.hid b3
    have HN := Lib.hid (new4_any (w := (((w.alloc (.cells #[.int .i64 0, .int .i64 0, .int .i64 1, .int .i64 1] 3)).alloc (.cells #[.int .i64 30, .int .i64 30] 3)).alloc (.cells #[.int .i64 0, .int .i64 1, .int .i64 2, .int .i64 3] 3)).alloc (.cells #[.int .i64 20, .int .i64 20, .int .i64 20, .int .i64 20] 3)) (g1 := w.heap.size + 2) (g2 := w.heap.size + 3) (c1 := 4) (c2 := 4) (S := [0, 1, 2, 3]) (L := [20, 20, 20, 20]) (by have h := heap_alloc_new ((w.alloc (.cells #[.int .i64 0, .int .i64 0, .int .i64 1, .int .i64 1] 3)).alloc (.cells #[.int .i64 30, .int .i64 30] 3)) (.cells #[.int .i64 0, .int .i64 1, .int .i64 2, .int .i64 3] 3); simp only [World.size_alloc] at h; exact ((below_new _ _).block _ (by simp)).trans h) (by have h := heap_alloc_new (((w.alloc (.cells #[.int .i64 0, .int .i64 0, .int .i64 1, .int .i64 1] 3)).alloc (.cells #[.int .i64 30, .int .i64 30] 3)).alloc (.cells #[.int .i64 0, .int .i64 1, .int .i64 2, .int .i64 3] 3)) (.cells #[.int .i64 20, .int .i64 20, .int .i64 20, .int .i64 20] 3); simp only [World.size_alloc] at h; exact h) (by simp) (by simp) (by unfold MayP FitP; decide))
    clear b2 b3 hs HB2
    go_enter Try.func7, Try.ntmps7
    go_wp2_with fail
    refine HN.out.mono ?_
    rintro e w2 ⟨hyes, _, hb2⟩
    obtain ⟨b, s, r, rfl, ht⟩ := hyes rfl
    have HT := Lib.hid ht
    have HB := Lib.hid (stepB HB3.out hb2)
    clear hyes ht hb2 HN
    dsimp only
    go_wp2
    go_ret
    exact ⟨_, b, s, r, rfl, HT.out, HB3.out.size, HB.out⟩
end Go.Proofs.Ytciieodmihgpgaa
