/- The contract of nextCard (layer 2, card): what any bytes are as a card. -/
import Derived.Test.YtekbdbcomfleeaaLc
import Derived.Test.YtekbdbcomfleeaaCg
import Derived.Test.YtekbdbcomfleeaaNc
namespace Go.Proofs.Ytekbdbcomfleeaa
open Go.RowKit

def rdCard (s : ByteArray) (a : Nat) : CardL := ⟨byteAt s a, byteAt s (a + 1), byteAt s (a + 2), byteAt s (a + 3), byteAt s (a + 4), byteAt s (a + 5), rdTerms s (a + 7) (cntAt s (a + 6))⟩
def cardErr (s : ByteArray) (a : Nat) : Int := if s.size < a + 6 then 3 else if listE s (a + 6) = 0 then (if mayB (rdCard s a) then 0 else 4) else listE s (a + 6)
def lenCard (s : ByteArray) (a : Nat) : Int := (a : Int) + 7 + 3 * cntAt s (a + 6)
theorem stepC {A w w' : World} (h : Below A.heap.size A w) (hb : Below w.heap.size w w') : Below A.heap.size A w' := h.trans (hb.mono h.size)
theorem listE_cases (s : ByteArray) (a : Nat) : listE s a = 0 ∨ listE s a = 3 ∨ listE s a = 4 := by
  unfold listE; split
  · simp
  · split
    · simp
    · split <;> simp
theorem cnt_le (s : ByteArray) (a : Nat) (h : listE s a = 0) : cntAt s a ≤ 4 := by
  unfold listE at h
  split at h
  · cases h
  · split at h
    · cases h
    · omega

/-- The cells of a zero card. -/
def CellsC (w : World) (b : Nat) : Prop := w.cell? ⟨b, 0, none⟩ = some (.int .i64 0) ∧ w.cell? ⟨b, 1, none⟩ = some (.int .i64 0) ∧ w.cell? ⟨b, 2, none⟩ = some (.int .i64 0) ∧ w.cell? ⟨b, 3, none⟩ = some (.int .i64 0) ∧
  w.cell? ⟨b, 4, none⟩ = some (.int .i64 0) ∧ w.cell? ⟨b, 5, none⟩ = some (.int .i64 0) ∧ w.cell? ⟨b, 6, none⟩ = some (.slice none 0 0)
theorem CellsC.later {w w' : World} {b : Nat} (h : CellsC w b) (hb : Below w.heap.size w w') : CellsC w' b :=
  ⟨cell_stays hb h.1, cell_stays hb h.2.1, cell_stays hb h.2.2.1, cell_stays hb h.2.2.2.1, cell_stays hb h.2.2.2.2.1, cell_stays hb h.2.2.2.2.2.1, cell_stays hb h.2.2.2.2.2.2⟩

set_option maxRecDepth 100000 in
set_option maxHeartbeats 2000000 in
theorem nextCard_any {p q : Nat} (s : ByteArray) (a : Nat) {w : World} (hh : LHas w p q) (hs : s.size ≤ maxLen) (ha : a ≤ s.size) :
    Calls Try.prog 32 #[lAgg p q, .string s, .int .i64 a] w (Post_c w (rdCard s a) (lenCard s a) (cardErr s a)) := by
  have HS := Lib.hid hs
  have HH := Lib.hid hh
  have hs' := hs
  unfold maxLen at hs'
  clear hs hh
  have h0 : RowOf ((((w.alloc (.cells #[.func (.func 57) #[] #[.pointer (some ⟨p, 0, none⟩), .pointer (some ⟨q, 0, none⟩)], .func (.func 59) #[] #[.pointer (some ⟨p, 0, none⟩), .pointer (some ⟨q, 0, none⟩)]] 62)).alloc (.cells #[.int .i64 0, .int .i64 0, .int .i64 0, .int .i64 0, .int .i64 0, .int .i64 0, .slice none 0 0] 24)).alloc (.cells #[.int .i64 0, .int .i64 0, .int .i64 0, .int .i64 0, .int .i64 0, .int .i64 0] 76))) (w.heap.size + 1 + 1) 6 (fun _ => 0) := by
    have h := RowOf.made ((w.alloc (.cells #[.func (.func 57) #[] #[.pointer (some ⟨p, 0, none⟩), .pointer (some ⟨q, 0, none⟩)], .func (.func 59) #[] #[.pointer (some ⟨p, 0, none⟩), .pointer (some ⟨q, 0, none⟩)]] 62)).alloc (.cells #[.int .i64 0, .int .i64 0, .int .i64 0, .int .i64 0, .int .i64 0, .int .i64 0, .slice none 0 0] 24)) 6 #[.int .i64 0, .int .i64 0, .int .i64 0, .int .i64 0, .int .i64 0, .int .i64 0] 76 (fun j hj => by
      rcases six hj with rfl | rfl | rfl | rfl | rfl | rfl <;> rfl)
    rw [show ((w.alloc (.cells #[.func (.func 57) #[] #[.pointer (some ⟨p, 0, none⟩), .pointer (some ⟨q, 0, none⟩)], .func (.func 59) #[] #[.pointer (some ⟨p, 0, none⟩), .pointer (some ⟨q, 0, none⟩)]] 62)).alloc (.cells #[.int .i64 0, .int .i64 0, .int .i64 0, .int .i64 0, .int .i64 0, .int .i64 0, .slice none 0 0] 24)).heap.size = w.heap.size + 1 + 1 by simp] at h
    exact h
  have HR0 := Lib.hid h0
  clear h0
  obtain ⟨E, hE⟩ : ∃ E, cardErr s a = E := ⟨_, rfl⟩
  have HE := Lib.hid hE
  rw [hE]
  clear hE
  by_cases hsh : s.size < a + 6
  · have hE3 : E = 3 := by rw [← HE.out]; unfold cardErr; rw [if_pos hsh]
    have HSE : Hid (shortE s a 6 = 3) := Lib.hid (by unfold shortE; rw [if_pos hsh])
    rw [hE3]
    clear hE3
    unfold lAgg
    go_enter Try.func32, Try.ntmps32
    go_wp2_with fail
    refine (nextBytes_any (w.heap.size + 1 + 1) 6 6 (fun _ => 0) s a _ (by omega) HS.out ha HR0.out).mono ?_
    rw [show RetRow = RetRow from rfl]
    rintro e w2 ⟨xs, m, rfl, hb2, hrow, hx⟩
    rw [HSE.out]
    have HB := Lib.hid (((((Below.refl _ _).alloc (Nat.le_refl _) _).alloc (by simp) _).alloc (by simp; omega) _).trans (hb2.mono (show w.heap.size ≤ w.heap.size + 1 + 1 by omega)) : Below w.heap.size w w2)
    have d0 : w2.cell? ⟨w.heap.size + 1, 0, none⟩ = some (.int .i64 0) := (hb2.cell (p := ⟨w.heap.size + 1, 0, none⟩) (by simp)).trans (by simp [go_sem])
    have d1 : w2.cell? ⟨w.heap.size + 1, 1, none⟩ = some (.int .i64 0) := (hb2.cell (p := ⟨w.heap.size + 1, 1, none⟩) (by simp)).trans (by simp [go_sem])
    have d2 : w2.cell? ⟨w.heap.size + 1, 2, none⟩ = some (.int .i64 0) := (hb2.cell (p := ⟨w.heap.size + 1, 2, none⟩) (by simp)).trans (by simp [go_sem])
    have d3 : w2.cell? ⟨w.heap.size + 1, 3, none⟩ = some (.int .i64 0) := (hb2.cell (p := ⟨w.heap.size + 1, 3, none⟩) (by simp)).trans (by simp [go_sem])
    have d4 : w2.cell? ⟨w.heap.size + 1, 4, none⟩ = some (.int .i64 0) := (hb2.cell (p := ⟨w.heap.size + 1, 4, none⟩) (by simp)).trans (by simp [go_sem])
    have d5 : w2.cell? ⟨w.heap.size + 1, 5, none⟩ = some (.int .i64 0) := (hb2.cell (p := ⟨w.heap.size + 1, 5, none⟩) (by simp)).trans (by simp [go_sem])
    have d6 : w2.cell? ⟨w.heap.size + 1, 6, none⟩ = some (.slice none 0 0) := (hb2.cell (p := ⟨w.heap.size + 1, 6, none⟩) (by simp)).trans (by simp [go_sem])
    have hfz : ∀ j, w2.frozen? ⟨w.heap.size + 1, j, none⟩ = false := fun j => (hb2.frozen (p := ⟨w.heap.size + 1, j, none⟩) (by simp)).trans (by simp [go_sem])
    clear hb2 hrow hx
    go_wp2
    refine bodyPost_ret (v := .tuple #[.agg #[.int .i64 0, .int .i64 0, .int .i64 0, .int .i64 0, .int .i64 0, .int .i64 0, .slice none 0 0], .int .i64 m, .int .i64 3]) (by simp [results, Try.results32, go_sem, d0, d1, d2, d3, d4, d5, d6, World.cell?_setCell_other]) rfl ⟨0, 0, 0, 0, 0, 0, none, 0, 0, m, rfl, fun h => absurd h (by decide), ?_⟩
    repeat (first | with_reducible exact HB.out | with_reducible refine Below.setCell ?_ (by dsimp only; omega) _)
  · have HSE : Hid (shortE s a 6 = 0) := Lib.hid (by unfold shortE; rw [if_neg hsh])
    obtain ⟨l, at2, e2, hl⟩ : ∃ l at2 e2, tlnextAt s ((a : Int) + 6) = (l, at2, e2) := ⟨_, _, _, rfl⟩
    have HTL := Lib.hid hl
    have hTL : tlnextAt s ((a : Int) + 6) = if listE s (a + 6) = 0 then (rdTerms s (a + 7) (cntAt s (a + 6)), (a : Int) + 7 + 3 * cntAt s (a + 6), 0) else ([], (a : Int) + 6, listE s (a + 6)) := by
      unfold tlnextAt
      rw [if_pos ⟨by omega, by omega⟩, show ((a : Int) + 6).toNat = a + 6 by omega]
      by_cases h : listE s (a + 6) = 0
      · rw [if_pos h, if_pos h]
        rw [show (a : Int) + 6 + 1 = (a : Int) + 7 by omega]
      · rw [if_neg h, if_neg h]
    have HTE := Lib.hid hTL
    clear hTL hl
    by_cases hle : listE s (a + 6) = 0
    · have h3 := HTE.out
      rw [if_pos hle, HTL.out] at h3
      obtain ⟨rfl, rfl, rfl⟩ : l = rdTerms s (a + 7) (cntAt s (a + 6)) ∧ at2 = (a : Int) + 7 + 3 * cntAt s (a + 6) ∧ e2 = 0 := by simpa using h3
      clear h3
      have HM : Hid (E = if mayB (rdCard s a) then 0 else 4) := Lib.hid (by rw [← HE.out]; unfold cardErr; rw [if_neg hsh, if_pos hle])
      have hc4 := cnt_le s (a + 6) hle
      have hlen : (rdCard s a).terms.length ≤ 9223372036854775807 := by show (rdTerms s (a + 7) (cntAt s (a + 6))).length ≤ _; rw [rdTerms_len]; omega
      have HLEN := Lib.hid hlen
      obtain ⟨M, hM⟩ : ∃ M, mayB (rdCard s a) = M := ⟨_, rfl⟩
      rw [hM] at HM
      have HMM := Lib.hid hM
      clear hle hlen hM
      cases M
      · have hE4 : E = 4 := HM.out
        rw [hE4]
        clear hE4
        unfold lAgg
        go_enter Try.func32, Try.ntmps32
        go_wp2_with fail
        refine (nextBytes_any (w.heap.size + 1 + 1) 6 6 (fun _ => 0) s a _ (by omega) HS.out ha HR0.out).mono ?_
        rintro e w2 ⟨xs, m, rfl, hb2, hrow, hx⟩
        obtain ⟨rfl, hxs⟩ := hx HSE.out
        rw [HSE.out]
        have HB := Lib.hid (((((Below.refl _ _).alloc (Nat.le_refl _) _).alloc (by simp) _).alloc (by simp; omega) _).trans (hb2.mono (show w.heap.size ≤ w.heap.size + 1 + 1 by omega)) : Below w.heap.size w w2)
        have d0 : w2.cell? ⟨w.heap.size + 1, 0, none⟩ = some (.int .i64 0) := (hb2.cell (p := ⟨w.heap.size + 1, 0, none⟩) (by simp)).trans (by simp [go_sem])
        have d1 : w2.cell? ⟨w.heap.size + 1, 1, none⟩ = some (.int .i64 0) := (hb2.cell (p := ⟨w.heap.size + 1, 1, none⟩) (by simp)).trans (by simp [go_sem])
        have d2 : w2.cell? ⟨w.heap.size + 1, 2, none⟩ = some (.int .i64 0) := (hb2.cell (p := ⟨w.heap.size + 1, 2, none⟩) (by simp)).trans (by simp [go_sem])
        have d3 : w2.cell? ⟨w.heap.size + 1, 3, none⟩ = some (.int .i64 0) := (hb2.cell (p := ⟨w.heap.size + 1, 3, none⟩) (by simp)).trans (by simp [go_sem])
        have d4 : w2.cell? ⟨w.heap.size + 1, 4, none⟩ = some (.int .i64 0) := (hb2.cell (p := ⟨w.heap.size + 1, 4, none⟩) (by simp)).trans (by simp [go_sem])
        have d5 : w2.cell? ⟨w.heap.size + 1, 5, none⟩ = some (.int .i64 0) := (hb2.cell (p := ⟨w.heap.size + 1, 5, none⟩) (by simp)).trans (by simp [go_sem])
        have d6 : w2.cell? ⟨w.heap.size + 1, 6, none⟩ = some (.slice none 0 0) := (hb2.cell (p := ⟨w.heap.size + 1, 6, none⟩) (by simp)).trans (by simp [go_sem])
        have hfz : ∀ j, w2.frozen? ⟨w.heap.size + 1, j, none⟩ = false := fun j => (hb2.frozen (p := ⟨w.heap.size + 1, j, none⟩) (by simp)).trans (by simp [go_sem])
        have HD2 := Lib.hid (show CellsC w2 (w.heap.size + 1) from ⟨d0, d1, d2, d3, d4, d5, d6⟩)
        have HF2 := Lib.hid hfz
        have HROW := Lib.hid hrow
        have HXS := Lib.hid hxs
        have l0 : w2.cell? ⟨w.heap.size, 0, none⟩ = some (.func (.func 57) #[] #[.pointer (some ⟨p, 0, none⟩), .pointer (some ⟨q, 0, none⟩)]) := (hb2.cell (p := ⟨w.heap.size, 0, none⟩) (by simp; omega)).trans (by simp [go_sem])
        have l1 : w2.cell? ⟨w.heap.size, 1, none⟩ = some (.func (.func 59) #[] #[.pointer (some ⟨p, 0, none⟩), .pointer (some ⟨q, 0, none⟩)]) := (hb2.cell (p := ⟨w.heap.size, 1, none⟩) (by simp; omega)).trans (by simp [go_sem])
        clear hb2 hrow hx hxs d0 d1 d2 d3 d4 d5 d6 hfz
        go_wp2_with fail
        refine (next_l s _ (HH.out.later HB.out) HS.out).mono ?_
        rw [HTL.out]
        rintro e w3 ⟨xa, xn, xc, rfl, hsl, hb3⟩
        unfold Val_l
        have hr3 := HROW.out.later hb3
        have r0 := (hr3.cell 0 (by omega)).trans (congrArg (fun z => some (Value.int .i64 z)) (HXS.out 0 (by omega)))
        have r1 := (hr3.cell 1 (by omega)).trans (congrArg (fun z => some (Value.int .i64 z)) (HXS.out 1 (by omega)))
        have r2 := (hr3.cell 2 (by omega)).trans (congrArg (fun z => some (Value.int .i64 z)) (HXS.out 2 (by omega)))
        have r3 := (hr3.cell 3 (by omega)).trans (congrArg (fun z => some (Value.int .i64 z)) (HXS.out 3 (by omega)))
        have r4 := (hr3.cell 4 (by omega)).trans (congrArg (fun z => some (Value.int .i64 z)) (HXS.out 4 (by omega)))
        have r5 := (hr3.cell 5 (by omega)).trans (congrArg (fun z => some (Value.int .i64 z)) (HXS.out 5 (by omega)))
        have HW3 := Lib.hid (stepC HB.out hb3)
        have HB3 := Lib.hid (below_alloc1 w3 (.cells #[.int .i64 (byteAt s a), .int .i64 (byteAt s (a + 1)), .int .i64 (byteAt s (a + 2)), .int .i64 (byteAt s (a + 3)), .int .i64 (byteAt s (a + 4)), .int .i64 (byteAt s (a + 5)), .slice xa xn xc] 24))
        have HD3 := Lib.hid (HD2.out.later hb3)
        have hwz : w.heap.size + 1 + 1 < w3.heap.size := hr3.lt
        have HF3 : Hid (∀ j, w3.frozen? ⟨w.heap.size + 1, j, none⟩ = false) := Lib.hid (fun j => (hb3.frozen (p := ⟨w.heap.size + 1, j, none⟩) (by have := HROW.out.lt; dsimp only; omega)).trans (HF2.out j))
        have HSL := Lib.hid hsl
        have HCI : Hid (CardIs (w3.alloc (.cells #[.int .i64 (byteAt s a), .int .i64 (byteAt s (a + 1)), .int .i64 (byteAt s (a + 2)), .int .i64 (byteAt s (a + 3)), .int .i64 (byteAt s (a + 4)), .int .i64 (byteAt s (a + 5)), .slice xa xn xc] 24)) (cagg (rdCard s a) (.slice xa xn xc)) (rdCard s a)) := Lib.hid ⟨xa, xn, xc, rfl, hsl.is.later (below_alloc1 _ _)⟩
        clear hb3 hr3 l0 l1 hsl
        go_wp2_with fail
        refine (check_any HCI.out HLEN.out).mono ?_
        rw [HMM.out]
        rintro e w4 ⟨rfl, hb4⟩
        have HB4 := Lib.hid (HB3.out.trans (hb4.mono HB3.out.size))
        obtain ⟨d0, d1, d2, d3, d4, d5, d6⟩ := HD3.out.later HB4.out
        have hfz : ∀ j, w4.frozen? ⟨w.heap.size + 1, j, none⟩ = false := fun j => (HB4.out.frozen (p := ⟨w.heap.size + 1, j, none⟩) (by simp; omega)).trans (HF3.out j)
        have HW4 := Lib.hid (stepC HW3.out HB4.out)
        clear hb4
        go_wp2
        refine bodyPost_ret (v := .tuple #[.agg #[.int .i64 0, .int .i64 0, .int .i64 0, .int .i64 0, .int .i64 0, .int .i64 0, .slice none 0 0], .int .i64 ((a : Int) + 7 + 3 * cntAt s (a + 6)), .int .i64 4]) (by simp [results, Try.results32, go_sem, d0, d1, d2, d3, d4, d5, d6, World.cell?_setCell_other]) rfl ⟨0, 0, 0, 0, 0, 0, none, 0, 0, ((a : Int) + 7 + 3 * cntAt s (a + 6)), rfl, fun h => absurd h (by decide), ?_⟩
        repeat (first | with_reducible exact HW4.out | with_reducible refine Below.setCell ?_ (by dsimp only; omega) _)
      · have hE4 : E = 0 := HM.out
        rw [hE4]
        clear hE4
        unfold lAgg
        go_enter Try.func32, Try.ntmps32
        go_wp2_with fail
        refine (nextBytes_any (w.heap.size + 1 + 1) 6 6 (fun _ => 0) s a _ (by omega) HS.out ha HR0.out).mono ?_
        rintro e w2 ⟨xs, m, rfl, hb2, hrow, hx⟩
        obtain ⟨rfl, hxs⟩ := hx HSE.out
        rw [HSE.out]
        have HB := Lib.hid (((((Below.refl _ _).alloc (Nat.le_refl _) _).alloc (by simp) _).alloc (by simp; omega) _).trans (hb2.mono (show w.heap.size ≤ w.heap.size + 1 + 1 by omega)) : Below w.heap.size w w2)
        have d0 : w2.cell? ⟨w.heap.size + 1, 0, none⟩ = some (.int .i64 0) := (hb2.cell (p := ⟨w.heap.size + 1, 0, none⟩) (by simp)).trans (by simp [go_sem])
        have d1 : w2.cell? ⟨w.heap.size + 1, 1, none⟩ = some (.int .i64 0) := (hb2.cell (p := ⟨w.heap.size + 1, 1, none⟩) (by simp)).trans (by simp [go_sem])
        have d2 : w2.cell? ⟨w.heap.size + 1, 2, none⟩ = some (.int .i64 0) := (hb2.cell (p := ⟨w.heap.size + 1, 2, none⟩) (by simp)).trans (by simp [go_sem])
        have d3 : w2.cell? ⟨w.heap.size + 1, 3, none⟩ = some (.int .i64 0) := (hb2.cell (p := ⟨w.heap.size + 1, 3, none⟩) (by simp)).trans (by simp [go_sem])
        have d4 : w2.cell? ⟨w.heap.size + 1, 4, none⟩ = some (.int .i64 0) := (hb2.cell (p := ⟨w.heap.size + 1, 4, none⟩) (by simp)).trans (by simp [go_sem])
        have d5 : w2.cell? ⟨w.heap.size + 1, 5, none⟩ = some (.int .i64 0) := (hb2.cell (p := ⟨w.heap.size + 1, 5, none⟩) (by simp)).trans (by simp [go_sem])
        have d6 : w2.cell? ⟨w.heap.size + 1, 6, none⟩ = some (.slice none 0 0) := (hb2.cell (p := ⟨w.heap.size + 1, 6, none⟩) (by simp)).trans (by simp [go_sem])
        have hfz : ∀ j, w2.frozen? ⟨w.heap.size + 1, j, none⟩ = false := fun j => (hb2.frozen (p := ⟨w.heap.size + 1, j, none⟩) (by simp)).trans (by simp [go_sem])
        have HD2 := Lib.hid (show CellsC w2 (w.heap.size + 1) from ⟨d0, d1, d2, d3, d4, d5, d6⟩)
        have HF2 := Lib.hid hfz
        have HROW := Lib.hid hrow
        have HXS := Lib.hid hxs
        have l0 : w2.cell? ⟨w.heap.size, 0, none⟩ = some (.func (.func 57) #[] #[.pointer (some ⟨p, 0, none⟩), .pointer (some ⟨q, 0, none⟩)]) := (hb2.cell (p := ⟨w.heap.size, 0, none⟩) (by simp; omega)).trans (by simp [go_sem])
        have l1 : w2.cell? ⟨w.heap.size, 1, none⟩ = some (.func (.func 59) #[] #[.pointer (some ⟨p, 0, none⟩), .pointer (some ⟨q, 0, none⟩)]) := (hb2.cell (p := ⟨w.heap.size, 1, none⟩) (by simp; omega)).trans (by simp [go_sem])
        clear hb2 hrow hx hxs d0 d1 d2 d3 d4 d5 d6 hfz
        go_wp2_with fail
        refine (next_l s _ (HH.out.later HB.out) HS.out).mono ?_
        rw [HTL.out]
        rintro e w3 ⟨xa, xn, xc, rfl, hsl, hb3⟩
        unfold Val_l
        have hr3 := HROW.out.later hb3
        have r0 := (hr3.cell 0 (by omega)).trans (congrArg (fun z => some (Value.int .i64 z)) (HXS.out 0 (by omega)))
        have r1 := (hr3.cell 1 (by omega)).trans (congrArg (fun z => some (Value.int .i64 z)) (HXS.out 1 (by omega)))
        have r2 := (hr3.cell 2 (by omega)).trans (congrArg (fun z => some (Value.int .i64 z)) (HXS.out 2 (by omega)))
        have r3 := (hr3.cell 3 (by omega)).trans (congrArg (fun z => some (Value.int .i64 z)) (HXS.out 3 (by omega)))
        have r4 := (hr3.cell 4 (by omega)).trans (congrArg (fun z => some (Value.int .i64 z)) (HXS.out 4 (by omega)))
        have r5 := (hr3.cell 5 (by omega)).trans (congrArg (fun z => some (Value.int .i64 z)) (HXS.out 5 (by omega)))
        have HW3 := Lib.hid (stepC HB.out hb3)
        have HB3 := Lib.hid (below_alloc1 w3 (.cells #[.int .i64 (byteAt s a), .int .i64 (byteAt s (a + 1)), .int .i64 (byteAt s (a + 2)), .int .i64 (byteAt s (a + 3)), .int .i64 (byteAt s (a + 4)), .int .i64 (byteAt s (a + 5)), .slice xa xn xc] 24))
        have HD3 := Lib.hid (HD2.out.later hb3)
        have hwz : w.heap.size + 1 + 1 < w3.heap.size := hr3.lt
        have HF3 : Hid (∀ j, w3.frozen? ⟨w.heap.size + 1, j, none⟩ = false) := Lib.hid (fun j => (hb3.frozen (p := ⟨w.heap.size + 1, j, none⟩) (by have := HROW.out.lt; dsimp only; omega)).trans (HF2.out j))
        have HSL := Lib.hid hsl
        have HCI : Hid (CardIs (w3.alloc (.cells #[.int .i64 (byteAt s a), .int .i64 (byteAt s (a + 1)), .int .i64 (byteAt s (a + 2)), .int .i64 (byteAt s (a + 3)), .int .i64 (byteAt s (a + 4)), .int .i64 (byteAt s (a + 5)), .slice xa xn xc] 24)) (cagg (rdCard s a) (.slice xa xn xc)) (rdCard s a)) := Lib.hid ⟨xa, xn, xc, rfl, hsl.is.later (below_alloc1 _ _)⟩
        clear hb3 hr3 l0 l1 hsl
        go_wp2_with fail
        refine (check_any HCI.out HLEN.out).mono ?_
        rw [HMM.out]
        rintro e w4 ⟨rfl, hb4⟩
        have HB4 := Lib.hid (HB3.out.trans (hb4.mono HB3.out.size))
        obtain ⟨d0, d1, d2, d3, d4, d5, d6⟩ := HD3.out.later HB4.out
        have hfz : ∀ j, w4.frozen? ⟨w.heap.size + 1, j, none⟩ = false := fun j => (HB4.out.frozen (p := ⟨w.heap.size + 1, j, none⟩) (by simp; omega)).trans (HF3.out j)
        have HW4 := Lib.hid (stepC HW3.out HB4.out)
        obtain ⟨g0, g1, g2, g3, g4, g5, g6⟩ := card_cells (c := rdCard s a) hb4
        clear hb4
        go_wp2
        have HT4 := Lib.hid (HSL.out.later HB4.out)
        have hw2 : w.heap.size + 1 < w2.heap.size := by have := HROW.out.lt; omega
        refine bodyPost_ret (v := .tuple #[.agg #[.int .i64 (rdCard s a).kind, .int .i64 (rdCard s a).cost, .int .i64 (rdCard s a).power, .int .i64 (rdCard s a).tough, .int .i64 (rdCard s a).keys, .int .i64 (rdCard s a).whn, .slice xa xn xc], .int .i64 ((a : Int) + 7 + 3 * cntAt s (a + 6)), .int .i64 0]) (by simp [results, Try.results32, go_sem, d0, d1, d2, d3, d4, d5, d6, World.cell?_setCell_other]) rfl
          ⟨_, _, _, _, _, _, xa, xn, xc, _, rfl, fun _ => ⟨rfl, rfl, rfl, rfl, rfl, rfl, rfl, TermsFrom.mono (B := w2.heap.size) ?_ (by omega)⟩, ?_⟩
        · show TermsFrom _ _ _ (rdTerms s (a + 7) (cntAt s (a + 6)))
          repeat (first | with_reducible exact HT4.out | with_reducible refine TermsFrom.setCell ?_ (by dsimp only; omega) _)
        · repeat (first | with_reducible exact HW4.out | with_reducible refine Below.setCell ?_ (by dsimp only; omega) _)
    · have h3 := HTE.out
      rw [if_neg hle, HTL.out] at h3
      obtain ⟨rfl, rfl, rfl⟩ : l = [] ∧ at2 = (a : Int) + 6 ∧ e2 = listE s (a + 6) := by simpa using h3
      clear h3
      have hEE : E = listE s (a + 6) := by rw [← HE.out]; unfold cardErr; rw [if_neg hsh, if_neg hle]
      rw [hEE]
      clear hEE
      have hne : (listE s (a + 6) != 0) = true := by simpa using hle
      have HNE := Lib.hid hle
      clear hle
      obtain ⟨L, hL⟩ : ∃ L, listE s (a + 6) = L := ⟨_, rfl⟩
      rw [hL] at HTL hne HNE ⊢
      clear HTE hL
      unfold lAgg
      go_enter Try.func32, Try.ntmps32
      go_wp2_with fail
      refine (nextBytes_any (w.heap.size + 1 + 1) 6 6 (fun _ => 0) s a _ (by omega) HS.out ha HR0.out).mono ?_
      rintro e w2 ⟨xs, m, rfl, hb2, hrow, hx⟩
      obtain ⟨rfl, hxs⟩ := hx HSE.out
      rw [HSE.out]
      have HB := Lib.hid (((((Below.refl _ _).alloc (Nat.le_refl _) _).alloc (by simp) _).alloc (by simp; omega) _).trans (hb2.mono (show w.heap.size ≤ w.heap.size + 1 + 1 by omega)) : Below w.heap.size w w2)
      have d0 : w2.cell? ⟨w.heap.size + 1, 0, none⟩ = some (.int .i64 0) := (hb2.cell (p := ⟨w.heap.size + 1, 0, none⟩) (by simp)).trans (by simp [go_sem])
      have d1 : w2.cell? ⟨w.heap.size + 1, 1, none⟩ = some (.int .i64 0) := (hb2.cell (p := ⟨w.heap.size + 1, 1, none⟩) (by simp)).trans (by simp [go_sem])
      have d2 : w2.cell? ⟨w.heap.size + 1, 2, none⟩ = some (.int .i64 0) := (hb2.cell (p := ⟨w.heap.size + 1, 2, none⟩) (by simp)).trans (by simp [go_sem])
      have d3 : w2.cell? ⟨w.heap.size + 1, 3, none⟩ = some (.int .i64 0) := (hb2.cell (p := ⟨w.heap.size + 1, 3, none⟩) (by simp)).trans (by simp [go_sem])
      have d4 : w2.cell? ⟨w.heap.size + 1, 4, none⟩ = some (.int .i64 0) := (hb2.cell (p := ⟨w.heap.size + 1, 4, none⟩) (by simp)).trans (by simp [go_sem])
      have d5 : w2.cell? ⟨w.heap.size + 1, 5, none⟩ = some (.int .i64 0) := (hb2.cell (p := ⟨w.heap.size + 1, 5, none⟩) (by simp)).trans (by simp [go_sem])
      have d6 : w2.cell? ⟨w.heap.size + 1, 6, none⟩ = some (.slice none 0 0) := (hb2.cell (p := ⟨w.heap.size + 1, 6, none⟩) (by simp)).trans (by simp [go_sem])
      have hfz : ∀ j, w2.frozen? ⟨w.heap.size + 1, j, none⟩ = false := fun j => (hb2.frozen (p := ⟨w.heap.size + 1, j, none⟩) (by simp)).trans (by simp [go_sem])
      have HD2 := Lib.hid (show CellsC w2 (w.heap.size + 1) from ⟨d0, d1, d2, d3, d4, d5, d6⟩)
      have HF2 := Lib.hid hfz
      have HROW := Lib.hid hrow
      have HXS := Lib.hid hxs
      have l0 : w2.cell? ⟨w.heap.size, 0, none⟩ = some (.func (.func 57) #[] #[.pointer (some ⟨p, 0, none⟩), .pointer (some ⟨q, 0, none⟩)]) := (hb2.cell (p := ⟨w.heap.size, 0, none⟩) (by simp; omega)).trans (by simp [go_sem])
      have l1 : w2.cell? ⟨w.heap.size, 1, none⟩ = some (.func (.func 59) #[] #[.pointer (some ⟨p, 0, none⟩), .pointer (some ⟨q, 0, none⟩)]) := (hb2.cell (p := ⟨w.heap.size, 1, none⟩) (by simp; omega)).trans (by simp [go_sem])
      clear hb2 hrow hx hxs d0 d1 d2 d3 d4 d5 d6 hfz
      go_wp2_with fail
      refine (next_l s _ (HH.out.later HB.out) HS.out).mono ?_
      rw [HTL.out]
      rintro e w3 ⟨xa, xn, xc, rfl, hsl, hb3⟩
      unfold Val_l
      have hr3 := HROW.out.later hb3
      have HW3 := Lib.hid (stepC HB.out hb3)
      have HD3 := Lib.hid (HD2.out.later hb3)
      have hwz : w.heap.size + 1 + 1 < w3.heap.size := hr3.lt
      have HF3 : Hid (∀ j, w3.frozen? ⟨w.heap.size + 1, j, none⟩ = false) := Lib.hid (fun j => (hb3.frozen (p := ⟨w.heap.size + 1, j, none⟩) (by have := HROW.out.lt; dsimp only; omega)).trans (HF2.out j))
      obtain ⟨d0, d1, d2, d3, d4, d5, d6⟩ := HD3.out
      have hfz := HF3.out
      clear hb3 hr3 l0 l1 hsl
      go_wp2
      refine bodyPost_ret (v := .tuple #[.agg #[.int .i64 0, .int .i64 0, .int .i64 0, .int .i64 0, .int .i64 0, .int .i64 0, .slice none 0 0], .int .i64 ((a : Int) + 6), .int .i64 L]) (by simp [results, Try.results32, go_sem, d0, d1, d2, d3, d4, d5, d6, World.cell?_setCell_other]) rfl ⟨0, 0, 0, 0, 0, 0, none, 0, 0, _, rfl, fun h => absurd h HNE.out, ?_⟩
      repeat (first | with_reducible exact HW3.out | with_reducible refine Below.setCell ?_ (by dsimp only; omega) _)
end Go.Proofs.Ytekbdbcomfleeaa
