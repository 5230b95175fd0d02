/- The contracts of Get of the codec of cards, of Is, and of awake, the document's example (layer 2, card). The contracts of Is and of awake, the document's example (layer 2, card). -/
import Derived.Test.YtekbdbcomfleeaaCq
namespace Go.Proofs.Ytekbdbcomfleeaa
open Go.RowKit

def cgetOf (s : ByteArray) : CardL × Int := if (cnextAt s 0).2.2 = 0 then (if (cnextAt s 0).2.1 = s.size then ((cnextAt s 0).1, 0) else (zeroC, 4)) else (zeroC, (cnextAt s 0).2.2)
/-- A call of Get ends with a card and an error. -/
def Ret_g (w : World) (d : CardL) (n : Int) (e : Ending) (w' : World) : Prop :=
  ∃ (x0 : Int) (x1 : Int) (x2 : Int) (x3 : Int) (x4 : Int) (x5 : Int) (xa : Option Addr) (xn : Nat) (xc : Nat), e = .returned (.tuple #[Val_c x0 x1 x2 x3 x4 x5 xa xn xc, .int .i64 n]) ∧
    (x0 = d.kind ∧ x1 = d.cost ∧ x2 = d.power ∧ x3 = d.tough ∧ x4 = d.keys ∧ x5 = d.whn ∧ TermsFrom (w.heap.size) w' (.slice xa xn xc) d.terms) ∧ Below w.heap.size w w'

set_option maxRecDepth 100000 in
set_option maxHeartbeats 1600000 in
theorem get_c {r : Nat} (s : ByteArray) {w : World} (hh : CHas w r) (hs : s.size ≤ maxLen) :
    Calls Try.prog 16 #[cAgg r, .string s] w (Ret_g w (cgetOf s).1 (cgetOf s).2) := by
  have HH := Lib.hid hh
  have HS := Lib.hid hs
  unfold maxLen at hs
  clear hh
  obtain ⟨d, m, n, hr⟩ : ∃ d m n, cnextAt s 0 = (d, m, n) := ⟨_, _, _, rfl⟩
  obtain ⟨d1, n1, ho⟩ : ∃ d1 n1, cgetOf s = (d1, n1) := ⟨_, _, rfl⟩
  rw [ho]
  have HR := Lib.hid hr
  have HO : Hid ((if n = 0 then (if m = s.size then (d, 0) else (zeroC, 4)) else (zeroC, n)) = (d1, n1)) := Lib.hid (by rw [← ho]; unfold cgetOf; rw [hr])
  clear hr ho
  have hz0 : Below w.heap.size w (((w.alloc (.cells #[.func (.func 29) #[] #[.pointer (some ⟨r, 0, none⟩)], .func (.func 31) #[] #[.pointer (some ⟨r, 0, none⟩)]] 31)).alloc (.cells #[.int .i64 0, .int .i64 0, .int .i64 0, .int .i64 0, .int .i64 0, .int .i64 0, .slice none 0 0] 24)).alloc (.cells #[.int .i64 0, .int .i64 0, .int .i64 0, .int .i64 0, .int .i64 0, .int .i64 0, .slice none 0 0] 24)) := ((((Below.refl _ _).alloc (Nat.le_refl _) _).alloc (by simp) _).alloc (by simp; omega) _)
  have HZ0 := Lib.hid hz0
  clear hz0
  by_cases h0 : n = 0
  · subst h0
    by_cases hm : m = s.size
    · obtain ⟨rfl, rfl⟩ : d = d1 ∧ 0 = n1 := by have := HO.out; simpa [hm] using this
      subst hm
      unfold cAgg
      go_enter Try.func16, Try.ntmps16
      go_wp2_with fail
      refine (next_c s 0 (HH.out.later HZ0.out) HS.out).mono ?_
      rw [HR.out]
      rintro e w2 ⟨x0, x1, x2, x3, x4, x5, xa, xn, xc, rfl, hq, hb2⟩
      unfold Val_c
      have HQ := Lib.hid hq
      have HW := Lib.hid ((HZ0.out.trans (hb2.mono (by simp; omega))).alloc (by have := hb2.size; simp at this; omega) (.cells #[.int .i64 x0, .int .i64 x1, .int .i64 x2, .int .i64 x3, .int .i64 x4, .int .i64 x5, .slice xa xn xc] 24))
      have HT : Hid (TermsFrom (w.heap.size + 1 + 1) (w2.alloc (.cells #[.int .i64 x0, .int .i64 x1, .int .i64 x2, .int .i64 x3, .int .i64 x4, .int .i64 x5, .slice xa xn xc] 24)) (.slice xa xn xc) d.terms) := Lib.hid (TermsFrom.mono (hq.2.2.2.2.2.2.later (below_alloc1 w2 _)) (by simp))
      have hz2 : w.heap.size + 1 + 1 + 1 ≤ w2.heap.size := by have := hb2.size; simpa using this
      have d0 : w2.cell? ⟨w.heap.size + 1, 0, none⟩ = some (.int .i64 0) := ((bcell hb2).1 _ 0 (show _ < _ by simp)).trans (by simp [go_sem])
      have z0 : w2.cell? ⟨w.heap.size + 1 + 1, 0, none⟩ = some (.int .i64 0) := ((bcell hb2).1 _ 0 (show _ < _ by simp)).trans (by simp [go_sem])
      have d1 : w2.cell? ⟨w.heap.size + 1, 1, none⟩ = some (.int .i64 0) := ((bcell hb2).1 _ 1 (show _ < _ by simp)).trans (by simp [go_sem])
      have z1 : w2.cell? ⟨w.heap.size + 1 + 1, 1, none⟩ = some (.int .i64 0) := ((bcell hb2).1 _ 1 (show _ < _ by simp)).trans (by simp [go_sem])
      have d2 : w2.cell? ⟨w.heap.size + 1, 2, none⟩ = some (.int .i64 0) := ((bcell hb2).1 _ 2 (show _ < _ by simp)).trans (by simp [go_sem])
      have z2 : w2.cell? ⟨w.heap.size + 1 + 1, 2, none⟩ = some (.int .i64 0) := ((bcell hb2).1 _ 2 (show _ < _ by simp)).trans (by simp [go_sem])
      have d3 : w2.cell? ⟨w.heap.size + 1, 3, none⟩ = some (.int .i64 0) := ((bcell hb2).1 _ 3 (show _ < _ by simp)).trans (by simp [go_sem])
      have z3 : w2.cell? ⟨w.heap.size + 1 + 1, 3, none⟩ = some (.int .i64 0) := ((bcell hb2).1 _ 3 (show _ < _ by simp)).trans (by simp [go_sem])
      have d4 : w2.cell? ⟨w.heap.size + 1, 4, none⟩ = some (.int .i64 0) := ((bcell hb2).1 _ 4 (show _ < _ by simp)).trans (by simp [go_sem])
      have z4 : w2.cell? ⟨w.heap.size + 1 + 1, 4, none⟩ = some (.int .i64 0) := ((bcell hb2).1 _ 4 (show _ < _ by simp)).trans (by simp [go_sem])
      have d5 : w2.cell? ⟨w.heap.size + 1, 5, none⟩ = some (.int .i64 0) := ((bcell hb2).1 _ 5 (show _ < _ by simp)).trans (by simp [go_sem])
      have z5 : w2.cell? ⟨w.heap.size + 1 + 1, 5, none⟩ = some (.int .i64 0) := ((bcell hb2).1 _ 5 (show _ < _ by simp)).trans (by simp [go_sem])
      have d6 : w2.cell? ⟨w.heap.size + 1, 6, none⟩ = some (.slice none 0 0) := ((bcell hb2).1 _ 6 (show _ < _ by simp)).trans (by simp [go_sem])
      have z6 : w2.cell? ⟨w.heap.size + 1 + 1, 6, none⟩ = some (.slice none 0 0) := ((bcell hb2).1 _ 6 (show _ < _ by simp)).trans (by simp [go_sem])
      have hfz : ∀ j, w2.frozen? ⟨w.heap.size + 1, j, none⟩ = false := fun j => ((bcell hb2).2 _ j (show _ < _ by simp)).trans (by simp [go_sem])
      replace d0 := cell_stays (below_alloc1 w2 (.cells #[.int .i64 x0, .int .i64 x1, .int .i64 x2, .int .i64 x3, .int .i64 x4, .int .i64 x5, .slice xa xn xc] 24)) d0
      replace z0 := cell_stays (below_alloc1 w2 (.cells #[.int .i64 x0, .int .i64 x1, .int .i64 x2, .int .i64 x3, .int .i64 x4, .int .i64 x5, .slice xa xn xc] 24)) z0
      replace d1 := cell_stays (below_alloc1 w2 (.cells #[.int .i64 x0, .int .i64 x1, .int .i64 x2, .int .i64 x3, .int .i64 x4, .int .i64 x5, .slice xa xn xc] 24)) d1
      replace z1 := cell_stays (below_alloc1 w2 (.cells #[.int .i64 x0, .int .i64 x1, .int .i64 x2, .int .i64 x3, .int .i64 x4, .int .i64 x5, .slice xa xn xc] 24)) z1
      replace d2 := cell_stays (below_alloc1 w2 (.cells #[.int .i64 x0, .int .i64 x1, .int .i64 x2, .int .i64 x3, .int .i64 x4, .int .i64 x5, .slice xa xn xc] 24)) d2
      replace z2 := cell_stays (below_alloc1 w2 (.cells #[.int .i64 x0, .int .i64 x1, .int .i64 x2, .int .i64 x3, .int .i64 x4, .int .i64 x5, .slice xa xn xc] 24)) z2
      replace d3 := cell_stays (below_alloc1 w2 (.cells #[.int .i64 x0, .int .i64 x1, .int .i64 x2, .int .i64 x3, .int .i64 x4, .int .i64 x5, .slice xa xn xc] 24)) d3
      replace z3 := cell_stays (below_alloc1 w2 (.cells #[.int .i64 x0, .int .i64 x1, .int .i64 x2, .int .i64 x3, .int .i64 x4, .int .i64 x5, .slice xa xn xc] 24)) z3
      replace d4 := cell_stays (below_alloc1 w2 (.cells #[.int .i64 x0, .int .i64 x1, .int .i64 x2, .int .i64 x3, .int .i64 x4, .int .i64 x5, .slice xa xn xc] 24)) d4
      replace z4 := cell_stays (below_alloc1 w2 (.cells #[.int .i64 x0, .int .i64 x1, .int .i64 x2, .int .i64 x3, .int .i64 x4, .int .i64 x5, .slice xa xn xc] 24)) z4
      replace d5 := cell_stays (below_alloc1 w2 (.cells #[.int .i64 x0, .int .i64 x1, .int .i64 x2, .int .i64 x3, .int .i64 x4, .int .i64 x5, .slice xa xn xc] 24)) d5
      replace z5 := cell_stays (below_alloc1 w2 (.cells #[.int .i64 x0, .int .i64 x1, .int .i64 x2, .int .i64 x3, .int .i64 x4, .int .i64 x5, .slice xa xn xc] 24)) z5
      replace d6 := cell_stays (below_alloc1 w2 (.cells #[.int .i64 x0, .int .i64 x1, .int .i64 x2, .int .i64 x3, .int .i64 x4, .int .i64 x5, .slice xa xn xc] 24)) d6
      replace z6 := cell_stays (below_alloc1 w2 (.cells #[.int .i64 x0, .int .i64 x1, .int .i64 x2, .int .i64 x3, .int .i64 x4, .int .i64 x5, .slice xa xn xc] 24)) z6
      have hfz2 : ∀ j, (w2.alloc (.cells #[.int .i64 x0, .int .i64 x1, .int .i64 x2, .int .i64 x3, .int .i64 x4, .int .i64 x5, .slice xa xn xc] 24)).frozen? ⟨w.heap.size + 1, j, none⟩ = false := fun j => ((bcell (below_alloc1 w2 _)).2 _ j (show _ < _ by omega)).trans (hfz j)
      clear hq hb2 hfz
      go_wp2
      refine bodyPost_ret (v := .tuple #[.agg #[.int .i64 x0, .int .i64 x1, .int .i64 x2, .int .i64 x3, .int .i64 x4, .int .i64 x5, .slice xa xn xc], .int .i64 0]) (by simp [results, Try.results16, go_sem, d0, d1, d2, d3, d4, d5, d6, World.cell?_setCell_other]) rfl
        ⟨x0, x1, x2, x3, x4, x5, xa, xn, xc, rfl, ⟨HQ.out.1, HQ.out.2.1, HQ.out.2.2.1, HQ.out.2.2.2.1, HQ.out.2.2.2.2.1, HQ.out.2.2.2.2.2.1, TermsFrom.mono (B := w.heap.size + 1 + 1) ?_ (by omega)⟩, ?_⟩
      · repeat (first | with_reducible exact HT.out | with_reducible refine TermsFrom.setCell ?_ (by dsimp only; omega) _)
      · repeat (first | with_reducible exact HW.out | with_reducible refine Below.setCell ?_ (by dsimp only; omega) _)
    · obtain ⟨rfl, rfl⟩ : zeroC = d1 ∧ 4 = n1 := by have := HO.out; simpa [hm] using this
      have hm' : (m != s.size) = true := by simpa using hm
      clear hm
      unfold cAgg
      go_enter Try.func16, Try.ntmps16
      go_wp2_with fail
      refine (next_c s 0 (HH.out.later HZ0.out) HS.out).mono ?_
      rw [HR.out]
      rintro e w2 ⟨x0, x1, x2, x3, x4, x5, xa, xn, xc, rfl, hq, hb2⟩
      unfold Val_c
      have HQ := Lib.hid hq
      have HW := Lib.hid ((HZ0.out.trans (hb2.mono (by simp; omega))).alloc (by have := hb2.size; simp at this; omega) (.cells #[.int .i64 x0, .int .i64 x1, .int .i64 x2, .int .i64 x3, .int .i64 x4, .int .i64 x5, .slice xa xn xc] 24))
      have HT : Hid (TermsFrom (w.heap.size + 1 + 1) (w2.alloc (.cells #[.int .i64 x0, .int .i64 x1, .int .i64 x2, .int .i64 x3, .int .i64 x4, .int .i64 x5, .slice xa xn xc] 24)) (.slice xa xn xc) d.terms) := Lib.hid (TermsFrom.mono (hq.2.2.2.2.2.2.later (below_alloc1 w2 _)) (by simp))
      have hz2 : w.heap.size + 1 + 1 + 1 ≤ w2.heap.size := by have := hb2.size; simpa using this
      have d0 : w2.cell? ⟨w.heap.size + 1, 0, none⟩ = some (.int .i64 0) := ((bcell hb2).1 _ 0 (show _ < _ by simp)).trans (by simp [go_sem])
      have z0 : w2.cell? ⟨w.heap.size + 1 + 1, 0, none⟩ = some (.int .i64 0) := ((bcell hb2).1 _ 0 (show _ < _ by simp)).trans (by simp [go_sem])
      have d1 : w2.cell? ⟨w.heap.size + 1, 1, none⟩ = some (.int .i64 0) := ((bcell hb2).1 _ 1 (show _ < _ by simp)).trans (by simp [go_sem])
      have z1 : w2.cell? ⟨w.heap.size + 1 + 1, 1, none⟩ = some (.int .i64 0) := ((bcell hb2).1 _ 1 (show _ < _ by simp)).trans (by simp [go_sem])
      have d2 : w2.cell? ⟨w.heap.size + 1, 2, none⟩ = some (.int .i64 0) := ((bcell hb2).1 _ 2 (show _ < _ by simp)).trans (by simp [go_sem])
      have z2 : w2.cell? ⟨w.heap.size + 1 + 1, 2, none⟩ = some (.int .i64 0) := ((bcell hb2).1 _ 2 (show _ < _ by simp)).trans (by simp [go_sem])
      have d3 : w2.cell? ⟨w.heap.size + 1, 3, none⟩ = some (.int .i64 0) := ((bcell hb2).1 _ 3 (show _ < _ by simp)).trans (by simp [go_sem])
      have z3 : w2.cell? ⟨w.heap.size + 1 + 1, 3, none⟩ = some (.int .i64 0) := ((bcell hb2).1 _ 3 (show _ < _ by simp)).trans (by simp [go_sem])
      have d4 : w2.cell? ⟨w.heap.size + 1, 4, none⟩ = some (.int .i64 0) := ((bcell hb2).1 _ 4 (show _ < _ by simp)).trans (by simp [go_sem])
      have z4 : w2.cell? ⟨w.heap.size + 1 + 1, 4, none⟩ = some (.int .i64 0) := ((bcell hb2).1 _ 4 (show _ < _ by simp)).trans (by simp [go_sem])
      have d5 : w2.cell? ⟨w.heap.size + 1, 5, none⟩ = some (.int .i64 0) := ((bcell hb2).1 _ 5 (show _ < _ by simp)).trans (by simp [go_sem])
      have z5 : w2.cell? ⟨w.heap.size + 1 + 1, 5, none⟩ = some (.int .i64 0) := ((bcell hb2).1 _ 5 (show _ < _ by simp)).trans (by simp [go_sem])
      have d6 : w2.cell? ⟨w.heap.size + 1, 6, none⟩ = some (.slice none 0 0) := ((bcell hb2).1 _ 6 (show _ < _ by simp)).trans (by simp [go_sem])
      have z6 : w2.cell? ⟨w.heap.size + 1 + 1, 6, none⟩ = some (.slice none 0 0) := ((bcell hb2).1 _ 6 (show _ < _ by simp)).trans (by simp [go_sem])
      have hfz : ∀ j, w2.frozen? ⟨w.heap.size + 1, j, none⟩ = false := fun j => ((bcell hb2).2 _ j (show _ < _ by simp)).trans (by simp [go_sem])
      replace d0 := cell_stays (below_alloc1 w2 (.cells #[.int .i64 x0, .int .i64 x1, .int .i64 x2, .int .i64 x3, .int .i64 x4, .int .i64 x5, .slice xa xn xc] 24)) d0
      replace z0 := cell_stays (below_alloc1 w2 (.cells #[.int .i64 x0, .int .i64 x1, .int .i64 x2, .int .i64 x3, .int .i64 x4, .int .i64 x5, .slice xa xn xc] 24)) z0
      replace d1 := cell_stays (below_alloc1 w2 (.cells #[.int .i64 x0, .int .i64 x1, .int .i64 x2, .int .i64 x3, .int .i64 x4, .int .i64 x5, .slice xa xn xc] 24)) d1
      replace z1 := cell_stays (below_alloc1 w2 (.cells #[.int .i64 x0, .int .i64 x1, .int .i64 x2, .int .i64 x3, .int .i64 x4, .int .i64 x5, .slice xa xn xc] 24)) z1
      replace d2 := cell_stays (below_alloc1 w2 (.cells #[.int .i64 x0, .int .i64 x1, .int .i64 x2, .int .i64 x3, .int .i64 x4, .int .i64 x5, .slice xa xn xc] 24)) d2
      replace z2 := cell_stays (below_alloc1 w2 (.cells #[.int .i64 x0, .int .i64 x1, .int .i64 x2, .int .i64 x3, .int .i64 x4, .int .i64 x5, .slice xa xn xc] 24)) z2
      replace d3 := cell_stays (below_alloc1 w2 (.cells #[.int .i64 x0, .int .i64 x1, .int .i64 x2, .int .i64 x3, .int .i64 x4, .int .i64 x5, .slice xa xn xc] 24)) d3
      replace z3 := cell_stays (below_alloc1 w2 (.cells #[.int .i64 x0, .int .i64 x1, .int .i64 x2, .int .i64 x3, .int .i64 x4, .int .i64 x5, .slice xa xn xc] 24)) z3
      replace d4 := cell_stays (below_alloc1 w2 (.cells #[.int .i64 x0, .int .i64 x1, .int .i64 x2, .int .i64 x3, .int .i64 x4, .int .i64 x5, .slice xa xn xc] 24)) d4
      replace z4 := cell_stays (below_alloc1 w2 (.cells #[.int .i64 x0, .int .i64 x1, .int .i64 x2, .int .i64 x3, .int .i64 x4, .int .i64 x5, .slice xa xn xc] 24)) z4
      replace d5 := cell_stays (below_alloc1 w2 (.cells #[.int .i64 x0, .int .i64 x1, .int .i64 x2, .int .i64 x3, .int .i64 x4, .int .i64 x5, .slice xa xn xc] 24)) d5
      replace z5 := cell_stays (below_alloc1 w2 (.cells #[.int .i64 x0, .int .i64 x1, .int .i64 x2, .int .i64 x3, .int .i64 x4, .int .i64 x5, .slice xa xn xc] 24)) z5
      replace d6 := cell_stays (below_alloc1 w2 (.cells #[.int .i64 x0, .int .i64 x1, .int .i64 x2, .int .i64 x3, .int .i64 x4, .int .i64 x5, .slice xa xn xc] 24)) d6
      replace z6 := cell_stays (below_alloc1 w2 (.cells #[.int .i64 x0, .int .i64 x1, .int .i64 x2, .int .i64 x3, .int .i64 x4, .int .i64 x5, .slice xa xn xc] 24)) z6
      have hfz2 : ∀ j, (w2.alloc (.cells #[.int .i64 x0, .int .i64 x1, .int .i64 x2, .int .i64 x3, .int .i64 x4, .int .i64 x5, .slice xa xn xc] 24)).frozen? ⟨w.heap.size + 1, j, none⟩ = false := fun j => ((bcell (below_alloc1 w2 _)).2 _ j (show _ < _ by omega)).trans (hfz j)
      clear hq hb2 hfz
      go_wp2
      refine bodyPost_ret (v := .tuple #[.agg #[.int .i64 0, .int .i64 0, .int .i64 0, .int .i64 0, .int .i64 0, .int .i64 0, .slice none 0 0], .int .i64 4]) (by simp [results, Try.results16, go_sem, d0, d1, d2, d3, d4, d5, d6, World.cell?_setCell_other]) rfl
        ⟨0, 0, 0, 0, 0, 0, none, 0, 0, rfl, ⟨rfl, rfl, rfl, rfl, rfl, rfl, .none _ _⟩, ?_⟩
      repeat (first | with_reducible exact HW.out | with_reducible refine Below.setCell ?_ (by dsimp only; omega) _)
  · obtain ⟨rfl, rfl⟩ : zeroC = d1 ∧ n = n1 := by have := HO.out; simpa [h0] using this
    have h0' : (n != 0) = true := by simpa using h0
    clear h0
    unfold cAgg
    go_enter Try.func16, Try.ntmps16
    go_wp2_with fail
    refine (next_c s 0 (HH.out.later HZ0.out) HS.out).mono ?_
    rw [HR.out]
    rintro e w2 ⟨x0, x1, x2, x3, x4, x5, xa, xn, xc, rfl, hq, hb2⟩
    unfold Val_c
    have HQ := Lib.hid hq
    have HW := Lib.hid ((HZ0.out.trans (hb2.mono (by simp; omega))).alloc (by have := hb2.size; simp at this; omega) (.cells #[.int .i64 x0, .int .i64 x1, .int .i64 x2, .int .i64 x3, .int .i64 x4, .int .i64 x5, .slice xa xn xc] 24))
    have HT : Hid (TermsFrom (w.heap.size + 1 + 1) (w2.alloc (.cells #[.int .i64 x0, .int .i64 x1, .int .i64 x2, .int .i64 x3, .int .i64 x4, .int .i64 x5, .slice xa xn xc] 24)) (.slice xa xn xc) d.terms) := Lib.hid (TermsFrom.mono (hq.2.2.2.2.2.2.later (below_alloc1 w2 _)) (by simp))
    have hz2 : w.heap.size + 1 + 1 + 1 ≤ w2.heap.size := by have := hb2.size; simpa using this
    have d0 : w2.cell? ⟨w.heap.size + 1, 0, none⟩ = some (.int .i64 0) := ((bcell hb2).1 _ 0 (show _ < _ by simp)).trans (by simp [go_sem])
    have z0 : w2.cell? ⟨w.heap.size + 1 + 1, 0, none⟩ = some (.int .i64 0) := ((bcell hb2).1 _ 0 (show _ < _ by simp)).trans (by simp [go_sem])
    have d1 : w2.cell? ⟨w.heap.size + 1, 1, none⟩ = some (.int .i64 0) := ((bcell hb2).1 _ 1 (show _ < _ by simp)).trans (by simp [go_sem])
    have z1 : w2.cell? ⟨w.heap.size + 1 + 1, 1, none⟩ = some (.int .i64 0) := ((bcell hb2).1 _ 1 (show _ < _ by simp)).trans (by simp [go_sem])
    have d2 : w2.cell? ⟨w.heap.size + 1, 2, none⟩ = some (.int .i64 0) := ((bcell hb2).1 _ 2 (show _ < _ by simp)).trans (by simp [go_sem])
    have z2 : w2.cell? ⟨w.heap.size + 1 + 1, 2, none⟩ = some (.int .i64 0) := ((bcell hb2).1 _ 2 (show _ < _ by simp)).trans (by simp [go_sem])
    have d3 : w2.cell? ⟨w.heap.size + 1, 3, none⟩ = some (.int .i64 0) := ((bcell hb2).1 _ 3 (show _ < _ by simp)).trans (by simp [go_sem])
    have z3 : w2.cell? ⟨w.heap.size + 1 + 1, 3, none⟩ = some (.int .i64 0) := ((bcell hb2).1 _ 3 (show _ < _ by simp)).trans (by simp [go_sem])
    have d4 : w2.cell? ⟨w.heap.size + 1, 4, none⟩ = some (.int .i64 0) := ((bcell hb2).1 _ 4 (show _ < _ by simp)).trans (by simp [go_sem])
    have z4 : w2.cell? ⟨w.heap.size + 1 + 1, 4, none⟩ = some (.int .i64 0) := ((bcell hb2).1 _ 4 (show _ < _ by simp)).trans (by simp [go_sem])
    have d5 : w2.cell? ⟨w.heap.size + 1, 5, none⟩ = some (.int .i64 0) := ((bcell hb2).1 _ 5 (show _ < _ by simp)).trans (by simp [go_sem])
    have z5 : w2.cell? ⟨w.heap.size + 1 + 1, 5, none⟩ = some (.int .i64 0) := ((bcell hb2).1 _ 5 (show _ < _ by simp)).trans (by simp [go_sem])
    have d6 : w2.cell? ⟨w.heap.size + 1, 6, none⟩ = some (.slice none 0 0) := ((bcell hb2).1 _ 6 (show _ < _ by simp)).trans (by simp [go_sem])
    have z6 : w2.cell? ⟨w.heap.size + 1 + 1, 6, none⟩ = some (.slice none 0 0) := ((bcell hb2).1 _ 6 (show _ < _ by simp)).trans (by simp [go_sem])
    have hfz : ∀ j, w2.frozen? ⟨w.heap.size + 1, j, none⟩ = false := fun j => ((bcell hb2).2 _ j (show _ < _ by simp)).trans (by simp [go_sem])
    replace d0 := cell_stays (below_alloc1 w2 (.cells #[.int .i64 x0, .int .i64 x1, .int .i64 x2, .int .i64 x3, .int .i64 x4, .int .i64 x5, .slice xa xn xc] 24)) d0
    replace z0 := cell_stays (below_alloc1 w2 (.cells #[.int .i64 x0, .int .i64 x1, .int .i64 x2, .int .i64 x3, .int .i64 x4, .int .i64 x5, .slice xa xn xc] 24)) z0
    replace d1 := cell_stays (below_alloc1 w2 (.cells #[.int .i64 x0, .int .i64 x1, .int .i64 x2, .int .i64 x3, .int .i64 x4, .int .i64 x5, .slice xa xn xc] 24)) d1
    replace z1 := cell_stays (below_alloc1 w2 (.cells #[.int .i64 x0, .int .i64 x1, .int .i64 x2, .int .i64 x3, .int .i64 x4, .int .i64 x5, .slice xa xn xc] 24)) z1
    replace d2 := cell_stays (below_alloc1 w2 (.cells #[.int .i64 x0, .int .i64 x1, .int .i64 x2, .int .i64 x3, .int .i64 x4, .int .i64 x5, .slice xa xn xc] 24)) d2
    replace z2 := cell_stays (below_alloc1 w2 (.cells #[.int .i64 x0, .int .i64 x1, .int .i64 x2, .int .i64 x3, .int .i64 x4, .int .i64 x5, .slice xa xn xc] 24)) z2
    replace d3 := cell_stays (below_alloc1 w2 (.cells #[.int .i64 x0, .int .i64 x1, .int .i64 x2, .int .i64 x3, .int .i64 x4, .int .i64 x5, .slice xa xn xc] 24)) d3
    replace z3 := cell_stays (below_alloc1 w2 (.cells #[.int .i64 x0, .int .i64 x1, .int .i64 x2, .int .i64 x3, .int .i64 x4, .int .i64 x5, .slice xa xn xc] 24)) z3
    replace d4 := cell_stays (below_alloc1 w2 (.cells #[.int .i64 x0, .int .i64 x1, .int .i64 x2, .int .i64 x3, .int .i64 x4, .int .i64 x5, .slice xa xn xc] 24)) d4
    replace z4 := cell_stays (below_alloc1 w2 (.cells #[.int .i64 x0, .int .i64 x1, .int .i64 x2, .int .i64 x3, .int .i64 x4, .int .i64 x5, .slice xa xn xc] 24)) z4
    replace d5 := cell_stays (below_alloc1 w2 (.cells #[.int .i64 x0, .int .i64 x1, .int .i64 x2, .int .i64 x3, .int .i64 x4, .int .i64 x5, .slice xa xn xc] 24)) d5
    replace z5 := cell_stays (below_alloc1 w2 (.cells #[.int .i64 x0, .int .i64 x1, .int .i64 x2, .int .i64 x3, .int .i64 x4, .int .i64 x5, .slice xa xn xc] 24)) z5
    replace d6 := cell_stays (below_alloc1 w2 (.cells #[.int .i64 x0, .int .i64 x1, .int .i64 x2, .int .i64 x3, .int .i64 x4, .int .i64 x5, .slice xa xn xc] 24)) d6
    replace z6 := cell_stays (below_alloc1 w2 (.cells #[.int .i64 x0, .int .i64 x1, .int .i64 x2, .int .i64 x3, .int .i64 x4, .int .i64 x5, .slice xa xn xc] 24)) z6
    have hfz2 : ∀ j, (w2.alloc (.cells #[.int .i64 x0, .int .i64 x1, .int .i64 x2, .int .i64 x3, .int .i64 x4, .int .i64 x5, .slice xa xn xc] 24)).frozen? ⟨w.heap.size + 1, j, none⟩ = false := fun j => ((bcell (below_alloc1 w2 _)).2 _ j (show _ < _ by omega)).trans (hfz j)
    clear hq hb2 hfz
    go_wp2
    refine bodyPost_ret (v := .tuple #[.agg #[.int .i64 0, .int .i64 0, .int .i64 0, .int .i64 0, .int .i64 0, .int .i64 0, .slice none 0 0], .int .i64 n]) (by simp [results, Try.results16, go_sem, d0, d1, d2, d3, d4, d5, d6, World.cell?_setCell_other]) rfl
      ⟨0, 0, 0, 0, 0, 0, none, 0, 0, rfl, ⟨rfl, rfl, rfl, rfl, rfl, rfl, .none _ _⟩, ?_⟩
    repeat (first | with_reducible exact HW.out | with_reducible refine Below.setCell ?_ (by dsimp only; omega) _)
end Go.Proofs.Ytekbdbcomfleeaa
namespace Go.Proofs.Ytekbdbcomfleeaa
open Go.RowKit

set_option maxRecDepth 100000 in
set_option maxHeartbeats 1600000 in
theorem is_any (c : CardL) (xa : Option Addr) (xn xc : Nat) (v : Value) (l : List Int) (w : World) (hl : l.length ≤ 9223372036854775807) (h : NumsAt w v l) :
    Calls Try.prog 20 #[cagg c (.slice xa xn xc), v] w (RetB w (l.contains c.kind)) := by
  have HN : ∀ o, NumsAt (w.alloc o) v l := fun o => by
    rcases h with h | ⟨b, off, cap, e, hb, hc⟩
    · exact .inl h
    · exact .inr ⟨b, off, cap, e, by simp; omega, fun i hi => cell_stays (below_alloc1 w o) (hc i hi)⟩
  have HNN := Lib.hid HN
  have HL := Lib.hid hl
  clear HN h hl
  unfold cagg
  go_enter Try.func20, Try.ntmps20
  go_wp2_with fail
  refine (contains_any v l c.kind _ HL.out (HNN.out _)).mono ?_
  rintro e w2 ⟨rfl, rfl⟩
  go_wp2
  go_ret
  exact ⟨ret_bool (by simp), below_alloc1 w _⟩

def exCard : CardL := ⟨2, 2, 2, 2, 0, 0, []⟩
theorem ex_may : mayB exCard = true := by decide
theorem ex_put : cput exCard = (⟨#[2, 2, 2, 2, 0, 0, 0]⟩, 0) := by kernel_rfl
theorem zero_may : mayB zeroC = false := by decide

theorem keep7 {A w1 w2 : World} {b : Nat} {v0 v1 v2 v3 v4 v5 v6 : Value} (hb : Below w1.heap.size w1 w2)
    (h : Below A.heap.size A w1 ∧ w1.cell? ⟨b, 0, none⟩ = some v0 ∧ w1.cell? ⟨b, 1, none⟩ = some v1 ∧ w1.cell? ⟨b, 2, none⟩ = some v2 ∧ w1.cell? ⟨b, 3, none⟩ = some v3 ∧ w1.cell? ⟨b, 4, none⟩ = some v4 ∧ w1.cell? ⟨b, 5, none⟩ = some v5 ∧ w1.cell? ⟨b, 6, none⟩ = some v6) :
    Below A.heap.size A w2 ∧ w2.cell? ⟨b, 0, none⟩ = some v0 ∧ w2.cell? ⟨b, 1, none⟩ = some v1 ∧ w2.cell? ⟨b, 2, none⟩ = some v2 ∧ w2.cell? ⟨b, 3, none⟩ = some v3 ∧ w2.cell? ⟨b, 4, none⟩ = some v4 ∧ w2.cell? ⟨b, 5, none⟩ = some v5 ∧ w2.cell? ⟨b, 6, none⟩ = some v6 :=
  ⟨h.1.trans (hb.mono h.1.size), cell_stays hb h.2.1, cell_stays hb h.2.2.1, cell_stays hb h.2.2.2.1, cell_stays hb h.2.2.2.2.1, cell_stays hb h.2.2.2.2.2.1, cell_stays hb h.2.2.2.2.2.2.1, cell_stays hb h.2.2.2.2.2.2.2⟩

set_option maxRecDepth 100000 in
set_option maxHeartbeats 3200000 in
theorem awake2_any (w : World) : Calls Try.prog 8 #[] w (RetB w true) := by
  have hex : ∀ W : World, CardIs W (cagg exCard (.slice none 0 0)) exCard := fun W => ⟨none, 0, 0, rfl, .inl ⟨none, 0, rfl, rfl⟩⟩
  have HEX := Lib.hid hex
  clear hex
  go_enter Try.func8, Try.ntmps8
  go_wp2
  go_region_held3 (fun w' => Below w.heap.size w w' ∧ w'.cell? ⟨w.heap.size, 0, none⟩ = some (.int .i64 2) ∧ w'.cell? ⟨w.heap.size, 1, none⟩ = some (.int .i64 2) ∧ w'.cell? ⟨w.heap.size, 2, none⟩ = some (.int .i64 2) ∧ w'.cell? ⟨w.heap.size, 3, none⟩ = some (.int .i64 2) ∧ w'.cell? ⟨w.heap.size, 4, none⟩ = some (.int .i64 0) ∧ w'.cell? ⟨w.heap.size, 5, none⟩ = some (.int .i64 0) ∧ w'.cell? ⟨w.heap.size, 6, none⟩ = some (.slice none 0 0))
    (first | assumption | exact ⟨((Below.refl _ _).alloc (Nat.le_refl _) _).drew, by simp [go_sem], by simp [go_sem], by simp [go_sem], by simp [go_sem], by simp [go_sem], by simp [go_sem], by simp [go_sem]⟩ | exact keep7 (by assumption) (by assumption))
    (first
      | (go_at_call 9; refine (codec_any _).mono ?_; rintro e w1 ⟨r, rfl, hcod, hb1⟩)
      | (go_at_call 10; refine (put_c (by assumption) (HEX.out _) (by decide)).mono ?_; rw [ex_put]; unfold ret2; rintro e w3 ⟨rfl, hb3⟩))
  have hS : Below w.heap.size w w3 ∧ w3.cell? ⟨w.heap.size, 0, none⟩ = some (.int .i64 2) ∧ w3.cell? ⟨w.heap.size, 1, none⟩ = some (.int .i64 2) ∧ w3.cell? ⟨w.heap.size, 2, none⟩ = some (.int .i64 2) ∧ w3.cell? ⟨w.heap.size, 3, none⟩ = some (.int .i64 2) ∧ w3.cell? ⟨w.heap.size, 4, none⟩ = some (.int .i64 0) ∧ w3.cell? ⟨w.heap.size, 5, none⟩ = some (.int .i64 0) ∧ w3.cell? ⟨w.heap.size, 6, none⟩ = some (.slice none 0 0) := by assumption
  have HS := Lib.hid hS
  obtain ⟨_, k0, k1, k2, k3, k4, k5, k6⟩ := hS
  go_wp2_with fail
  refine (check_any (HEX.out _) (by decide)).mono ?_
  rw [ex_may]
  rintro e w4 ⟨rfl, hb4⟩
  have HS4 := Lib.hid (keep7 hb4 HS.out)
  clear hb4 k0 k1 k2 k3 k4 k5 k6
  go_wp2_with fail
  refine (check_any (c := zeroC) ⟨none, 0, 0, rfl, .inl ⟨none, 0, rfl, rfl⟩⟩ (by decide)).mono ?_
  rw [zero_may]
  rintro e w5 ⟨rfl, hb5⟩
  have HS5 := Lib.hid (keep7 hb5 HS4.out)
  obtain ⟨_, k0, k1, k2, k3, k4, k5, k6⟩ := HS5.out
  clear hb5
  go_wp2_with fail
  refine (is_any exCard none 0 0 _ [1, 2] _ (by decide) (nums2 _ _ _)).mono ?_
  rintro e w6 ⟨rfl, hb6⟩
  go_wp2
  go_ret
  exact ⟨rfl, stepB (below_alloc2 HS5.out.1 _) hb6⟩
end Go.Proofs.Ytekbdbcomfleeaa
