/- The contracts of Get of the codec of cards, of Is, and of awake, the document's example (layer 2, card). -/
import Derived.Test.YtcbjekdbkhibbaaCq
namespace Go.Proofs.Ytcbjekdbkhibbaa
open Go.RowKit

def cgetOf (s : ByteArray) : CardL × Int := if (cnextAt s 0).2.2 = 0 then (if (cnextAt s 0).2.1 = s.size then ((cnextAt s 0).1, 0) else (zeroC, 4)) else (zeroC, (cnextAt s 0).2.2)
/-- A call of Get ends with a card and an error. -/
def Ret_g (w : World) (d : CardL) (n : Int) (e : Ending) (w' : World) : Prop :=
  ∃ (x0 : Int) (x1 : Int) (x2 : Int) (x3 : Int) (x4 : Int) (x5 : Int) (xa : Option Addr) (xn : Nat) (xc : Nat), e = .returned (.tuple #[Val_c x0 x1 x2 x3 x4 x5 xa xn xc, .int .i64 n]) ∧
    (x0 = d.kind ∧ x1 = d.cost ∧ x2 = d.power ∧ x3 = d.tough ∧ x4 = d.keys ∧ x5 = d.whn ∧ TermsFrom (w.heap.size) w' (.slice xa xn xc) d.terms) ∧ Below w.heap.size w w'

set_option maxRecDepth 100000 in
set_option maxHeartbeats 1600000 in
theorem get_c {r : Nat} (s : ByteArray) {w : World} (hh : CHas w r) (hs : s.size ≤ maxLen) :
    Calls Try.prog 45 #[cAgg r, .string s] w (Ret_g w (cgetOf s).1 (cgetOf s).2) := by
  have HH := Lib.hid hh
  have HS := Lib.hid hs
  unfold maxLen at hs
  clear hh
  obtain ⟨d, m, n, hr⟩ : ∃ d m n, cnextAt s 0 = (d, m, n) := ⟨_, _, _, rfl⟩
  obtain ⟨d1, n1, ho⟩ : ∃ d1 n1, cgetOf s = (d1, n1) := ⟨_, _, rfl⟩
  rw [ho]
  have HR := Lib.hid hr
  have HO : Hid ((if n = 0 then (if m = s.size then (d, 0) else (zeroC, 4)) else (zeroC, n)) = (d1, n1)) := Lib.hid (by rw [← ho]; unfold cgetOf; rw [hr])
  clear hr ho
  have hz0 : Below w.heap.size w (((w.alloc (.cells #[.func (.func 97) #[] #[.pointer (some ⟨r, 0, none⟩)], .func (.func 99) #[] #[.pointer (some ⟨r, 0, none⟩)]] 69)).alloc (.cells #[.int .i64 0, .int .i64 0, .int .i64 0, .int .i64 0, .int .i64 0, .int .i64 0, .slice none 0 0] 65)).alloc (.cells #[.int .i64 0, .int .i64 0, .int .i64 0, .int .i64 0, .int .i64 0, .int .i64 0, .slice none 0 0] 65)) := ((((Below.refl _ _).alloc (Nat.le_refl _) _).alloc (by simp) _).alloc (by simp; omega) _)
  have HZ0 := Lib.hid hz0
  clear hz0
  by_cases h0 : n = 0
  · subst h0
    by_cases hm : m = s.size
    · obtain ⟨rfl, rfl⟩ : d = d1 ∧ 0 = n1 := by have := HO.out; simpa [hm] using this
      subst hm
      unfold cAgg
      go_enter Try.func45, Try.ntmps45
      go_wp2_with fail
      refine (next_c s 0 (HH.out.later HZ0.out) HS.out).mono ?_
      rw [HR.out]
      rintro e w2 ⟨x0, x1, x2, x3, x4, x5, xa, xn, xc, rfl, hq, hb2⟩
      unfold Val_c
      have HQ := Lib.hid hq
      have HW := Lib.hid ((HZ0.out.trans (hb2.mono (by simp; omega))).alloc (by have := hb2.size; simp at this; omega) (.cells #[.int .i64 x0, .int .i64 x1, .int .i64 x2, .int .i64 x3, .int .i64 x4, .int .i64 x5, .slice xa xn xc] 65))
      have HT : Hid (TermsFrom (w.heap.size + 1 + 1) (w2.alloc (.cells #[.int .i64 x0, .int .i64 x1, .int .i64 x2, .int .i64 x3, .int .i64 x4, .int .i64 x5, .slice xa xn xc] 65)) (.slice xa xn xc) d.terms) := Lib.hid (TermsFrom.mono (hq.2.2.2.2.2.2.later (below_alloc1 w2 _)) (by simp))
      have hz2 : w.heap.size + 1 + 1 + 1 ≤ w2.heap.size := by have := hb2.size; simpa using this
      have d0 : w2.cell? ⟨w.heap.size + 1, 0, none⟩ = some (.int .i64 0) := ((bcell hb2).1 _ 0 (show _ < _ by simp)).trans (by simp [go_sem])
      have z0 : w2.cell? ⟨w.heap.size + 1 + 1, 0, none⟩ = some (.int .i64 0) := ((bcell hb2).1 _ 0 (show _ < _ by simp)).trans (by simp [go_sem])
      have d1 : w2.cell? ⟨w.heap.size + 1, 1, none⟩ = some (.int .i64 0) := ((bcell hb2).1 _ 1 (show _ < _ by simp)).trans (by simp [go_sem])
      have z1 : w2.cell? ⟨w.heap.size + 1 + 1, 1, none⟩ = some (.int .i64 0) := ((bcell hb2).1 _ 1 (show _ < _ by simp)).trans (by simp [go_sem])
      have d2 : w2.cell? ⟨w.heap.size + 1, 2, none⟩ = some (.int .i64 0) := ((bcell hb2).1 _ 2 (show _ < _ by simp)).trans (by simp [go_sem])
      have z2 : w2.cell? ⟨w.heap.size + 1 + 1, 2, none⟩ = some (.int .i64 0) := ((bcell hb2).1 _ 2 (show _ < _ by simp)).trans (by simp [go_sem])
      have d3 : w2.cell? ⟨w.heap.size + 1, 3, none⟩ = some (.int .i64 0) := ((bcell hb2).1 _ 3 (show _ < _ by simp)).trans (by simp [go_sem])
      have z3 : w2.cell? ⟨w.heap.size + 1 + 1, 3, none⟩ = some (.int .i64 0) := ((bcell hb2).1 _ 3 (show _ < _ by simp)).trans (by simp [go_sem])
      have d4 : w2.cell? ⟨w.heap.size + 1, 4, none⟩ = some (.int .i64 0) := ((bcell hb2).1 _ 4 (show _ < _ by simp)).trans (by simp [go_sem])
      have z4 : w2.cell? ⟨w.heap.size + 1 + 1, 4, none⟩ = some (.int .i64 0) := ((bcell hb2).1 _ 4 (show _ < _ by simp)).trans (by simp [go_sem])
      have d5 : w2.cell? ⟨w.heap.size + 1, 5, none⟩ = some (.int .i64 0) := ((bcell hb2).1 _ 5 (show _ < _ by simp)).trans (by simp [go_sem])
      have z5 : w2.cell? ⟨w.heap.size + 1 + 1, 5, none⟩ = some (.int .i64 0) := ((bcell hb2).1 _ 5 (show _ < _ by simp)).trans (by simp [go_sem])
      have d6 : w2.cell? ⟨w.heap.size + 1, 6, none⟩ = some (.slice none 0 0) := ((bcell hb2).1 _ 6 (show _ < _ by simp)).trans (by simp [go_sem])
      have z6 : w2.cell? ⟨w.heap.size + 1 + 1, 6, none⟩ = some (.slice none 0 0) := ((bcell hb2).1 _ 6 (show _ < _ by simp)).trans (by simp [go_sem])
      have hfz : ∀ j, w2.frozen? ⟨w.heap.size + 1, j, none⟩ = false := fun j => ((bcell hb2).2 _ j (show _ < _ by simp)).trans (by simp [go_sem])
      replace d0 := cell_stays (below_alloc1 w2 (.cells #[.int .i64 x0, .int .i64 x1, .int .i64 x2, .int .i64 x3, .int .i64 x4, .int .i64 x5, .slice xa xn xc] 65)) d0
      replace z0 := cell_stays (below_alloc1 w2 (.cells #[.int .i64 x0, .int .i64 x1, .int .i64 x2, .int .i64 x3, .int .i64 x4, .int .i64 x5, .slice xa xn xc] 65)) z0
      replace d1 := cell_stays (below_alloc1 w2 (.cells #[.int .i64 x0, .int .i64 x1, .int .i64 x2, .int .i64 x3, .int .i64 x4, .int .i64 x5, .slice xa xn xc] 65)) d1
      replace z1 := cell_stays (below_alloc1 w2 (.cells #[.int .i64 x0, .int .i64 x1, .int .i64 x2, .int .i64 x3, .int .i64 x4, .int .i64 x5, .slice xa xn xc] 65)) z1
      replace d2 := cell_stays (below_alloc1 w2 (.cells #[.int .i64 x0, .int .i64 x1, .int .i64 x2, .int .i64 x3, .int .i64 x4, .int .i64 x5, .slice xa xn xc] 65)) d2
      replace z2 := cell_stays (below_alloc1 w2 (.cells #[.int .i64 x0, .int .i64 x1, .int .i64 x2, .int .i64 x3, .int .i64 x4, .int .i64 x5, .slice xa xn xc] 65)) z2
      replace d3 := cell_stays (below_alloc1 w2 (.cells #[.int .i64 x0, .int .i64 x1, .int .i64 x2, .int .i64 x3, .int .i64 x4, .int .i64 x5, .slice xa xn xc] 65)) d3
      replace z3 := cell_stays (below_alloc1 w2 (.cells #[.int .i64 x0, .int .i64 x1, .int .i64 x2, .int .i64 x3, .int .i64 x4, .int .i64 x5, .slice xa xn xc] 65)) z3
      replace d4 := cell_stays (below_alloc1 w2 (.cells #[.int .i64 x0, .int .i64 x1, .int .i64 x2, .int .i64 x3, .int .i64 x4, .int .i64 x5, .slice xa xn xc] 65)) d4
      replace z4 := cell_stays (below_alloc1 w2 (.cells #[.int .i64 x0, .int .i64 x1, .int .i64 x2, .int .i64 x3, .int .i64 x4, .int .i64 x5, .slice xa xn xc] 65)) z4
      replace d5 := cell_stays (below_alloc1 w2 (.cells #[.int .i64 x0, .int .i64 x1, .int .i64 x2, .int .i64 x3, .int .i64 x4, .int .i64 x5, .slice xa xn xc] 65)) d5
      replace z5 := cell_stays (below_alloc1 w2 (.cells #[.int .i64 x0, .int .i64 x1, .int .i64 x2, .int .i64 x3, .int .i64 x4, .int .i64 x5, .slice xa xn xc] 65)) z5
      replace d6 := cell_stays (below_alloc1 w2 (.cells #[.int .i64 x0, .int .i64 x1, .int .i64 x2, .int .i64 x3, .int .i64 x4, .int .i64 x5, .slice xa xn xc] 65)) d6
      replace z6 := cell_stays (below_alloc1 w2 (.cells #[.int .i64 x0, .int .i64 x1, .int .i64 x2, .int .i64 x3, .int .i64 x4, .int .i64 x5, .slice xa xn xc] 65)) z6
      have hfz2 : ∀ j, (w2.alloc (.cells #[.int .i64 x0, .int .i64 x1, .int .i64 x2, .int .i64 x3, .int .i64 x4, .int .i64 x5, .slice xa xn xc] 65)).frozen? ⟨w.heap.size + 1, j, none⟩ = false := fun j => ((bcell (below_alloc1 w2 _)).2 _ j (show _ < _ by omega)).trans (hfz j)
      clear hq hb2 hfz
      go_wp2
      refine bodyPost_ret (v := .tuple #[.agg #[.int .i64 x0, .int .i64 x1, .int .i64 x2, .int .i64 x3, .int .i64 x4, .int .i64 x5, .slice xa xn xc], .int .i64 0]) (by simp [results, Try.results45, go_sem, d0, d1, d2, d3, d4, d5, d6, World.cell?_setCell_other]) rfl
        ⟨x0, x1, x2, x3, x4, x5, xa, xn, xc, rfl, ⟨HQ.out.1, HQ.out.2.1, HQ.out.2.2.1, HQ.out.2.2.2.1, HQ.out.2.2.2.2.1, HQ.out.2.2.2.2.2.1, TermsFrom.mono (B := w.heap.size + 1 + 1) ?_ (by omega)⟩, ?_⟩
      · repeat (first | with_reducible exact HT.out | with_reducible refine TermsFrom.setCell ?_ (by dsimp only; omega) _)
      · repeat (first | with_reducible exact HW.out | with_reducible refine Below.setCell ?_ (by dsimp only; omega) _)
    · obtain ⟨rfl, rfl⟩ : zeroC = d1 ∧ 4 = n1 := by have := HO.out; simpa [hm] using this
      have hm' : (m != s.size) = true := by simpa using hm
      clear hm
      unfold cAgg
      go_enter Try.func45, Try.ntmps45
      go_wp2_with fail
      refine (next_c s 0 (HH.out.later HZ0.out) HS.out).mono ?_
      rw [HR.out]
      rintro e w2 ⟨x0, x1, x2, x3, x4, x5, xa, xn, xc, rfl, hq, hb2⟩
      unfold Val_c
      have HQ := Lib.hid hq
      have HW := Lib.hid ((HZ0.out.trans (hb2.mono (by simp; omega))).alloc (by have := hb2.size; simp at this; omega) (.cells #[.int .i64 x0, .int .i64 x1, .int .i64 x2, .int .i64 x3, .int .i64 x4, .int .i64 x5, .slice xa xn xc] 65))
      have HT : Hid (TermsFrom (w.heap.size + 1 + 1) (w2.alloc (.cells #[.int .i64 x0, .int .i64 x1, .int .i64 x2, .int .i64 x3, .int .i64 x4, .int .i64 x5, .slice xa xn xc] 65)) (.slice xa xn xc) d.terms) := Lib.hid (TermsFrom.mono (hq.2.2.2.2.2.2.later (below_alloc1 w2 _)) (by simp))
      have hz2 : w.heap.size + 1 + 1 + 1 ≤ w2.heap.size := by have := hb2.size; simpa using this
      have d0 : w2.cell? ⟨w.heap.size + 1, 0, none⟩ = some (.int .i64 0) := ((bcell hb2).1 _ 0 (show _ < _ by simp)).trans (by simp [go_sem])
      have z0 : w2.cell? ⟨w.heap.size + 1 + 1, 0, none⟩ = some (.int .i64 0) := ((bcell hb2).1 _ 0 (show _ < _ by simp)).trans (by simp [go_sem])
      have d1 : w2.cell? ⟨w.heap.size + 1, 1, none⟩ = some (.int .i64 0) := ((bcell hb2).1 _ 1 (show _ < _ by simp)).trans (by simp [go_sem])
      have z1 : w2.cell? ⟨w.heap.size + 1 + 1, 1, none⟩ = some (.int .i64 0) := ((bcell hb2).1 _ 1 (show _ < _ by simp)).trans (by simp [go_sem])
      have d2 : w2.cell? ⟨w.heap.size + 1, 2, none⟩ = some (.int .i64 0) := ((bcell hb2).1 _ 2 (show _ < _ by simp)).trans (by simp [go_sem])
      have z2 : w2.cell? ⟨w.heap.size + 1 + 1, 2, none⟩ = some (.int .i64 0) := ((bcell hb2).1 _ 2 (show _ < _ by simp)).trans (by simp [go_sem])
      have d3 : w2.cell? ⟨w.heap.size + 1, 3, none⟩ = some (.int .i64 0) := ((bcell hb2).1 _ 3 (show _ < _ by simp)).trans (by simp [go_sem])
      have z3 : w2.cell? ⟨w.heap.size + 1 + 1, 3, none⟩ = some (.int .i64 0) := ((bcell hb2).1 _ 3 (show _ < _ by simp)).trans (by simp [go_sem])
      have d4 : w2.cell? ⟨w.heap.size + 1, 4, none⟩ = some (.int .i64 0) := ((bcell hb2).1 _ 4 (show _ < _ by simp)).trans (by simp [go_sem])
      have z4 : w2.cell? ⟨w.heap.size + 1 + 1, 4, none⟩ = some (.int .i64 0) := ((bcell hb2).1 _ 4 (show _ < _ by simp)).trans (by simp [go_sem])
      have d5 : w2.cell? ⟨w.heap.size + 1, 5, none⟩ = some (.int .i64 0) := ((bcell hb2).1 _ 5 (show _ < _ by simp)).trans (by simp [go_sem])
      have z5 : w2.cell? ⟨w.heap.size + 1 + 1, 5, none⟩ = some (.int .i64 0) := ((bcell hb2).1 _ 5 (show _ < _ by simp)).trans (by simp [go_sem])
      have d6 : w2.cell? ⟨w.heap.size + 1, 6, none⟩ = some (.slice none 0 0) := ((bcell hb2).1 _ 6 (show _ < _ by simp)).trans (by simp [go_sem])
      have z6 : w2.cell? ⟨w.heap.size + 1 + 1, 6, none⟩ = some (.slice none 0 0) := ((bcell hb2).1 _ 6 (show _ < _ by simp)).trans (by simp [go_sem])
      have hfz : ∀ j, w2.frozen? ⟨w.heap.size + 1, j, none⟩ = false := fun j => ((bcell hb2).2 _ j (show _ < _ by simp)).trans (by simp [go_sem])
      replace d0 := cell_stays (below_alloc1 w2 (.cells #[.int .i64 x0, .int .i64 x1, .int .i64 x2, .int .i64 x3, .int .i64 x4, .int .i64 x5, .slice xa xn xc] 65)) d0
      replace z0 := cell_stays (below_alloc1 w2 (.cells #[.int .i64 x0, .int .i64 x1, .int .i64 x2, .int .i64 x3, .int .i64 x4, .int .i64 x5, .slice xa xn xc] 65)) z0
      replace d1 := cell_stays (below_alloc1 w2 (.cells #[.int .i64 x0, .int .i64 x1, .int .i64 x2, .int .i64 x3, .int .i64 x4, .int .i64 x5, .slice xa xn xc] 65)) d1
      replace z1 := cell_stays (below_alloc1 w2 (.cells #[.int .i64 x0, .int .i64 x1, .int .i64 x2, .int .i64 x3, .int .i64 x4, .int .i64 x5, .slice xa xn xc] 65)) z1
      replace d2 := cell_stays (below_alloc1 w2 (.cells #[.int .i64 x0, .int .i64 x1, .int .i64 x2, .int .i64 x3, .int .i64 x4, .int .i64 x5, .slice xa xn xc] 65)) d2
      replace z2 := cell_stays (below_alloc1 w2 (.cells #[.int .i64 x0, .int .i64 x1, .int .i64 x2, .int .i64 x3, .int .i64 x4, .int .i64 x5, .slice xa xn xc] 65)) z2
      replace d3 := cell_stays (below_alloc1 w2 (.cells #[.int .i64 x0, .int .i64 x1, .int .i64 x2, .int .i64 x3, .int .i64 x4, .int .i64 x5, .slice xa xn xc] 65)) d3
      replace z3 := cell_stays (below_alloc1 w2 (.cells #[.int .i64 x0, .int .i64 x1, .int .i64 x2, .int .i64 x3, .int .i64 x4, .int .i64 x5, .slice xa xn xc] 65)) z3
      replace d4 := cell_stays (below_alloc1 w2 (.cells #[.int .i64 x0, .int .i64 x1, .int .i64 x2, .int .i64 x3, .int .i64 x4, .int .i64 x5, .slice xa xn xc] 65)) d4
      replace z4 := cell_stays (below_alloc1 w2 (.cells #[.int .i64 x0, .int .i64 x1, .int .i64 x2, .int .i64 x3, .int .i64 x4, .int .i64 x5, .slice xa xn xc] 65)) z4
      replace d5 := cell_stays (below_alloc1 w2 (.cells #[.int .i64 x0, .int .i64 x1, .int .i64 x2, .int .i64 x3, .int .i64 x4, .int .i64 x5, .slice xa xn xc] 65)) d5
      replace z5 := cell_stays (below_alloc1 w2 (.cells #[.int .i64 x0, .int .i64 x1, .int .i64 x2, .int .i64 x3, .int .i64 x4, .int .i64 x5, .slice xa xn xc] 65)) z5
      replace d6 := cell_stays (below_alloc1 w2 (.cells #[.int .i64 x0, .int .i64 x1, .int .i64 x2, .int .i64 x3, .int .i64 x4, .int .i64 x5, .slice xa xn xc] 65)) d6
      replace z6 := cell_stays (below_alloc1 w2 (.cells #[.int .i64 x0, .int .i64 x1, .int .i64 x2, .int .i64 x3, .int .i64 x4, .int .i64 x5, .slice xa xn xc] 65)) z6
      have hfz2 : ∀ j, (w2.alloc (.cells #[.int .i64 x0, .int .i64 x1, .int .i64 x2, .int .i64 x3, .int .i64 x4, .int .i64 x5, .slice xa xn xc] 65)).frozen? ⟨w.heap.size + 1, j, none⟩ = false := fun j => ((bcell (below_alloc1 w2 _)).2 _ j (show _ < _ by omega)).trans (hfz j)
      clear hq hb2 hfz
      go_wp2
      refine bodyPost_ret (v := .tuple #[.agg #[.int .i64 0, .int .i64 0, .int .i64 0, .int .i64 0, .int .i64 0, .int .i64 0, .slice none 0 0], .int .i64 4]) (by simp [results, Try.results45, go_sem, d0, d1, d2, d3, d4, d5, d6, World.cell?_setCell_other]) rfl
        ⟨0, 0, 0, 0, 0, 0, none, 0, 0, rfl, ⟨rfl, rfl, rfl, rfl, rfl, rfl, .none _ _⟩, ?_⟩
      repeat (first | with_reducible exact HW.out | with_reducible refine Below.setCell ?_ (by dsimp only; omega) _)
  · obtain ⟨rfl, rfl⟩ : zeroC = d1 ∧ n = n1 := by have := HO.out; simpa [h0] using this
    have h0' : (n != 0) = true := by simpa using h0
    clear h0
    unfold cAgg
    go_enter Try.func45, Try.ntmps45
    go_wp2_with fail
    refine (next_c s 0 (HH.out.later HZ0.out) HS.out).mono ?_
    rw [HR.out]
    rintro e w2 ⟨x0, x1, x2, x3, x4, x5, xa, xn, xc, rfl, hq, hb2⟩
    unfold Val_c
    have HQ := Lib.hid hq
    have HW := Lib.hid ((HZ0.out.trans (hb2.mono (by simp; omega))).alloc (by have := hb2.size; simp at this; omega) (.cells #[.int .i64 x0, .int .i64 x1, .int .i64 x2, .int .i64 x3, .int .i64 x4, .int .i64 x5, .slice xa xn xc] 65))
    have HT : Hid (TermsFrom (w.heap.size + 1 + 1) (w2.alloc (.cells #[.int .i64 x0, .int .i64 x1, .int .i64 x2, .int .i64 x3, .int .i64 x4, .int .i64 x5, .slice xa xn xc] 65)) (.slice xa xn xc) d.terms) := Lib.hid (TermsFrom.mono (hq.2.2.2.2.2.2.later (below_alloc1 w2 _)) (by simp))
    have hz2 : w.heap.size + 1 + 1 + 1 ≤ w2.heap.size := by have := hb2.size; simpa using this
    have d0 : w2.cell? ⟨w.heap.size + 1, 0, none⟩ = some (.int .i64 0) := ((bcell hb2).1 _ 0 (show _ < _ by simp)).trans (by simp [go_sem])
    have z0 : w2.cell? ⟨w.heap.size + 1 + 1, 0, none⟩ = some (.int .i64 0) := ((bcell hb2).1 _ 0 (show _ < _ by simp)).trans (by simp [go_sem])
    have d1 : w2.cell? ⟨w.heap.size + 1, 1, none⟩ = some (.int .i64 0) := ((bcell hb2).1 _ 1 (show _ < _ by simp)).trans (by simp [go_sem])
    have z1 : w2.cell? ⟨w.heap.size + 1 + 1, 1, none⟩ = some (.int .i64 0) := ((bcell hb2).1 _ 1 (show _ < _ by simp)).trans (by simp [go_sem])
    have d2 : w2.cell? ⟨w.heap.size + 1, 2, none⟩ = some (.int .i64 0) := ((bcell hb2).1 _ 2 (show _ < _ by simp)).trans (by simp [go_sem])
    have z2 : w2.cell? ⟨w.heap.size + 1 + 1, 2, none⟩ = some (.int .i64 0) := ((bcell hb2).1 _ 2 (show _ < _ by simp)).trans (by simp [go_sem])
    have d3 : w2.cell? ⟨w.heap.size + 1, 3, none⟩ = some (.int .i64 0) := ((bcell hb2).1 _ 3 (show _ < _ by simp)).trans (by simp [go_sem])
    have z3 : w2.cell? ⟨w.heap.size + 1 + 1, 3, none⟩ = some (.int .i64 0) := ((bcell hb2).1 _ 3 (show _ < _ by simp)).trans (by simp [go_sem])
    have d4 : w2.cell? ⟨w.heap.size + 1, 4, none⟩ = some (.int .i64 0) := ((bcell hb2).1 _ 4 (show _ < _ by simp)).trans (by simp [go_sem])
    have z4 : w2.cell? ⟨w.heap.size + 1 + 1, 4, none⟩ = some (.int .i64 0) := ((bcell hb2).1 _ 4 (show _ < _ by simp)).trans (by simp [go_sem])
    have d5 : w2.cell? ⟨w.heap.size + 1, 5, none⟩ = some (.int .i64 0) := ((bcell hb2).1 _ 5 (show _ < _ by simp)).trans (by simp [go_sem])
    have z5 : w2.cell? ⟨w.heap.size + 1 + 1, 5, none⟩ = some (.int .i64 0) := ((bcell hb2).1 _ 5 (show _ < _ by simp)).trans (by simp [go_sem])
    have d6 : w2.cell? ⟨w.heap.size + 1, 6, none⟩ = some (.slice none 0 0) := ((bcell hb2).1 _ 6 (show _ < _ by simp)).trans (by simp [go_sem])
    have z6 : w2.cell? ⟨w.heap.size + 1 + 1, 6, none⟩ = some (.slice none 0 0) := ((bcell hb2).1 _ 6 (show _ < _ by simp)).trans (by simp [go_sem])
    have hfz : ∀ j, w2.frozen? ⟨w.heap.size + 1, j, none⟩ = false := fun j => ((bcell hb2).2 _ j (show _ < _ by simp)).trans (by simp [go_sem])
    replace d0 := cell_stays (below_alloc1 w2 (.cells #[.int .i64 x0, .int .i64 x1, .int .i64 x2, .int .i64 x3, .int .i64 x4, .int .i64 x5, .slice xa xn xc] 65)) d0
    replace z0 := cell_stays (below_alloc1 w2 (.cells #[.int .i64 x0, .int .i64 x1, .int .i64 x2, .int .i64 x3, .int .i64 x4, .int .i64 x5, .slice xa xn xc] 65)) z0
    replace d1 := cell_stays (below_alloc1 w2 (.cells #[.int .i64 x0, .int .i64 x1, .int .i64 x2, .int .i64 x3, .int .i64 x4, .int .i64 x5, .slice xa xn xc] 65)) d1
    replace z1 := cell_stays (below_alloc1 w2 (.cells #[.int .i64 x0, .int .i64 x1, .int .i64 x2, .int .i64 x3, .int .i64 x4, .int .i64 x5, .slice xa xn xc] 65)) z1
    replace d2 := cell_stays (below_alloc1 w2 (.cells #[.int .i64 x0, .int .i64 x1, .int .i64 x2, .int .i64 x3, .int .i64 x4, .int .i64 x5, .slice xa xn xc] 65)) d2
    replace z2 := cell_stays (below_alloc1 w2 (.cells #[.int .i64 x0, .int .i64 x1, .int .i64 x2, .int .i64 x3, .int .i64 x4, .int .i64 x5, .slice xa xn xc] 65)) z2
    replace d3 := cell_stays (below_alloc1 w2 (.cells #[.int .i64 x0, .int .i64 x1, .int .i64 x2, .int .i64 x3, .int .i64 x4, .int .i64 x5, .slice xa xn xc] 65)) d3
    replace z3 := cell_stays (below_alloc1 w2 (.cells #[.int .i64 x0, .int .i64 x1, .int .i64 x2, .int .i64 x3, .int .i64 x4, .int .i64 x5, .slice xa xn xc] 65)) z3
    replace d4 := cell_stays (below_alloc1 w2 (.cells #[.int .i64 x0, .int .i64 x1, .int .i64 x2, .int .i64 x3, .int .i64 x4, .int .i64 x5, .slice xa xn xc] 65)) d4
    replace z4 := cell_stays (below_alloc1 w2 (.cells #[.int .i64 x0, .int .i64 x1, .int .i64 x2, .int .i64 x3, .int .i64 x4, .int .i64 x5, .slice xa xn xc] 65)) z4
    replace d5 := cell_stays (below_alloc1 w2 (.cells #[.int .i64 x0, .int .i64 x1, .int .i64 x2, .int .i64 x3, .int .i64 x4, .int .i64 x5, .slice xa xn xc] 65)) d5
    replace z5 := cell_stays (below_alloc1 w2 (.cells #[.int .i64 x0, .int .i64 x1, .int .i64 x2, .int .i64 x3, .int .i64 x4, .int .i64 x5, .slice xa xn xc] 65)) z5
    replace d6 := cell_stays (below_alloc1 w2 (.cells #[.int .i64 x0, .int .i64 x1, .int .i64 x2, .int .i64 x3, .int .i64 x4, .int .i64 x5, .slice xa xn xc] 65)) d6
    replace z6 := cell_stays (below_alloc1 w2 (.cells #[.int .i64 x0, .int .i64 x1, .int .i64 x2, .int .i64 x3, .int .i64 x4, .int .i64 x5, .slice xa xn xc] 65)) z6
    have hfz2 : ∀ j, (w2.alloc (.cells #[.int .i64 x0, .int .i64 x1, .int .i64 x2, .int .i64 x3, .int .i64 x4, .int .i64 x5, .slice xa xn xc] 65)).frozen? ⟨w.heap.size + 1, j, none⟩ = false := fun j => ((bcell (below_alloc1 w2 _)).2 _ j (show _ < _ by omega)).trans (hfz j)
    clear hq hb2 hfz
    go_wp2
    refine bodyPost_ret (v := .tuple #[.agg #[.int .i64 0, .int .i64 0, .int .i64 0, .int .i64 0, .int .i64 0, .int .i64 0, .slice none 0 0], .int .i64 n]) (by simp [results, Try.results45, go_sem, d0, d1, d2, d3, d4, d5, d6, World.cell?_setCell_other]) rfl
      ⟨0, 0, 0, 0, 0, 0, none, 0, 0, rfl, ⟨rfl, rfl, rfl, rfl, rfl, rfl, .none _ _⟩, ?_⟩
    repeat (first | with_reducible exact HW.out | with_reducible refine Below.setCell ?_ (by dsimp only; omega) _)
end Go.Proofs.Ytcbjekdbkhibbaa
