/- The contracts of card's Codec, and of Put, Next and Get of what it answers (layer 2, card). -/
import Derived.Test.YtekbdbcomfleeaaCk
import Derived.Test.YtekbdbcomfleeaaCn
namespace Go.Proofs.Ytekbdbcomfleeaa
open Go.RowKit

def lP (p q : Nat) : Value := .func (.func 57) #[] #[.pointer (some ⟨p, 0, none⟩), .pointer (some ⟨q, 0, none⟩)]
def lN (p q : Nat) : Value := .func (.func 59) #[] #[.pointer (some ⟨p, 0, none⟩), .pointer (some ⟨q, 0, none⟩)]
def cAgg (r : Nat) : Value := .agg #[.func (.func 29) #[] #[.pointer (some ⟨r, 0, none⟩)], .func (.func 31) #[] #[.pointer (some ⟨r, 0, none⟩)]]
/-- What the two functions of the codec of cards hold. -/
def CHas (w : World) (r : Nat) : Prop := ∃ p q, w.cell? ⟨r, 0, none⟩ = some (lP p q) ∧ w.cell? ⟨r, 1, none⟩ = some (lN p q) ∧ LHas w p q
theorem CHas.later {w w' : World} {r : Nat} (h : CHas w r) (hb : Below w.heap.size w w') : CHas w' r := by
  obtain ⟨p, q, h0, h1, h2⟩ := h
  exact ⟨p, q, cell_stays hb h0, cell_stays hb h1, h2.later hb⟩

set_option maxRecDepth 100000 in
set_option maxHeartbeats 800000 in
theorem make_c (f0 : Fn) (fi0 ca0 : Array Value) (f1 : Fn) (fi1 ca1 : Array Value) (w : World) :
    Calls Try.prog 28 #[.func f0 fi0 ca0, .func f1 fi1 ca1] w fun e w' => e = .returned (.agg #[.func f0 fi0 ca0, .func f1 fi1 ca1]) ∧ Below w.heap.size w w' := by
  have e1 := @eg_func
  have e2 := @eqp_c
  have e3 := @eqn_c
  go_enter Try.func28, Try.ntmps28
  go_wp2
  exact bodyPost_ret (by simp [results, Try.results28, go_sem]) rfl ⟨rfl, (Below.refl _ _).alloc (Nat.le_refl _) _⟩

def RetCodec (w : World) (e : Ending) (w' : World) : Prop := ∃ r, e = .returned (cAgg r) ∧ CHas w' r ∧ Below w.heap.size w w'

set_option maxRecDepth 100000 in
set_option maxHeartbeats 1600000 in
theorem codec_any (w : World) : Calls Try.prog 9 #[] w (RetCodec w) := by
  have hmf := @mk_func
  go_enter Try.func9, Try.ntmps9
  go_wp2_with fail
  refine (termCodec_any _).mono ?_
  rintro e w2 ⟨rfl, hb2⟩
  have HW2 := Lib.hid (stepB (below_alloc1 w _) hb2)
  have HZ2 := Lib.hid hb2
  clear hb2
  unfold tAgg
  go_wp2_with fail
  refine (list_t _).mono ?_
  rintro e w3 ⟨rfl, hl, hb3⟩
  have HL3 := Lib.hid hl
  have HW3 := Lib.hid (stepB HW2.out hb3)
  have HZ3 := Lib.hid (HZ2.out.trans (hb3.mono HZ2.out.size))
  clear hl hb3
  unfold lAgg
  go_wp2_with fail
  refine (make_c _ _ _ _ _ _ _).mono ?_
  rintro e w4 ⟨rfl, hb4⟩
  have HL4 := Lib.hid (HL3.out.later (stepB (below_alloc1 w3 _) hb4))
  have HW4 := Lib.hid (stepB (below_alloc2 HW3.out _) hb4)
  have HZ4 := Lib.hid (HZ3.out.trans ((stepB (below_alloc1 w3 _) hb4).mono HZ3.out.size))
  have hcells := bcell hb4
  have m0 := (hcells.1 w3.heap.size 0 (by simp)).trans (show _ = some (lP w2.heap.size (w2.heap.size + 1)) by simp [go_sem, lP])
  have m1 := (hcells.1 w3.heap.size 1 (by simp)).trans (show _ = some (lN w2.heap.size (w2.heap.size + 1)) by simp [go_sem, lN])
  have hz4 := hb4.size
  simp at hz4
  have hz3 := HZ3.out.size
  simp at hz3
  have d0 : w4.cell? ⟨w.heap.size, 0, none⟩ = some .nilFunc := (HZ4.out.cell (p := ⟨w.heap.size, 0, none⟩) (by simp)).trans (by simp [go_sem])
  have d1 : w4.cell? ⟨w.heap.size, 1, none⟩ = some .nilFunc := (HZ4.out.cell (p := ⟨w.heap.size, 1, none⟩) (by simp)).trans (by simp [go_sem])
  have f0 : w4.frozen? ⟨w.heap.size, 0, none⟩ = false := (HZ4.out.frozen (p := ⟨w.heap.size, 0, none⟩) (by simp)).trans (by simp [go_sem])
  have f1 : w4.frozen? ⟨w.heap.size, 1, none⟩ = false := (HZ4.out.frozen (p := ⟨w.heap.size, 1, none⟩) (by simp)).trans (by simp [go_sem])
  have HM0 := Lib.hid m0
  have HM1 := Lib.hid m1
  clear hb4 hcells m0 m1
  go_wp2
  have hz2 := HZ2.out.size
  simp at hz2
  refine bodyPost_ret (v := cAgg w3.heap.size) (by simp [cAgg, results, Try.results9, go_sem, d0, d1, World.cell?_setCell_other]) rfl ⟨w3.heap.size, rfl, ⟨w2.heap.size, w2.heap.size + 1, ?_, ?_, ?_, ?_, ?_⟩, ?_⟩
  · exact cell_other (by omega) (cell_other (by omega) HM0.out)
  · exact cell_other (by omega) (cell_other (by omega) HM1.out)
  · exact cell_other (by omega) (cell_other (by omega) HL4.out.1)
  · exact cell_other (by omega) (cell_other (by omega) HL4.out.2.1)
  · exact cell_other (by omega) (cell_other (by omega) HL4.out.2.2)
  · exact (HW4.out.setCell (Nat.le_refl _) _).setCell (Nat.le_refl _) _

set_option maxRecDepth 100000 in
set_option maxHeartbeats 1600000 in
theorem codec1_any {r : Nat} {c : CardL} {v : Value} {w : World} (hh : CHas w r) (h : CardIs w v c) (hlen : c.terms.length ≤ 9223372036854775807) :
    Calls Try.prog 29 #[v, .pointer (some ⟨r, 0, none⟩)] w fun e w' => e = ret2 (cput c) ∧ Below w.heap.size w w' := by
  obtain ⟨p, q, c0, c1, hl⟩ := hh
  obtain ⟨xa, xn, xc, rfl, ht⟩ := h
  have HL := Lib.hid hl
  have HT := Lib.hid ht
  have e0 := fun o => cell_stays (below_alloc1 w o) c0
  have e1 := fun o => cell_stays (below_alloc1 w o) c1
  unfold lP at e0
  unfold lN at e1
  clear hl ht c0 c1
  unfold cagg
  go_enter Try.func29, Try.ntmps29
  go_wp2_with fail
  refine (putCard_any (HL.out.later (below_alloc1 _ _)) ⟨xa, xn, xc, rfl, HT.out.later (below_alloc1 _ _)⟩ hlen).mono ?_
  rintro e w2 ⟨rfl, hb2⟩
  unfold ret2
  go_wp2
  go_ret2
  exact ⟨rfl, stepB (below_alloc1 w _) hb2⟩

set_option maxRecDepth 100000 in
set_option maxHeartbeats 1600000 in
theorem codec2_any {r : Nat} (s : ByteArray) (a : Nat) {w : World} (hh : CHas w r) (hs : s.size ≤ maxLen) (ha : a ≤ s.size) :
    Calls Try.prog 31 #[.string s, .int .i64 a, .pointer (some ⟨r, 0, none⟩)] w (Post_c w (rdCard s a) (lenCard s a) (cardErr s a)) := by
  obtain ⟨p, q, c0, c1, hl⟩ := hh
  have HL := Lib.hid hl
  have e0 := fun o => cell_stays (below_alloc1 w o) c0
  have e1 := fun o => cell_stays (below_alloc1 w o) c1
  unfold lP at e0
  unfold lN at e1
  clear hl c0 c1
  go_enter Try.func31, Try.ntmps31
  go_wp2_with fail
  refine (nextCard_any s a (HL.out.later (below_alloc1 _ _)) hs ha).mono ?_
  rintro e w2 ⟨x0, x1, x2, x3, x4, x5, xa, xn, xc, m, rfl, hq, hb2⟩
  unfold Val_c
  have HQ := Lib.hid hq
  have HW := Lib.hid (stepB (below_alloc1 w _) hb2)
  obtain ⟨d0, d1, d2, d3, d4, d5, d6⟩ := card_cells (c := zeroC) hb2
  have hfz : ∀ j, w2.frozen? ⟨w.heap.size, j, none⟩ = false := fun j => (hb2.frozen (p := ⟨w.heap.size, j, none⟩) (by simp)).trans (by simp [go_sem])
  clear hb2 hq
  go_wp2
  refine bodyPost_ret (v := .tuple #[.agg #[.int .i64 x0, .int .i64 x1, .int .i64 x2, .int .i64 x3, .int .i64 x4, .int .i64 x5, .slice xa xn xc], .int .i64 m, .int .i64 (cardErr s a)]) (by simp [results, Try.results31, go_sem, d0, d1, d2, d3, d4, d5, d6, World.cell?_setCell_other]) rfl
    ⟨x0, x1, x2, x3, x4, x5, xa, xn, xc, m, rfl, fun h => ?_, ?_⟩
  · obtain ⟨h1, h2, h3, h4, h5, h6, h7, h8⟩ := HQ.out h
    refine ⟨h1, h2, h3, h4, h5, h6, h7, TermsFrom.mono (B := (w.alloc (.cells #[.int .i64 0, .int .i64 0, .int .i64 0, .int .i64 0, .int .i64 0, .int .i64 0, .slice none 0 0] 24)).heap.size) ?_ (by simp)⟩
    repeat (first | with_reducible exact h8 | with_reducible refine TermsFrom.setCell ?_ (by simp) _)
  · repeat (first | with_reducible exact HW.out | with_reducible refine Below.setCell ?_ (by dsimp only; omega) _)

theorem enters_cp : Enters 29 := fun _ _ => by kernel_rfl
theorem enters_cn : Enters 31 := fun _ _ => by kernel_rfl

theorem put_c {r : Nat} {c : CardL} {v : Value} {w : World} (hh : CHas w r) (h : CardIs w v c) (hlen : c.terms.length ≤ 9223372036854775807) :
    Calls Try.prog 10 #[cAgg r, v] w fun e w' => e = ret2 (cput c) ∧ Below w.heap.size w w' := by
  obtain ⟨xa, xn, xc, rfl, ht⟩ := h
  have hn := nrm2_cput c
  rw [← hn]
  exact putc_c 29 enters_cp #[] #[_] _ c.kind c.cost c.power c.tough c.keys c.whn (.slice xa xn xc) (cput c).1 (cput c).2 w fun w1 h1 => codec1_any (hh.later h1) ⟨xa, xn, xc, rfl, ht.later h1⟩ hlen

/-- What Next of the codec of cards answers at any place. -/
def cnextAt (s : ByteArray) (a : Int) : CardL × Int × Int :=
  if 0 ≤ a ∧ a ≤ s.size then (if cardErr s a.toNat = 0 then (rdCard s a.toNat, lenCard s a.toNat, 0) else (zeroC, a, cardErr s a.toNat)) else (zeroC, a, 1)
theorem next_c {r : Nat} (s : ByteArray) (a : Int) {w : World} (hh : CHas w r) (hs : s.size ≤ maxLen) :
    Calls Try.prog 14 #[cAgg r, .string s, .int .i64 a] w (Ret_c w (cnextAt s a).1 (cnextAt s a).2.1 (cnextAt s a).2.2) := by
  unfold cnextAt
  by_cases ha : 0 ≤ a ∧ a ≤ s.size
  · rw [if_pos ha]
    obtain ⟨n, rfl⟩ := Int.eq_ofNat_of_zero_le ha.1
    have hn : n ≤ s.size := by omega
    rw [Int.toNat_natCast]
    by_cases h : cardErr s n = 0
    · rw [if_pos h]
      exact nexty_c 31 enters_cn #[] #[_] _ _ _ s n _ _ w hn hs fun w1 h1 => by have := codec2_any s n (hh.later h1) hs hn; rw [h] at this; exact this
    · rw [if_neg h]
      exact nextn_c 31 enters_cn #[] #[_] _ _ _ s n _ _ _ h w hn hs fun w1 h1 => codec2_any s n (hh.later h1) hs hn
  · rw [if_neg ha]
    exact nextb_c _ _ _ _ s a w (by omega) hs
end Go.Proofs.Ytekbdbcomfleeaa
