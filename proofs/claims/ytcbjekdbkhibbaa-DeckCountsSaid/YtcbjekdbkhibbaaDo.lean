/- The contract of deck.Check (layer 3). The contract of deck.Schemes (layer 3). The document's example of layer 3 (awake): it returns true. -/
import Derived.Test.YtcbjekdbkhibbaaDl
import Derived.Test.YtcbjekdbkhibbaaDj
import Derived.Laws.OwnMore
namespace Go.Proofs.Ytcbjekdbkhibbaa
open Go.RowKit

def onlyB (t : List CardL) (ks l : List Int) : Bool := decide ((ofL t ks l).length = l.length)
def deckE (t : List CardL) (l : List Int) : Int := if knownE t l ≠ 0 then knownE t l else if l.length < 8 ∨ 30 < l.length then 9 else if onlyB t [1, 2, 3] l = false then 9 else if 4 < (mostL (ofL t [2, 3] l)).2 then 9 else 0
theorem wf_of {t : List CardL} {ks l : List Int} (h : WfI l) : WfI (ofL t ks l) := fun x hx => h x (List.mem_filter.1 hx).1
theorem nums3_at {w : World} {a b c : Int} {q : Nat} (e : q = w.heap.size) : NumsAt (w.alloc (.cells #[.int .i64 a, .int .i64 b, .int .i64 c] 3)) (.slice (some ⟨q, 0, none⟩) 3 3) [a, b, c] := by
  rw [e]; exact nums3 w a b c
theorem nums2_at {w : World} {a b : Int} {q : Nat} (e : q = w.heap.size) : NumsAt (w.alloc (.cells #[.int .i64 a, .int .i64 b] 3)) (.slice (some ⟨q, 0, none⟩) 2 2) [a, b] := by
  rw [e]; exact nums2 w a b

set_option maxRecDepth 100000 in
set_option maxHeartbeats 4000000 in
theorem deckCheck_any {v u : Value} {t : List CardL} {l : List Int} {w : World} (h : CardsAt w v t) (hu : IntsAt w u l) (hn : t.length ≤ 9223372036854775807) (hs : SmallC t) (hl : l.length ≤ 1000) (hwf : WfI l) :
    Calls Try.prog 59 #[v, u] w (fun e w' => e = .returned (.int .i64 (deckE t l)) ∧ Below w.heap.size w w') := by
  obtain ⟨ya, yc, rfl⟩ := hu.form
  have HL := Lib.hid h
  have HU := Lib.hid hu
  have HS := Lib.hid hs
  have HN := Lib.hid hn
  have HLL := Lib.hid hl
  have HWF := Lib.hid hwf
  clear h hu hs hn hwf
  obtain ⟨E, hE⟩ : ∃ E, knownE t l = E := ⟨_, rfl⟩
  have HE := Lib.hid hE
  by_cases h0 : E = 0
  · by_cases hlen : l.length < 8 ∨ 30 < l.length
    · have HD := Lib.hid (show deckE t l = 9 by unfold deckE; rw [hE, if_neg (by simp [h0]), if_pos hlen])
      subst h0
      clear hE
      rcases hlen with h8 | h30
      · have b1 : decide ((l.length : Int) < 8) = true := decide_eq_true (by omega)
        clear h8
        go_enter Try.func59, Try.ntmps59
        go_wp2_with fail
        refine (checkNumbers_any HL.out HU.out HN.out HS.out (by have := HLL.out; omega)).mono ?_
        rw [HE.out]
        rintro e w2 ⟨rfl, hb2⟩
        go_wp2
        go_ret
        exact ⟨ret_int HD.out.symm, hb2⟩
      · have b1 : decide ((l.length : Int) < 8) = false := decide_eq_false (by omega)
        have b2 : decide ((30 : Int) < l.length) = true := decide_eq_true (by omega)
        clear h30
        go_enter Try.func59, Try.ntmps59
        go_wp2_with fail
        refine (checkNumbers_any HL.out HU.out HN.out HS.out (by have := HLL.out; omega)).mono ?_
        rw [HE.out]
        rintro e w2 ⟨rfl, hb2⟩
        go_wp2
        go_ret
        exact ⟨ret_int HD.out.symm, hb2⟩
    · have b1 : decide ((l.length : Int) < 8) = false := decide_eq_false (by omega)
      have b2 : decide ((30 : Int) < l.length) = false := decide_eq_false (by omega)
      obtain ⟨O, hO⟩ : ∃ O, decide ((ofL t [1, 2, 3] l).length = l.length) = O := ⟨_, rfl⟩
      have HO := Lib.hid hO
      obtain ⟨xs, hxs⟩ : ∃ xs, ofL t [2, 3] l = xs := ⟨_, rfl⟩
      have HX := Lib.hid hxs
      have HXL := Lib.hid (show xs.length ≤ 1000 by rw [← hxs]; exact Nat.le_trans (List.length_filter_le _ _) HLL.out)
      have HXW := Lib.hid (show WfI xs by rw [← hxs]; exact wf_of HWF.out)
      obtain ⟨mp, hmp⟩ : ∃ mp, mostL xs = mp := ⟨_, rfl⟩
      have HMP := Lib.hid hmp
      have HD := Lib.hid (show deckE t l = if O = false then 9 else if 4 < mp.2 then 9 else 0 by
        unfold deckE onlyB; rw [hE, if_neg (by simp [h0]), if_neg hlen, hO, hxs, hmp])
      subst h0
      clear hE hlen hO hxs hmp
      cases O
      · go_enter Try.func59, Try.ntmps59
        go_wp2_with fail
        refine (checkNumbers_any HL.out HU.out HN.out HS.out (by have := HLL.out; omega)).mono ?_
        rw [HE.out]
        rintro e w2 ⟨rfl, hb2⟩
        have HB2 := Lib.hid hb2
        clear hb2
        go_wp2_with fail
        refine (only_any (HL.out.later (below_alloc2 HB2.out _)) (HU.out.later (below_alloc2 HB2.out _)) (nums3_at rfl) HLL.out (by decide)).mono ?_
        rw [HO.out]
        rintro e w3 ⟨rfl, hb3⟩
        go_wp2
        go_ret
        exact ⟨ret_int (by rw [HD.out]; rfl), stepB (below_alloc2 HB2.out _) hb3⟩
      · obtain ⟨M, hM⟩ : ∃ M, decide ((4 : Int) < (mp.2 : Int)) = M := ⟨_, rfl⟩
        have HD2 := Lib.hid (show deckE t l = if M then 9 else 0 by
          rw [HD.out, if_neg (by simp), ← hM]; by_cases h4 : 4 < mp.2 <;> simp [h4] <;> omega)
        go_enter Try.func59, Try.ntmps59
        go_wp2_with fail
        refine (checkNumbers_any HL.out HU.out HN.out HS.out (by have := HLL.out; omega)).mono ?_
        rw [HE.out]
        rintro e w2 ⟨rfl, hb2⟩
        have HB2 := Lib.hid hb2
        clear hb2
        go_wp2_with fail
        refine (only_any (HL.out.later (below_alloc2 HB2.out _)) (HU.out.later (below_alloc2 HB2.out _)) (nums3_at rfl) HLL.out (by decide)).mono ?_
        rw [HO.out]
        rintro e w3 ⟨rfl, hb3⟩
        have HB3 := Lib.hid (stepB (below_alloc2 HB2.out _) hb3)
        clear hb3
        go_wp2_with fail
        refine (of_any (HL.out.later (below_alloc2 HB3.out _)) (HU.out.later (below_alloc2 HB3.out _)) (nums2_at rfl) HLL.out (by decide)).mono ?_
        rw [HX.out]
        rintro e w4 ⟨q, rfl, hv, hq, hb4⟩
        have HB4 := Lib.hid (stepB (below_alloc2 HB3.out _) hb4)
        have HV := Lib.hid hv
        clear hb4 hv hq
        go_wp2_with fail
        refine (collect_of HV.out HXL.out).mono ?_
        rintro e w5 ⟨v5, rfl, hrow, hb5⟩
        have HB5 := Lib.hid (stepB HB4.out hb5)
        have HI5 := Lib.hid (own_ints hrow)
        clear hrow hb5
        go_wp2_with fail
        refine (most_int HI5.out HXL.out HXW.out).mono ?_
        rintro e w6 ⟨he, hb6⟩
        rw [HMP.out] at he
        subst he
        have HB6 := Lib.hid (stepB HB5.out hb6)
        clear hb6
        cases M
        all_goals
          go_wp2
          go_ret
          exact ⟨ret_int (by rw [HD2.out]; rfl), HB6.out⟩
  · have HD := Lib.hid (show deckE t l = E by unfold deckE; rw [hE, if_pos h0])
    have e1 : (E != 0) = true := bne_iff_ne.2 h0
    clear h0 hE
    go_enter Try.func59, Try.ntmps59
    go_wp2_with fail
    refine (checkNumbers_any HL.out HU.out HN.out HS.out (by have := HLL.out; omega)).mono ?_
    rw [HE.out]
    rintro e w2 ⟨rfl, hb2⟩
    go_wp2
    go_ret
    exact ⟨ret_int HD.out.symm, hb2⟩
end Go.Proofs.Ytcbjekdbkhibbaa
namespace Go.Proofs.Ytcbjekdbkhibbaa
open Go.RowKit

def schemeE (t : List CardL) (l : List Int) : Int := if knownE t l ≠ 0 then knownE t l else if l.length < 1 ∨ 20 < l.length then 9 else if onlyB t [4] l = false then 9 else if 2 < (mostL l).2 then 9 else 0
theorem numsO_at {w : World} {a : Int} {q : Nat} (e : q = w.heap.size) : NumsAt (w.alloc (.cells #[.int .i64 a] 3)) (.slice (some ⟨q, 0, none⟩) 1 1) [a] := by
  rw [e]; exact nums1 w a

set_option maxRecDepth 100000 in
set_option maxHeartbeats 4000000 in
theorem schemes_any {v u : Value} {t : List CardL} {l : List Int} {w : World} (h : CardsAt w v t) (hu : IntsAt w u l) (hn : t.length ≤ 9223372036854775807) (hs : SmallC t) (hl : l.length ≤ 1000) (hwf : WfI l) :
    Calls Try.prog 61 #[v, u] w (fun e w' => e = .returned (.int .i64 (schemeE t l)) ∧ Below w.heap.size w w') := by
  obtain ⟨ya, yc, rfl⟩ := hu.form
  have HL := Lib.hid h
  have HU := Lib.hid hu
  have HS := Lib.hid hs
  have HN := Lib.hid hn
  have HLL := Lib.hid hl
  have HWF := Lib.hid hwf
  clear h hu hs hn hwf
  obtain ⟨E, hE⟩ : ∃ E, knownE t l = E := ⟨_, rfl⟩
  have HE := Lib.hid hE
  by_cases h0 : E = 0
  · by_cases hlen : l.length < 1 ∨ 20 < l.length
    · have HD := Lib.hid (show schemeE t l = 9 by unfold schemeE; rw [hE, if_neg (by simp [h0]), if_pos hlen])
      subst h0
      clear hE
      rcases hlen with h8 | h30
      · have b1 : decide ((l.length : Int) < 1) = true := decide_eq_true (by omega)
        clear h8
        go_enter Try.func61, Try.ntmps61
        go_wp2_with fail
        refine (checkNumbers_any HL.out HU.out HN.out HS.out (by have := HLL.out; omega)).mono ?_
        rw [HE.out]
        rintro e w2 ⟨rfl, hb2⟩
        go_wp2
        go_ret
        exact ⟨ret_int HD.out.symm, hb2⟩
      · have b1 : decide ((l.length : Int) < 1) = false := decide_eq_false (by omega)
        have b2 : decide ((20 : Int) < l.length) = true := decide_eq_true (by omega)
        clear h30
        go_enter Try.func61, Try.ntmps61
        go_wp2_with fail
        refine (checkNumbers_any HL.out HU.out HN.out HS.out (by have := HLL.out; omega)).mono ?_
        rw [HE.out]
        rintro e w2 ⟨rfl, hb2⟩
        go_wp2
        go_ret
        exact ⟨ret_int HD.out.symm, hb2⟩
    · have b1 : decide ((l.length : Int) < 1) = false := decide_eq_false (by omega)
      have b2 : decide ((20 : Int) < l.length) = false := decide_eq_false (by omega)
      obtain ⟨O, hO⟩ : ∃ O, decide ((ofL t [4] l).length = l.length) = O := ⟨_, rfl⟩
      have HO := Lib.hid hO
      obtain ⟨mp, hmp⟩ : ∃ mp, mostL l = mp := ⟨_, rfl⟩
      have HMP := Lib.hid hmp
      have HD := Lib.hid (show schemeE t l = if O = false then 9 else if 2 < mp.2 then 9 else 0 by
        unfold schemeE onlyB; rw [hE, if_neg (by simp [h0]), if_neg hlen, hO, hmp])
      subst h0
      clear hE hlen hO hmp
      cases O
      · go_enter Try.func61, Try.ntmps61
        go_wp2_with fail
        refine (checkNumbers_any HL.out HU.out HN.out HS.out (by have := HLL.out; omega)).mono ?_
        rw [HE.out]
        rintro e w2 ⟨rfl, hb2⟩
        have HB2 := Lib.hid hb2
        clear hb2
        go_wp2_with fail
        refine (only_any (HL.out.later (below_alloc2 HB2.out _)) (HU.out.later (below_alloc2 HB2.out _)) (numsO_at rfl) HLL.out (by decide)).mono ?_
        rw [HO.out]
        rintro e w3 ⟨rfl, hb3⟩
        go_wp2
        go_ret
        exact ⟨ret_int (by rw [HD.out]; rfl), stepB (below_alloc2 HB2.out _) hb3⟩
      · obtain ⟨M, hM⟩ : ∃ M, decide ((2 : Int) < (mp.2 : Int)) = M := ⟨_, rfl⟩
        have HD2 := Lib.hid (show schemeE t l = if M then 9 else 0 by
          rw [HD.out, if_neg (by simp), ← hM]; by_cases h4 : 2 < mp.2 <;> simp [h4] <;> omega)
        go_enter Try.func61, Try.ntmps61
        go_wp2_with fail
        refine (checkNumbers_any HL.out HU.out HN.out HS.out (by have := HLL.out; omega)).mono ?_
        rw [HE.out]
        rintro e w2 ⟨rfl, hb2⟩
        have HB2 := Lib.hid hb2
        clear hb2
        go_wp2_with fail
        refine (only_any (HL.out.later (below_alloc2 HB2.out _)) (HU.out.later (below_alloc2 HB2.out _)) (numsO_at rfl) HLL.out (by decide)).mono ?_
        rw [HO.out]
        rintro e w3 ⟨rfl, hb3⟩
        have HB3 := Lib.hid (stepB (below_alloc2 HB2.out _) hb3)
        clear hb3
        go_wp2_with fail
        refine (most_int (HU.out.later HB3.out) HLL.out HWF.out).mono ?_
        rintro e w6 ⟨he, hb6⟩
        rw [HMP.out] at he
        subst he
        have HB6 := Lib.hid (stepB HB3.out hb6)
        clear hb6
        cases M
        all_goals
          go_wp2
          go_ret
          exact ⟨ret_int (by rw [HD2.out]; rfl), HB6.out⟩
  · have HD := Lib.hid (show schemeE t l = E by unfold schemeE; rw [hE, if_pos h0])
    have e1 : (E != 0) = true := bne_iff_ne.2 h0
    clear h0 hE
    go_enter Try.func61, Try.ntmps61
    go_wp2_with fail
    refine (checkNumbers_any HL.out HU.out HN.out HS.out (by have := HLL.out; omega)).mono ?_
    rw [HE.out]
    rintro e w2 ⟨rfl, hb2⟩
    go_wp2
    go_ret
    exact ⟨ret_int HD.out.symm, hb2⟩
end Go.Proofs.Ytcbjekdbkhibbaa
namespace Go.Proofs.Ytcbjekdbkhibbaa
open Go.RowKit

def landC : CardL := ⟨1, 0, 0, 0, 0, 0, []⟩
theorem ex_eight : deckE [landC] (List.replicate 8 0) = 0 := by decide
theorem ex_seven : deckE [landC] (List.replicate 7 0) = 9 := by decide
theorem ex_scheme : schemeE [landC] [0] = 9 := by decide
theorem land_at {w : World} {q : Nat} (e : q = w.heap.size) : CardsAt (w.alloc (.cells #[.int .i64 1, .int .i64 0, .int .i64 0, .int .i64 0, .int .i64 0, .int .i64 0, .slice none 0 0] 65)) (.slice (some ⟨q, 0, none⟩) 1 1) [landC] := by
  subst e
  refine .inr ⟨w.heap.size, 0, 1, rfl, by simp, fun i hi => ?_⟩
  obtain rfl : i = 0 := by simp at hi; omega
  exact ⟨none, 0, by simp [go_sem]; rfl, by simp [go_sem]; rfl, by simp [go_sem]; rfl, by simp [go_sem]; rfl, by simp [go_sem]; rfl, by simp [go_sem]; rfl, by simp [go_sem]; rfl, .inl ⟨none, 0, rfl, rfl⟩⟩
theorem small_land : SmallC [landC] := fun c hc => by
  simp at hc; subst hc; simp [landC]
theorem wf_zeros (n : Nat) : WfI (List.replicate n 0) := fun x hx => by
  rw [List.eq_of_mem_replicate hx]; rfl

theorem zeros_at {w : World} {q n : Nat} (e : q = w.heap.size) : IntsAt (w.alloc (.cells (madeCells #[.int .i64 0] n) 3)) (.slice (some ⟨q, 0, none⟩) n n) (List.replicate n 0) := by
  subst e
  refine .inr ⟨w.heap.size, 0, n, by rw [List.length_replicate], by simp, fun i hi => ?_⟩
  have hi' : i < n := by rwa [List.length_replicate] at hi
  have hc : (madeCells #[Value.int .i64 0] n)[i]? = some (.int .i64 0) := by
    rw [← Array.getElem?_toList, toList_madeCells_one]
    simp [hi']
  rw [Nat.zero_add, cell_of_row _ _ _ _ _ (0, 0) (heap_alloc_new w _), hc]
  simp

set_option maxRecDepth 100000 in
set_option maxHeartbeats 4000000 in
theorem awake3_any (w : World) : Calls Try.prog 55 #[] w (RetB w true) := by
  obtain ⟨i0, hi, hz0, hz1, hz2⟩ := info_parts info_int
  have hmk : ∀ (n : Nat) (u : World), n ≤ 1000 → (Instr.makeSlice 51 (.int .i64 (n : Int)) (.int .i64 (n : Int))).run Try.prog u = .ok (.slice (some ⟨u.heap.size, 0, none⟩) n n) (u.alloc (.cells (madeCells #[.int .i64 0] n) 3)) := fun n u hn => by
    have h := run_make (P := Try.prog) u 51 3 i0 (.int .i64 0) Try.underlying51 hi hz0 .i64 .i64 (n : Int) (n : Int) (by omega) (Int.le_refl _) (by rw [hz2]; omega) (by omega)
    simpa [hz1, Value.cells] using h
  have hm8 : ∀ u : World, (Instr.makeSlice 51 (.int .i64 8) (.int .i64 8)).run Try.prog u = .ok (.slice (some ⟨u.heap.size, 0, none⟩) 8 8) (u.alloc (.cells (madeCells #[.int .i64 0] 8) 3)) := fun u => hmk 8 u (by decide)
  have hm7 : ∀ u : World, (Instr.makeSlice 51 (.int .i64 7) (.int .i64 7)).run Try.prog u = .ok (.slice (some ⟨u.heap.size, 0, none⟩) 7 7) (u.alloc (.cells (madeCells #[.int .i64 0] 7) 3)) := fun u => hmk 7 u (by decide)
  clear hmk hi hz0 hz1 hz2
  go_enter Try.func55, Try.ntmps55
  go_wp2_with fail
  refine (deckCheck_any ((land_at rfl).later (below_alloc1 _ _)) (zeros_at (n := 8) (by simp)) (by decide) small_land (by decide) (wf_zeros 8)).mono ?_
  rw [ex_eight]
  rintro e w2 ⟨rfl, hb2⟩
  have HL := Lib.hid (((land_at rfl).later (below_alloc1 (w.alloc (.cells #[.int .i64 1, .int .i64 0, .int .i64 0, .int .i64 0, .int .i64 0, .int .i64 0, .slice none 0 0] 65)) (.cells (madeCells #[.int .i64 0] 8) 3))).later hb2)
  have HB2 := Lib.hid (stepB (below_alloc2 (below_new w (.cells #[.int .i64 1, .int .i64 0, .int .i64 0, .int .i64 0, .int .i64 0, .int .i64 0, .slice none 0 0] 65)) (.cells (madeCells #[.int .i64 0] 8) 3)) hb2)
  clear hb2
  go_wp2_with fail
  refine (deckCheck_any (HL.out.later (below_alloc1 _ _)) (zeros_at (n := 7) (by simp)) (by decide) small_land (by decide) (wf_zeros 7)).mono ?_
  rw [ex_seven]
  rintro e w3 ⟨rfl, hb3⟩
  have HL3 := Lib.hid ((HL.out.later (below_alloc1 w2 (.cells (madeCells #[.int .i64 0] 7) 3))).later hb3)
  have HB3 := Lib.hid (stepB (below_alloc2 HB2.out _) hb3)
  clear hb3
  go_wp2_with fail
  refine (schemes_any (HL3.out.later (below_alloc1 _ _)) (IntsAt.of (numsO_at rfl)) (by decide) small_land (by decide) (wf_zeros 1)).mono ?_
  rw [ex_scheme]
  rintro e w4 ⟨rfl, hb4⟩
  go_wp2
  go_ret
  exact ⟨rfl, stepB (below_alloc2 HB3.out _) hb4⟩
end Go.Proofs.Ytcbjekdbkhibbaa
