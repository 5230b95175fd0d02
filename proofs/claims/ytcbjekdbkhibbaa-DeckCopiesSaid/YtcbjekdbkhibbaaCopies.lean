/- The law DeckCopies, proved: for every table, list of numbers and number it returns true; each argument reads behind the call as it read before. No condition. -/
import Derived.Test.YtcbjekdbkhibbaaDr
import Derived.Test.YtcbjekdbkhibbaaOc
import Derived.Test.YtcbjekdbkhibbaaTk
import Derived.Deep.RegionHeld3
import Derived.IntWalk
namespace Go.Proofs.Ytcbjekdbkhibbaa
open Go.ChangeShapes Go.WideShapes Go.ChangeAt Go.RowKit

theorem great_small {t : List CardL} {l : List Int} (h : greatB t l = false) : t.length ≤ 70 ∧ l.length ≤ 60 := by
  unfold greatB at h
  simp only [Bool.or_eq_false_iff, decide_eq_false_iff_not] at h
  omega
set_option maxRecDepth 100000 in
set_option maxHeartbeats 8000000 in
theorem copies_great {v u : Value} {t : List CardL} {l : List Int} {n : Int} {w : World} (h : CardsAt w v t) (hu : IntsAt w u l) (hn : t.length ≤ 9223372036854775807) (hs : SmallC t) (hl : l.length ≤ 9223372036854775807) (hwf : WfI l) (hwn : (Lit.int .i64 n).wf = true) (hg : greatB t l = true) :
    Calls Try.prog 15 #[v, u, .int .i64 n] w (RetB w true) := by
  obtain ⟨ya, yc, rfl⟩ := hu.form
  obtain ⟨xa, xc, rfl⟩ := h.form
  have HL := Lib.hid h
  have HU := Lib.hid hu
  have HS := Lib.hid hs
  have HWF := Lib.hid hwf
  have HWN := Lib.hid hwn
  clear h hu hs hwf hwn
  have HG := Lib.hid hg
  clear hg
  go_enter Try.func15, Try.ntmps15
  go_wp2_with fail
  refine (awake3_any _).mono ?_
  rintro e w1 ⟨rfl, hb1⟩
  have HB1 := Lib.hid hb1
  clear hb1
  go_wp2_with fail
  refine (great_any ya l.length yc (HL.out.later HB1.out) rfl hn hl).mono ?_
  rw [HG.out]
  rintro e w2 ⟨rfl, hb2⟩
  have HB2 := Lib.hid (stepB HB1.out hb2)
  clear hb2
  go_wp2
  go_ret
  exact ⟨rfl, HB2.out⟩
set_option maxRecDepth 100000 in
set_option maxHeartbeats 8000000 in
theorem copies_bad {v u : Value} {t : List CardL} {l : List Int} {n : Int} {w : World} (h : CardsAt w v t) (hu : IntsAt w u l) (hn : t.length ≤ 9223372036854775807) (hs : SmallC t) (hl : l.length ≤ 9223372036854775807) (hwf : WfI l) (hwn : (Lit.int .i64 n).wf = true) (hg : greatB t l = false) (he : deckE t l ≠ 0) :
    Calls Try.prog 15 #[v, u, .int .i64 n] w (RetB w true) := by
  obtain ⟨ya, yc, rfl⟩ := hu.form
  obtain ⟨xa, xc, rfl⟩ := h.form
  have HL := Lib.hid h
  have HU := Lib.hid hu
  have HS := Lib.hid hs
  have HWF := Lib.hid hwf
  have HWN := Lib.hid hwn
  clear h hu hs hwf hwn
  have HG := Lib.hid hg
  obtain ⟨t1, l1⟩ := great_small hg
  obtain ⟨E, hE⟩ : ∃ E, deckE t l = E := ⟨_, rfl⟩
  rw [hE] at he
  have HE := Lib.hid hE
  have e1 : (E != 0) = true := bne_iff_ne.2 he
  clear hg hE he
  go_enter Try.func15, Try.ntmps15
  go_wp2_with fail
  refine (awake3_any _).mono ?_
  rintro e w1 ⟨rfl, hb1⟩
  have HB1 := Lib.hid hb1
  clear hb1
  go_wp2_with fail
  refine (great_any ya l.length yc (HL.out.later HB1.out) rfl hn hl).mono ?_
  rw [HG.out]
  rintro e w2 ⟨rfl, hb2⟩
  have HB2 := Lib.hid (stepB HB1.out hb2)
  clear hb2
  go_wp2_with fail
  refine (deckCheck_any (HL.out.later HB2.out) (HU.out.later HB2.out) (by omega) HS.out (by omega) HWF.out).mono ?_
  rw [HE.out]
  rintro e w3 ⟨rfl, hb3⟩
  have HB3 := Lib.hid (stepB HB2.out hb3)
  clear hb3
  go_wp2
  go_ret
  exact ⟨rfl, HB3.out⟩
set_option maxRecDepth 100000 in
set_option maxHeartbeats 8000000 in
theorem copies_neg {v u : Value} {t : List CardL} {l : List Int} {n : Int} {w : World} (h : CardsAt w v t) (hu : IntsAt w u l) (hn : t.length ≤ 9223372036854775807) (hs : SmallC t) (hl : l.length ≤ 9223372036854775807) (hwf : WfI l) (hwn : (Lit.int .i64 n).wf = true) (hg : greatB t l = false) (he : deckE t l = 0) (h0 : n < 0) :
    Calls Try.prog 15 #[v, u, .int .i64 n] w (RetB w true) := by
  obtain ⟨ya, yc, rfl⟩ := hu.form
  obtain ⟨xa, xc, rfl⟩ := h.form
  have HL := Lib.hid h
  have HU := Lib.hid hu
  have HS := Lib.hid hs
  have HWF := Lib.hid hwf
  have HWN := Lib.hid hwn
  clear h hu hs hwf hwn
  have HG := Lib.hid hg
  obtain ⟨t1, l1⟩ := great_small hg
  have HE := Lib.hid he
  have e1 : decide (n < 0) = true := decide_eq_true h0
  clear hg he
  go_enter Try.func15, Try.ntmps15
  go_wp2_with fail
  refine (awake3_any _).mono ?_
  rintro e w1 ⟨rfl, hb1⟩
  have HB1 := Lib.hid hb1
  clear hb1
  go_wp2_with fail
  refine (great_any ya l.length yc (HL.out.later HB1.out) rfl hn hl).mono ?_
  rw [HG.out]
  rintro e w2 ⟨rfl, hb2⟩
  have HB2 := Lib.hid (stepB HB1.out hb2)
  clear hb2
  go_wp2_with fail
  refine (deckCheck_any (HL.out.later HB2.out) (HU.out.later HB2.out) (by omega) HS.out (by omega) HWF.out).mono ?_
  rw [HE.out]
  rintro e w3 ⟨rfl, hb3⟩
  have HB3 := Lib.hid (stepB HB2.out hb3)
  clear hb3
  go_wp2
  go_ret
  exact ⟨rfl, HB3.out⟩
set_option maxRecDepth 100000 in
set_option maxHeartbeats 8000000 in
theorem copies_far {v u : Value} {t : List CardL} {l : List Int} {n : Int} {w : World} (h : CardsAt w v t) (hu : IntsAt w u l) (hn : t.length ≤ 9223372036854775807) (hs : SmallC t) (hl : l.length ≤ 9223372036854775807) (hwf : WfI l) (hwn : (Lit.int .i64 n).wf = true) (hg : greatB t l = false) (he : deckE t l = 0) (h0 : ¬ n < 0) (h1 : (t.length : Int) ≤ n) :
    Calls Try.prog 15 #[v, u, .int .i64 n] w (RetB w true) := by
  obtain ⟨ya, yc, rfl⟩ := hu.form
  obtain ⟨xa, xc, rfl⟩ := h.form
  have HL := Lib.hid h
  have HU := Lib.hid hu
  have HS := Lib.hid hs
  have HWF := Lib.hid hwf
  have HWN := Lib.hid hwn
  clear h hu hs hwf hwn
  have HG := Lib.hid hg
  obtain ⟨t1, l1⟩ := great_small hg
  have HE := Lib.hid he
  have e1 : decide (n < 0) = false := decide_eq_false h0
  have e2 : decide ((t.length : Int) ≤ n) = true := decide_eq_true h1
  clear hg he
  go_enter Try.func15, Try.ntmps15
  go_wp2_with fail
  refine (awake3_any _).mono ?_
  rintro e w1 ⟨rfl, hb1⟩
  have HB1 := Lib.hid hb1
  clear hb1
  go_wp2_with fail
  refine (great_any ya l.length yc (HL.out.later HB1.out) rfl hn hl).mono ?_
  rw [HG.out]
  rintro e w2 ⟨rfl, hb2⟩
  have HB2 := Lib.hid (stepB HB1.out hb2)
  clear hb2
  go_wp2_with fail
  refine (deckCheck_any (HL.out.later HB2.out) (HU.out.later HB2.out) (by omega) HS.out (by omega) HWF.out).mono ?_
  rw [HE.out]
  rintro e w3 ⟨rfl, hb3⟩
  have HB3 := Lib.hid (stepB HB2.out hb3)
  clear hb3
  go_wp2
  go_ret
  exact ⟨rfl, HB3.out⟩
set_option maxRecDepth 100000 in
set_option maxHeartbeats 8000000 in
theorem copies_in {v u : Value} {t : List CardL} {l : List Int} {n : Int} {w : World} (h : CardsAt w v t) (hu : IntsAt w u l) (hn : t.length ≤ 9223372036854775807) (hs : SmallC t) (hl : l.length ≤ 9223372036854775807) (hwf : WfI l) (hwn : (Lit.int .i64 n).wf = true) (hg : greatB t l = false) (he : deckE t l = 0) (h0 : ¬ n < 0) (h1 : ¬ (t.length : Int) ≤ n) :
    Calls Try.prog 15 #[v, u, .int .i64 n] w (RetB w true) := by
  obtain ⟨ya, yc, rfl⟩ := hu.form
  obtain ⟨xa, xc, rfl⟩ := h.form
  have HL := Lib.hid h
  have HU := Lib.hid hu
  have HS := Lib.hid hs
  have HWF := Lib.hid hwf
  have HWN := Lib.hid hwn
  clear h hu hs hwf hwn
  have HG := Lib.hid hg
  obtain ⟨t1, l1⟩ := great_small hg
  have HE := Lib.hid he
  have hin : inT t.length n = true := by simp [inT]; omega
  obtain ⟨m, rfl, hmt⟩ := inT_nat hin
  have hlen := deck_parts he
  have l8 := hlen.2.1
  have l30 := hlen.2.2.1
  have hka := kindAt_of hmt
  have hkk := kind_in (known_parts hlen.1).1 hin
  have hland := deck_land he hin
  have hsch := deck_scheme he hin
  have hfive := deck_five he hin
  clear hlen
  obtain ⟨K, hK⟩ : ∃ K, kindAt t (m : Int) = K := ⟨_, rfl⟩
  rw [hK] at hka hkk hland hsch hfive
  have e1 : decide ((m : Int) < 0) = false := decide_eq_false h0
  have e2 : decide ((t.length : Int) ≤ m) = false := decide_eq_false h1
  have m0 : (0 : Int) ≤ m := by omega
  have m1 : (m : Int) < t.length := by omega
  have HM := Lib.hid hmt
  have HKA := Lib.hid hka
  have HLAND := Lib.hid hland
  have HSCH := Lib.hid hsch
  have HFIVE := Lib.hid hfive
  clear hg he hin hK hka hland hsch hfive
  go_enter Try.func15, Try.ntmps15
  go_wp2_with fail
  refine (awake3_any _).mono ?_
  rintro e w1 ⟨rfl, hb1⟩
  have HB1 := Lib.hid hb1
  clear hb1
  go_wp2_with fail
  refine (great_any ya l.length yc (HL.out.later HB1.out) rfl hn hl).mono ?_
  rw [HG.out]
  rintro e w2 ⟨rfl, hb2⟩
  have HB2 := Lib.hid (stepB HB1.out hb2)
  clear hb2
  go_wp2_with fail
  refine (deckCheck_any (HL.out.later HB2.out) (HU.out.later HB2.out) (by omega) HS.out (by omega) HWF.out).mono ?_
  rw [HE.out]
  rintro e w3 ⟨rfl, hb3⟩
  have HB3 := Lib.hid (stepB HB2.out hb3)
  clear hb3
  go_wp2_with (at_builtin; refine wpList_append_ints rfl _ _ rfl rfl w3.heap.size (.slice (some ⟨w3.heap.size, 0, none⟩) 0 0) 0 [] rfl (own_empty1 rfl (Nat.le_refl _)) ya _ yc l rfl rfl (HU.out.later (below_alloc2 HB3.out _)) (by omega) (by simp) ?f1)
  case f1 =>
  intro v4 w4 hown4 hgrow4 _
  have HB4 := Lib.hid (below_own hgrow4 (below_alloc2 HB3.out _) (Nat.le_trans HB3.out.size (by simp)) (own_empty1 (W := w3) (B := w.heap.size) (T := 3) rfl HB3.out.size))
  have HO4 := Lib.hid hown4
  have HG4 := Lib.hid (show w3.heap.size ≤ w4.heap.size from Nat.le_trans (by simp) hgrow4.size)
  clear hown4 hgrow4
  go_wp2_with (at_builtin; refine wpList_append_ints rfl _ _ rfl rfl w3.heap.size v4 l.length (intsV l) rfl (HO4.out.alloc _) _ 1 1 [(m : Int)] rfl rfl (ints_lit _ [(m : Int)]) (by simp; omega) (by have := HG4.out; simp; omega) ?f2)
  case f2 =>
  intro v5 w5 hown5 hgrow5 _
  have HB5 := Lib.hid (below_own hgrow5 (below_alloc2 HB4.out _) (by have := HB3.out.size; have := HG4.out; simp; omega) (own_low (HO4.out.alloc (.cells #[.int .i64 (m : Int)] 3)) HB3.out.size))
  have HI5 := Lib.hid (show IntsAt w5 v5 (l ++ [(m : Int)]) from own_ints (base := w3.heap.size) (by rw [List.length_append]; unfold intsV; rw [List.map_append]; exact hown5))
  clear hown5 hgrow5
  obtain ⟨za, zc, rfl⟩ : ∃ za zc, v5 = .slice za (l.length + 1) zc := by
    obtain ⟨a, c, h⟩ := HI5.out.form
    exact ⟨a, c, by rw [h]; simp⟩
  go_wp2_with (at_builtin; refine wpList_append_ints rfl _ _ rfl rfl w5.heap.size (.slice (some ⟨w5.heap.size, 0, none⟩) 0 0) 0 [] rfl (own_empty1 rfl (Nat.le_refl _)) ya _ yc l rfl rfl (HU.out.later (below_alloc2 HB5.out _)) (by omega) (by simp) ?f3)
  case f3 =>
  intro v6 w6 hown6 hgrow6 _
  have HB6 := Lib.hid (below_own (A := w5) hgrow6 (below_new w5 _) (by simp) (own_empty1 (W := w5) (B := w5.heap.size) (T := 3) rfl (Nat.le_refl _)))
  have HO6 := Lib.hid hown6
  clear hown6 hgrow6
  go_wp2_with (at_builtin; refine wpList_append_ints rfl _ _ rfl rfl w5.heap.size v6 l.length (intsV l) rfl (HO6.out.alloc _) _ 5 5 [(m : Int), m, m, m, m] rfl rfl (ints_lit _ [(m : Int), m, m, m, m]) (by simp; omega) (by have := HB6.out.size; simp; omega) ?f4)
  case f4 =>
  intro v7 w7 hown7 hgrow7 _
  have HB7 := Lib.hid (below_own hgrow7 (below_alloc2 HB6.out _) (by have := HB6.out.size; simp; omega) (HO6.out.alloc (.cells #[.int .i64 (m : Int), .int .i64 (m : Int), .int .i64 (m : Int), .int .i64 (m : Int), .int .i64 (m : Int)] 3)))
  have HI7 := Lib.hid (show IntsAt w7 v7 (l ++ [(m : Int), m, m, m, m]) from own_ints (base := w5.heap.size) (by rw [List.length_append]; unfold intsV; rw [List.map_append]; exact hown7))
  clear hown7 hgrow7
  obtain ⟨xb, xd, rfl⟩ : ∃ za zc, v7 = .slice za (l.length + 5) zc := by
    obtain ⟨a, c, h⟩ := HI7.out.form
    exact ⟨a, c, by rw [h]; simp⟩
  have HI5' := Lib.hid (HI5.out.later HB7.out)
  have HB8 := Lib.hid (stepB HB5.out HB7.out)
  obtain ⟨b2, off2, rfl, hcell⟩ := (HL.out.later HB8.out).at m hmt
  obtain ⟨c, hcc⟩ : ∃ c, t[m] = c := ⟨_, rfl⟩
  have HKC := Lib.hid (show K = c.kind by rw [← hcc]; exact HKA.out)
  have hcell2 : CardCells w7 b2 (off2 + m * 7) c := by rw [← hcc]; exact hcell
  clear hcell
  obtain ⟨qa, qc, k0, k1, k2, k3, k4, k5, k6, ht⟩ := hcell2
  rw [← HKC.out] at k0
  clear ht hcc k1 k2 k3 k4 k5 k6
  have en1 : l ++ [(m : Int)] = l ++ List.replicate 1 (m : Int) := rfl
  have en5 : l ++ [(m : Int), m, m, m, m] = l ++ List.replicate 5 (m : Int) := rfl
  have HW1 := Lib.hid (show WfI (l ++ [(m : Int)]) from wf_more HWF.out HWN.out 1)
  have HW5 := Lib.hid (show WfI (l ++ [(m : Int), m, m, m, m]) from wf_more HWF.out HWN.out 5)
  have HN1 := Lib.hid (show (l ++ [(m : Int)]).length ≤ 1000 by simp; omega)
  have HN5 := Lib.hid (show (l ++ [(m : Int), m, m, m, m]).length ≤ 1000 by simp; omega)
  by_cases hk1 : K = 1
  · have h1 := HLAND.out hk1 1
    have h5 := HLAND.out hk1 5
    rw [← en1] at h1
    rw [← en5] at h5
    subst hk1
    by_cases q30 : l.length < 30
    · rw [if_neg (by omega)] at h1
      have g1 : decide ((l.length : Int) < 30) = true := decide_eq_true (by omega)
      have H1 := Lib.hid h1
      by_cases q26 : l.length < 26
      · rw [if_neg (by omega)] at h5
        have g2 : decide ((l.length : Int) < 26) = true := decide_eq_true (by omega)
        have H5 := Lib.hid h5
        clear h1 h5 en1 en5 q30 q26
        go_wp2_with fail
        refine (deckCheck_any (HL.out.later HB8.out) HI5'.out (by omega) HS.out HN1.out HW1.out).mono ?_
        rw [H1.out]
        rintro e w9 ⟨rfl, hb9⟩
        have HB9 := Lib.hid (stepB HB8.out hb9)
        have HI9 := Lib.hid (HI7.out.later hb9)
        clear hb9
        go_wp2_with fail
        refine (deckCheck_any (HL.out.later HB9.out) HI9.out (by omega) HS.out HN5.out HW5.out).mono ?_
        rw [H5.out]
        rintro e w10 ⟨rfl, hb10⟩
        go_wp2
        go_ret
        exact ⟨rfl, stepB HB9.out hb10⟩
      · rw [if_pos (by omega)] at h5
        have g2 : decide ((l.length : Int) < 26) = false := decide_eq_false (by omega)
        have H5 := Lib.hid h5
        clear h1 h5 en1 en5 q30 q26
        go_wp2_with fail
        refine (deckCheck_any (HL.out.later HB8.out) HI5'.out (by omega) HS.out HN1.out HW1.out).mono ?_
        rw [H1.out]
        rintro e w9 ⟨rfl, hb9⟩
        have HB9 := Lib.hid (stepB HB8.out hb9)
        have HI9 := Lib.hid (HI7.out.later hb9)
        clear hb9
        go_wp2_with fail
        refine (deckCheck_any (HL.out.later HB9.out) HI9.out (by omega) HS.out HN5.out HW5.out).mono ?_
        rw [H5.out]
        rintro e w10 ⟨rfl, hb10⟩
        go_wp2
        go_ret
        exact ⟨rfl, stepB HB9.out hb10⟩
    · rw [if_pos (by omega)] at h1
      rw [if_pos (by omega)] at h5
      have g1 : decide ((l.length : Int) < 30) = false := decide_eq_false (by omega)
      have g2 : decide ((l.length : Int) < 26) = false := decide_eq_false (by omega)
      have H1 := Lib.hid h1
      have H5 := Lib.hid h5
      clear h1 h5 en1 en5 q30
      go_wp2_with fail
      refine (deckCheck_any (HL.out.later HB8.out) HI5'.out (by omega) HS.out HN1.out HW1.out).mono ?_
      rw [H1.out]
      rintro e w9 ⟨rfl, hb9⟩
      have HB9 := Lib.hid (stepB HB8.out hb9)
      have HI9 := Lib.hid (HI7.out.later hb9)
      clear hb9
      go_wp2_with fail
      refine (deckCheck_any (HL.out.later HB9.out) HI9.out (by omega) HS.out HN5.out HW5.out).mono ?_
      rw [H5.out]
      rintro e w10 ⟨rfl, hb10⟩
      go_wp2
      go_ret
      exact ⟨rfl, stepB HB9.out hb10⟩
  · by_cases hk4 : K = 4
    · have H1 := Lib.hid (show deckE t (l ++ [(m : Int)]) = 9 by rw [en1]; exact HSCH.out hk4 1 (by omega))
      subst hk4
      clear en1 en5
      go_wp2_with fail
      refine (deckCheck_any (HL.out.later HB8.out) HI5'.out (by omega) HS.out HN1.out HW1.out).mono ?_
      rw [H1.out]
      rintro e w9 ⟨rfl, hb9⟩
      go_wp2
      go_ret
      exact ⟨rfl, stepB HB8.out hb9⟩
    · have H5 := Lib.hid (show deckE t (l ++ [(m : Int), m, m, m, m]) = 9 by rw [en5]; exact HFIVE.out hk1)
      have f1 : (K == 1) = false := beq_eq_false_iff_ne.2 hk1
      have f4 : (K == 4) = false := beq_eq_false_iff_ne.2 hk4
      clear en1 en5
      obtain ⟨cn, hcn⟩ : ∃ cn, l.count (m : Int) = cn := ⟨_, rfl⟩
      have hcl : cn ≤ l.length := by rw [← hcn]; exact List.count_le_length
      have HC := Lib.hid hcn
      have HC1 := Lib.hid (show (l ++ [(m : Int)]).count (m : Int) = cn + 1 by rw [List.count_append, hcn]; simp)
      have hwr : IntKind.i64.wrap ((cn : Int) + 1) = (cn : Int) + 1 := IntWalk.i64_in _ (by omega)
      have hcast : ((cn + 1 : Nat) : Int) = (cn : Int) + 1 := by omega
      have c0 : (0 : Int) ≤ cn := by omega
      clear hcn
      go_wp2
      go_region_held3 (fun w' => Below w7.heap.size w7 w') (first | assumption | exact (Below.refl _ _).drew | exact stepB (by assumption) (by assumption))
        (first
          | (go_at_call 59; refine (deckCheck_any ((HL.out.later HB8.out).later (by assumption)) (HI7.out.later (by assumption)) (by omega) HS.out HN5.out HW5.out).mono ?_; rw [H5.out]; rintro e w9 ⟨rfl, hb9⟩)
          | (go_at_call 64; (with_reducible refine (count_int (HI5'.out.later (by assumption)) HN1.out HW1.out).mono ?_); rintro e w10 ⟨b10, rfl, hcm10, hb10⟩; have hlk10 := cnt_lookup hcm10 HWN.out; rw [HC1.out, hcast] at hlk10)
          | (go_at_call 64; refine (count_int ((HU.out.later HB8.out).later (by assumption)) (by omega) HWF.out).mono ?_; rintro e w11 ⟨b11, rfl, hcm11, hb11⟩; have hlk11 := cnt_lookup hcm11 HWN.out; rw [HC.out] at hlk11; have hlk12 := cnt_lookup (CntMap.later (l := l ++ [(m : Int)]) (by assumption) hb11) HWN.out; rw [HC1.out, hcast] at hlk12))
      all_goals
        have hh : Below w7.heap.size w7 w11 := by assumption
        have HH := Lib.hid (stepB HB8.out hh)
        clear hh
        go_wp2
        go_ret
        exact ⟨rfl, HH.out⟩
set_option maxRecDepth 100000 in
theorem deckCopies_walk {v u : Value} {t : List CardL} {l : List Int} {n : Int} {w : World} (h : CardsAt w v t) (hu : IntsAt w u l) (hn : t.length ≤ 9223372036854775807) (hs : SmallC t) (hl : l.length ≤ 9223372036854775807) (hwf : WfI l) (hwn : (Lit.int .i64 n).wf = true) :
    Calls Try.prog 15 #[v, u, .int .i64 n] w (RetB w true) := by
  cases hg : greatB t l
  · by_cases he : deckE t l = 0
    · by_cases h0 : n < 0
      · exact copies_neg h hu hn hs hl hwf hwn hg he h0
      · by_cases h1 : (t.length : Int) ≤ n
        · exact copies_far h hu hn hs hl hwf hwn hg he h0 h1
        · exact copies_in h hu hn hs hl hwf hwn hg he h0 h1
    · exact copies_bad h hu hn hs hl hwf hwn hg he
  · exact copies_great h hu hn hs hl hwf hwn hg

set_option maxRecDepth 100000 in
theorem deckCopies_lifted (os : Os) (started : os.Started) (H : Type) (enc : TypeId × Value → H) :
    ReturnsInHanded {} Try.checked os 15 .any (Rows.deckCopiesSpec.pre6 enc Try.prog Try.f15 Rows.deckCopiesRow.domain false) (Rows.deckCopiesSpec.post enc Try.prog Try.f15 false true false false) := by
  refine returnsInHanded_of_change (C := Try.checked) own started (by kernel_rfl) Try.func15
    (ChangeSpec.witness6 (enc := enc) (C := Try.checked) false ⟨#[], #[.slice none 0 0, .slice none 0 0, .int .i64 0], []⟩ 8 (by kernel_rfl) (by kernel_rfl) (by kernel_rfl) (by kernel_rfl)) ?_
  intro W base args ds gs before hval0 hW hcnd _
  have hval : ∀ (j : Nat) t v, Try.f15.params[j]? = some t → args[j]? = some v → Value.okWide Try.prog W .any base t v := hval0
  have hW' := hW
  obtain ⟨p, q, hA0, hV, rfl, hfz, hnd⟩ := hW
  have hA : DataW.TrodAll enc Try.prog W 0 (fun _ => true) true Try.f15.params.toList args.toList ds p := hA0
  rw [Try.params15] at hA hval
  have hA1 := hA
  obtain ⟨v0, vs0, d0, ds0, p0, q0, hargs0, rfl, rfl, h0, r0⟩ := trodAll_cons hA
  obtain ⟨v1, vs1, d1, ds1, p1, q1, rfl, rfl, rfl, h1, r1⟩ := trodAll_cons r0
  obtain ⟨v2, vs2, d2, ds2, p2, q2, rfl, rfl, rfl, h2, r2⟩ := trodAll_cons r1
  obtain ⟨rfl, rfl, rfl⟩ := trodAll_nil r2
  obtain rfl : args = #[v0, v1, v2] := by cases args; simp_all
  obtain ⟨rfl, rfl⟩ := trodVars_none hV
  obtain ⟨t, ht, htl, hts⟩ := open_cards (hval 0 85 v0 rfl rfl) h0
  obtain ⟨l, hl, hll, hlw⟩ := open_nums (hval 1 51 v1 rfl rfl) h1
  obtain ⟨n, rfl, _, _, hwn⟩ := open_int Try.underlying3 (hval 2 3 v2 rfl rfl) h2
  clear hval0
  simp only [List.append_nil] at hW'
  have hlt := fun x hx => hW'.lt x hx
  unfold maxLen at htl hll
  refine (deckCopies_walk ht hl (by omega) hts (by omega) hlw hwn).mono fun e W' ⟨he, hb⟩ => ?_
  subst he
  exact ⟨_, rfl, post_below (pr := []) (pv := []) hW' (trodAll_cons_mk (shut_bool Try.underlying4 _) trodAll_mk0)
    (trodAll_stays laidOutT hb (by intro t ht; simp at ht; rcases ht with rfl | rfl | rfl <;> exact ⟨by kernel_rfl, of_decide_eq_true (by kernel_rfl)⟩) hA1 (by simpa using hlt)) rfl hb⟩

/-- The law DeckCopies: for every table, list of numbers and number it returns true; each argument reads behind the call as it read before. -/
theorem deckCopies_holds : Rows.DeckCopiesSaid :=
  OpenClaim.holds_of_wide 15 Try.f15 rfl rfl rfl rfl rfl rfl rfl ⟨rfl, rfl, rfl, rfl, rfl⟩ rfl rfl rfl rfl rfl (by kernel_rfl) Try.func15 (by kernel_rfl)
    (of_decide_eq_true (by kernel_rfl)) (by unfold Func.isWrapper; first | (rw [if_pos (by decide +kernel)]; kernel_rfl) | (rw [if_neg (by decide +kernel)]; exact ⟨rfl, rfl⟩))
    (fun os started H enc _ => deckCopies_lifted os started H enc)
end Go.Proofs.Ytcbjekdbkhibbaa
