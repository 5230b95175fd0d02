/- Plain facts (layer 3): what deck.Check and deck.Schemes tell is what the document says; how often the most frequent number is there. The contracts of the document's Deck and Schemes (layer 3). -/
import Derived.Test.YtcbjekdbkhibbaaDo
namespace Go.Proofs.Ytcbjekdbkhibbaa
open Go.RowKit

theorem may_kinds (c : CardL) (h : mayB c = true) : 1 ≤ c.kind ∧ c.kind ≤ 4 := by
  simp only [mayB, Bool.and_eq_true] at h
  obtain ⟨_, _, hk⟩ := h
  simp only [kindB] at hk
  by_cases h1 : c.kind = 1
  · omega
  by_cases h2 : c.kind = 2
  · omega
  by_cases h3 : c.kind = 3
  · omega
  by_cases h4 : c.kind = 4
  · omega
  simp [h1, h2, h3, h4] at hk

theorem most_fold (l : List Int) (k : Nat) : ∀ (r : List Int) (a : Int × Nat), k < (r.foldl (mostStep l) a).2 ↔ k < a.2 ∨ ∃ x ∈ r, k < max (l.count x) 1
  | [], a => by simp
  | x :: r, a => by
    rw [List.foldl_cons, most_fold l k r]
    have e : (mostStep l a x).2 = max a.2 (max (l.count x) 1) := by
      unfold mostStep
      split
      · simp only; omega
      · omega
    rw [e]
    simp only [List.mem_cons, exists_eq_or_imp]
    constructor
    · rintro (h | h)
      · by_cases h2 : k < a.2
        · exact .inl h2
        · exact .inr (.inl (by omega))
      · exact .inr (.inr h)
    · rintro (h | h | h)
      · exact .inl (by omega)
      · exact .inl (by omega)
      · exact .inr h
theorem most_iff (l : List Int) (k : Nat) : k < (mostL l).2 ↔ ∃ x ∈ l, k < l.count x := by
  unfold mostL mostFrom
  rw [most_fold]
  constructor
  · rintro (h | ⟨x, hx, h⟩)
    · exact absurd h (Nat.not_lt_zero _)
    · have := List.count_pos_iff.2 hx
      exact ⟨x, hx, by omega⟩
  · rintro ⟨x, hx, h⟩
    exact .inr ⟨x, hx, by omega⟩
def okD (t : List CardL) (l : List Int) (x : Int) : Bool := !(kindAt t x == 4) && (kindAt t x == 1 || decide (l.count x ≤ 4))
def okS (t : List CardL) (l : List Int) (x : Int) : Bool := (kindAt t x == 4) && decide (l.count x ≤ 2)
theorem known_parts {t : List CardL} {l : List Int} (h : knownE t l = 0) : t.all mayB = true ∧ l.all (inT t.length) = true := by
  unfold knownE at h
  split at h
  · rename_i h0
    refine ⟨?_, ?_⟩
    · unfold tableE at h0
      split at h0
      · exact absurd h0 (by decide)
      · split at h0
        · assumption
        · exact absurd h0 (by decide)
    · split at h
      · assumption
      · exact absurd h (by decide)
  · exact absurd h (by assumption)
theorem inT_nat {m : Nat} {x : Int} (h : inT m x = true) : ∃ k : Nat, x = (k : Int) ∧ k < m := by
  simp only [inT, Bool.and_eq_true, decide_eq_true_eq] at h
  exact ⟨x.toNat, by omega, by omega⟩
theorem kind_in {t : List CardL} {x : Int} (ht : t.all mayB = true) (hx : inT t.length x = true) : 1 ≤ kindAt t x ∧ kindAt t x ≤ 4 := by
  obtain ⟨k, rfl, hk⟩ := inT_nat hx
  rw [kindAt_of hk]
  rw [List.all_eq_true] at ht
  exact may_kinds _ (ht _ (List.getElem_mem hk))
theorem only_iff (t : List CardL) (ks l : List Int) : onlyB t ks l = true ↔ ∀ x ∈ l, ofB t ks x = true := by
  unfold onlyB ofL
  rw [decide_eq_true_eq, List.length_filter_eq_length_iff]
theorem deckE_ref (t : List CardL) (l : List Int) : deckE t l = if knownE t l ≠ 0 then knownE t l else if l.length < 8 ∨ 30 < l.length then 9 else if l.all (okD t l) then 0 else 9 := by
  unfold deckE
  by_cases hk : knownE t l = 0
  · have hk' : ¬ (knownE t l ≠ 0) := fun h => h hk
    rw [if_neg hk', if_neg hk']
    by_cases hl : l.length < 8 ∨ 30 < l.length
    · rw [if_pos hl, if_pos hl]
    · rw [if_neg hl, if_neg hl]
      obtain ⟨ht, hin⟩ := known_parts hk
      rw [List.all_eq_true] at hin
      by_cases ho : onlyB t [1, 2, 3] l = true
      · rw [if_neg (by simp [ho])]
        rw [only_iff] at ho
        have hcount : ∀ x ∈ l, kindAt t x ≠ 1 → ofB t [2, 3] x = true := fun x hx h1 => by
          have h := ho x hx
          unfold ofB at h ⊢
          simp only [Bool.and_eq_true, List.contains_eq_mem, List.mem_cons, List.not_mem_nil, or_false, decide_eq_true_eq] at h ⊢
          exact ⟨h.1, by rcases h.2 with h | h | h <;> simp_all⟩
        have h4 : ∀ x ∈ l, kindAt t x ≠ 4 := fun x hx => by
          have h := ho x hx
          unfold ofB at h
          simp only [Bool.and_eq_true, List.contains_eq_mem, List.mem_cons, List.not_mem_nil, or_false, decide_eq_true_eq] at h
          omega
        by_cases hm : 4 < (mostL (ofL t [2, 3] l)).2
        · rw [if_pos hm]
          obtain ⟨x, hx, hc⟩ := (most_iff _ _).1 hm
          have hxl := List.mem_filter.1 hx
          rw [show (ofL t [2, 3] l).count x = l.count x from List.count_filter hxl.2] at hc
          rw [if_neg]
          intro hall
          rw [List.all_eq_true] at hall
          have h := hall x hxl.1
          have hk1 := hxl.2
          unfold ofB at hk1
          simp only [Bool.and_eq_true, List.contains_eq_mem, List.mem_cons, List.not_mem_nil, or_false, decide_eq_true_eq] at hk1
          unfold okD at h
          simp only [Bool.and_eq_true, Bool.or_eq_true, beq_iff_eq, decide_eq_true_eq] at h
          omega
        · rw [if_neg hm, if_pos]
          rw [List.all_eq_true]
          intro x hx
          unfold okD
          have h44 := h4 x hx
          by_cases h1 : kindAt t x = 1
          · simp [h1]
          · have hof := hcount x hx h1
            have : ¬ 4 < l.count x := fun h => hm ((most_iff _ _).2 ⟨x, List.mem_filter.2 ⟨hx, hof⟩, by rw [show (ofL t [2, 3] l).count x = l.count x from List.count_filter hof]; exact h⟩)
            simp only [Bool.and_eq_true, Bool.or_eq_true, beq_iff_eq, decide_eq_true_eq, Bool.not_eq_true', beq_eq_false_iff_ne]
            exact ⟨h44, .inr (by omega)⟩
      · rw [if_pos (by simpa using ho), if_neg]
        intro hall
        apply ho
        rw [only_iff]
        rw [List.all_eq_true] at hall
        intro x hx
        have h := hall x hx
        have hkk := kind_in ht (hin x hx)
        unfold okD at h
        simp only [Bool.and_eq_true, Bool.or_eq_true, beq_iff_eq, decide_eq_true_eq, Bool.not_eq_true', beq_eq_false_iff_ne] at h
        unfold ofB
        simp only [Bool.and_eq_true, List.contains_eq_mem, List.mem_cons, List.not_mem_nil, or_false, decide_eq_true_eq]
        exact ⟨hin x hx, by omega⟩
  · rw [if_pos hk, if_pos hk]
theorem schemeE_ref (t : List CardL) (l : List Int) : schemeE t l = if knownE t l ≠ 0 then knownE t l else if l.length < 1 ∨ 20 < l.length then 9 else if l.all (okS t l) then 0 else 9 := by
  unfold schemeE
  by_cases hk : knownE t l = 0
  · have hk' : ¬ (knownE t l ≠ 0) := fun h => h hk
    rw [if_neg hk', if_neg hk']
    by_cases hl : l.length < 1 ∨ 20 < l.length
    · rw [if_pos hl, if_pos hl]
    · rw [if_neg hl, if_neg hl]
      obtain ⟨ht, hin⟩ := known_parts hk
      rw [List.all_eq_true] at hin
      by_cases ho : onlyB t [4] l = true
      · rw [if_neg (by simp [ho])]
        rw [only_iff] at ho
        have h4 : ∀ x ∈ l, kindAt t x = 4 := fun x hx => by
          have h := ho x hx
          unfold ofB at h
          simp only [Bool.and_eq_true, List.contains_eq_mem, List.mem_cons, List.not_mem_nil, or_false, decide_eq_true_eq] at h
          exact h.2
        by_cases hm : 2 < (mostL l).2
        · rw [if_pos hm]
          obtain ⟨x, hx, hc⟩ := (most_iff _ _).1 hm
          rw [if_neg]
          intro hall
          rw [List.all_eq_true] at hall
          have h := hall x hx
          unfold okS at h
          simp only [Bool.and_eq_true, decide_eq_true_eq] at h
          omega
        · rw [if_neg hm, if_pos]
          rw [List.all_eq_true]
          intro x hx
          have : ¬ 2 < l.count x := fun h => hm ((most_iff _ _).2 ⟨x, hx, h⟩)
          unfold okS
          simp only [Bool.and_eq_true, beq_iff_eq, decide_eq_true_eq]
          exact ⟨h4 x hx, by omega⟩
      · rw [if_pos (by simpa using ho), if_neg]
        intro hall
        apply ho
        rw [only_iff]
        rw [List.all_eq_true] at hall
        intro x hx
        have h := hall x hx
        unfold okS at h
        simp only [Bool.and_eq_true, beq_iff_eq] at h
        unfold ofB
        rw [hin x hx, h.1]; rfl
  · rw [if_pos hk, if_pos hk]
end Go.Proofs.Ytcbjekdbkhibbaa
namespace Go.Proofs.Ytcbjekdbkhibbaa
open Go.RowKit

set_option maxRecDepth 100000 in
set_option maxHeartbeats 4000000 in
theorem refDeck_any {v u : Value} {t : List CardL} {l : List Int} {w : World} (h : CardsAt w v t) (hu : IntsAt w u l) (hn : t.length ≤ 9223372036854775807) (hs : SmallC t) (hl : l.length ≤ 1000) :
    Calls Try.prog 60 #[v, u] w (fun e w' => e = .returned (.int .i64 (deckE t l)) ∧ Below w.heap.size w w') := by
  obtain ⟨xa, xc, rfl⟩ := h.form
  obtain ⟨ya, yc, rfl⟩ := hu.form
  have HL := Lib.hid h
  have HU := Lib.hid hu
  have HS := Lib.hid hs
  have HN := Lib.hid hn
  have HLL := Lib.hid hl
  clear h hu hs
  have hE := deckE_ref t l
  by_cases h0 : knownE t l = 0
  · rw [if_neg (fun h => h h0)] at hE
    have HE := Lib.hid h0
    by_cases hlen : l.length < 8 ∨ 30 < l.length
    · rw [if_pos hlen] at hE
      have HD := Lib.hid hE
      clear hE h0
      rcases hlen with h8 | h30
      · have b1 : decide ((l.length : Int) < 8) = true := decide_eq_true (by omega)
        clear h8
        go_enter Try.func60, Try.ntmps60
        go_wp2_with fail
        refine (known_any HL.out HU.out HN.out HS.out (by have := HLL.out; omega)).mono ?_
        rw [HE.out]
        rintro e w2 ⟨rfl, hb2⟩
        go_wp2
        go_ret
        exact ⟨ret_int HD.out.symm, hb2⟩
      · have b1 : decide ((l.length : Int) < 8) = false := decide_eq_false (by omega)
        have b2 : decide ((30 : Int) < l.length) = true := decide_eq_true (by omega)
        clear h30
        go_enter Try.func60, Try.ntmps60
        go_wp2_with fail
        refine (known_any HL.out HU.out HN.out HS.out (by have := HLL.out; omega)).mono ?_
        rw [HE.out]
        rintro e w2 ⟨rfl, hb2⟩
        go_wp2
        go_ret
        exact ⟨ret_int HD.out.symm, hb2⟩
    · rw [if_neg hlen] at hE
      have b1 : decide ((l.length : Int) < 8) = false := decide_eq_false (by omega)
      have b2 : decide ((30 : Int) < l.length) = false := decide_eq_false (by omega)
      have HD := Lib.hid hE
      have HIN := Lib.hid (known_parts h0).2
      clear hE h0 hlen
      go_enter Try.func60, Try.ntmps60
      go_wp2_with fail
      refine (known_any HL.out HU.out HN.out HS.out (by have := HLL.out; omega)).mono ?_
      rw [HE.out]
      rintro e w2 ⟨rfl, hb2⟩
      have HB2 := Lib.hid hb2
      clear hb2
      go_wp2
      go_loopw [5] (fun i wr => ∃ k : Nat, k ≤ l.length ∧ i = .int .i64 k ∧ Hid ((l.take k).all (okD t l) = true) ∧ Hid (Below w.heap.size w wr)) (fun i _ => l.length - (intOf i).toNat)
      case atStart => exact ⟨0, Nat.zero_le _, rfl, Lib.hid (by simp), HB2⟩
      case round =>
        obtain ⟨k, hk, rfl, HK, HB⟩ := hrel
        by_cases hlt : k < l.length
        · obtain ⟨b, off, hya, c0⟩ := (HU.out.later HB.out).at k hlt
          have HU2 := Lib.hid (HU.out.later HB.out)
          have hin := HIN.out
          rw [List.all_eq_true] at hin
          have hin1 := hin _ (List.getElem_mem hlt)
          obtain ⟨x, hx⟩ : ∃ x, l[k] = x := ⟨_, rfl⟩
          rw [hx] at c0 hin1
          have HX := Lib.hid hx
          have HLT := Lib.hid hlt
          have d0 : (0 : Int) ≤ k := by omega
          have d1 : (k : Int) < l.length := by omega
          clear hx hin
          obtain ⟨m, rfl, hmt⟩ := inT_nat hin1
          obtain ⟨b2, off2, rfl, hcell⟩ := (HL.out.later HB.out).at m hmt
          have hka := kindAt_of hmt
          obtain ⟨c, hcc⟩ : ∃ c, t[m] = c := ⟨_, rfl⟩
          rw [hcc] at hcell hka
          obtain ⟨za, zc, k0, k1, k2, k3, k4, k5, k6, ht⟩ := hcell
          obtain ⟨K, hK⟩ : ∃ K, c.kind = K := ⟨_, rfl⟩
          rw [hK] at k0 hka
          obtain ⟨M, hM⟩ : ∃ M, l.count (m : Int) = M := ⟨_, rfl⟩
          have hML : M ≤ l.length := by rw [← hM]; exact List.count_le_length
          have HM := Lib.hid hM
          have HOK := Lib.hid (show okD t l (m : Int) = (!(K == 4) && (K == 1 || decide (M ≤ 4))) by unfold okD; rw [hka, hM])
          have m0 : (0 : Int) ≤ m := by omega
          have m1 : (m : Int) < t.length := by omega
          have HYA := Lib.hid hya
          clear ht hin1 hcc hka hK hM hya k1 k2 k3 k4 k5 k6
          by_cases hk4 : K = 4
          · have HBAD := Lib.hid (show okD t l (m : Int) = false by rw [HOK.out]; simp; omega)
            subst hk4
            obtain rfl := HYA.out
            go_wp2
            go_ret
            exact ⟨ret_int (by rw [HD.out, allB_not HLT.out (by rw [HX.out]; exact HBAD.out)]; rfl), HB.out⟩
          · have f4 : (K == 4) = false := beq_eq_false_iff_ne.2 hk4
            by_cases hk1 : K = 1
            · have HGOOD := Lib.hid (show okD t l (m : Int) = true by rw [HOK.out]; simp; omega)
              subst hk1
              obtain rfl := HYA.out
              go_wp2
              go_roundw
              case rel => exact ⟨k + 1, by have := HLT.out; omega, by go_num, Lib.hid (allB_next HLT.out HK.out (by rw [HX.out]; exact HGOOD.out)), HB⟩
              case measure => have := HLT.out; simp [intOf]; omega
            · have f1 : (K != 1) = true := bne_iff_ne.2 hk1
              by_cases hm4 : 4 < M
              · have HBAD := Lib.hid (show okD t l (m : Int) = false by rw [HOK.out]; simp; omega)
                have g4 : decide ((4 : Int) < (M : Int)) = true := decide_eq_true (by omega)
                obtain rfl := HYA.out
                go_wp2_with fail
                refine (many_any (m : Int) HU2.out (by have := HLL.out; omega)).mono ?_
                rw [HM.out]
                rintro e w4 ⟨rfl, rfl⟩
                go_wp2
                go_ret
                exact ⟨ret_int (by rw [HD.out, allB_not HLT.out (by rw [HX.out]; exact HBAD.out)]; rfl), HB.out⟩
              · have HGOOD := Lib.hid (show okD t l (m : Int) = true by rw [HOK.out]; simp; omega)
                have g4 : decide ((4 : Int) < (M : Int)) = false := decide_eq_false (by omega)
                obtain rfl := HYA.out
                go_wp2_with fail
                refine (many_any (m : Int) HU2.out (by have := HLL.out; omega)).mono ?_
                rw [HM.out]
                rintro e w4 ⟨rfl, rfl⟩
                go_wp2
                go_roundw
                case rel => exact ⟨k + 1, by have := HLT.out; omega, by go_num, Lib.hid (allB_next HLT.out HK.out (by rw [HX.out]; exact HGOOD.out)), HB⟩
                case measure => have := HLT.out; simp [intOf]; omega
        · obtain rfl : k = l.length := by omega
          have HA := Lib.hid (allB_done HK.out)
          go_wp2
          go_ret
          exact ⟨ret_int (by rw [HD.out, HA.out]; rfl), HB.out⟩
  · rw [if_pos h0] at hE
    obtain ⟨E, hEE⟩ : ∃ E, knownE t l = E := ⟨_, rfl⟩
    rw [hEE] at hE h0
    have HE := Lib.hid hEE
    have HD := Lib.hid hE
    have e1 : (E != 0) = true := bne_iff_ne.2 h0
    clear h0 hE hEE
    go_enter Try.func60, Try.ntmps60
    go_wp2_with fail
    refine (known_any HL.out HU.out HN.out HS.out (by have := HLL.out; omega)).mono ?_
    rw [HE.out]
    rintro e w2 ⟨rfl, hb2⟩
    have HB2 := Lib.hid hb2
    clear hb2
    go_wp2_with fail
    refine (known_any (HL.out.later HB2.out) (HU.out.later HB2.out) HN.out HS.out (by have := HLL.out; omega)).mono ?_
    rw [HE.out]
    rintro e w3 ⟨rfl, hb3⟩
    go_wp2
    go_ret
    exact ⟨ret_int HD.out.symm, stepB HB2.out hb3⟩

set_option maxRecDepth 100000 in
set_option maxHeartbeats 4000000 in
theorem refSchemes_any {v u : Value} {t : List CardL} {l : List Int} {w : World} (h : CardsAt w v t) (hu : IntsAt w u l) (hn : t.length ≤ 9223372036854775807) (hs : SmallC t) (hl : l.length ≤ 1000) :
    Calls Try.prog 62 #[v, u] w (fun e w' => e = .returned (.int .i64 (schemeE t l)) ∧ Below w.heap.size w w') := by
  obtain ⟨xa, xc, rfl⟩ := h.form
  obtain ⟨ya, yc, rfl⟩ := hu.form
  have HL := Lib.hid h
  have HU := Lib.hid hu
  have HS := Lib.hid hs
  have HN := Lib.hid hn
  have HLL := Lib.hid hl
  clear h hu hs
  have hE := schemeE_ref t l
  by_cases h0 : knownE t l = 0
  · rw [if_neg (fun h => h h0)] at hE
    have HE := Lib.hid h0
    by_cases hlen : l.length < 1 ∨ 20 < l.length
    · rw [if_pos hlen] at hE
      have HD := Lib.hid hE
      clear hE h0
      rcases hlen with h8 | h30
      · have b1 : decide ((l.length : Int) < 1) = true := decide_eq_true (by omega)
        clear h8
        go_enter Try.func62, Try.ntmps62
        go_wp2_with fail
        refine (known_any HL.out HU.out HN.out HS.out (by have := HLL.out; omega)).mono ?_
        rw [HE.out]
        rintro e w2 ⟨rfl, hb2⟩
        go_wp2
        go_ret
        exact ⟨ret_int HD.out.symm, hb2⟩
      · have b1 : decide ((l.length : Int) < 1) = false := decide_eq_false (by omega)
        have b2 : decide ((20 : Int) < l.length) = true := decide_eq_true (by omega)
        clear h30
        go_enter Try.func62, Try.ntmps62
        go_wp2_with fail
        refine (known_any HL.out HU.out HN.out HS.out (by have := HLL.out; omega)).mono ?_
        rw [HE.out]
        rintro e w2 ⟨rfl, hb2⟩
        go_wp2
        go_ret
        exact ⟨ret_int HD.out.symm, hb2⟩
    · rw [if_neg hlen] at hE
      have b1 : decide ((l.length : Int) < 1) = false := decide_eq_false (by omega)
      have b2 : decide ((20 : Int) < l.length) = false := decide_eq_false (by omega)
      have HD := Lib.hid hE
      have HIN := Lib.hid (known_parts h0).2
      clear hE h0 hlen
      go_enter Try.func62, Try.ntmps62
      go_wp2_with fail
      refine (known_any HL.out HU.out HN.out HS.out (by have := HLL.out; omega)).mono ?_
      rw [HE.out]
      rintro e w2 ⟨rfl, hb2⟩
      have HB2 := Lib.hid hb2
      clear hb2
      go_wp2
      go_loopw [5] (fun i wr => ∃ k : Nat, k ≤ l.length ∧ i = .int .i64 k ∧ Hid ((l.take k).all (okS t l) = true) ∧ Hid (Below w.heap.size w wr)) (fun i _ => l.length - (intOf i).toNat)
      case atStart => exact ⟨0, Nat.zero_le _, rfl, Lib.hid (by simp), HB2⟩
      case round =>
        obtain ⟨k, hk, rfl, HK, HB⟩ := hrel
        by_cases hlt : k < l.length
        · obtain ⟨b, off, hya, c0⟩ := (HU.out.later HB.out).at k hlt
          have HU2 := Lib.hid (HU.out.later HB.out)
          have hin := HIN.out
          rw [List.all_eq_true] at hin
          have hin1 := hin _ (List.getElem_mem hlt)
          obtain ⟨x, hx⟩ : ∃ x, l[k] = x := ⟨_, rfl⟩
          rw [hx] at c0 hin1
          have HX := Lib.hid hx
          have HLT := Lib.hid hlt
          have d0 : (0 : Int) ≤ k := by omega
          have d1 : (k : Int) < l.length := by omega
          clear hx hin
          obtain ⟨m, rfl, hmt⟩ := inT_nat hin1
          obtain ⟨b2, off2, rfl, hcell⟩ := (HL.out.later HB.out).at m hmt
          have hka := kindAt_of hmt
          obtain ⟨c, hcc⟩ : ∃ c, t[m] = c := ⟨_, rfl⟩
          rw [hcc] at hcell hka
          obtain ⟨za, zc, k0, k1, k2, k3, k4, k5, k6, ht⟩ := hcell
          obtain ⟨K, hK⟩ : ∃ K, c.kind = K := ⟨_, rfl⟩
          rw [hK] at k0 hka
          obtain ⟨M, hM⟩ : ∃ M, l.count (m : Int) = M := ⟨_, rfl⟩
          have hML : M ≤ l.length := by rw [← hM]; exact List.count_le_length
          have HM := Lib.hid hM
          have HOK := Lib.hid (show okS t l (m : Int) = ((K == 4) && decide (M ≤ 2)) by unfold okS; rw [hka, hM])
          have m0 : (0 : Int) ≤ m := by omega
          have m1 : (m : Int) < t.length := by omega
          have HYA := Lib.hid hya
          clear ht hin1 hcc hka hK hM hya k1 k2 k3 k4 k5 k6
          by_cases hk4 : K = 4
          · by_cases hm4 : 2 < M
            · have HBAD := Lib.hid (show okS t l (m : Int) = false by rw [HOK.out]; simp; omega)
              have g4 : decide ((2 : Int) < (M : Int)) = true := decide_eq_true (by omega)
              subst hk4
              obtain rfl := HYA.out
              go_wp2_with fail
              refine (many_any (m : Int) HU2.out (by have := HLL.out; omega)).mono ?_
              rw [HM.out]
              rintro e w4 ⟨rfl, rfl⟩
              go_wp2
              go_ret
              exact ⟨ret_int (by rw [HD.out, allB_not HLT.out (by rw [HX.out]; exact HBAD.out)]; rfl), HB.out⟩
            · have HGOOD := Lib.hid (show okS t l (m : Int) = true by rw [HOK.out]; simp; omega)
              have g4 : decide ((2 : Int) < (M : Int)) = false := decide_eq_false (by omega)
              subst hk4
              obtain rfl := HYA.out
              go_wp2_with fail
              refine (many_any (m : Int) HU2.out (by have := HLL.out; omega)).mono ?_
              rw [HM.out]
              rintro e w4 ⟨rfl, rfl⟩
              go_wp2
              go_roundw
              case rel => exact ⟨k + 1, by have := HLT.out; omega, by go_num, Lib.hid (allB_next HLT.out HK.out (by rw [HX.out]; exact HGOOD.out)), HB⟩
              case measure => have := HLT.out; simp [intOf]; omega
          · have HBAD := Lib.hid (show okS t l (m : Int) = false by rw [HOK.out]; simp; omega)
            have f4 : (K != 4) = true := bne_iff_ne.2 hk4
            obtain rfl := HYA.out
            go_wp2
            go_ret
            exact ⟨ret_int (by rw [HD.out, allB_not HLT.out (by rw [HX.out]; exact HBAD.out)]; rfl), HB.out⟩
        · obtain rfl : k = l.length := by omega
          have HA := Lib.hid (allB_done HK.out)
          go_wp2
          go_ret
          exact ⟨ret_int (by rw [HD.out, HA.out]; rfl), HB.out⟩
  · rw [if_pos h0] at hE
    obtain ⟨E, hEE⟩ : ∃ E, knownE t l = E := ⟨_, rfl⟩
    rw [hEE] at hE h0
    have HE := Lib.hid hEE
    have HD := Lib.hid hE
    have e1 : (E != 0) = true := bne_iff_ne.2 h0
    clear h0 hE hEE
    go_enter Try.func62, Try.ntmps62
    go_wp2_with fail
    refine (known_any HL.out HU.out HN.out HS.out (by have := HLL.out; omega)).mono ?_
    rw [HE.out]
    rintro e w2 ⟨rfl, hb2⟩
    have HB2 := Lib.hid hb2
    clear hb2
    go_wp2_with fail
    refine (known_any (HL.out.later HB2.out) (HU.out.later HB2.out) HN.out HS.out (by have := HLL.out; omega)).mono ?_
    rw [HE.out]
    rintro e w3 ⟨rfl, hb3⟩
    go_wp2
    go_ret
    exact ⟨ret_int HD.out.symm, stepB HB2.out hb3⟩
end Go.Proofs.Ytcbjekdbkhibbaa
