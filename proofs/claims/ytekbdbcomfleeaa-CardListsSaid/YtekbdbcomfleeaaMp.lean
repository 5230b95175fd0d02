/- Plain facts on bytes that are read as a card: they are just the card's own (layer 2). Plain facts on a card's bytes: wherever they stand, they are read as just that card (layer 2). -/
import Derived.Test.YtekbdbcomfleeaaCr
namespace Go.Proofs.Ytekbdbcomfleeaa
open Go.RowKit

def gb (s : ByteArray) (j : Nat) : UInt8 := s.data[j]?.getD 0
theorem byteAt_gb (s : ByteArray) (j : Nat) : byteAt s j = ((gb s j).toNat : Int) := rfl
theorem str1_u8 (u : UInt8) : (numStr 1 (u.toNat : Int)).data.toList = [u] := by
  have h := u.toNat_lt
  have h2 : ((u.toNat : Int) / 256 ^ 0 % 256) = (u.toNat : Int) := by
    rw [Int.pow_zero, Int.ediv_one]; omega
  simp only [numStr, digits, List.nil_append, h2, strOfNums]
  simp
theorem fits_u8 (u : UInt8) : fitsN 1 (u.toNat : Int) = true := by
  have h := u.toNat_lt
  have hp : powN 1 = 256 := rfl
  unfold fitsN
  simp only [Bool.and_eq_true, decide_eq_true_eq]
  omega
theorem cnt_gb (s : ByteArray) (a : Nat) : UInt8.ofNat (cntAt s a) = gb s a := by
  unfold cntAt
  rw [byteAt_gb, Int.toNat_natCast]
  simp
theorem bytesOf_gb (s : ByteArray) (j : Nat) (l : List Int) : bytesOf (byteAt s j :: l) = gb s j :: bytesOf l := by
  rw [bytesOf_cons, byteAt_gb, str1_u8]; rfl
theorem terms_gb (s : ByteArray) (a : Nat) : ∀ k, termsB3 (rdTerms s a k) = (List.range (3 * k)).map fun j => gb s (a + j)
  | 0 => rfl
  | k + 1 => by
    rw [rdTerms_succ, termsB3_append, terms_gb s a k, termsB3_cons, termsB3_nil]
    rw [show 3 * (k + 1) = 3 * k + 1 + 1 + 1 by omega, List.range_succ, List.range_succ, List.range_succ]
    simp only [rdTerm, termL, bytesOf_gb, bytesOf_nil, List.map_append, List.map_cons, List.map_nil, List.append_assoc, List.append_nil]
    rw [show a + (3 * k + 1) = a + 3 * k + 1 by omega, show a + (3 * k + 1 + 1) = a + 3 * k + 2 by omega]
    rfl
theorem rdTerms_fit (s : ByteArray) (a k : Nat) : (rdTerms s a k).all tfit = true := by
  rw [List.all_eq_true]
  intro t ht
  unfold rdTerms at ht
  obtain ⟨i, _, rfl⟩ := List.mem_map.1 ht
  simp [tfit, termL, rdTerm, byteAt_gb, fits_u8]
theorem rdCard_fit (s : ByteArray) (a : Nat) : hfit (rdCard s a) = true := by
  simp [hfit, headL, rdCard, byteAt_gb, fits_u8]
theorem rdCard_bytes (s : ByteArray) (a : Nat) : cardBytes (rdCard s a) = (List.range (7 + 3 * cntAt s (a + 6))).map fun j => gb s (a + j) := by
  unfold cardBytes
  show bytesOf (headL (rdCard s a)) ++ (UInt8.ofNat (rdTerms s (a + 7) (cntAt s (a + 6))).length :: termsB3 (rdTerms s (a + 7) (cntAt s (a + 6)))) = _
  rw [rdTerms_len, cnt_gb, terms_gb, List.range_add, List.map_append]
  simp only [headL, rdCard, bytesOf_gb, bytesOf_nil, List.map_map]
  have h7 : List.range 7 = [0, 1, 2, 3, 4, 5, 6] := rfl
  rw [h7]
  simp only [List.map_cons, List.map_nil, List.cons_append, List.nil_append, Nat.add_zero]
  congr 7
  apply List.map_congr_left
  intro j _
  simp [Nat.add_assoc]
theorem all_gb (s : ByteArray) : s.data.toList = (List.range s.size).map fun j => gb s (0 + j) := by
  apply List.ext_getElem
  · simp
  · intro i h1 h2
    have hi : i < s.data.size := by simpa using h1
    simp only [List.getElem_map, List.getElem_range, gb, Nat.zero_add]
    rw [Array.getElem?_eq_getElem hi]
    rfl
theorem cerr_cases (s : ByteArray) (a : Nat) : cardErr s a = 0 ∨ cardErr s a = 3 ∨ cardErr s a = 4 := by
  unfold cardErr
  split
  · simp
  · split
    · split <;> simp
    · exact listE_cases s (a + 6)
theorem cerr_may (s : ByteArray) (a : Nat) (h : cardErr s a = 0) : mayB (rdCard s a) = true ∧ cntAt s (a + 6) ≤ 4 ∧ a + 7 + 3 * cntAt s (a + 6) ≤ s.size := by
  unfold cardErr at h
  split at h
  · cases h
  · split at h
    · rename_i hl
      have hc := cnt_le s (a + 6) hl
      unfold listE at hl
      split at hl
      · cases hl
      · split at hl
        · cases hl
        · split at hl
          · cases hl
          · cases hm : mayB (rdCard s a)
            · rw [hm] at h; simp at h
            · exact ⟨rfl, hc, by omega⟩
    · rename_i hl; exact absurd h hl

/-- What Get answers: a card that may be, of just these bytes; or none, for one of two reasons. -/
theorem cget_cases (s : ByteArray) : (∃ d, cgetOf s = (d, 0) ∧ mayB d = true ∧ hfit d = true ∧ d.terms.length ≤ 4 ∧ d.terms.all tfit = true ∧ (⟨(cardBytes d).toArray⟩ : ByteArray) = s) ∨ cgetOf s = (zeroC, 3) ∨ cgetOf s = (zeroC, 4) := by
  have h0 : cnextAt s 0 = if cardErr s 0 = 0 then (rdCard s 0, lenCard s 0, 0) else (zeroC, 0, cardErr s 0) := by
    unfold cnextAt
    rw [if_pos ⟨by omega, by omega⟩]
    rfl
  unfold cgetOf
  rw [h0]
  rcases cerr_cases s 0 with h | h | h
  · rw [if_pos h]
    obtain ⟨h1, h2, h3⟩ := cerr_may s 0 h
    by_cases hm : lenCard s 0 = s.size
    · refine .inl ⟨rdCard s 0, by simp [hm], h1, rdCard_fit s 0, ?_, rdTerms_fit _ _ _, ?_⟩
      · show (rdTerms s (0 + 7) (cntAt s (0 + 6))).length ≤ 4
        rw [rdTerms_len]; exact h2
      · apply ByteArray.ext
        apply Array.toList_inj.1
        have hn : 7 + 3 * cntAt s (0 + 6) = s.size := by unfold lenCard at hm; omega
        have hb := rdCard_bytes s 0
        rw [hn, ← all_gb s] at hb
        exact hb
    · exact .inr (.inr (by simp [hm]))
  · exact .inr (.inl (by simp [h]))
  · exact .inr (.inr (by simp [h]))
theorem zero_is (w : World) : CardIs w (cagg zeroC (.slice none 0 0)) zeroC := ⟨none, 0, 0, rfl, .inl ⟨none, 0, rfl, rfl⟩⟩
end Go.Proofs.Ytekbdbcomfleeaa
namespace Go.Proofs.Ytekbdbcomfleeaa
open Go.RowKit

/-- These bytes stand in a string at a place. -/
def ReadsAt (s : ByteArray) (a : Nat) (l : List UInt8) : Prop := a + l.length ≤ s.size ∧ ∀ j (h : j < l.length), gb s (a + j) = l[j]
theorem ReadsAt.of (x l r : List UInt8) : ReadsAt ⟨(x ++ (l ++ r)).toArray⟩ x.length l := by
  refine ⟨?_, fun j hj => ?_⟩
  · show x.length + l.length ≤ (x ++ (l ++ r)).toArray.size
    rw [List.size_toArray, List.length_append, List.length_append]; omega
  · unfold gb
    show (x ++ (l ++ r)).toArray[x.length + j]?.getD 0 = l[j]
    rw [List.getElem?_toArray, List.getElem?_append_right (by omega), Nat.add_sub_cancel_left, List.getElem?_append_left hj, List.getElem?_eq_getElem hj]
    rfl
theorem ReadsAt.tail {s : ByteArray} {a : Nat} {u : UInt8} {l : List UInt8} (h : ReadsAt s a (u :: l)) : gb s a = u ∧ ReadsAt s (a + 1) l := by
  obtain ⟨h1, h2⟩ := h
  rw [List.length_cons] at h1
  refine ⟨h2 0 (by simp), by omega, fun j hj => ?_⟩
  have := h2 (j + 1) (by simp; omega)
  rw [show a + (j + 1) = a + 1 + j by omega] at this
  simpa using this
theorem ReadsAt.left {s : ByteArray} {a : Nat} {l r : List UInt8} (h : ReadsAt s a (l ++ r)) : ReadsAt s a l := by
  obtain ⟨h1, h2⟩ := h
  rw [List.length_append] at h1
  refine ⟨by omega, fun j hj => ?_⟩
  have := h2 j (by rw [List.length_append]; omega)
  rwa [List.getElem_append_left hj] at this

theorem fit_u8 {x : Int} (h : fitsN 1 x = true) : ∃ u : UInt8, x = (u.toNat : Int) := by
  unfold fitsN at h
  simp only [Bool.and_eq_true, decide_eq_true_eq] at h
  have hp : powN 1 = 256 := rfl
  refine ⟨UInt8.ofNat x.toNat, ?_⟩
  have : (UInt8.ofNat x.toNat).toNat = x.toNat % 256 := by simp
  omega
theorem rd1 {s : ByteArray} {a : Nat} {x : Int} {r : List Int} {q : List UInt8} (hx : fitsN 1 x = true) (h : ReadsAt s a (bytesOf (x :: r) ++ q)) : byteAt s a = x ∧ ReadsAt s (a + 1) (bytesOf r ++ q) := by
  obtain ⟨u, rfl⟩ := fit_u8 hx
  rw [bytesOf_cons, str1_u8] at h
  obtain ⟨h1, h2⟩ := ReadsAt.tail (u := u) (l := bytesOf r ++ q) (by simpa using h)
  exact ⟨by rw [byteAt_gb, h1], h2⟩
theorem rdT {s : ByteArray} {a : Nat} {t : TermL} {q : List UInt8} (ht : tfit t = true) (h : ReadsAt s a (bytesOf (termL t) ++ q)) : rdTerm s a = t ∧ ReadsAt s (a + 3) q := by
  unfold tfit termL at ht
  simp only [List.all_cons, List.all_nil, Bool.and_true, Bool.and_eq_true] at ht
  obtain ⟨e1, h⟩ := rd1 ht.1 h
  obtain ⟨e2, h⟩ := rd1 ht.2.1 h
  obtain ⟨e3, h⟩ := rd1 ht.2.2 h
  refine ⟨?_, by simpa [bytesOf_nil] using h⟩
  unfold rdTerm
  rw [show a + 2 = a + 1 + 1 by omega, e1, e2, e3]
theorem rdTerms_cons (s : ByteArray) (a n : Nat) : rdTerms s a (n + 1) = rdTerm s a :: rdTerms s (a + 3) n := by
  unfold rdTerms
  rw [List.range_succ_eq_map, List.map_cons, List.map_map]
  congr 1
  apply List.map_congr_left
  intro i _
  show rdTerm s (a + 3 * (i + 1)) = rdTerm s (a + 3 + 3 * i)
  rw [show a + 3 * (i + 1) = a + 3 + 3 * i by omega]
theorem rdTs {s : ByteArray} : ∀ (l : List TermL) {a : Nat} {q : List UInt8}, l.all tfit = true → ReadsAt s a (termsB3 l ++ q) → rdTerms s a l.length = l
  | [], _, _, _, _ => rfl
  | t :: l, a, q, hl, h => by
    rw [List.all_cons, Bool.and_eq_true] at hl
    rw [termsB3_cons, List.append_assoc] at h
    obtain ⟨e, h2⟩ := rdT hl.1 h
    rw [List.length_cons, rdTerms_cons, e, rdTs l hl.2 h2]
theorem cardBytes_len (c : CardL) : (cardBytes c).length = 7 + 3 * c.terms.length := by
  unfold cardBytes
  rw [List.length_append, bytesOf_len, List.length_cons, termsB3_len]
  simp [headL]; omega
theorem rdC {s : ByteArray} {a : Nat} {c : CardL} (hf : hfit c = true) (h4 : c.terms.length ≤ 4) (ht : c.terms.all tfit = true) (h : ReadsAt s a (cardBytes c)) :
    rdCard s a = c ∧ cntAt s (a + 6) = c.terms.length ∧ a + 7 + 3 * c.terms.length ≤ s.size := by
  have hlen := h.1
  rw [cardBytes_len] at hlen
  unfold cardBytes headL at h
  unfold hfit headL at hf
  simp only [List.all_cons, List.all_nil, Bool.and_true, Bool.and_eq_true] at hf
  obtain ⟨e1, h⟩ := rd1 hf.1 h
  obtain ⟨e2, h⟩ := rd1 hf.2.1 h
  obtain ⟨e3, h⟩ := rd1 hf.2.2.1 h
  obtain ⟨e4, h⟩ := rd1 hf.2.2.2.1 h
  obtain ⟨e5, h⟩ := rd1 hf.2.2.2.2.1 h
  obtain ⟨e6, h⟩ := rd1 hf.2.2.2.2.2 h
  rw [bytesOf_nil, List.nil_append] at h
  obtain ⟨e7, h⟩ := h.tail
  have hc : cntAt s (a + 6) = c.terms.length := by
    unfold cntAt
    rw [byteAt_gb, show a + 6 = a + 1 + 1 + 1 + 1 + 1 + 1 by omega, e7]
    simp; omega
  refine ⟨?_, hc, by omega⟩
  have hT := rdTs (q := []) c.terms ht (by simpa using h)
  unfold rdCard
  rw [hc, show a + 7 = a + 1 + 1 + 1 + 1 + 1 + 1 + 1 by omega, show a + 2 = a + 1 + 1 by omega, show a + 3 = a + 1 + 1 + 1 by omega, show a + 4 = a + 1 + 1 + 1 + 1 by omega, show a + 5 = a + 1 + 1 + 1 + 1 + 1 by omega]
  rw [hT, e1, e2, e3, e4, e5, e6]
theorem errC {s : ByteArray} {a : Nat} {c : CardL} (hf : hfit c = true) (h4 : c.terms.length ≤ 4) (ht : c.terms.all tfit = true) (h : ReadsAt s a (cardBytes c)) :
    cnextAt s (a : Int) = if mayB c then (c, (a : Int) + 7 + 3 * c.terms.length, 0) else (zeroC, (a : Int), 4) := by
  obtain ⟨h1, h2, h3⟩ := rdC hf h4 ht h
  have hl : listE s (a + 6) = 0 := by unfold listE; rw [h2, if_neg (by omega), if_neg (by omega), if_neg (by omega)]
  have hce : cardErr s a = if mayB c then 0 else 4 := by unfold cardErr; rw [if_neg (by omega), if_pos hl, h1]
  unfold cnextAt
  rw [if_pos ⟨by omega, by omega⟩, Int.toNat_natCast, hce, h1]
  unfold lenCard
  rw [h2]
  cases mayB c <;> simp
theorem in_fits {x m : Int} (h : inB x m = true) (hm : m ≤ 255) : fitsN 1 x = true := by
  unfold inB at h
  unfold fitsN
  simp only [Bool.and_eq_true, decide_eq_true_eq] at h ⊢
  have hp : powN 1 = 256 := rfl
  omega
theorem term_fits {t : TermL} (h : termB t = true) : tfit t = true := by
  obtain ⟨op, n, on⟩ := t
  unfold termB at h
  simp only [Bool.and_eq_true, decide_eq_true_eq] at h
  obtain ⟨h1, h2, h3⟩ := h
  have hp : powN 1 = 256 := rfl
  have hm : mostI op ≤ 20 := by unfold mostI; split <;> omega
  have hop : (1 ≤ op ∧ op ≤ 9) ∧ 0 ≤ on ∧ on ≤ 4 := by
    unfold aimsI at h3
    split at h3
    · simp at h3; omega
    · split at h3
      · simp at h3; omega
      · split at h3
        · simp at h3; omega
        · split at h3
          · simp at h3; omega
          · simp at h3
  simp only [tfit, termL, List.all_cons, List.all_nil, Bool.and_true, Bool.and_eq_true]
  unfold fitsN
  simp only [Bool.and_eq_true, decide_eq_true_eq]
  omega
theorem may_fits {c : CardL} (h : mayB c = true) : hfit c = true ∧ c.terms.length ≤ 4 ∧ c.terms.all tfit = true := by
  unfold mayB numsB termsB at h
  simp only [Bool.and_eq_true, decide_eq_true_eq] at h
  obtain ⟨⟨h1, h2, h3, h4, h5, h6⟩, ⟨h7, h8, h9⟩, _⟩ := h
  refine ⟨?_, h7, ?_⟩
  · simp only [hfit, headL, List.all_cons, List.all_nil, Bool.and_true, Bool.and_eq_true]
    exact ⟨in_fits h1 (by omega), in_fits h2 (by omega), in_fits h3 (by omega), in_fits h4 (by omega), in_fits h5 (by omega), in_fits h6 (by omega)⟩
  · rw [List.all_eq_true] at h8 ⊢
    exact fun t ht => term_fits (h8 t ht)
/-- Bytes that are cut are too few. -/
theorem cut_short {c : CardL} (hf : hfit c = true) (h4 : c.terms.length ≤ 4) (ht : c.terms.all tfit = true) (k : Nat) (hk : k < (cardBytes c).length) :
    cgetOf ⟨((cardBytes c).take k).toArray⟩ = (zeroC, 3) := by
  have hsz : (⟨((cardBytes c).take k).toArray⟩ : ByteArray).size = k := by
    show ((cardBytes c).take k).toArray.size = k
    rw [List.size_toArray, List.length_take]; omega
  have hlen := cardBytes_len c
  have h3 : cardErr ⟨((cardBytes c).take k).toArray⟩ 0 = 3 := by
    unfold cardErr
    by_cases h6 : k < 6
    · rw [if_pos (by omega)]
    · rw [if_neg (by omega)]
      have hl : listE ⟨((cardBytes c).take k).toArray⟩ (0 + 6) = 3 := by
        unfold listE
        by_cases h7 : k < 7
        · rw [if_pos (by omega)]
        · rw [if_neg (by omega)]
          have hfull := (rdC (s := ⟨(cardBytes c).toArray⟩) (a := 0) hf h4 ht (by simpa using ReadsAt.of [] (cardBytes c) [])).2.1
          have hc : cntAt ⟨((cardBytes c).take k).toArray⟩ (0 + 6) = c.terms.length := by
            rw [← hfull]
            unfold cntAt
            have hg : gb ⟨((cardBytes c).take k).toArray⟩ (0 + 6) = gb ⟨(cardBytes c).toArray⟩ (0 + 6) := by
              unfold gb
              show ((cardBytes c).take k).toArray[0 + 6]?.getD 0 = (cardBytes c).toArray[0 + 6]?.getD 0
              rw [List.getElem?_toArray, List.getElem?_toArray, List.getElem?_take, if_pos (by omega)]
            rw [byteAt_gb, byteAt_gb, hg]
          rw [hc, if_neg (by omega), if_pos (by omega)]
      rw [hl, if_neg (by omega)]
  unfold cgetOf
  have hn : cnextAt ⟨((cardBytes c).take k).toArray⟩ 0 = (zeroC, 0, 3) := by
    unfold cnextAt
    rw [if_pos ⟨by omega, by omega⟩]
    rw [Int.toNat_zero, h3]
    rfl
  rw [hn]
  rfl
end Go.Proofs.Ytekbdbcomfleeaa
