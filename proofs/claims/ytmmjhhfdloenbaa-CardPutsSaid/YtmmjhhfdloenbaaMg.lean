/- Plain facts on bytes that are read as a card: they are just the card's own (layer 2). -/
import Derived.Test.YtmmjhhfdloenbaaCr
namespace Go.Proofs.Ytmmjhhfdloenbaa
open Go.RowKit

def gb (s : ByteArray) (j : Nat) : UInt8 := s.data[j]?.getD 0
theorem byteAt_gb (s : ByteArray) (j : Nat) : byteAt s j = ((gb s j).toNat : Int) := rfl
theorem str1_u8 (u : UInt8) : (numStr 1 (u.toNat : Int)).data.toList = [u] := by
  have h := u.toNat_lt
  have h2 : ((u.toNat : Int) / 256 ^ 0 % 256) = (u.toNat : Int) := by
    rw [Int.pow_zero, Int.ediv_one]; omega
  simp only [numStr, digits, List.nil_append, h2, strOfNums]
  simp
theorem fits_u8 (u : UInt8) : fitsN 1 (u.toNat : Int) = true := by
  have h := u.toNat_lt
  have hp : powN 1 = 256 := rfl
  unfold fitsN
  simp only [Bool.and_eq_true, decide_eq_true_eq]
  omega
theorem cnt_gb (s : ByteArray) (a : Nat) : UInt8.ofNat (cntAt s a) = gb s a := by
  unfold cntAt
  rw [byteAt_gb, Int.toNat_natCast]
  simp
theorem bytesOf_gb (s : ByteArray) (j : Nat) (l : List Int) : bytesOf (byteAt s j :: l) = gb s j :: bytesOf l := by
  rw [bytesOf_cons, byteAt_gb, str1_u8]; rfl
theorem terms_gb (s : ByteArray) (a : Nat) : ∀ k, termsB3 (rdTerms s a k) = (List.range (3 * k)).map fun j => gb s (a + j)
  | 0 => rfl
  | k + 1 => by
    rw [rdTerms_succ, termsB3_append, terms_gb s a k, termsB3_cons, termsB3_nil]
    rw [show 3 * (k + 1) = 3 * k + 1 + 1 + 1 by omega, List.range_succ, List.range_succ, List.range_succ]
    simp only [rdTerm, termL, bytesOf_gb, bytesOf_nil, List.map_append, List.map_cons, List.map_nil, List.append_assoc, List.append_nil]
    rw [show a + (3 * k + 1) = a + 3 * k + 1 by omega, show a + (3 * k + 1 + 1) = a + 3 * k + 2 by omega]
    rfl
theorem rdTerms_fit (s : ByteArray) (a k : Nat) : (rdTerms s a k).all tfit = true := by
  rw [List.all_eq_true]
  intro t ht
  unfold rdTerms at ht
  obtain ⟨i, _, rfl⟩ := List.mem_map.1 ht
  simp [tfit, termL, rdTerm, byteAt_gb, fits_u8]
theorem rdCard_fit (s : ByteArray) (a : Nat) : hfit (rdCard s a) = true := by
  simp [hfit, headL, rdCard, byteAt_gb, fits_u8]
theorem rdCard_bytes (s : ByteArray) (a : Nat) : cardBytes (rdCard s a) = (List.range (7 + 3 * cntAt s (a + 6))).map fun j => gb s (a + j) := by
  unfold cardBytes
  show bytesOf (headL (rdCard s a)) ++ (UInt8.ofNat (rdTerms s (a + 7) (cntAt s (a + 6))).length :: termsB3 (rdTerms s (a + 7) (cntAt s (a + 6)))) = _
  rw [rdTerms_len, cnt_gb, terms_gb, List.range_add, List.map_append]
  simp only [headL, rdCard, bytesOf_gb, bytesOf_nil, List.map_map]
  have h7 : List.range 7 = [0, 1, 2, 3, 4, 5, 6] := rfl
  rw [h7]
  simp only [List.map_cons, List.map_nil, List.cons_append, List.nil_append, Nat.add_zero]
  congr 7
  apply List.map_congr_left
  intro j _
  simp [Nat.add_assoc]
theorem all_gb (s : ByteArray) : s.data.toList = (List.range s.size).map fun j => gb s (0 + j) := by
  apply List.ext_getElem
  · simp
  · intro i h1 h2
    have hi : i < s.data.size := by simpa using h1
    simp only [List.getElem_map, List.getElem_range, gb, Nat.zero_add]
    rw [Array.getElem?_eq_getElem hi]
    rfl
theorem cerr_cases (s : ByteArray) (a : Nat) : cardErr s a = 0 ∨ cardErr s a = 3 ∨ cardErr s a = 4 := by
  unfold cardErr
  split
  · simp
  · split
    · split <;> simp
    · exact listE_cases s (a + 6)
theorem cerr_may (s : ByteArray) (a : Nat) (h : cardErr s a = 0) : mayB (rdCard s a) = true ∧ cntAt s (a + 6) ≤ 4 ∧ a + 7 + 3 * cntAt s (a + 6) ≤ s.size := by
  unfold cardErr at h
  split at h
  · cases h
  · split at h
    · rename_i hl
      have hc := cnt_le s (a + 6) hl
      unfold listE at hl
      split at hl
      · cases hl
      · split at hl
        · cases hl
        · split at hl
          · cases hl
          · cases hm : mayB (rdCard s a)
            · rw [hm] at h; simp at h
            · exact ⟨rfl, hc, by omega⟩
    · rename_i hl; exact absurd h hl

/-- What Get answers: a card that may be, of just these bytes; or none, for one of two reasons. -/
theorem cget_cases (s : ByteArray) : (∃ d, cgetOf s = (d, 0) ∧ mayB d = true ∧ hfit d = true ∧ d.terms.length ≤ 4 ∧ d.terms.all tfit = true ∧ (⟨(cardBytes d).toArray⟩ : ByteArray) = s) ∨ cgetOf s = (zeroC, 3) ∨ cgetOf s = (zeroC, 4) := by
  have h0 : cnextAt s 0 = if cardErr s 0 = 0 then (rdCard s 0, lenCard s 0, 0) else (zeroC, 0, cardErr s 0) := by
    unfold cnextAt
    rw [if_pos ⟨by omega, by omega⟩]
    rfl
  unfold cgetOf
  rw [h0]
  rcases cerr_cases s 0 with h | h | h
  · rw [if_pos h]
    obtain ⟨h1, h2, h3⟩ := cerr_may s 0 h
    by_cases hm : lenCard s 0 = s.size
    · refine .inl ⟨rdCard s 0, by simp [hm], h1, rdCard_fit s 0, ?_, rdTerms_fit _ _ _, ?_⟩
      · show (rdTerms s (0 + 7) (cntAt s (0 + 6))).length ≤ 4
        rw [rdTerms_len]; exact h2
      · apply ByteArray.ext
        apply Array.toList_inj.1
        have hn : 7 + 3 * cntAt s (0 + 6) = s.size := by unfold lenCard at hm; omega
        have hb := rdCard_bytes s 0
        rw [hn, ← all_gb s] at hb
        exact hb
    · exact .inr (.inr (by simp [hm]))
  · exact .inr (.inl (by simp [h]))
  · exact .inr (.inr (by simp [h]))
theorem zero_is (w : World) : CardIs w (cagg zeroC (.slice none 0 0)) zeroC := ⟨none, 0, 0, rfl, .inl ⟨none, 0, rfl, rfl⟩⟩
end Go.Proofs.Ytmmjhhfdloenbaa
