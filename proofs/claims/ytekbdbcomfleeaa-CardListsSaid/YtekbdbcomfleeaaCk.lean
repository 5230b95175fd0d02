/- The contract of putCard (layer 2, card): the bytes of any card, or why there are none. -/
import Derived.Test.YtekbdbcomfleeaaLc
import Derived.Test.YtekbdbcomfleeaaCg
import Derived.Laws.Concat
namespace Go.Proofs.Ytekbdbcomfleeaa
open Go.RowKit

theorem putB_yes (c : CardL) (h : hfit c = true) : putB (headL c) = (⟨(bytesOf (headL c)).toArray⟩, 0) := by unfold putB; exact if_pos h
theorem putB_no (c : CardL) (h : hfit c = false) : putB (headL c) = (⟨#[]⟩, 2) := by
  unfold putB; rw [if_neg (by rw [show (headL c).all (fitsN 1) = false from h]; decide)]

theorem stepB {A w w' : World} (h : Below A.heap.size A w) (hb : Below w.heap.size w w') : Below A.heap.size A w' := h.trans (hb.mono h.size)
theorem cput_of (c : CardL) (h : hfit c = true) : cput c = if (tlput c.terms).2 = 0 then ((⟨(bytesOf (headL c)).toArray⟩ : ByteArray) ++ (tlput c.terms).1, 0) else (⟨#[]⟩, (tlput c.terms).2) := by
  unfold cput tlput
  rw [if_pos h]
  by_cases h4 : 4 < c.terms.length
  · rw [if_pos h4, if_pos h4]; rfl
  · rw [if_neg h4, if_neg h4]
    cases c.terms.all tfit
    · rfl
    · simp only [if_true]
      congr 1
theorem tlput_size (l : List TermL) : (tlput l).1.size ≤ 13 := by
  unfold tlput
  by_cases h4 : 4 < l.length
  · rw [if_pos h4]; exact Nat.zero_le _
  · rw [if_neg h4]
    cases l.all tfit
    · exact Nat.zero_le _
    · show (UInt8.ofNat l.length :: termsB3 l).toArray.size ≤ 13
      rw [List.size_toArray, List.length_cons, termsB3_len]; omega
theorem head_size (c : CardL) : (⟨(bytesOf (headL c)).toArray⟩ : ByteArray).size = 6 := by
  show (bytesOf (headL c)).toArray.size = 6
  rw [List.size_toArray, bytesOf_len]; rfl

set_option maxRecDepth 100000 in
set_option maxHeartbeats 1600000 in
theorem putCard_any {p q : Nat} {c : CardL} {v : Value} {w : World} (hh : LHas w p q) (h : CardIs w v c) (hlen : c.terms.length ≤ 9223372036854775807) :
    Calls Try.prog 30 #[lAgg p q, v] w fun e w' => e = ret2 (cput c) ∧ Below w.heap.size w w' := by
  obtain ⟨xa, xn, xc, rfl, ht⟩ := h
  have HH := Lib.hid hh
  have HT := Lib.hid ht
  have hl := fun W => putBytes_any (headL c) W 0 6
  have HL := Lib.hid hl
  clear hl hh ht
  cases hf : hfit c
  · have HP := Lib.hid (putB_no c hf)
    have HO : Hid (cput c = (⟨#[]⟩, 2)) := Lib.hid (by unfold cput; simp [hf])
    rw [HO.out]
    clear hf
    unfold cagg lAgg
    go_enter Try.func30, Try.ntmps30
    go_wp2_with fail
    refine (numbers_any c _ _ _ _).mono ?_
    rintro e w2 ⟨rfl, hb2⟩
    have hz2 := hb2.size
    simp at hz2
    have HB2 := Lib.hid hb2
    unfold nums6
    clear hb2
    go_wp2_with fail
    refine (HL.out _ _ (by simp [headL]) (by simp) (fun i hi => ?_)).mono ?_
    · rcases six (show i < 6 from hi) with rfl | rfl | rfl | rfl | rfl | rfl <;> simp [go_sem, headL]
    rw [HP.out]
    rintro e w3 ⟨rfl, hb3⟩
    unfold ret2
    go_wp2
    go_ret2
    exact ⟨rfl, stepB (below_alloc2 (stepB (below_alloc2 (below_alloc1 w _) _) HB2.out) _) hb3⟩
  · have HP := Lib.hid (putB_yes c hf)
    have hO := cput_of c hf
    have hsz := tlput_size c.terms
    have hhd := head_size c
    obtain ⟨s2, n2, hs2⟩ : ∃ s2 n2, tlput c.terms = (s2, n2) := ⟨_, _, rfl⟩
    obtain ⟨s1, hs1⟩ : ∃ s1 : ByteArray, (⟨(bytesOf (headL c)).toArray⟩ : ByteArray) = s1 := ⟨_, rfl⟩
    rw [hs2] at hO hsz
    rw [hs1] at hO hhd HP
    replace hsz : s2.size ≤ 13 := hsz
    have hhd' : s1.size ≤ 6 := by omega
    have HS2 := Lib.hid hs2
    have HO := Lib.hid hO
    rw [HO.out]
    clear hs1 hs2 hO hf hhd
    by_cases h0 : n2 = 0
    · subst h0
      rw [if_pos rfl]
      unfold cagg lAgg
      go_enter Try.func30, Try.ntmps30
      go_wp2_with fail
      refine (numbers_any c _ _ _ _).mono ?_
      rintro e w2 ⟨rfl, hb2⟩
      have hz2 := hb2.size
      simp at hz2
      have HW2 := Lib.hid (stepB (below_alloc2 (below_alloc1 w _) _) hb2)
      have HB2 := Lib.hid hb2
      unfold nums6
      clear hb2
      go_wp2_with fail
      refine (HL.out _ _ (by simp [headL]) (by simp) (fun i hi => ?_)).mono ?_
      · rcases six (show i < 6 from hi) with rfl | rfl | rfl | rfl | rfl | rfl <;> simp [go_sem, headL]
      rw [HP.out]
      rintro e w3 ⟨rfl, hb3⟩
      have HW3 := Lib.hid (stepB (below_alloc2 HW2.out _) hb3)
      have HK3 := Lib.hid (HB2.out.trans (((below_alloc1 w2 _).trans (hb3.mono (by simp))).mono (by simp; omega)))
      have k0 : w3.cell? ⟨w.heap.size, 0, none⟩ = some (.func (.func 57) #[] #[.pointer (some ⟨p, 0, none⟩), .pointer (some ⟨q, 0, none⟩)]) := ((bcell HK3.out).1 _ 0 (show _ < _ by simp; omega)).trans (by simp [go_sem])
      have k1 : w3.cell? ⟨w.heap.size, 1, none⟩ = some (.func (.func 59) #[] #[.pointer (some ⟨p, 0, none⟩), .pointer (some ⟨q, 0, none⟩)]) := ((bcell HK3.out).1 _ 1 (show _ < _ by simp; omega)).trans (by simp [go_sem])
      have k6 : w3.cell? ⟨w.heap.size + 1, 6, none⟩ = some (.slice xa xn xc) := ((bcell HK3.out).1 _ 6 (show _ < _ by simp)).trans (by simp [go_sem])
      clear hb3
      unfold ret2
      go_wp2_with fail
      refine (put_l (HH.out.later HW3.out) (HT.out.later HW3.out) hlen).mono ?_
      rw [HS2.out]
      rintro e w4 ⟨rfl, hb4⟩
      unfold ret2
      go_wp2
      go_ret2
      exact ⟨rfl, stepB HW3.out hb4⟩
    · rw [if_neg h0]
      have h0' : (n2 != 0) = true := by simpa using h0
      clear h0
      unfold cagg lAgg
      go_enter Try.func30, Try.ntmps30
      go_wp2_with fail
      refine (numbers_any c _ _ _ _).mono ?_
      rintro e w2 ⟨rfl, hb2⟩
      have hz2 := hb2.size
      simp at hz2
      have HW2 := Lib.hid (stepB (below_alloc2 (below_alloc1 w _) _) hb2)
      have HB2 := Lib.hid hb2
      unfold nums6
      clear hb2
      go_wp2_with fail
      refine (HL.out _ _ (by simp [headL]) (by simp) (fun i hi => ?_)).mono ?_
      · rcases six (show i < 6 from hi) with rfl | rfl | rfl | rfl | rfl | rfl <;> simp [go_sem, headL]
      rw [HP.out]
      rintro e w3 ⟨rfl, hb3⟩
      have HW3 := Lib.hid (stepB (below_alloc2 HW2.out _) hb3)
      have HK3 := Lib.hid (HB2.out.trans (((below_alloc1 w2 _).trans (hb3.mono (by simp))).mono (by simp; omega)))
      have k0 : w3.cell? ⟨w.heap.size, 0, none⟩ = some (.func (.func 57) #[] #[.pointer (some ⟨p, 0, none⟩), .pointer (some ⟨q, 0, none⟩)]) := ((bcell HK3.out).1 _ 0 (show _ < _ by simp; omega)).trans (by simp [go_sem])
      have k1 : w3.cell? ⟨w.heap.size, 1, none⟩ = some (.func (.func 59) #[] #[.pointer (some ⟨p, 0, none⟩), .pointer (some ⟨q, 0, none⟩)]) := ((bcell HK3.out).1 _ 1 (show _ < _ by simp; omega)).trans (by simp [go_sem])
      have k6 : w3.cell? ⟨w.heap.size + 1, 6, none⟩ = some (.slice xa xn xc) := ((bcell HK3.out).1 _ 6 (show _ < _ by simp)).trans (by simp [go_sem])
      clear hb3
      unfold ret2
      go_wp2_with fail
      refine (put_l (HH.out.later HW3.out) (HT.out.later HW3.out) hlen).mono ?_
      rw [HS2.out]
      rintro e w4 ⟨rfl, hb4⟩
      unfold ret2
      go_wp2
      go_ret2
      exact ⟨rfl, stepB HW3.out hb4⟩
end Go.Proofs.Ytekbdbcomfleeaa
