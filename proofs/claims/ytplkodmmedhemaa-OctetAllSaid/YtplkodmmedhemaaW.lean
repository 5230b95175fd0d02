/- Plain facts on numbers and their bytes for the law OctetNums. -/
import Derived.Test.YtplkodmmedhemaaV
import Derived.Test.YtplkodmmedhemaaP
namespace Go.Proofs.Ytplkodmmedhemaa
open Go.RowKit

theorem put_fits {n : Nat} {x : Int} (h : fitsN n x = true) : nrm2 (putN n x) = (numStr n x, 0) := by simp [nrm2, outS, putN, h]
theorem put_not {n : Nat} {x : Int} (h : fitsN n x = false) : nrm2 (putN n x) = (⟨#[]⟩, 2) := by simp [nrm2, outS, putN, h]

theorem byteAt_append_right (s t : ByteArray) (j : Nat) : byteAt (s ++ t) (s.size + j) = byteAt t j := by
  unfold byteAt
  have : (s ++ t).data[s.size + j]? = t.data[j]? := by
    rw [ByteArray.data_append, Array.getElem?_append_right (by simp)]
    simp
  rw [this]

theorem byteAt_str (n : Nat) (x : Int) (j : Nat) (h : j < n) : byteAt (numStr n x) j = x / 256 ^ j % 256 := by
  unfold byteAt numStr
  have hd : (strOfNums (digits x n)).data[j]? = some (UInt8.ofNat ((digits x n).getD j 0).toNat) := by
    rw [← Array.getElem?_toList, strOfNums_data, List.getElem?_map]
    have : (digits x n)[j]? = some ((digits x n).getD j 0) := by
      rw [List.getD, List.getElem?_eq_getElem (by rw [digits_length]; exact h)]; rfl
    rw [this]; rfl
  rw [hd, digits_get _ _ _ h]
  have h0 : 0 ≤ x / 256 ^ j % 256 := Int.emod_nonneg _ (by decide)
  have h1 : x / 256 ^ j % 256 < 256 := Int.emod_lt_of_pos _ (by decide)
  simp
  omega

theorem readN_congr (s t : ByteArray) (a b n : Nat) (h : ∀ j, j < n → byteAt s (a + j) = byteAt t (b + j)) : readN s a n = readN t b n := by
  induction n with
  | zero => rfl
  | succ n ih =>
    show readN s a n + byteAt s (a + n) * 256 ^ n = readN t b n + byteAt t (b + n) * 256 ^ n
    rw [ih (fun j hj => h j (by omega)), h n (by omega)]

theorem emod_step (x p : Int) (hp : 0 < p) : x % (p * 256) = x % p + x / p % 256 * p := by
  have h1 := Int.emod_add_mul_ediv x p
  have h2 := Int.emod_add_mul_ediv (x / p) 256
  have e : x = (x % p + x / p % 256 * p) + (p * 256) * (x / p / 256) := by
    have h3 : p * (x / p) = x / p % 256 * p + (p * 256) * (x / p / 256) := by
      conv => lhs; rw [← h2]
      rw [Int.mul_add, Int.mul_comm p, Int.mul_assoc]
    omega
  have hr0 := Int.emod_nonneg x (show p ≠ 0 by omega)
  have hr1 := Int.emod_lt_of_pos x hp
  have hd0 : 0 ≤ x / p % 256 := Int.emod_nonneg _ (by decide)
  have hd1 : x / p % 256 ≤ 255 := by have := Int.emod_lt_of_pos (x / p) (show (0 : Int) < 256 by decide); omega
  have m0 : 0 ≤ x / p % 256 * p := Int.mul_nonneg hd0 (by omega)
  have m1 : x / p % 256 * p ≤ 255 * p := Int.mul_le_mul_of_nonneg_right hd1 (by omega)
  conv => lhs; rw [e]
  rw [Int.add_mul_emod_self_left, Int.emod_eq_of_lt (by omega) (by omega)]

theorem readN_str (n : Nat) (x : Int) : ∀ k, k ≤ n → readN (numStr n x) 0 k = x % powN k := by
  intro k
  induction k with
  | zero => intro _; simp [readN, powN]
  | succ k ih =>
    intro hk
    show readN (numStr n x) 0 k + byteAt (numStr n x) (0 + k) * 256 ^ k = _
    rw [ih (by omega), Nat.zero_add, byteAt_str _ _ _ (by omega), powN_succ]
    show x % powN k + x / powN k % 256 * powN k = x % (powN k * 256)
    rw [emod_step _ _ (powN_pos k)]

theorem numStr_size (n : Nat) (x : Int) : (numStr n x).size = n := digits_bytes_le x n
theorem readN_numStr {n : Nat} {x : Int} (h : fitsN n x = true) : readN (numStr n x) 0 n = x := by
  rw [readN_str _ _ _ (Nat.le_refl _)]
  simp [fitsN] at h
  exact Int.emod_eq_of_lt h.1 h.2

theorem next_back {n : Nat} {x : Int} (h : fitsN n x = true) (s : ByteArray) : nextAt (nextN n) (s ++ numStr n x) s.size = (x, (s.size : Int) + n, 0) := by
  have hr : readN (s ++ numStr n x) s.size n = x := by
    rw [readN_congr (s ++ numStr n x) (numStr n x) s.size 0 n (fun j _ => by rw [byteAt_append_right, Nat.zero_add]), readN_numStr h]
  have hz : (s ++ numStr n x).size = s.size + n := by rw [ByteArray.size_append, numStr_size]
  unfold nextAt
  rw [if_pos ⟨by omega, by rw [hz]; omega⟩]
  unfold nextN nrm3
  simp [hz, hr]

theorem halfN_bd {n : Nat} (h1 : 1 ≤ n) (h4 : n ≤ 4) : 128 ≤ halfN n ∧ halfN n ≤ 2147483648 ∧ powN n = 2 * halfN n := by
  rcases (by omega : n = 1 ∨ n = 2 ∨ n = 3 ∨ n = 4) with rfl | rfl | rfl | rfl <;> decide

theorem turn_fits {n : Nat} {x : Int} (h1 : 1 ≤ n) (h4 : n ≤ 4) (ha : -halfN n ≤ x) (hb : x < halfN n) : turnFrom (halfN n) x = x + halfN n ∧ fitsN n (x + halfN n) = true := by
  have h := halfN_bd h1 h4
  refine ⟨IntWalk.wrap64_in _ (by omega), ?_⟩
  simp [fitsN]
  omega
theorem turn_not {n : Nat} {x : Int} (h1 : 1 ≤ n) (h4 : n ≤ 4) (hx0 : -9223372036854775808 ≤ x) (hx1 : x ≤ 9223372036854775807) (h : ¬ (-halfN n ≤ x ∧ x < halfN n)) : fitsN n (turnFrom (halfN n) x) = false := by
  have hh := halfN_bd h1 h4
  unfold turnFrom fitsN
  rw [Bool.and_eq_false_iff]
  by_cases hw : x + halfN n ≤ 9223372036854775807
  · rw [IntWalk.wrap64_in _ (by omega)]
    simp
    omega
  · left
    unfold wrap64
    simp
    omega

theorem tput_fits {n : Nat} {x : Int} (h1 : 1 ≤ n) (h4 : n ≤ 4) (ha : -halfN n ≤ x) (hb : x < halfN n) : nrm2 (mPut (putN n) (turnTo (halfN n)) (turnFrom (halfN n)) x) = (numStr n (x + halfN n), 0) := by
  obtain ⟨e, hf⟩ := turn_fits h1 h4 ha hb
  unfold mPut
  rw [e, put_fits hf]
  simp [mapPut, nrm2, outS, turnTo]
theorem tput_not {n : Nat} {x : Int} (h1 : 1 ≤ n) (h4 : n ≤ 4) (hx0 : -9223372036854775808 ≤ x) (hx1 : x ≤ 9223372036854775807) (h : ¬ (-halfN n ≤ x ∧ x < halfN n)) : nrm2 (mPut (putN n) (turnTo (halfN n)) (turnFrom (halfN n)) x) = (⟨#[]⟩, 2) := by
  unfold mPut
  rw [put_not (turn_not h1 h4 hx0 hx1 h)]
  simp [mapPut, nrm2, outS]

/-- What Turn reads, by what Num reads. -/
theorem tnext_eq {n : Nat} (h1 : 1 ≤ n) (h4 : n ≤ 4) (s : ByteArray) (a : Int) {x m e : Int} (hr : nextAt (nextN n) s a = (x, m, e)) :
    nextAt (mNext (nextN n) (turnTo (halfN n))) s a = (if e = 0 then (x - halfN n, m, 0) else (0, m, e)) ∧ (e ≠ 0 → x = 0) ∧ 0 ≤ x ∧ x ≤ 4294967295 := by
  have hh := halfN_bd h1 h4
  have hp := powN_le4 h4
  by_cases ha : 0 ≤ a ∧ a ≤ s.size
  · have ea : ((a.toNat : Nat) : Int) = a := Int.toNat_of_nonneg ha.1
    have hb := readN_bd s a.toNat n
    unfold nextAt at hr ⊢
    rw [if_pos ha] at hr ⊢
    unfold mNext
    rw [show nextAt (nextN n) s (a.toNat : Nat) = nrm3 a (nextN n s a.toNat) by unfold nextAt; rw [ea, if_pos ha], hr]
    unfold nextN nrm3 at hr
    by_cases hs : s.size < a.toNat + n
    · simp [hs] at hr
      obtain ⟨rfl, rfl, rfl⟩ := hr
      simp [mapNext, nrm3, ea]
    · simp [hs] at hr
      obtain ⟨rfl, rfl, rfl⟩ := hr
      refine ⟨?_, by simp, by omega, by omega⟩
      simp [mapNext, nrm3, turnTo]
      exact IntWalk.wrap64_in _ (by omega)
  · unfold nextAt at hr ⊢
    rw [if_neg ha] at hr ⊢
    simp at hr
    obtain ⟨rfl, rfl, rfl⟩ := hr
    simp

theorem tget_back {n : Nat} {x : Int} (h1 : 1 ≤ n) (h4 : n ≤ 4) (ha : -halfN n ≤ x) (hb : x < halfN n) : getOf (mNext (nextN n) (turnTo (halfN n))) (numStr n (x + halfN n)) = (x, 0) := by
  obtain ⟨e, hf⟩ := turn_fits h1 h4 ha hb
  have hn : nextAt (nextN n) (numStr n (x + halfN n)) 0 = (x + halfN n, (n : Int), 0) := by
    have h := next_back hf ⟨#[]⟩
    have e0 : (⟨#[]⟩ : ByteArray) ++ numStr n (x + halfN n) = numStr n (x + halfN n) := by
      apply ByteArray.ext; rw [ByteArray.data_append]; simp
    have e1 : ((⟨#[]⟩ : ByteArray).size : Int) = 0 := rfl
    rw [e0, e1] at h
    simpa using h
  have ht := (tnext_eq h1 h4 _ _ hn).1
  unfold getOf
  rw [ht]
  simp [numStr_size]
end Go.Proofs.Ytplkodmmedhemaa
