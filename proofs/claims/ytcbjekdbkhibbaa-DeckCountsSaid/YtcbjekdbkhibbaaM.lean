/- Plain facts on numbers, bytes and lists that the proofs of layer 1 (octet) use: no program is named here. Conditions: those of each lemma. -/
import Derived.WalkKit
import Derived.WalkSpells
import Derived.Lib.Hide
namespace Go.Proofs.Ytcbjekdbkhibbaa
open Go.RowKit

def byteAt (s : ByteArray) (j : Nat) : Int := ((s.data[j]?.getD 0).toNat : Int)

/-- The number of the first k bytes at place a, the lowest first. -/
def readN (s : ByteArray) (a : Nat) : Nat → Int
  | 0 => 0
  | k + 1 => readN s a k + byteAt s (a + k) * 256 ^ k

/-- The k lowest bytes of a number, the lowest first. -/
def digits (x : Int) : Nat → List Int
  | 0 => []
  | k + 1 => digits x k ++ [x / 256 ^ k % 256]

def numStr (n : Nat) (x : Int) : ByteArray := strOfNums (digits x n)

def powN (n : Nat) : Int := 256 ^ n

def fitsN (n : Nat) (x : Int) : Bool := decide (0 ≤ x) && decide (x < powN n)

theorem byteAt_bd (s : ByteArray) (j : Nat) : 0 ≤ byteAt s j ∧ byteAt s j < 256 := by
  unfold byteAt
  have h := (s.data[j]?.getD 0).toNat_lt
  omega

theorem byteAt_get (s : ByteArray) (j : Nat) (h : j < s.size) : ((s[j]'h).toNat : Int) = byteAt s j := by
  unfold byteAt
  have : s.data[j]? = some (s[j]'h) := by
    rw [Array.getElem?_eq_getElem (by simpa using h)]; rfl
  rw [this]; rfl

theorem powN_pos (n : Nat) : 0 < powN n := Int.pow_pos (by decide)
theorem powN_succ (n : Nat) : powN (n + 1) = powN n * 256 := Int.pow_succ _ _
theorem powN_le4 {n : Nat} (h : n ≤ 4) : powN n ≤ 4294967296 := by
  rcases (by omega : n = 0 ∨ n = 1 ∨ n = 2 ∨ n = 3 ∨ n = 4) with rfl | rfl | rfl | rfl | rfl <;> decide
theorem two_pow8 (k : Nat) : (2 : Int) ^ (8 * k) = powN k := by
  unfold powN; rw [Int.pow_mul]; rfl

theorem readN_bd (s : ByteArray) (a k : Nat) : 0 ≤ readN s a k ∧ readN s a k < powN k := by
  induction k with
  | zero => simp [readN, powN]
  | succ k ih =>
    have hb := byteAt_bd s (a + k)
    have hp := powN_pos k
    rw [powN_succ]
    show 0 ≤ readN s a k + byteAt s (a + k) * powN k ∧ _
    have h1 : 0 ≤ byteAt s (a + k) * powN k := Int.mul_nonneg hb.1 (by omega)
    have h2 : byteAt s (a + k) * powN k ≤ 255 * powN k := Int.mul_le_mul_of_nonneg_right (by omega) (by omega)
    constructor
    · omega
    · show readN s a k + byteAt s (a + k) * powN k < _
      omega

theorem bits_or_i64_nat (a b : Nat) (ha : a < 9223372036854775808) (hb : b < 9223372036854775808) : bits .or .i64 (a : Int) (b : Int) = ((a ||| b : Nat) : Int) := by
  have hx : a ||| b < 2 ^ 63 := Nat.or_lt_two_pow (by omega) (by omega)
  have h1 : (BitVec.ofInt 64 (a : Int)).toNat = a := by
    rw [BitVec.ofInt_natCast, BitVec.toNat_ofNat]; exact Nat.mod_eq_of_lt (by omega)
  have h2 : (BitVec.ofInt 64 (b : Int)).toNat = b := by
    rw [BitVec.ofInt_natCast, BitVec.toNat_ofNat]; exact Nat.mod_eq_of_lt (by omega)
  show IntKind.i64.wrap ((BitVec.ofInt 64 (a : Int) ||| BitVec.ofInt 64 (b : Int)).toNat : Int) = _
  rw [BitVec.toNat_or, h1, h2, IntKind.wrap_i64]
  omega

theorem or_join (x b : Int) (k : Nat) (hk : k < 4) (hx0 : 0 ≤ x) (hx : x < powN k) (hb0 : 0 ≤ b) (hb : b < 256) : bits .or .i64 x (b * powN k) = x + b * powN k := by
  obtain ⟨m, rfl⟩ := Int.eq_ofNat_of_zero_le hx0
  obtain ⟨c, rfl⟩ := Int.eq_ofNat_of_zero_le hb0
  have hp : powN k = ((2 ^ (8 * k) : Nat) : Int) := by rw [← two_pow8]; simp
  rw [hp] at hx ⊢
  have hm : m < 2 ^ (8 * k) := by exact_mod_cast hx
  have hc : c < 256 := by omega
  have hle : 2 ^ (8 * k) ≤ 16777216 := by
    rcases (by omega : k = 0 ∨ k = 1 ∨ k = 2 ∨ k = 3) with rfl | rfl | rfl | rfl <;> decide
  have hcp : c * 2 ^ (8 * k) ≤ 255 * 16777216 := Nat.mul_le_mul (by omega) hle
  have e : (c : Int) * ((2 ^ (8 * k) : Nat) : Int) = ((c * 2 ^ (8 * k) : Nat) : Int) := by simp
  rw [e, bits_or_i64_nat _ _ (by omega) (by omega)]
  have : m ||| c * 2 ^ (8 * k) = m + c * 2 ^ (8 * k) := by
    rw [Nat.or_comm, Nat.mul_comm, ← Nat.two_pow_add_eq_or_of_lt hm]; omega
  rw [this]; simp

theorem or_walk (s : ByteArray) (a k : Nat) (hk : k < 4) (h : a + k < s.size) :
    bits .or .i64 (readN s a k) (wrap64 (wrap64 ((s[a + k]'h).toNat : Int) * 2 ^ (8 * k))) = readN s a (k + 1) := by
  have hb := byteAt_bd s (a + k)
  have hr := readN_bd s a k
  have hp : powN k ≤ 16777216 := by
    rcases (by omega : k = 0 ∨ k = 1 ∨ k = 2 ∨ k = 3) with rfl | rfl | rfl | rfl <;> decide
  have h1 : 0 ≤ byteAt s (a + k) * powN k := Int.mul_nonneg hb.1 (by have := powN_pos k; omega)
  have h2 : byteAt s (a + k) * powN k ≤ 255 * 16777216 := Int.mul_le_mul (by omega) hp (by have := powN_pos k; omega) (by omega)
  rw [byteAt_get s _ h, IntWalk.wrap64_in (byteAt s (a + k)) (by omega), two_pow8, IntWalk.wrap64_in _ (by omega), or_join _ _ _ hk hr.1 hr.2 hb.1 hb.2]
  rfl

theorem digits_length (x : Int) (n : Nat) : (digits x n).length = n := by
  induction n with
  | zero => rfl
  | succ n ih => simp [digits, ih]

theorem digits_get (x : Int) (n j : Nat) (h : j < n) : (digits x n).getD j 0 = x / 256 ^ j % 256 := by
  induction n with
  | zero => omega
  | succ n ih =>
    by_cases e : j = n
    · subst e
      simp [digits, List.getD, digits_length]
    · have : j < n := by omega
      have hl : j < (digits x n).length := by rw [digits_length]; exact this
      have := ih this
      simp only [digits, List.getD, List.getElem?_append_left hl] at this ⊢
      exact this

/-- A row of n bytes of which the k lowest are written. -/
def bufv (x : Int) (n k : Nat) : Array Value := ((List.range n).map fun j => Value.int .u8 (if j < k then x / 256 ^ j % 256 else 0)).toArray

theorem bufv_size (x : Int) (n k : Nat) : (bufv x n k).size = n := by simp [bufv]
theorem bufv_get (x : Int) (n k j : Nat) (h : j < n) : (bufv x n k)[j]? = some (.int .u8 (if j < k then x / 256 ^ j % 256 else 0)) := by
  simp [bufv, h]
theorem bufv_zero (x : Int) (n : Nat) : madeCells #[.int .u8 0] n = bufv x n 0 := by
  apply Array.toList_inj.1
  rw [toList_madeCells_one]
  apply List.ext_getElem?
  intro j
  by_cases h : j < n <;> simp [bufv, h]
theorem bufv_set (x : Int) (n k : Nat) (h : k < n) : (bufv x n k).setIfInBounds k (.int .u8 (x / 256 ^ k % 256)) = bufv x n (k + 1) := by
  apply Array.ext_getElem?
  intro j
  by_cases hj : j < n
  · rw [bufv_get _ _ _ _ hj, Array.getElem?_setIfInBounds]
    by_cases e : k = j
    · subst e; simp [bufv_size, h]
    · rw [if_neg e, bufv_get _ _ _ _ hj]
      have : (j < k + 1) ↔ (j < k) := by omega
      simp [this]
  · rw [Array.getElem?_eq_none (by simp [bufv_size]; omega), Array.getElem?_eq_none (by simp [bufv_size]; omega)]

end Go.Proofs.Ytcbjekdbkhibbaa
