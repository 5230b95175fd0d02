/- Plain facts on the bytes of a list of small numbers, whole, cut and with more behind, for the law OctetCuts. -/
import Derived.Test.YtplkodmmedhemaaW
namespace Go.Proofs.Ytplkodmmedhemaa
open Go.RowKit

def BA (l : List UInt8) : ByteArray := ⟨l.toArray⟩
theorem BA_size (l : List UInt8) : (BA l).size = l.length := by simp [BA, ByteArray.size]
theorem BA_of (s : ByteArray) : BA s.data.toList = s := by apply ByteArray.ext; simp [BA]
theorem BA_append (l m : List UInt8) : BA l ++ BA m = BA (l ++ m) := by apply ByteArray.ext; simp [BA]
theorem BA_take (l : List UInt8) (k : Nat) : (BA l).extract 0 k = BA (l.take k) := by
  apply ByteArray.ext
  apply Array.toList_inj.1
  simp [BA]

theorem byteAt_BA (l : List UInt8) (j : Nat) : byteAt (BA l) j = ((l[j]?.getD 0).toNat : Int) := by simp [byteAt, BA]

/-- The bytes of numbers, one behind the other. -/
def body (h : Nat) : List Int → List UInt8
  | [] => []
  | x :: r => (numStr h x).data.toList ++ body h r
theorem str_len (h : Nat) (x : Int) : (numStr h x).data.toList.length = h := by rw [Array.length_toList]; exact numStr_size h x
theorem body_length (h : Nat) (l : List Int) : (body h l).length = h * l.length := by
  induction l with
  | nil => simp [body]
  | cons x r ih => rw [body, List.length_append, str_len, ih, List.length_cons, Nat.mul_succ]; omega

theorem lputFrom_body (h : Nat) (l : List Int) (hf : ∀ x ∈ l, fitsN h x = true) : ∀ acc, lputFrom (putN h) acc l = (BA (acc ++ body h l), 0) := by
  induction l with
  | nil => intro acc; simp [lputFrom, body, BA]
  | cons x r ih =>
    intro acc
    rw [lputFrom, put_fits (hf x (by simp)), if_pos rfl, ih (fun y hy => hf y (by simp [hy])), body, List.append_assoc]

theorem next_mid {h : Nat} {x : Int} (hf : fitsN h x = true) (p r : List UInt8) : nextAt (nextN h) (BA (p ++ ((numStr h x).data.toList ++ r))) p.length = (x, (p.length : Int) + h, 0) := by
  have hz : (BA (p ++ ((numStr h x).data.toList ++ r))).size = p.length + h + r.length := by
    rw [BA_size, List.length_append, List.length_append, str_len]; omega
  have hr : readN (BA (p ++ ((numStr h x).data.toList ++ r))) p.length h = x := by
    rw [readN_congr _ (numStr h x) p.length 0 h (fun j hj => ?_), readN_numStr hf]
    rw [Nat.zero_add, byteAt_BA, List.getElem?_append_right (by omega), Nat.add_sub_cancel_left, List.getElem?_append_left (by rw [str_len]; exact hj)]
    rw [← BA_of (numStr h x), byteAt_BA, BA_of]
  unfold nextAt
  rw [if_pos ⟨by omega, by rw [hz]; omega⟩]
  unfold nextN nrm3
  simp [hz, hr, Nat.not_lt.2 (Nat.le_add_right (p.length + h) r.length)]

theorem next_short {h : Nat} (T : List UInt8) (a : Nat) (ha : a ≤ T.length) (hs : T.length < a + h) : nextAt (nextN h) (BA T) a = (0, (a : Int), 3) := by
  unfold nextAt
  rw [if_pos ⟨by omega, by rw [BA_size]; omega⟩]
  unfold nextN nrm3
  simp [BA_size, hs]

theorem lnextFrom_all {h : Nat} (l : List Int) (hf : ∀ x ∈ l, fitsN h x = true) (r : List UInt8) : ∀ p acc, lnextFrom (nextN h) (BA (p ++ (body h l ++ r))) l.length p.length acc = (acc ++ l, (p.length : Int) + h * l.length, 0) := by
  induction l with
  | nil => intro p acc; simp [lnextFrom]
  | cons x t ih =>
    intro p acc
    have e : p ++ (body h (x :: t) ++ r) = p ++ ((numStr h x).data.toList ++ (body h t ++ r)) := by simp [body]
    have e2 : p ++ ((numStr h x).data.toList ++ (body h t ++ r)) = (p ++ (numStr h x).data.toList) ++ (body h t ++ r) := by simp
    have hl : ((p ++ (numStr h x).data.toList).length : Int) = (p.length : Int) + h := by rw [List.length_append, str_len]; simp
    rw [List.length_cons, lnextFrom, e, next_mid (hf x (by simp)), if_pos rfl, e2, ← hl, ih (fun y hy => hf y (by simp [hy]))]
    rw [hl]
    simp only [List.append_assoc, List.singleton_append, Prod.mk.injEq, true_and, and_true]
    rw [Int.natCast_add, Int.mul_add]; simp; omega

theorem lnextFrom_cut {h : Nat} (l : List Int) (hf : ∀ x ∈ l, fitsN h x = true) : ∀ m p acc, m < h * l.length → (lnextFrom (nextN h) (BA (p ++ (body h l).take m)) l.length p.length acc).1 = [] ∧ (lnextFrom (nextN h) (BA (p ++ (body h l).take m)) l.length p.length acc).2.2 = 3 := by
  induction l with
  | nil => intro m p acc hm; simp at hm
  | cons x t ih =>
    intro m p acc hm
    rw [List.length_cons, lnextFrom]
    by_cases hs : m < h
    · rw [next_short _ _ (by simp) (by rw [List.length_append, List.length_take]; omega)]
      simp
    · have e : p ++ (body h (x :: t)).take m = p ++ ((numStr h x).data.toList ++ (body h t).take (m - h)) := by
        rw [body, List.take_append, str_len, List.take_of_length_le (by rw [str_len]; omega)]
      have e2 : p ++ ((numStr h x).data.toList ++ (body h t).take (m - h)) = (p ++ (numStr h x).data.toList) ++ (body h t).take (m - h) := by simp
      have hl : ((p ++ (numStr h x).data.toList).length : Int) = (p.length : Int) + h := by rw [List.length_append, str_len]; simp
      rw [e, next_mid (hf x (by simp)), if_pos rfl, e2, ← hl]
      refine ih (fun y hy => hf y (by simp [hy])) _ _ _ ?_
      rw [List.length_cons, Nat.mul_succ] at hm
      omega

/-- The bytes of a list. -/
def listStr (h : Nat) (l : List Int) : ByteArray := BA (UInt8.ofNat l.length :: body h l)
theorem lput_list {h most : Nat} {l : List Int} (hl : l.length ≤ most) (hf : ∀ x ∈ l, fitsN h x = true) : nrm2 (lput (putN h) most l) = (listStr h l, 0) := by
  unfold lput
  rw [if_neg (by omega), lputFrom_body h l hf]
  simp [nrm2, outS, listStr]

theorem count_of (n : Nat) (hn : n ≤ 60) (r : List UInt8) : nextAt (nextN 1) (BA (UInt8.ofNat n :: r)) 0 = ((n : Int), 1, 0) := by
  have hf : fitsN 1 (n : Int) = true := by
    have h1 : (n : Int) < 256 := by omega
    simp [fitsN, powN, h1]
  have h := next_mid hf [] r
  have e : (numStr 1 (n : Int)).data.toList = [UInt8.ofNat n] := by
    have : ((n : Int) % 256).toNat = n := by omega
    simp [numStr, strOfNums, digits, this]
  rw [e] at h
  simpa using h

theorem lnext_list {h most : Nat} {l : List Int} (hl : l.length ≤ 60) (hm : l.length ≤ most) (hf : ∀ x ∈ l, fitsN h x = true) (r : List UInt8) :
    lnext (nextN h) most (BA (UInt8.ofNat l.length :: (body h l ++ r))) 0 = (l, ((listStr h l).size : Int), 0) := by
  unfold lnext
  rw [count_of _ hl]
  have h1 := lnextFrom_all l hf r [UInt8.ofNat l.length] []
  have hz : ((listStr h l).size : Int) = 1 + h * l.length := by rw [listStr, BA_size, List.length_cons, body_length]; simp; omega
  simp only [List.singleton_append, List.length_singleton, List.nil_append] at h1
  rw [hz]
  simp
  rw [if_neg (by omega)]
  simpa using h1

theorem lnext_cut {h most : Nat} {l : List Int} (hl : l.length ≤ 60) (hm : l.length ≤ most) (hf : ∀ x ∈ l, fitsN h x = true) (k : Nat) (hk : k < (listStr h l).size) :
    (lnext (nextN h) most ((listStr h l).extract 0 k) 0).1 = [] ∧ (lnext (nextN h) most ((listStr h l).extract 0 k) 0).2.2 = 3 := by
  rw [listStr, BA_size, List.length_cons, body_length] at hk
  rw [listStr, BA_take]
  cases k with
  | zero =>
    have h0 := next_short (h := 1) [] 0 (by simp) (by simp)
    unfold lnext
    simp only [List.take_zero]
    rw [show ((0 : Nat) : Int) = 0 from rfl] at h0
    simp [h0]
  | succ k =>
    rw [List.take_succ_cons]
    unfold lnext
    rw [count_of _ hl]
    have h1 := lnextFrom_cut l hf k [UInt8.ofNat l.length] [] (by omega)
    simp only [List.singleton_append, List.length_singleton] at h1
    simp
    rw [if_neg (by omega)]
    simpa using h1
end Go.Proofs.Ytplkodmmedhemaa
