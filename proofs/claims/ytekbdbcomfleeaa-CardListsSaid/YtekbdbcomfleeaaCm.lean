/- Plain words on bytes: what numbers in a byte each are, and what is read at a place (layers 1 and 2). -/
import Derived.Test.YtekbdbcomfleeaaTf
import Derived.Test.YtekbdbcomfleeaaNb
namespace Go.Proofs.Ytekbdbcomfleeaa
open Go.RowKit Go.Lib

def bytesOf (l : List Int) : List UInt8 := l.flatMap fun x => (numStr 1 x).data.toList
def putB (l : List Int) : ByteArray × Int := if l.all (fitsN 1) then (⟨(bytesOf l).toArray⟩, 0) else (⟨#[]⟩, 2)
theorem num1_len (x : Int) : (numStr 1 x).data.toList.length = 1 := by
  have h : (numStr 1 x).size = 1 := by unfold numStr; rw [strOfNums_size, digits_length]
  rw [Array.length_toList]; exact h
theorem bytesOf_nil : bytesOf [] = [] := rfl
theorem bytesOf_cons (x : Int) (l : List Int) : bytesOf (x :: l) = (numStr 1 x).data.toList ++ bytesOf l := by simp [bytesOf]
theorem bytesOf_append (l r : List Int) : bytesOf (l ++ r) = bytesOf l ++ bytesOf r := by simp [bytesOf]
theorem bytesOf_len (l : List Int) : (bytesOf l).length = l.length := by
  induction l with
  | nil => rfl
  | cons x l ih => rw [bytesOf_cons, List.length_append, num1_len, ih, List.length_cons]; omega

theorem put1_yes (x : Int) (h : fitsN 1 x = true) : nrm2 (putN 1 x) = (numStr 1 x, 0) := by simp [nrm2, outS, putN, h]
theorem put1_no (x : Int) (h : fitsN 1 x = false) : nrm2 (putN 1 x) = (⟨#[]⟩, 2) := by simp [nrm2, outS, putN, h]
theorem put1_size (x : Int) : (nrm2 (putN 1 x)).1.size ≤ 1 := by
  cases h : fitsN 1 x
  · rw [put1_no x h]; exact Nat.zero_le _
  · rw [put1_yes x h]; show (numStr 1 x).data.size ≤ 1; rw [← Array.length_toList, num1_len]; omega
theorem lputFrom_fits : ∀ (l : List Int) (acc : List UInt8), l.all (fitsN 1) = true → lputFrom (putN 1) acc l = (⟨(acc ++ bytesOf l).toArray⟩, 0)
  | [], acc, _ => by simp [lputFrom, bytesOf_nil]
  | x :: l, acc, h => by
    rw [List.all_cons, Bool.and_eq_true] at h
    simp only [lputFrom]
    rw [put1_yes x h.1]
    simp only [if_true]
    rw [lputFrom_fits l _ h.2, bytesOf_cons, List.append_assoc]
theorem lputFrom_not : ∀ (l : List Int) (acc : List UInt8), l.all (fitsN 1) = false → lputFrom (putN 1) acc l = (⟨#[]⟩, 2)
  | [], _, h => by simp at h
  | x :: l, acc, h => by
    simp only [lputFrom]
    cases hx : fitsN 1 x
    · rw [put1_no x hx]; simp
    · rw [put1_yes x hx]
      simp only [if_true]
      exact lputFrom_not l _ (by simpa [hx] using h)
theorem lputFrom_bytes (l : List Int) : lputFrom (putN 1) [] l = putB l := by
  unfold putB
  cases h : l.all (fitsN 1)
  · rw [lputFrom_not l [] h]; rfl
  · rw [lputFrom_fits l [] h]; rfl
theorem nrm2_putB (l : List Int) : nrm2 (putB l) = putB l := by
  unfold putB
  cases l.all (fitsN 1) <;> simp [nrm2, outS]

def termL (t : TermL) : List Int := [t.op, t.n, t.on]
def tput (t : TermL) : ByteArray × Int := putB (termL t)
def headL (c : CardL) : List Int := [c.kind, c.cost, c.power, c.tough, c.keys, c.whn]
def termsB3 (l : List TermL) : List UInt8 := l.flatMap fun t => bytesOf (termL t)
def tfit (t : TermL) : Bool := (termL t).all (fitsN 1)
theorem termsB3_nil : termsB3 [] = [] := rfl
theorem termsB3_cons (t : TermL) (l : List TermL) : termsB3 (t :: l) = bytesOf (termL t) ++ termsB3 l := by simp [termsB3]
theorem termsB3_append (l r : List TermL) : termsB3 (l ++ r) = termsB3 l ++ termsB3 r := by simp [termsB3]
theorem termsB3_len (l : List TermL) : (termsB3 l).length = 3 * l.length := by
  induction l with
  | nil => rfl
  | cons t l ih => rw [termsB3_cons, List.length_append, bytesOf_len, ih, List.length_cons]; simp [termL]; omega

/-- What is written of a list's items, behind what is there; or the first error. -/
def aputFrom {α : Type} (g : α → ByteArray × Int) : List UInt8 → List α → ByteArray × Int
  | acc, [] => (⟨acc.toArray⟩, 0)
  | acc, x :: r => if (nrm2 (g x)).2 = 0 then aputFrom g (acc ++ (nrm2 (g x)).1.data.toList) r else (⟨#[]⟩, (nrm2 (g x)).2)
def aput {α : Type} (g : α → ByteArray × Int) (most : Nat) (l : List α) : ByteArray × Int :=
  if most < l.length then (⟨#[]⟩, 5) else aputFrom g [UInt8.ofNat l.length] l
/-- The bytes of a list of terms, or why there are none. -/
def tlput (l : List TermL) : ByteArray × Int := if 4 < l.length then (⟨#[]⟩, 5) else if l.all tfit then (⟨(UInt8.ofNat l.length :: termsB3 l).toArray⟩, 0) else (⟨#[]⟩, 2)
theorem tput_yes (t : TermL) (h : tfit t = true) : nrm2 (tput t) = (⟨(bytesOf (termL t)).toArray⟩, 0) := by
  unfold tput; rw [nrm2_putB]; exact if_pos h
theorem tput_no (t : TermL) (h : tfit t = false) : nrm2 (tput t) = (⟨#[]⟩, 2) := by
  unfold tput; rw [nrm2_putB, putB, if_neg (by rw [show (termL t).all (fitsN 1) = false from h]; decide)]
theorem aput_fits : ∀ (l : List TermL) (acc : List UInt8), l.all tfit = true → aputFrom tput acc l = (⟨(acc ++ termsB3 l).toArray⟩, 0)
  | [], acc, _ => by simp [aputFrom, termsB3_nil]
  | t :: l, acc, h => by
    rw [List.all_cons, Bool.and_eq_true] at h
    simp only [aputFrom]
    rw [tput_yes t h.1]
    simp only [if_true]
    rw [aput_fits l _ h.2, termsB3_cons, List.append_assoc]
theorem aput_not : ∀ (l : List TermL) (acc : List UInt8), l.all tfit = false → aputFrom tput acc l = (⟨#[]⟩, 2)
  | [], _, h => by simp at h
  | t :: l, acc, h => by
    simp only [aputFrom]
    cases hx : tfit t
    · rw [tput_no t hx]; simp
    · rw [tput_yes t hx]
      simp only [if_true]
      exact aput_not l _ (by simpa [hx] using h)
theorem aput_terms (l : List TermL) : aput tput 4 l = tlput l := by
  unfold aput tlput
  by_cases h4 : 4 < l.length
  · rw [if_pos h4, if_pos h4]
  · rw [if_neg h4, if_neg h4]
    cases h : l.all tfit
    · rw [aput_not l _ h]; rfl
    · rw [aput_fits l _ h]; rfl
theorem nrm2_tlput (l : List TermL) : nrm2 (tlput l) = tlput l := by
  unfold tlput
  by_cases h4 : 4 < l.length
  · rw [if_pos h4]; rfl
  · rw [if_neg h4]; cases l.all tfit <;> simp [nrm2, outS]
theorem tput_size (t : TermL) : (nrm2 (tput t)).1.size ≤ 3 := by
  cases h : tfit t
  · rw [tput_no t h]; exact Nat.zero_le _
  · rw [tput_yes t h]; show (bytesOf (termL t)).toArray.size ≤ 3; rw [List.size_toArray, bytesOf_len]; exact Nat.le_refl _

/-- The bytes of a card, or why there are none. -/
def cardBytes (c : CardL) : List UInt8 := bytesOf (headL c) ++ (UInt8.ofNat c.terms.length :: termsB3 c.terms)
def hfit (c : CardL) : Bool := (headL c).all (fitsN 1)
def cput (c : CardL) : ByteArray × Int := if hfit c then (if 4 < c.terms.length then (⟨#[]⟩, 5) else if c.terms.all tfit then (⟨(cardBytes c).toArray⟩, 0) else (⟨#[]⟩, 2)) else (⟨#[]⟩, 2)
theorem nrm2_cput (c : CardL) : nrm2 (cput c) = cput c := by
  unfold cput
  cases hfit c
  · rfl
  · by_cases h4 : 4 < c.terms.length
    · rw [if_pos rfl, if_pos h4]; rfl
    · rw [if_pos rfl, if_neg h4]; cases c.terms.all tfit <;> simp [nrm2, outS]
end Go.Proofs.Ytekbdbcomfleeaa
