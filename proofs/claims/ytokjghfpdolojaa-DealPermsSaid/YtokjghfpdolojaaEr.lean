/- Plain facts (layer 4): all orders of up to five places, one behind the other, each by the step that next takes; checked by the kernel. -/
import Derived.Test.YtokjghfpdolojaaEp
namespace Go.Proofs.Ytokjghfpdolojaa
open Go.RowKit

theorem sort_is {l R : List Int} (hp : R.Perm l) (hs : R.Pairwise (· ≤ ·)) : sortI l = R := by
  unfold sortI
  have h1 : (l.mergeSort fun x y => decide (x ≤ y)).Perm R := (List.mergeSort_perm l _).trans hp.symm
  have h2 : (l.mergeSort fun x y => decide (x ≤ y)).Pairwise (· ≤ ·) := by
    have := List.pairwise_mergeSort (le := fun x y : Int => decide (x ≤ y)) (fun a b c h1 h2 => by simp at *; omega) (fun a b => by simp; omega) l
    exact this.imp (fun h => by simpa using h)
  exact h1.eq_of_pairwise (fun a b _ _ h1 h2 => Int.le_antisymm h1 h2) h2 hs
def insI (x : Int) : List Int → List Int
  | [] => [x]
  | y :: r => if x ≤ y then x :: y :: r else y :: insI x r
def insSort : List Int → List Int
  | [] => []
  | x :: r => insI x (insSort r)
/-- All orders of a list of unlike numbers, by which is the first one, then the second one. -/
def ordersF : Nat → List Int → List (List Int)
  | 0, _ => [[]]
  | f + 1, l => if l.isEmpty then [[]] else l.flatMap fun x => (ordersF f (l.erase x)).map (x :: ·)
def ordersL (n : Nat) : List (List Int) := ordersF n (placesL n)
def fallsB (p : List Int) (k : Nat) : Bool := (List.range p.length).all fun j => !(decide (j + 1 < p.length) && decide (k ≤ j)) || decide (p.getD (j + 1) 0 < p.getD j 0)
def keepN (p : List Int) : Nat → Nat
  | 0 => 0
  | c + 1 => if p.getD (c + 1) 0 < p.getD c 0 then keepN p c else c
def stepB1 (p q : List Int) : Bool :=
  let k := keepN p (p.length - 1)
  let R := insSort (p.drop k)
  let i := R.idxOf (p.getD k 0)
  decide (k + 1 < p.length) && (decide (p.getD k 0 < p.getD (k + 1) 0) && (fallsB p (k + 1) && (R.isPerm (p.drop k) && (decide (R.Pairwise (· ≤ ·)) && (decide (i + 1 < R.length) && (decide (R.getD i 0 = p.getD k 0) && ((List.range i).all (fun j => decide (R.getD j 0 ≠ p.getD k 0)) && decide (nextL p R k i = q))))))))
def chainB : List (List Int) → Bool
  | [] => false
  | [p] => fallsB p 0
  | p :: q :: r => stepB1 p q && chainB (q :: r)
def factN : Nat → Nat
  | 0 => 1
  | n + 1 => factN n * (n + 1)
theorem orders_chain : ∀ n, n < 6 → chainB (ordersL n) = true := by decide +kernel
theorem orders_many : ∀ n, n < 6 → (ordersL n).length = factN n := by decide +kernel
theorem orders_len : ∀ n, n < 6 → (ordersL n).all (fun p => decide (p.length = n) && ((List.range n).all fun x => decide (p.count (x : Int) = 1))) = true := by decide +kernel
def lessChain : List (List Int) → Bool
  | p :: q :: r => lessB p q && lessChain (q :: r)
  | _ => true
theorem orders_less : ∀ n, n < 6 → lessChain (ordersL n) = true := by decide +kernel
theorem falls_of {p : List Int} {k : Nat} (h : fallsB p k = true) : Falls p k := fun j hj hk => by
  unfold fallsB at h
  rw [List.all_eq_true] at h
  have := h j (List.mem_range.2 (by omega))
  simpa [List.getD, hj, hk, show j < p.length by omega] using this
theorem step_any {v : Value} {p q : List Int} {w : World} (hv : RoomAt w v p) (hp : p.length ≤ 500) (h : stepB1 p q = true) : Calls Try.prog 26 #[v] w (NextTo w q) := by
  unfold stepB1 at h
  simp only [Bool.and_eq_true, decide_eq_true_eq] at h
  obtain ⟨h1, h2, h3, h4, h5, h6, h7, h8, h9⟩ := h
  rw [← h9]
  refine next_some hv hp h1 ?_ (falls_of h3) (sort_is (List.isPerm_iff.1 h4) h5) h6 ?_ ?_
  · simpa [List.getD, h1, show keepN p (p.length - 1) < p.length by omega] using h2
  · rw [h7]; simp [List.getD, show keepN p (p.length - 1) < p.length by omega]
  · intro j hj
    rw [List.all_eq_true] at h8
    have := h8 j (List.mem_range.2 hj)
    simpa [List.getD, show keepN p (p.length - 1) < p.length by omega] using this
end Go.Proofs.Ytokjghfpdolojaa
