/- Plain facts (layer 4) that the law of all orders rests on: each order stands ahead of the next one, tells each place once; each choice of draws shuffles to a code of its own. Checked by the kernel. -/
import Derived.Test.YtokjghfpdolojaaEt
namespace Go.Proofs.Ytokjghfpdolojaa
open Go.RowKit

theorem orders_at : ∀ n, n < 6 → (ordersL n).map (atL (placesL n)) = ordersL n := by decide +kernel
theorem orders_lessB : ∀ n, n < 6 → ((List.range (factN n - 1)).all fun k => lessB ((ordersL n).getD k []) ((ordersL n).getD (k + 1) [])) = true := by decide +kernel
theorem orders_one : ∀ n, n < 6 → ((ordersL n).all fun p => (placesL n).all fun x => p.count x == 1) = true := by decide +kernel
theorem order_less {n k : Nat} (hn : n < 6) (hk : k + 1 < (ordersL n).length) : lessB ((ordersL n).getD k []) ((ordersL n).getD (k + 1) []) = true :=
  List.all_eq_true.1 (orders_lessB n hn) k (List.mem_range.2 (by rw [orders_many n hn] at hk; omega))
theorem order_one {n : Nat} (hn : n < 6) {p : List Int} (hp : p ∈ ordersL n) {x : Int} (hx : x ∈ placesL n) : p.count x = 1 := by
  have h := List.all_eq_true.1 (List.all_eq_true.1 (orders_one n hn) p hp) x hx
  simpa using h
/-- The draws of the law's round c, from i places on. -/
def drawsC : Nat → Nat → List Int
  | 0, _ => []
  | 1, _ => []
  | i + 2, c => ((c % (i + 2) : Nat) : Int) :: drawsC (i + 1) (c / (i + 2))
def codeL (l : List Int) : Int := l.foldl (fun c x => 10 * c + x) 0
def codeAt (n c : Nat) : Int := codeL (shufL (n - 1) (placesL n) (drawsC n c))
def codesL (n : Nat) : List Int := (List.range (factN n)).map (codeAt n)
theorem codes_apart : ∀ n, n < 6 → (codesL n).Nodup := by decide +kernel
theorem codes_small : ∀ n, n < 6 → ((codesL n).all fun x => decide (0 ≤ x) && decide (x < 100000)) = true := by decide +kernel
theorem code_new {n c : Nat} (hn : n < 6) (hc : c < factN n) : codeAt n c ∉ (List.range c).map (codeAt n) := by
  have h := codes_apart n hn
  have e : codesL n = (List.range c).map (codeAt n) ++ ((List.range (factN n - c)).map fun i => codeAt n (c + i)) := by
    unfold codesL
    rw [show factN n = c + (factN n - c) by omega, List.range_add, List.map_append, List.map_map]
    simp
  rw [e, List.nodup_append] at h
  intro hm
  exact h.2.2 _ hm _ (List.mem_map.2 ⟨0, List.mem_range.2 (by omega), by simp⟩) rfl
end Go.Proofs.Ytokjghfpdolojaa
