/- The contract of nextList (layer 1, octet): what any bytes are as a list, told by its Lean function lnext. -/
import Derived.Test.YtekbdbcomfleeaaI
import Derived.Test.YtekbdbcomfleeaaK
namespace Go.Proofs.Ytekbdbcomfleeaa
open Go.RowKit

def lnextFrom (h : ByteArray → Nat → Int × Int × Int) (s : ByteArray) : Nat → Int → List Int → List Int × Int × Int
  | 0, a, acc => (acc, a, 0)
  | n + 1, a, acc => if (nextAt h s a).2.2 = 0 then lnextFrom h s n (nextAt h s a).2.1 (acc ++ [(nextAt h s a).1]) else ([], (nextAt h s a).2.1, (nextAt h s a).2.2)
def lnext (h : ByteArray → Nat → Int × Int × Int) (most : Nat) (s : ByteArray) (a : Int) : List Int × Int × Int :=
  if (nextAt (nextN 1) s a).2.2 = 0 then
    (if (most : Int) < (nextAt (nextN 1) s a).1 then ([], (nextAt (nextN 1) s a).2.1, 4) else lnextFrom h s (nextAt (nextN 1) s a).1.toNat (nextAt (nextN 1) s a).2.1 [])
  else ([], (nextAt (nextN 1) s a).2.1, (nextAt (nextN 1) s a).2.2)

theorem info3 : (Try.prog.info? 3).map (fun i => (i.zero, i.size, i.bytes)) = some (some (.int .i64 0), 1, 8) := by kernel_rfl
theorem next1_bd (s : ByteArray) (a : Int) : 0 ≤ (nextAt (nextN 1) s a).1 ∧ (nextAt (nextN 1) s a).1 ≤ 255 := by
  unfold nextAt
  split
  · unfold nrm3
    split
    · unfold nextN
      split
      · simp
      · have := readN_bd s a.toNat 1
        simp only [powN] at this
        omega
    · simp
  · simp

/-- A row of the call's own, of which the first numbers are written. -/
def RowHas (w : World) (b n : Nat) (acc : List Int) : Prop :=
  ∃ C : Array Value, w.heap[b]? = some (.cells C 3 (0, 0)) ∧ C.size = n ∧ ∀ j, j < acc.length → C[j]? = some (.int .i64 (acc.getD j 0))
theorem RowHas.later {w w' : World} {b n : Nat} {acc : List Int} (h : RowHas w b n acc) (hb : Below w.heap.size w w') : RowHas w' b n acc := by
  obtain ⟨C, hC, hs, hc⟩ := h
  have hlt : b < w.heap.size := by
    rcases Nat.lt_or_ge b w.heap.size with h' | h'
    · exact h'
    · simp [Array.getElem?_eq_none h'] at hC
  exact ⟨C, by rw [hb.block b hlt]; exact hC, hs, hc⟩
theorem RowHas.cell {w : World} {b n : Nat} {acc : List Int} (h : RowHas w b n acc) (k : Nat) (hk : k < n) : ∃ v, w.cell? ⟨b, k, none⟩ = some v := by
  obtain ⟨C, hC, hs, _⟩ := h
  exact ⟨C[k]'(by omega), by simp [World.cell?, hC, hs, hk]⟩
theorem RowHas.frozen {w : World} {b n : Nat} {acc : List Int} (h : RowHas w b n acc) (k : Nat) : w.frozen? ⟨b, k, none⟩ = false := by
  obtain ⟨C, hC, hs, _⟩ := h
  simp [World.frozen?, hC]
theorem RowHas.put {w : World} {b n : Nat} {acc : List Int} (h : RowHas w b n acc) (x : Int) (hk : acc.length < n) : RowHas (w.setCell ⟨b, acc.length, none⟩ (.int .i64 x)) b n (acc ++ [x]) := by
  obtain ⟨C, hC, hs, hc⟩ := h
  refine ⟨C.setIfInBounds acc.length (.int .i64 x), ?_, by simpa using hs, fun j hj => ?_⟩
  · simp [World.setCell, Array.getElem?_modify, hC]
  · rw [List.length_append] at hj
    simp only [List.length_singleton] at hj
    rw [Array.getElem?_setIfInBounds]
    by_cases e : acc.length = j
    · subst e
      simp [hs, hk, List.getD]
    · rw [if_neg e, hc j (by omega)]
      simp [List.getD, List.getElem?_append_left (show j < acc.length by omega)]
theorem RowHas.slice {w : World} {b n : Nat} {acc : List Int} (h : RowHas w b n acc) (hn : acc.length = n) (B : Nat) (hB : B ≤ b) : SliceFrom B w (.slice (some ⟨b, 0, none⟩) n n) acc := by
  obtain ⟨C, hC, hs, hc⟩ := h
  exact .inr ⟨b, 0, n, by rw [hn], hB, fun i hi => by simp [World.cell?, hC]; simpa using hc i hi, C, (0, 0), hC⟩
theorem RowHas.made (w : World) (n : Nat) : RowHas (w.alloc (.cells (madeCells #[.int .i64 0] n) 3)) w.heap.size n [] := by
  refine ⟨madeCells #[.int .i64 0] n, heap_alloc_new w _, ?_, fun j hj => by simp at hj⟩
  rw [← Array.length_toList, toList_madeCells_one]; simp

end Go.Proofs.Ytekbdbcomfleeaa
