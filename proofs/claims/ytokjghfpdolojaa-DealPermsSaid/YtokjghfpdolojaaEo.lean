/- The library's sort, index and delete at rows that the call itself made (layer 4). -/
import Derived.Test.YtokjghfpdolojaaEn
namespace Go.Proofs.Ytokjghfpdolojaa
open Go.RowKit

def sortI (l : List Int) : List Int := l.mergeSort fun x y => decide (x ≤ y)
theorem sortI_len (l : List Int) : (sortI l).length = l.length := List.length_mergeSort _
theorem row_holds {w : World} {g : Nat} {l : List Int} (h : RowAt w g 3 (intsV l)) : Go.Sort.Holds (Value.int .i64) w g 0 l.toArray :=
  holds_of_blockI h (by rw [intsV_eq]; simp; exact List.take_of_length_le (by simp))
theorem row_put {w : World} {g n : Nat} {os : Array Obj} {l m : List Int} (h : RowAt w g 3 (intsV l)) (hm : m.length = l.length) : RowAt (Go.Sort.grow (Go.Sort.putRow (Value.int .i64) (Go.Sort.ahead w n) g 0 m.toArray) os) g 3 (intsV m) := by
  have h1 := heap_sortedI (n := n) (os := os) m.toArray h
  unfold RowAt
  rw [h1]
  congr 2
  apply Array.ext'
  have h2 := take_putCellsI (intsV l).toArray m (by simp [intsV, hm])
  have h3 : (Go.Sort.putCells (Value.int .i64) 0 m.toArray (intsV l).toArray).toList.length = m.length := by simp [Go.Sort.putCells, intsV, hm]
  rw [List.take_of_length_le (by omega)] at h2
  rw [h2, intsV_eq]
theorem grow_none (w : World) : Go.Sort.grow w #[] = w := Go.Sort.grow_empty w
def RowTo (w : World) (g : Nat) (v : Value) (m : List Int) (e : Ending) (w' : World) : Prop := e = .returned v ∧ RowAt w' g 3 (intsV m) ∧ w.grownBy w' (some g)
theorem sort_row {w : World} {g cap : Nat} {l : List Int} (h : RowAt w g 3 (intsV l)) (hl : l.length ≤ 1000) :
    Calls Try.prog 29 #[.slice (some ⟨g, 0, none⟩) l.length cap] w (RowTo w g (.tuple #[]) (sortI l)) := by
  refine (Try.slices_Sort_int g 0 cap l w (row_holds h) h.lt (by omega)).mono ?_
  rintro e w' ⟨rfl, n, os, rfl⟩
  exact ⟨rfl, row_put h (sortI_len l), grownBy_sortedI _⟩
theorem index_row {w : World} {g cap : Nat} {l : List Int} {k : Nat} {x : Int} (h : RowAt w g 3 (intsV l)) (hl : l.length ≤ 1000) (hk : k < l.length) (hx : l.getD k 0 = x) (hne : ∀ j, j < k → l.getD j 0 ≠ x) :
    Calls Try.prog 30 #[.slice (some ⟨g, 0, none⟩) l.length cap, .int .i64 x] w (Same w (.int .i64 (k : Int))) := by
  refine (Try.slices_Index_int g 0 l.length cap l x w (Nat.le_refl _) (by omega) (fun j hj => ?_)).mono ?_
  · rw [Nat.zero_add, h.cell j (by rw [intsV_len]; exact hj)]
    simp [intsV, List.getD, hj]
  · rintro e w' ⟨rfl, rfl⟩
    exact ⟨by rw [Lib.idxOf_hit l l.length k x hk (Nat.le_refl _) hx hne], rfl⟩
theorem delete_row {w : World} {g cap i : Nat} {l : List Int} (h : RowAt w g 3 (intsV l)) (hc : l.length ≤ cap) (hc2 : cap ≤ 9223372036854775807) (hi : i < l.length) :
    Calls Try.prog 31 #[.slice (some ⟨g, 0, none⟩) l.length cap, .int .i64 (i : Int), .int .i64 ((i : Int) + 1)] w (RowTo w g (.slice (some ⟨g, 0, none⟩) (l.length - 1) cap) (l.take i ++ l.drop (i + 1) ++ [0])) := by
  have hlen : (l.take i ++ l.drop (i + 1) ++ [0]).length = l.length := by
    simp only [List.length_append, List.length_take, List.length_drop, List.length_singleton]; omega
  refine (Try.slices_Delete_int g 0 cap i (i + 1) l w (row_holds h) hc hc2 (by omega) (by omega)).mono ?_
  rintro e w' ⟨rfl, q, rfl⟩
  have e1 : i + 1 - i = 1 := by omega
  rw [e1]
  refine ⟨rfl, ?_, ?_⟩
  · have := row_put (n := q) (os := #[]) h hlen
    rw [grow_none] at this
    exact this
  · have := grownBy_sortedI (w := w) (g := g) (n := q) (os := #[]) (l.take i ++ l.drop (i + 1) ++ [0]).toArray
    rw [grow_none] at this
    exact this
end Go.Proofs.Ytokjghfpdolojaa
