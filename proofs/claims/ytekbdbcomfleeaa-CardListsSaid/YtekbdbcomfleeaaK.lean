/- The contract of Next of a codec of lists of numbers (layer 1, octet), told of whatever functions are in it. -/
import Derived.Test.YtekbdbcomfleeaaJ
namespace Go.Proofs.Ytekbdbcomfleeaa
open Go.RowKit
/-- A slice of numbers in a row of numbers, in a block from B on, or no slice; what it holds. -/
def SliceFrom (B : Nat) (w : World) (v : Value) (l : List Int) : Prop :=
  (v = .slice none 0 0 ∧ l = []) ∨ ∃ b off cap, v = .slice (some ⟨b, off, none⟩) l.length cap ∧ B ≤ b ∧ (∀ i, i < l.length → w.cell? ⟨b, off + i, none⟩ = some (.int .i64 (l.getD i 0))) ∧ ∃ C fr, w.heap[b]? = some (.cells C 3 fr)
theorem lt_of_row {w : World} {b : Nat} {o : Obj} (h : w.heap[b]? = some o) : b < w.heap.size := (Array.getElem?_eq_some_iff.1 h).1
theorem SliceFrom.later {B : Nat} {w w' : World} {v : Value} {l : List Int} (h : SliceFrom B w v l) (hb : Below w.heap.size w w') : SliceFrom B w' v l := by
  rcases h with h | ⟨b, off, cap, rfl, hB, hc, C, fr, hr⟩
  · exact .inl h
  · exact .inr ⟨b, off, cap, rfl, hB, fun i hi => (hb.cell (p := ⟨b, off + i, none⟩) (lt_of_row hr)).trans (hc i hi), C, fr, (hb.block b (lt_of_row hr)).trans hr⟩
theorem SliceFrom.mono {B B' : Nat} {w : World} {v : Value} {l : List Int} (h : SliceFrom B w v l) (hB : B' ≤ B) : SliceFrom B' w v l := by
  rcases h with h | ⟨b, off, cap, rfl, hb, hc⟩
  · exact .inl h
  · exact .inr ⟨b, off, cap, rfl, Nat.le_trans hB hb, hc⟩
theorem SliceFrom.setCell {B : Nat} {w : World} {v : Value} {l : List Int} (h : SliceFrom B w v l) {p : Addr} (hp : p.block < B) (u : Value) : SliceFrom B (w.setCell p u) v l := by
  rcases h with h | ⟨b, off, cap, rfl, hb, hc, C, fr, hr⟩
  · exact .inl h
  · refine .inr ⟨b, off, cap, rfl, hb, fun i hi => ?_, C, fr, (Below.heap_setCell w p u b (by omega)).trans hr⟩
    rw [World.cell?_setCell_other _ _ _ _ (fun e => by rw [e] at hp; simp at hp; omega)]
    exact hc i hi
theorem SliceFrom.drew {B : Nat} {w : World} {v : Value} {l : List Int} (h : SliceFrom B w v l) : SliceFrom B w.drew v l := h
theorem SliceFrom.none (B : Nat) (w : World) : SliceFrom B w (.slice none 0 0) [] := .inl ⟨rfl, rfl⟩

def ret3s (v : Value) (m n : Int) : Ending := .returned (.tuple #[v, .int .i64 m, .int .i64 n])

def keepL (n : Int) (l : List Int) : List Int := if n = 0 then l else []
def keepM (n a m : Int) : Int := if n = 0 then m else a

/-- A call ends with a list in new memory, a place and an error. -/
def RetList (w : World) (l : List Int) (m n : Int) (e : Ending) (w' : World) : Prop :=
  ∃ xa xn xc, e = ret3s (.slice xa xn xc) m n ∧ SliceFrom w.heap.size w' (.slice xa xn xc) l ∧ Below w.heap.size w w'

end Go.Proofs.Ytekbdbcomfleeaa
