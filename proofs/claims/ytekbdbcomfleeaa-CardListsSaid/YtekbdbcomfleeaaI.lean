/- The contract of putList (layer 1, octet): lists of numbers of at most 255 items, by any codec of numbers that writes at most 4 bytes an item. -/
import Derived.Test.YtekbdbcomfleeaaH
namespace Go.Proofs.Ytekbdbcomfleeaa
open Go.RowKit Go.Lib

def SliceIs (w : World) (v : Value) (l : List Int) : Prop :=
  (v = .slice none 0 0 ∧ l = []) ∨ ∃ b off cap, v = .slice (some ⟨b, off, none⟩) l.length cap ∧ b < w.heap.size ∧ ∀ i, i < l.length → w.cell? ⟨b, off + i, none⟩ = some (.int .i64 (l.getD i 0))
theorem SliceIs.later {w w' : World} {v : Value} {l : List Int} (h : SliceIs w v l) (hb : Below w.heap.size w w') : SliceIs w' v l := by
  rcases h with h | ⟨b, off, cap, rfl, hlt, hc⟩
  · exact .inl h
  · exact .inr ⟨b, off, cap, rfl, Nat.lt_of_lt_of_le hlt hb.size, fun i hi => (hb.cell (p := ⟨b, off + i, none⟩) hlt).trans (hc i hi)⟩

/-- What is written of a list's items, behind what is there; or the first error. -/
def lputFrom (g : Int → ByteArray × Int) : List UInt8 → List Int → ByteArray × Int
  | acc, [] => (⟨acc.toArray⟩, 0)
  | acc, x :: r => if (nrm2 (g x)).2 = 0 then lputFrom g (acc ++ (nrm2 (g x)).1.data.toList) r else (⟨#[]⟩, (nrm2 (g x)).2)
def lput (g : Int → ByteArray × Int) (most : Nat) (l : List Int) : ByteArray × Int :=
  if most < l.length then (⟨#[]⟩, 5) else lputFrom g [UInt8.ofNat l.length] l

theorem byteCells_snoc (l : List UInt8) (n : Nat) : byteCells l ++ [.int .u8 ((n : Int) % 256)] = byteCells (l ++ [UInt8.ofNat n]) := by
  simp [byteCells]
theorem byteCells_one (n : Nat) (h : n ≤ 255) : byteCells [UInt8.ofNat n] = [.int .u8 n] := by
  have : n % 256 = n := by omega
  simp [byteCells, this]
theorem byteCells_str (l : List UInt8) (s : ByteArray) : byteCells l ++ strCells s = byteCells (l ++ s.data.toList) := by
  simp [byteCells, strCells]

end Go.Proofs.Ytekbdbcomfleeaa
