/- The contract of Turn between two piles of numbers (layer 5). -/
import Derived.Test.YtkhgdfalbmkgcaaFf
namespace Go.Proofs.Ytkhgdfalbmkgcaa
open Go.RowKit

/-- All that lay there but the blocks of two piles is as it was. -/
structure Chg2 (w w' : World) (b1 : Nat) (g1 : Option Nat) (b2 : Nat) (g2 : Option Nat) : Prop where
  os : w'.os = w.os
  tape : w'.tape = w.tape
  output : w'.output = w.output
  size : w.heap.size ≤ w'.heap.size
  block : ∀ k, k < w.heap.size → k ≠ b1 → g1 ≠ some k → k ≠ b2 → g2 ≠ some k → w'.heap[k]? = w.heap[k]?
theorem Chg2.of_below {w w' : World} {b1 b2 : Nat} {g1 g2 : Option Nat} (h : Below w.heap.size w w') : Chg2 w w' b1 g1 b2 g2 := ⟨h.os, h.tape, h.output, h.size, fun k hk _ _ _ _ => h.block k hk⟩
theorem Chg2.then {w w1 w2 : World} {b1 b2 : Nat} {g1 g2 : Option Nat} (h : Chg w w1 b1 g1) (k : Chg w1 w2 b2 g2) : Chg2 w w2 b1 g1 b2 g2 :=
  ⟨k.os.trans h.os, k.tape.trans h.tape, k.output.trans h.output, Nat.le_trans h.size k.size, fun i hi h1 h2 h3 h4 => (k.block i (Nat.lt_of_lt_of_le hi h.size) h3 h4).trans (h.block i hi h1 h2)⟩
theorem Chg2.ahead {w w1 w2 : World} {b1 b2 : Nat} {g1 g2 : Option Nat} (k : Below w.heap.size w w1) (h : Chg2 w1 w2 b1 g1 b2 g2) : Chg2 w w2 b1 g1 b2 g2 :=
  ⟨h.os.trans k.os, h.tape.trans k.tape, h.output.trans k.output, Nat.le_trans k.size h.size, fun i hi a b c d => (h.block i (Nat.lt_of_lt_of_le hi k.size) a b c d).trans (k.block i hi)⟩
theorem Chg2.one {w w' : World} {b1 b2 : Nat} {g1 g2 : Option Nat} (h : Chg w w' b1 g1) : Chg2 w w' b1 g1 b2 g2 := ⟨h.os, h.tape, h.output, h.size, fun k hk a b _ _ => h.block k hk a b⟩
theorem Chg2.flip {w w' : World} {b1 b2 : Nat} {g1 g2 : Option Nat} (h : Chg2 w w' b1 g1 b2 g2) : Chg2 w w' b2 g2 b1 g1 := ⟨h.os, h.tape, h.output, h.size, fun k hk a b c d => h.block k hk c d a b⟩
theorem Chg2.below {A w w' : World} {b1 b2 : Nat} {g1 g2 : Option Nat} (h : Chg2 w w' b1 g1 b2 g2) (hA : Below A.heap.size A w) (hb1 : A.heap.size ≤ b1) (hg1 : ∀ k, g1 = some k → A.heap.size ≤ k) (hb2 : A.heap.size ≤ b2) (hg2 : ∀ k, g2 = some k → A.heap.size ≤ k) : Below A.heap.size A w' :=
  ⟨h.os.trans hA.os, h.tape.trans hA.tape, h.output.trans hA.output, Nat.le_trans hA.size h.size, fun k hk => (h.block k (Nat.lt_of_lt_of_le hk hA.size) (by omega) (fun e => by have := hg1 k e; omega) (by omega) (fun e => by have := hg2 k e; omega)).trans (hA.block k hk)⟩
theorem Sep.flip {b1 b2 : Nat} {g1 g2 : Option Nat} (h : Sep b1 g1 b2 g2) : Sep b2 g2 b1 g1 := ⟨Ne.symm h.1, h.2.2.1, h.2.1, fun k hk hk' => h.2.2.2 k hk' hk⟩
/-- What a change of the first pile leaves apart. -/
theorem Sep.newer {w : World} {lo b1 b2 : Nat} {g1 g1' g2 : Option Nat} {L : List Int} (h : Sep b1 g1 b2 g2) (hn : Newer w g1 g1') (h2 : PileAt w lo b2 g2 L) : Sep b1 g1' b2 g2 := by
  rcases hn with hn | ⟨r, hn, hr⟩
  · rw [hn]; exact h
  · refine ⟨h.1, fun e => ?_, h.2.2.1, fun k hk hk' => ?_⟩
    · rw [hn] at e; injection e with e; have := h2.lt; omega
    · rw [hn] at hk; injection hk with hk; have := h2.row k hk'; omega
theorem Newer.later {w w1 : World} {g g' : Option Nat} (h : Newer w1 g g') (hs : w.heap.size ≤ w1.heap.size) : Newer w g g' := by
  rcases h with h | ⟨r, h, hr⟩
  · exact .inl h
  · exact .inr ⟨r, h, Nat.le_trans hs hr⟩

def turnB (L1 L2 : List Int) (x : Int) : Bool := decide (x ∈ L1) && !decide (x ∈ L2)
def RetTurn (w : World) (lo b1 : Nat) (g1 : Option Nat) (b2 : Nat) (g2 : Option Nat) (v : Bool) (L1 L2 : List Int) (e : Ending) (w' : World) : Prop :=
  ∃ g2', e = .returned (.bool v) ∧ PileAt w' lo b1 g1 L1 ∧ PileAt w' lo b2 g2' L2 ∧ Sep b1 g1 b2 g2' ∧ Chg2 w w' b1 g1 b2 g2 ∧ Newer w g2 g2'
end Go.Proofs.Ytkhgdfalbmkgcaa
