/- Two lists in boxes that grow side by side (for the law StatTells, layer 8). -/
import Derived.Test.YtbbbkpadadeolaaSl
namespace Go.Proofs.Ytbbbkpadadeolaa
open Go.RowKit Go.Maps

structure TwoL (w7 wr : World) (q : Nat) (v u : Value) (A B : List Int) : Prop where
  lt : q + 1 < w7.heap.size
  b9 : wr.heap[q]? = some (.cells #[v] 29 (0, 0))
  b10 : wr.heap[q + 1]? = some (.cells #[u] 29 (0, 0))
  o9 : wr.ownsRow w7.heap.size 3 1 v A.length (intsV A)
  o10 : wr.ownsRow w7.heap.size 3 1 u B.length (intsV B)
  sep : ∀ k, v.ownBlock = some k → u.ownBlock ≠ some k
  size : w7.heap.size ≤ wr.heap.size
  os : wr.os = w7.os
  tape : wr.tape = w7.tape
  output : wr.output = w7.output
  keep : ∀ k, k < w7.heap.size → k ≠ q → k ≠ q + 1 → wr.heap[k]? = w7.heap[k]?
theorem TwoL.start {w7 : World} {q : Nat} (h9 : w7.heap[q]? = some (.cells #[.slice none 0 0] 29 (0, 0))) (h10 : w7.heap[q + 1]? = some (.cells #[.slice none 0 0] 29 (0, 0))) : TwoL w7 w7 q (.slice none 0 0) (.slice none 0 0) [] [] :=
  ⟨(Array.getElem?_eq_some_iff.1 h10).1, h9, h10, World.ownsRow_nil _ _ _ _, World.ownsRow_nil _ _ _ _, fun k e => (by cases e), Nat.le_refl _, rfl, rfl, rfl, fun _ _ _ _ => rfl⟩
theorem TwoL.later {w7 wr w' : World} {q : Nat} {v u : Value} {A B : List Int} (h : TwoL w7 wr q v u A B) (hb : Below wr.heap.size wr w') : TwoL w7 w' q v u A B :=
  ⟨h.lt, (hb.block _ (Array.getElem?_eq_some_iff.1 h.b9).1).trans h.b9, (hb.block _ (Array.getElem?_eq_some_iff.1 h.b10).1).trans h.b10,
    own11_later h.o9 (fun k hk => hb.block k (World.ownsRow.lt h.o9 k hk).2), own11_later h.o10 (fun k hk => hb.block k (World.ownsRow.lt h.o10 k hk).2), h.sep, Nat.le_trans h.size hb.size, hb.os.trans h.os, hb.tape.trans h.tape, hb.output.trans h.output,
    fun k hk h1 h2 => (hb.block k (Nat.lt_of_lt_of_le hk h.size)).trans (h.keep k hk h1 h2)⟩
/-- One item more in the first list, not in its box yet. -/
structure HalfL (w7 wr : World) (q : Nat) (v v' u : Value) (A' B : List Int) : Prop where
  lt : q + 1 < w7.heap.size
  b9 : wr.heap[q]? = some (.cells #[v] 29 (0, 0))
  b10 : wr.heap[q + 1]? = some (.cells #[u] 29 (0, 0))
  o9 : wr.ownsRow w7.heap.size 3 1 v' A'.length (intsV A')
  o10 : wr.ownsRow w7.heap.size 3 1 u B.length (intsV B)
  sep : ∀ k, v'.ownBlock = some k → u.ownBlock ≠ some k
  size : w7.heap.size ≤ wr.heap.size
  os : wr.os = w7.os
  tape : wr.tape = w7.tape
  output : wr.output = w7.output
  keep : ∀ k, k < w7.heap.size → k ≠ q → k ≠ q + 1 → wr.heap[k]? = w7.heap[k]?
theorem TwoL.half {w7 wr w' : World} {q : Nat} {v v' u : Value} {A A' B : List Int} (h : TwoL w7 wr q v u A B) (ho : w'.ownsRow w7.heap.size 3 1 v' A'.length (intsV A')) (hg : wr.grownBy w' v.ownBlock)
    (hn : v'.ownBlock = v.ownBlock ∨ v'.ownBlock = some wr.heap.size) : HalfL w7 w' q v v' u A' B := by
  have hlt := h.lt
  have hsz := h.size
  have hr : ∀ k, v.ownBlock = some k → w7.heap.size ≤ k := fun k hk => (World.ownsRow.lt h.o9 k hk).1
  refine ⟨h.lt, (hg.block _ (Array.getElem?_eq_some_iff.1 h.b9).1 (fun e => by have := hr _ e.symm; omega)).trans h.b9, (hg.block _ (Array.getElem?_eq_some_iff.1 h.b10).1 (fun e => by have := hr _ e.symm; omega)).trans h.b10, ho,
    own11_later h.o10 (fun k hk => hg.block k (World.ownsRow.lt h.o10 k hk).2 (fun e => h.sep k e.symm hk)), fun k hk => ?_, Nat.le_trans h.size hg.size, hg.os.trans h.os, hg.tape.trans h.tape, hg.output.trans h.output,
    fun k hk h1 h2 => (hg.block k (Nat.lt_of_lt_of_le hk h.size) (fun e => by have := hr _ e.symm; omega)).trans (h.keep k hk h1 h2)⟩
  rcases hn with e | e
  · exact h.sep k (e.symm.trans hk)
  · rw [e] at hk
    obtain rfl := Option.some.inj hk
    exact fun hu => by have := (World.ownsRow.lt h.o10 _ hu).2; omega
theorem HalfL.later {w7 wr w' : World} {q : Nat} {v v' u : Value} {A B : List Int} (h : HalfL w7 wr q v v' u A B) (hb : Below wr.heap.size wr w') : HalfL w7 w' q v v' u A B :=
  ⟨h.lt, (hb.block _ (Array.getElem?_eq_some_iff.1 h.b9).1).trans h.b9, (hb.block _ (Array.getElem?_eq_some_iff.1 h.b10).1).trans h.b10,
    own11_later h.o9 (fun k hk => hb.block k (World.ownsRow.lt h.o9 k hk).2), own11_later h.o10 (fun k hk => hb.block k (World.ownsRow.lt h.o10 k hk).2), h.sep, Nat.le_trans h.size hb.size, hb.os.trans h.os, hb.tape.trans h.tape, hb.output.trans h.output,
    fun k hk h1 h2 => (hb.block k (Nat.lt_of_lt_of_le hk h.size)).trans (h.keep k hk h1 h2)⟩
/-- The second list grows, and both are put in their boxes. -/
theorem HalfL.done {w7 wr w' : World} {q : Nat} {v v' u u' : Value} {A B B' : List Int} (h : HalfL w7 wr q v v' u A B) (ho : w'.ownsRow w7.heap.size 3 1 u' B'.length (intsV B')) (hg : wr.grownBy w' u.ownBlock)
    (hn : u'.ownBlock = u.ownBlock ∨ u'.ownBlock = some wr.heap.size) : HdAt w' q v ∧ HdAt (w'.setCell ⟨q, 0, none⟩ v') (q + 1) u ∧ TwoL w7 ((w'.setCell ⟨q, 0, none⟩ v').setCell ⟨q + 1, 0, none⟩ u') q v' u' A B' := by
  have hlt := h.lt
  have hsz := h.size
  have hr : ∀ k, u.ownBlock = some k → w7.heap.size ≤ k := fun k hk => (World.ownsRow.lt h.o10 k hk).1
  have g9 := (hg.block _ (Array.getElem?_eq_some_iff.1 h.b9).1 (fun e => by have := hr _ e.symm; omega)).trans h.b9
  have g10 := (hg.block _ (Array.getElem?_eq_some_iff.1 h.b10).1 (fun e => by have := hr _ e.symm; omega)).trans h.b10
  have h1 : w'.ownsRow w7.heap.size 3 1 v' A.length (intsV A) := own11_later h.o9 (fun k hk => hg.block k (World.ownsRow.lt h.o9 k hk).2 (fun e => h.sep k hk e.symm))
  have n9 : ∀ k, v'.ownBlock = some k → w7.heap.size ≤ k := fun k hk => (World.ownsRow.lt h.o9 k hk).1
  have n10 : ∀ k, u'.ownBlock = some k → w7.heap.size ≤ k := fun k hk => (World.ownsRow.lt ho k hk).1
  have e10 : (w'.setCell ⟨q, 0, none⟩ v').heap[q + 1]? = some (.cells #[u] 29 (0, 0)) := (heap_setCell_other w' ⟨q, 0, none⟩ (q + 1) v' (by simp)).trans g10
  have oth : ∀ k, k ≠ q → k ≠ q + 1 → ((w'.setCell ⟨q, 0, none⟩ v').setCell ⟨q + 1, 0, none⟩ u').heap[k]? = w'.heap[k]? := fun k h1 h2 => (heap_setCell_other _ ⟨q + 1, 0, none⟩ k u' h2).trans (heap_setCell_other w' ⟨q, 0, none⟩ k v' h1)
  refine ⟨⟨_, g9⟩, ⟨_, e10⟩, h.lt, ?_, ?_, own11_later h1 (fun k hk => oth k (by have := n9 k hk; omega) (by have := n9 k hk; omega)), own11_later ho (fun k hk => oth k (by have := n10 k hk; omega) (by have := n10 k hk; omega)), fun k hk hu => ?_,
    by have := hg.size; simp; omega, hg.os.trans h.os, hg.tape.trans h.tape, hg.output.trans h.output, fun k hk k1 k2 => ?_⟩
  · rw [heap_setCell_other _ ⟨q + 1, 0, none⟩ q u' (by simp), heap_setCell_same w' q 0 _ _ v' g9]; rfl
  · rw [heap_setCell_same _ (q + 1) 0 _ _ u' e10]; rfl
  · rcases hn with e | e
    · exact h.sep k hk (e.symm.trans hu)
    · rw [e] at hu
      obtain rfl := Option.some.inj hu
      have := (World.ownsRow.lt h.o9 _ hk).2
      omega
  · exact (oth k k1 k2).trans ((hg.block k (Nat.lt_of_lt_of_le hk h.size) (fun e => by have := hr _ e.symm; omega)).trans (h.keep k hk k1 k2))
end Go.Proofs.Ytbbbkpadadeolaa
