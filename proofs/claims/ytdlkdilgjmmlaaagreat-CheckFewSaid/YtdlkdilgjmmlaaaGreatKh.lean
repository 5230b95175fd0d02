/- Resolve (layer 12). The document's example (layer 12). -/
import Derived.Test.YtdlkdilgjmmlaaaGreatKf
namespace Go.Proofs.YtdlkdilgjmmlaaaGreat
open Go.RowKit Go.Maps
attribute [local go_sem] Oper.semAt_some

/-- From one world to another blocks of one owner alone were changed, and it has new ones. -/
structure TurnedO (w w' : World) (own own' : Nat → Prop) : Prop where
  os : w'.os = w.os
  tape : w'.tape = w.tape
  output : w'.output = w.output
  size : w.heap.size ≤ w'.heap.size
  block : ∀ k, k < w.heap.size → ¬own k → w'.heap[k]? = w.heap[k]?
  own : ∀ k, k < w.heap.size → own' k → own k
theorem TurnedB.o {w w' : World} {g g' : GhostB} (h : TurnedB w w' g g') : TurnedO w w' g.own g'.own := ⟨h.os, h.tape, h.output, h.size, h.block, h.own⟩
theorem TurnedO.of_below {w w' : World} {own : Nat → Prop} (hb : Below w.heap.size w w') : TurnedO w w' own own := ⟨hb.os, hb.tape, hb.output, hb.size, fun k hk _ => hb.block k hk, fun _ _ h => h⟩
theorem TurnedO.trans {w w1 w2 : World} {a b c : Nat → Prop} (h : TurnedO w w1 a b) (k : TurnedO w1 w2 b c) : TurnedO w w2 a c :=
  ⟨k.os.trans h.os, k.tape.trans h.tape, k.output.trans h.output, Nat.le_trans h.size k.size,
    fun i hi ht => (k.block i (Nat.lt_of_lt_of_le hi h.size) (fun e => ht (h.own i hi e))).trans (h.block i hi ht),
    fun i hi e => h.own i hi (k.own i (Nat.lt_of_lt_of_le hi h.size) e)⟩
theorem TurnedO.below {A w w' : World} {a b : Nat → Prop} (h : TurnedO w w' a b) (hA : Below A.heap.size A w) (hlo : ∀ k, a k → A.heap.size ≤ k) : Below A.heap.size A w' :=
  ⟨h.os.trans hA.os, h.tape.trans hA.tape, h.output.trans hA.output, Nat.le_trans hA.size h.size, fun k hk =>
    (h.block k (Nat.lt_of_lt_of_le hk hA.size) (fun hn => by have := hlo k hn; omega)).trans (hA.block k hk)⟩
theorem TurnedO.left {w w' : World} {a b c : Nat → Prop} (h : TurnedO w w' a b) : TurnedO w w' (fun k => a k ∨ c k) (fun k => b k ∨ c k) :=
  ⟨h.os, h.tape, h.output, h.size, fun k hk hn => h.block k hk (fun e => hn (.inl e)), fun k hk e => e.imp (h.own k hk) id⟩
theorem TurnedO.right {w w' : World} {a b c : Nat → Prop} (h : TurnedO w w' a b) : TurnedO w w' (fun k => c k ∨ a k) (fun k => c k ∨ b k) :=
  ⟨h.os, h.tape, h.output, h.size, fun k hk hn => h.block k hk (fun e => hn (.inr e)), fun k hk e => e.imp id (h.own k hk)⟩
/-- A stack's blocks. -/
def ownK (b : Nat) (g : Option Nat) (k : Nat) : Prop := k = b ∨ g = some k
theorem StackAt.ownLt {w : World} {lo b k : Nat} {g : Option Nat} {L : List EntL} (h : StackAt w lo b g L) (hk : ownK b g k) : k < w.heap.size := by
  rcases hk with rfl | hk
  · exact h.lt
  · exact (h.row k hk).2.1
theorem StackAt.ownLo {w : World} {lo b k : Nat} {g : Option Nat} {L : List EntL} (h : StackAt w lo b g L) (hk : ownK b g k) : lo ≤ k := by
  rcases hk with rfl | hk
  · exact h.lo
  · exact (h.row k hk).1
theorem chg_o {w w' : World} {b : Nat} {g g' : Option Nat} (h : Chg w w' b g) (hn : Newer w g g') : TurnedO w w' (ownK b g) (ownK b g') :=
  ⟨h.os, h.tape, h.output, h.size, fun k hk hn => h.block k hk (fun e => hn (.inl e)) (fun e => hn (.inr e)), fun k hk e => by
    rcases e with e | e
    · exact .inl e
    · rcases hn with h2 | ⟨r, h2, h3⟩
      · exact .inr (by rw [← h2]; exact e)
      · rw [h2] at e; injection e with e; omega⟩
theorem StackAt.farO {w w' : World} {lo b : Nat} {g : Option Nat} {L : List EntL} {a a' : Nat → Prop} (h : StackAt w lo b g L) (ht : TurnedO w w' a a') (ha : ∀ k, a k → ¬ownK b g k) : StackAt w' lo b g L :=
  h.kept (ht.block b h.lt (fun e => ha b e (.inl rfl))) fun k hk => ht.block k (h.row k hk).2.1 (fun e => ha k e (.inr hk))
theorem BoardAt.farO {w w' : World} {lo : Nat} {g : GhostB} {B : BoardL} {a a' : Nat → Prop} (h : BoardAt w lo g B) (ht : TurnedO w w' a a') (ha : ∀ k, a k → ¬g.own k) : BoardAt w' lo g B :=
  h.kept ht.size fun k hk => ht.block k (h.ownLt hk) (fun e => ha k e hk)
/-- Two owners stay apart, where one alone is changed. -/
theorem apart_o {w w' : World} {a a' c : Nat → Prop} (ht : TurnedO w w' a a') (ha : ∀ k, a k → ¬c k) (hc : ∀ k, c k → k < w.heap.size) : ∀ k, a' k → ¬c k := fun k h1 h2 => ha k (ht.own k (hc k h2) h1) h2
end Go.Proofs.YtdlkdilgjmmlaaaGreat
namespace Go.Proofs.YtdlkdilgjmmlaaaGreat
open Go.RowKit Go.Maps
attribute [local go_sem] Oper.semAt_some

end Go.Proofs.YtdlkdilgjmmlaaaGreat
