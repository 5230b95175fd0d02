/- The library's Equal at numbers. -/
import Derived.Test.YtciieodmihgpgaaFh
namespace Go.Proofs.Ytciieodmihgpgaa
open Go.RowKit
def Took (n₀ : Nat) (S : List Int → Prop) (w : World) (e : Ending) (w' : World) : Prop := ∃ (v : Value) (xs : List Int), e = .returned v ∧ S xs ∧ w'.ownsRow n₀ 3 1 v xs.length (intsV xs) ∧ Below n₀ w w'
def Gave (w : World) (xs : List Int) (e : Ending) (w' : World) : Prop := ∃ v, e = .returned v ∧ w'.ownsRow w.heap.size 3 1 v xs.length (intsV xs) ∧ Below w.heap.size w w'
theorem intsV_eq (l : List Int) : intsV l = l.map (Value.int .i64) := rfl
def sortI (l : List Int) : List Int := l.mergeSort fun x y => decide (x ≤ y)
theorem sortI_len (l : List Int) : (sortI l).length = l.length := List.length_mergeSort _
theorem grown_of {A w w' : World} {r : Option Nat} (h : Below A.heap.size A w) (hg : w.grownBy w' r) (hr : ∀ k, r = some k → A.heap.size ≤ k) : Below A.heap.size A w' := h.grown hg h.size hr
end Go.Proofs.Ytciieodmihgpgaa
