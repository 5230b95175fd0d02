/- The library's Values, AppendSeq, Collect and Sort at numbers. -/
import Derived.Test.YtlfffeinngkjgaaHl
import Derived.RangeFuncFrom
import Derived.Maps.AppendAt
namespace Go.Proofs.Ytlfffeinngkjgaa
open Go.RowKit
theorem intsV_eq (l : List Int) : intsV l = l.map (Value.int .i64) := rfl
theorem grown_of {A w w' : World} {r : Option Nat} (h : Below A.heap.size A w) (hg : w.grownBy w' r) (hr : ∀ k, r = some k → A.heap.size ≤ k) : Below A.heap.size A w' := h.grown hg h.size hr
end Go.Proofs.Ytlfffeinngkjgaa
