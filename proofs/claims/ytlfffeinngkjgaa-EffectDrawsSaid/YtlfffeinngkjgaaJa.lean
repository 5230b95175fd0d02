/- A store's cards (layers 6, 7): Store.Card, isLand. -/
import Derived.Test.YtlfffeinngkjgaaHe
import Derived.Test.YtlfffeinngkjgaaHj
namespace Go.Proofs.Ytlfffeinngkjgaa
open Go.RowKit Go.Maps

def RetCard (w : World) (c : Crd.CardL) (n : Int) (e : Ending) (w' : World) : Prop := ∃ xa xc, e = .returned (.tuple #[Crd.cagg c (.slice xa c.terms.length xc), .int .i64 n]) ∧ Crd.TermsIs w' (.slice xa c.terms.length xc) c.terms ∧ Below w.heap.size w w'
theorem rows_form {B : Nat} {w : World} {v : Value} {l : List Crd.TermL} (h : Crd.RowsC B w v l) : ∃ xa xc, v = .slice xa l.length xc := by
  rcases h with ⟨rfl, rfl⟩ | ⟨g, cap, rfl, _⟩
  · exact ⟨none, 0, rfl⟩
  · exact ⟨_, cap, rfl⟩
theorem rowsC_set {B : Nat} {w : World} {v : Value} {l : List Crd.TermL} {p : Addr} {u : Value} (h : Crd.RowsC B w v l) (hp : p.block < B) : Crd.RowsC B (w.setCell p u) v l := by
  rcases h with h | ⟨g, cap, e, h0, hB, hg, hr⟩
  · exact .inl h
  · exact .inr ⟨g, cap, e, h0, hB, by simpa using hg, hr.far (by omega) u⟩
/-- Is it a Land? -/
def isLandB (T : List Crd.CardL) (n : Int) : Bool := (T[n.toNat]?.map fun c => decide (c.kind = 1)).getD false
end Go.Proofs.Ytlfffeinngkjgaa
