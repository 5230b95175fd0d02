/- A store's cards (layers 6, 7): Store.Card, isLand. Taps, and what no store has (layer 7). A seat's lands, in plain words (layer 7): which they are, and what is left when some are tapped. -/
import Derived.Test.YtdlkdilgjmmlaaaDoorHf
import Derived.Test.YtdlkdilgjmmlaaaDoorHl
namespace Go.Proofs.YtdlkdilgjmmlaaaDoor
open Go.RowKit Go.Maps

def RetCard (w : World) (c : Crd.CardL) (n : Int) (e : Ending) (w' : World) : Prop := ∃ xa xc, e = .returned (.tuple #[Crd.cagg c (.slice xa c.terms.length xc), .int .i64 n]) ∧ Crd.TermsIs w' (.slice xa c.terms.length xc) c.terms ∧ Below w.heap.size w w'
theorem rows_form {B : Nat} {w : World} {v : Value} {l : List Crd.TermL} (h : Crd.RowsC B w v l) : ∃ xa xc, v = .slice xa l.length xc := by
  rcases h with ⟨rfl, rfl⟩ | ⟨g, cap, rfl, _⟩
  · exact ⟨none, 0, rfl⟩
  · exact ⟨_, cap, rfl⟩
theorem rowsC_set {B : Nat} {w : World} {v : Value} {l : List Crd.TermL} {p : Addr} {u : Value} (h : Crd.RowsC B w v l) (hp : p.block < B) : Crd.RowsC B (w.setCell p u) v l := by
  rcases h with h | ⟨g, cap, e, h0, hB, hg, hr⟩
  · exact .inl h
  · exact .inr ⟨g, cap, e, h0, hB, by simpa using hg, hr.far (by omega) u⟩
end Go.Proofs.YtdlkdilgjmmlaaaDoor
namespace Go.Proofs.YtdlkdilgjmmlaaaDoor
open Go.RowKit Go.Maps
attribute [local go_sem] Oper.semAt_some

def setL (S : StoreL) (k : Nat) (x : ObjL) : StoreL := { S with objs := S.objs.set k x }
theorem RetS.of {w w0 : World} {lo b : Nat} {G G0 : Ghost} {S : StoreL} {v : Value} {e : Ending} {w' : World} (h : RetS w lo b G S v e w') (ht : Turned w0 w G0 G) : RetS w0 lo b G0 S v e w' := by
  obtain ⟨rfl, G', h1, h2⟩ := h
  exact ⟨rfl, G', h1, ht.trans h2⟩
end Go.Proofs.YtdlkdilgjmmlaaaDoor
namespace Go.Proofs.YtdlkdilgjmmlaaaDoor
open Go.RowKit Go.Maps

end Go.Proofs.YtdlkdilgjmmlaaaDoor
