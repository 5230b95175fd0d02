/- A creature on the Field, and how strong it is (layer 8): creature, Power, Tough, Keys, Live, Dead. -/
import Derived.Test.YtlfffeinngkjgaaJa
import Derived.Test.YtlfffeinngkjgaaSa
namespace Go.Proofs.Ytlfffeinngkjgaa
open Go.RowKit Go.Maps

def zeroC : Crd.CardL := ⟨0, 0, 0, 0, 0, 0, []⟩
def RetCre (w : World) (o : ObjL) (c : Crd.CardL) (n : Int) (e : Ending) (w' : World) : Prop := ∃ xa xc, e = .returned (.tuple #[oagg o, Crd.cagg c (.slice xa c.terms.length xc), .int .i64 n]) ∧ Below w.heap.size w w'
end Go.Proofs.Ytlfffeinngkjgaa
