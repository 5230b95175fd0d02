/- What changes a creature (layer 8): Hurt, Count, Boost. -/
import Derived.Test.YtlfffeinngkjgaaSb
import Derived.Test.YtlfffeinngkjgaaJe
namespace Go.Proofs.Ytlfffeinngkjgaa
open Go.RowKit Go.Maps

def hurtO (o : ObjL) (n : Int) : ObjL := ⟨o.id, o.card, o.owner, o.zone, o.tapped, o.sick, raiseZ o.hurt n, o.count, o.boost, o.block, o.attacks⟩
def countO (o : ObjL) (n : Int) : ObjL := ⟨o.id, o.card, o.owner, o.zone, o.tapped, o.sick, o.hurt, addZ o.count n, o.boost, o.block, o.attacks⟩
def boostO (o : ObjL) (n : Int) : ObjL := ⟨o.id, o.card, o.owner, o.zone, o.tapped, o.sick, o.hurt, o.count, addZ o.boost n, o.block, o.attacks⟩
end Go.Proofs.Ytlfffeinngkjgaa
