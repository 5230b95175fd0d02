/- How strong creatures are (layer 8): sums held within bounds, layers. A creature on the Field, and how strong it is (layer 8): creature, Power, Tough, Keys, Live, Dead. What changes a creature (layer 8): Hurt, Count, Boost. How strong creatures of a store are, and what changes them, for any number (layer 8); of no store. -/
import Derived.Test.YtdlkdilgjmmlaaaDoorHf
import Derived.Test.YtdlkdilgjmmlaaaDoorJe
namespace Go.Proofs.YtdlkdilgjmmlaaaDoor
open Go.RowKit Go.Maps

def holdZ (n : Int) : Int := min (max n (-999)) 999
def addZ (a b : Int) : Int := holdZ (holdZ a + holdZ b)
def raiseZ (a b : Int) : Int := max (addZ a b) 0
def layZ (x c b : Int) : Int := raiseZ (raiseZ x c) b
theorem holdZ_in (n : Int) : -999 ≤ holdZ n ∧ holdZ n ≤ 999 := by unfold holdZ; omega
end Go.Proofs.YtdlkdilgjmmlaaaDoor
namespace Go.Proofs.YtdlkdilgjmmlaaaDoor
open Go.RowKit Go.Maps

def zeroC : Crd.CardL := ⟨0, 0, 0, 0, 0, 0, []⟩
def RetCre (w : World) (o : ObjL) (c : Crd.CardL) (n : Int) (e : Ending) (w' : World) : Prop := ∃ xa xc, e = .returned (.tuple #[oagg o, Crd.cagg c (.slice xa c.terms.length xc), .int .i64 n]) ∧ Below w.heap.size w w'
end Go.Proofs.YtdlkdilgjmmlaaaDoor
namespace Go.Proofs.YtdlkdilgjmmlaaaDoor
open Go.RowKit Go.Maps

end Go.Proofs.YtdlkdilgjmmlaaaDoor
namespace Go.Proofs.YtdlkdilgjmmlaaaDoor
open Go.RowKit Go.Maps
/-- The objects of a list of numbers, of some owners (of all, if none is told). -/
def objOf (S : StoreL) (id : Int) : ObjL := S.objs.getD (id - 1).toNat zeroO

def hasS (S : StoreL) (i : Int) : Prop := 1 ≤ i ∧ i ≤ (S.objs.length : Int)
instance (S : StoreL) (i : Int) : Decidable (hasS S i) := by unfold hasS; infer_instance
def cardS (S : StoreL) (o : ObjL) : Crd.CardL := S.T.getD o.card.toNat zeroC
def liveO (S : StoreL) (o : ObjL) : Bool := o.zone == 3 && (cardS S o).kind == 2
def creE (S : StoreL) (i : Int) : Int := if hasS S i then (if liveO S (objOf S i) then 0 else 10) else 7
def creO (S : StoreL) (i : Int) : ObjL := if creE S i = 0 then objOf S i else zeroO
def creC (S : StoreL) (i : Int) : Crd.CardL := if creE S i = 0 then cardS S (objOf S i) else zeroC
theorem objOf_at {S : StoreL} {k : Nat} (hk : k < S.objs.length) : objOf S ((k : Int) + 1) = S.objs[k] := by
  unfold objOf
  rw [show ((k : Int) + 1 - 1).toNat = k by omega]
  simp [List.getD, hk]
theorem cardS_at {S : StoreL} {o : ObjL} {n : Nat} (hc : o.card = n) (hn : n < S.T.length) : cardS S o = S.T[n] := by
  unfold cardS
  rw [hc]
  simp [List.getD, hn]
end Go.Proofs.YtdlkdilgjmmlaaaDoor
