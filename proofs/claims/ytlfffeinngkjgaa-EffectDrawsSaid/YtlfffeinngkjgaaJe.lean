/- Taps, and what no store has (layer 7). A seat's lands, in plain words (layer 7): which they are, and what is left when some are tapped. -/
import Derived.Test.YtlfffeinngkjgaaJa
import Derived.Test.YtlfffeinngkjgaaHl
namespace Go.Proofs.Ytlfffeinngkjgaa
open Go.RowKit Go.Maps
attribute [local go_sem] Oper.semAt_some

def tapO (o : ObjL) : ObjL := ⟨o.id, o.card, o.owner, o.zone, true, o.sick, o.hurt, o.count, o.boost, o.block, o.attacks⟩
def setL (S : StoreL) (k : Nat) (x : ObjL) : StoreL := { S with objs := S.objs.set k x }
theorem RetS.of {w w0 : World} {lo b : Nat} {G G0 : Ghost} {S : StoreL} {v : Value} {e : Ending} {w' : World} (h : RetS w lo b G S v e w') (ht : Turned w0 w G0 G) : RetS w0 lo b G0 S v e w' := by
  obtain ⟨rfl, G', h1, h2⟩ := h
  exact ⟨rfl, G', h1, ht.trans h2⟩
end Go.Proofs.Ytlfffeinngkjgaa
namespace Go.Proofs.Ytlfffeinngkjgaa
open Go.RowKit Go.Maps

theorem WfS.like {S : StoreL} (h : WfS S) {l' : List ObjL} (hlen : l'.length = S.objs.length) (hget : ∀ k (hk : k < S.objs.length) (hk' : k < l'.length), l'[k].id = S.objs[k].id ∧ l'[k].card = S.objs[k].card ∧ l'[k].owner = S.objs[k].owner ∧ l'[k].zone = S.objs[k].zone) : WfS { S with objs := l' } := by
  refine ⟨fun j hj => ?_, h.nodup, fun s z ok id => ?_⟩
  · have hj' : j < S.objs.length := hlen ▸ hj
    have := hget j hj' hj
    show l'[j].id = _ ∧ _
    rw [this.1, this.2.1, this.2.2.1, this.2.2.2]
    exact h.ids j hj'
  · rw [h.mem s z ok id]
    show _ ↔ ∃ j, ∃ hj : j < l'.length, _
    constructor
    · rintro ⟨j, hj, e1, e2, e3⟩
      have := hget j hj (hlen.symm ▸ hj)
      refine ⟨j, hlen.symm ▸ hj, e1, ?_, ?_⟩
      · rw [← e2]; unfold keyS; rw [this.2.2.1, this.2.2.2]
      · rw [← e3, this.2.2.2]
    · rintro ⟨j, hj, e1, e2, e3⟩
      have hj' : j < S.objs.length := hlen ▸ hj
      have := hget j hj' hj
      refine ⟨j, hj', e1, ?_, ?_⟩
      · rw [← e2]; unfold keyS; rw [this.2.2.1, this.2.2.2]
      · rw [← e3, this.2.2.2]
end Go.Proofs.Ytlfffeinngkjgaa
