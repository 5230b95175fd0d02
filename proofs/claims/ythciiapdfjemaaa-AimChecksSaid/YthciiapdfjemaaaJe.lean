/- A seat's lands, in plain words (layer 7): which they are, and what is left when some are tapped. -/
import Derived.Test.YthciiapdfjemaaaJd
namespace Go.Proofs.Ythciiapdfjemaaa
open Go.RowKit Go.Maps

theorem WfS.like {S : StoreL} (h : WfS S) {l' : List ObjL} (hlen : l'.length = S.objs.length) (hget : ∀ k (hk : k < S.objs.length) (hk' : k < l'.length), l'[k].id = S.objs[k].id ∧ l'[k].card = S.objs[k].card ∧ l'[k].owner = S.objs[k].owner ∧ l'[k].zone = S.objs[k].zone) : WfS { S with objs := l' } := by
  refine ⟨fun j hj => ?_, h.nodup, fun s z ok id => ?_⟩
  · have hj' : j < S.objs.length := hlen ▸ hj
    have := hget j hj' hj
    show l'[j].id = _ ∧ _
    rw [this.1, this.2.1, this.2.2.1, this.2.2.2]
    exact h.ids j hj'
  · rw [h.mem s z ok id]
    show _ ↔ ∃ j, ∃ hj : j < l'.length, _
    constructor
    · rintro ⟨j, hj, e1, e2, e3⟩
      have := hget j hj (hlen.symm ▸ hj)
      refine ⟨j, hlen.symm ▸ hj, e1, ?_, ?_⟩
      · rw [← e2]; unfold keyS; rw [this.2.2.1, this.2.2.2]
      · rw [← e3, this.2.2.2]
    · rintro ⟨j, hj, e1, e2, e3⟩
      have hj' : j < S.objs.length := hlen ▸ hj
      have := hget j hj' hj
      refine ⟨j, hj', e1, ?_, ?_⟩
      · rw [← e2]; unfold keyS; rw [this.2.2.1, this.2.2.2]
      · rw [← e3, this.2.2.2]
end Go.Proofs.Ythciiapdfjemaaa
