/- An object of a board, for any number (layer 6). -/
import Derived.Test.YtjgjhfeopmakaaaGreatBj
import Derived.Deep.Cut
import Derived.Deep.DeepCutAuto
namespace Go.Proofs.YtjgjhfeopmakaaaGreat
open Go.RowKit Go.Maps
def errI (S : StoreL) (i : Int) : Int := if hasS S i then 0 else 7
def objI (S : StoreL) (i : Int) : ObjL := if hasS S i then objOf S i else zeroO
theorem getI_any {w : World} {lo : Nat} {g : GhostB} {B : BoardL} (h : BoardAt w lo g B) (i : Int) : Calls Tryz.prog 9 #[.pointer (some ⟨g.b, 0, none⟩), .int .i64 i] w (RetGet w (objI B.S i) (errI B.S i)) := by
  have hS := h.len
  unfold objI errI
  by_cases hh : hasS B.S i
  · rw [if_pos hh, if_pos hh]
    obtain ⟨j, rfl⟩ : ∃ j : Nat, i = (j : Int) + 1 := ⟨(i - 1).toNat, by have := hh.1; omega⟩
    have hj : j < B.S.objs.length := by have := hh.2; omega
    rw [objOf_at hj]
    exact get_in h.st (by omega) j hj
  · rw [if_neg hh, if_neg hh]
    exact get_out h.st (by omega) _ (by unfold hasS at hh; omega)
end Go.Proofs.YtjgjhfeopmakaaaGreat
