/- Foes whose rounds change lives; what Drain does to the other teams (layer 11). What a term does to a board, once it may be done (layer 11): hurt, work. Terms that are done (layer 11): Do, All. Terms one by one (layer 11): All; what isn't there does nothing. -/
import Derived.Test.YtdlkdilgjmmlaaaDoorBd
import Derived.Test.YtdlkdilgjmmlaaaDoorOt
import Derived.Deep.RegionHeld3
import Derived.Sort.CutIn
import Derived.StillTailTactics
namespace Go.Proofs.YtdlkdilgjmmlaaaDoor
open Go.RowKit Go.Maps
attribute [local go_sem] Oper.semAt_some

/-- The same teams have lost. -/
def FlagsE (T T' : TeamL) : Prop := T'.sh.length = T.sh.length ∧ ∀ k, lostT T' k = lostT T k
theorem FlagsE.refl (T : TeamL) : FlagsE T T := ⟨rfl, fun _ => rfl⟩
theorem FlagsE.trans {T T1 T2 : TeamL} (h : FlagsE T T1) (k : FlagsE T1 T2) : FlagsE T T2 := ⟨k.1.trans h.1, fun x => (k.2 x).trans (h.2 x)⟩
/-- What a round keeps that changes lives: all but the records and the row of what is shared; and teams stay teams, of which the same have lost. -/
def KpF (lo b s r : Nat) (T : TeamL) (E : Nat → Prop) (W W' : World) : Prop :=
  KpP (fun k => E k ∨ k = r) (fun _ => False) W W' ∧ ((∃ T1, TeamAt W lo b s r T1 ∧ FlagsE T T1) → ∃ T1, TeamAt W' lo b s r T1 ∧ FlagsE T T1)
theorem KpF.trans {lo b s r : Nat} {T : TeamL} {E : Nat → Prop} {A B C : World} (h : KpF lo b s r T E A B) (k : KpF lo b s r T E B C) : KpF lo b s r T E A C := ⟨h.1.trans k.1, fun e => k.2 (h.2 e)⟩
theorem KpF.of_below {lo b s r : Nat} {T : TeamL} {E : Nat → Prop} {W W' : World} (h : Below W.heap.size W W') : KpF lo b s r T E W W' := ⟨KpP.of_below _ _ h, fun ⟨T1, h1, h2⟩ => ⟨T1, h1.later h, h2⟩⟩
theorem KpF.put {lo b s r l : Nat} {T : TeamL} {W : World} {o : Obj} (o' : Obj) (ho : W.heap[l]? = some o) (hc : o.isCells = false) : KpF lo b s r T (fun k => k = l) W (W.putObj l o') := by
  refine ⟨KpP.put o' (.inl rfl) ho hc, fun ⟨T1, h1, h2⟩ => ⟨T1, h1.kept (KpP.put (E := fun k => k = l) (H := fun _ => False) o' rfl ho hc) (fun q hq => ⟨fun e => ?_, fun e => e, fun _ e => e.elim⟩), h2⟩⟩
  subst e
  rcases hq with rfl | rfl | rfl
  · obtain ⟨_, _, h0⟩ := h1.hd
    rw [h0] at ho
    injection ho with ho
    rw [← ho] at hc
    cases hc
  · have h0 := h1.sd.2 0 (by have := h1.n1; omega)
    cases o with
    | cells _ _ _ => cases hc
    | _ => simp [World.cell?, ho] at h0
  · obtain ⟨_, h0, _⟩ := h1.rw
    rw [h0] at ho
    injection ho with ho
    rw [← ho] at hc
    cases hc
end Go.Proofs.YtdlkdilgjmmlaaaDoor
namespace Go.Proofs.YtdlkdilgjmmlaaaDoor
open Go.RowKit Go.Maps
attribute [local go_sem] Oper.semAt_some

theorem RetBd.of {w w1 : World} {lo : Nat} {g g1 : GhostB} {B : BoardL} {v : Value} {e : Ending} {w' : World} (h : RetBd w1 lo g1 B v e w') (ht : TurnedB w w1 g g1) (hq : g1.q = g.q) : RetBd w lo g B v e w' := by
  obtain ⟨rfl, g', h1, h2, h3⟩ := h
  exact ⟨rfl, g', h1, ht.trans h2, h3.trans hq⟩
theorem RetBd.same {w : World} {lo : Nat} {g : GhostB} {B : BoardL} {v : Value} {e : Ending} {w' : World} (hb : BoardAt w lo g B) (h : RetV w v e w') : RetBd w lo g B v e w' := ⟨h.1, g, hb.later h.2, TurnedB.of_below h.2, rfl⟩
theorem BoardAt.retT {w : World} {lo : Nat} {g : GhostB} {B : BoardL} {T' : TeamL} {v : Value} {e : Ending} {w' : World} (h : BoardAt w lo g B) (hn : T'.sides = B.T.sides) (hr : RetT w lo g.tb g.s g.r v T' e w') : RetBd w lo g ⟨B.S, T', B.D⟩ v e w' := by
  obtain ⟨rfl, h1, h2⟩ := hr
  obtain ⟨b1, t1⟩ := h.withT h1 h2 (congrArg List.length hn)
  exact ⟨rfl, _, b1, t1, rfl⟩
end Go.Proofs.YtdlkdilgjmmlaaaDoor
namespace Go.Proofs.YtdlkdilgjmmlaaaDoor
open Go.RowKit Go.Maps
attribute [local go_sem] Oper.semAt_some

end Go.Proofs.YtdlkdilgjmmlaaaDoor
namespace Go.Proofs.YtdlkdilgjmmlaaaDoor
open Go.RowKit Go.Maps
attribute [local go_sem] Oper.semAt_some

end Go.Proofs.YtdlkdilgjmmlaaaDoor
