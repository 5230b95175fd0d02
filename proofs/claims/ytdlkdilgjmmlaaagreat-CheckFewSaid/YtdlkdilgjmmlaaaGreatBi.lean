/- Foes whose rounds change lives; what Drain does to the other teams (layer 11). What a term does to a board, once it may be done (layer 11): hurt, work. Terms that are done (layer 11): Do, All. Terms one by one (layer 11): All; what isn't there does nothing. -/
import Derived.Test.YtdlkdilgjmmlaaaGreatBd
import Derived.Test.YtdlkdilgjmmlaaaGreatOt
import Derived.Deep.RegionHeld3
import Derived.Sort.CutIn
import Derived.StillTailTactics
namespace Go.Proofs.YtdlkdilgjmmlaaaGreat
open Go.RowKit Go.Maps
attribute [local go_sem] Oper.semAt_some

/-- The same teams have lost. -/
def FlagsE (T T' : TeamL) : Prop := T'.sh.length = T.sh.length ∧ ∀ k, lostT T' k = lostT T k
theorem FlagsE.refl (T : TeamL) : FlagsE T T := ⟨rfl, fun _ => rfl⟩
theorem FlagsE.trans {T T1 T2 : TeamL} (h : FlagsE T T1) (k : FlagsE T1 T2) : FlagsE T T2 := ⟨k.1.trans h.1, fun x => (k.2 x).trans (h.2 x)⟩
theorem gain_sides (T : TeamL) (k n : Int) : (gainT T k n).sides = T.sides := by
  unfold gainT
  split
  · rfl
  · rfl
/-- What a round keeps that changes lives: all but the records and the row of what is shared; and teams stay teams, of which the same have lost. -/
def KpF (lo b s r : Nat) (T : TeamL) (E : Nat → Prop) (W W' : World) : Prop :=
  KpP (fun k => E k ∨ k = r) (fun _ => False) W W' ∧ ((∃ T1, TeamAt W lo b s r T1 ∧ FlagsE T T1) → ∃ T1, TeamAt W' lo b s r T1 ∧ FlagsE T T1)
theorem KpF.trans {lo b s r : Nat} {T : TeamL} {E : Nat → Prop} {A B C : World} (h : KpF lo b s r T E A B) (k : KpF lo b s r T E B C) : KpF lo b s r T E A C := ⟨h.1.trans k.1, fun e => k.2 (h.2 e)⟩
theorem KpF.of_below {lo b s r : Nat} {T : TeamL} {E : Nat → Prop} {W W' : World} (h : Below W.heap.size W W') : KpF lo b s r T E W W' := ⟨KpP.of_below _ _ h, fun ⟨T1, h1, h2⟩ => ⟨T1, h1.later h, h2⟩⟩
theorem KpF.put {lo b s r l : Nat} {T : TeamL} {W : World} {o : Obj} (o' : Obj) (ho : W.heap[l]? = some o) (hc : o.isCells = false) : KpF lo b s r T (fun k => k = l) W (W.putObj l o') := by
  refine ⟨KpP.put o' (.inl rfl) ho hc, fun ⟨T1, h1, h2⟩ => ⟨T1, h1.kept (KpP.put (E := fun k => k = l) (H := fun _ => False) o' rfl ho hc) (fun q hq => ⟨fun e => ?_, fun e => e, fun _ e => e.elim⟩), h2⟩⟩
  subst e
  rcases hq with rfl | rfl | rfl
  · obtain ⟨_, _, h0⟩ := h1.hd
    rw [h0] at ho
    injection ho with ho
    rw [← ho] at hc
    cases hc
  · have h0 := h1.sd.2 0 (by have := h1.n1; omega)
    cases o with
    | cells _ _ _ => cases hc
    | _ => simp [World.cell?, ho] at h0
  · obtain ⟨_, h0, _⟩ := h1.rw
    rw [h0] at ho
    injection ho with ho
    rw [← ho] at hc
    cases hc
end Go.Proofs.YtdlkdilgjmmlaaaGreat
namespace Go.Proofs.YtdlkdilgjmmlaaaGreat
open Go.RowKit Go.Maps
attribute [local go_sem] Oper.semAt_some

theorem RetBd.of {w w1 : World} {lo : Nat} {g g1 : GhostB} {B : BoardL} {v : Value} {e : Ending} {w' : World} (h : RetBd w1 lo g1 B v e w') (ht : TurnedB w w1 g g1) (hq : g1.q = g.q) : RetBd w lo g B v e w' := by
  obtain ⟨rfl, g', h1, h2, h3⟩ := h
  exact ⟨rfl, g', h1, ht.trans h2, h3.trans hq⟩
theorem RetBd.same {w : World} {lo : Nat} {g : GhostB} {B : BoardL} {v : Value} {e : Ending} {w' : World} (hb : BoardAt w lo g B) (h : RetV w v e w') : RetBd w lo g B v e w' := ⟨h.1, g, hb.later h.2, TurnedB.of_below h.2, rfl⟩
/-- A change of the store, by the store's own contract. -/
theorem BoardAt.retS {w : World} {lo : Nat} {g : GhostB} {B : BoardL} {S' : StoreL} {v : Value} {e : Ending} {w' : World} (h : BoardAt w lo g B) (hw : WfS S') (hl : S'.objs.length = B.S.objs.length) (hn : S'.seats = B.S.seats) (hr : RetS w lo g.b g.G S' v e w') : RetBd w lo g ⟨S', B.T, B.D⟩ v e w' := by
  obtain ⟨rfl, G', h1, h2⟩ := hr
  obtain ⟨b1, t1⟩ := h.withS h1 h2 hw (by rw [hl]; exact h.len) hn
  exact ⟨rfl, _, b1, t1, rfl⟩
theorem BoardAt.retT {w : World} {lo : Nat} {g : GhostB} {B : BoardL} {T' : TeamL} {v : Value} {e : Ending} {w' : World} (h : BoardAt w lo g B) (hn : T'.sides = B.T.sides) (hr : RetT w lo g.tb g.s g.r v T' e w') : RetBd w lo g ⟨B.S, T', B.D⟩ v e w' := by
  obtain ⟨rfl, h1, h2⟩ := hr
  obtain ⟨b1, t1⟩ := h.withT h1 h2 (congrArg List.length hn)
  exact ⟨rfl, _, b1, t1, rfl⟩
theorem gain_bd {w : World} {lo : Nat} {g : GhostB} {B : BoardL} (h : BoardAt w lo g B) (k m : Int) : ∃ v, Calls Tryz.prog 37 #[.pointer (some ⟨g.tb, 0, none⟩), .int .i64 k, .int .i64 m] w (RetBd w lo g ⟨B.S, gainT B.T k m, B.D⟩ (.int .i64 v)) :=
  ⟨_, (tgain_any h.tm k m).mono fun _ _ hr => h.retT (gain_sides _ _ _) hr⟩
theorem hurtS_seats (S : StoreL) (i n : Int) : (hurtS S i n).seats = S.seats := by unfold hurtS; split <;> rfl
theorem countS_seats (S : StoreL) (i n : Int) : (countS S i n).seats = S.seats := by unfold countS; split <;> rfl
theorem hurt_bd {w : World} {lo : Nat} {g : GhostB} {B : BoardL} (h : BoardAt w lo g B) (i n : Int) : ∃ v, Calls Tryz.prog 35 #[.pointer (some ⟨g.b, 0, none⟩), .int .i64 i, .int .i64 n] w (RetBd w lo g ⟨hurtS B.S i n, B.T, B.D⟩ (.int .i64 v)) :=
  ⟨_, (hurt_any h.st h.wf (by have := h.len; omega) i n).mono fun _ _ hr => h.retS (hurtS_wf h.wf i n) (hurtS_len _ _ _) (hurtS_seats _ _ _) hr⟩
theorem count_bd {w : World} {lo : Nat} {g : GhostB} {B : BoardL} (h : BoardAt w lo g B) (i n : Int) : ∃ v, Calls Tryz.prog 36 #[.pointer (some ⟨g.b, 0, none⟩), .int .i64 i, .int .i64 n] w (RetBd w lo g ⟨countS B.S i n, B.T, B.D⟩ (.int .i64 v)) :=
  ⟨_, (count_any h.st h.wf (by have := h.len; omega) i n).mono fun _ _ hr => h.retS (countS_wf h.wf i n) (countS_len _ _ _) (countS_seats _ _ _) hr⟩
/-- An object that there is goes somewhere. -/
theorem move_bd {w : World} {lo : Nat} {g : GhostB} {B : BoardL} (h : BoardAt w lo g B) (i : Int) (hi : hasS B.S i) (z : Nat) (h1 : 1 ≤ z) (h7 : z ≤ 7) : Calls Tryz.prog 21 #[.pointer (some ⟨g.b, 0, none⟩), .int .i64 i, .int .i64 z, .bool false] w (RetBd w lo g ⟨moveI B.S i z, B.T, B.D⟩ (.int .i64 0)) := by
  obtain ⟨j, rfl⟩ : ∃ j : Nat, i = (j : Int) + 1 := ⟨(i - 1).toNat, by have := hi.1; omega⟩
  have hj : j < B.S.objs.length := by have := hi.2; omega
  rw [moveI_at hj]
  refine (move_ok h.st h.wf h.len j z hj h1 h7 false).mono fun _ _ hr => h.retS (h.wf.move hj h1 h7 false) (by simp [moveL]) rfl hr
theorem creE_has {S : StoreL} {i : Int} (h : creE S i = 0) : hasS S i := by
  unfold creE at h
  split at h
  · assumption
  · cases h
end Go.Proofs.YtdlkdilgjmmlaaaGreat
namespace Go.Proofs.YtdlkdilgjmmlaaaGreat
open Go.RowKit Go.Maps
attribute [local go_sem] Oper.semAt_some

end Go.Proofs.YtdlkdilgjmmlaaaGreat
namespace Go.Proofs.YtdlkdilgjmmlaaaGreat
open Go.RowKit Go.Maps
attribute [local go_sem] Oper.semAt_some

end Go.Proofs.YtdlkdilgjmmlaaaGreat
