/- Foes whose rounds change lives; what Drain does to the other teams (layer 11). What a term does to a board, once it may be done (layer 11): hurt, work. Terms that are done (layer 11): Do, All. Terms one by one (layer 11): All; what isn't there does nothing. -/
import Derived.Test.YtjgjhfeopmakaaaGreatBd
import Derived.Test.YtjgjhfeopmakaaaGreatOt
import Derived.Deep.RegionHeld3
import Derived.Sort.CutIn
import Derived.StillTailTactics
namespace Go.Proofs.YtjgjhfeopmakaaaGreat
open Go.RowKit Go.Maps
attribute [local go_sem] Oper.semAt_some

theorem keepB2 {A w w' : World} {a0 a1 : Addr} {v0 v1 : Value} (hb : Below w.heap.size w w') (h : Below A.heap.size A w ∧ w.cell? a0 = some v0 ∧ w.cell? a1 = some v1) : Below A.heap.size A w' ∧ w'.cell? a0 = some v0 ∧ w'.cell? a1 = some v1 :=
  ⟨stepB h.1 hb, cell_stays hb h.2.1, cell_stays hb h.2.2⟩
/-- The same teams have lost. -/
def FlagsE (T T' : TeamL) : Prop := T'.sh.length = T.sh.length ∧ ∀ k, lostT T' k = lostT T k
theorem FlagsE.refl (T : TeamL) : FlagsE T T := ⟨rfl, fun _ => rfl⟩
theorem FlagsE.trans {T T1 T2 : TeamL} (h : FlagsE T T1) (k : FlagsE T1 T2) : FlagsE T T2 := ⟨k.1.trans h.1, fun x => (k.2 x).trans (h.2 x)⟩
theorem gain_len (T : TeamL) (k n : Int) : (gainT T k n).sh.length = T.sh.length := by
  unfold gainT
  split
  · simp [putT]
  · rfl
theorem gain_sides (T : TeamL) (k n : Int) : (gainT T k n).sides = T.sides := by
  unfold gainT
  split
  · rfl
  · rfl
theorem gain_in (T : TeamL) (k n x : Int) : inT (gainT T k n) x = inT T x := by unfold inT; rw [gain_len]
theorem flags_gain (T : TeamL) (k n : Int) : FlagsE T (gainT T k n) := by
  refine ⟨gain_len T k n, fun x => ?_⟩
  cases hi : inT T k with
  | false => simp [gainT, hi]
  | true =>
    cases hx : inT T x with
    | false => simp [lostT, gain_in, hx]
    | true =>
      obtain ⟨a, rfl, ha⟩ := in_nat hi
      obtain ⟨c, rfl, hc⟩ := in_nat hx
      rw [lostT_in (by rw [gain_len]; exact hc), lostT_in hc]
      simp only [gainT, hi, if_true, putT, Int.toNat_natCast]
      rw [List.getElem_set]
      split
      · rename_i e; subst e; rw [shAt_in ha]
      · rfl
/-- What a round keeps that changes lives: all but the records and the row of what is shared; and teams stay teams, of which the same have lost. -/
def KpF (lo b s r : Nat) (T : TeamL) (E : Nat → Prop) (W W' : World) : Prop :=
  KpP (fun k => E k ∨ k = r) (fun _ => False) W W' ∧ ((∃ T1, TeamAt W lo b s r T1 ∧ FlagsE T T1) → ∃ T1, TeamAt W' lo b s r T1 ∧ FlagsE T T1)
theorem KpF.trans {lo b s r : Nat} {T : TeamL} {E : Nat → Prop} {A B C : World} (h : KpF lo b s r T E A B) (k : KpF lo b s r T E B C) : KpF lo b s r T E A C := ⟨h.1.trans k.1, fun e => k.2 (h.2 e)⟩
theorem KpF.of_below {lo b s r : Nat} {T : TeamL} {E : Nat → Prop} {W W' : World} (h : Below W.heap.size W W') : KpF lo b s r T E W W' := ⟨KpP.of_below _ _ h, fun ⟨T1, h1, h2⟩ => ⟨T1, h1.later h, h2⟩⟩
theorem KpF.put {lo b s r l : Nat} {T : TeamL} {W : World} {o : Obj} (o' : Obj) (ho : W.heap[l]? = some o) (hc : o.isCells = false) : KpF lo b s r T (fun k => k = l) W (W.putObj l o') := by
  refine ⟨KpP.put o' (.inl rfl) ho hc, fun ⟨T1, h1, h2⟩ => ⟨T1, h1.kept (KpP.put (E := fun k => k = l) (H := fun _ => False) o' rfl ho hc) (fun q hq => ⟨fun e => ?_, fun e => e, fun _ e => e.elim⟩), h2⟩⟩
  subst e
  rcases hq with rfl | rfl | rfl
  · obtain ⟨_, _, h0⟩ := h1.hd
    rw [h0] at ho
    injection ho with ho
    rw [← ho] at hc
    cases hc
  · have h0 := h1.sd.2 0 (by have := h1.n1; omega)
    cases o with
    | cells _ _ _ => cases hc
    | _ => simp [World.cell?, ho] at h0
  · obtain ⟨_, h0, _⟩ := h1.rw
    rw [h0] at ho
    injection ho with ho
    rw [← ho] at hc
    cases hc
theorem KpF.of_gain {lo b s r : Nat} {T T2 : TeamL} {E : Nat → Prop} {W W' : World} (hg : W.grownBy W' (some r)) (h : TeamAt W' lo b s r T2) (hf : FlagsE T T2) : KpF lo b s r T E W W' :=
  ⟨⟨hg.size, fun k o ho hE _ => (hg.block k (Array.getElem?_eq_some_iff.1 ho).1 (by simpa using fun e => hE (.inr e))).trans ho, fun _ _ e _ => e.elim⟩, fun _ => ⟨T2, h, hf⟩⟩
structure HidO (E : Nat → Prop) (r c1 c2 : Nat) : Prop where
  out' : ∀ q, q = c1 ∨ q = c2 → ¬(E q ∨ q = r) ∧ ∀ {W : World}, Off (fun _ => False) W q
/-- Each of some teams loses life. -/
def drainL (T : TeamL) (n : Int) (l : List Int) : TeamL := l.foldl (fun T x => gainT T x (-n)) T
theorem drain_snoc (T : TeamL) (n : Int) (l : List Int) (x : Int) : drainL T n (l ++ [x]) = gainT (drainL T n l) x (-n) := by simp [drainL]
theorem drain_flags (T : TeamL) (n : Int) : ∀ l : List Int, FlagsE T (drainL T n l) ∧ (drainL T n l).sides = T.sides := fun l => by
  induction l generalizing T with
  | nil => exact ⟨FlagsE.refl T, rfl⟩
  | cons x l ih =>
    have h := ih (gainT T x (-n))
    exact ⟨(flags_gain T x (-n)).trans h.1, h.2.trans (gain_sides T x (-n))⟩
def drainT (T : TeamL) (seat n : Int) : TeamL := drainL T n (foesT T (ofT T seat))
/-- What drain's range holds. -/
structure DrainI (w0 : World) (lo : Nat) (g : GhostB) (B : BoardL) (n : Int) (q3 q5 : Nat) (pre : List Int) (W : World) : Prop where
  bd : BoardAt W lo g ⟨B.S, drainL B.T n pre, B.D⟩
  tu : TurnedB w0 W g g
  c3 : HdAt W q3 (.pointer (some ⟨g.q, 0, none⟩))
  c5 : HdAt W q5 (.int .i64 n)
theorem drainI_own {w0 : World} {lo q3 q5 N : Nat} {g : GhostB} {B : BoardL} {n : Int} (hN : ∀ k, g.own k → k < N) (h0 : w0.heap.size ≤ N) : OwnFrom N (DrainI w0 lo g B n q3 q5) := fun pre A W row hs hg hr => by
  have hne : ∀ k, k < N → some k ≠ row := fun k hk e => by have := (hr k e.symm).1; omega
  refine ⟨hs.bd.kept hg.size fun k hk => hg.block k (hs.bd.ownLt hk) (hne k (hN k hk)), ⟨hg.os.trans hs.tu.os, hg.tape.trans hs.tu.tape, hg.output.trans hs.tu.output, Nat.le_trans hs.tu.size hg.size, fun k hk he => (hg.block k (Nat.lt_of_lt_of_le hk hs.tu.size) (hne k (by omega))).trans (hs.tu.block k hk he), fun _ _ h => h⟩, hs.c3.grown hg (fun r e => (hr r e).2), hs.c5.grown hg (fun r e => (hr r e).2)⟩
end Go.Proofs.YtjgjhfeopmakaaaGreat
namespace Go.Proofs.YtjgjhfeopmakaaaGreat
open Go.RowKit Go.Maps
attribute [local go_sem] Oper.semAt_some

theorem RetBd.of {w w1 : World} {lo : Nat} {g g1 : GhostB} {B : BoardL} {v : Value} {e : Ending} {w' : World} (h : RetBd w1 lo g1 B v e w') (ht : TurnedB w w1 g g1) (hq : g1.q = g.q) : RetBd w lo g B v e w' := by
  obtain ⟨rfl, g', h1, h2, h3⟩ := h
  exact ⟨rfl, g', h1, ht.trans h2, h3.trans hq⟩
theorem RetBd.same {w : World} {lo : Nat} {g : GhostB} {B : BoardL} {v : Value} {e : Ending} {w' : World} (hb : BoardAt w lo g B) (h : RetV w v e w') : RetBd w lo g B v e w' := ⟨h.1, g, hb.later h.2, TurnedB.of_below h.2, rfl⟩
/-- A change of the store, by the store's own contract. -/
theorem BoardAt.retS {w : World} {lo : Nat} {g : GhostB} {B : BoardL} {S' : StoreL} {v : Value} {e : Ending} {w' : World} (h : BoardAt w lo g B) (hw : WfS S') (hl : S'.objs.length = B.S.objs.length) (hn : S'.seats = B.S.seats) (hr : RetS w lo g.b g.G S' v e w') : RetBd w lo g ⟨S', B.T, B.D⟩ v e w' := by
  obtain ⟨rfl, G', h1, h2⟩ := hr
  obtain ⟨b1, t1⟩ := h.withS h1 h2 hw (by rw [hl]; exact h.len) hn
  exact ⟨rfl, _, b1, t1, rfl⟩
theorem BoardAt.retT {w : World} {lo : Nat} {g : GhostB} {B : BoardL} {T' : TeamL} {v : Value} {e : Ending} {w' : World} (h : BoardAt w lo g B) (hn : T'.sides = B.T.sides) (hr : RetT w lo g.tb g.s g.r v T' e w') : RetBd w lo g ⟨B.S, T', B.D⟩ v e w' := by
  obtain ⟨rfl, h1, h2⟩ := hr
  obtain ⟨b1, t1⟩ := h.withT h1 h2 (congrArg List.length hn)
  exact ⟨rfl, _, b1, t1, rfl⟩
theorem gain_bd {w : World} {lo : Nat} {g : GhostB} {B : BoardL} (h : BoardAt w lo g B) (k m : Int) : ∃ v, Calls Tryz.prog 87 #[.pointer (some ⟨g.tb, 0, none⟩), .int .i64 k, .int .i64 m] w (RetBd w lo g ⟨B.S, gainT B.T k m, B.D⟩ (.int .i64 v)) :=
  ⟨_, (tgain_any h.tm k m).mono fun _ _ hr => h.retT (gain_sides _ _ _) hr⟩
theorem hurtS_seats (S : StoreL) (i n : Int) : (hurtS S i n).seats = S.seats := by unfold hurtS; split <;> rfl
theorem countS_seats (S : StoreL) (i n : Int) : (countS S i n).seats = S.seats := by unfold countS; split <;> rfl
theorem boostS_seats (S : StoreL) (i n : Int) : (boostS S i n).seats = S.seats := by unfold boostS; split <;> rfl
theorem hurt_bd {w : World} {lo : Nat} {g : GhostB} {B : BoardL} (h : BoardAt w lo g B) (i n : Int) : ∃ v, Calls Tryz.prog 88 #[.pointer (some ⟨g.b, 0, none⟩), .int .i64 i, .int .i64 n] w (RetBd w lo g ⟨hurtS B.S i n, B.T, B.D⟩ (.int .i64 v)) :=
  ⟨_, (hurt_any h.st h.wf (by have := h.len; omega) i n).mono fun _ _ hr => h.retS (hurtS_wf h.wf i n) (hurtS_len _ _ _) (hurtS_seats _ _ _) hr⟩
/-- An object that there is goes somewhere. -/
theorem move_bd {w : World} {lo : Nat} {g : GhostB} {B : BoardL} (h : BoardAt w lo g B) (i : Int) (hi : hasS B.S i) (z : Nat) (h1 : 1 ≤ z) (h7 : z ≤ 7) : Calls Tryz.prog 20 #[.pointer (some ⟨g.b, 0, none⟩), .int .i64 i, .int .i64 z, .bool false] w (RetBd w lo g ⟨moveI B.S i z, B.T, B.D⟩ (.int .i64 0)) := by
  obtain ⟨j, rfl⟩ : ∃ j : Nat, i = (j : Int) + 1 := ⟨(i - 1).toNat, by have := hi.1; omega⟩
  have hj : j < B.S.objs.length := by have := hi.2; omega
  rw [moveI_at hj]
  refine (move_ok h.st h.wf h.len j z hj h1 h7 false).mono fun _ _ hr => h.retS (h.wf.move hj h1 h7 false) (by simp [moveL]) rfl hr
def tapI (S : StoreL) (i : Int) : StoreL := setL S (i - 1).toNat (tapO (objOf S i))
theorem tapI_at {S : StoreL} {j : Nat} (hj : j < S.objs.length) : tapI S ((j : Int) + 1) = setL S j (tapO S.objs[j]) := by
  unfold tapI
  rw [objOf_at hj, show ((j : Int) + 1 - 1).toNat = j by omega]
theorem tapI_wf {S : StoreL} (h : WfS S) {j : Nat} (hj : j < S.objs.length) : WfS (tapI S ((j : Int) + 1)) := by
  rw [tapI_at hj]
  exact h.set hj (h.ids j hj).1 rfl rfl rfl
theorem tapO_self {o : ObjL} (h : o.tapped = true) : tapO o = o := by
  obtain ⟨x0, x1, x2, x3, x4, x5, x6, x7, x8, x9, x10⟩ := o
  cases h
  rfl
/-- What a term makes of a board. -/
def hurtB (B : BoardL) (on n i : Int) : BoardL := if on = 4 then ⟨B.S, gainT B.T i (-n), B.D⟩ else ⟨hurtS B.S i n, B.T, B.D⟩
def workB (B : BoardL) (seat : Int) (t : Crd.TermL) (i : Int) : BoardL :=
  if t.op = 1 then hurtB B t.on t.n i else if t.op = 2 then ⟨B.S, gainT B.T (ofT B.T seat) t.n, B.D⟩ else if t.op = 3 then drawB B seat.toNat t.n
  else if t.op = 4 then ⟨boostS B.S i t.n, B.T, B.D⟩ else if t.op = 5 then ⟨countS B.S i t.n, B.T, B.D⟩ else if t.op = 6 then ⟨moveI B.S i 5, B.T, B.D⟩ else if t.op = 7 then ⟨moveI B.S i 2, B.T, B.D⟩
  else if t.op = 8 then ⟨B.S, drainT B.T seat t.n, B.D⟩ else if t.op = 9 then ⟨tapI B.S i, B.T, B.D⟩ else B
theorem term_parts {t : Crd.TermL} (h : Crd.termB t = true) : 0 ≤ t.n ∧ t.n ≤ 20 ∧ ((t.op = 1 ∧ (t.on = 1 ∨ t.on = 2 ∨ t.on = 4)) ∨ ((t.op = 2 ∨ t.op = 3 ∨ t.op = 8) ∧ t.on = 0) ∨ ((t.op = 4 ∨ t.op = 5) ∧ (t.on = 1 ∨ t.on = 3)) ∨ ((t.op = 6 ∨ t.op = 7 ∨ t.op = 9) ∧ t.n = 0 ∧ (t.on = 1 ∨ t.on = 2))) := by
  unfold Crd.termB at h
  simp only [Bool.and_eq_true, decide_eq_true_eq] at h
  obtain ⟨h0, h1, h2⟩ := h
  unfold Crd.mostI at h1
  unfold Crd.aimsI at h2
  by_cases e1 : t.op = 1
  · rw [if_pos e1] at h2
    simp at h2
    rw [if_neg (by omega)] at h1
    exact ⟨h0, h1, .inl ⟨e1, h2⟩⟩
  · rw [if_neg e1] at h2
    by_cases e2 : t.op = 2 ∨ t.op = 3 ∨ t.op = 8
    · rw [if_pos e2] at h2
      simp at h2
      rw [if_neg (by omega)] at h1
      exact ⟨h0, h1, .inr (.inl ⟨e2, h2⟩)⟩
    · rw [if_neg e2] at h2
      by_cases e3 : t.op = 4 ∨ t.op = 5
      · rw [if_pos e3] at h2
        simp at h2
        rw [if_neg (by omega)] at h1
        exact ⟨h0, h1, .inr (.inr (.inl ⟨e3, h2⟩))⟩
      · rw [if_neg e3] at h2
        by_cases e4 : t.op = 6 ∨ t.op = 7 ∨ t.op = 9
        · rw [if_pos e4] at h2
          simp at h2
          rw [if_pos e4] at h1
          exact ⟨h0, by omega, .inr (.inr (.inr ⟨e4, by omega, h2⟩))⟩
        · rw [if_neg e4] at h2
          simp at h2
theorem creE_has {S : StoreL} {i : Int} (h : creE S i = 0) : hasS S i := by
  unfold creE at h
  split at h
  · assumption
  · cases h
end Go.Proofs.YtjgjhfeopmakaaaGreat
namespace Go.Proofs.YtjgjhfeopmakaaaGreat
open Go.RowKit Go.Maps
attribute [local go_sem] Oper.semAt_some

/-- Whether a term is done, and what it makes of a board. -/
def canB (B : BoardL) (seat : Int) (t : Crd.TermL) (i : Int) : Bool := hasT B seat && (Crd.termB t && (chkT B.T B.S seat t.on i == 0))
def doB (B : BoardL) (seat : Int) (t : Crd.TermL) (i : Int) : BoardL := if canB B seat t i then workB B seat t i else B
theorem can_cre {B : BoardL} {seat i : Int} {t : Crd.TermL} (h : canB B seat t i = true) (hop : t.op = 6 ∨ t.op = 7 ∨ t.op = 9) : creE B.S i = 0 := by
  unfold canB at h
  simp only [Bool.and_eq_true, beq_iff_eq] at h
  obtain ⟨_, ht, hc⟩ := h
  obtain ⟨_, _, hp⟩ := term_parts ht
  have hon : t.on = 1 ∨ t.on = 2 := by omega
  unfold chkT at hc
  split at hc
  · cases hc
  · split at hc
    · rename_i hm
      unfold mayT at hm
      rcases hon with e | e <;> rw [e] at hm <;> simp at hm
      · exact hm
      · exact hm.1
    · cases hc
theorem keepC5 {w w' : World} {a0 a1 a2 a3 a4 : Addr} {v0 v1 v2 v3 v4 : Value} (hb : Below w.heap.size w w') (h : w.cell? a0 = some v0 ∧ w.cell? a1 = some v1 ∧ w.cell? a2 = some v2 ∧ w.cell? a3 = some v3 ∧ w.cell? a4 = some v4) :
    w'.cell? a0 = some v0 ∧ w'.cell? a1 = some v1 ∧ w'.cell? a2 = some v2 ∧ w'.cell? a3 = some v3 ∧ w'.cell? a4 = some v4 :=
  ⟨cell_stays hb h.1, cell_stays hb h.2.1, cell_stays hb h.2.2.1, cell_stays hb h.2.2.2.1, cell_stays hb h.2.2.2.2⟩
end Go.Proofs.YtjgjhfeopmakaaaGreat
namespace Go.Proofs.YtjgjhfeopmakaaaGreat
open Go.RowKit Go.Maps
attribute [local go_sem] Oper.semAt_some

def placeI (t : Crd.TermL) (i : Int) : Int := if t.on = 0 then 0 else i
/-- Terms, one by one: what they make of a board, and how many are done. -/
def runAll (B : BoardL) (seat i : Int) (l : List Crd.TermL) : BoardL × Nat := l.foldl (fun p t => (doB p.1 seat t (placeI t i), if canB p.1 seat t (placeI t i) then p.2 + 1 else p.2)) (B, 0)
theorem runAll_snoc (B : BoardL) (seat i : Int) (l : List Crd.TermL) (t : Crd.TermL) : runAll B seat i (l ++ [t]) = (doB (runAll B seat i l).1 seat t (placeI t i), if canB (runAll B seat i l).1 seat t (placeI t i) then (runAll B seat i l).2 + 1 else (runAll B seat i l).2) := by
  unfold runAll
  rw [List.foldl_append]
  rfl
theorem runAll_le (B : BoardL) (seat i : Int) (l : List Crd.TermL) : (runAll B seat i l).2 ≤ l.length := by
  have h : ∀ (l : List Crd.TermL) (p : BoardL × Nat), (l.foldl (fun p t => (doB p.1 seat t (placeI t i), if canB p.1 seat t (placeI t i) then p.2 + 1 else p.2)) p).2 ≤ p.2 + l.length := fun l => by
    induction l with
    | nil => intro p; simp
    | cons t l ih =>
      intro p
      rw [List.foldl_cons, List.length_cons]
      refine Nat.le_trans (ih _) ?_
      dsimp only
      split <;> omega
  have := h l (B, 0)
  simpa [runAll] using this
theorem take_snoc {α : Type} (l : List α) (k : Nat) (h : k < l.length) : l.take (k + 1) = l.take k ++ [l[k]] := List.take_succ_eq_append_getElem h
theorem keepC3 {w w' : World} {a0 a1 a2 : Addr} {v0 v1 v2 : Value} (hb : Below w.heap.size w w') (h : w.cell? a0 = some v0 ∧ w.cell? a1 = some v1 ∧ w.cell? a2 = some v2) :
    w'.cell? a0 = some v0 ∧ w'.cell? a1 = some v1 ∧ w'.cell? a2 = some v2 := ⟨cell_stays hb h.1, cell_stays hb h.2.1, cell_stays hb h.2.2⟩
end Go.Proofs.YtjgjhfeopmakaaaGreat
