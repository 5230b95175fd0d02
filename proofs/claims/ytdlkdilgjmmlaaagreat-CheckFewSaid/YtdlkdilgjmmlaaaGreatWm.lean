/- Plain facts for the law CheckTeams: the board of four objects in Decks, and what checks make of it. -/
import Derived.Test.YtdlkdilgjmmlaaaGreatWi
namespace Go.Proofs.YtdlkdilgjmmlaaaGreat
open Go.RowKit Go.Maps

def four13 : List TriL := [⟨0, 0, 1⟩, ⟨0, 1, 1⟩, ⟨0, 2, 1⟩, ⟨0, 3, 1⟩]
theorem four_play : play13 four13 := ⟨by decide, by decide⟩
set_option maxRecDepth 100000 in
theorem four_facts : (made13 four13).objs.length = 4 ∧ (∀ k : Nat, k < 4 → (objOf (made13 four13) ((k : Int) + 1)).zone ≠ 3) ∧ diesL (made13 four13) = [] ∧ (∀ k : Nat, k < 4 → diesL (drawS (made13 four13) k (drawnN (made13 four13) k 99)) = [] ∧ ((made13 four13).pl k 1).length < askN 99) := by decide +kernel
theorem four_cre (i : Int) : creE (made13 four13) i ≠ 0 := fun h => by
  obtain ⟨k, hk, rfl, ho, hv⟩ := creE_live h
  rw [four_facts.1] at hk
  have h1 := four_facts.2.1 k hk
  rw [ho] at h1
  unfold liveO at hv
  simp at hv
  exact h1 hv.1
theorem foldK_still {f : StoreL → Nat → Int → StoreL} {S : StoreL} (hf : ∀ k y, f S k y = S) (l : List Int) : ∀ k, foldK f S l k = S
  | 0 => rfl
  | k + 1 => by
    show f (foldK f S l k) k (l.getD k 0) = S
    rw [foldK_still hf l k]
    exact hf _ _
theorem four_S2 (x : StL) : S2x four13 x = made13 four13 := by
  unfold S2x S1x
  rw [foldK_still (f := hurtF) (fun k y => by unfold hurtF hurtS; rw [if_neg (four_cre _)])]
  exact foldK_still (f := countF) (fun k y => by unfold countF countS; rw [if_neg (four_cre _)]) _ _
theorem lost_put (T : TeamL) (n : Nat) (hn : n < T.sh.length) (a b : Int) (x : Int) : lostT (putT T n ⟨a, b, (shAt T n).lost⟩) x = lostT T x := by
  have hin : inT (putT T n ⟨a, b, (shAt T n).lost⟩) x = inT T x := by unfold inT putT; simp
  unfold lostT
  rw [hin]
  cases hx : inT T x with
  | false => rfl
  | true =>
    obtain ⟨m, rfl, hm⟩ := in_nat hx
    rw [if_pos rfl, if_pos rfl, Int.toNat_natCast]
    by_cases e : n = m
    · subst e
      simp [putT, List.getD, hn, shAt_in hn]
    · simp [putT, List.getD, List.getElem?_set_ne e]
theorem lost_gain (T : TeamL) (k n x : Int) : lostT (gainT T k n) x = lostT T x := by
  unfold gainT
  split
  · next h =>
    obtain ⟨m, rfl, hm⟩ := in_nat h
    rw [Int.toNat_natCast]
    exact lost_put T m hm _ _ x
  · rfl
theorem lost_sick (T : TeamL) (k n x : Int) : lostT (sickT T k n) x = lostT T x := by
  unfold sickT
  split
  · next h =>
    obtain ⟨m, rfl, hm⟩ := in_nat h
    rw [Int.toNat_natCast]
    exact lost_put T m hm _ _ x
  · rfl
theorem len_put (T : TeamL) (n : Nat) (y : ShareL) : (putT T n y).sh.length = T.sh.length := by simp [putT]
theorem len_gain (T : TeamL) (k n : Int) : (gainT T k n).sh.length = T.sh.length := by
  unfold gainT
  split
  · exact len_put _ _ _
  · rfl
theorem len_sick (T : TeamL) (k n : Int) : (sickT T k n).sh.length = T.sh.length := by
  unfold sickT
  split
  · exact len_put _ _ _
  · rfl
theorem foldK_lost {f : TeamL → Nat → Int → TeamL} (hf : ∀ T k y, (∀ x, lostT (f T k y) x = lostT T x) ∧ (f T k y).sh.length = T.sh.length) (T : TeamL) (l : List Int) : ∀ k, (∀ x, lostT (foldK f T l k) x = lostT T x) ∧ (foldK f T l k).sh.length = T.sh.length
  | 0 => ⟨fun _ => rfl, rfl⟩
  | k + 1 => ⟨fun x => ((hf _ _ _).1 x).trans ((foldK_lost hf T l k).1 x), (hf _ _ _).2.trans (foldK_lost hf T l k).2⟩
theorem sides_none (n t : Nat) (ht : t < (sidesT n).sh.length) : lostT (sidesT n) t = false := by
  have h : ∀ T ∈ [newT [0, 1, 1, 1] [30, 30], newT [0, 1, 2, 3] [20, 20, 20, 20], newT [0, 0, 1, 1] [30, 30]], ∀ t : Nat, t < T.sh.length → lostT T t = false := by decide
  refine h (sidesT n) ?_ t ht
  unfold sidesT
  split
  · simp
  · split <;> simp
theorem t2_lost (n : Nat) (x : StL) : (T2x n x).sh.length = (sidesT n).sh.length ∧ ∀ t : Nat, t < (sidesT n).sh.length → lostT (T2x n x) t = false := by
  have h1 := foldK_lost (f := gainF) (fun T k y => ⟨lost_gain T k y, len_gain T k y⟩) (sidesT n) x.ga x.ga.length
  have h2 := foldK_lost (f := sickF) (fun T k y => ⟨lost_sick T k y, len_sick T k y⟩) (T1x n x) x.po x.po.length
  exact ⟨h2.2.trans h1.2, fun t ht => (h2.1 t).trans ((h1.1 t).trans (sides_none n t ht))⟩
/-- What the law asks of the board: nobody dies, nobody has lost, and who is dry. -/
structure FourB (B : BoardL) (d : Int) : Prop where
  dies : diesL B.S = []
  lost : ∀ t : Nat, t < B.T.sh.length → lostT B.T t = false
  dry : ∀ k, dryT B k = (decide (0 ≤ d ∧ d < 4) && decide (k = d))
theorem put_dry0 (k m : Int) : (dry0.put k).get m = (decide (0 ≤ k ∧ k < 4) && decide (m = k)) := by
  unfold DryL.put
  by_cases h : 0 ≤ k ∧ k < 4
  · have : k = 0 ∨ k = 1 ∨ k = 2 ∨ k = 3 := by omega
    unfold DryL.get dry0
    by_cases e0 : m = 0 <;> by_cases e1 : m = 1 <;> by_cases e2 : m = 2 <;> by_cases e3 : m = 3 <;> rcases this with rfl | rfl | rfl | rfl <;> simp_all
  · rw [if_neg (by omega), if_neg (by omega), if_neg (by omega), if_neg (by omega), dry0_get, decide_eq_false h, Bool.false_and]
theorem four_any (n : Nat) (x : StL) : FourB (board14 four13 n x) x.dry := by
  have hT := t2_lost n x
  have hs4 : (made13 four13).seats = 4 := (made13_fold four13 four_play.2).seats
  have hh : ∀ T D k, hasT ⟨made13 four13, T, D⟩ k = decide (0 ≤ k ∧ k < 4) := fun T D k => by unfold hasT; rw [show (BoardL.mk (made13 four13) T D).S.seats = 4 from hs4]; rfl
  unfold board14
  rw [four_S2, hh]
  by_cases h : 0 ≤ x.dry ∧ x.dry < 4
  · rw [if_pos (decide_eq_true h)]
    obtain ⟨k, hk⟩ : ∃ k : Nat, x.dry = k := ⟨x.dry.toNat, by omega⟩
    rw [hk, Int.toNat_natCast]
    have hk4 : k < 4 := by omega
    obtain ⟨h1, h2⟩ := four_facts.2.2.2 k hk4
    unfold drawB
    rw [if_pos h2]
    refine ⟨h1, fun t ht => hT.2 t (by rw [← hT.1]; exact ht), fun m => ?_⟩
    unfold dryT
    have hse : (BoardL.mk (drawS (made13 four13) k (drawnN (made13 four13) k 99)) (T2x n x) (dry0.put k)).S.seats = 4 := (keeps_draw (made13 four13) k _).seats.trans hs4
    unfold hasT
    rw [hse, show (BoardL.mk (drawS (made13 four13) k (drawnN (made13 four13) k 99)) (T2x n x) (dry0.put k)).D = dry0.put k from rfl, put_dry0]
    by_cases e : m = (k : Int)
    · rw [decide_eq_true (show 0 ≤ m ∧ m < ((4 : Nat) : Int) by omega), Bool.true_and]
    · rw [decide_eq_false e, Bool.and_false, Bool.and_false]
  · rw [if_neg (by rw [decide_eq_false h]; decide)]
    refine ⟨four_facts.2.2.1, fun t ht => hT.2 t (by rw [← hT.1]; exact ht), fun m => ?_⟩
    unfold dryT
    rw [show (BoardL.mk (made13 four13) (T2x n x) dry0).D = dry0 from rfl, dry0_get, Bool.and_false, decide_eq_false h, Bool.false_and]
/-- What the law wants of a team. -/
def wantT (B : BoardL) (d : Int) (t : Nat) : Bool := (decide (lifeT B.T t < 1) || decide (9 < poisonT B.T t)) || (decide (0 ≤ d) && decide (d < 4) && (ofT B.T d == (t : Int)))
theorem four_doom {B : BoardL} {d : Int} (h : FourB B d) (h4 : B.T.sides.length = 4) {t : Nat} (ht : t < B.T.sh.length) : doomT B t = wantT B d t := by
  have hp : parchT B t = (decide (0 ≤ d) && decide (d < 4) && (ofT B.T d == (t : Int))) := by
    unfold parchT
    rw [Bool.eq_iff_iff]
    simp only [List.any_eq_true, h.dry, Bool.and_eq_true, decide_eq_true_eq, beq_iff_eq]
    constructor
    · rintro ⟨y, hy, ⟨h1, h2⟩, rfl⟩
      obtain ⟨m, h3, h4, rfl⟩ := upTo_mem.1 hy
      exact ⟨⟨h1, h2⟩, by simpa using h4⟩
    · rintro ⟨⟨h1, h2⟩, h3⟩
      refine ⟨d, ?_, ⟨h1, h2⟩, rfl⟩
      unfold seatsT
      refine upTo_mem.2 ⟨d.toNat, by omega, ?_, by omega⟩
      rw [show ((d.toNat : Nat) : Int) = d by omega]
      simpa using h3
  unfold doomT wantT
  rw [h.lost t ht, hp]
  have e1 : decide (lifeT B.T t ≤ 0) = decide (lifeT B.T t < 1) := decide_eq_decide.2 (by omega)
  have e2 : decide (10 ≤ poisonT B.T t) = decide (9 < poisonT B.T t) := decide_eq_decide.2 (by omega)
  rw [e1, e2, Bool.not_false, Bool.true_and, Bool.or_assoc]
theorem stable_doom {B : BoardL} (h : stableT B = true) {t : Nat} (ht : t < B.T.sh.length) : doomT B t = false := by
  unfold stableT at h
  have h2 := List.all_eq_true.1 (Bool.and_eq_true_iff.1 h).2 t (List.mem_range.2 ht)
  simp at h2
  exact h2.1
theorem run_len (B : BoardL) : (runB B).T.sh.length = B.T.sh.length := by
  unfold runB
  split
  · rfl
  · exact (def_e B.T (lostsL B)).len
theorem run_lost {B : BoardL} {d : Int} (h : FourB B d) {t : Nat} (ht : t < B.T.sh.length) : lostT (runB B).T t = doomT B t := by
  unfold runB
  cases hs : stableT B with
  | true =>
    rw [if_pos rfl, h.lost t ht, stable_doom hs ht]
  | false =>
    rw [if_neg (by decide)]
    show lostT (defT B.T (lostsL B)) t = _
    rw [(def_e B.T (lostsL B)).lost, h.lost t ht, Bool.false_or]
    cases hd : doomT B t with
    | true => exact decide_eq_true (upTo_at.2 ⟨ht, hd⟩)
    | false => exact decide_eq_false fun e => by have := (upTo_at.1 e).2; rw [hd] at this; cases this
theorem run_has {B : BoardL} {t : Nat} (ht : t < B.T.sh.length) : decide ((t : Int) ∈ runX B) = doomT B t := by
  unfold runX
  cases hs : stableT B with
  | true => rw [if_pos rfl, stable_doom hs ht]; exact decide_eq_false (by simp)
  | false =>
    rw [if_neg (by decide)]
    cases hd : doomT B t with
    | true => exact decide_eq_true (upTo_at.2 ⟨ht, hd⟩)
    | false => exact decide_eq_false fun e => by have := (upTo_at.1 e).2; rw [hd] at this; cases this
theorem run_stable {w : World} {lo : Nat} {g : GhostB} {B : BoardL} (h : BoardAt w lo g B) : stableT (runB B) = true := by
  unfold runB
  cases hs : stableT B with
  | true => rw [if_pos rfl]; exact hs
  | false => rw [if_neg (by decide)]; exact stable_round h.wf h.st.n1
theorem run_dies {B : BoardL} (h : diesL B.S = []) : runD B = [] := by
  unfold runD
  split
  · rfl
  · exact h
end Go.Proofs.YtdlkdilgjmmlaaaGreat
