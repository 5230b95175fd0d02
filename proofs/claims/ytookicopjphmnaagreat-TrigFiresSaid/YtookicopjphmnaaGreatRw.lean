/- Plain facts: a team loses; what a card's last aimed term is aimed at (layer 13). -/
import Derived.Test.YtookicopjphmnaaGreatRv
import Derived.Test.YtookicopjphmnaaGreatFy
namespace Go.Proofs.YtookicopjphmnaaGreat
open Go.RowKit Go.Maps

theorem lose_sides (T : TeamL) (k : Int) : (loseT T k).sides = T.sides := by unfold loseT; split <;> rfl
theorem lose_len (T : TeamL) (k : Int) : (loseT T k).sh.length = T.sh.length := by
  unfold loseT
  split
  · simp [putT]
  · rfl
theorem lose_bd {w : World} {lo : Nat} {g : GhostB} {B : BoardL} (h : BoardAt w lo g B) (k : Int) : Calls Tryz.prog 14 #[.pointer (some ⟨g.tb, 0, none⟩), .int .i64 k] w (RetBd w lo g ⟨B.S, loseT B.T k, B.D⟩ (.bool (!lostT B.T k))) :=
  (tlose_any h.tm k).mono fun _ _ hr => h.retT (lose_sides _ _) hr
def lastOn (l : List Crd.TermL) : Int := l.foldl (fun r t => if t.on ≠ 0 then t.on else r) 0
theorem lastOn_snoc (l : List Crd.TermL) (t : Crd.TermL) : lastOn (l ++ [t]) = if t.on ≠ 0 then t.on else lastOn l := by simp [lastOn]
theorem lastOn_table {x : Int} (h0 : 0 ≤ x) (h6 : x < 6) : lastOn (T13.getD x.toNat zeroC).terms = Crd.aimedAt (T13.getD x.toNat zeroC).terms := by
  obtain ⟨k, rfl⟩ : ∃ k : Nat, x = k := ⟨x.toNat, by omega⟩
  rw [Int.toNat_natCast]
  rcases (show k = 0 ∨ k = 1 ∨ k = 2 ∨ k = 3 ∨ k = 4 ∨ k = 5 by omega) with rfl | rfl | rfl | rfl | rfl | rfl <;> decide
/-- The board of TrigFires: a team may have lost. -/
def boardF (l : List TriL) (n : Nat) (k : Int) : BoardL := ⟨made13 l, loseT (sidesT n) k, dry0⟩
theorem wouldF {l : List TriL} (hok : l.all okTri = true) (k : Nat) (hk : k < l.length) (when : Int) : wouldT (made13 l) ((k : Int) + 1) when = (decide (when ≠ 0) && decide ((T13.getD l[k].x.toNat zeroC).whn = when)) := by
  have hm := made13_fold l hok
  unfold wouldT
  rw [decide_eq_true (obj13 hm k hk).2.2, Bool.true_and, card13 hm k hk]
theorem entF {l : List TriL} (hok : l.all okTri = true) (n : Nat) (f : Int) (k : Nat) (hk : k < l.length) :
    entT (boardF l n f) ((k : Int) + 1) = ⟨l[k].y, (k : Int) + 1, (aimL (loseT (sidesT n) f) (made13 l) l[k].y (lastOn (T13.getD l[k].x.toNat zeroC).terms)).getD 0 0, true⟩ ∧
    mayT13 (boardF l n f) ((k : Int) + 1) = (!lostT (loseT (sidesT n) f) (ofT (loseT (sidesT n) f) l[k].y) && decide (aimL (loseT (sidesT n) f) (made13 l) l[k].y (lastOn (T13.getD l[k].x.toNat zeroC).terms) ≠ [])) := by
  have hm := made13_fold l hok
  obtain ⟨h0, h6, _⟩ := okTri_at hok k hk
  have ho := (obj13 hm k hk).1
  have hc := card13 hm k hk
  unfold entT mayT13 aimT
  rw [show (boardF l n f).S = made13 l from rfl, show (boardF l n f).T = loseT (sidesT n) f from rfl, ho, hc, lastOn_table h0 h6]
  exact ⟨rfl, rfl⟩
end Go.Proofs.YtookicopjphmnaaGreat
