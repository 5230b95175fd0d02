/- Plain facts for the law TeamPlays (layer 9): teams with the law's own lists beside; what a call makes of them; who is next, and whose foes. -/
import Derived.Test.YtbiomffjmajlgaaTn
namespace Go.Proofs.Ytbiomffjmajlgaa
open Go.RowKit

theorem RowIn.set {w : World} {t : TypeId} {g : Nat} {xs : List Value} (h : RowIn w t g xs) (j : Nat) (u : Value) : RowIn (w.setCell ⟨g, j, none⟩ u) t g (xs.set j u) := by
  obtain ⟨cur, h1, h2⟩ := h
  refine ⟨_, heap_setCell_same w g j cur t u h1, ?_⟩
  have e : (cur.toList.set j u).take xs.length = xs.set j u := by rw [List.take_set, h2]
  rw [List.length_set, ← e]
  congr 1
  simp
theorem RowIn.other {w : World} {t : TypeId} {g q j : Nat} {xs : List Value} (h : RowIn w t g xs) (hne : g ≠ q) (u : Value) : RowIn (w.setCell ⟨q, j, none⟩ u) t g xs := by
  obtain ⟨cur, h1, h2⟩ := h
  exact ⟨cur, (heap_setCell_other w ⟨q, j, none⟩ g u hne).trans h1, h2⟩
theorem RowIn.grown {w w' : World} {t : TypeId} {g q : Nat} {xs : List Value} (h : RowIn w t g xs) (hg : w.grownBy w' (some q)) (hne : g ≠ q) : RowIn w' t g xs := by
  have hl := h.lt
  obtain ⟨cur, h1, h2⟩ := h
  exact ⟨cur, (hg.block g hl (by simpa using hne)).trans h1, h2⟩
theorem RowIn.free {w : World} {t : TypeId} {g : Nat} {xs : List Value} (h : RowIn w t g xs) (j : Nat) : w.frozen? ⟨g, j, none⟩ = false := by
  obtain ⟨cur, h1, _⟩ := h
  exact frozen_of_row w g j _ t h1
def boolsV (l : List Bool) : List Value := l.map fun x => .bool x
def lifes (T : TeamL) : List Int := T.sh.map (·.life)
def poisons (T : TeamL) : List Int := T.sh.map (·.poison)
/-- Teams, and the law's own lists beside: life gl, poison gp, who has lost gb. -/
structure PlayAt (w : World) (lo b s r gl gp gb N : Nat) (T : TeamL) : Prop where
  t : TeamAt w lo b s r T
  n : T.sh.length = N
  lf : RowIn w 3 gl (intsV (lifes T))
  po : RowIn w 3 gp (intsV (poisons T))
  ls : RowIn w 4 gb (boolsV (flags T))
  lo3 : lo ≤ gl ∧ lo ≤ gp ∧ lo ≤ gb
  ne : gl ≠ gp ∧ gl ≠ gb ∧ gp ≠ gb
  far : (b ≠ gl ∧ b ≠ gp ∧ b ≠ gb) ∧ (s ≠ gl ∧ s ≠ gp ∧ s ≠ gb) ∧ (r ≠ gl ∧ r ≠ gp ∧ r ≠ gb)
theorem PlayAt.later {w w' : World} {lo b s r gl gp gb N : Nat} {T : TeamL} (h : PlayAt w lo b s r gl gp gb N T) (hb : Below w.heap.size w w') : PlayAt w' lo b s r gl gp gb N T :=
  ⟨h.t.later hb, h.n, h.lf.later hb, h.po.later hb, h.ls.later hb, h.lo3, h.ne, h.far⟩
theorem PlayAt.life {w : World} {lo b s r gl gp gb N : Nat} {T : TeamL} (h : PlayAt w lo b s r gl gp gb N T) (k : Nat) (hk : k < N) : w.cell? ⟨gl, k, none⟩ = some (.int .i64 (shAt T k).life) := by
  have hk' : k < T.sh.length := by rw [h.n]; exact hk
  rw [h.lf.cell k (by simp [intsV, lifes]; omega), shAt_in hk']
  simp [intsV, lifes]
theorem PlayAt.poison {w : World} {lo b s r gl gp gb N : Nat} {T : TeamL} (h : PlayAt w lo b s r gl gp gb N T) (k : Nat) (hk : k < N) : w.cell? ⟨gp, k, none⟩ = some (.int .i64 (shAt T k).poison) := by
  have hk' : k < T.sh.length := by rw [h.n]; exact hk
  rw [h.po.cell k (by simp [intsV, poisons]; omega), shAt_in hk']
  simp [intsV, poisons]
theorem PlayAt.lost {w : World} {lo b s r gl gp gb N : Nat} {T : TeamL} (h : PlayAt w lo b s r gl gp gb N T) (k : Nat) (hk : k < N) : w.cell? ⟨gb, k, none⟩ = some (.bool (lostT T k)) := by
  have hk' : k < T.sh.length := by rw [h.n]; exact hk
  rw [h.ls.cell k (by simp [boolsV, flags]; omega), lostT_in hk']
  simp [boolsV, flags]
theorem lifes_put (T : TeamL) (n : Nat) (x : ShareL) : lifes (putT T n x) = (lifes T).set n x.life := by simp [lifes, putT, List.map_set]
theorem poisons_put (T : TeamL) (n : Nat) (x : ShareL) : poisons (putT T n x) = (poisons T).set n x.poison := by simp [poisons, putT, List.map_set]
theorem flags_put (T : TeamL) (n : Nat) (x : ShareL) : flags (putT T n x) = (flags T).set n x.lost := by simp [flags, putT, List.map_set]
theorem set_self {α : Type} (l : List α) (n : Nat) (x : α) (h : ∀ hn : n < l.length, l[n] = x) : l.set n x = l := by
  by_cases hn : n < l.length
  · rw [← h hn, List.set_getElem_self]
  · exact List.set_eq_of_length_le (by omega)
/-- Behind a gain: the teams' own, then the law's list. -/
theorem PlayAt.gain {w w1 : World} {lo b s r gl gp gb N : Nat} {T : TeamL} (h : PlayAt w lo b s r gl gp gb N T) (k : Nat) (hk : k < N) (m : Int) (ht : TeamAt w1 lo b s r (gainT T k m)) (hg : w.grownBy w1 (some r)) :
    PlayAt (w1.setCell ⟨gl, k, none⟩ (.int .i64 (addZ (shAt T k).life m))) lo b s r gl gp gb N (gainT T k m) ∧ w1.grownBy (w1.setCell ⟨gl, k, none⟩ (.int .i64 (addZ (shAt T k).life m))) (some gl) ∧ w1.cell? ⟨gl, k, none⟩ = some (.int .i64 (shAt T k).life) ∧ w1.frozen? ⟨gl, k, none⟩ = false := by
  have hk' : k < T.sh.length := by rw [h.n]; exact hk
  have e : gainT T k m = putT T k ⟨addZ (shAt T k).life m, (shAt T k).poison, (shAt T k).lost⟩ := by rw [gainT, if_pos (inL_nat hk'), Int.toNat_natCast]
  obtain ⟨⟨f1, f2, f3⟩, ⟨f4, f5, f6⟩, f7, f8, f9⟩ := h.far
  have hg2 := grown_set w1 gl k (.int .i64 (addZ (shAt T k).life m))
  have l1 := h.lf.grown hg (Ne.symm f7)
  have hc := (h.life k hk)
  refine ⟨⟨ht.grown hg2 f1 f4 f7, ?_, ?_, ?_, ?_, h.lo3, h.ne, h.far⟩, hg2, ?_, l1.free k⟩
  · rw [e]; simp [putT, h.n]
  · have h2 := l1.set k (.int .i64 (addZ (shAt T k).life m))
    rw [e, lifes_put]
    simpa [intsV, List.map_set] using h2
  · rw [e, poisons_put]
    rw [set_self (poisons T) k _ (fun hn => by simp [poisons, shAt_in hk'])]
    exact (h.po.grown hg (Ne.symm f8)).other (Ne.symm h.ne.1) _
  · rw [e, flags_put]
    rw [set_self (flags T) k _ (fun hn => by simp [flags, shAt_in hk'])]
    exact (h.ls.grown hg (Ne.symm f9)).other (Ne.symm h.ne.2.1) _
  · rw [hg.cell_far ⟨gl, k, none⟩ h.lf.lt (by simpa using Ne.symm f7)]
    exact hc
theorem PlayAt.sick {w w1 : World} {lo b s r gl gp gb N : Nat} {T : TeamL} (h : PlayAt w lo b s r gl gp gb N T) (k : Nat) (hk : k < N) (m : Int) (ht : TeamAt w1 lo b s r (sickT T k m)) (hg : w.grownBy w1 (some r)) :
    PlayAt (w1.setCell ⟨gp, k, none⟩ (.int .i64 (max (addZ (shAt T k).poison m) 0))) lo b s r gl gp gb N (sickT T k m) ∧ w1.grownBy (w1.setCell ⟨gp, k, none⟩ (.int .i64 (max (addZ (shAt T k).poison m) 0))) (some gp) ∧ w1.cell? ⟨gp, k, none⟩ = some (.int .i64 (shAt T k).poison) ∧ w1.frozen? ⟨gp, k, none⟩ = false := by
  have hk' : k < T.sh.length := by rw [h.n]; exact hk
  have e : sickT T k m = putT T k ⟨(shAt T k).life, max (addZ (shAt T k).poison m) 0, (shAt T k).lost⟩ := by rw [sickT, if_pos (inL_nat hk'), Int.toNat_natCast]
  obtain ⟨⟨f1, f2, f3⟩, ⟨f4, f5, f6⟩, f7, f8, f9⟩ := h.far
  have hg2 := grown_set w1 gp k (.int .i64 (max (addZ (shAt T k).poison m) 0))
  have l1 := h.po.grown hg (Ne.symm f8)
  have hc := (h.poison k hk)
  refine ⟨⟨ht.grown hg2 f2 f5 f8, ?_, ?_, ?_, ?_, h.lo3, h.ne, h.far⟩, hg2, ?_, l1.free k⟩
  · rw [e]; simp [putT, h.n]
  · rw [e, lifes_put]
    rw [set_self (lifes T) k _ (fun hn => by simp [lifes, shAt_in hk'])]
    exact (h.lf.grown hg (Ne.symm f7)).other h.ne.1 _
  · have h2 := l1.set k (.int .i64 (max (addZ (shAt T k).poison m) 0))
    rw [e, poisons_put]
    simpa [intsV, List.map_set] using h2
  · rw [e, flags_put]
    rw [set_self (flags T) k _ (fun hn => by simp [flags, shAt_in hk'])]
    exact (h.ls.grown hg (Ne.symm f9)).other (Ne.symm h.ne.2.2) _
  · rw [hg.cell_far ⟨gp, k, none⟩ h.po.lt (by simpa using Ne.symm f8)]
    exact hc
theorem PlayAt.lose {w w1 : World} {lo b s r gl gp gb N : Nat} {T : TeamL} (h : PlayAt w lo b s r gl gp gb N T) (k : Nat) (hk : k < N) (ht : TeamAt w1 lo b s r (loseT T k)) (hg : w.grownBy w1 (some r)) :
    PlayAt (w1.setCell ⟨gb, k, none⟩ (.bool true)) lo b s r gl gp gb N (loseT T k) ∧ w1.grownBy (w1.setCell ⟨gb, k, none⟩ (.bool true)) (some gb) ∧ w1.cell? ⟨gb, k, none⟩ = some (.bool (lostT T k)) ∧ w1.frozen? ⟨gb, k, none⟩ = false := by
  have hk' : k < T.sh.length := by rw [h.n]; exact hk
  have e : loseT T k = putT T k ⟨(shAt T k).life, (shAt T k).poison, true⟩ := by rw [loseT, if_pos (inL_nat hk'), Int.toNat_natCast]
  obtain ⟨⟨f1, f2, f3⟩, ⟨f4, f5, f6⟩, f7, f8, f9⟩ := h.far
  have hg2 := grown_set w1 gb k (.bool true)
  have l1 := h.ls.grown hg (Ne.symm f9)
  have hc := (h.lost k hk)
  refine ⟨⟨ht.grown hg2 f3 f6 f9, ?_, ?_, ?_, ?_, h.lo3, h.ne, h.far⟩, hg2, ?_, l1.free k⟩
  · rw [e]; simp [putT, h.n]
  · rw [e, lifes_put]
    rw [set_self (lifes T) k _ (fun hn => by simp [lifes, shAt_in hk'])]
    exact (h.lf.grown hg (Ne.symm f7)).other h.ne.2.1 _
  · rw [e, poisons_put]
    rw [set_self (poisons T) k _ (fun hn => by simp [poisons, shAt_in hk'])]
    exact (h.po.grown hg (Ne.symm f8)).other h.ne.2.2 _
  · have h2 := l1.set k (.bool true)
    rw [e, flags_put]
    simpa [boolsV, List.map_set] using h2
  · rw [hg.cell_far ⟨gb, k, none⟩ h.ls.lt (by simpa using Ne.symm f9)]
    exact hc
theorem PlayAt.out {w w1 : World} {lo b s r gl gp gb N : Nat} {T : TeamL} (h : PlayAt w lo b s r gl gp gb N T) (ht : TeamAt w1 lo b s r T) (hg : w.grownBy w1 (some r)) : PlayAt w1 lo b s r gl gp gb N T := by
  obtain ⟨_, _, f7, f8, f9⟩ := h.far
  exact ⟨ht, h.n, h.lf.grown hg (Ne.symm f7), h.po.grown hg (Ne.symm f8), h.ls.grown hg (Ne.symm f9), h.lo3, h.ne, h.far⟩
/-- What the law's way of finding who is next has found, c steps from the last one down. -/
def dF (fl : List Bool) (k : Nat) : Nat → Nat
  | 0 => k
  | c + 1 => if lostF fl ((k + (fl.length - 1 - c)) % fl.length) then dF fl k c else (k + (fl.length - 1 - c)) % fl.length
theorem dF_ok : ∀ fl : List Bool, fl.length ≤ 4 → (List.range fl.length).all (fun k => dF fl k (fl.length - 1) == nextF fl k) = true
  | [], _ => by decide
  | [a], _ => by revert a; decide
  | [a, b], _ => by revert a b; decide
  | [a, b, c], _ => by revert a b c; decide
  | [a, b, c, d], _ => by revert a b c d; decide
  | a :: b :: c :: d :: e :: t, h => by simp at h
theorem dF_next {T : TeamL} (h : T.sh.length ≤ 4) (k : Nat) (hk : k < T.sh.length) : (dF (flags T) k (T.sh.length - 1) : Int) = nextT T k := by
  have h1 := dF_ok (flags T) (by rw [flags_len]; exact h)
  rw [List.all_eq_true] at h1
  have h2 := h1 k (List.mem_range.2 (by rw [flags_len]; exact hk))
  rw [flags_len, beq_iff_eq] at h2
  rw [h2, nextT, if_pos (inL_nat hk), Int.toNat_natCast, nextN_flags]
theorem foes_filter (T : TeamL) (k : Int) : foesT T k = (leftT T).filter fun x => x != k := by
  unfold foesT leftT upTo
  rw [List.filter_map, List.filter_filter]
  congr 1
end Go.Proofs.Ytbiomffjmajlgaa
