/- Plain facts for the law PriorRounds (layer 16): a row that is written, a team's seats in any order, rounds of passes. -/
import Derived.Test.YtciieodmihgpgaaPg
namespace Go.Proofs.Ytciieodmihgpgaa
open Go.RowKit

theorem RowIn.free {w : World} {t : TypeId} {g : Nat} {xs : List Value} (h : RowIn w t g xs) (j : Nat) : w.frozen? ⟨g, j, none⟩ = false := by
  obtain ⟨cur, h1, _⟩ := h
  exact frozen_of_row w g j _ _ h1
theorem RowIn.grown {w w' : World} {t : TypeId} {g b : Nat} {xs : List Value} (h : RowIn w t g xs) (hg : w.grownBy w' (some b)) (hn : g ≠ b) : RowIn w' t g xs := by
  have hl := h.lt
  obtain ⟨cur, h1, h2⟩ := h
  exact ⟨cur, (hg.block g hl (by simpa using hn)).trans h1, h2⟩
theorem RowIn.set {w : World} {t : TypeId} {g : Nat} {xs : List Value} (h : RowIn w t g xs) (j : Nat) (u : Value) : RowIn (w.setCell ⟨g, j, none⟩ u) t g (xs.set j u) := by
  obtain ⟨cur, h1, h2⟩ := h
  refine ⟨cur.setIfInBounds j u, by rw [heap_setCell_same w g j _ t u h1], ?_⟩
  rw [Array.toList_setIfInBounds, List.length_set, List.take_set, h2]
theorem RowIn.drewN {w : World} {t : TypeId} {g : Nat} {xs : List Value} (h : RowIn w t g xs) (q : Nat) : RowIn (w.drewN q) t g xs := h
/-- Two places of a list of numbers change their numbers. -/
def swapI (X : List Int) (a b : Nat) : List Int := (X.set a (X.getD b 0)).set b (X.getD a 0)
theorem swapI_perm {X : List Int} {a b : Nat} (ha : a < X.length) (hb : b < X.length) : (swapI X a b).Perm X := by
  have h := List.set_set_perm ha hb
  unfold swapI
  rw [show X.getD b 0 = X[b] by simp [List.getD, hb], show X.getD a 0 = X[a] by simp [List.getD, ha]]
  exact h
theorem intsV_set (X : List Int) (j : Nat) (x : Int) : (intsV X).set j (.int .i64 x) = intsV (X.set j x) := by simp [intsV, List.map_set]
theorem RowIn.swap {w : World} {g : Nat} {X : List Int} (h : RowIn w 3 g (intsV X)) (a b : Nat) : RowIn ((w.setCell ⟨g, a, none⟩ (.int .i64 (X.getD b 0))).setCell ⟨g, b, none⟩ (.int .i64 (X.getD a 0))) 3 g (intsV (swapI X a b)) := by
  have h2 := (h.set a (.int .i64 (X.getD b 0))).set b (.int .i64 (X.getD a 0))
  rw [intsV_set, intsV_set] at h2
  exact h2
/-! Marks of seats. -/
theorem get_put (x : Four) {s y : Int} (h0 : 0 ≤ s) (h4 : s < 4) (hy0 : 0 ≤ y) (hy4 : y < 4) : (x.put s).get y = (decide (y = s) || x.get y) := by
  rcases four_cases h0 h4 with rfl | rfl | rfl | rfl <;> rcases four_cases hy0 hy4 with rfl | rfl | rfl | rfl <;> rfl
def marks (l : List Int) : Four := l.foldl Four.put no4
theorem marks_fold : ∀ (l : List Int) (x : Four) (y : Int), (∀ s ∈ l, 0 ≤ s ∧ s < 4) → 0 ≤ y → y < 4 → (l.foldl Four.put x).get y = (x.get y || decide (y ∈ l))
  | [], x, y, _, _, _ => by simp
  | s :: l, x, y, hl, h0, h4 => by
    have hs := hl s (List.mem_cons_self ..)
    rw [List.foldl_cons, marks_fold l _ y (fun z hz => hl z (List.mem_cons_of_mem _ hz)) h0 h4, get_put x hs.1 hs.2 h0 h4]
    by_cases h1 : y = s <;> by_cases h2 : y ∈ l <;> simp [h1, h2]
theorem marks_get {l : List Int} {y : Int} (hl : ∀ s ∈ l, 0 ≤ s ∧ s < 4) (h0 : 0 ≤ y) (h4 : y < 4) : (marks l).get y = decide (y ∈ l) := by
  unfold marks
  rw [marks_fold l no4 y hl h0 h4]
  have : no4.get y = false := by rcases four_cases h0 h4 with rfl | rfl | rfl | rfl <;> rfl
  simp [this]
theorem marks_snoc (l : List Int) (x : Int) : marks (l ++ [x]) = (marks l).put x := by simp [marks]
/-! A team's seats. -/
theorem seats_nodup (T : TeamL) (k : Int) : (seatsT T k).Nodup := by
  unfold seatsT upTo
  refine List.Pairwise.map (R := fun a b => a ≠ b) _ (fun a b h (e : (a : Int) = b) => h (by omega)) ?_
  exact List.Pairwise.filter _ List.nodup_range
theorem seats_of {T : TeamL} {k x : Int} (hx : x ∈ seatsT T k) : ofT T x = k := by
  unfold seatsT upTo at hx
  obtain ⟨n, hn, rfl⟩ := List.mem_map.1 hx
  simpa using (List.mem_filter.1 hn).2
/-- The seats of the team that holds it, in some order. -/
structure Order (T : TeamL) (k : Int) (X : List Int) : Prop where
  perm : X.Perm (seatsT T k)
  few : ∀ x ∈ seatsT T k, 0 ≤ x ∧ x < 4
theorem Order.in {T : TeamL} {k : Int} {X : List Int} (h : Order T k X) : ∀ x ∈ X, 0 ≤ x ∧ x < 4 := fun x hx => h.few x (h.perm.mem_iff.1 hx)
theorem Order.swap {T : TeamL} {k : Int} {X : List Int} (h : Order T k X) {a b : Nat} (ha : a < X.length) (hb : b < X.length) : Order T k (swapI X a b) := ⟨(swapI_perm ha hb).trans h.perm, h.few⟩
theorem Order.nodup {T : TeamL} {k : Int} {X : List Int} (h : Order T k X) : X.Nodup := h.perm.nodup_iff.2 (seats_nodup T k)
theorem Order.fresh {T : TeamL} {k : Int} {X : List Int} (h : Order T k X) (i : Nat) (hi : i < X.length) : X[i] ∉ X.take i := by
  intro hm
  obtain ⟨j, hj, e⟩ := List.getElem_of_mem hm
  rw [List.length_take] at hj
  rw [List.getElem_take] at e
  have := (List.getElem_inj h.nodup).1 e
  omega
theorem Order.may {T : TeamL} {k r : Int} {X : List Int} (h : Order T k X) (hl : lostT T k = false) (i : Nat) (hi : i < X.length) : mayP T ⟨k, r, marks (X.take i)⟩ X[i] = true := by
  have hx := h.in X[i] (List.getElem_mem hi)
  have h1 := seats_of (h.perm.mem_iff.1 (List.getElem_mem hi))
  unfold mayP
  dsimp only
  rw [h1, hl, marks_get (fun s hs => h.in s (List.mem_of_mem_take hs)) hx.1 hx.2, decide_eq_false (h.fresh i hi)]
  simp
theorem Order.any {T : TeamL} {k : Int} {X : List Int} (h : Order T k X) (i : Nat) (hi : i ≤ X.length) : anyW (marks (X.take i)) (seatsT T k) = decide (i < X.length) := by
  have hg : ∀ x ∈ seatsT T k, (marks (X.take i)).get x = decide (x ∈ X.take i) := fun x hx => marks_get (fun s hs => h.in s (List.mem_of_mem_take hs)) (h.few x hx).1 (h.few x hx).2
  by_cases hlt : i < X.length
  · rw [decide_eq_true hlt, anyW, List.any_eq_true]
    have hm := h.perm.mem_iff.1 (List.getElem_mem hlt)
    exact ⟨X[i], hm, by rw [hg _ hm, decide_eq_false (h.fresh i hlt)]; rfl⟩
  · rw [decide_eq_false hlt, anyW, List.any_eq_false]
    intro x hx
    rw [hg x hx, List.take_of_length_le (by omega), decide_eq_true (h.perm.mem_iff.2 hx)]
    simp
/-- What a pass of seat i of the order comes to. -/
theorem Order.pass {T : TeamL} {k r : Int} {X : List Int} (h : Order T k X) (i : Nat) (hi : i < X.length) :
    passP T ⟨k, r, marks (X.take i)⟩ X[i] = if i + 1 < X.length then (⟨k, r, marks (X.take (i + 1))⟩, 0) else turnP T ⟨k, r, no4⟩ := by
  have e : (marks (X.take i)).put X[i] = marks (X.take (i + 1)) := by rw [take_last X i hi, marks_snoc]
  unfold passP
  dsimp only
  rw [e, h.any (i + 1) hi]
  by_cases hlt : i + 1 < X.length
  · rw [decide_eq_true hlt, if_pos rfl, if_pos hlt]
  · rw [decide_eq_false hlt, if_neg Bool.false_ne_true, if_neg hlt]
    rfl
/-! Rounds: m teams have passed. -/
def rdP (T : TeamL) (k : Nat) : Nat → PriL
  | 0 => ⟨k, 0, no4⟩
  | m + 1 => (turnP T (rdP T k m)).1
def rdN (T : TeamL) (k : Nat) : Nat → Nat
  | 0 => 0
  | m + 1 => rdN T k m + (seatsT T (rdP T k m).team).length
def eqN (P : PriL) : Bool := eqF P.p no4
def rdOk (T : TeamL) (k : Nat) : Bool :=
  (List.range T.sh.length).all fun m => decide (rdN T k m < 4) && (decide (rdN T k (m + 1) ≤ 4) && ((decide (rdN T k (m + 1) = 4) == decide (m + 1 = T.sh.length)) && (((turnP T (rdP T k m)).2 == (if m + 1 = T.sh.length then 2 else 1)) &&
    (eqN (rdP T k m) && (!lostT T (rdP T k m).team && (decide (0 ≤ (rdP T k m).row) && (decide ((rdP T k m).row ≤ 3) && decide (1 ≤ (seatsT T (rdP T k m).team).length))))))))
theorem three_rd : ∀ T ∈ three, ∀ k < T.sh.length, rdOk T k = true ∧ eqP (rdP T k T.sh.length) ⟨k, 0, no4⟩ = true := by
  intro T hT
  simp only [three, List.mem_cons, List.not_mem_nil, or_false] at hT
  rcases hT with rfl | rfl | rfl
  · exact (by decide)
  · exact (by decide)
  · exact (by decide)
structure RdIs (T : TeamL) (k m : Nat) : Prop where
  n : rdN T k m < 4
  n1 : rdN T k (m + 1) ≤ 4
  all : rdN T k (m + 1) = 4 ↔ m + 1 = T.sh.length
  turn : (turnP T (rdP T k m)).2 = if m + 1 = T.sh.length then 2 else 1
  p : rdP T k m = ⟨(rdP T k m).team, (rdP T k m).row, no4⟩
  lost : lostT T (rdP T k m).team = false
  row : 0 ≤ (rdP T k m).row ∧ (rdP T k m).row ≤ 3
  some : 1 ≤ (seatsT T (rdP T k m).team).length
theorem rd_is {T : TeamL} (hT : T ∈ three) {k m : Nat} (hk : k < T.sh.length) (hm : m < T.sh.length) : RdIs T k m := by
  have h := List.all_eq_true.1 (three_rd T hT k hk).1 m (List.mem_range.2 hm)
  simp only [Bool.and_eq_true, decide_eq_true_eq, beq_iff_eq, Bool.not_eq_true', decide_eq_decide, eqN, eqF_iff] at h
  obtain ⟨h1, h2, h3, h4, h5, h6, h7, h8, h9⟩ := h
  refine ⟨h1, h2, h3, h4, ?_, h6, ⟨h7, h8⟩, h9⟩
  rw [← h5]
theorem rd_end {T : TeamL} (hT : T ∈ three) {k : Nat} (hk : k < T.sh.length) : rdP T k T.sh.length = ⟨k, 0, no4⟩ := (eqP_iff _ _).1 (three_rd T hT k hk).2
end Go.Proofs.Ytciieodmihgpgaa
