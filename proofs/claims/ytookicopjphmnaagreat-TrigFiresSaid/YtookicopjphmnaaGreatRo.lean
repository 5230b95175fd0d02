/- Plain facts: the order of objects is the one that the law tells (layer 13). -/
import Derived.Test.YtookicopjphmnaaGreatRk
import Derived.Test.YtookicopjphmnaaGreatRb
namespace Go.Proofs.YtookicopjphmnaaGreat

def wantB (T : TeamL) (l : List TriL) (ids : List Int) (a n d s i : Nat) : Bool := decide ((l.getD i default).y = (s : Int)) && (decide (ofT T s = (((a + d) % n : Nat) : Int)) && decide (((i : Int) + 1) ∈ ids))
def want3 (T : TeamL) (l : List TriL) (ids : List Int) (a n d s k : Nat) : List Int := ((List.range k).filter fun i => wantB T l ids a n d s i).map fun (i : Nat) => (i : Int) + 1
def want2 (T : TeamL) (l : List TriL) (ids : List Int) (a n d s : Nat) : List Int := (List.range s).flatMap fun s' => want3 T l ids a n d s' l.length
def want1 (T : TeamL) (l : List TriL) (ids : List Int) (a n d : Nat) : List Int := (List.range d).flatMap fun d' => want2 T l ids a n d' 4
theorem sides_in (m : Nat) {y : Int} (h0 : 0 ≤ y) (h4 : y < 4) : 0 ≤ ofT (sidesT m) y ∧ ofT (sidesT m) y < (sidesT m).sh.length := by
  obtain ⟨k, rfl⟩ : ∃ k : Nat, y = k := ⟨y.toNat, by omega⟩
  rcases (show k = 0 ∨ k = 1 ∨ k = 2 ∨ k = 3 by omega) with rfl | rfl | rfl | rfl <;> (unfold sidesT; split <;> (first | decide | (split <;> decide)))
theorem obj13 {S : StoreL} {l : List TriL} (h : Made13 S l) (k : Nat) (hk : k < l.length) : (objOf S ((k : Int) + 1)).owner = l[k].y ∧ (objOf S ((k : Int) + 1)).card = l[k].x ∧ hasS S ((k : Int) + 1) := by
  have hk' : k < S.objs.length := by rw [h.len]; exact hk
  have e : objOf S ((k : Int) + 1) = S.objs[k] := by
    unfold objOf
    rw [show ((k : Int) + 1 - 1).toNat = k by omega]
    simp [List.getD, hk']
  rw [e, h.at' k hk' hk]
  refine ⟨rfl, rfl, by omega, by rw [h.len]; omega⟩
theorem has13 {S : StoreL} {l : List TriL} (h : Made13 S l) {x : Int} (hx : hasS S x) : ∃ k, ∃ _ : k < l.length, x = (k : Int) + 1 := by
  obtain ⟨h1, h2⟩ := hx
  rw [h.len] at h2
  exact ⟨(x - 1).toNat, by omega, by omega⟩
theorem okTri_at {l : List TriL} (h : l.all okTri = true) (k : Nat) (hk : k < l.length) : 0 ≤ l[k].x ∧ l[k].x < 6 ∧ 0 ≤ l[k].y ∧ l[k].y < 4 ∧ 1 ≤ l[k].z ∧ l[k].z ≤ 7 := by
  have := (List.all_eq_true.1 h) _ (List.getElem_mem hk)
  simpa only [okTri, decide_eq_true_eq] using this
theorem mem_want {T : TeamL} {l : List TriL} {ids : List Int} {a n : Nat} {x : Int} : x ∈ want1 T l ids a n n ↔ ∃ d s k, d < n ∧ s < 4 ∧ k < l.length ∧ wantB T l ids a n d s k = true ∧ x = (k : Int) + 1 := by
  unfold want1 want2 want3
  simp only [List.mem_flatMap, List.mem_range, List.mem_map, List.mem_filter]
  constructor
  · rintro ⟨d, hd, s, hs, k, ⟨hk, hb⟩, rfl⟩
    exact ⟨d, s, k, hd, hs, hk, hb, rfl⟩
  · rintro ⟨d, s, k, hd, hs, hk, hb, rfl⟩
    exact ⟨d, hd, s, hs, k, ⟨hk, hb⟩, rfl⟩
theorem wantB_of {T : TeamL} {l : List TriL} {ids : List Int} {a n d s k : Nat} (hk : k < l.length) (h : wantB T l ids a n d s k = true) : l[k].y = (s : Int) ∧ ofT T s = (((a + d) % n : Nat) : Int) ∧ ((k : Int) + 1) ∈ ids := by
  unfold wantB at h
  rw [show l.getD k default = l[k] by simp [List.getD, hk]] at h
  simpa using h
theorem mod_back (a d n : Nat) (ha : a < n) (hd : d < n) : ((a + d) % n + n - a) % n = d := by
  by_cases h : a + d < n
  · rw [Nat.mod_eq_of_lt h, show a + d + n - a = d + n by omega, Nat.add_mod_right, Nat.mod_eq_of_lt hd]
  · have e : (a + d) % n = a + d - n := by rw [Nat.mod_eq_sub_mod (by omega), Nat.mod_eq_of_lt (by omega)]
    rw [e, show a + d - n + n - a = d by omega, Nat.mod_eq_of_lt hd]
theorem mod_forth (a t n : Nat) (ha : a < n) (ht : t < n) : (a + (t + n - a) % n) % n = t := by
  by_cases h : a ≤ t
  · rw [show t + n - a = (t - a) + n by omega, Nat.add_mod_right, Nat.mod_eq_of_lt (by omega : t - a < n), show a + (t - a) = t by omega, Nat.mod_eq_of_lt ht]
  · rw [Nat.mod_eq_of_lt (by omega : t + n - a < n), show a + (t + n - a) = t + n by omega, Nat.add_mod_right, Nat.mod_eq_of_lt ht]
theorem order_want {l : List TriL} {ids : List Int} (hok : l.all okTri = true) (m a n : Nat) (i1 : Int) (hn : (board13 l m).T.sh.length = n) (ha : max i1 0 % (n : Int) = a) (han : a < n) : orderL (board13 l m) i1 ids = want1 (board13 l m).T l ids a n n := by
  have hm := made13_fold l hok
  have hah : ∀ d s k, d < n → ∀ hk : k < l.length, wantB (board13 l m).T l ids a n d s k = true → keyT (board13 l m) i1 ((k : Int) + 1) = ⟨d, s, (k : Int) + 1⟩ := by
    intro d s k hd hk hb
    obtain ⟨h1, h2, _⟩ := wantB_of hk hb
    have ho := (obj13 hm k hk).1
    unfold keyT
    rw [show (board13 l m).S = made13 l from rfl, ho, h1]
    have e : aheadT (board13 l m).T i1 (s : Int) = (d : Int) := by
      unfold aheadT
      rw [h2, hn, ha, if_neg (by omega)]
      have h3 := mod_back a d n han hd
      have h4 : (a + d) % n < n := Nat.mod_lt _ (by omega)
      generalize (a + d) % n = r at h3 h4
      rw [show (r : Int) + (n : Int) - (a : Int) = ((r + n - a : Nat) : Int) by omega, ← h3]
      simp
    rw [e]
  refine orderL_of ?_ fun x => ?_
  · unfold want1
    rw [List.pairwise_flatMap]
    refine ⟨fun d hd => ?_, (List.pairwise_lt_range).imp_of_mem fun {d d'} hd hd' hlt x hx y hy => ?_⟩
    · unfold want2
      rw [List.pairwise_flatMap]
      refine ⟨fun s hs => ?_, (List.pairwise_lt_range).imp_of_mem fun {s s'} hs hs' hlt x hx y hy => ?_⟩
      · unfold want3
        rw [List.pairwise_map]
        refine (List.Pairwise.filter _ (List.pairwise_lt_range)).imp_of_mem fun {i j} hi hj hlt => ?_
        obtain ⟨hi1, hi2⟩ := List.mem_filter.1 hi
        obtain ⟨hj1, hj2⟩ := List.mem_filter.1 hj
        rw [hah d s i (List.mem_range.1 hd) (List.mem_range.1 hi1) hi2, hah d s j (List.mem_range.1 hd) (List.mem_range.1 hj1) hj2]
        simp only [lt3, decide_eq_true_eq]
        exact .inr ⟨trivial, .inr ⟨trivial, by omega⟩⟩
      · have hlt : s < s' := hlt
        unfold want3 at hx hy
        obtain ⟨i, hi, rfl⟩ := List.mem_map.1 hx
        obtain ⟨j, hj, rfl⟩ := List.mem_map.1 hy
        obtain ⟨hi1, hi2⟩ := List.mem_filter.1 hi
        obtain ⟨hj1, hj2⟩ := List.mem_filter.1 hj
        rw [hah d s i (List.mem_range.1 hd) (List.mem_range.1 hi1) hi2, hah d s' j (List.mem_range.1 hd) (List.mem_range.1 hj1) hj2]
        simp only [lt3, decide_eq_true_eq]
        exact .inr ⟨trivial, .inl (by omega)⟩
    · have hlt : d < d' := hlt
      unfold want2 want3 at hx hy
      obtain ⟨s, hs, hx⟩ := List.mem_flatMap.1 hx
      obtain ⟨s', hs', hy⟩ := List.mem_flatMap.1 hy
      obtain ⟨i, hi, rfl⟩ := List.mem_map.1 hx
      obtain ⟨j, hj, rfl⟩ := List.mem_map.1 hy
      obtain ⟨hi1, hi2⟩ := List.mem_filter.1 hi
      obtain ⟨hj1, hj2⟩ := List.mem_filter.1 hj
      rw [hah d s i (List.mem_range.1 hd) (List.mem_range.1 hi1) hi2, hah d' s' j (List.mem_range.1 hd') (List.mem_range.1 hj1) hj2]
      simp only [lt3, decide_eq_true_eq]
      exact .inl (by omega)
  · rw [mem_want]
    constructor
    · rintro ⟨d, s, k, hd, hs, hk, hb, rfl⟩
      exact ⟨(wantB_of hk hb).2.2, (obj13 hm k hk).2.2⟩
    · rintro ⟨hx, hh⟩
      obtain ⟨k, hk, rfl⟩ := has13 hm hh
      obtain ⟨_, _, h0, h4, _⟩ := okTri_at hok k hk
      obtain ⟨t0, t1⟩ := sides_in m h0 h4
      rw [show (sidesT m).sh.length = n from hn] at t1
      obtain ⟨t, ht⟩ : ∃ t : Nat, ofT (sidesT m) l[k].y = t := ⟨(ofT (sidesT m) l[k].y).toNat, by omega⟩
      refine ⟨(t + n - a) % n, l[k].y.toNat, k, Nat.mod_lt _ (by omega), by omega, hk, ?_, rfl⟩
      unfold wantB
      rw [show l.getD k default = l[k] by simp [List.getD, hk], mod_forth a t n han (by omega)]
      have e : ((l[k].y.toNat : Nat) : Int) = l[k].y := by omega
      rw [e, show (board13 l m).T = sidesT m from rfl, ht]
      simp [hx]
end Go.Proofs.YtookicopjphmnaaGreat
