/- The state of the law ObjectTops (layer 6). -/
import Derived.Test.YtkhgdfalbmkgcaaHo
namespace Go.Proofs.Ytkhgdfalbmkgcaa
open Go.RowKit Go.Maps

/-- The numbers above j, up to k; those from j down. -/
def upL (j k : Nat) : List Int := (List.range (k - j)).map fun i => ((j + i + 1 : Nat) : Int)
def dnL : Nat → List Int
  | 0 => []
  | j + 1 => ((j : Int) + 1) :: dnL j
theorem upL_none (k : Nat) : upL k k = [] := by simp [upL]
theorem upL_snoc (i : Nat) : upL 0 (i + 1) = upL 0 i ++ [(i : Int) + 1] := by simp [upL, List.range_succ]
theorem upL_cons {j k : Nat} (h : j < k) : upL j k = ((j : Int) + 1) :: upL (j + 1) k := by
  unfold upL
  rw [show k - j = (k - (j + 1)) + 1 by omega, List.range_succ_eq_map]
  simp only [List.map_cons, List.map_map]
  congr 1
  apply List.map_congr_left
  intro a _
  simp only [Function.comp]
  omega
theorem dnL_len : ∀ k, (dnL k).length = k
  | 0 => rfl
  | k + 1 => by simp [dnL, dnL_len k]
theorem dnL_at : ∀ (k i : Nat) (h : i < (dnL k).length), (dnL k)[i] = ((k - i : Nat) : Int)
  | 0, i, h => by simp [dnL] at h
  | k + 1, 0, h => by simp [dnL]
  | k + 1, i + 1, h => by
    have h' : i < (dnL k).length := by simpa [dnL] using h
    have := dnL_at k i h'
    simp only [dnL, List.getElem_cons_succ]
    rw [this]
    congr 1
    omega
theorem sort_perm {l r : List Int} (h : l.Perm r) : sortI l = sortI r := by
  have key : ∀ l : List Int, (sortI l).Pairwise (· ≤ ·) := fun l => by
    have := List.pairwise_mergeSort (le := fun x y : Int => decide (x ≤ y)) (fun a b c h1 h2 => by simp at *; omega) (fun a b => by simp; omega) l
    exact this.imp (fun h => by simpa using h)
  refine List.Perm.eq_of_pairwise (le := (· ≤ ·)) (fun a b _ _ h1 h2 => Int.le_antisymm h1 h2) (key l) (key r) ?_
  exact ((List.mergeSort_perm l _).trans h).trans (List.mergeSort_perm r _).symm
def landC : Crd.CardL := ⟨1, 0, 0, 0, 0, 0, []⟩
/-- What the law's store holds behind k objects, of which j were moved. -/
structure TopS (S : StoreL) (k j : Nat) (lib hand : List Int) : Prop where
  T : S.T = [landC]
  seats : S.seats = 2
  wf : WfS S
  len : S.objs.length = k
  lib : S.pl 1 1 = lib
  hand : S.pl 1 2 = hand
  other : S.pl 0 2 = []
  owner : ∀ q (h : q < S.objs.length), S.objs[q].card = 0 ∧ S.objs[q].owner = 1
  zone : ∀ q (h : q < S.objs.length), S.objs[q].zone = if q < j then 2 else 1
theorem top_start : TopS ⟨[landC], 2, [], fun _ _ => []⟩ 0 0 [] [] :=
  ⟨rfl, rfl, WfS.none _ _, rfl, rfl, rfl, rfl, fun q h => by simp at h, fun q h => by simp at h⟩
theorem TopS.add {S : StoreL} {i : Nat} (h : TopS S i 0 (upL 0 i) []) : TopS (addL S 0 1 1) (i + 1) 0 (upL 0 (i + 1)) [] := by
  have hpl := addL_pl (n := 0) (owner := 1) (zone := 1) h.wf (by rw [h.seats]; decide) (by decide) (by decide)
  have e : canN 1 1 = 1 := rfl
  rw [e, h.lib, h.len] at hpl
  have hobj : (addL S 0 1 1).objs = S.objs ++ [freshO S.T (S.objs.length + 1) 0 1 1] := rfl
  refine ⟨h.T, h.seats, h.wf.add (by rw [h.T]; decide) (by rw [h.seats]; decide) (by decide) (by decide), ?_, ?_, ?_, ?_, fun q hq => ?_, fun q hq => ?_⟩
  · rw [hobj, List.length_append, h.len]; rfl
  · rw [hpl, upd_same, upL_snoc]
  · rw [hpl, upd_other _ _ (by decide)]; exact h.hand
  · rw [hpl, upd_other _ _ (by decide)]; exact h.other
  · simp only [hobj] at hq ⊢
    rw [List.length_append, List.length_singleton] at hq
    by_cases e : q < S.objs.length
    · rw [List.getElem_append_left e]; exact h.owner q e
    · obtain rfl : q = S.objs.length := by omega
      rw [List.getElem_append_right (Nat.le_refl _)]
      simp [freshO]
  · simp only [hobj] at hq ⊢
    rw [List.length_append, List.length_singleton] at hq
    by_cases e : q < S.objs.length
    · rw [List.getElem_append_left e]; exact h.zone q e
    · obtain rfl : q = S.objs.length := by omega
      rw [List.getElem_append_right (Nat.le_refl _)]
      simp [freshO]
theorem TopS.move {S : StoreL} {k j : Nat} (h : TopS S k j (upL j k) (dnL j)) (hj : j < k) : ∃ hk : j < S.objs.length, TopS (moveL S j S.objs[j] 2 false) k (j + 1) (upL (j + 1) k) (dnL (j + 1)) := by
  have hk : j < S.objs.length := by rw [h.len]; exact hj
  have hpl := moveL_pl (zone := 2) h.wf hk (by decide) (by decide) false
  obtain ⟨hc, ho⟩ := h.owner j hk
  have hz := h.zone j hk
  rw [if_neg (Nat.lt_irrefl j)] at hz
  have hkey : keyS S.objs[j] = 1 := by unfold keyS; rw [ho, hz]; rfl
  rw [hkey, hz, ho, show canN (1 : Int).toNat 2 = 1 from rfl, show (1 : Int).toNat = 1 from rfl, h.lib, upL_cons hj, List.erase_cons_head, if_neg (by decide), insL_top, upd_other _ _ (by decide), h.hand] at hpl
  refine ⟨hk, h.T, h.seats, h.wf.move hk (by decide) (by decide) false, ?_, ?_, ?_, ?_, fun q hq => ?_, fun q hq => ?_⟩
  · show (S.objs.set j _).length = k
    rw [List.length_set]; exact h.len
  · rw [hpl, upd_other _ _ (by decide), upd_same]
  · rw [hpl, upd_same]; rfl
  · rw [hpl, upd_other _ _ (by decide), upd_other _ _ (by decide)]; exact h.other
  · have hq' : q < S.objs.length := by have hq : q < (S.objs.set j _).length := hq; simpa using hq
    show ((S.objs.set j (freshO S.T ((j : Int) + 1) S.objs[j].card S.objs[j].owner 2))[q]'(by simpa using hq')).card = 0 ∧ ((S.objs.set j (freshO S.T ((j : Int) + 1) S.objs[j].card S.objs[j].owner 2))[q]'(by simpa using hq')).owner = 1
    rw [List.getElem_set]
    split
    · exact ⟨hc, ho⟩
    · exact h.owner q hq'
  · have hq' : q < S.objs.length := by have hq : q < (S.objs.set j _).length := hq; simpa using hq
    show ((S.objs.set j (freshO S.T ((j : Int) + 1) S.objs[j].card S.objs[j].owner 2))[q]'(by simpa using hq')).zone = _
    rw [List.getElem_set]
    split
    · rename_i e; subst e; rw [if_pos (by omega)]; rfl
    · rename_i e
      rw [h.zone q hq']
      by_cases e2 : q < j
      · rw [if_pos e2, if_pos (by omega)]
      · rw [if_neg e2, if_neg (by omega)]
end Go.Proofs.Ytkhgdfalbmkgcaa
