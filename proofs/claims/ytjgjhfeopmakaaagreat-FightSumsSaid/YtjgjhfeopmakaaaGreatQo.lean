/- Plain facts on who attacks, who blocks, who is struck; creatures that have left (layer 17). -/
import Derived.Test.YtjgjhfeopmakaaaGreatQh
import Derived.Test.YtjgjhfeopmakaaaGreatQk
namespace Go.Proofs.YtjgjhfeopmakaaaGreat
open Go.RowKit Go.Maps

theorem crs_mem {S : StoreL} (h : WfS S) (hn : 1 ≤ S.seats) {x : Int} (hx : x ∈ crsL S) : ∃ k, ∃ hk : k < S.objs.length, x = (k : Int) + 1 ∧ objI S x = S.objs[k] ∧ S.objs[k].zone = 3 := by
  unfold crsL strL at hx
  rw [List.map_map] at hx
  obtain ⟨o, ho, rfl⟩ := List.mem_map.1 hx
  obtain ⟨hf, _⟩ := List.mem_filter.1 ho
  obtain ⟨k, hk, e, hid, hz, _⟩ := field_mem h hn hf
  have hx' : (Prod.fst ∘ itemO S) o = (k : Int) + 1 := hid
  rw [hx']
  refine ⟨k, hk, rfl, ?_, by rw [← e]; exact hz⟩
  unfold objI
  rw [if_pos (show hasS S ((k : Int) + 1) from ⟨by omega, by omega⟩), objOf_at hk]
theorem selP_sub {S : StoreL} {p : ObjL → Bool} {l : List Int} {x : Int} (h : x ∈ selP S p l) : x ∈ l ∧ p (objI S x) = true := List.mem_filter.1 h
theorem attack_mem {B : BoardL} {team x : Int} (h : x ∈ attackL B team) : x ∈ crsL B.S ∧ atkB B.T team (objI B.S x) = true := selP_sub h
theorem block_mem {B : BoardL} {i x : Int} (h : x ∈ blockL B i) : x ∈ crsL B.S ∧ (objI B.S x).block = i ∧ 1 ≤ i := by
  unfold blockL at h
  split at h
  · cases h
  · obtain ⟨h1, h2⟩ := selP_sub h
    exact ⟨h1, of_decide_eq_true h2, by omega⟩
theorem share_mem {S : StoreL} {i : Int} {l : List Int} : ∀ k, k ≤ l.length → ∀ h ∈ (shareK S i l k).2, h.x = i ∧ h.y ∈ l
  | 0, _, h, hh => by cases hh
  | k + 1, hk, h, hh => by
    rw [shareK] at hh
    rcases List.mem_append.1 hh with h1 | h1
    · exact share_mem k (by omega) h h1
    · have e : h = ⟨i, l.getD k 0, shareN S l k (shareK S i l k).1 (l.getD k 0)⟩ := by simpa using h1
      rw [e]
      refine ⟨rfl, ?_⟩
      show l.getD k 0 ∈ l
      have : l.getD k 0 = l[k] := by simp [show k < l.length by omega]
      rw [this]
      exact List.getElem_mem _
theorem next_bounds {w : World} {lo b s r : Nat} {T : TeamL} (h : TeamAt w lo b s r T) (k : Int) : -1 ≤ nextT T k ∧ nextT T k < 4 := by
  unfold nextT
  cases hi : inT T k with
  | false => simp
  | true =>
    rw [if_pos rfl]
    obtain ⟨j, rfl, hj⟩ := in_nat hi
    have h2 := h.n2
    have hb : nextN T ((j : Int)).toNat < T.sh.length := by
      rw [Int.toNat_natCast]
      unfold nextN
      cases (List.range T.sh.length).find? _ with
      | none => exact hj
      | some n => exact Nat.mod_lt _ (by omega)
    constructor
    · omega
    · show ((nextN T ((j : Int)).toNat : Nat) : Int) < 4
      omega
theorem place_next {w : World} {lo b s r : Nat} {T : TeamL} (h : TeamAt w lo b s r T) (k : Int) : placeT (nextT T k) = -1 - nextT T k := by
  have := next_bounds h k
  unfold placeT wrap64
  omega
/-- What a hit of the plan is. -/
theorem plan_mem {w : World} {lo : Nat} {g : GhostB} {B : BoardL} (hb : BoardAt w lo g B) {team : Int} {h : HitL} (hh : h ∈ planL B team) :
    ¬(h.z = 0) ∧ ((h.x ∈ attackL B team ∧ blockL B h.x = [] ∧ h.y = -1 - nextT B.T team ∧ h.z = powS B.S h.x) ∨ (h.x ∈ attackL B team ∧ h.y ∈ blockL B h.x ∧ h ∈ (shareK B.S h.x (blockL B h.x) (blockL B h.x).length).2) ∨ (h.y ∈ attackL B team ∧ h.x ∈ blockL B h.y ∧ h.z = powS B.S h.x)) := by
  unfold planL at hh
  obtain ⟨h1, h2⟩ := List.mem_filter.1 hh
  refine ⟨by unfold nzB at h2; simpa using h2, ?_⟩
  unfold planR at h1
  obtain ⟨i, hi, h3⟩ := List.mem_flatMap.1 h1
  unfold blowsL at h3
  split at h3
  · rename_i he
    have e : h = ⟨i, placeT (nextT B.T team), powS B.S i⟩ := by simpa using h3
    rw [e]
    exact .inl ⟨hi, he, place_next hb.tm team, rfl⟩
  · rcases List.mem_append.1 h3 with h4 | h4
    · obtain ⟨e1, e2⟩ := share_mem _ (Nat.le_refl _) h h4
      rw [← e1] at hi e2 h4
      exact .inr (.inl ⟨hi, e2, h4⟩)
    · obtain ⟨x, hx, rfl⟩ := List.mem_map.1 h4
      exact .inr (.inr ⟨hi, hx, rfl⟩)
theorem plan_none {B : BoardL} {team : Int} (h : attackL B team = []) : planL B team = [] := by unfold planL planR; rw [h]; rfl
/-- Creatures that came as they are told, some of which have left. -/
structure NobS (l : List ManL) (S : StoreL) (f : Int → Bool) : Prop where
  len : S.objs.length = l.length
  seats : S.seats = 4
  wf : WfS S
  same : ∀ k (h : k < S.objs.length) (h' : k < l.length), S.objs[k].zone = 3 → S.objs[k] = manO k l[k]
  gone : ∀ k (h : k < S.objs.length), f ((k : Int) + 1) = true → S.objs[k].zone ≠ 3
theorem NobS.start {T : List Crd.CardL} {S : StoreL} {l : List ManL} (h : Made17 T S l) : NobS l S (fun _ => false) :=
  ⟨h.len, h.seats, h.wf, fun k hk hk' _ => h.at' k hk hk', fun _ _ e => by cases e⟩
theorem NobS.move {l : List ManL} {S : StoreL} {f : Int → Bool} (h : NobS l S f) {i : Int} (hi : hasS S i) : NobS l (moveI S i 5) (fun y => if y = i then true else f y) := by
  obtain ⟨j, rfl⟩ : ∃ j : Nat, i = (j : Int) + 1 := ⟨(i - 1).toNat, by have := hi.1; omega⟩
  have hj : j < S.objs.length := by have := hi.2; omega
  rw [moveI_at hj]
  have hw := h.wf.move hj (zone := 5) (by omega) (by omega) false
  have hat : ∀ k (hk : k < S.objs.length), (moveL S j S.objs[j] 5 false).objs[k]'(by show k < (S.objs.set _ _).length; rw [List.length_set]; exact hk) = if j = k then freshO S.T ((j : Int) + 1) S.objs[j].card S.objs[j].owner (5 : Nat) else S.objs[k] := fun k hk => by
    show (S.objs.set j _)[k]'_ = _
    rw [List.getElem_set]
  refine ⟨by show (S.objs.set _ _).length = _; rw [List.length_set]; exact h.len, h.seats, hw, fun k hk hk' hz => ?_, fun k hk hf => ?_⟩
  · have hk0 : k < S.objs.length := by rw [h.len]; exact hk'
    rw [hat k hk0] at hz ⊢
    by_cases e : j = k
    · rw [if_pos e] at hz
      simp [freshO] at hz
    · rw [if_neg e] at hz ⊢
      exact h.same k hk0 hk' hz
  · have hk0 : k < S.objs.length := by have : (S.objs.set j (freshO S.T ((j : Int) + 1) S.objs[j].card S.objs[j].owner (5 : Nat))).length = S.objs.length := List.length_set ..; have h2 : k < (S.objs.set j (freshO S.T ((j : Int) + 1) S.objs[j].card S.objs[j].owner (5 : Nat))).length := hk; omega
    rw [hat k hk0]
    by_cases e : j = k
    · rw [if_pos e]
      simp [freshO]
    · rw [if_neg e]
      refine h.gone k hk0 ?_
      have : ¬((k : Int) + 1 = (j : Int) + 1) := by omega
      simpa [this] using hf
/-- Who is on the Field hasn't left, and is as it came. -/
theorem NobS.here {l : List ManL} {S : StoreL} {f : Int → Bool} (h : NobS l S f) {x : Int} (hx : x ∈ crsL S) : f x = false ∧ ∃ k, ∃ hk : k < l.length, x = (k : Int) + 1 ∧ objI S x = manO k l[k] := by
  obtain ⟨k, hk, rfl, ho, hz⟩ := crs_mem h.wf (by rw [h.seats]; decide) hx
  refine ⟨?_, k, by rw [← h.len]; exact hk, rfl, by rw [ho]; exact h.same k hk (by rw [← h.len]; exact hk) hz⟩
  cases hf : f ((k : Int) + 1) with
  | false => rfl
  | true => exact absurd hz (h.gone k hk hf)
end Go.Proofs.YtjgjhfeopmakaaaGreat
