/- What the law ManaUntaps (layer 7) holds: things in rows of the call's own, how many are away, what an object is like behind Untap. -/
import Derived.Test.YtkhgdfalbmkgcaaJn
import Derived.Deep.AppendLies
namespace Go.Proofs.Ytkhgdfalbmkgcaa
open Go.RowKit Go.Maps

def thing5 (x : ThingL) : List Value := [.int .i64 x.card, .int .i64 x.owner, .int .i64 x.zone, .bool x.tapped, .bool x.sick]
def thingsV (l : List ThingL) : List Value := l.flatMap thing5
theorem thingsV_len (l : List ThingL) : (thingsV l).length = l.length * 5 := by
  induction l with
  | nil => rfl
  | cons o l ih => simp only [thingsV, List.flatMap_cons, List.length_append, List.length_cons] at ih ⊢; rw [ih]; simp [thing5]; omega
theorem thingsV_at : ∀ (l : List ThingL) (k j : Nat) (h : k < l.length) (_ : j < 5), (thingsV l)[k * 5 + j]? = (thing5 l[k])[j]?
  | [], k, j, h, _ => by simp at h
  | o :: l, 0, j, _, hj => by
    simp only [thingsV, List.flatMap_cons, Nat.zero_mul, Nat.zero_add, List.getElem_cons_zero]
    exact List.getElem?_append_left (by simpa [thing5] using hj)
  | o :: l, k + 1, j, h, hj => by
    have e : (thingsV (o :: l))[(k + 1) * 5 + j]? = (thingsV l)[k * 5 + j]? := by
      rw [show (k + 1) * 5 + j = k * 5 + j + 5 by omega]
      simp [thingsV, thing5]
    rw [e, thingsV_at l k j (by simpa using h) hj]
    rfl
theorem thingsV_one (l : List ThingL) : ∀ u ∈ thingsV l, u.oneCell' = true := by
  intro u hu
  simp only [thingsV, List.mem_flatMap] at hu
  obtain ⟨t, _, hu⟩ := hu
  simp only [thing5, List.mem_cons, List.not_mem_nil, or_false] at hu
  rcases hu with rfl | rfl | rfl | rfl | rfl <;> rfl
theorem things_news {w : World} {b off xc : Nat} {l : List ThingL} (h : ThingsAt w (.slice (some ⟨b, off, none⟩) l.length xc) l) : ∀ j u, (thingsV l)[j]? = some u → w.cell? ((⟨b, off, none⟩ : Addr).add j) = some u := by
  intro j u hu
  have hj : j < l.length * 5 := by
    have := (List.getElem?_eq_some_iff.1 hu).1
    rwa [thingsV_len] at this
  obtain ⟨b', off', e, c0, c1, c2, c3, c4⟩ := h.at (j / 5) (by omega)
  injection e with e
  injection e with e1 e2
  subst e1 e2
  have hv := thingsV_at l (j / 5) (j % 5) (by omega) (Nat.mod_lt _ (by decide))
  rw [show j / 5 * 5 + j % 5 = j by omega, hu] at hv
  rw [show (⟨b, off, none⟩ : Addr).add j = ⟨b, off + j, none⟩ by simp [Addr.add]]
  have h5 : j % 5 < 5 := Nat.mod_lt _ (by decide)
  rcases (show j % 5 = 0 ∨ j % 5 = 1 ∨ j % 5 = 2 ∨ j % 5 = 3 ∨ j % 5 = 4 by omega) with e | e | e | e | e
  · rw [e] at hv
    rw [show off + j = off + j / 5 * 5 by omega, c0, hv]; rfl
  · rw [e] at hv
    rw [show off + j = off + j / 5 * 5 + 1 by omega, c1, hv]; rfl
  · rw [e] at hv
    rw [show off + j = off + j / 5 * 5 + 2 by omega, c2, hv]; rfl
  · rw [e] at hv
    rw [show off + j = off + j / 5 * 5 + 3 by omega, c3, hv]; rfl
  · rw [e] at hv
    rw [show off + j = off + j / 5 * 5 + 4 by omega, c4, hv]; rfl
theorem things_own {w : World} {base : Nat} {t : TypeId} {v : Value} {l : List ThingL} (h : w.ownsRow base t 5 v l.length (thingsV l)) : ThingsAt w v l := by
  rcases h.2 with ⟨rfl, h0⟩ | ⟨g, cap, cur, rfl, hb, hg, hn, hm, hs, ht⟩
  · exact .inl ⟨_, _, rfl, List.eq_nil_of_length_eq_zero h0⟩
  · refine .inr ⟨g, 0, cap, rfl, (Array.getElem?_eq_some_iff.1 hg).1, fun i hi => ?_⟩
    have hc : ∀ j (hj : j < 5), w.cell? ⟨g, i * 5 + j, none⟩ = (thing5 l[i])[j]? := fun j hj => by
      rw [← thingsV_at l i j hi hj, cell_of_row w g (i * 5 + j) _ _ (0, 0) hg, ← ht, List.getElem?_take_of_lt (by omega)]
      simp
    rw [Nat.zero_add]
    exact ⟨hc 0 (by decide), hc 1 (by decide), hc 2 (by decide), hc 3 (by decide), hc 4 (by decide)⟩
theorem own_fz {w : World} {base sz g n cap : Nat} {t : TypeId} {xs : List Value} (h : w.ownsRow base t sz (.slice (some ⟨g, 0, none⟩) n cap) n xs) : ∀ j, w.frozen? ⟨g, j, none⟩ = false := by
  rcases h.2 with ⟨e, _⟩ | ⟨g', cap', cur, e, _, hg, _⟩
  · cases e
  · injection e with e1 _ _
    injection e1 with e1
    injection e1 with e1 _ _
    subst e1
    exact fun j => frozen_of_row w g j _ _ hg
def tapT (x : ThingL) : ThingL := ⟨x.card, x.owner, x.zone, true, x.sick⟩
theorem thingsV_tap (l : List ThingL) (k : Nat) (hk : k < l.length) : (thingsV l).set (k * 5 + 3) (.bool true) = thingsV (l.set k (tapT l[k])) := by
  have hL : l.set k (tapT l[k]) = l.take k ++ tapT l[k] :: l.drop (k + 1) := List.set_eq_take_append_cons_drop.trans (if_pos hk)
  have e1 : thingsV l = thingsV (l.take k) ++ (thing5 l[k] ++ thingsV (l.drop (k + 1))) := by
    conv => lhs; rw [← List.take_append_drop k l, List.drop_eq_getElem_cons hk]
    simp only [thingsV, List.flatMap_append, List.flatMap_cons]
  have hlen : (thingsV (l.take k)).length = k * 5 := by rw [thingsV_len, List.length_take]; congr 1; omega
  rw [hL, e1]
  have e2 : thingsV (l.take k ++ tapT l[k] :: l.drop (k + 1)) = thingsV (l.take k) ++ (thing5 (tapT l[k]) ++ thingsV (l.drop (k + 1))) := by
    simp only [thingsV, List.flatMap_append, List.flatMap_cons]
  rw [e2, List.set_append_right _ _ (by omega), show k * 5 + 3 - (thingsV (l.take k)).length = 3 by omega]
  rfl
theorem info_thing : (Try.prog.info? 62).map (fun i => (i.zero, i.size, i.bytes)) = some (some (.agg #[.int .i64 0, .int .i64 0, .int .i64 0, .bool false, .bool false]), 5, 32) := by kernel_rfl
/-- The things, tapped and set. -/
theorem MadeS.tap {S : StoreL} {l : List ThingL} (h : MadeS S l) (k : Nat) (hk : k < l.length) : MadeS (setL S k (tapO (objT k l[k]))) (l.set k (tapT l[k])) := by
  have hkS : k < S.objs.length := by rw [h.len]; exact hk
  have hget : S.objs[k] = objT k l[k] := by
    have : ∀ (L : List ObjL) (hL : L = objsT l) (hh : k < L.length), L[k] = objT k l[k] := fun L hL hh => by subst hL; exact objsT_get l k hk
    exact this _ h.objs hkS
  refine ⟨h.T, h.seats, ?_, h.wf.set hkS rfl (by rw [hget]; rfl) (by rw [hget]; rfl) (by rw [hget]; rfl)⟩
  show S.objs.set k (tapO (objT k l[k])) = objsT (l.set k (tapT l[k]))
  rw [h.objs]
  refine List.ext_getElem (by simp [objsT_len]) (fun i h1 h2 => ?_)
  rw [objsT_len, List.length_set] at h2
  rw [objsT_get _ i (by rw [List.length_set]; exact h2), List.getElem_set, List.getElem_set]
  by_cases e : k = i
  · subst e; rw [if_pos rfl, if_pos rfl]; rfl
  · rw [if_neg e, if_neg e, objsT_get l i h2]
theorem playT.tap {l : List ThingL} (h : playT l) (k : Nat) (hk : k < l.length) : playT (l.set k (tapT l[k])) := by
  refine ⟨by rw [List.length_set]; exact h.1, ?_⟩
  rw [List.all_eq_true]
  intro x hx
  rcases List.mem_or_eq_of_mem_set hx with hx | rfl
  · exact List.all_eq_true.1 h.2 x hx
  · have := List.all_eq_true.1 h.2 l[k] (List.getElem_mem hk)
    exact this
/-- How many are away: on the Field, some seats', tapped or sick. -/
def onT (os : List Int) (x : ThingL) : Bool := decide (x.zone = 3) && decide (x.owner ∈ os)
def awayT (os : List Int) (x : ThingL) : Bool := onT os x && (x.tapped || x.sick)
def cntT (os : List Int) (l : List ThingL) : Nat := (l.filter (awayT os)).length
theorem cntT_snoc (os : List Int) (l : List ThingL) (x : ThingL) : cntT os (l ++ [x]) = cntT os l + (if awayT os x then 1 else 0) := by
  unfold cntT
  rw [List.filter_append, List.length_append]
  by_cases h : awayT os x = true
  · simp [h]
  · simp [h]
theorem cntT_le (os : List Int) (l : List ThingL) : cntT os l ≤ l.length := List.length_filter_le _ _
theorem onB_T (os : List Int) (k : Nat) (x : ThingL) : onB os (objT k x) = onT os x := by
  unfold onB onT objT
  rw [Bool.eq_iff_iff]
  simp
theorem untapN_made {S : StoreL} {l : List ThingL} (h : MadeS S l) (os : List Int) : untapN S os = cntT os l := by
  unfold untapN cntT
  rw [h.objs]
  unfold objsT
  rw [List.filter_map, List.length_map]
  have e : ((fun o => onB os o && awayO o) ∘ fun p : ThingL × Nat => objT p.2 p.1) = (awayT os) ∘ Prod.fst := by
    funext p
    show (onB os (objT p.2 p.1) && awayO (objT p.2 p.1)) = _
    rw [onB_T]
    rfl
  rw [e, ← List.length_map (f := Prod.fst), ← List.filter_map, List.zipIdx_map_fst]
theorem untap_again (S : StoreL) (os : List Int) : untapL (untapL S os) os = untapL S os ∧ untapN (untapL S os) os = 0 := by
  constructor
  · have e : (untapL (untapL S os) os).objs = (untapL S os).objs := by
      unfold untapL
      dsimp only
      rw [List.map_map]
      refine List.map_congr_left (fun o _ => ?_)
      show (if onB os (if onB os o then freeO o else o) then freeO (if onB os o then freeO o else o) else (if onB os o then freeO o else o)) = _
      by_cases h : onB os o = true
      · rw [if_pos h]
        split <;> rfl
      · rw [if_neg h, if_neg h]
    show ({ S with objs := (untapL (untapL S os) os).objs } : StoreL) = _
    rw [e]
    rfl
  · unfold untapN untapL
    dsimp only
    rw [List.length_eq_zero_iff, List.filter_eq_nil_iff]
    intro y hy
    obtain ⟨o, _, rfl⟩ := List.mem_map.1 hy
    by_cases h : onB os o = true
    · rw [if_pos h]
      simp [awayO, freeO]
    · rw [if_neg h, Bool.and_eq_true]
      exact fun hh => h hh.1
theorem untap_get {S : StoreL} {l : List ThingL} (h : MadeS S l) (os : List Int) (k : Nat) (hk : k < l.length) :
    ∃ hh : k < (untapL S os).objs.length, (untapL S os).objs[k] = ⟨(k : Int) + 1, l[k].card, l[k].owner, l[k].zone, l[k].tapped && !onT os l[k], l[k].sick && !onT os l[k], 0, 0, 0, 0, false⟩ := by
  have hkS : k < S.objs.length := by rw [h.len]; exact hk
  have hget : S.objs[k] = objT k l[k] := by
    have : ∀ (L : List ObjL) (hL : L = objsT l) (hh : k < L.length), L[k] = objT k l[k] := fun L hL hh => by subst hL; exact objsT_get l k hk
    exact this _ h.objs hkS
  refine ⟨by rw [untapL_len]; exact hkS, ?_⟩
  simp only [untapL, List.getElem_map]
  rw [hget, onB_T]
  by_cases e : onT os l[k] = true
  · rw [if_pos e, e]
    simp [freeO, objT]
  · rw [if_neg e]
    rw [Bool.not_eq_true] at e
    rw [e]
    simp [objT]
end Go.Proofs.Ytkhgdfalbmkgcaa
