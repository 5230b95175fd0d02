/- A seat's lands, in plain words (layer 7): which they are, and what is left when some are tapped. -/
import Derived.Test.YtkhgdfalbmkgcaaJd
import Derived.Test.YtkhgdfalbmkgcaaHp
namespace Go.Proofs.Ytkhgdfalbmkgcaa
open Go.RowKit Go.Maps

theorem WfS.like {S : StoreL} (h : WfS S) {l' : List ObjL} (hlen : l'.length = S.objs.length) (hget : ∀ k (hk : k < S.objs.length) (hk' : k < l'.length), l'[k].id = S.objs[k].id ∧ l'[k].card = S.objs[k].card ∧ l'[k].owner = S.objs[k].owner ∧ l'[k].zone = S.objs[k].zone) : WfS { S with objs := l' } := by
  refine ⟨fun j hj => ?_, h.nodup, fun s z ok id => ?_⟩
  · have hj' : j < S.objs.length := hlen ▸ hj
    have := hget j hj' hj
    show l'[j].id = _ ∧ _
    rw [this.1, this.2.1, this.2.2.1, this.2.2.2]
    exact h.ids j hj'
  · rw [h.mem s z ok id]
    show _ ↔ ∃ j, ∃ hj : j < l'.length, _
    constructor
    · rintro ⟨j, hj, e1, e2, e3⟩
      have := hget j hj (hlen.symm ▸ hj)
      refine ⟨j, hlen.symm ▸ hj, e1, ?_, ?_⟩
      · rw [← e2]; unfold keyS; rw [this.2.2.1, this.2.2.2]
      · rw [← e3, this.2.2.2]
    · rintro ⟨j, hj, e1, e2, e3⟩
      have hj' : j < S.objs.length := hlen ▸ hj
      have := hget j hj' hj
      refine ⟨j, hj', e1, ?_, ?_⟩
      · rw [← e2]; unfold keyS; rw [this.2.2.1, this.2.2.2]
      · rw [← e3, this.2.2.2]
/-- A seat's lands that aren't tapped, by their numbers. -/
def mineB (S : StoreL) (seat : Int) (o : ObjL) : Bool := o.owner == seat && (o.zone == 3 && landO S o)
def mineL (S : StoreL) (seat : Int) : List Int := (S.objs.filter (mineB S seat)).map (·.id)
theorem mineB_iff {S : StoreL} {seat : Int} {o : ObjL} : mineB S seat o = true ↔ o.owner = seat ∧ o.zone = 3 ∧ o.tapped = false ∧ isLandB S.T o.card = true := by
  unfold mineB landO
  simp
theorem mine_mem {S : StoreL} (h : WfS S) {seat i : Int} : i ∈ mineL S seat ↔ ∃ k, ∃ hk : k < S.objs.length, i = (k : Int) + 1 ∧ mineB S seat S.objs[k] = true := by
  unfold mineL
  rw [List.mem_map]
  constructor
  · rintro ⟨o, ho, rfl⟩
    obtain ⟨ho, hb⟩ := List.mem_filter.1 ho
    obtain ⟨k, hk, rfl⟩ := List.getElem_of_mem ho
    exact ⟨k, hk, (h.ids k hk).1, hb⟩
  · rintro ⟨k, hk, rfl, hb⟩
    exact ⟨S.objs[k], List.mem_filter.2 ⟨List.getElem_mem hk, hb⟩, (h.ids k hk).1⟩
theorem mine_rise {S : StoreL} (h : WfS S) (seat : Int) : (mineL S seat).Pairwise (fun x y => x < y) := by
  unfold mineL
  rw [List.pairwise_map]
  refine List.Pairwise.filter _ ?_
  rw [List.pairwise_iff_getElem]
  intro i j hi hj hij
  rw [(h.ids i hi).1, (h.ids j hj).1]
  omega
theorem mine_nodup {S : StoreL} (h : WfS S) (seat : Int) : (mineL S seat).Nodup := (mine_rise h seat).imp (fun h e => by omega)
theorem mine_len {S : StoreL} (seat : Int) : (mineL S seat).length ≤ S.objs.length := by
  unfold mineL
  rw [List.length_map]
  exact List.length_filter_le _ _
theorem lands_eq {S : StoreL} (h : WfS S) (hn : 1 ≤ S.seats) (seat : Int) : sortI (landIds S (fieldL S [seat])) = mineL S seat := by
  have ok : okK S.seats 0 3 := ⟨by omega, by decide, by decide, fun _ => rfl⟩
  have e1 : landIds S (fieldL S [seat]) = (S.pl 0 3).filter (fun i => ownB [seat] (objOf S i) && landO S (objOf S i)) := by
    unfold landIds fieldL selO
    rw [List.filter_filter, List.filter_map, List.map_map]
    have hg : ∀ l : List Int, (∀ i ∈ l, (objOf S i).id = i) → (l.filter ((fun a => landO S a && ownB [seat] a) ∘ objOf S)).map ((fun x => x.id) ∘ objOf S) = l.filter (fun i => ownB [seat] (objOf S i) && landO S (objOf S i)) := by
      intro l hl
      induction l with
      | nil => rfl
      | cons a l ih =>
        have iha := ih (fun i hi => hl i (List.mem_cons_of_mem _ hi))
        have ha := hl a List.mem_cons_self
        rw [List.filter_cons, List.filter_cons]
        have e : ((fun a => landO S a && ownB [seat] a) ∘ objOf S) a = (ownB [seat] (objOf S a) && landO S (objOf S a)) := by
          simp [Bool.and_comm]
        rw [e]
        split
        · rw [List.map_cons, iha]
          congr 1
        · exact iha
    refine hg _ (fun i hi => ?_)
    obtain ⟨k, hk, e, ho, _⟩ := h.onField hn hi
    rw [ho, (h.ids k hk).1, e]
  have hperm : (landIds S (fieldL S [seat])).Perm (mineL S seat) := by
    rw [List.perm_ext_iff_of_nodup (by rw [e1]; exact (h.nodup 0 3 ok).filter _) (mine_nodup h seat)]
    intro i
    rw [e1, List.mem_filter, mine_mem h]
    constructor
    · rintro ⟨hi, hb⟩
      obtain ⟨k, hk, e, ho, hz⟩ := h.onField hn hi
      rw [ho] at hb
      refine ⟨k, hk, e, ?_⟩
      rw [Bool.and_eq_true] at hb
      have hown : S.objs[k].owner = seat := by simpa [ownB] using hb.1
      unfold mineB
      rw [hb.2, hown, hz]
      simp
    · rintro ⟨k, hk, rfl, hb⟩
      obtain ⟨h1, h2, h3, h4⟩ := mineB_iff.1 hb
      have hm : ((k : Int) + 1) ∈ S.pl 0 3 := (h.mem 0 3 ok _).2 ⟨k, hk, rfl, by unfold keyS canN; rw [h2]; rfl, by rw [h2]; rfl⟩
      refine ⟨hm, ?_⟩
      have ho : objOf S ((k : Int) + 1) = S.objs[k] := by
        unfold objOf
        rw [show ((k : Int) + 1 - 1).toNat = k by omega]
        simp [List.getD, hk]
      rw [ho]
      unfold ownB landO
      rw [h3, h4, h1]
      simp
  rw [sort_perm hperm]
  unfold sortI
  exact List.mergeSort_of_pairwise ((mine_rise h seat).imp (fun h => decide_eq_true (by omega)))
theorem lands_mine {w : World} {lo b : Nat} {G : Ghost} {S : StoreL} (h : StoreAt w lo b G S) (hS : WfS S) (hl : S.objs.length ≤ 1000) (seat : Int) :
    Calls Try.prog 26 #[.pointer (some ⟨b, 0, none⟩), .int .i64 seat] w (RetList w (mineL S seat)) := by
  rw [← lands_eq hS h.n1]
  exact lands_any h hS hl seat
/-- Some objects are tapped. -/
def tapAll (S : StoreL) (X : List Int) : StoreL := { S with objs := S.objs.map fun o => if X.contains o.id then tapO o else o }
theorem tapAll_nil (S : StoreL) : tapAll S [] = S := by
  unfold tapAll
  have : (S.objs.map fun o => if ([] : List Int).contains o.id then tapO o else o) = S.objs := by simp
  rw [this]
theorem tapAll_len (S : StoreL) (X : List Int) : (tapAll S X).objs.length = S.objs.length := by simp [tapAll]
theorem tapAll_get {S : StoreL} (h : WfS S) (X : List Int) (k : Nat) (hk : k < S.objs.length) : (tapAll S X).objs[k]'(by rw [tapAll_len]; exact hk) = if X.contains ((k : Int) + 1) then tapO S.objs[k] else S.objs[k] := by
  simp only [tapAll, List.getElem_map]
  rw [(h.ids k hk).1]
theorem tapAll_wf {S : StoreL} (h : WfS S) (X : List Int) : WfS (tapAll S X) := by
  refine h.like (by simp) (fun k hk hk' => ?_)
  simp only [List.getElem_map]
  split <;> exact ⟨rfl, rfl, rfl, rfl⟩
theorem tapAll_snoc {S : StoreL} (h : WfS S) (X : List Int) (k : Nat) (hk : k < S.objs.length) :
    setL (tapAll S X) k (tapO ((tapAll S X).objs[k]'(by rw [tapAll_len]; exact hk))) = tapAll S (X ++ [(k : Int) + 1]) := by
  have e : (tapAll S X).objs.set k (tapO ((tapAll S X).objs[k]'(by rw [tapAll_len]; exact hk))) = (tapAll S (X ++ [(k : Int) + 1])).objs := by
    refine List.ext_getElem (by simp [tapAll]) (fun i h1 h2 => ?_)
    have hi : i < S.objs.length := by rw [tapAll_len] at h2; exact h2
    rw [List.getElem_set]
    by_cases e : k = i
    · subst e
      rw [if_pos rfl, tapAll_get h X k hk, tapAll_get h _ k hk, List.contains_append]
      have : ([(k : Int) + 1] : List Int).contains ((k : Int) + 1) = true := by simp
      rw [this, Bool.or_true, if_pos rfl]
      split <;> rfl
    · rw [if_neg e, tapAll_get h X i hi, tapAll_get h _ i hi, List.contains_append]
      have : ([(k : Int) + 1] : List Int).contains ((i : Int) + 1) = false := by simp; omega
      rw [this, Bool.or_false]
  unfold setL
  rw [e]
  rfl
theorem mine_tap {S : StoreL} (seat : Int) (X : List Int) : mineL (tapAll S X) seat = (mineL S seat).filter (fun i => !X.contains i) := by
  unfold mineL
  rw [List.filter_map, List.filter_filter]
  unfold tapAll
  simp only
  rw [List.filter_map, List.map_map]
  have key : ∀ o : ObjL, mineB (tapAll S X) seat (if X.contains o.id then tapO o else o) = (!X.contains o.id && mineB S seat o) := fun o => by
    by_cases e : X.contains o.id = true
    · rw [if_pos e, e]
      unfold mineB landO tapO
      simp
    · rw [if_neg e]
      rw [Bool.not_eq_true] at e
      rw [e]
      rfl
  have e1 : (mineB { S with objs := S.objs.map fun o => if X.contains o.id then tapO o else o } seat ∘ fun o => if X.contains o.id then tapO o else o) = fun o => ((fun i => !X.contains i) ∘ fun x => x.id) o && mineB S seat o := by
    funext o
    exact key o
  rw [e1]
  refine List.map_congr_left (fun o ho => ?_)
  show (if X.contains o.id then tapO o else o).id = o.id
  split <;> rfl
theorem filter_take {L : List Int} (h : L.Nodup) (c : Nat) : L.filter (fun i => !(L.take c).contains i) = L.drop c := by
  conv => lhs; arg 2; rw [← List.take_append_drop c L]
  rw [List.filter_append]
  have h' := h
  rw [← List.take_append_drop c L, List.nodup_append] at h'
  have e1 : (L.take c).filter (fun i => !(L.take c).contains i) = [] := by
    rw [List.filter_eq_nil_iff]
    intro a ha
    simp [ha]
  have e2 : (L.drop c).filter (fun i => !(L.take c).contains i) = L.drop c := by
    rw [List.filter_eq_self]
    intro a ha
    have : a ∉ L.take c := fun hm => h'.2.2 a hm a ha rfl
    simp [this]
  rw [e1, e2, List.nil_append]
end Go.Proofs.Ytkhgdfalbmkgcaa
