/- What paying and untapping leave of other seats' lands, in plain words (layer 7); lists that stay. -/
import Derived.Test.YtkhgdfalbmkgcaaJm
import Derived.Test.YtkhgdfalbmkgcaaJi
namespace Go.Proofs.Ytkhgdfalbmkgcaa
open Go.RowKit Go.Maps

/-- All lands of a seat on the Field, tapped or not. -/
def allB (S : StoreL) (seat : Int) (o : ObjL) : Bool := o.owner == seat && (o.zone == 3 && isLandB S.T o.card)
def allL (S : StoreL) (seat : Int) : List Int := (S.objs.filter (allB S seat)).map (·.id)
theorem map_filter_ids (f : ObjL → ObjL) (p q : ObjL → Bool) (hid : ∀ o, (f o).id = o.id) (hpq : ∀ o, p (f o) = q o) (l : List ObjL) : ((l.map f).filter p).map (·.id) = (l.filter q).map (·.id) := by
  rw [List.filter_map, List.map_map]
  have e : (p ∘ f) = q := by funext o; exact hpq o
  rw [e]
  exact List.map_congr_left (fun o _ => hid o)
theorem all_tap (S : StoreL) (X : List Int) (seat : Int) : allL (tapAll S X) seat = allL S seat := by
  refine map_filter_ids _ _ _ (fun o => ?_) (fun o => ?_) _
  · split <;> rfl
  · show allB (tapAll S X) seat _ = _
    split <;> rfl
theorem all_untap (S : StoreL) (os : List Int) (seat : Int) : allL (untapL S os) seat = allL S seat := by
  refine map_filter_ids _ _ _ (fun o => ?_) (fun o => ?_) _
  · split <;> rfl
  · show allB (untapL S os) seat _ = _
    split <;> rfl
theorem mine_untap_self (S : StoreL) (seat : Int) : mineL (untapL S [seat]) seat = allL S seat := by
  refine map_filter_ids _ _ _ (fun o => ?_) (fun o => ?_) _
  · split <;> rfl
  · show mineB (untapL S [seat]) seat _ = _
    by_cases h : onB [seat] o = true
    · rw [if_pos h]
      unfold mineB landO allB freeO
      simp
      rfl
    · rw [if_neg h]
      have h2 : (o.owner == seat && o.zone == 3) = false := by
        rw [Bool.not_eq_true] at h
        unfold onB at h
        rw [Bool.and_comm]
        simpa using h
      unfold mineB allB
      rw [← Bool.and_assoc, ← Bool.and_assoc, h2]
      rfl
theorem mine_untap_other (S : StoreL) {x y : Int} (h : x ≠ y) : mineL (untapL S [x]) y = mineL S y := by
  refine map_filter_ids _ _ _ (fun o => ?_) (fun o => ?_) _
  · split <;> rfl
  · show mineB (untapL S [x]) y _ = _
    by_cases h1 : onB [x] o = true
    · rw [if_pos h1]
      have h2 : o.owner = x := by unfold onB at h1; simp at h1; exact h1.2
      have h3 : (o.owner == y) = false := by rw [h2]; exact beq_eq_false_iff_ne.2 h
      unfold mineB freeO
      rw [h3]
      rfl
    · rw [if_neg h1]
      rfl
theorem mine_tap_other {S : StoreL} (hS : WfS S) {x y : Int} (h : x ≠ y) {X : List Int} (hX : ∀ i ∈ X, i ∈ mineL S x) : mineL (tapAll S X) y = mineL S y := by
  rw [mine_tap, List.filter_eq_self]
  intro i hi
  have : i ∉ X := fun hm => by
    obtain ⟨k, hk, e1, h1⟩ := (mine_mem hS).1 (hX i hm)
    obtain ⟨j, hj, e2, h2⟩ := (mine_mem hS).1 hi
    obtain rfl : j = k := by omega
    exact h ((mineB_iff.1 h1).1.symm.trans (mineB_iff.1 h2).1)
  simp [this]
/-- A list of the call's own that a store's changes leave. -/
structure KeptI (w : World) (G : Ghost) (v : Value) (l : List Int) : Prop where
  own : ∃ B, w.ownsRow B 3 1 v l.length (intsV l)
  far : ∀ k, v.ownBlock = some k → G.tag k = .no
theorem KeptI.turn {w w' : World} {G G' : Ghost} {v : Value} {l : List Int} (h : KeptI w G v l) (ht : Turned w w' G G') : KeptI w' G' v l := by
  obtain ⟨⟨B, ho⟩, hf⟩ := h
  have hlt := fun k (hk : v.ownBlock = some k) => (World.ownsRow.lt ho k hk).2
  exact ⟨⟨B, own11_later ho fun k hk => ht.chg.block k (hlt k hk) (.inl (hf k hk))⟩, fun k hk => (ht.tag k (hlt k hk)).trans (hf k hk)⟩
theorem KeptI.later {w w' : World} {G : Ghost} {v : Value} {l : List Int} (h : KeptI w G v l) (hb : Below w.heap.size w w') : KeptI w' G v l := by
  obtain ⟨⟨B, ho⟩, hf⟩ := h
  exact ⟨⟨B, own_later ho hb⟩, hf⟩
theorem KeptI.ints {w : World} {G : Ghost} {v : Value} {l : List Int} (h : KeptI w G v l) : IntsAt w v l := by
  obtain ⟨⟨B, ho⟩, _⟩ := h
  exact own_ints ho
theorem KeptI.new {w w' : World} {lo b : Nat} {G : Ghost} {S : StoreL} {v : Value} {l : List Int} (hs : StoreAt w lo b G S) (ho : w'.ownsRow w.heap.size 3 1 v l.length (intsV l)) : KeptI w' G v l :=
  ⟨⟨_, ho⟩, fun k hk => hs.high k (World.ownsRow.lt ho k hk).1⟩
end Go.Proofs.Ytkhgdfalbmkgcaa
