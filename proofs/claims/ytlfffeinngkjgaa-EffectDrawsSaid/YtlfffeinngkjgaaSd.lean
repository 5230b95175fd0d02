/- How strong creatures of a store are, and what changes them, for any number (layer 8); of no store. -/
import Derived.Test.YtlfffeinngkjgaaSc
import Derived.Test.YtlfffeinngkjgaaJe
namespace Go.Proofs.Ytlfffeinngkjgaa
open Go.RowKit Go.Maps
/-- The objects of a list of numbers, of some owners (of all, if none is told). -/
def objOf (S : StoreL) (id : Int) : ObjL := S.objs.getD (id - 1).toNat zeroO

def hasS (S : StoreL) (i : Int) : Prop := 1 ≤ i ∧ i ≤ (S.objs.length : Int)
instance (S : StoreL) (i : Int) : Decidable (hasS S i) := by unfold hasS; infer_instance
def cardS (S : StoreL) (o : ObjL) : Crd.CardL := S.T.getD o.card.toNat zeroC
def liveO (S : StoreL) (o : ObjL) : Bool := o.zone == 3 && (cardS S o).kind == 2
def creE (S : StoreL) (i : Int) : Int := if hasS S i then (if liveO S (objOf S i) then 0 else 10) else 7
def creO (S : StoreL) (i : Int) : ObjL := if creE S i = 0 then objOf S i else zeroO
def creC (S : StoreL) (i : Int) : Crd.CardL := if creE S i = 0 then cardS S (objOf S i) else zeroC
theorem objOf_at {S : StoreL} {k : Nat} (hk : k < S.objs.length) : objOf S ((k : Int) + 1) = S.objs[k] := by
  unfold objOf
  rw [show ((k : Int) + 1 - 1).toNat = k by omega]
  simp [List.getD, hk]
theorem cardS_at {S : StoreL} {o : ObjL} {n : Nat} (hc : o.card = n) (hn : n < S.T.length) : cardS S o = S.T[n] := by
  unfold cardS
  rw [hc]
  simp [List.getD, hn]
theorem creE_live {S : StoreL} {i : Int} (h : creE S i = 0) : ∃ k, ∃ hk : k < S.objs.length, i = (k : Int) + 1 ∧ objOf S i = S.objs[k] ∧ liveO S S.objs[k] = true := by
  unfold creE at h
  split at h
  · rename_i hh
    unfold hasS at hh
    obtain ⟨k, hk⟩ : ∃ k : Nat, i = (k : Int) + 1 := ⟨(i - 1).toNat, by omega⟩
    subst hk
    have hk : k < S.objs.length := by omega
    split at h
    · rename_i hl
      rw [objOf_at hk] at hl
      exact ⟨k, hk, rfl, objOf_at hk, hl⟩
    · omega
  · omega
/-- Hurt of a store, for any number. -/
def hurtS (S : StoreL) (i n : Int) : StoreL := if creE S i = 0 then setL S (i - 1).toNat (hurtO (objOf S i) n) else S
theorem hurtS_wf {S : StoreL} (h : WfS S) (i n : Int) : WfS (hurtS S i n) := by
  unfold hurtS
  split
  · rename_i hE
    obtain ⟨k, hk, rfl, ho, _⟩ := creE_live hE
    rw [ho, show ((k : Int) + 1 - 1).toNat = k by omega]
    exact h.set hk (h.ids k hk).1 rfl rfl rfl
  · exact h
theorem hurtS_len (S : StoreL) (i n : Int) : (hurtS S i n).objs.length = S.objs.length := by
  unfold hurtS
  split
  · exact List.length_set
  · rfl
theorem hurtS_at {S : StoreL} {k : Nat} (n : Int) (hE : creE S ((k : Int) + 1) = 0) : hurtS S ((k : Int) + 1) n = setL S k (hurtO (objOf S ((k : Int) + 1)) n) := by
  unfold hurtS
  rw [if_pos hE, show ((k : Int) + 1 - 1).toNat = k by omega]
/-- Count of a store, for any number. -/
def countS (S : StoreL) (i n : Int) : StoreL := if creE S i = 0 then setL S (i - 1).toNat (countO (objOf S i) n) else S
theorem countS_wf {S : StoreL} (h : WfS S) (i n : Int) : WfS (countS S i n) := by
  unfold countS
  split
  · rename_i hE
    obtain ⟨k, hk, rfl, ho, _⟩ := creE_live hE
    rw [ho, show ((k : Int) + 1 - 1).toNat = k by omega]
    exact h.set hk (h.ids k hk).1 rfl rfl rfl
  · exact h
theorem countS_len (S : StoreL) (i n : Int) : (countS S i n).objs.length = S.objs.length := by
  unfold countS
  split
  · exact List.length_set
  · rfl
theorem countS_at {S : StoreL} {k : Nat} (n : Int) (hE : creE S ((k : Int) + 1) = 0) : countS S ((k : Int) + 1) n = setL S k (countO (objOf S ((k : Int) + 1)) n) := by
  unfold countS
  rw [if_pos hE, show ((k : Int) + 1 - 1).toNat = k by omega]
/-- Boost of a store, for any number. -/
def boostS (S : StoreL) (i n : Int) : StoreL := if creE S i = 0 then setL S (i - 1).toNat (boostO (objOf S i) n) else S
theorem boostS_wf {S : StoreL} (h : WfS S) (i n : Int) : WfS (boostS S i n) := by
  unfold boostS
  split
  · rename_i hE
    obtain ⟨k, hk, rfl, ho, _⟩ := creE_live hE
    rw [ho, show ((k : Int) + 1 - 1).toNat = k by omega]
    exact h.set hk (h.ids k hk).1 rfl rfl rfl
  · exact h
theorem boostS_len (S : StoreL) (i n : Int) : (boostS S i n).objs.length = S.objs.length := by
  unfold boostS
  split
  · exact List.length_set
  · rfl
theorem boostS_at {S : StoreL} {k : Nat} (n : Int) (hE : creE S ((k : Int) + 1) = 0) : boostS S ((k : Int) + 1) n = setL S k (boostO (objOf S ((k : Int) + 1)) n) := by
  unfold boostS
  rw [if_pos hE, show ((k : Int) + 1 - 1).toNat = k by omega]
end Go.Proofs.Ytlfffeinngkjgaa
