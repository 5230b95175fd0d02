/- How strong creatures of a store are, and what changes them, for any number (layer 8); of no store. -/
import Derived.Test.YthciiapdfjemaaaSb
import Derived.Test.YthciiapdfjemaaaJe
namespace Go.Proofs.Ythciiapdfjemaaa
open Go.RowKit Go.Maps

def hasS (S : StoreL) (i : Int) : Prop := 1 ≤ i ∧ i ≤ (S.objs.length : Int)
instance (S : StoreL) (i : Int) : Decidable (hasS S i) := by unfold hasS; infer_instance
def cardS (S : StoreL) (o : ObjL) : Crd.CardL := S.T.getD o.card.toNat zeroC
def liveO (S : StoreL) (o : ObjL) : Bool := o.zone == 3 && (cardS S o).kind == 2
def creE (S : StoreL) (i : Int) : Int := if hasS S i then (if liveO S (objOf S i) then 0 else 10) else 7
def creO (S : StoreL) (i : Int) : ObjL := if creE S i = 0 then objOf S i else zeroO
def creC (S : StoreL) (i : Int) : Crd.CardL := if creE S i = 0 then cardS S (objOf S i) else zeroC
theorem objOf_at {S : StoreL} {k : Nat} (hk : k < S.objs.length) : objOf S ((k : Int) + 1) = S.objs[k] := by
  unfold objOf
  rw [show ((k : Int) + 1 - 1).toNat = k by omega]
  simp [List.getD, hk]
theorem cardS_at {S : StoreL} {o : ObjL} {n : Nat} (hc : o.card = n) (hn : n < S.T.length) : cardS S o = S.T[n] := by
  unfold cardS
  rw [hc]
  simp [List.getD, hn]
theorem creE_live {S : StoreL} {i : Int} (h : creE S i = 0) : ∃ k, ∃ hk : k < S.objs.length, i = (k : Int) + 1 ∧ objOf S i = S.objs[k] ∧ liveO S S.objs[k] = true := by
  unfold creE at h
  split at h
  · rename_i hh
    unfold hasS at hh
    obtain ⟨k, hk⟩ : ∃ k : Nat, i = (k : Int) + 1 := ⟨(i - 1).toNat, by omega⟩
    subst hk
    have hk : k < S.objs.length := by omega
    split at h
    · rename_i hl
      rw [objOf_at hk] at hl
      exact ⟨k, hk, rfl, objOf_at hk, hl⟩
    · omega
  · omega
set_option maxRecDepth 100000 in
set_option maxHeartbeats 4000000 in
theorem cre_any {w : World} {lo b : Nat} {G : Ghost} {S : StoreL} (h : StoreAt w lo b G S) (hS : WfS S) (hl : S.objs.length ≤ 1000) (i : Int) :
    Calls Try.prog 55 #[.pointer (some ⟨b, 0, none⟩), .int .i64 i] w (RetCre w (creO S i) (creC S i) (creE S i)) := by
  by_cases hh : hasS S i
  · obtain ⟨k, rfl⟩ : ∃ k : Nat, i = (k : Int) + 1 := ⟨(i - 1).toNat, by unfold hasS at hh; omega⟩
    have hk : k < S.objs.length := by unfold hasS at hh; omega
    obtain ⟨e1, e2, e3, _⟩ := hS.ids k hk
    obtain ⟨n, hn⟩ : ∃ n : Nat, S.objs[k].card = n := ⟨S.objs[k].card.toNat, by omega⟩
    have hn4 : n < S.T.length := by omega
    have hcr := creature_in h hl k n hk hn4 hn
    have hcs := cardS_at (S := S) hn hn4
    by_cases hlv : liveO S S.objs[k] = true
    · have hE : creE S ((k : Int) + 1) = 0 := by unfold creE; rw [if_pos hh, objOf_at hk, if_pos hlv]
      unfold creO creC
      rw [hE, if_pos rfl, if_pos rfl, objOf_at hk, hcs]
      unfold liveO at hlv
      rw [Bool.and_eq_true, hcs] at hlv
      exact hcr.1 (by simpa using hlv.1) (by simpa using hlv.2)
    · have hE : creE S ((k : Int) + 1) = 10 := by unfold creE; rw [if_pos hh, objOf_at hk, if_neg hlv]
      unfold creO creC
      rw [hE, if_neg (by decide), if_neg (by decide)]
      refine hcr.2 (fun hno => hlv ?_)
      unfold liveO
      rw [hcs, hno.1, hno.2]
      rfl
  · have hE : creE S i = 7 := by unfold creE; rw [if_neg hh]
    unfold creO creC
    rw [hE, if_neg (by decide), if_neg (by decide)]
    exact creature_out (by decide) (fun w' hb => get_out (h.later hb) hl i (by unfold hasS at hh; omega))
theorem cre_nil (i : Int) (w : World) : Calls Try.prog 55 #[.pointer none, .int .i64 i] w (RetCre w zeroO zeroC 1) := creature_out (by decide) (fun w' _ => get_nil i w')
theorem live_any {w : World} {lo b : Nat} {G : Ghost} {S : StoreL} (h : StoreAt w lo b G S) (hS : WfS S) (hl : S.objs.length ≤ 1000) (i : Int) :
    Calls Try.prog 40 #[.pointer (some ⟨b, 0, none⟩), .int .i64 i] w (RetV w (.bool (creE S i == 0))) := live_of (cre_any h hS hl i)
theorem live_nil (i : Int) (w : World) : Calls Try.prog 40 #[.pointer none, .int .i64 i] w (RetV w (.bool false)) := live_of (cre_nil i w)
end Go.Proofs.Ythciiapdfjemaaa
