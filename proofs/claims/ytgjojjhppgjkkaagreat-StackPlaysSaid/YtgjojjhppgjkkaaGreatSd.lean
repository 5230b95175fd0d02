/- How strong creatures of a store are, and what changes them, for any number (layer 8); of no store. -/
import Derived.Test.YtgjojjhppgjkkaaGreatSc
import Derived.Test.YtgjojjhppgjkkaaGreatJe
namespace Go.Proofs.YtgjojjhppgjkkaaGreat
open Go.RowKit Go.Maps
/-- The objects of a list of numbers, of some owners (of all, if none is told). -/
def objOf (S : StoreL) (id : Int) : ObjL := S.objs.getD (id - 1).toNat zeroO

def hasS (S : StoreL) (i : Int) : Prop := 1 ≤ i ∧ i ≤ (S.objs.length : Int)
instance (S : StoreL) (i : Int) : Decidable (hasS S i) := by unfold hasS; infer_instance
def cardS (S : StoreL) (o : ObjL) : Crd.CardL := S.T.getD o.card.toNat zeroC
def liveO (S : StoreL) (o : ObjL) : Bool := o.zone == 3 && (cardS S o).kind == 2
def creE (S : StoreL) (i : Int) : Int := if hasS S i then (if liveO S (objOf S i) then 0 else 10) else 7
def creO (S : StoreL) (i : Int) : ObjL := if creE S i = 0 then objOf S i else zeroO
def creC (S : StoreL) (i : Int) : Crd.CardL := if creE S i = 0 then cardS S (objOf S i) else zeroC
theorem objOf_at {S : StoreL} {k : Nat} (hk : k < S.objs.length) : objOf S ((k : Int) + 1) = S.objs[k] := by
  unfold objOf
  rw [show ((k : Int) + 1 - 1).toNat = k by omega]
  simp [List.getD, hk]
theorem cardS_at {S : StoreL} {o : ObjL} {n : Nat} (hc : o.card = n) (hn : n < S.T.length) : cardS S o = S.T[n] := by
  unfold cardS
  rw [hc]
  simp [List.getD, hn]
theorem creE_live {S : StoreL} {i : Int} (h : creE S i = 0) : ∃ k, ∃ hk : k < S.objs.length, i = (k : Int) + 1 ∧ objOf S i = S.objs[k] ∧ liveO S S.objs[k] = true := by
  unfold creE at h
  split at h
  · rename_i hh
    unfold hasS at hh
    obtain ⟨k, hk⟩ : ∃ k : Nat, i = (k : Int) + 1 := ⟨(i - 1).toNat, by omega⟩
    subst hk
    have hk : k < S.objs.length := by omega
    split at h
    · rename_i hl
      rw [objOf_at hk] at hl
      exact ⟨k, hk, rfl, objOf_at hk, hl⟩
    · omega
  · omega
set_option maxRecDepth 100000 in
set_option maxHeartbeats 4000000 in
theorem cre_any {w : World} {lo b : Nat} {G : Ghost} {S : StoreL} (h : StoreAt w lo b G S) (hS : WfS S) (hl : S.objs.length ≤ 1000) (i : Int) :
    Calls Tryz.prog 129 #[.pointer (some ⟨b, 0, none⟩), .int .i64 i] w (RetCre w (creO S i) (creC S i) (creE S i)) := by
  by_cases hh : hasS S i
  · obtain ⟨k, rfl⟩ : ∃ k : Nat, i = (k : Int) + 1 := ⟨(i - 1).toNat, by unfold hasS at hh; omega⟩
    have hk : k < S.objs.length := by unfold hasS at hh; omega
    obtain ⟨e1, e2, e3, _⟩ := hS.ids k hk
    obtain ⟨n, hn⟩ : ∃ n : Nat, S.objs[k].card = n := ⟨S.objs[k].card.toNat, by omega⟩
    have hn4 : n < S.T.length := by omega
    have hcr := creature_in h hl k n hk hn4 hn
    have hcs := cardS_at (S := S) hn hn4
    by_cases hlv : liveO S S.objs[k] = true
    · have hE : creE S ((k : Int) + 1) = 0 := by unfold creE; rw [if_pos hh, objOf_at hk, if_pos hlv]
      unfold creO creC
      rw [hE, if_pos rfl, if_pos rfl, objOf_at hk, hcs]
      unfold liveO at hlv
      rw [Bool.and_eq_true, hcs] at hlv
      exact hcr.1 (by simpa using hlv.1) (by simpa using hlv.2)
    · have hE : creE S ((k : Int) + 1) = 10 := by unfold creE; rw [if_pos hh, objOf_at hk, if_neg hlv]
      unfold creO creC
      rw [hE, if_neg (by decide), if_neg (by decide)]
      refine hcr.2 (fun hno => hlv ?_)
      unfold liveO
      rw [hcs, hno.1, hno.2]
      rfl
  · have hE : creE S i = 7 := by unfold creE; rw [if_neg hh]
    unfold creO creC
    rw [hE, if_neg (by decide), if_neg (by decide)]
    exact creature_out (by decide) (fun w' hb => get_out (h.later hb) hl i (by unfold hasS at hh; omega))
theorem cre_nil (i : Int) (w : World) : Calls Tryz.prog 129 #[.pointer none, .int .i64 i] w (RetCre w zeroO zeroC 1) := creature_out (by decide) (fun w' _ => get_nil i w')
theorem live_any {w : World} {lo b : Nat} {G : Ghost} {S : StoreL} (h : StoreAt w lo b G S) (hS : WfS S) (hl : S.objs.length ≤ 1000) (i : Int) :
    Calls Tryz.prog 110 #[.pointer (some ⟨b, 0, none⟩), .int .i64 i] w (RetV w (.bool (creE S i == 0))) := live_of (cre_any h hS hl i)
theorem live_nil (i : Int) (w : World) : Calls Tryz.prog 110 #[.pointer none, .int .i64 i] w (RetV w (.bool false)) := live_of (cre_nil i w)
/-- Hurt of a store, for any number. -/
def hurtS (S : StoreL) (i n : Int) : StoreL := if creE S i = 0 then setL S (i - 1).toNat (hurtO (objOf S i) n) else S
theorem hurt_any {w : World} {lo b : Nat} {G : Ghost} {S : StoreL} (h : StoreAt w lo b G S) (hS : WfS S) (hl : S.objs.length ≤ 1000) (i n : Int) :
    Calls Tryz.prog 113 #[.pointer (some ⟨b, 0, none⟩), .int .i64 i, .int .i64 n] w (RetS w lo b G (hurtS S i n) (.int .i64 (creE S i))) := by
  by_cases hE : creE S i = 0
  · obtain ⟨k, hk, rfl, ho, hlv⟩ := creE_live hE
    obtain ⟨e1, e2, e3, _⟩ := hS.ids k hk
    obtain ⟨m, hm⟩ : ∃ n : Nat, S.objs[k].card = n := ⟨S.objs[k].card.toNat, by omega⟩
    have hm4 : m < S.T.length := by omega
    unfold liveO at hlv
    rw [Bool.and_eq_true, cardS_at (S := S) hm hm4] at hlv
    unfold hurtS
    rw [hE, if_pos rfl, ho, show ((k : Int) + 1 - 1).toNat = k by omega]
    exact hurt_ok h hl k m hk hm4 hm (by simpa using hlv.1) (by simpa using hlv.2) e1 n
  · have e0 : creO S i = zeroO := by unfold creO; rw [if_neg hE]
    have e1 : creC S i = zeroC := by unfold creC; rw [if_neg hE]
    unfold hurtS
    rw [if_neg hE]
    refine (hurt_out (n := n) hE (fun w' hb => ?_)).mono ?_
    · have := cre_any (h.later hb) hS hl i
      rw [e0, e1] at this
      exact this
    · rintro e w' ⟨rfl, hb⟩
      exact ⟨rfl, G, h.later hb, Turned.of_below hb⟩
theorem hurt_nil (i n : Int) (w : World) : Calls Tryz.prog 113 #[.pointer none, .int .i64 i, .int .i64 n] w (RetV w (.int .i64 1)) := hurt_out (by decide) (fun w' _ => cre_nil i w')
theorem hurtS_wf {S : StoreL} (h : WfS S) (i n : Int) : WfS (hurtS S i n) := by
  unfold hurtS
  split
  · rename_i hE
    obtain ⟨k, hk, rfl, ho, _⟩ := creE_live hE
    rw [ho, show ((k : Int) + 1 - 1).toNat = k by omega]
    exact h.set hk (h.ids k hk).1 rfl rfl rfl
  · exact h
theorem hurtS_len (S : StoreL) (i n : Int) : (hurtS S i n).objs.length = S.objs.length := by
  unfold hurtS
  split
  · exact List.length_set
  · rfl
theorem hurtS_at {S : StoreL} {k : Nat} (n : Int) (hE : creE S ((k : Int) + 1) = 0) : hurtS S ((k : Int) + 1) n = setL S k (hurtO (objOf S ((k : Int) + 1)) n) := by
  unfold hurtS
  rw [if_pos hE, show ((k : Int) + 1 - 1).toNat = k by omega]
/-- Count of a store, for any number. -/
def countS (S : StoreL) (i n : Int) : StoreL := if creE S i = 0 then setL S (i - 1).toNat (countO (objOf S i) n) else S
theorem count_any {w : World} {lo b : Nat} {G : Ghost} {S : StoreL} (h : StoreAt w lo b G S) (hS : WfS S) (hl : S.objs.length ≤ 1000) (i n : Int) :
    Calls Tryz.prog 81 #[.pointer (some ⟨b, 0, none⟩), .int .i64 i, .int .i64 n] w (RetS w lo b G (countS S i n) (.int .i64 (creE S i))) := by
  by_cases hE : creE S i = 0
  · obtain ⟨k, hk, rfl, ho, hlv⟩ := creE_live hE
    obtain ⟨e1, e2, e3, _⟩ := hS.ids k hk
    obtain ⟨m, hm⟩ : ∃ n : Nat, S.objs[k].card = n := ⟨S.objs[k].card.toNat, by omega⟩
    have hm4 : m < S.T.length := by omega
    unfold liveO at hlv
    rw [Bool.and_eq_true, cardS_at (S := S) hm hm4] at hlv
    unfold countS
    rw [hE, if_pos rfl, ho, show ((k : Int) + 1 - 1).toNat = k by omega]
    exact count_ok h hl k m hk hm4 hm (by simpa using hlv.1) (by simpa using hlv.2) e1 n
  · have e0 : creO S i = zeroO := by unfold creO; rw [if_neg hE]
    have e1 : creC S i = zeroC := by unfold creC; rw [if_neg hE]
    unfold countS
    rw [if_neg hE]
    refine (count_out (n := n) hE (fun w' hb => ?_)).mono ?_
    · have := cre_any (h.later hb) hS hl i
      rw [e0, e1] at this
      exact this
    · rintro e w' ⟨rfl, hb⟩
      exact ⟨rfl, G, h.later hb, Turned.of_below hb⟩
theorem count_nil (i n : Int) (w : World) : Calls Tryz.prog 81 #[.pointer none, .int .i64 i, .int .i64 n] w (RetV w (.int .i64 1)) := count_out (by decide) (fun w' _ => cre_nil i w')
theorem countS_wf {S : StoreL} (h : WfS S) (i n : Int) : WfS (countS S i n) := by
  unfold countS
  split
  · rename_i hE
    obtain ⟨k, hk, rfl, ho, _⟩ := creE_live hE
    rw [ho, show ((k : Int) + 1 - 1).toNat = k by omega]
    exact h.set hk (h.ids k hk).1 rfl rfl rfl
  · exact h
theorem countS_len (S : StoreL) (i n : Int) : (countS S i n).objs.length = S.objs.length := by
  unfold countS
  split
  · exact List.length_set
  · rfl
theorem countS_at {S : StoreL} {k : Nat} (n : Int) (hE : creE S ((k : Int) + 1) = 0) : countS S ((k : Int) + 1) n = setL S k (countO (objOf S ((k : Int) + 1)) n) := by
  unfold countS
  rw [if_pos hE, show ((k : Int) + 1 - 1).toNat = k by omega]
/-- Boost of a store, for any number. -/
def boostS (S : StoreL) (i n : Int) : StoreL := if creE S i = 0 then setL S (i - 1).toNat (boostO (objOf S i) n) else S
theorem boost_any {w : World} {lo b : Nat} {G : Ghost} {S : StoreL} (h : StoreAt w lo b G S) (hS : WfS S) (hl : S.objs.length ≤ 1000) (i n : Int) :
    Calls Tryz.prog 80 #[.pointer (some ⟨b, 0, none⟩), .int .i64 i, .int .i64 n] w (RetS w lo b G (boostS S i n) (.int .i64 (creE S i))) := by
  by_cases hE : creE S i = 0
  · obtain ⟨k, hk, rfl, ho, hlv⟩ := creE_live hE
    obtain ⟨e1, e2, e3, _⟩ := hS.ids k hk
    obtain ⟨m, hm⟩ : ∃ n : Nat, S.objs[k].card = n := ⟨S.objs[k].card.toNat, by omega⟩
    have hm4 : m < S.T.length := by omega
    unfold liveO at hlv
    rw [Bool.and_eq_true, cardS_at (S := S) hm hm4] at hlv
    unfold boostS
    rw [hE, if_pos rfl, ho, show ((k : Int) + 1 - 1).toNat = k by omega]
    exact boost_ok h hl k m hk hm4 hm (by simpa using hlv.1) (by simpa using hlv.2) e1 n
  · have e0 : creO S i = zeroO := by unfold creO; rw [if_neg hE]
    have e1 : creC S i = zeroC := by unfold creC; rw [if_neg hE]
    unfold boostS
    rw [if_neg hE]
    refine (boost_out (n := n) hE (fun w' hb => ?_)).mono ?_
    · have := cre_any (h.later hb) hS hl i
      rw [e0, e1] at this
      exact this
    · rintro e w' ⟨rfl, hb⟩
      exact ⟨rfl, G, h.later hb, Turned.of_below hb⟩
theorem boost_nil (i n : Int) (w : World) : Calls Tryz.prog 80 #[.pointer none, .int .i64 i, .int .i64 n] w (RetV w (.int .i64 1)) := boost_out (by decide) (fun w' _ => cre_nil i w')
theorem boostS_wf {S : StoreL} (h : WfS S) (i n : Int) : WfS (boostS S i n) := by
  unfold boostS
  split
  · rename_i hE
    obtain ⟨k, hk, rfl, ho, _⟩ := creE_live hE
    rw [ho, show ((k : Int) + 1 - 1).toNat = k by omega]
    exact h.set hk (h.ids k hk).1 rfl rfl rfl
  · exact h
theorem boostS_len (S : StoreL) (i n : Int) : (boostS S i n).objs.length = S.objs.length := by
  unfold boostS
  split
  · exact List.length_set
  · rfl
theorem boostS_at {S : StoreL} {k : Nat} (n : Int) (hE : creE S ((k : Int) + 1) = 0) : boostS S ((k : Int) + 1) n = setL S k (boostO (objOf S ((k : Int) + 1)) n) := by
  unfold boostS
  rw [if_pos hE, show ((k : Int) + 1 - 1).toNat = k by omega]
end Go.Proofs.YtgjojjhppgjkkaaGreat
