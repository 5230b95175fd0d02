/- What a round of checks does (layer 14), and that the board is stable behind it: plain facts. -/
import Derived.Test.YtdlkdilgjmmlaaaGreatWa
import Derived.Test.YtdlkdilgjmmlaaaGreatWb
import Derived.Test.YtdlkdilgjmmlaaaGreatKf
namespace Go.Proofs.YtdlkdilgjmmlaaaGreat
open Go.RowKit Go.Maps

/-! Who dies. -/
def buryS (S : StoreL) (l : List Int) : StoreL := l.foldl (fun S i => moveI S i 5) S
theorem buryS_snoc (S : StoreL) (l : List Int) (x : Int) : buryS S (l ++ [x]) = moveI (buryS S l) x 5 := by simp [buryS]
theorem keeps_bury (S : StoreL) (l : List Int) : KeepsO S (buryS S l) := by
  induction l generalizing S with
  | nil => exact KeepsO.refl S
  | cons i l ih => exact (keeps_move S i 5).trans (ih (moveI S i 5))
theorem hasS_nat {S : StoreL} {i : Int} (h : hasS S i) : ∃ k, ∃ _ : k < S.objs.length, i = (k : Int) + 1 := by
  unfold hasS at h
  exact ⟨(i - 1).toNat, by omega, by omega⟩
theorem moveI_wf {S : StoreL} (h : WfS S) {i : Int} (hi : hasS S i) : WfS (moveI S i 5) := by
  obtain ⟨k, hk, rfl⟩ := hasS_nat hi
  rw [moveI_at hk]
  exact h.move hk (by decide) (by decide) false
theorem bury_wf {S : StoreL} (h : WfS S) {l : List Int} (hl : ∀ i ∈ l, hasS S i) : WfS (buryS S l) := by
  induction l generalizing S with
  | nil => exact h
  | cons i l ih => exact ih (moveI_wf h (hl i (by simp))) (fun j hj => (keeps_move S i 5).has (hl j (by simp [hj])))
theorem moveI_obj {S : StoreL} {i j : Int} (hi : hasS S i) (hj : hasS S j) : objOf (moveI S i 5) j = if j = i then freshO S.T j (objOf S j).card (objOf S j).owner 5 else objOf S j := by
  obtain ⟨k, hk, rfl⟩ := hasS_nat hi
  obtain ⟨m, hm, rfl⟩ := hasS_nat hj
  rw [moveI_at hk, objOf_at hm]
  have hm' : m < (moveL S k S.objs[k] 5 false).objs.length := by simp [moveL, hm]
  rw [objOf_at hm']
  by_cases e : m = k
  · subst e
    rw [if_pos rfl]
    simp [moveL]
  · rw [if_neg (by omega)]
    simp [moveL, List.getElem_set_ne (Ne.symm e)]
theorem bury_obj {S : StoreL} {l : List Int} (hl : ∀ i ∈ l, hasS S i) {j : Int} (hj : hasS S j) : objOf (buryS S l) j = if j ∈ l then freshO S.T j (objOf S j).card (objOf S j).owner 5 else objOf S j := by
  induction l generalizing S with
  | nil => simp [buryS]
  | cons i l ih =>
    have hk := keeps_move S i 5
    have hi := hl i (by simp)
    have h1 := ih (S := moveI S i 5) (fun x hx => hk.has (hl x (by simp [hx]))) (hk.has hj)
    have h2 := moveI_obj hi hj
    show objOf (buryS (moveI S i 5) l) j = _
    rw [h1, h2, hk.T]
    by_cases e : j = i
    · subst e
      rw [if_pos rfl, if_pos (show j ∈ j :: l by simp)]
      by_cases e2 : j ∈ l
      · rw [if_pos e2]
        rfl
      · rw [if_neg e2]
    · rw [if_neg e]
      by_cases e2 : j ∈ l
      · rw [if_pos e2, if_pos (show j ∈ i :: l by simp [e2])]
      · rw [if_neg e2, if_neg (show ¬ j ∈ i :: l by simp [e, e2])]
theorem hasS_len {S S' : StoreL} (h : S'.objs.length = S.objs.length) (i : Int) : hasS S' i ↔ hasS S i := by unfold hasS; rw [h]
theorem cre_of {S S' : StoreL} (hT : S'.T = S.T) (hl : S'.objs.length = S.objs.length) {i : Int} (ho : objOf S' i = objOf S i) : creE S' i = creE S i ∧ creO S' i = creO S i ∧ creC S' i = creC S i := by
  have e : creE S' i = creE S i := by
    unfold creE liveO cardS
    rw [ho, hT]
    simp only [hasS_len hl]
  refine ⟨e, ?_, ?_⟩
  · unfold creO
    rw [e, ho]
  · unfold creC cardS
    rw [e, ho, hT]
theorem dead_of_cre {S S' : StoreL} (hT : S'.T = S.T) (hl : S'.objs.length = S.objs.length) {i : Int} (ho : objOf S' i = objOf S i) : deadS S' i = deadS S i := by
  obtain ⟨h1, h2, h3⟩ := cre_of hT hl ho
  unfold deadS touS
  rw [h1, h2, h3]
theorem dead_live {S : StoreL} {i : Int} (h : deadS S i = true) : creE S i = 0 := by
  unfold deadS at h
  simp at h
  exact h.1
theorem fieldL_all (S : StoreL) : fieldL S [] = (S.pl 0 3).map (objOf S) := by
  unfold fieldL selO
  apply List.filter_eq_self.2
  intro x _
  rfl
theorem mem_dies {S : StoreL} (h : WfS S) (hn : 1 ≤ S.seats) {i : Int} : i ∈ diesL S ↔ deadS S i = true := by
  unfold diesL diesO
  simp only [List.mem_map, List.mem_filter]
  constructor
  · rintro ⟨x, ⟨_, h2⟩, rfl⟩
    exact h2
  · intro hd
    obtain ⟨k, hk, rfl, ho, hv⟩ := creE_live (dead_live hd)
    unfold liveO at hv
    simp at hv
    refine ⟨S.objs[k], ⟨?_, ?_⟩, (h.ids k hk).1⟩
    · rw [fieldL_all]
      refine List.mem_map.2 ⟨(k : Int) + 1, (h.mem 0 3 ⟨by omega, by omega, by omega, fun _ => rfl⟩ _).2 ⟨k, hk, rfl, ?_, by rw [hv.1]; rfl⟩, ho⟩
      unfold keyS
      rw [hv.1]
      rfl
    · rw [(h.ids k hk).1]
      exact hd
theorem dies_has {S : StoreL} (h : WfS S) (hn : 1 ≤ S.seats) : ∀ i ∈ diesL S, hasS S i := fun _ hi => creE_has (dead_live ((mem_dies h hn).1 hi))
theorem dies_none {S : StoreL} (h : WfS S) (hn : 1 ≤ S.seats) : diesL (buryS S (diesL S)) = [] := by
  have hk := keeps_bury S (diesL S)
  have hw := bury_wf h (dies_has h hn)
  apply List.eq_nil_iff_forall_not_mem.2
  intro i hi
  have hd := (mem_dies hw (by rw [hk.seats]; exact hn)).1 hi
  have hc := dead_live hd
  have hs : hasS S i := (hasS_len hk.len i).1 (creE_has hc)
  have ho := bury_obj (dies_has h hn) hs
  by_cases e : i ∈ diesL S
  · rw [if_pos e] at ho
    obtain ⟨k, hk', rfl, ho2, hv⟩ := creE_live hc
    rw [← ho2, ho] at hv
    unfold liveO freshO at hv
    simp at hv
  · rw [if_neg e] at ho
    exact e ((mem_dies h hn).2 ((dead_of_cre hk.T hk.len ho).symm.trans hd))
theorem dies_filter {S : StoreL} (h : WfS S) (hn : 1 ≤ S.seats) : diesL S = (S.pl 0 3).filter (deadS S) := by
  unfold diesL diesO
  rw [fieldL_all, List.filter_map, List.map_map]
  have hid : ∀ x ∈ S.pl 0 3, (objOf S x).id = x := fun x hx => by
    obtain ⟨k, hk, rfl, ho, _⟩ := h.onField hn hx
    rw [ho]
    exact (h.ids k hk).1
  have e1 : (S.pl 0 3).filter ((fun o => deadS S o.id) ∘ objOf S) = (S.pl 0 3).filter (deadS S) := by
    apply List.filter_congr
    intro x hx
    show deadS S (objOf S x).id = _
    rw [hid x hx]
  rw [e1]
  have e2 : ∀ L : List Int, (∀ x ∈ L, (objOf S x).id = x) → L.map ((fun o => o.id) ∘ objOf S) = L := by
    intro L hL
    induction L with
    | nil => rfl
    | cons x L ih =>
      rw [List.map_cons, ih (fun y hy => hL y (by simp [hy]))]
      show (objOf S x).id :: L = _
      rw [hL x (by simp)]
  exact e2 _ (fun x hx => hid x (List.mem_filter.1 hx).1)
theorem dies_len {S : StoreL} (h : WfS S) (hn : 1 ≤ S.seats) : (diesL S).length ≤ S.objs.length := by
  rw [dies_filter h hn]
  refine Nat.le_trans (List.length_filter_le _ _) (nodup_len _ _ (h.nodup 0 3 ⟨by omega, by omega, by omega, fun _ => rfl⟩) fun x hx => ?_)
  obtain ⟨k, hk, rfl, _⟩ := h.onField hn hx
  omega

/-! Which teams lose. -/
def defT (T : TeamL) (l : List Int) : TeamL := l.foldl loseT T
theorem defT_snoc (T : TeamL) (l : List Int) (x : Int) : defT T (l ++ [x]) = loseT (defT T l) x := by simp [defT]
structure LostE (T T' : TeamL) (p : Int → Bool) : Prop where
  sides : T'.sides = T.sides
  len : T'.sh.length = T.sh.length
  life : ∀ x, lifeT T' x = lifeT T x
  poison : ∀ x, poisonT T' x = poisonT T x
  lost : ∀ x, lostT T' x = (lostT T x || p x)
theorem lose_e (T : TeamL) (k : Int) : LostE T (loseT T k) (fun x => x == k) := by
  unfold loseT
  cases hk : inT T k with
  | false =>
    rw [if_neg (by decide)]
    refine ⟨rfl, rfl, fun _ => rfl, fun _ => rfl, fun x => ?_⟩
    by_cases e : x = k
    · subst e
      unfold lostT
      rw [hk]
      rfl
    · rw [beq_eq_false_iff_ne.2 e, Bool.or_false]
  | true =>
    rw [if_pos rfl]
    obtain ⟨n, rfl, hn⟩ := in_nat hk
    rw [Int.toNat_natCast]
    have hin : ∀ x, inT (putT T n ⟨(shAt T n).life, (shAt T n).poison, true⟩) x = inT T x := fun x => by unfold inT putT; simp
    have hat : ∀ x : Int, inT T x = true → x ≠ (n : Int) → (putT T n ⟨(shAt T n).life, (shAt T n).poison, true⟩).sh.getD x.toNat ⟨0, 0, true⟩ = T.sh.getD x.toNat ⟨0, 0, true⟩ := fun x hx hne => by
      obtain ⟨m, rfl, hm⟩ := in_nat hx
      have hmn : n ≠ m := fun e => hne (by rw [e])
      unfold putT
      rw [Int.toNat_natCast]
      simp [List.getD, List.getElem?_set_ne hmn]
    have hsame : (putT T n ⟨(shAt T n).life, (shAt T n).poison, true⟩).sh.getD n ⟨0, 0, true⟩ = ⟨(shAt T n).life, (shAt T n).poison, true⟩ := by
      unfold putT
      simp [List.getD, hn]
    have hinn : inT T (n : Int) = true := inL_nat hn
    refine ⟨rfl, by simp [putT], fun x => ?_, fun x => ?_, fun x => ?_⟩
    · unfold lifeT
      rw [hin x]
      cases hx : inT T x with
      | false => rfl
      | true =>
        by_cases e : x = (n : Int)
        · subst e
          rw [Int.toNat_natCast, hsame]
          rfl
        · rw [hat x hx e]
    · unfold poisonT
      rw [hin x]
      cases hx : inT T x with
      | false => rfl
      | true =>
        by_cases e : x = (n : Int)
        · subst e
          rw [Int.toNat_natCast, hsame]
          rfl
        · rw [hat x hx e]
    · unfold lostT
      rw [hin x]
      by_cases e : x = (n : Int)
      · subst e
        rw [hinn, Int.toNat_natCast, hsame]
        simp
      · rw [beq_eq_false_iff_ne.2 e, Bool.or_false]
        cases hx : inT T x with
        | false => rfl
        | true => rw [hat x hx e]
theorem def_e (T : TeamL) (l : List Int) : LostE T (defT T l) (fun x => decide (x ∈ l)) := by
  induction l generalizing T with
  | nil => exact ⟨rfl, rfl, fun _ => rfl, fun _ => rfl, fun x => by simp [defT]⟩
  | cons k l ih =>
    have h1 := lose_e T k
    have h2 := ih (loseT T k)
    show LostE T (defT (loseT T k) l) _
    refine ⟨h2.sides.trans h1.sides, h2.len.trans h1.len, fun x => (h2.life x).trans (h1.life x), fun x => (h2.poison x).trans (h1.poison x), fun x => ?_⟩
    rw [h2.lost, h1.lost]
    by_cases e : x = k
    · subst e
      simp
    · rw [beq_eq_false_iff_ne.2 e]
      simp [e]
theorem seatsT_of {T T' : TeamL} (h : T'.sides = T.sides) (t : Int) : seatsT T' t = seatsT T t := by unfold seatsT ofT; rw [h]
theorem dryT_of {B B' : BoardL} (hs : B'.S.seats = B.S.seats) (hd : B'.D = B.D) (k : Int) : dryT B' k = dryT B k := by unfold dryT hasT; rw [hs, hd]
theorem parchT_of {B B' : BoardL} (hs : B'.S.seats = B.S.seats) (ht : B'.T.sides = B.T.sides) (hd : B'.D = B.D) (t : Int) : parchT B' t = parchT B t := by
  unfold parchT
  rw [seatsT_of ht, show dryT B' = dryT B from funext (dryT_of hs hd)]
theorem doomT_of {B B' : BoardL} {p : Int → Bool} (hs : B'.S.seats = B.S.seats) (ht : LostE B.T B'.T p) (hd : B'.D = B.D) {t : Int} (hp : p t = false) : doomT B' t = doomT B t := by
  unfold doomT
  rw [ht.lost, ht.life, ht.poison, parchT_of hs ht.sides hd, hp, Bool.or_false]
theorem dry0_get (k : Int) : dry0.get k = false := by
  unfold DryL.get dry0
  split <;> (try rfl) <;> split <;> (try rfl) <;> split <;> (try rfl) <;> split <;> rfl
theorem parch_dry0 {B : BoardL} (hd : B.D = dry0) (t : Int) : parchT B t = false := by
  unfold parchT
  apply List.any_eq_false.2
  intro x _
  unfold dryT
  rw [hd, dry0_get, Bool.and_false]
  decide
def lostsL (B : BoardL) : List Int := upTo (fun n => doomT B n) B.T.sh.length
theorem upTo_mem {p : Nat → Bool} {k : Nat} {x : Int} : x ∈ upTo p k ↔ ∃ n : Nat, n < k ∧ p n = true ∧ x = (n : Int) := by
  unfold upTo
  simp only [List.mem_map, List.mem_filter, List.mem_range]
  constructor
  · rintro ⟨n, ⟨h1, h2⟩, rfl⟩
    exact ⟨n, h1, h2, rfl⟩
  · rintro ⟨n, h1, h2, rfl⟩
    exact ⟨n, ⟨h1, h2⟩, rfl⟩
theorem upTo_at {p : Nat → Bool} {k n : Nat} : ((n : Int) ∈ upTo p k) ↔ n < k ∧ p n = true := by
  rw [upTo_mem]
  constructor
  · rintro ⟨m, h1, h2, h3⟩
    obtain rfl : n = m := by omega
    exact ⟨h1, h2⟩
  · rintro ⟨h1, h2⟩
    exact ⟨n, h1, h2, rfl⟩

/-! A round, and behind it. -/
def midB (B : BoardL) : BoardL := ⟨buryS B.S (diesL B.S), B.T, B.D⟩
def roundB (B : BoardL) : BoardL := ⟨buryS B.S (diesL B.S), defT B.T (lostsL B), dry0⟩
def stableT (B : BoardL) : Bool := (diesL B.S).isEmpty && (List.range B.T.sh.length).all (fun n => !(doomT B n || parchT B n))
theorem doom_mid (B : BoardL) (t : Int) : doomT (midB B) t = doomT B t := by
  refine doomT_of (B := B) (B' := midB B) (p := fun _ => false) (keeps_bury B.S (diesL B.S)).seats ⟨rfl, rfl, fun _ => rfl, fun _ => rfl, fun x => ?_⟩ rfl rfl
  rw [Bool.or_false]
  rfl
theorem losts_mid (B : BoardL) : lostsL (midB B) = lostsL B := by
  unfold lostsL
  rw [show (fun n : Nat => doomT (midB B) n) = (fun n : Nat => doomT B n) from funext fun n => doom_mid B n]
  rfl
theorem doom_round (B : BoardL) {n : Nat} (hn : n < B.T.sh.length) : doomT (roundB B) n = false := by
  have he := def_e B.T (lostsL B)
  have hp : parchT (roundB B) n = false := parch_dry0 rfl _
  unfold doomT
  rw [hp]
  show (!lostT (defT B.T (lostsL B)) n && (decide (lifeT (defT B.T (lostsL B)) n ≤ 0) || (decide (10 ≤ poisonT (defT B.T (lostsL B)) n) || false))) = false
  rw [he.lost, he.life, he.poison]
  cases hd : doomT B n with
  | true =>
    have hm : (n : Int) ∈ lostsL B := upTo_at.2 ⟨hn, hd⟩
    simp [hm]
  | false =>
    have hm : ¬ (n : Int) ∈ lostsL B := fun e => by
      have := (upTo_at.1 e).2
      rw [hd] at this
      cases this
    unfold doomT at hd
    simp [hm]
    simp at hd
    intro hl
    have := hd hl
    omega
theorem stable_round {B : BoardL} (h : WfS B.S) (hn : 1 ≤ B.S.seats) : stableT (roundB B) = true := by
  unfold stableT
  rw [show (roundB B).S = buryS B.S (diesL B.S) from rfl, dies_none h hn, Bool.and_eq_true]
  refine ⟨rfl, List.all_eq_true.2 fun n hm => ?_⟩
  have hlt : n < B.T.sh.length := by
    have := List.mem_range.1 hm
    rw [show (roundB B).T = defT B.T (lostsL B) from rfl, (def_e B.T (lostsL B)).len] at this
    exact this
  rw [doom_round B hlt, parch_dry0 rfl]
  rfl
end Go.Proofs.YtdlkdilgjmmlaaaGreat
