/- What may be aimed at (layer 10): owned, may, Check. The teams of the laws of layer 10; the document's example. -/
import Derived.Test.YtgjojjhppgjkkaaGreatSd
import Derived.Test.YtgjojjhppgjkkaaGreatTk
import Derived.Test.YtgjojjhppgjkkaaGreatJm
namespace Go.Proofs.YtgjojjhppgjkkaaGreat
open Go.RowKit Go.Maps

set_option maxRecDepth 100000 in
set_option maxHeartbeats 4000000 in
theorem owned_in {w : World} {lo b tlo tb s r : Nat} {G : Ghost} {S : StoreL} {T : TeamL} (h : StoreAt w lo b G S) (hl : S.objs.length ≤ 1000) (ht : TeamAt w tlo tb s r T) (seat : Int) (k : Nat) (hk : k < S.objs.length) :
    Calls Tryz.prog 111 #[.pointer (some ⟨b, 0, none⟩), .pointer (some ⟨tb, 0, none⟩), .int .i64 seat, .int .i64 ((k : Int) + 1)] w (RetV w (.bool (matesT T seat S.objs[k].owner))) := by
  have HG := Lib.hid (get_in h hl k hk)
  have HT := Lib.hid ht
  obtain ⟨x, hx⟩ : ∃ x, S.objs[k] = x := ⟨_, rfl⟩
  rw [hx] at HG ⊢
  clear h ht hx hk hl
  obtain ⟨x0, x1, x2, x3, x4, x5, x6, x7, x8, x9, x10⟩ := x
  unfold RetGet oagg at HG
  dsimp only at HG ⊢
  go_enter Tryz.func111, Tryz.ntmps111
  go_wp2_with fail
  refine HG.out.mono ?_
  rintro e w1 ⟨rfl, hb1⟩
  have HB1 := Lib.hid (below_alloc2 hb1 (.cells #[.int .i64 x0, .int .i64 x1, .int .i64 x2, .int .i64 x3, .bool x4, .bool x5, .int .i64 x6, .int .i64 x7, .int .i64 x8, .int .i64 x9, .bool x10] 35))
  clear hb1
  dsimp only
  go_wp2_with fail
  refine (tmates_any (HT.out.later HB1.out) _ _).mono ?_
  rintro e w2 ⟨rfl, rfl⟩
  go_wp2
  go_ret
  exact ⟨rfl, HB1.out⟩

/-- Whether something may be aimed at, in plain words. -/
def ownT (T : TeamL) (S : StoreL) (seat i : Int) : Bool := matesT T seat (objOf S i).owner
def mayT (T : TeamL) (S : StoreL) (seat on i : Int) : Bool :=
  if on = 1 then creE S i == 0 else if on = 2 then (creE S i == 0) && !ownT T S seat i else if on = 3 then (creE S i == 0) && ownT T S seat i else if on = 4 then (i != ofT T seat) && !lostT T i else i == 0
def chkT (T : TeamL) (S : StoreL) (seat on i : Int) : Int := if ofT T seat < 0 ∨ on < 0 ∨ 4 < on then 1 else if mayT T S seat on i then 0 else 12

set_option maxRecDepth 100000 in
set_option maxHeartbeats 4000000 in
theorem may_any {w : World} {lo b tlo tb s r : Nat} {G : Ghost} {S : StoreL} {T : TeamL} (h : StoreAt w lo b G S) (hS : WfS S) (hl : S.objs.length ≤ 1000) (ht : TeamAt w tlo tb s r T) (seat on i : Int) (h0 : 0 ≤ on) (h4 : on ≤ 4) :
    Calls Tryz.prog 78 #[.pointer (some ⟨b, 0, none⟩), .pointer (some ⟨tb, 0, none⟩), .int .i64 seat, .int .i64 on, .int .i64 i] w (RetV w (.bool (mayT T S seat on i))) := by
  have HL := Lib.hid (live_any h hS hl i)
  have HOF := Lib.hid (tof_any ht seat)
  have HLO := Lib.hid (tlost_any ht i)
  have HOW : Hid (creE S i = 0 → ∀ w', Below w.heap.size w w' → Calls Tryz.prog 111 #[.pointer (some ⟨b, 0, none⟩), .pointer (some ⟨tb, 0, none⟩), .int .i64 seat, .int .i64 i] w' (RetV w' (.bool (ownT T S seat i)))) := Lib.hid (fun hc w' hb => by
    obtain ⟨k, hk, rfl, ho, _⟩ := creE_live hc
    unfold ownT
    rw [ho]
    exact owned_in (h.later hb) hl (ht.later hb) seat k hk)
  clear h ht
  have hc : on = 0 ∨ on = 1 ∨ on = 2 ∨ on = 3 ∨ on = 4 := by omega
  unfold mayT
  rcases hc with rfl | rfl | rfl | rfl | rfl
  · rw [if_neg (by decide), if_neg (by decide), if_neg (by decide), if_neg (by decide)]
    clear HL HOF HLO HOW
    go_enter Tryz.func78, Tryz.ntmps78
    go_wp2
    go_ret
    exact ⟨rfl, Below.refl _ _⟩
  · rw [if_pos rfl]
    go_enter Tryz.func78, Tryz.ntmps78
    go_wp2_with fail
    refine HL.out.mono ?_
    rintro e w1 ⟨rfl, hb1⟩
    go_wp2
    go_ret
    exact ⟨rfl, hb1⟩
  · rw [if_neg (by decide), if_pos rfl]
    by_cases hc : creE S i = 0
    · have HO := Lib.hid (HOW.out hc)
      have ec : (creE S i == 0) = true := by rw [hc]; rfl
      rw [ec] at HL ⊢
      rw [Bool.true_and]
      obtain ⟨o, ho⟩ : ∃ o, ownT T S seat i = o := ⟨_, rfl⟩
      rw [ho] at HO ⊢
      clear hc ec ho
      go_enter Tryz.func78, Tryz.ntmps78
      go_wp2_with fail
      refine HL.out.mono ?_
      rintro e w1 ⟨rfl, hb1⟩
      go_wp2_with fail
      refine (HO.out w1 hb1).mono ?_
      rintro e w2 ⟨rfl, hb2⟩
      go_wp2
      go_ret
      exact ⟨rfl, stepB hb1 hb2⟩
    · have ec : (creE S i == 0) = false := beq_eq_false_iff_ne.2 hc
      rw [ec] at HL ⊢
      rw [Bool.false_and]
      clear hc ec
      go_enter Tryz.func78, Tryz.ntmps78
      go_wp2_with fail
      refine HL.out.mono ?_
      rintro e w1 ⟨rfl, hb1⟩
      go_wp2
      go_ret
      exact ⟨rfl, hb1⟩
  · rw [if_neg (by decide), if_neg (by decide), if_pos rfl]
    by_cases hc : creE S i = 0
    · have HO := Lib.hid (HOW.out hc)
      have ec : (creE S i == 0) = true := by rw [hc]; rfl
      rw [ec] at HL ⊢
      rw [Bool.true_and]
      obtain ⟨o, ho⟩ : ∃ o, ownT T S seat i = o := ⟨_, rfl⟩
      rw [ho] at HO ⊢
      clear hc ec ho
      go_enter Tryz.func78, Tryz.ntmps78
      go_wp2_with fail
      refine HL.out.mono ?_
      rintro e w1 ⟨rfl, hb1⟩
      go_wp2_with fail
      refine (HO.out w1 hb1).mono ?_
      rintro e w2 ⟨rfl, hb2⟩
      go_wp2
      go_ret
      exact ⟨rfl, stepB hb1 hb2⟩
    · have ec : (creE S i == 0) = false := beq_eq_false_iff_ne.2 hc
      rw [ec] at HL ⊢
      rw [Bool.false_and]
      clear hc ec
      go_enter Tryz.func78, Tryz.ntmps78
      go_wp2_with fail
      refine HL.out.mono ?_
      rintro e w1 ⟨rfl, hb1⟩
      go_wp2
      go_ret
      exact ⟨rfl, hb1⟩
  · rw [if_neg (by decide), if_neg (by decide), if_neg (by decide), if_pos rfl]
    clear HL HOW
    obtain ⟨q, hq⟩ : ∃ q, ofT T seat = q := ⟨_, rfl⟩
    rw [hq] at HOF ⊢
    obtain ⟨z, hz⟩ : ∃ z, lostT T i = z := ⟨_, rfl⟩
    rw [hz] at HLO ⊢
    clear hq hz
    by_cases hc : i = q
    · have ec : (i != q) = false := by rw [hc]; exact bne_self_eq_false _
      rw [ec, Bool.false_and]
      clear hc HLO
      go_enter Tryz.func78, Tryz.ntmps78
      go_wp2_with fail
      refine HOF.out.mono ?_
      rintro e w1 ⟨rfl, rfl⟩
      go_wp2
      go_ret
      exact ⟨rfl, Below.refl _ _⟩
    · have ec : (i != q) = true := bne_iff_ne.2 hc
      rw [ec, Bool.true_and]
      clear hc
      go_enter Tryz.func78, Tryz.ntmps78
      go_wp2_with fail
      refine HOF.out.mono ?_
      rintro e w1 ⟨rfl, rfl⟩
      go_wp2_with fail
      refine HLO.out.mono ?_
      rintro e w2 ⟨rfl, rfl⟩
      go_wp2
      go_ret
      exact ⟨rfl, Below.refl _ _⟩
set_option maxRecDepth 100000 in
set_option maxHeartbeats 4000000 in
theorem aimCheck_any {w : World} {lo b tlo tb s r : Nat} {G : Ghost} {S : StoreL} {T : TeamL} (h : StoreAt w lo b G S) (hS : WfS S) (hl : S.objs.length ≤ 1000) (ht : TeamAt w tlo tb s r T) (seat on i : Int) :
    Calls Tryz.prog 46 #[.pointer (some ⟨b, 0, none⟩), .pointer (some ⟨tb, 0, none⟩), .int .i64 seat, .int .i64 on, .int .i64 i] w (RetV w (.int .i64 (chkT T S seat on i))) := by
  have HOF := Lib.hid (tof_any ht seat)
  have HM := Lib.hid (fun h0 h4 => may_any h hS hl ht seat on i h0 h4)
  clear h ht
  unfold chkT
  obtain ⟨q, hq⟩ : ∃ q, ofT T seat = q := ⟨_, rfl⟩
  rw [hq] at HOF ⊢
  clear hq
  by_cases h1 : q < 0
  · have d1 : decide (q < 0) = true := decide_eq_true h1
    rw [if_pos (.inl h1)]
    clear h1 HM
    go_enter Tryz.func46, Tryz.ntmps46
    go_wp2_with fail
    refine HOF.out.mono ?_
    rintro e w1 ⟨rfl, rfl⟩
    go_wp2
    go_ret
    exact ⟨rfl, Below.refl _ _⟩
  have d1 : decide (q < 0) = false := decide_eq_false h1
  by_cases h2 : on < 0
  · have d2 : decide (on < 0) = true := decide_eq_true h2
    rw [if_pos (.inr (.inl h2))]
    clear h1 h2 HM
    go_enter Tryz.func46, Tryz.ntmps46
    go_wp2_with fail
    refine HOF.out.mono ?_
    rintro e w1 ⟨rfl, rfl⟩
    go_wp2
    go_ret
    exact ⟨rfl, Below.refl _ _⟩
  have d2 : decide (on < 0) = false := decide_eq_false h2
  by_cases h3 : 4 < on
  · have d3 : decide (4 < on) = true := decide_eq_true h3
    rw [if_pos (.inr (.inr h3))]
    clear h1 h2 h3 HM
    go_enter Tryz.func46, Tryz.ntmps46
    go_wp2_with fail
    refine HOF.out.mono ?_
    rintro e w1 ⟨rfl, rfl⟩
    go_wp2
    go_ret
    exact ⟨rfl, Below.refl _ _⟩
  have d3 : decide (4 < on) = false := decide_eq_false h3
  rw [if_neg (by omega)]
  have HM2 := Lib.hid (HM.out (by omega) (by omega))
  obtain ⟨z, hz⟩ : ∃ z, mayT T S seat on i = z := ⟨_, rfl⟩
  rw [hz] at HM2 ⊢
  clear hz h1 h2 h3 HM
  cases z with
  | true =>
    rw [if_pos rfl]
    go_enter Tryz.func46, Tryz.ntmps46
    go_wp2_with fail
    refine HOF.out.mono ?_
    rintro e w1 ⟨rfl, rfl⟩
    go_wp2_with fail
    refine HM2.out.mono ?_
    rintro e w2 ⟨rfl, hb2⟩
    go_wp2
    go_ret
    exact ⟨rfl, hb2⟩
  | false =>
    rw [if_neg (by decide)]
    go_enter Tryz.func46, Tryz.ntmps46
    go_wp2_with fail
    refine HOF.out.mono ?_
    rintro e w1 ⟨rfl, rfl⟩
    go_wp2_with fail
    refine HM2.out.mono ?_
    rintro e w2 ⟨rfl, hb2⟩
    go_wp2
    go_ret
    exact ⟨rfl, hb2⟩
set_option maxRecDepth 100000 in
theorem aimCheck_nilS (p : Option Addr) (seat on i : Int) (w : World) :
    Calls Tryz.prog 46 #[.pointer none, .pointer p, .int .i64 seat, .int .i64 on, .int .i64 i] w (RetV w (.int .i64 1)) := by
  go_enter Tryz.func46, Tryz.ntmps46
  go_wp2
  go_ret
  exact ⟨rfl, Below.refl _ _⟩
set_option maxRecDepth 100000 in
theorem aimCheck_nilT (b : Nat) (seat on i : Int) (w : World) :
    Calls Tryz.prog 46 #[.pointer (some ⟨b, 0, none⟩), .pointer none, .int .i64 seat, .int .i64 on, .int .i64 i] w (RetV w (.int .i64 1)) := by
  go_enter Tryz.func46, Tryz.ntmps46
  go_wp2_with fail
  refine (of_nil seat w).mono ?_
  rintro e w1 ⟨rfl, rfl⟩
  go_wp2
  go_ret
  exact ⟨rfl, Below.refl _ _⟩
end Go.Proofs.YtgjojjhppgjkkaaGreat
namespace Go.Proofs.YtgjojjhppgjkkaaGreat
open Go.RowKit Go.Maps

def sidesT (n : Nat) : TeamL := if n % 3 = 1 then newT [0, 1, 1, 1] [30, 30] else if n % 3 = 2 then newT [0, 1, 2, 3] [20, 20, 20, 20] else newT [0, 0, 1, 1] [30, 30]
def RetSides (w : World) (T : TeamL) (e : Ending) (w' : World) : Prop := ∃ lo b s r, e = .returned (.pointer (some ⟨b, 0, none⟩)) ∧ TeamAt w' lo b s r T ∧ w.heap.size ≤ lo ∧ Below w.heap.size w w'
theorem new4_any {w : World} {g1 g2 c1 c2 : Nat} {S L : List Int} (h1 : w.heap[g1]? = some (.cells (intsV S).toArray 3 (0, 0))) (h2 : w.heap[g2]? = some (.cells (intsV L).toArray 3 (0, 0))) (hS : S.length ≤ 4) (hL : L.length ≤ 4) (hm : MayP S L) :
    Calls Tryz.prog 66 #[.slice (some ⟨g1, 0, none⟩) S.length c1, .slice (some ⟨g2, 0, none⟩) L.length c2] w (RetNewT w true (newT S L)) :=
  new9_any (by have h := RowAt.vals h1 c1; rwa [intsV_len] at h) (by have h := RowAt.vals h2 c2; rwa [intsV_len] at h) (by omega) (by omega) ⟨fun _ => hm, fun _ => rfl⟩
set_option maxRecDepth 100000 in
set_option maxHeartbeats 4000000 in
theorem sides_any {n : Nat} (hn : n < 256) (w : World) : Calls Tryz.prog 37 #[.int .u8 n] w (RetSides w (sidesT n)) := by
  have hc : (n : Int) % 3 = 0 ∨ (n : Int) % 3 = 1 ∨ (n : Int) % 3 = 2 := by omega
  have b2 := below_alloc2 (below_new w (.cells #[.int .i64 0, .int .i64 0, .int .i64 1, .int .i64 1] 3)) (.cells #[.int .i64 30, .int .i64 30] 3)
  have HB2 := Lib.hid b2
  rcases hc with hm | hm | hm
  · have hs : sidesT n = newT [0, 0, 1, 1] [30, 30] := by unfold sidesT; rw [if_neg (by omega), if_neg (by omega)]
    rw [hs]
    have HN := Lib.hid (new4_any (w := (w.alloc (.cells #[.int .i64 0, .int .i64 0, .int .i64 1, .int .i64 1] 3)).alloc (.cells #[.int .i64 30, .int .i64 30] 3)) (g1 := w.heap.size) (g2 := w.heap.size + 1) (c1 := 4) (c2 := 2) (S := [0, 0, 1, 1]) (L := [30, 30]) ((below_new _ _).block _ (by simp) |>.trans (heap_alloc_new w _)) (by have h := heap_alloc_new (w.alloc (.cells #[.int .i64 0, .int .i64 0, .int .i64 1, .int .i64 1] 3)) (.cells #[.int .i64 30, .int .i64 30] 3); rw [World.size_alloc] at h; exact h) (by simp) (by simp) (by unfold MayP FitP; decide))
    clear b2 hs
    go_enter Tryz.func37, Tryz.ntmps37
    go_wp2_with fail
    refine HN.out.mono ?_
    rintro e w2 ⟨hyes, _, hb2⟩
    obtain ⟨b, s, r, rfl, ht⟩ := hyes rfl
    have HT := Lib.hid ht
    have HB := Lib.hid (stepB HB2.out hb2)
    clear hyes ht hb2 HN
    dsimp only
    go_wp2
    go_ret
    exact ⟨_, b, s, r, rfl, HT.out, HB2.out.size, HB.out⟩
  · have hs : sidesT n = newT [0, 1, 1, 1] [30, 30] := by unfold sidesT; rw [if_pos (by omega)]
    rw [hs]
    have b3 := below_alloc2 b2 (.cells #[.int .i64 0, .int .i64 1, .int .i64 1, .int .i64 1] 3)
    have HB3 := Lib.hid b3
    have HN := Lib.hid (new4_any (w := ((w.alloc (.cells #[.int .i64 0, .int .i64 0, .int .i64 1, .int .i64 1] 3)).alloc (.cells #[.int .i64 30, .int .i64 30] 3)).alloc (.cells #[.int .i64 0, .int .i64 1, .int .i64 1, .int .i64 1] 3)) (g1 := w.heap.size + 2) (g2 := w.heap.size + 1) (c1 := 4) (c2 := 2) (S := [0, 1, 1, 1]) (L := [30, 30]) (by have h := heap_alloc_new ((w.alloc (.cells #[.int .i64 0, .int .i64 0, .int .i64 1, .int .i64 1] 3)).alloc (.cells #[.int .i64 30, .int .i64 30] 3)) (.cells #[.int .i64 0, .int .i64 1, .int .i64 1, .int .i64 1] 3); simp only [World.size_alloc] at h; exact h) (by have h := heap_alloc_new (w.alloc (.cells #[.int .i64 0, .int .i64 0, .int .i64 1, .int .i64 1] 3)) (.cells #[.int .i64 30, .int .i64 30] 3); rw [World.size_alloc] at h; exact ((below_new _ _).block _ (by simp)).trans h) (by simp) (by simp) (by unfold MayP FitP; decide))
    clear b2 b3 hs HB2
    go_enter Tryz.func37, Tryz.ntmps37
    go_wp2_with fail
    refine HN.out.mono ?_
    rintro e w2 ⟨hyes, _, hb2⟩
    obtain ⟨b, s, r, rfl, ht⟩ := hyes rfl
    have HT := Lib.hid ht
    have HB := Lib.hid (stepB HB3.out hb2)
    clear hyes ht hb2 HN
    dsimp only
    go_wp2
    go_ret
    exact ⟨_, b, s, r, rfl, HT.out, HB3.out.size, HB.out⟩
  · have hs : sidesT n = newT [0, 1, 2, 3] [20, 20, 20, 20] := by unfold sidesT; rw [if_neg (by omega), if_pos (by omega)]
    rw [hs]
    have b3 := below_alloc2 (below_alloc2 b2 (.cells #[.int .i64 0, .int .i64 1, .int .i64 2, .int .i64 3] 3)) (.cells #[.int .i64 20, .int .i64 20, .int .i64 20, .int .i64 20] 3)
    have HB3 := Lib.hid b3
    have HN := Lib.hid (new4_any (w := (((w.alloc (.cells #[.int .i64 0, .int .i64 0, .int .i64 1, .int .i64 1] 3)).alloc (.cells #[.int .i64 30, .int .i64 30] 3)).alloc (.cells #[.int .i64 0, .int .i64 1, .int .i64 2, .int .i64 3] 3)).alloc (.cells #[.int .i64 20, .int .i64 20, .int .i64 20, .int .i64 20] 3)) (g1 := w.heap.size + 2) (g2 := w.heap.size + 3) (c1 := 4) (c2 := 4) (S := [0, 1, 2, 3]) (L := [20, 20, 20, 20]) (by have h := heap_alloc_new ((w.alloc (.cells #[.int .i64 0, .int .i64 0, .int .i64 1, .int .i64 1] 3)).alloc (.cells #[.int .i64 30, .int .i64 30] 3)) (.cells #[.int .i64 0, .int .i64 1, .int .i64 2, .int .i64 3] 3); simp only [World.size_alloc] at h; exact ((below_new _ _).block _ (by simp)).trans h) (by have h := heap_alloc_new (((w.alloc (.cells #[.int .i64 0, .int .i64 0, .int .i64 1, .int .i64 1] 3)).alloc (.cells #[.int .i64 30, .int .i64 30] 3)).alloc (.cells #[.int .i64 0, .int .i64 1, .int .i64 2, .int .i64 3] 3)) (.cells #[.int .i64 20, .int .i64 20, .int .i64 20, .int .i64 20] 3); simp only [World.size_alloc] at h; exact h) (by simp) (by simp) (by unfold MayP FitP; decide))
    clear b2 b3 hs HB2
    go_enter Tryz.func37, Tryz.ntmps37
    go_wp2_with fail
    refine HN.out.mono ?_
    rintro e w2 ⟨hyes, _, hb2⟩
    obtain ⟨b, s, r, rfl, ht⟩ := hyes rfl
    have HT := Lib.hid ht
    have HB := Lib.hid (stepB HB3.out hb2)
    clear hyes ht hb2 HN
    dsimp only
    go_wp2
    go_ret
    exact ⟨_, b, s, r, rfl, HT.out, HB3.out.size, HB.out⟩
end Go.Proofs.YtgjojjhppgjkkaaGreat
