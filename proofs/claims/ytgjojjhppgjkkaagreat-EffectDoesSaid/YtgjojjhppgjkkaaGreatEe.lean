/- The law EffectDoes, walked (layer 11). -/
import Derived.Test.YtgjojjhppgjkkaaGreatEs
import Derived.Test.YtgjojjhppgjkkaaGreatEo
import Derived.Test.YtgjojjhppgjkkaaGreatEr
import Derived.Test.YtgjojjhppgjkkaaGreatEa
import Derived.Test.YtgjojjhppgjkkaaGreatOt
import Derived.Deep.Cut
import Derived.Deep.DeepCutAuto
namespace Go.Proofs.YtgjojjhppgjkkaaGreat
open Go.RowKit Go.Maps
attribute [local go_sem] Oper.semAt_some

theorem set11row {W : World} {b : Nat} {xs : Array Value} {T : TypeId} (v0 v1 v2 v3 v4 v5 v6 v7 v8 v9 v10 : Value) (h : W.heap[b]? = some (.cells xs T (0, 0))) (hx : xs.size = 11) :
    (((((((((((W.setCell ⟨b, 0, none⟩ v0).setCell ⟨b, 1, none⟩ v1).setCell ⟨b, 2, none⟩ v2).setCell ⟨b, 3, none⟩ v3).setCell ⟨b, 4, none⟩ v4).setCell ⟨b, 5, none⟩ v5).setCell ⟨b, 6, none⟩ v6).setCell ⟨b, 7, none⟩ v7).setCell ⟨b, 8, none⟩ v8).setCell ⟨b, 9, none⟩ v9).setCell ⟨b, 10, none⟩ v10).heap[b]? = some (.cells #[v0, v1, v2, v3, v4, v5, v6, v7, v8, v9, v10] T (0, 0)) := by
  obtain ⟨l⟩ := xs
  match l, hx with
  | [u0, u1, u2, u3, u4, u5, u6, u7, u8, u9, u10], _ =>
    have h0 := heap_setCell_same _ b 0 _ _ v0 h
    have h1 := heap_setCell_same _ b 1 _ _ v1 h0
    have h2 := heap_setCell_same _ b 2 _ _ v2 h1
    have h3 := heap_setCell_same _ b 3 _ _ v3 h2
    have h4 := heap_setCell_same _ b 4 _ _ v4 h3
    have h5 := heap_setCell_same _ b 5 _ _ v5 h4
    have h6 := heap_setCell_same _ b 6 _ _ v6 h5
    have h7 := heap_setCell_same _ b 7 _ _ v7 h6
    have h8 := heap_setCell_same _ b 8 _ _ v8 h7
    have h9 := heap_setCell_same _ b 9 _ _ v9 h8
    have h10 := heap_setCell_same _ b 10 _ _ v10 h9
    rw [h10]
    simp
theorem get_law {w : World} {lo : Nat} {g : GhostB} {B : BoardL} (h : BoardAt w lo g B) (i : Int) : ∃ (o : ObjL) (er : Int), (∀ (w' : World), Below w.heap.size w w' → Calls Tryz.prog 13 #[.pointer (some ⟨g.b, 0, none⟩), .int .i64 i] w' (RetGet w' o er)) ∧
    ((er = 0 ∧ ∃ k, ∃ hk : k < B.S.objs.length, i = (k : Int) + 1 ∧ o = B.S.objs[k]) ∨ (er = 7 ∧ o = zeroO ∧ ¬hasS B.S i)) := by
  have hS := h.len
  by_cases hh : hasS B.S i
  · obtain ⟨j, rfl⟩ : ∃ j : Nat, i = (j : Int) + 1 := ⟨(i - 1).toNat, by have := hh.1; omega⟩
    have hjl : j < B.S.objs.length := by have := hh.2; omega
    exact ⟨_, _, fun w' hb => get_in (h.later hb).st (by omega) j hjl, .inl ⟨rfl, j, hjl, rfl, rfl⟩⟩
  · exact ⟨_, _, fun w' hb => get_out (h.later hb).st (by omega) _ (by unfold hasS at hh; omega), .inr ⟨rfl, rfl, hh⟩⟩
/-- The law's own switch. -/
def swB (T : TeamL) (cr mt : Bool) (a0 on a4 : Int) : Bool := if on = 0 then a4 == 0 else if on = 1 then cr else if on = 2 then cr && !mt else if on = 3 then cr && mt else decide (0 ≤ a4) && (decide (a4 < T.sh.length) && (a4 != ofT T a0))
theorem can_law {n : Nat} {l : List ThingL} (hl : MadeS (madeF l) l) (a0 a1 a2 a3 a4 : Int) :
    canB (boardL l n) a0 ⟨a1, a2, a3⟩ a4 = ((decide (0 ≤ a0 ∧ a0 < 4) && Crd.termB ⟨a1, a2, a3⟩) && swB (sidesT n) (creE (madeF l) a4 == 0) ((creE (madeF l) a4 == 0) && (ofT (sidesT n) (objOf (madeF l) a4).owner == ofT (sidesT n) a0)) a0 a3 a4) := by
  unfold canB
  rw [hasT_board l hl]
  by_cases h0 : 0 ≤ a0 ∧ a0 < 4
  case neg => rw [decide_eq_false h0]; rfl
  rw [decide_eq_true h0]
  cases ht : Crd.termB ⟨a1, a2, a3⟩ with
  | false => rfl
  | true =>
    obtain ⟨_, _, hp⟩ := term_parts ht
    dsimp only at hp
    have hon : a3 = 0 ∨ a3 = 1 ∨ a3 = 2 ∨ a3 = 3 ∨ a3 = 4 := by omega
    have hof : 0 ≤ ofT (sidesT n) a0 := sides_of n h0
    have hchk : (chkT (boardL l n).T (boardL l n).S a0 a3 a4 == 0) = mayT (sidesT n) (madeF l) a0 a3 a4 := by
      unfold chkT boardL
      dsimp only
      rw [if_neg (by omega)]
      cases mayT (sidesT n) (madeF l) a0 a3 a4 <;> rfl
    dsimp only
    rw [hchk]
    unfold mayT swB ownT matesT
    rw [decide_eq_true hof]
    have hbc : (ofT (sidesT n) a0 == ofT (sidesT n) (objOf (madeF l) a4).owner) = (ofT (sidesT n) (objOf (madeF l) a4).owner == ofT (sidesT n) a0) := Bool.beq_comm
    rw [Bool.true_and, Bool.true_and, hbc]
    rcases hon with rfl | rfl | rfl | rfl | rfl
    · simp
    · simp
    · simp; cases (creE (madeF l) a4 == 0) <;> simp
    · simp
    · simp [sides_lost, inT]
      cases decide (0 ≤ a4) <;> cases decide (a4 < ((sidesT n).sh.length : Int)) <;> cases (a4 != ofT (sidesT n) a0) <;> rfl
theorem can_cre3 {B : BoardL} {seat i : Int} {t : Crd.TermL} (h : canB B seat t i = true) (hon : t.on = 1 ∨ t.on = 2 ∨ t.on = 3) : creE B.S i = 0 := by
  unfold canB at h
  simp only [Bool.and_eq_true, beq_iff_eq] at h
  obtain ⟨_, ht, hc⟩ := h
  unfold chkT at hc
  split at hc
  · cases hc
  · split at hc
    · rename_i hm
      unfold mayT at hm
      rcases hon with e | e | e <;> rw [e] at hm <;> simp at hm
      · exact hm
      · exact hm.1
      · exact hm.1
    · cases hc
theorem sides_foes (n : Nat) (k : Int) : foesT (sidesT n) k = upTo (fun j => ((j : Nat) : Int) != k) (sidesT n).sh.length := by
  unfold foesT upTo
  congr 1
  apply List.filter_congr
  intro j hj
  have hj : j < (sidesT n).sh.length := List.mem_range.1 hj
  unfold foeB
  have hi : inT (sidesT n) (j : Int) = true := by simp [inT]; omega
  rw [sides_lost, hi]
  simp
/-- A deed that is done is what the law's own words make of the board that was. -/
theorem same_does {w : World} {lo lo' : Nat} {g g' : GhostB} {B : BoardL} {l : List ThingL} {nn : Nat} (a0 a1 a2 a3 a4 : Int) (o : ObjL) (hB : boardL l nn = B) (hb : BoardAt w lo g (doB B a0 ⟨a1, a2, a3⟩ a4)) (hw : BoardAt w lo' g' B) (ha : ApartB g g')
    (hcan : canB B a0 ⟨a1, a2, a3⟩ a4 = true) (ho : creE B.S a4 = 0 → objOf B.S a4 = o) :
    Calls Tryz.prog 19 #[.pointer (some ⟨g.q, 0, none⟩), .pointer (some ⟨g'.q, 0, none⟩), .agg #[.int .i64 a0, .int .i64 a1, .int .i64 a2, .int .i64 a3, .int .i64 a4], oagg o] w (RetSm w g') := by
  have hb : BoardAt w lo g (workB B a0 ⟨a1, a2, a3⟩ a4) := by
    unfold doB at hb
    rwa [if_pos hcan] at hb
  have h := hcan
  unfold canB at h
  simp only [Bool.and_eq_true] at h
  obtain ⟨hs, ht, _⟩ := h
  obtain ⟨h0, h20, hp⟩ := term_parts ht
  dsimp only at h0 h20 hp
  have hcr := fun hon => can_cre3 hcan (by dsimp only; exact hon)
  rcases hp with ⟨rfl, hon⟩ | ⟨rfl | rfl | rfl, rfl⟩ | ⟨rfl | rfl, hon⟩ | ⟨rfl | rfl | rfl, rfl, hon⟩
  · by_cases h4 : a3 = 4
    · subst h4
      exact same_1s a0 a2 4 a4 o (by simpa [workB, hurtB] using hb) hw ha (Lib.hid rfl) h0 h20
    · have e := hcr (by omega)
      exact same_1c a0 a2 a3 a4 o (by simpa [workB, hurtB, h4] using hb) hw ha e (ho e) h4
  · exact same_2 a0 a2 0 a4 o (by simpa [workB] using hb) hw ha
  · exact same_3 a0 a2 0 a4 o (by simpa [workB] using hb) hw ha h0 h20 (Lib.hid hs) (Lib.hid (by rw [← hB]; rfl))
  · exact same_8 a0 a2 0 a4 o (by simpa [workB] using hb) hw ha h0 h20 (Lib.hid (by rw [← hB]; exact sides_foes _ _))
  · have e := hcr (by omega)
    exact same_4 a0 a2 a3 a4 o (by simpa [workB] using hb) hw ha e (ho e)
  · have e := hcr (by omega)
    exact same_5 a0 a2 a3 a4 o (by simpa [workB] using hb) hw ha e (ho e)
  · have e := hcr (by omega)
    have hi : hasS B.S a4 := by
      obtain ⟨k, hk, hk2, _⟩ := creE_live e
      subst hk2
      exact ⟨by omega, by omega⟩
    exact same_6 a0 0 a3 a4 o (by simpa [workB] using hb) hw ha hi
  · have e := hcr (by omega)
    have hi : hasS B.S a4 := by
      obtain ⟨k, hk, hk2, _⟩ := creE_live e
      subst hk2
      exact ⟨by omega, by omega⟩
    exact same_7 a0 0 a3 a4 o (by simpa [workB] using hb) hw ha hi
  · have e := hcr (by omega)
    exact same_9 a0 0 a3 a4 o (by simpa [workB] using hb) hw ha e (ho e)
/-- What the law reads of the object that it is done at. -/
theorem obj_law {n : Nat} {l : List ThingL} (hl : MadeS (madeF l) l) {o : ObjL} {er a4 : Int} (h : (er = 0 ∧ ∃ k, ∃ hk : k < (boardL l n).S.objs.length, a4 = (k : Int) + 1 ∧ o = (boardL l n).S.objs[k]) ∨ (er = 7 ∧ o = zeroO ∧ ¬hasS (boardL l n).S a4)) :
    (er = 7 ∧ (creE (madeF l) a4 == 0) = false) ∨ (er = 0 ∧ hasS (madeF l) a4 ∧ objOf (madeF l) a4 = o ∧ ∃ c : Nat, ∃ hc : c < T7.length, o.card = (c : Int) ∧ (creE (madeF l) a4 == 0) = (o.zone == 3 && T7[c].kind == 2)) := by
  unfold boardL at h
  dsimp only at h
  rcases h with ⟨rfl, k, hk, rfl, rfl⟩ | ⟨rfl, _, hh⟩
  · refine .inr ⟨rfl, ⟨by omega, by omega⟩, objOf_at hk, ?_⟩
    obtain ⟨_, h1, h2, _⟩ := hl.wf.ids k hk
    rw [hl.T] at h2
    obtain ⟨c, hc⟩ : ∃ c : Nat, (madeF l).objs[k].card = c := ⟨_, (Int.toNat_of_nonneg h1).symm⟩
    have hc2 : c < T7.length := by rw [hc] at h2; omega
    refine ⟨c, hc2, hc, ?_⟩
    unfold creE
    have hh : hasS (madeF l) ((k : Int) + 1) := ⟨by omega, by omega⟩
    rw [if_pos hh, objOf_at hk]
    have hcs : cardS (madeF l) (madeF l).objs[k] = T7[c] := by
      rw [cardS_at hc (by rw [hl.T]; exact hc2)]
      congr 1
      exact hl.T
    unfold liveO
    rw [hcs]
    cases (((madeF l).objs[k].zone == 3) && (T7[c].kind == 2)) <;> rfl
  · refine .inl ⟨rfl, ?_⟩
    unfold creE
    rw [if_neg hh]
    rfl
set_option maxRecDepth 100000 in
set_option maxHeartbeats 32000000 in
theorem effectDoes_walk {v : Value} {l : List ThingL} {nn : Nat} (a0 a1 a2 a3 a4 : Int) {w : World} (hv : ThingsAt w v l) (hw : ∀ x ∈ l, Wf x.owner ∧ Wf x.zone) (hlen : l.length ≤ 9223372036854775807) (hn : nn < 256) :
    Calls Tryz.prog 3 #[v, .int .u8 nn, .agg #[.int .i64 a0, .int .i64 a1, .int .i64 a2, .int .i64 a3, .int .i64 a4]] w (RetV w (.bool true)) := by
  have hb0 := below_new w (.cells #[.int .i64 a0, .int .i64 a1, .int .i64 a2, .int .i64 a3, .int .i64 a4] 26)
  have hkk := fun j => cell_of_row (w.alloc (.cells #[.int .i64 a0, .int .i64 a1, .int .i64 a2, .int .i64 a3, .int .i64 a4] 26)) w.heap.size j _ _ _ (heap_alloc_new w (.cells #[.int .i64 a0, .int .i64 a1, .int .i64 a2, .int .i64 a3, .int .i64 a4] 26))
  have KD := Lib.hid (show _ ∧ _ ∧ _ ∧ _ ∧ _ from ⟨hkk 0, hkk 1, hkk 2, hkk 3, hkk 4⟩)
  obtain ⟨W, hW⟩ : ∃ W, w.alloc (.cells #[.int .i64 a0, .int .i64 a1, .int .i64 a2, .int .i64 a3, .int .i64 a4] 26) = W := ⟨_, rfl⟩
  rw [hW] at hb0 KD
  have HBO := Lib.hid (fun (w' : World) (hb : Below W.heap.size W w') => board_any ((hv.later hb0).later hb) hw hlen nn hn)
  have HMA := Lib.hid (fun (w' : World) (hb : Below W.heap.size W w') => made_any ((hv.later hb0).later hb) hw hlen)
  have HSZ := Lib.hid (show W.heap.size = w.heap.size + 1 by rw [← hW]; simp)
  have HB0 := Lib.hid hb0
  have HW := Lib.hid hW
  obtain ⟨va, vc, rfl⟩ := hv.form
  clear hkk hv hw hb0 hW
  go_enter Tryz.func3, Tryz.ntmps3
  go_upto_region 1 with fail
  rw [HW.out]
  obtain ⟨q5, hq5⟩ : ∃ q, w.heap.size = q := ⟨_, rfl⟩
  have HQ5 := Lib.hid hq5
  rw [hq5] at KD ⊢
  clear hq5
  go_wp2_with fail
  refine (awake11_any W).mono ?_
  rintro e w1 ⟨rfl, hb1⟩
  have HB1 := Lib.hid hb1
  clear hb1
  dsimp only
  go_wp2_with fail
  refine (HBO.out w1 HB1.out).mono ?_
  rintro e w2 (⟨hp, hm, lo, g, rfl, hbd, hlo, hb2⟩ | ⟨hnp, rfl, hb2⟩)
  case inr =>
    have HB2 := Lib.hid (stepB HB1.out hb2)
    have HB2W := Lib.hid (stepB HB0.out (stepB HB1.out hb2))
    clear hb2 HBO
    dsimp only
    by_cases h40 : 40 < l.length
    · have d40 : decide ((40 : Int) < l.length) = true := decide_eq_true (by omega)
      go_wp2
      go_ret
      exact ⟨rfl, HB2W.out⟩
    · have d40 : decide ((40 : Int) < l.length) = false := decide_eq_false (by omega)
      go_wp2_with fail
      refine (HMA.out w2 HB2.out).mono ?_
      rintro e w3 (⟨hp, _⟩ | ⟨_, rfl, hb3⟩)
      · exact absurd hp hnp
      have HB3 := Lib.hid (stepB HB2W.out hb3)
      clear hb3
      dsimp only
      go_wp2
      go_ret
      exact ⟨rfl, HB3.out⟩
  have HM := Lib.hid hm
  have HBD := Lib.hid hbd
  have HB12 := Lib.hid (stepB HB1.out hb2)
  have HB2 := Lib.hid (stepB HB0.out (stepB HB1.out hb2))
  have HOL := Lib.hid (show ∀ k, g.own k → W.heap.size ≤ k from fun k hk => Nat.le_trans (Nat.le_trans HB1.out.size hlo) (hbd.ownLo hk))
  have KD2 := Lib.hid (keepC5 HB12.out KD.out)
  clear hp hm hlo hbd hb2 HBO HMA
  dsimp only
  -- the copy
  go_wp2_with fail
  refine (bcopy_any HBD.out).mono ?_
  rintro e w3 ⟨gw, rfl, hc3, hb3⟩
  have HAP := Lib.hid (apart_copyB HBD.out hc3)
  have HB3b := Lib.hid (HBD.out.later hb3)
  have HC3 := Lib.hid hc3
  have HOC := Lib.hid (show ∀ k, gw.own k → w2.heap.size ≤ k from fun k hk => hc3.ownLo hk)
  have HB3 := Lib.hid (stepB HB2.out hb3)
  have KD3 := Lib.hid (keepC5 hb3 KD2.out)
  have HQ2 := Lib.hid (show q5 < W.heap.size ∧ W.heap.size ≤ w2.heap.size from ⟨by have := HSZ.out; have := HQ5.out; omega, HB12.out.size⟩)
  clear hc3 hb3
  obtain ⟨B, hB⟩ : ∃ B, boardL l nn = B := ⟨_, rfl⟩
  have HBE := Lib.hid hB
  rw [hB] at HB3b HC3
  have HDO := Lib.hid (do_any HB3b.out a0 ⟨a1, a2, a3⟩ a4)
  obtain ⟨can, hcan⟩ : ∃ c, canB B a0 ⟨a1, a2, a3⟩ a4 = c := ⟨_, rfl⟩
  rw [hcan] at HDO
  have HCAN := Lib.hid hcan
  unfold Crd.tval at HDO
  dsimp only at HDO
  obtain ⟨k0, k1, k2, k3, k4⟩ := KD3.out
  clear hB hcan HBD
  dsimp only
  go_wp2_with fail
  refine HDO.out.mono ?_
  rintro e w4 ⟨rfl, g4, hb4, ht4, hq4⟩
  have hfar := HC3.out.far HAP.out ht4
  have HB4 := Lib.hid hb4
  have HC4 := Lib.hid hfar.1
  have HAP4 := Lib.hid hfar.2
  have HQ4 := Lib.hid hq4
  have HBW4 := Lib.hid (ht4.below HB3.out (fun k hk => Nat.le_trans (by have := HSZ.out; omega) (HOL.out k hk)))
  have KD4 : Hid (w4.cell? ⟨q5, 0, none⟩ = some (.int .i64 a0) ∧ w4.cell? ⟨q5, 1, none⟩ = some (.int .i64 a1) ∧ w4.cell? ⟨q5, 2, none⟩ = some (.int .i64 a2) ∧ w4.cell? ⟨q5, 3, none⟩ = some (.int .i64 a3) ∧ w4.cell? ⟨q5, 4, none⟩ = some (.int .i64 a4)) := Lib.hid (by
    obtain ⟨x0, x1, x2, x3, x4⟩ := KD3.out
    have hlt : q5 < w3.heap.size := by have h1 := HQ2.out; have h2 := HC3.out.lt; have h3 := HC3.out.lq; omega
    exact ⟨TurnedB.cell x0 ht4 HOL.out HQ2.out.1 hlt, TurnedB.cell x1 ht4 HOL.out HQ2.out.1 hlt, TurnedB.cell x2 ht4 HOL.out HQ2.out.1 hlt, TurnedB.cell x3 ht4 HOL.out HQ2.out.1 hlt, TurnedB.cell x4 ht4 HOL.out HQ2.out.1 hlt⟩)
  obtain ⟨o, er, hget, hcase⟩ := get_law HC4.out a4
  have HGE := Lib.hid hget
  have HCA := Lib.hid hcase
  obtain ⟨k0, k1, k2, k3, k4⟩ := KD4.out
  obtain ⟨cw, ct, -⟩ := HC4.out.cells
  obtain ⟨x0, x1, x2, x3, x4, x5, x6, x7, x8, x9, x10⟩ := o
  unfold RetGet oagg at HGE
  dsimp only at HGE
  clear hb4 ht4 hq4 hfar HDO HB3b HC3 HAP hget hcase
  dsimp only
  go_upto_region 8 with fail
  have hq5l : q5 < w4.heap.size := by have h1 := HQ2.out; have h2 := HC4.out.lt; have h3 := HC4.out.lq; omega
  have hgl : gw.q < w4.heap.size := HC4.out.lt
  have m4 : (w4.alloc (.cells #[.int .i64 0, .int .i64 0, .int .i64 0, .int .i64 0, .bool false, .bool false, .int .i64 0, .int .i64 0, .int .i64 0, .int .i64 0, .bool false] 35)).cell? ⟨q5, 4, none⟩ = some (.int .i64 a4) := by rw [(below_new w4 _).cell (p := ⟨q5, 4, none⟩) hq5l]; exact k4
  have mw : (w4.alloc (.cells #[.int .i64 0, .int .i64 0, .int .i64 0, .int .i64 0, .bool false, .bool false, .int .i64 0, .int .i64 0, .int .i64 0, .int .i64 0, .bool false] 35)).cell? ⟨gw.q, 0, none⟩ = some (.pointer (some ⟨gw.b, 0, none⟩)) := by rw [(below_new w4 _).cell (p := ⟨gw.q, 0, none⟩) hgl]; exact cw
  go_cut [10, 11] from 40 to 49 (fun s10 s11 wx => ∃ q10, s10 = .pointer (some ⟨q10, 0, none⟩) ∧ s11 = .int .i64 er ∧ Hid (wx.heap[q10]? = some (.cells #[.int .i64 x0, .int .i64 x1, .int .i64 x2, .int .i64 x3, .bool x4, .bool x5, .int .i64 x6, .int .i64 x7, .int .i64 x8, .int .i64 x9, .bool x10] 35 (0, 0))) ∧ Hid (Below w4.heap.size w4 wx) ∧ Hid (w4.heap.size ≤ q10))
  case first =>
    (go_region_with ((go_at_call 13; first
        | (refine (HGE.out _ (Below.refl _ _).drew).mono ?_
           rintro e w5 ⟨rfl, hb5⟩
           have HB5 := Lib.hid (stepB (Below.refl w4.heap.size w4).drew hb5)
           clear hb5
           dsimp only)
        | (refine (HGE.out _ (below_alloc2 (Below.refl _ _).drew _)).mono ?_
           rintro e w5 ⟨rfl, hb5⟩
           have hrw : w5.heap[w4.heap.size]? = some (.cells #[.int .i64 0, .int .i64 0, .int .i64 0, .int .i64 0, .bool false, .bool false, .int .i64 0, .int .i64 0, .int .i64 0, .int .i64 0, .bool false] 35 (0, 0)) := (hb5.block w4.heap.size (by simp)).trans (heap_alloc_new _ _)
           have hC := fun k => hb5.cell (p := ⟨w4.heap.size, k, none⟩) (by simp)
           have hF := fun k => hb5.frozen (p := ⟨w4.heap.size, k, none⟩) (by simp)
           have c0 : w5.cell? ⟨w4.heap.size, 0, none⟩ = some (.int .i64 0) := by rw [hC]; simp [go_sem]
           have c1 : w5.cell? ⟨w4.heap.size, 1, none⟩ = some (.int .i64 0) := by rw [hC]; simp [go_sem]
           have c2 : w5.cell? ⟨w4.heap.size, 2, none⟩ = some (.int .i64 0) := by rw [hC]; simp [go_sem]
           have c3 : w5.cell? ⟨w4.heap.size, 3, none⟩ = some (.int .i64 0) := by rw [hC]; simp [go_sem]
           have c4 : w5.cell? ⟨w4.heap.size, 4, none⟩ = some (.bool false) := by rw [hC]; simp [go_sem]
           have c5 : w5.cell? ⟨w4.heap.size, 5, none⟩ = some (.bool false) := by rw [hC]; simp [go_sem]
           have c6 : w5.cell? ⟨w4.heap.size, 6, none⟩ = some (.int .i64 0) := by rw [hC]; simp [go_sem]
           have c7 : w5.cell? ⟨w4.heap.size, 7, none⟩ = some (.int .i64 0) := by rw [hC]; simp [go_sem]
           have c8 : w5.cell? ⟨w4.heap.size, 8, none⟩ = some (.int .i64 0) := by rw [hC]; simp [go_sem]
           have c9 : w5.cell? ⟨w4.heap.size, 9, none⟩ = some (.int .i64 0) := by rw [hC]; simp [go_sem]
           have c10 : w5.cell? ⟨w4.heap.size, 10, none⟩ = some (.bool false) := by rw [hC]; simp [go_sem]
           have f0 : w5.frozen? ⟨w4.heap.size, 0, none⟩ = false := by rw [hF]; simp [go_sem]
           have f1 : w5.frozen? ⟨w4.heap.size, 1, none⟩ = false := by rw [hF]; simp [go_sem]
           have f2 : w5.frozen? ⟨w4.heap.size, 2, none⟩ = false := by rw [hF]; simp [go_sem]
           have f3 : w5.frozen? ⟨w4.heap.size, 3, none⟩ = false := by rw [hF]; simp [go_sem]
           have f4 : w5.frozen? ⟨w4.heap.size, 4, none⟩ = false := by rw [hF]; simp [go_sem]
           have f5 : w5.frozen? ⟨w4.heap.size, 5, none⟩ = false := by rw [hF]; simp [go_sem]
           have f6 : w5.frozen? ⟨w4.heap.size, 6, none⟩ = false := by rw [hF]; simp [go_sem]
           have f7 : w5.frozen? ⟨w4.heap.size, 7, none⟩ = false := by rw [hF]; simp [go_sem]
           have f8 : w5.frozen? ⟨w4.heap.size, 8, none⟩ = false := by rw [hF]; simp [go_sem]
           have f9 : w5.frozen? ⟨w4.heap.size, 9, none⟩ = false := by rw [hF]; simp [go_sem]
           have f10 : w5.frozen? ⟨w4.heap.size, 10, none⟩ = false := by rw [hF]; simp [go_sem]
           have HB5 := Lib.hid (stepB (below_alloc2 (Below.refl w4.heap.size w4).drew _) hb5)
           clear hC hF hb5
           dsimp only)))) <;> (
      go_wp2
      go_meet
      case rel => first
        | (have hmine := c1; exact ⟨w4.heap.size, rfl, rfl, Lib.hid (set11row _ _ _ _ _ _ _ _ _ _ _ hrw rfl), Lib.hid ((((((((((((HB5.out.setCell (Nat.le_refl _) _).setCell (Nat.le_refl _) _).setCell (Nat.le_refl _) _).setCell (Nat.le_refl _) _).setCell (Nat.le_refl _) _).setCell (Nat.le_refl _) _).setCell (Nat.le_refl _) _).setCell (Nat.le_refl _) _).setCell (Nat.le_refl _) _).setCell (Nat.le_refl _) _).setCell (Nat.le_refl _) _)), Lib.hid (Nat.le_refl _)⟩)
        | exact ⟨_, rfl, rfl, Lib.hid (heap_alloc_new _ _), Lib.hid (below_alloc2 HB5.out _), Lib.hid HB5.out.size⟩)
  case rest =>
  obtain ⟨q10, rfl, rfl, HXR, HBX, HQ10⟩ := hcut
  obtain ⟨w5, rfl⟩ : ∃ w5, w5 = wc := ⟨_, rfl⟩
  have HX := Lib.hid (show w5.cell? ⟨q10, 1, none⟩ = some (.int .i64 x1) ∧ w5.cell? ⟨q10, 2, none⟩ = some (.int .i64 x2) ∧ w5.cell? ⟨q10, 3, none⟩ = some (.int .i64 x3) from ⟨cell_of_row w5 q10 1 _ _ _ HXR.out, cell_of_row w5 q10 2 _ _ _ HXR.out, cell_of_row w5 q10 3 _ _ _ HXR.out⟩)
  have HC5 := Lib.hid (HC4.out.later HBX.out)
  have HG5 := Lib.hid (HB4.out.later HBX.out)
  have HBW5 := Lib.hid (stepB HBW4.out HBX.out)
  have KD5 := Lib.hid (keepC5 HBX.out KD4.out)
  have hobj := HCA.out
  rw [← HBE.out] at hobj
  have hobj := obj_law HM.out hobj
  dsimp only at hobj
  have hcan := HCAN.out
  rw [← HBE.out, can_law HM.out] at hcan
  obtain ⟨cr, hcr⟩ : ∃ cr, (creE (madeF l) a4 == 0) = cr := ⟨_, rfl⟩
  rw [hcr] at hobj hcan
  have HCR := Lib.hid hcr
  have HOB := Lib.hid hobj
  have HCN := Lib.hid hcan
  obtain ⟨p1, p2, p3⟩ := HX.out
  clear k0 k1 k2 k3 k4 cw ct m4 mw hobj hcan hcr HGE
  go_upto_region 9 with fail
  go_cut [12] from 50 to 65 (fun s12 wx => s12 = .bool cr ∧ Hid (Below w5.heap.size w5 wx))
  case first =>
    rcases HOB.out with ⟨rfl, rfl⟩ | ⟨rfl, -, -, c, hc, rfl, hcr⟩
    · clear p1 p2 p3
      refine wp_region_noPanic ?_
      refine (wpIn_wide (n := 9)).1 ?_
      refine wpIn_region_any (by kernel_rfl) ?_
      change wpAnyIn _ _ _ _ _ _ _ _ _ (World.drew _)
      refine anyS.any (S := fun _ => True) ?_
      refine anyS_one (i := 0) (by kernel_rfl) rfl (trivial) (fun K hK => ?_)
      go_simp
      refine hK _ _ ?_
      clear hK K
      refine anyS_one (i := 1) (by kernel_rfl) rfl (trivial) (fun K hK => ?_)
      go_simp
      refine hK _ _ ?_
      clear hK K
      refine anyS_one (i := 2) (by kernel_rfl) rfl (trivial) (fun K hK => ?_)
      go_simp
      refine hK _ _ ?_
      clear hK K
      refine anyS_skip (i := 3) (by kernel_rfl) rfl (by kernel_rfl) (by kernel_rfl) (by kernel_rfl) (fun _ _ _ h => h) (by kernel_rfl) (fun _ => by kernel_rfl) ?_
      refine anyS_skip (i := 4) (by kernel_rfl) rfl (by kernel_rfl) (by kernel_rfl) (by kernel_rfl) (fun _ _ _ h => h) (by kernel_rfl) (fun _ => by kernel_rfl) ?_
      refine anyS_skip (i := 5) (by kernel_rfl) rfl (by kernel_rfl) (by kernel_rfl) (by kernel_rfl) (fun _ _ _ h => h) (by kernel_rfl) (fun _ => by kernel_rfl) ?_
      refine anyS_one (i := 6) (by kernel_rfl) rfl (trivial) (fun K hK => ?_)
      go_simp
      refine hK _ _ ?_
      clear hK K
      refine anyS_one (i := 7) (by kernel_rfl) rfl (trivial) (fun K hK => ?_)
      go_simp
      refine hK _ _ ?_
      clear hK K
      refine anyS_skip (i := 9) (by kernel_rfl) rfl (by kernel_rfl) (by kernel_rfl) (by kernel_rfl) (fun _ _ _ h => h) (by kernel_rfl) (fun _ => by kernel_rfl) ?_
      refine anyS_skip (i := 10) (by kernel_rfl) rfl (by kernel_rfl) (by kernel_rfl) (by kernel_rfl) (fun _ _ _ h => h) (by kernel_rfl) (fun _ => by kernel_rfl) ?_
      refine anyS_one (i := 8) (by kernel_rfl) rfl (trivial) (fun K hK => ?_)
      go_simp
      refine ⟨trivial, hK _ _ ?_⟩
      clear hK K
      refine anyS_skip (i := 11) (by kernel_rfl) rfl (by kernel_rfl) (by kernel_rfl) (by kernel_rfl) (fun _ _ _ h => h) (by kernel_rfl) (fun _ => by kernel_rfl) ?_
      refine anyS_skip (i := 12) (by kernel_rfl) rfl (by kernel_rfl) (by kernel_rfl) (by kernel_rfl) (fun _ _ _ h => h) (by kernel_rfl) (fun _ => by kernel_rfl) ?_
      refine anyS_skip (i := 13) (by kernel_rfl) rfl (by kernel_rfl) (by kernel_rfl) (by kernel_rfl) (fun _ _ _ h => h) (by kernel_rfl) (fun _ => by kernel_rfl) ?_
      refine anyS_skip (i := 14) (by kernel_rfl) rfl (by kernel_rfl) (by kernel_rfl) (by kernel_rfl) (fun _ _ _ h => h) (by kernel_rfl) (fun _ => by kernel_rfl) ?_
      refine anyS_one (i := 15) (by kernel_rfl) rfl (trivial) (fun K hK => ?_)
      go_simp
      refine hK _ _ ?_
      clear hK K
      refine anyS_one (i := 16) (by kernel_rfl) rfl (trivial) (fun K hK => ?_)
      go_simp
      refine hK _ _ ?_
      clear hK K
      refine anyS_done (by kernel_rfl) (trivial) ?_ _
      refine NoPanic.normal ?_
      go_wp2
      go_meet
      case rel => exact ⟨rfl, Lib.hid ((Below.refl _ _).drew)⟩
    · by_cases hz : x3 = 3
      · subst hz
        obtain ⟨kd, hkd⟩ : ∃ kd, T7[c].kind = kd := ⟨_, rfl⟩
        rw [hkd] at hcr
        have HCR2 := Lib.hid hcr
        clear hcr
        refine wp_region_noPanic ?_
        refine (wpIn_wide (n := 9)).1 ?_
        refine wpIn_region_any (by kernel_rfl) ?_
        change wpAnyIn _ _ _ _ _ _ _ _ _ (World.drew _)
        refine anyS.any (S := fun w' => w'.cell? ⟨q10, 1, none⟩ = some (.int .i64 (c : Int))) ?_
        refine anyS_one (i := 0) (by kernel_rfl) rfl (cell_stays (Below.refl w5.heap.size w5).drew p1) (fun K hK => ?_)
        go_simp
        refine hK _ _ ?_
        clear hK K
        refine anyS_one (i := 1) (by kernel_rfl) rfl (cell_stays (Below.refl w5.heap.size w5).drew p1) (fun K hK => ?_)
        go_simp
        refine hK _ _ ?_
        clear hK K
        refine anyS_one (i := 2) (by kernel_rfl) rfl (cell_stays (Below.refl w5.heap.size w5).drew p1) (fun K hK => ?_)
        go_simp
        refine hK _ _ ?_
        clear hK K
        refine anyS_one (i := 3) (by kernel_rfl) rfl (cell_stays (Below.refl w5.heap.size w5).drew p1) (fun K hK => ?_)
        go_simp
        refine hK _ _ ?_
        clear hK K
        refine anyS_one (i := 4) (by kernel_rfl) rfl (cell_stays (Below.refl w5.heap.size w5).drew p1) (fun K hK => ?_)
        go_simp
        refine hK _ _ ?_
        clear hK K
        refine anyS_one (i := 5) (by kernel_rfl) rfl (cell_stays (Below.refl w5.heap.size w5).drew p1) (fun K hK => ?_)
        go_simp
        refine hK _ _ ?_
        clear hK K
        refine anyS_one (i := 6) (by kernel_rfl) rfl (cell_stays (Below.refl w5.heap.size w5).drew p1) (fun K hK => ?_)
        go_simp
        refine hK _ _ ?_
        clear hK K
        refine anyS_one (i := 7) (by kernel_rfl) rfl (cell_stays (Below.refl w5.heap.size w5).drew p1) (fun K hK => ?_)
        go_simp
        refine hK _ _ ?_
        clear hK K
        refine anyS_take (i := 9) (v := ?_) (by kernel_rfl) rfl (by kernel_rfl) (by kernel_rfl) (by kernel_rfl) (fun _ _ _ h => h) (by kernel_rfl) (fun _ => by kernel_rfl) ?_ ?_
        rotate_left
        · intro w' hS
          go_simp
          try with_reducible rfl
        refine anyS_take (i := 10) (v := ?_) (by kernel_rfl) rfl (by kernel_rfl) (by kernel_rfl) (by kernel_rfl) (fun _ _ _ h => h) (by kernel_rfl) (fun _ => by kernel_rfl) ?_ ?_
        rotate_left
        · intro w' hS
          go_simp
          try with_reducible rfl
        refine anyS_one (i := 8) (by kernel_rfl) rfl (cell_stays (Below.refl w5.heap.size w5).drew p1) (fun K hK => ?_)
        go_simp
        gi_wp2_with ((refine ⟨trivial, ?_⟩; gi_at_call 14; refine CallsIn.mono (F := Fence.wide) (callsIn_wide.2 (table_law _)) ?_; rintro e w9 ⟨tv, rfl, htc, hb9⟩; have HB9 := Lib.hid (stepB (Below.refl w5.heap.size w5).drew hb9); obtain ⟨tb9, to9, tc9, htv⟩ : ∃ tb9 to9 tc9, tv = .slice (some ⟨tb9, to9, none⟩) 4 tc9 := (table_form htc); subst htv; have HK0 := Lib.hid (table_kind htc c hc); clear hb9 htc))
        have kk := HK0.out
        rw [hkd] at kk
        have q9 : w9.cell? ⟨q10, 1, none⟩ = some (.int .i64 (c : Int)) := cell_stays HB9.out p1
        have hb0 : (0 : Int) ≤ c := by omega
        have hb4 : (c : Int) < 4 := by have : T7.length = 4 := rfl; omega
        refine anyS_one (i := 11) (by kernel_rfl) rfl (q9) (fun K hK => ?_)
        go_simp
        refine hK _ _ ?_
        clear hK K
        refine anyS_one (i := 12) (by kernel_rfl) rfl (q9) (fun K hK => ?_)
        go_simp
        refine hK _ _ ?_
        clear hK K
        refine anyS_one (i := 13) (by kernel_rfl) rfl (q9) (fun K hK => ?_)
        go_simp
        refine hK _ _ ?_
        clear hK K
        refine anyS_one (i := 14) (by kernel_rfl) rfl (q9) (fun K hK => ?_)
        go_simp
        refine hK _ _ ?_
        clear hK K
        refine anyS_one (i := 15) (by kernel_rfl) rfl (q9) (fun K hK => ?_)
        go_simp
        refine hK _ _ ?_
        clear hK K
        refine anyS_one (i := 16) (by kernel_rfl) rfl (q9) (fun K hK => ?_)
        go_simp
        refine hK _ _ ?_
        clear hK K
        refine anyS_done (by kernel_rfl) (q9) ?_ _
        refine NoPanic.normal ?_
        go_wp2
        go_meet
        case rel => exact ⟨by rw [HCR2.out]; rfl, HB9⟩
      · have ez : (x3 == 3) = false := beq_eq_false_iff_ne.2 hz
        rw [ez, Bool.false_and] at hcr
        subst hcr
        clear hz
        refine wp_region_noPanic ?_
        refine (wpIn_wide (n := 9)).1 ?_
        refine wpIn_region_any (by kernel_rfl) ?_
        change wpAnyIn _ _ _ _ _ _ _ _ _ (World.drew _)
        refine anyS.any (S := fun w' => w'.cell? ⟨q10, 3, none⟩ = some (.int .i64 x3)) ?_
        refine anyS_one (i := 0) (by kernel_rfl) rfl (cell_stays (Below.refl w5.heap.size w5).drew p3) (fun K hK => ?_)
        go_simp
        refine hK _ _ ?_
        clear hK K
        refine anyS_one (i := 1) (by kernel_rfl) rfl (cell_stays (Below.refl w5.heap.size w5).drew p3) (fun K hK => ?_)
        go_simp
        refine hK _ _ ?_
        clear hK K
        refine anyS_one (i := 2) (by kernel_rfl) rfl (cell_stays (Below.refl w5.heap.size w5).drew p3) (fun K hK => ?_)
        go_simp
        refine hK _ _ ?_
        clear hK K
        refine anyS_one (i := 3) (by kernel_rfl) rfl (cell_stays (Below.refl w5.heap.size w5).drew p3) (fun K hK => ?_)
        go_simp
        refine hK _ _ ?_
        clear hK K
        refine anyS_one (i := 4) (by kernel_rfl) rfl (cell_stays (Below.refl w5.heap.size w5).drew p3) (fun K hK => ?_)
        go_simp
        refine hK _ _ ?_
        clear hK K
        refine anyS_one (i := 5) (by kernel_rfl) rfl (cell_stays (Below.refl w5.heap.size w5).drew p3) (fun K hK => ?_)
        go_simp
        refine hK _ _ ?_
        clear hK K
        refine anyS_one (i := 6) (by kernel_rfl) rfl (cell_stays (Below.refl w5.heap.size w5).drew p3) (fun K hK => ?_)
        go_simp
        refine hK _ _ ?_
        clear hK K
        refine anyS_one (i := 7) (by kernel_rfl) rfl (cell_stays (Below.refl w5.heap.size w5).drew p3) (fun K hK => ?_)
        go_simp
        refine hK _ _ ?_
        clear hK K
        refine anyS_skip (i := 9) (by kernel_rfl) rfl (by kernel_rfl) (by kernel_rfl) (by kernel_rfl) (fun _ _ _ h => h) (by kernel_rfl) (fun _ => by kernel_rfl) ?_
        refine anyS_skip (i := 10) (by kernel_rfl) rfl (by kernel_rfl) (by kernel_rfl) (by kernel_rfl) (fun _ _ _ h => h) (by kernel_rfl) (fun _ => by kernel_rfl) ?_
        refine anyS_one (i := 8) (by kernel_rfl) rfl (cell_stays (Below.refl w5.heap.size w5).drew p3) (fun K hK => ?_)
        go_simp
        refine ⟨trivial, hK _ _ ?_⟩
        clear hK K
        refine anyS_skip (i := 11) (by kernel_rfl) rfl (by kernel_rfl) (by kernel_rfl) (by kernel_rfl) (fun _ _ _ h => h) (by kernel_rfl) (fun _ => by kernel_rfl) ?_
        refine anyS_skip (i := 12) (by kernel_rfl) rfl (by kernel_rfl) (by kernel_rfl) (by kernel_rfl) (fun _ _ _ h => h) (by kernel_rfl) (fun _ => by kernel_rfl) ?_
        refine anyS_skip (i := 13) (by kernel_rfl) rfl (by kernel_rfl) (by kernel_rfl) (by kernel_rfl) (fun _ _ _ h => h) (by kernel_rfl) (fun _ => by kernel_rfl) ?_
        refine anyS_skip (i := 14) (by kernel_rfl) rfl (by kernel_rfl) (by kernel_rfl) (by kernel_rfl) (fun _ _ _ h => h) (by kernel_rfl) (fun _ => by kernel_rfl) ?_
        refine anyS_one (i := 15) (by kernel_rfl) rfl (cell_stays (Below.refl w5.heap.size w5).drew p3) (fun K hK => ?_)
        go_simp
        refine hK _ _ ?_
        clear hK K
        refine anyS_one (i := 16) (by kernel_rfl) rfl (cell_stays (Below.refl w5.heap.size w5).drew p3) (fun K hK => ?_)
        go_simp
        refine hK _ _ ?_
        clear hK K
        refine anyS_done (by kernel_rfl) (cell_stays (Below.refl w5.heap.size w5).drew p3) ?_ _
        refine NoPanic.normal ?_
        go_wp2
        go_meet
        case rel => exact ⟨rfl, Lib.hid ((Below.refl _ _).drew)⟩
  case rest =>
  obtain ⟨rfl, HBX6⟩ := hcut
  obtain ⟨w6, rfl⟩ : ∃ w6, w6 = wc := ⟨_, rfl⟩
  have HC6 := Lib.hid (HC5.out.later HBX6.out)
  have HG6 := Lib.hid (HG5.out.later HBX6.out)
  have HBW6 := Lib.hid (stepB HBW5.out HBX6.out)
  have KD6 := Lib.hid (keepC5 HBX6.out KD5.out)
  have HX6 := Lib.hid (keepC3 HBX6.out HX.out)
  have HXR6 := Lib.hid ((HBX6.out.block q10 (Crd.lt_of_row HXR.out)).trans HXR.out)
  obtain ⟨tb, htb⟩ : ∃ tb, Crd.termB ⟨a1, a2, a3⟩ = tb := ⟨_, rfl⟩
  obtain ⟨m0, hm0⟩ : ∃ m0, (decide (0 ≤ a0 ∧ a0 < 4) && tb) = m0 := ⟨_, rfl⟩
  obtain ⟨mt, hmt⟩ : ∃ mt, (cr && (ofT (sidesT nn) (objOf (madeF l) a4).owner == ofT (sidesT nn) a0)) = mt := ⟨_, rfl⟩
  have hcn := HCN.out
  rw [htb, hm0, hmt] at hcn
  have HCN2 := Lib.hid hcn
  have HTB := Lib.hid htb
  have HM0 := Lib.hid hm0
  have HMT := Lib.hid hmt
  have HRT := Lib.hid (fun (w' : World) => Crd.refTerm_any ⟨a1, a2, a3⟩ w')
  rw [htb] at HRT
  unfold Crd.tval at HRT
  dsimp only at HRT
  obtain ⟨k0, k1, k2, k3, k4⟩ := KD6.out
  clear p1 p2 p3 hcn htb hm0 hmt HC5 HG5 HBW5 KD5 HX
  go_upto_region 10 with fail
  go_cut [13] from 66 to 78 (fun s13 wx => s13 = .bool m0 ∧ Hid (Below w6.heap.size w6 wx))
  case first =>
    by_cases h0 : 0 ≤ a0
    · have d0 : decide (0 ≤ a0) = true := decide_eq_true h0
      by_cases h4 : a0 < 4
      · have d4 : decide (a0 < 4) = true := decide_eq_true h4
        have HM2 := Lib.hid (show m0 = tb from by rw [← HM0.out, decide_eq_true (And.intro h0 h4)]; rfl)
        clear h0 h4
        go_wp2_with fail
        refine (HRT.out _).mono ?_
        rintro e w7 ⟨rfl, hb7⟩
        have HB7 := Lib.hid hb7
        clear hb7
        go_wp2
        go_meet
        case rel => exact ⟨by rw [HM2.out], HB7⟩
      · have d4 : decide (a0 < 4) = false := decide_eq_false h4
        have HM2 := Lib.hid (show m0 = false from by rw [← HM0.out, decide_eq_false (fun h => h4 h.2)]; rfl)
        clear h0 h4
        go_wp2
        go_meet
        case rel => exact ⟨by rw [HM2.out], Lib.hid (Below.refl _ _)⟩
    · have d0 : decide (0 ≤ a0) = false := decide_eq_false h0
      have HM2 := Lib.hid (show m0 = false from by rw [← HM0.out, decide_eq_false (fun h => h0 h.1)]; rfl)
      clear h0
      go_wp2
      go_meet
      case rel => exact ⟨by rw [HM2.out], Lib.hid (Below.refl _ _)⟩
  case rest =>
  obtain ⟨rfl, HBX7⟩ := hcut
  obtain ⟨w7, rfl⟩ : ∃ w7, w7 = wc := ⟨_, rfl⟩
  have HC7 := Lib.hid (HC6.out.later HBX7.out)
  have HG7 := Lib.hid (HG6.out.later HBX7.out)
  have HBW7 := Lib.hid (stepB HBW6.out HBX7.out)
  have KD7 := Lib.hid (keepC5 HBX7.out KD6.out)
  have HX7 := Lib.hid (keepC3 HBX7.out HX6.out)
  have HXR7 := Lib.hid ((HBX7.out.block q10 (Crd.lt_of_row HXR6.out)).trans HXR6.out)
  clear k0 k1 k2 k3 k4 HRT HC6 HG6 HBW6 KD6 HX6
  go_upto_if 79 with fail
  go_cut [13] from 79 to 148 (fun s13 wx => s13 = .bool can ∧ Hid (Below w7.heap.size w7 wx))
  case first =>
    cases m0 with
    | false =>
      have HCF := Lib.hid (show can = false from by rw [← HCN2.out]; rfl)
      go_wp2
      go_meet
      case rel => exact ⟨by rw [HCF.out], Lib.hid (Below.refl _ _)⟩
    | true =>
      have hm := HM0.out
      rw [Bool.and_eq_true, decide_eq_true_eq] at hm
      obtain ⟨⟨h00, h04⟩, rfl⟩ := hm
      have HON := Lib.hid (show a3 = 0 ∨ a3 = 1 ∨ a3 = 2 ∨ a3 = 3 ∨ a3 = 4 from by
        obtain ⟨_, _, hp⟩ := term_parts HTB.out
        dsimp only at hp
        omega)
      have HSW := Lib.hid (show swB (sidesT nn) cr mt a0 a3 a4 = can from by have h := HCN2.out; rwa [Bool.true_and] at h)
      have hBT : B.T = sidesT nn := by rw [← HBE.out]; rfl
      obtain ⟨p0, hp0⟩ : ∃ p0, ofT (sidesT nn) a0 = p0 := ⟨_, rfl⟩
      obtain ⟨p1, hp1⟩ : ∃ p1, ofT (sidesT nn) x2 = p1 := ⟨_, rfl⟩
      have HP0 := Lib.hid hp0
      have HQ0 := Lib.hid (fun (W : World) (hb : Below w7.heap.size w7 W) nd => (Calls.quiet_of_same ((tof_any ((HC7.out.later hb).later (below_drewN (Below.refl _ _) nd)).tm a0).mono fun _ _ h => by rw [hBT, hp0] at h; exact h) : Calls Tryz.prog 16 #[.pointer (some ⟨gw.tb, 0, none⟩), .int .i64 a0] (W.drewN nd) fun e w'' => e = .returned (.int .i64 p0) ∧ ∃ m, w'' = W.drewN m))
      have HQ1 := Lib.hid (fun (W : World) (hb : Below w7.heap.size w7 W) nd => (Calls.quiet_of_same ((tof_any ((HC7.out.later hb).later (below_drewN (Below.refl _ _) nd)).tm x2).mono fun _ _ h => by rw [hBT, hp1] at h; exact h) : Calls Tryz.prog 16 #[.pointer (some ⟨gw.tb, 0, none⟩), .int .i64 x2] (W.drewN nd) fun e w'' => e = .returned (.int .i64 p1) ∧ ∃ m, w'' = W.drewN m))
      have HMZ := Lib.hid (show cr = true → (p1 == p0) = mt from fun h => by
        rcases HOB.out with ⟨_, h2⟩ | ⟨_, _, h2, _⟩
        · rw [h] at h2; cases h2
        · rw [← HMT.out, h, h2, Bool.true_and, hp0, ← hp1])
      obtain ⟨k0, k1, k2, k3, k4⟩ := KD7.out
      obtain ⟨q1, q2, q3⟩ := HX7.out
      obtain ⟨-, ct, -⟩ := HC7.out.cells
      clear hp0 hp1 h00 h04
      go_upto_region 12 with fail
      go_cut [14] from 80 to 97 (fun s14 wx => s14 = .bool mt ∧ Hid (Below w7.heap.size w7 wx))
      case first =>
        have HQ0 := Lib.hid (HQ0.out w7 (Below.refl _ _))
        have HQ1 := Lib.hid (HQ1.out w7 (Below.refl _ _))
        cases cr with
        | false =>
          have HF := Lib.hid (show mt = false from by rw [← HMT.out]; rfl)
          go_quiet ((first | (with_reducible exact HQ1.out _) | (with_reducible exact HQ0.out _)))
          go_wp2
          go_meet
          case rel => exact ⟨by rw [HF.out], Lib.hid (below_drewN (Below.refl _ _) _)⟩
        | true =>
          have hmz := HMZ.out rfl
          go_quiet ((first | (with_reducible exact HQ1.out _) | (with_reducible exact HQ0.out _)))
          go_wp2
          go_meet
          case rel => exact ⟨rfl, Lib.hid (below_drewN (Below.refl _ _) _)⟩
      case rest =>
      obtain ⟨rfl, HBX8⟩ := hcut
      obtain ⟨w8, rfl⟩ : ∃ w8, w8 = wc := ⟨_, rfl⟩
      obtain ⟨k0, k1, k2, k3, k4⟩ := keepC5 HBX8.out KD7.out
      obtain ⟨-, ct, -⟩ := (HC7.out.later HBX8.out).cells
      clear q1 q2 q3
      rcases HON.out with rfl | rfl | rfl | rfl | rfl
      · have HF := Lib.hid (show can = (a4 == 0) from HSW.out.symm)
        go_wp2
        go_meet
        case rel => exact ⟨by rw [HF.out], HBX8⟩
      · have HF := Lib.hid (show can = cr from HSW.out.symm)
        go_wp2
        go_meet
        case rel => exact ⟨by rw [HF.out], HBX8⟩
      · have HF := Lib.hid (show can = (cr && !mt) from HSW.out.symm)
        cases cr with
        | false =>
          go_wp2
          go_meet
          case rel => exact ⟨by rw [HF.out]; rfl, HBX8⟩
        | true =>
          go_wp2
          go_meet
          case rel => exact ⟨by rw [HF.out]; rfl, HBX8⟩
      · have HF := Lib.hid (show can = (cr && mt) from HSW.out.symm)
        cases cr with
        | false =>
          go_wp2
          go_meet
          case rel => exact ⟨by rw [HF.out]; rfl, HBX8⟩
        | true =>
          go_wp2
          go_meet
          case rel => exact ⟨by rw [HF.out]; rfl, HBX8⟩
      · have HF := Lib.hid (show can = (decide (0 ≤ a4) && (decide (a4 < ((sidesT nn).sh.length : Int)) && (a4 != ofT (sidesT nn) a0))) from HSW.out.symm)
        have HQ0 := Lib.hid (HQ0.out w8 HBX8.out)
        have hln : (B.T.sh.length : Int) = ((sidesT nn).sh.length : Int) := by rw [hBT]
        obtain ⟨ln, hl⟩ : ∃ ln : Int, ((sidesT nn).sh.length : Int) = ln := ⟨_, rfl⟩
        have HQL := Lib.hid (fun nd => (Calls.quiet_of_same ((tlen_any ((HC7.out.later HBX8.out).later (below_drewN (Below.refl _ _) nd)).tm).mono fun _ _ h => by rw [hln, hl] at h; exact h) : Calls Tryz.prog 17 #[.pointer (some ⟨gw.tb, 0, none⟩)] (w8.drewN nd) fun e w'' => e = .returned (.int .i64 ln) ∧ ∃ m, w'' = w8.drewN m))
        rw [hl, HP0.out] at HF
        clear hln hl hBT
        go_upto_region 23 with fail
        by_cases d0 : 0 ≤ a4
        · have e0 : decide (0 ≤ a4) = true := decide_eq_true d0
          rw [e0] at HF
          clear d0
          by_cases d1 : a4 < ln
          · have e1 : decide (a4 < ln) = true := decide_eq_true d1
            rw [e1] at HF
            clear d1
            go_quiet ((first | (with_reducible exact HQL.out _) | (with_reducible exact HQ0.out _)))
            go_wp2
            go_meet
            case rel => exact ⟨by rw [HF.out]; rfl, Lib.hid (below_drewN HBX8.out _)⟩
          · have e1 : decide (a4 < ln) = false := decide_eq_false d1
            rw [e1] at HF
            clear d1
            go_quiet ((first | (with_reducible exact HQL.out _) | (with_reducible exact HQ0.out _)))
            go_wp2
            go_meet
            case rel => exact ⟨by rw [HF.out]; rfl, Lib.hid (below_drewN HBX8.out _)⟩
        · have e0 : decide (0 ≤ a4) = false := decide_eq_false d0
          rw [e0] at HF
          clear d0
          go_quiet ((first | (with_reducible exact HQL.out _) | (with_reducible exact HQ0.out _)))
          go_wp2
          go_meet
          case rel => exact ⟨by rw [HF.out]; rfl, Lib.hid (below_drewN HBX8.out _)⟩
  case rest =>
  obtain ⟨rfl, HBX9⟩ := hcut
  obtain ⟨w9, rfl⟩ : ∃ w9, w9 = wc := ⟨_, rfl⟩
  have HC9 := Lib.hid (HC7.out.later HBX9.out)
  have HG9 := Lib.hid (HG7.out.later HBX9.out)
  have HBW9 := Lib.hid (stepB HBW7.out HBX9.out)
  have HXR9 := Lib.hid ((HBX9.out.block q10 (Crd.lt_of_row HXR7.out)).trans HXR7.out)
  obtain ⟨k0, k1, k2, k3, k4⟩ := keepC5 HBX9.out KD7.out
  clear HC7 HG7 HBW7 KD7
  cases can with
  | false =>
    have hd : doB B a0 ⟨a1, a2, a3⟩ a4 = B := by unfold doB; rw [HCAN.out]; rfl
    have hsm := bsame_self (B := B) (by have h := HG9.out; rw [hd] at h; exact h) HC9.out
    have HSM := Lib.hid hsm
    rw [HQ4.out] at HSM
    clear hsm hd
    go_wp2_with fail
    refine HSM.out.mono ?_
    rintro e w10 ⟨rfl, hb10⟩
    have HB10 := Lib.hid (stepB HBW9.out hb10)
    clear hb10
    go_wp2
    go_ret
    exact ⟨rfl, HB10.out⟩
  | true =>
    have hobj : creE B.S a4 = 0 → objOf B.S a4 = ⟨x0, x1, x2, x3, x4, x5, x6, x7, x8, x9, x10⟩ := fun h => by
      have hS : B.S = madeF l := by rw [← HBE.out]; rfl
      rw [hS] at h ⊢
      have hc := HCR.out
      rw [h] at hc
      rcases HOB.out with ⟨_, h2⟩ | ⟨_, _, h2, _⟩
      · rw [h2] at hc; cases hc
      · exact h2
    have hsm := same_does a0 a1 a2 a3 a4 ⟨x0, x1, x2, x3, x4, x5, x6, x7, x8, x9, x10⟩ HBE.out HG9.out HC9.out HAP4.out HCAN.out hobj
    rw [HQ4.out] at hsm
    have HSM := Lib.hid hsm
    unfold oagg at HSM
    dsimp only at HSM
    have c0 := cell_of_row w9 q10 0 _ _ _ HXR9.out
    have c1 := cell_of_row w9 q10 1 _ _ _ HXR9.out
    have c2 := cell_of_row w9 q10 2 _ _ _ HXR9.out
    have c3 := cell_of_row w9 q10 3 _ _ _ HXR9.out
    have c4 := cell_of_row w9 q10 4 _ _ _ HXR9.out
    have c5 := cell_of_row w9 q10 5 _ _ _ HXR9.out
    have c6 := cell_of_row w9 q10 6 _ _ _ HXR9.out
    have c7 := cell_of_row w9 q10 7 _ _ _ HXR9.out
    have c8 := cell_of_row w9 q10 8 _ _ _ HXR9.out
    have c9 := cell_of_row w9 q10 9 _ _ _ HXR9.out
    have c10 := cell_of_row w9 q10 10 _ _ _ HXR9.out
    have HOLW := Lib.hid (show ∀ k, gw.own k → w.heap.size ≤ k from fun k hk => by have h1 := HOC.out k hk; have h2 := HQ2.out; have h3 := HSZ.out; omega)
    clear hsm hobj
    go_wp2_with fail
    refine HSM.out.mono ?_
    rintro e w10 ⟨rfl, g10, ht10⟩
    have HB10 := Lib.hid (ht10.below HBW9.out HOLW.out)
    clear ht10
    go_wp2
    go_ret
    exact ⟨rfl, HB10.out⟩
end Go.Proofs.YtgjojjhppgjkkaaGreat
