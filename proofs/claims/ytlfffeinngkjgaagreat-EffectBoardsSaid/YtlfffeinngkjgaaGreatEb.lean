/- The law EffectBoards, walked (layer 11). -/
import Derived.Test.YtlfffeinngkjgaaGreatBn
import Derived.Test.YtlfffeinngkjgaaGreatBj
import Derived.Test.YtlfffeinngkjgaaGreatAq
import Derived.Test.YtlfffeinngkjgaaGreatEa
namespace Go.Proofs.YtlfffeinngkjgaaGreat
open Go.RowKit Go.Maps
attribute [local go_sem] Oper.semAt_some

theorem lib_short {S : StoreL} (h : WfS S) (hl : S.objs.length ≤ 40) {s z : Nat} (ok : okK S.seats s z) : (S.pl s z).length ≤ 40 :=
  Nat.le_trans (nodup_len S.objs.length _ (h.nodup s z ok) fun x hx => by
    obtain ⟨k, hk, rfl, _⟩ := (h.mem s z ok x).1 hx
    omega) hl
/-- Who has drawn a card has another store. -/
theorem drawS_objs {S : StoreL} (h : WfS S) {k c : Nat} (hk : k < S.seats) (hc : c ≤ (S.pl k 1).length) (h0 : 0 < c) : (drawS S k c).objs ≠ S.objs := by
  intro e
  have d := drawS_wf h hk c hc
  have hl : 0 < (S.pl k 1).length := by omega
  have hx : (S.pl k 1)[0] ∈ (drawS S k c).pl k 1 := by
    rw [d.wf.mem k 1 (okK_lib (by rw [d.seats]; exact hk)), e]
    exact (h.mem k 1 (okK_lib hk) _).1 (List.getElem_mem hl)
  rw [d.lib] at hx
  have hn : ((S.pl k 1).take c ++ (S.pl k 1).drop c).Nodup := by rw [List.take_append_drop]; exact h.nodup k 1 (okK_lib hk)
  have hx1 : (S.pl k 1)[0] ∈ (S.pl k 1).take c := by
    have e2 : ((S.pl k 1).take c)[0]'(by rw [List.length_take]; omega) = (S.pl k 1)[0] := List.getElem_take
    rw [← e2]
    exact List.getElem_mem _
  exact (List.nodup_append.1 hn).2.2 _ hx1 _ hx rfl
/-- A draw of 99 leaves seat 0 dry, and another board. -/
theorem draw99 {l : List ThingL} (hm : MadeS (madeF l) l) (h40 : (madeF l).objs.length ≤ 40) : (drawB (boardL l 0) 0 99).D = dry0.put 0 ∧ ((drawB (boardL l 0) 0 99).S.objs ≠ (boardL l 0).S.objs ∨ (drawB (boardL l 0) 0 99).S = (boardL l 0).S) ∧ (drawB (boardL l 0) 0 99).S.seats = 4 := by
  have hs : 0 < (madeF l).seats := by rw [hm.seats]; decide
  have hl := lib_short hm.wf h40 (okK_lib hs)
  have ha : askN 99 = 99 := by decide
  refine ⟨?_, ?_, ?_⟩
  · unfold drawB
    dsimp only
    rw [ha, if_pos (show ((boardL l 0).S.pl 0 1).length < 99 from by show ((madeF l).pl 0 1).length < 99; omega)]
    rfl
  · by_cases h0 : ((madeF l).pl 0 1).length = 0
    · right
      show drawS (madeF l) 0 (drawnN (madeF l) 0 99) = madeF l
      have : drawnN (madeF l) 0 99 = 0 := by unfold drawnN; rw [h0]; exact Nat.min_zero _
      rw [this]
      rfl
    · left
      show (drawS (madeF l) 0 (drawnN (madeF l) 0 99)).objs ≠ (madeF l).objs
      have : drawnN (madeF l) 0 99 = ((madeF l).pl 0 1).length := by unfold drawnN; rw [ha]; omega
      rw [this]
      exact drawS_objs hm.wf hs (Nat.le_refl _) (by omega)
  · show (drawS (madeF l) 0 (drawnN (madeF l) 0 99)).seats = 4
    have := (drawS_wf hm.wf hs (drawnN (madeF l) 0 99) (Nat.min_le_right _ _)).seats
    rw [this, hm.seats]
set_option maxRecDepth 100000 in
set_option maxHeartbeats 16000000 in
theorem effectBoards_walk {v su : Value} {l : List ThingL} {sl : List Int} (a0 a1 a2 a3 a4 : Int) {w : World} (hv : ThingsAt w v l) (hw : ∀ x ∈ l, Wf x.owner ∧ Wf x.zone) (hlen : l.length ≤ 9223372036854775807) (hs : IntsAt w su sl) (hsl : sl.length ≤ 9223372036854775807) :
    Calls Tryz.prog 5 #[v, su, .agg #[.int .i64 a0, .int .i64 a1, .int .i64 a2, .int .i64 a3, .int .i64 a4]] w (RetV w (.bool true)) := by
  have hb0 := below_new w (.cells #[.int .i64 a0, .int .i64 a1, .int .i64 a2, .int .i64 a3, .int .i64 a4] 26)
  have hkk := fun j => cell_of_row (w.alloc (.cells #[.int .i64 a0, .int .i64 a1, .int .i64 a2, .int .i64 a3, .int .i64 a4] 26)) w.heap.size j _ _ _ (heap_alloc_new w (.cells #[.int .i64 a0, .int .i64 a1, .int .i64 a2, .int .i64 a3, .int .i64 a4] 26))
  have KD := Lib.hid (show _ ∧ _ ∧ _ ∧ _ ∧ _ from ⟨hkk 0, hkk 1, hkk 2, hkk 3, hkk 4⟩)
  obtain ⟨W, hW⟩ : ∃ W, w.alloc (.cells #[.int .i64 a0, .int .i64 a1, .int .i64 a2, .int .i64 a3, .int .i64 a4] 26) = W := ⟨_, rfl⟩
  rw [hW] at hb0 KD
  have HBO := Lib.hid (fun (w' : World) (hb : Below W.heap.size W w') => board_any ((hv.later hb0).later hb) hw hlen 0 (by decide))
  have HSI := Lib.hid (hs.later hb0)
  have HSZ := Lib.hid (show W.heap.size = w.heap.size + 1 by rw [← hW]; simp)
  have HB0 := Lib.hid hb0
  have HW := Lib.hid hW
  obtain ⟨va, vc, rfl⟩ := hv.form
  obtain ⟨sa, sc, rfl⟩ := hs.form
  clear hkk hv hw hs hb0 hW
  go_enter Tryz.func5, Tryz.ntmps5
  go_upto_region 1 with fail
  rw [HW.out]
  obtain ⟨q5, hq5⟩ : ∃ q, w.heap.size = q := ⟨_, rfl⟩
  have HQ5 := Lib.hid hq5
  rw [hq5] at KD ⊢
  clear hq5
  go_wp2_with fail
  refine (awake11_any W).mono ?_
  rintro e w1 ⟨rfl, hb1⟩
  have HB1 := Lib.hid hb1
  clear hb1
  dsimp only
  go_wp2_with fail
  refine (HBO.out w1 HB1.out).mono ?_
  rintro e w2 (⟨hp, hm, lo, g, rfl, hbd, hlo, hb2⟩ | ⟨hn, rfl, hb2⟩)
  case inr =>
    have HB2 := Lib.hid (stepB HB0.out (stepB HB1.out hb2))
    clear hb2 HBO hn
    dsimp only
    go_wp2
    go_ret
    exact ⟨rfl, HB2.out⟩
  have HM := Lib.hid hm
  have HL40 := Lib.hid (show (madeF l).objs.length ≤ 40 by rw [hm.len]; exact hp.1)
  have HBD := Lib.hid hbd
  have HB12 := Lib.hid (stepB HB1.out hb2)
  have HB2 := Lib.hid (stepB HB0.out (stepB HB1.out hb2))
  have HOL := Lib.hid (show ∀ k, g.own k → W.heap.size ≤ k from fun k hk => Nat.le_trans (Nat.le_trans HB1.out.size hlo) (hbd.ownLo hk))
  clear hp hm hlo hbd hb2 HBO
  dsimp only
  by_cases h10 : 10 < sl.length
  · have d10 : decide ((10 : Int) < sl.length) = true := decide_eq_true (by omega)
    go_wp2
    go_ret
    exact ⟨rfl, HB2.out⟩
  have d10 : decide ((10 : Int) < sl.length) = false := decide_eq_false (by omega)
  have hlit := (RowAt.new w2 3 (intsV [9, 9])).vals 2
  have hb3 := below_new w2 (.cells #[.int .i64 9, .int .i64 9] 3)
  have hsi2 := (HSI.out.later HB12.out).later hb3
  have HHB : Hid (w2.heap.size ≤ w2.heap.size) := Lib.hid (Nat.le_refl _)
  have hcls : ∃ z : Bool, (z = true ↔ MayP sl [9, 9]) := by
    by_cases h : MayP sl [9, 9]
    · exact ⟨true, ⟨fun _ => h, fun _ => rfl⟩⟩
    · exact ⟨false, ⟨fun e => (by cases e), fun e => absurd e h⟩⟩
  obtain ⟨z, hz⟩ := hcls
  have HNT := Lib.hid (new9_any hsi2 (show IntsAt _ _ [9, 9] from hlit) (by omega) (by simp) hz)
  have HB3 := Lib.hid hb3
  have HB : Hid True := Lib.hid trivial
  clear hlit hsi2 hb3 hz
  go_wp2_with fail
  refine HNT.out.mono ?_
  rintro e w4 ⟨hy, hn, hb4⟩
  have HB4 := Lib.hid (stepB HB3.out hb4)
  cases z with
  | false =>
    obtain rfl := hn rfl
    obtain ⟨w5, h5⟩ : ∃ w5, w4 = w5 := ⟨_, rfl⟩
    have HB5 : Hid (Below w2.heap.size w2 w5) := Lib.hid (h5 ▸ HB4.out)
    rw [h5]
    clear hy hn hb4 h5 HNT
    dsimp only
    have HBD5 := Lib.hid (HBD.out.later HB5.out)
    have HB5W := Lib.hid (stepB HB2.out HB5.out)
    have KD5 := Lib.hid (show _ ∧ _ ∧ _ ∧ _ ∧ _ from (keepC5 (stepB HB12.out HB5.out) KD.out))
    obtain ⟨B, hB⟩ : ∃ B, boardL l 0 = B := ⟨_, rfl⟩
    have HCO := Lib.hid (bcopy_any HBD5.out)
    go_wp2_with fail
    refine HCO.out.mono ?_
    rintro e w6 ⟨gc, rfl, hc6, hb6⟩
    have HAP := Lib.hid (apart_copyB HBD5.out hc6)
    have HBD6 := Lib.hid (HBD5.out.later hb6)
    have HC6 := Lib.hid hc6
    have HB6 := Lib.hid (stepB HB5W.out hb6)
    have KD6 := Lib.hid (keepC5 hb6 KD5.out)
    have HQC := Lib.hid (show q5 < w5.heap.size from by have := HSZ.out; have := HQ5.out; have := HB5W.out.size; have := HB12.out.size; have := HB5.out.size; omega)
    have HDR := Lib.hid (draw_any hc6 0 (by show 0 < (madeF l).seats; rw [HM.out.seats]; decide) 99)
    have HOC := Lib.hid (show ∀ k, gc.own k → w5.heap.size ≤ k from fun k hk => hc6.ownLo hk)
    clear hc6 hb6 HCO HBD5
    dsimp only
    go_wp2_with fail
    refine HDR.out.mono ?_
    rintro e w7 ⟨rfl, g7, hb7, ht7, hq7⟩
    have hfar := HBD6.out.far HAP.out.flip ht7
    have HBD7 := Lib.hid hfar.1
    have HB7 := Lib.hid (ht7.below HB6.out (fun k hk => Nat.le_trans HB5W.out.size (HOC.out k hk)))
    have hd99 := draw99 HM.out HL40.out
    have KD7 : Hid (w7.cell? ⟨q5, 0, none⟩ = some (.int .i64 a0) ∧ w7.cell? ⟨q5, 1, none⟩ = some (.int .i64 a1) ∧ w7.cell? ⟨q5, 2, none⟩ = some (.int .i64 a2) ∧ w7.cell? ⟨q5, 3, none⟩ = some (.int .i64 a3) ∧ w7.cell? ⟨q5, 4, none⟩ = some (.int .i64 a4)) := Lib.hid (by
      have hlt : q5 < w6.heap.size := Nat.lt_of_lt_of_le HQC.out (Nat.le_trans (HBD6.out.lt |> fun _ => (by have := HB6.out.size; have := HC6.out.lq; have := HC6.out.lt; omega)) (Nat.le_refl _))
      obtain ⟨x0, x1, x2, x3, x4⟩ := KD6.out
      exact ⟨TurnedB.cell x0 ht7 HOC.out HQC.out hlt, TurnedB.cell x1 ht7 HOC.out HQC.out hlt, TurnedB.cell x2 ht7 HOC.out HQC.out hlt, TurnedB.cell x3 ht7 HOC.out HQC.out hlt, TurnedB.cell x4 ht7 HOC.out HQC.out hlt⟩)
    have hdc : Calls Tryz.prog 23 #[.pointer (some ⟨gc.q, 0, none⟩), .int .i64 0] w7 (Same w7 (.bool true)) := by
      have := dry_any hb7 0
      rw [hq7] at this
      rwa [show dryT (drawB (boardL l 0) 0 99) 0 = true from by
        unfold dryT
        rw [hd99.1, show hasT (drawB (boardL l 0) 0 99) 0 = true from decide_eq_true ⟨by omega, by rw [hd99.2.2]; decide⟩]
        rfl] at this
    have hdb : Calls Tryz.prog 23 #[.pointer (some ⟨g.q, 0, none⟩), .int .i64 0] w7 (Same w7 (.bool false)) := by
      have := dry_any hfar.1 0
      rwa [show dryT (boardL l 0) 0 = false from by unfold dryT; exact Bool.and_false _] at this
    have hsm : Calls Tryz.prog 17 #[.pointer (some ⟨gc.q, 0, none⟩), .pointer (some ⟨g.q, 0, none⟩)] w7 (RetV w7 (.bool false)) := by
      rw [← hq7]
      rcases hd99.2.1 with hne | heq
      · exact bsame_objs hb7 hfar.1 (by rw [hd99.2.2]; exact HM.out.seats.symm) hne
      · have e1 : drawB (boardL l 0) 0 99 = ⟨(boardL l 0).S, (boardL l 0).T, dry0.put 0⟩ := by
          have h1 := hd99.1
          have h3 : (drawB (boardL l 0) 0 99).T = (boardL l 0).T := rfl
          revert h1 heq h3
          generalize drawB (boardL l 0) 0 99 = X
          intro h1 heq h3
          obtain ⟨s, t, d⟩ := X
          dsimp only at h1 heq h3
          subst h1 heq h3
          rfl
        have h7 : BoardAt w7 _ g7 (drawB (boardL l 0) 0 99) := hb7
        rw [e1] at h7
        have := bsame_any h7 (show BoardAt w7 _ g ⟨(boardL l 0).S, (boardL l 0).T, dry0⟩ from hfar.1)
        rwa [show eqD (dry0.put 0) dry0 = false from by decide] at this
    have hcc := bcopy_any hb7
    rw [hq7] at hcc
    have HDC := Lib.hid hdc
    have HDB := Lib.hid hdb
    have HSM := Lib.hid hsm
    have HCC := Lib.hid (fun (w' : World) (hb : Below w7.heap.size w7 w') => show Calls Tryz.prog 10 #[.pointer (some ⟨gc.q, 0, none⟩)] w' (RetBN w' (drawB (boardL l 0) 0 99)) from by
      have := bcopy_any (hb7.later hb)
      rwa [hq7] at this)
    have HB77 := Lib.hid hb7
    have HQ7 := Lib.hid hq7
    clear hb7 ht7 hq7 hfar hdc hdb hsm hcc hd99 HDR HC6 HB
    dsimp only
    go_wp2_with fail
    refine HDC.out.mono ?_
    rintro e w8 ⟨rfl, rfl⟩
    go_wp2_with fail
    refine HDB.out.mono ?_
    rintro e w8 ⟨rfl, rfl⟩
    go_wp2_with fail
    refine HSM.out.mono ?_
    rintro e w8 ⟨rfl, hb8⟩
    go_wp2_with fail
    refine (HCC.out w8 hb8).mono ?_
    rintro e w9 ⟨g9, rfl, hc9, hb9⟩
    have hs9 := bsame_self (HB77.out.later (stepB hb8 hb9)) hc9
    rw [HQ7.out] at hs9
    have HS9 := Lib.hid hs9
    have HB9 := Lib.hid (stepB hb8 hb9)
    clear hb8 hb9 hc9 hs9
    dsimp only
    go_wp2_with fail
    refine HS9.out.mono ?_
    rintro e w10 ⟨rfl, hb10⟩
    have HB10 := Lib.hid (stepB HB9.out hb10)
    clear hb10
    obtain ⟨c0, c1, -⟩ := (HBD7.out.later HB10.out).cells
    have KD10 := Lib.hid (keepC5 HB10.out KD7.out)
    dsimp only
    go_wp2_with fail
    refine (bnew_nilS _ _).mono ?_
    rintro e w11 ⟨rfl, rfl⟩
    dsimp only
    go_wp2_with fail
    refine (bnew_nilT _ _).mono ?_
    rintro e w11 ⟨rfl, rfl⟩
    dsimp only
    go_wp2_with fail
    refine (bnew_nilS _ _).mono ?_
    rintro e w11 ⟨rfl, rfl⟩
    dsimp only
    go_wp2_with fail
    refine (wet_nil _).mono ?_
    rintro e w11 ⟨rfl, rfl⟩
    dsimp only
    obtain ⟨k0, k1, k2, k3, k4⟩ := KD10.out
    go_wp2_with fail
    refine (do_nil _ _ _ _ _ _).mono ?_
    rintro e w11 ⟨rfl, hb11⟩
    obtain ⟨k0, k1, k2, k3, k4⟩ := keepC5 hb11 KD10.out
    have HB11 := Lib.hid (stepB HB10.out hb11)
    clear hb11
    dsimp only
    go_wp2_with fail
    refine (all_nil a0 a4 (l := [⟨a1, a2, a3⟩]) (.inr ⟨_, 0, 1, rfl, by simp, fun i hi => ?_⟩) ⟨_, 1, rfl⟩ (by simp)).mono ?_
    · have hc := fun j => cell_of_row _ w11.heap.size j _ _ _ (heap_alloc_new w11 (.cells #[.int .i64 a1, .int .i64 a2, .int .i64 a3] 24))
      obtain rfl : i = 0 := by simp at hi; omega
      exact ⟨hc 0, hc 1, hc 2⟩
    rintro e w12 ⟨rfl, hb12⟩
    have HB12' := Lib.hid (stepB HB11.out (stepB (below_new w11 _) hb12))
    clear hb12
    dsimp only
    go_wp2_with fail
    refine (draw_nil _ _ _).mono ?_
    rintro e w13 ⟨rfl, rfl⟩
    go_wp2_with fail
    refine (dry_nil _ _).mono ?_
    rintro e w13 ⟨rfl, rfl⟩
    go_wp2_with fail
    refine (bcopy_nil _).mono ?_
    rintro e w13 ⟨rfl, rfl⟩
    go_wp2_with fail
    refine (bsame_nil _).mono ?_
    rintro e w13 ⟨rfl, rfl⟩
    go_wp2_with fail
    refine (bsame_none _ _).mono ?_
    rintro e w13 ⟨rfl, rfl⟩
    go_wp2
    go_ret
    exact ⟨rfl, stepB HB7.out HB12'.out⟩
  | true =>
    obtain ⟨tb, ts, tr, rfl, ht4⟩ := hy rfl
    obtain ⟨c0, -⟩ := (HBD.out.later HB4.out).cells
    have hnw := bnew_any (HBD.out.later HB4.out).st HM.out.wf (by have := HL40.out; exact Nat.le_trans this (by omega)) ht4
    rw [show (boardL l 0).S.seats = 4 from HM.out.seats, show (newT sl [9, 9]).sides.length = sl.length from rfl] at hnw
    have HNW := Lib.hid hnw
    clear hy hn hb4 ht4 hnw HNT
    dsimp only
    by_cases h4 : 4 = sl.length
    · rw [decide_eq_true h4] at HNW
      have d4 : ((sl.length : Int) == 4) = true := beq_iff_eq.2 (by omega)
      clear h4
      go_wp2_with fail
      refine HNW.out.mono ?_
      rintro e w5 ⟨hy5, _, hb5⟩
      obtain ⟨g5, rfl, _⟩ := hy5 rfl
      have HB5 := Lib.hid (stepB HB4.out hb5)
      clear hy5 hb5 c0 HNW
      dsimp only
      have HBD5 := Lib.hid (HBD.out.later HB5.out)
      have HB5W := Lib.hid (stepB HB2.out HB5.out)
      have KD5 := Lib.hid (show _ ∧ _ ∧ _ ∧ _ ∧ _ from (keepC5 (stepB HB12.out HB5.out) KD.out))
      obtain ⟨B, hB⟩ : ∃ B, boardL l 0 = B := ⟨_, rfl⟩
      have HCO := Lib.hid (bcopy_any HBD5.out)
      go_wp2_with fail
      refine HCO.out.mono ?_
      rintro e w6 ⟨gc, rfl, hc6, hb6⟩
      have HAP := Lib.hid (apart_copyB HBD5.out hc6)
      have HBD6 := Lib.hid (HBD5.out.later hb6)
      have HC6 := Lib.hid hc6
      have HB6 := Lib.hid (stepB HB5W.out hb6)
      have KD6 := Lib.hid (keepC5 hb6 KD5.out)
      have HQC := Lib.hid (show q5 < w5.heap.size from by have := HSZ.out; have := HQ5.out; have := HB5W.out.size; have := HB12.out.size; have := HB5.out.size; omega)
      have HDR := Lib.hid (draw_any hc6 0 (by show 0 < (madeF l).seats; rw [HM.out.seats]; decide) 99)
      have HOC := Lib.hid (show ∀ k, gc.own k → w5.heap.size ≤ k from fun k hk => hc6.ownLo hk)
      clear hc6 hb6 HCO HBD5
      dsimp only
      go_wp2_with fail
      refine HDR.out.mono ?_
      rintro e w7 ⟨rfl, g7, hb7, ht7, hq7⟩
      have hfar := HBD6.out.far HAP.out.flip ht7
      have HBD7 := Lib.hid hfar.1
      have HB7 := Lib.hid (ht7.below HB6.out (fun k hk => Nat.le_trans HB5W.out.size (HOC.out k hk)))
      have hd99 := draw99 HM.out HL40.out
      have KD7 : Hid (w7.cell? ⟨q5, 0, none⟩ = some (.int .i64 a0) ∧ w7.cell? ⟨q5, 1, none⟩ = some (.int .i64 a1) ∧ w7.cell? ⟨q5, 2, none⟩ = some (.int .i64 a2) ∧ w7.cell? ⟨q5, 3, none⟩ = some (.int .i64 a3) ∧ w7.cell? ⟨q5, 4, none⟩ = some (.int .i64 a4)) := Lib.hid (by
        have hlt : q5 < w6.heap.size := Nat.lt_of_lt_of_le HQC.out (Nat.le_trans (HBD6.out.lt |> fun _ => (by have := HB6.out.size; have := HC6.out.lq; have := HC6.out.lt; omega)) (Nat.le_refl _))
        obtain ⟨x0, x1, x2, x3, x4⟩ := KD6.out
        exact ⟨TurnedB.cell x0 ht7 HOC.out HQC.out hlt, TurnedB.cell x1 ht7 HOC.out HQC.out hlt, TurnedB.cell x2 ht7 HOC.out HQC.out hlt, TurnedB.cell x3 ht7 HOC.out HQC.out hlt, TurnedB.cell x4 ht7 HOC.out HQC.out hlt⟩)
      have hdc : Calls Tryz.prog 23 #[.pointer (some ⟨gc.q, 0, none⟩), .int .i64 0] w7 (Same w7 (.bool true)) := by
        have := dry_any hb7 0
        rw [hq7] at this
        rwa [show dryT (drawB (boardL l 0) 0 99) 0 = true from by
          unfold dryT
          rw [hd99.1, show hasT (drawB (boardL l 0) 0 99) 0 = true from decide_eq_true ⟨by omega, by rw [hd99.2.2]; decide⟩]
          rfl] at this
      have hdb : Calls Tryz.prog 23 #[.pointer (some ⟨g.q, 0, none⟩), .int .i64 0] w7 (Same w7 (.bool false)) := by
        have := dry_any hfar.1 0
        rwa [show dryT (boardL l 0) 0 = false from by unfold dryT; exact Bool.and_false _] at this
      have hsm : Calls Tryz.prog 17 #[.pointer (some ⟨gc.q, 0, none⟩), .pointer (some ⟨g.q, 0, none⟩)] w7 (RetV w7 (.bool false)) := by
        rw [← hq7]
        rcases hd99.2.1 with hne | heq
        · exact bsame_objs hb7 hfar.1 (by rw [hd99.2.2]; exact HM.out.seats.symm) hne
        · have e1 : drawB (boardL l 0) 0 99 = ⟨(boardL l 0).S, (boardL l 0).T, dry0.put 0⟩ := by
            have h1 := hd99.1
            have h3 : (drawB (boardL l 0) 0 99).T = (boardL l 0).T := rfl
            revert h1 heq h3
            generalize drawB (boardL l 0) 0 99 = X
            intro h1 heq h3
            obtain ⟨s, t, d⟩ := X
            dsimp only at h1 heq h3
            subst h1 heq h3
            rfl
          have h7 : BoardAt w7 _ g7 (drawB (boardL l 0) 0 99) := hb7
          rw [e1] at h7
          have := bsame_any h7 (show BoardAt w7 _ g ⟨(boardL l 0).S, (boardL l 0).T, dry0⟩ from hfar.1)
          rwa [show eqD (dry0.put 0) dry0 = false from by decide] at this
      have hcc := bcopy_any hb7
      rw [hq7] at hcc
      have HDC := Lib.hid hdc
      have HDB := Lib.hid hdb
      have HSM := Lib.hid hsm
      have HCC := Lib.hid (fun (w' : World) (hb : Below w7.heap.size w7 w') => show Calls Tryz.prog 10 #[.pointer (some ⟨gc.q, 0, none⟩)] w' (RetBN w' (drawB (boardL l 0) 0 99)) from by
        have := bcopy_any (hb7.later hb)
        rwa [hq7] at this)
      have HB77 := Lib.hid hb7
      have HQ7 := Lib.hid hq7
      clear hb7 ht7 hq7 hfar hdc hdb hsm hcc hd99 HDR HC6 HB
      dsimp only
      go_wp2_with fail
      refine HDC.out.mono ?_
      rintro e w8 ⟨rfl, rfl⟩
      go_wp2_with fail
      refine HDB.out.mono ?_
      rintro e w8 ⟨rfl, rfl⟩
      go_wp2_with fail
      refine HSM.out.mono ?_
      rintro e w8 ⟨rfl, hb8⟩
      go_wp2_with fail
      refine (HCC.out w8 hb8).mono ?_
      rintro e w9 ⟨g9, rfl, hc9, hb9⟩
      have hs9 := bsame_self (HB77.out.later (stepB hb8 hb9)) hc9
      rw [HQ7.out] at hs9
      have HS9 := Lib.hid hs9
      have HB9 := Lib.hid (stepB hb8 hb9)
      clear hb8 hb9 hc9 hs9
      dsimp only
      go_wp2_with fail
      refine HS9.out.mono ?_
      rintro e w10 ⟨rfl, hb10⟩
      have HB10 := Lib.hid (stepB HB9.out hb10)
      clear hb10
      obtain ⟨c0, c1, -⟩ := (HBD7.out.later HB10.out).cells
      have KD10 := Lib.hid (keepC5 HB10.out KD7.out)
      dsimp only
      go_wp2_with fail
      refine (bnew_nilS _ _).mono ?_
      rintro e w11 ⟨rfl, rfl⟩
      dsimp only
      go_wp2_with fail
      refine (bnew_nilT _ _).mono ?_
      rintro e w11 ⟨rfl, rfl⟩
      dsimp only
      go_wp2_with fail
      refine (bnew_nilS _ _).mono ?_
      rintro e w11 ⟨rfl, rfl⟩
      dsimp only
      go_wp2_with fail
      refine (wet_nil _).mono ?_
      rintro e w11 ⟨rfl, rfl⟩
      dsimp only
      obtain ⟨k0, k1, k2, k3, k4⟩ := KD10.out
      go_wp2_with fail
      refine (do_nil _ _ _ _ _ _).mono ?_
      rintro e w11 ⟨rfl, hb11⟩
      obtain ⟨k0, k1, k2, k3, k4⟩ := keepC5 hb11 KD10.out
      have HB11 := Lib.hid (stepB HB10.out hb11)
      clear hb11
      dsimp only
      go_wp2_with fail
      refine (all_nil a0 a4 (l := [⟨a1, a2, a3⟩]) (.inr ⟨_, 0, 1, rfl, by simp, fun i hi => ?_⟩) ⟨_, 1, rfl⟩ (by simp)).mono ?_
      · have hc := fun j => cell_of_row _ w11.heap.size j _ _ _ (heap_alloc_new w11 (.cells #[.int .i64 a1, .int .i64 a2, .int .i64 a3] 24))
        obtain rfl : i = 0 := by simp at hi; omega
        exact ⟨hc 0, hc 1, hc 2⟩
      rintro e w12 ⟨rfl, hb12⟩
      have HB12' := Lib.hid (stepB HB11.out (stepB (below_new w11 _) hb12))
      clear hb12
      dsimp only
      go_wp2_with fail
      refine (draw_nil _ _ _).mono ?_
      rintro e w13 ⟨rfl, rfl⟩
      go_wp2_with fail
      refine (dry_nil _ _).mono ?_
      rintro e w13 ⟨rfl, rfl⟩
      go_wp2_with fail
      refine (bcopy_nil _).mono ?_
      rintro e w13 ⟨rfl, rfl⟩
      go_wp2_with fail
      refine (bsame_nil _).mono ?_
      rintro e w13 ⟨rfl, rfl⟩
      go_wp2_with fail
      refine (bsame_none _ _).mono ?_
      rintro e w13 ⟨rfl, rfl⟩
      go_wp2
      go_ret
      exact ⟨rfl, stepB HB7.out HB12'.out⟩
    · rw [decide_eq_false h4] at HNW
      have d4 : ((sl.length : Int) == 4) = false := beq_eq_false_iff_ne.2 (by omega)
      clear h4
      go_wp2_with fail
      refine HNW.out.mono ?_
      rintro e w5 ⟨_, hn5, hb5⟩
      obtain rfl := hn5 rfl
      have HB5 := Lib.hid (stepB HB4.out hb5)
      clear hn5 hb5 c0 HNW
      dsimp only
      have HBD5 := Lib.hid (HBD.out.later HB5.out)
      have HB5W := Lib.hid (stepB HB2.out HB5.out)
      have KD5 := Lib.hid (show _ ∧ _ ∧ _ ∧ _ ∧ _ from (keepC5 (stepB HB12.out HB5.out) KD.out))
      obtain ⟨B, hB⟩ : ∃ B, boardL l 0 = B := ⟨_, rfl⟩
      have HCO := Lib.hid (bcopy_any HBD5.out)
      go_wp2_with fail
      refine HCO.out.mono ?_
      rintro e w6 ⟨gc, rfl, hc6, hb6⟩
      have HAP := Lib.hid (apart_copyB HBD5.out hc6)
      have HBD6 := Lib.hid (HBD5.out.later hb6)
      have HC6 := Lib.hid hc6
      have HB6 := Lib.hid (stepB HB5W.out hb6)
      have KD6 := Lib.hid (keepC5 hb6 KD5.out)
      have HQC := Lib.hid (show q5 < w5.heap.size from by have := HSZ.out; have := HQ5.out; have := HB5W.out.size; have := HB12.out.size; have := HB5.out.size; omega)
      have HDR := Lib.hid (draw_any hc6 0 (by show 0 < (madeF l).seats; rw [HM.out.seats]; decide) 99)
      have HOC := Lib.hid (show ∀ k, gc.own k → w5.heap.size ≤ k from fun k hk => hc6.ownLo hk)
      clear hc6 hb6 HCO HBD5
      dsimp only
      go_wp2_with fail
      refine HDR.out.mono ?_
      rintro e w7 ⟨rfl, g7, hb7, ht7, hq7⟩
      have hfar := HBD6.out.far HAP.out.flip ht7
      have HBD7 := Lib.hid hfar.1
      have HB7 := Lib.hid (ht7.below HB6.out (fun k hk => Nat.le_trans HB5W.out.size (HOC.out k hk)))
      have hd99 := draw99 HM.out HL40.out
      have KD7 : Hid (w7.cell? ⟨q5, 0, none⟩ = some (.int .i64 a0) ∧ w7.cell? ⟨q5, 1, none⟩ = some (.int .i64 a1) ∧ w7.cell? ⟨q5, 2, none⟩ = some (.int .i64 a2) ∧ w7.cell? ⟨q5, 3, none⟩ = some (.int .i64 a3) ∧ w7.cell? ⟨q5, 4, none⟩ = some (.int .i64 a4)) := Lib.hid (by
        have hlt : q5 < w6.heap.size := Nat.lt_of_lt_of_le HQC.out (Nat.le_trans (HBD6.out.lt |> fun _ => (by have := HB6.out.size; have := HC6.out.lq; have := HC6.out.lt; omega)) (Nat.le_refl _))
        obtain ⟨x0, x1, x2, x3, x4⟩ := KD6.out
        exact ⟨TurnedB.cell x0 ht7 HOC.out HQC.out hlt, TurnedB.cell x1 ht7 HOC.out HQC.out hlt, TurnedB.cell x2 ht7 HOC.out HQC.out hlt, TurnedB.cell x3 ht7 HOC.out HQC.out hlt, TurnedB.cell x4 ht7 HOC.out HQC.out hlt⟩)
      have hdc : Calls Tryz.prog 23 #[.pointer (some ⟨gc.q, 0, none⟩), .int .i64 0] w7 (Same w7 (.bool true)) := by
        have := dry_any hb7 0
        rw [hq7] at this
        rwa [show dryT (drawB (boardL l 0) 0 99) 0 = true from by
          unfold dryT
          rw [hd99.1, show hasT (drawB (boardL l 0) 0 99) 0 = true from decide_eq_true ⟨by omega, by rw [hd99.2.2]; decide⟩]
          rfl] at this
      have hdb : Calls Tryz.prog 23 #[.pointer (some ⟨g.q, 0, none⟩), .int .i64 0] w7 (Same w7 (.bool false)) := by
        have := dry_any hfar.1 0
        rwa [show dryT (boardL l 0) 0 = false from by unfold dryT; exact Bool.and_false _] at this
      have hsm : Calls Tryz.prog 17 #[.pointer (some ⟨gc.q, 0, none⟩), .pointer (some ⟨g.q, 0, none⟩)] w7 (RetV w7 (.bool false)) := by
        rw [← hq7]
        rcases hd99.2.1 with hne | heq
        · exact bsame_objs hb7 hfar.1 (by rw [hd99.2.2]; exact HM.out.seats.symm) hne
        · have e1 : drawB (boardL l 0) 0 99 = ⟨(boardL l 0).S, (boardL l 0).T, dry0.put 0⟩ := by
            have h1 := hd99.1
            have h3 : (drawB (boardL l 0) 0 99).T = (boardL l 0).T := rfl
            revert h1 heq h3
            generalize drawB (boardL l 0) 0 99 = X
            intro h1 heq h3
            obtain ⟨s, t, d⟩ := X
            dsimp only at h1 heq h3
            subst h1 heq h3
            rfl
          have h7 : BoardAt w7 _ g7 (drawB (boardL l 0) 0 99) := hb7
          rw [e1] at h7
          have := bsame_any h7 (show BoardAt w7 _ g ⟨(boardL l 0).S, (boardL l 0).T, dry0⟩ from hfar.1)
          rwa [show eqD (dry0.put 0) dry0 = false from by decide] at this
      have hcc := bcopy_any hb7
      rw [hq7] at hcc
      have HDC := Lib.hid hdc
      have HDB := Lib.hid hdb
      have HSM := Lib.hid hsm
      have HCC := Lib.hid (fun (w' : World) (hb : Below w7.heap.size w7 w') => show Calls Tryz.prog 10 #[.pointer (some ⟨gc.q, 0, none⟩)] w' (RetBN w' (drawB (boardL l 0) 0 99)) from by
        have := bcopy_any (hb7.later hb)
        rwa [hq7] at this)
      have HB77 := Lib.hid hb7
      have HQ7 := Lib.hid hq7
      clear hb7 ht7 hq7 hfar hdc hdb hsm hcc hd99 HDR HC6 HB
      dsimp only
      go_wp2_with fail
      refine HDC.out.mono ?_
      rintro e w8 ⟨rfl, rfl⟩
      go_wp2_with fail
      refine HDB.out.mono ?_
      rintro e w8 ⟨rfl, rfl⟩
      go_wp2_with fail
      refine HSM.out.mono ?_
      rintro e w8 ⟨rfl, hb8⟩
      go_wp2_with fail
      refine (HCC.out w8 hb8).mono ?_
      rintro e w9 ⟨g9, rfl, hc9, hb9⟩
      have hs9 := bsame_self (HB77.out.later (stepB hb8 hb9)) hc9
      rw [HQ7.out] at hs9
      have HS9 := Lib.hid hs9
      have HB9 := Lib.hid (stepB hb8 hb9)
      clear hb8 hb9 hc9 hs9
      dsimp only
      go_wp2_with fail
      refine HS9.out.mono ?_
      rintro e w10 ⟨rfl, hb10⟩
      have HB10 := Lib.hid (stepB HB9.out hb10)
      clear hb10
      obtain ⟨c0, c1, -⟩ := (HBD7.out.later HB10.out).cells
      have KD10 := Lib.hid (keepC5 HB10.out KD7.out)
      dsimp only
      go_wp2_with fail
      refine (bnew_nilS _ _).mono ?_
      rintro e w11 ⟨rfl, rfl⟩
      dsimp only
      go_wp2_with fail
      refine (bnew_nilT _ _).mono ?_
      rintro e w11 ⟨rfl, rfl⟩
      dsimp only
      go_wp2_with fail
      refine (bnew_nilS _ _).mono ?_
      rintro e w11 ⟨rfl, rfl⟩
      dsimp only
      go_wp2_with fail
      refine (wet_nil _).mono ?_
      rintro e w11 ⟨rfl, rfl⟩
      dsimp only
      obtain ⟨k0, k1, k2, k3, k4⟩ := KD10.out
      go_wp2_with fail
      refine (do_nil _ _ _ _ _ _).mono ?_
      rintro e w11 ⟨rfl, hb11⟩
      obtain ⟨k0, k1, k2, k3, k4⟩ := keepC5 hb11 KD10.out
      have HB11 := Lib.hid (stepB HB10.out hb11)
      clear hb11
      dsimp only
      go_wp2_with fail
      refine (all_nil a0 a4 (l := [⟨a1, a2, a3⟩]) (.inr ⟨_, 0, 1, rfl, by simp, fun i hi => ?_⟩) ⟨_, 1, rfl⟩ (by simp)).mono ?_
      · have hc := fun j => cell_of_row _ w11.heap.size j _ _ _ (heap_alloc_new w11 (.cells #[.int .i64 a1, .int .i64 a2, .int .i64 a3] 24))
        obtain rfl : i = 0 := by simp at hi; omega
        exact ⟨hc 0, hc 1, hc 2⟩
      rintro e w12 ⟨rfl, hb12⟩
      have HB12' := Lib.hid (stepB HB11.out (stepB (below_new w11 _) hb12))
      clear hb12
      dsimp only
      go_wp2_with fail
      refine (draw_nil _ _ _).mono ?_
      rintro e w13 ⟨rfl, rfl⟩
      go_wp2_with fail
      refine (dry_nil _ _).mono ?_
      rintro e w13 ⟨rfl, rfl⟩
      go_wp2_with fail
      refine (bcopy_nil _).mono ?_
      rintro e w13 ⟨rfl, rfl⟩
      go_wp2_with fail
      refine (bsame_nil _).mono ?_
      rintro e w13 ⟨rfl, rfl⟩
      go_wp2_with fail
      refine (bsame_none _ _).mono ?_
      rintro e w13 ⟨rfl, rfl⟩
      go_wp2
      go_ret
      exact ⟨rfl, stepB HB7.out HB12'.out⟩
end Go.Proofs.YtlfffeinngkjgaaGreat
