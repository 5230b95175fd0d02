/- The law StatLayers (layer 8), walked: for every list of things and every two numbers it returns true, and only new memory is made. -/
import Derived.Test.YtbbbkpadadeolaaSe
import Derived.Test.YtbbbkpadadeolaaSi
namespace Go.Proofs.Ytbbbkpadadeolaa
open Go.RowKit Go.Maps

/-- An object of a store. -/
def ObjIs (S : StoreL) (k : Nat) (x : ObjL) : Prop := ∃ h : k < S.objs.length, S.objs[k] = x
theorem ObjIs.live {S : StoreL} {k : Nat} {x : ObjL} (h : ObjIs S k x) (hl : liveO S x = true) : creE S ((k : Int) + 1) = 0 ∧ creO S ((k : Int) + 1) = x ∧ creC S ((k : Int) + 1) = cardS S x ∧ objOf S ((k : Int) + 1) = x := by
  obtain ⟨hk, rfl⟩ := h
  have hE : creE S ((k : Int) + 1) = 0 := by
    unfold creE
    rw [if_pos (show hasS S ((k : Int) + 1) from ⟨by omega, by omega⟩), objOf_at hk, if_pos hl]
  refine ⟨hE, ?_, ?_, objOf_at hk⟩
  · unfold creO; rw [if_pos hE, objOf_at hk]
  · unfold creC; rw [if_pos hE, objOf_at hk]
theorem ObjIs.set {S : StoreL} {k : Nat} {x : ObjL} (h : ObjIs S k x) (y : ObjL) : ObjIs (setL S k y) k y := by
  obtain ⟨hk, _⟩ := h
  have e : ∀ (L : List ObjL) (hL : L = S.objs.set k y) (hh : k < L.length), L[k] = y := fun L hL hh => by
    subst hL
    exact List.getElem_set_self _
  have hk2 : k < (setL S k y).objs.length := by show k < (S.objs.set k y).length; rw [List.length_set]; exact hk
  exact ⟨hk2, e _ rfl hk2⟩
theorem ObjIs.fade {S : StoreL} {k : Nat} {x : ObjL} (h : ObjIs S k x) (hz : x.zone = 3) : ObjIs (fadeL S) k (fadeO x) := by
  obtain ⟨hk, rfl⟩ := h
  refine ⟨by rw [fadeL_len]; exact hk, ?_⟩
  unfold fadeL
  simp only [List.getElem_map]
  rw [if_pos (by unfold onF; rw [hz]; rfl)]
/-- What is told of a creature of power p and toughness t. -/
structure TellS (S : StoreL) (k : Nat) (x : ObjL) (p t : Int) : Prop where
  obj : ObjIs S k x
  T : S.T = T7
  wf : WfS S
  len : S.objs.length ≤ 1000
  zone : x.zone = 3
  card : (T7.getD x.card.toNat zeroC).kind = 2 ∧ (T7.getD x.card.toNat zeroC).power = p ∧ (T7.getD x.card.toNat zeroC).tough = t
theorem TellS.alive {S : StoreL} {k : Nat} {x : ObjL} {p t : Int} (h : TellS S k x p t) : liveO S x = true := by
  unfold liveO cardS
  rw [h.zone, h.T, h.card.1]
  rfl
theorem TellS.told {S : StoreL} {k : Nat} {x : ObjL} {p t : Int} (h : TellS S k x p t) : creE S ((k : Int) + 1) = 0 ∧ powS S ((k : Int) + 1) = layZ p x.count x.boost ∧ touS S ((k : Int) + 1) = layZ t x.count x.boost ∧ deadS S ((k : Int) + 1) = (layZ t x.count x.boost == 0 || decide (layZ t x.count x.boost ≤ x.hurt)) := by
  obtain ⟨h1, h2, h3, h4⟩ := h.obj.live h.alive
  have hp : powS S ((k : Int) + 1) = layZ p x.count x.boost := by unfold powS; rw [h2, h3]; unfold cardS; rw [h.T, h.card.2.1]
  have ht : touS S ((k : Int) + 1) = layZ t x.count x.boost := by unfold touS; rw [h2, h3]; unfold cardS; rw [h.T, h.card.2.2]
  refine ⟨h1, hp, ht, ?_⟩
  unfold deadS
  rw [h1, ht, h2]
  rfl
theorem TellS.hurt {S : StoreL} {k : Nat} {x : ObjL} {p t : Int} (h : TellS S k x p t) (n : Int) : TellS (hurtS S ((k : Int) + 1) n) k (hurtO x n) p t := by
  obtain ⟨h1, _, _, h4⟩ := h.obj.live h.alive
  have e := hurtS_at n h1
  rw [h4] at e
  exact ⟨by rw [e]; exact h.obj.set _, by rw [e]; exact h.T, hurtS_wf h.wf _ _, by rw [hurtS_len]; exact h.len, h.zone, h.card⟩
theorem TellS.count {S : StoreL} {k : Nat} {x : ObjL} {p t : Int} (h : TellS S k x p t) (n : Int) : TellS (countS S ((k : Int) + 1) n) k (countO x n) p t := by
  obtain ⟨h1, _, _, h4⟩ := h.obj.live h.alive
  have e := countS_at n h1
  rw [h4] at e
  exact ⟨by rw [e]; exact h.obj.set _, by rw [e]; exact h.T, countS_wf h.wf _ _, by rw [countS_len]; exact h.len, h.zone, h.card⟩
theorem TellS.boost {S : StoreL} {k : Nat} {x : ObjL} {p t : Int} (h : TellS S k x p t) (n : Int) : TellS (boostS S ((k : Int) + 1) n) k (boostO x n) p t := by
  obtain ⟨h1, _, _, h4⟩ := h.obj.live h.alive
  have e := boostS_at n h1
  rw [h4] at e
  exact ⟨by rw [e]; exact h.obj.set _, by rw [e]; exact h.T, boostS_wf h.wf _ _, by rw [boostS_len]; exact h.len, h.zone, h.card⟩
theorem TellS.fade {S : StoreL} {k : Nat} {x : ObjL} {p t : Int} (h : TellS S k x p t) : TellS (fadeL S) k (fadeO x) p t :=
  ⟨h.obj.fade h.zone, h.T, fadeL_wf h.wf, by rw [fadeL_len]; exact h.len, h.zone, h.card⟩
/-- A creature that was just made. -/
theorem tell_made {S : StoreL} {l : List ThingL} (h : MadeS S l) (hl : l.length ≤ 40) {i : Int} (hE : creE S i = 0) :
    ∃ k x p t, i = ((k : Nat) : Int) + 1 ∧ TellS S k x p t ∧ x.hurt = 0 ∧ x.count = 0 ∧ x.boost = 0 ∧ 1 ≤ p ∧ p ≤ 9 ∧ 1 ≤ t ∧ t ≤ 9 := by
  obtain ⟨k, hk, rfl, ho, hlv⟩ := creE_live hE
  have hk2 : k < l.length := by rw [← h.len]; exact hk
  have hx : S.objs[k] = objT k l[k] := by
    have e : ∀ (L : List ObjL) (hL : L = objsT l) (hh : k < L.length), L[k] = objT k l[k] := fun L hL hh => by
      subst hL
      exact objsT_get l k hk2
    exact e _ h.objs hk
  obtain ⟨_, c0, c1, _⟩ := h.wf.ids k hk
  have hT : S.T.length = 4 := by rw [h.T]; rfl
  unfold liveO cardS at hlv
  rw [h.T, Bool.and_eq_true] at hlv
  have hz : S.objs[k].zone = 3 := by simpa using hlv.1
  have hkd : (T7.getD S.objs[k].card.toNat zeroC).kind = 2 := by simpa using hlv.2
  refine ⟨k, S.objs[k], (T7.getD S.objs[k].card.toNat zeroC).power, (T7.getD S.objs[k].card.toNat zeroC).tough, rfl, ⟨⟨hk, rfl⟩, h.T, h.wf, by rw [h.len]; omega, hz, hkd, rfl, rfl⟩, by rw [hx]; rfl, by rw [hx]; rfl, by rw [hx]; rfl, ?_⟩
  have hc : S.objs[k].card.toNat < 4 := by omega
  have key : ∀ n, n < 4 → (T7.getD n zeroC).kind = 2 → 1 ≤ (T7.getD n zeroC).power ∧ (T7.getD n zeroC).power ≤ 9 ∧ 1 ≤ (T7.getD n zeroC).tough ∧ (T7.getD n zeroC).tough ≤ 9 := by decide
  exact key _ hc hkd
theorem lay_in {p c b : Int} (h1 : 0 ≤ p) (h2 : p + c ≤ 999) (h3 : 0 ≤ c) (h4 : 0 ≤ b) (h5 : p + c + b ≤ 999) : layZ p c b = p + c + b := by
  unfold layZ raiseZ addZ holdZ
  omega
set_option maxRecDepth 100000 in
set_option maxHeartbeats 8000000 in
theorem statLayers_walk {w : World} {v : Value} {l : List ThingL} (i : Int) (n : Nat) (hn : n < 256) (hv : ThingsAt w v l) (hw : ∀ x ∈ l, Wf x.owner ∧ Wf x.zone) (hlen : l.length ≤ 9223372036854775807) :
    Calls Try.prog 6 #[v, .int .i64 i, .int .u8 n] w (RetV w (.bool true)) := by
  have HA := Lib.hid (awake8_any w)
  have HM := Lib.hid (fun (w' : World) (hb : Below w.heap.size w w') => made8_any (s := []) (u := .slice none 0 0) (hv.later hb) hw hlen (.inl ⟨none, 0, rfl, rfl⟩) (by decide))
  clear hv hw
  go_enter Try.func6, Try.ntmps6
  go_wp2_with fail
  refine HA.out.mono ?_
  rintro e w1 ⟨rfl, hb1⟩
  have HB1 := Lib.hid hb1
  clear hb1 HA
  dsimp only
  go_wp2_with fail
  refine (HM.out _ HB1.out).mono ?_
  rintro e w2 (⟨hp, b, lo, G, S, rfl, hs, _, hm, hlo, hlo2, hb2⟩ | ⟨_, rfl, hb2⟩)
  case inr =>
    dsimp only
    go_wp2
    go_ret
    exact ⟨rfl, stepB HB1.out hb2⟩
  have hmd := hm rfl
  have hsl : S.objs.length ≤ 1000 := by rw [hmd.len]; have := hp.1.1; omega
  have HLV := Lib.hid (fun (W : World) (G' : Ghost) (h' : StoreAt W lo b G' S) => live_any h' hmd.wf hsl i)
  have HB2 := Lib.hid (stepB HB1.out hb2)
  have HS2 := Lib.hid hs
  have HL2 := Lib.hid hlo2
  have HFAR := Lib.hid (show ∀ q, G.tag q ≠ .no → w.heap.size ≤ q from fun q hq => Nat.le_trans HB1.out.size (Nat.le_trans hlo (hs.low q hq)))
  by_cases hE : creE S i = 0
  case neg =>
    have e0 : (creE S i == 0) = false := beq_eq_false_iff_ne.2 hE
    rw [e0] at HLV
    clear hp hs hm hlo hlo2 hb2 hmd hsl hE e0 HM
    dsimp only
    go_wp2_with fail
    refine (HLV.out _ _ HS2.out).mono ?_
    rintro e w3 ⟨rfl, hb3⟩
    dsimp only
    go_wp2
    go_ret
    exact ⟨rfl, stepB HB2.out hb3⟩
  obtain ⟨k, x, p, t, rfl, ht0, x6, x7, x8, p1, p9, t1, t9⟩ := tell_made hmd hp.1.1 hE
  rw [hE] at HLV
  clear hp hs hm hlo hlo2 hb2 hmd hsl hE HM
  dsimp only
  go_wp2_with fail
  refine (HLV.out _ _ HS2.out).mono ?_
  rintro e w3 ⟨rfl, hb3⟩
  dsimp only
  go_wp2_with fail
  have HS3 := Lib.hid (HS2.out.later hb3)
  have HT3 := Lib.hid (Turned.of_below (G := G) hb3)
  clear hb3
  -- the stores, one by one
  obtain ⟨m, hm⟩ : ∃ m : Nat, n % 50 = m := ⟨_, rfl⟩
  have hm50 : m < 50 := by omega
  have HMM := Lib.hid hm
  have ht1 := ht0.count (m : Int)
  have ht2 := ht1.boost (2 * (m : Int))
  have ht3 := ht2.fade
  have ht4 := ht3.hurt (t + (m : Int) - 1)
  have ht5 := ht4.hurt 1
  have hz0 : addZ 0 (m : Int) = m := by unfold addZ holdZ; omega
  have hz1 : addZ 0 (2 * (m : Int)) = 2 * m := by unfold addZ holdZ; omega
  have hz2 : raiseZ 0 (t + (m : Int) - 1) = t + m - 1 := by unfold raiseZ addZ holdZ; omega
  have hz3 : raiseZ (t + (m : Int) - 1) 1 = t + m := by unfold raiseZ addZ holdZ; omega
  have hp0 : layZ p 0 0 = p := by rw [lay_in] <;> omega
  have hq0 : layZ t 0 0 = t := by rw [lay_in] <;> omega
  have hp1 : layZ p m 0 = p + m := by rw [lay_in] <;> omega
  have hq1 : layZ t m 0 = t + m := by rw [lay_in] <;> omega
  have hp2 : layZ p m (2 * m) = p + 3 * m := by rw [lay_in] <;> omega
  have hq2 : layZ t m (2 * m) = t + 3 * m := by rw [lay_in] <;> omega
  have hd4 : ((t + (m : Int) == 0) || decide (t + (m : Int) ≤ t + m - 1)) = false := by simp; omega
  have hd5 : ((t + (m : Int) == 0) || decide (t + (m : Int) ≤ t + m)) = true := by simp
  obtain ⟨hE0, hP0, hT0, _⟩ := ht0.told
  obtain ⟨hE1, hP1, hT1, _⟩ := ht1.told
  obtain ⟨hE2, hP2, hT2, _⟩ := ht2.told
  obtain ⟨hE3, hP3, hT3, _⟩ := ht3.told
  obtain ⟨hE4, _, _, hD4⟩ := ht4.told
  obtain ⟨_, _, _, hD5⟩ := ht5.told
  simp only [hurtO, countO, boostO, fadeO, x6, x7, x8, hz0, hz1, hz2, hz3, hp0, hq0, hp1, hq1, hp2, hq2] at hP0 hT0 hP1 hT1 hP2 hT2 hP3 hT3 hD4 hD5
  rw [hd4] at hD4
  rw [hd5] at hD5
  have C0 := Lib.hid (fun (W : World) (G' : Ghost) (h' : StoreAt W lo b G' S) => And.intro (power_any h' ht0.wf ht0.len ((k : Int) + 1)) (And.intro (tough_any h' ht0.wf ht0.len ((k : Int) + 1)) (count_any h' ht0.wf ht0.len ((k : Int) + 1) (m : Int))))
  have C1 := Lib.hid (fun (W : World) (G' : Ghost) (h' : StoreAt W lo b G' (countS S ((k : Int) + 1) m)) => And.intro (power_any h' ht1.wf ht1.len ((k : Int) + 1)) (And.intro (tough_any h' ht1.wf ht1.len ((k : Int) + 1)) (boost_any h' ht1.wf ht1.len ((k : Int) + 1) (2 * (m : Int)))))
  obtain ⟨S1, hS1⟩ : ∃ S1, countS S ((k : Int) + 1) m = S1 := ⟨_, rfl⟩
  rw [hS1] at C0 C1 ht1 ht2 ht3 ht4 ht5 hE1 hP1 hT1 hE2 hP2 hT2 hE3 hP3 hT3 hE4 hD4 hD5
  have C2 := Lib.hid (fun (W : World) (G' : Ghost) (h' : StoreAt W lo b G' (boostS S1 ((k : Int) + 1) (2 * (m : Int)))) => And.intro (power_any h' ht2.wf ht2.len ((k : Int) + 1)) (And.intro (tough_any h' ht2.wf ht2.len ((k : Int) + 1)) (fade_any h' ht2.wf ht2.len)))
  obtain ⟨S2, hS2⟩ : ∃ S2, boostS S1 ((k : Int) + 1) (2 * (m : Int)) = S2 := ⟨_, rfl⟩
  rw [hS2] at C1 C2 ht2 ht3 ht4 ht5 hE2 hP2 hT2 hE3 hP3 hT3 hE4 hD4 hD5
  have C3 := Lib.hid (fun (W : World) (G' : Ghost) (h' : StoreAt W lo b G' (fadeL S2)) => And.intro (power_any h' ht3.wf ht3.len ((k : Int) + 1)) (And.intro (tough_any h' ht3.wf ht3.len ((k : Int) + 1)) (hurt_any h' ht3.wf ht3.len ((k : Int) + 1) (t + (m : Int) - 1))))
  obtain ⟨S3, hS3⟩ : ∃ S3, fadeL S2 = S3 := ⟨_, rfl⟩
  rw [hS3] at C2 C3 ht3 ht4 ht5 hE3 hP3 hT3 hE4 hD4 hD5
  have C4 := Lib.hid (fun (W : World) (G' : Ghost) (h' : StoreAt W lo b G' (hurtS S3 ((k : Int) + 1) (t + (m : Int) - 1))) => And.intro (dead_any h' ht4.wf ht4.len ((k : Int) + 1)) (hurt_any h' ht4.wf ht4.len ((k : Int) + 1) 1))
  obtain ⟨S4, hS4⟩ : ∃ S4, hurtS S3 ((k : Int) + 1) (t + (m : Int) - 1) = S4 := ⟨_, rfl⟩
  rw [hS4] at C3 C4 ht4 ht5 hE4 hD4 hD5
  have C5 := Lib.hid (fun (W : World) (G' : Ghost) (h' : StoreAt W lo b G' (hurtS S4 ((k : Int) + 1) 1)) => dead_any h' ht5.wf ht5.len ((k : Int) + 1))
  obtain ⟨S5, hS5⟩ : ∃ S5, hurtS S4 ((k : Int) + 1) 1 = S5 := ⟨_, rfl⟩
  rw [hS5] at C4 C5 ht5 hD5
  rw [hP0, hT0, hE0] at C0
  rw [hP1, hT1, hE1] at C1
  rw [hP2, hT2] at C2
  rw [hP3, hT3, hE3] at C3
  rw [hD4, hE4] at C4
  rw [hD5] at C5
  obtain ⟨N2, hN2⟩ : ∃ N, fadeN S2 = N := ⟨_, rfl⟩
  rw [hN2] at C2
  clear ht0 ht1 ht2 ht3 ht4 ht5 hz0 hz1 hz2 hz3 hp0 hq0 hp1 hq1 hp2 hq2 hd4 hd5 hE0 hP0 hT0 hE1 hP1 hT1 hE2 hP2 hT2 hE3 hP3 hT3 hE4 hD4 hD5 hS1 hS2 hS3 hS4 hS5 hN2 x6 x7 x8 HLV hm
  refine ((C0.out _ _ HS3.out).1).mono ?_
  rintro e w4 ⟨rfl, hb⟩
  have HSw4 := Lib.hid (HS3.out.later hb)
  have HTw4 := Lib.hid (HT3.out.trans (Turned.of_below hb))
  clear hb
  dsimp only
  go_wp2_with fail
  refine ((C0.out _ _ HSw4.out).2.1).mono ?_
  rintro e w5 ⟨rfl, hb⟩
  have HSw5 := Lib.hid (HSw4.out.later hb)
  have HTw5 := Lib.hid (HTw4.out.trans (Turned.of_below hb))
  clear hb
  have hrem : ((n : Int)).tmod 50 = (m : Int) := by rw [← HMM.out, Int.tmod_eq_emod_of_nonneg (by omega)]; omega
  dsimp only
  go_wp2_with fail
  refine ((C0.out _ _ HSw5.out).2.2).mono ?_
  rintro e w6 ⟨rfl, Gw6, hs, ht⟩
  have HSw6 := Lib.hid hs
  have HTw6 := Lib.hid (HTw5.out.trans ht)
  clear hs ht
  dsimp only
  go_wp2_with fail
  refine ((C1.out _ _ HSw6.out).1).mono ?_
  rintro e w7 ⟨rfl, hb⟩
  have HSw7 := Lib.hid (HSw6.out.later hb)
  have HTw7 := Lib.hid (HTw6.out.trans (Turned.of_below hb))
  clear hb
  dsimp only
  go_wp2_with fail
  refine ((C1.out _ _ HSw7.out).2.1).mono ?_
  rintro e w8 ⟨rfl, hb⟩
  have HSw8 := Lib.hid (HSw7.out.later hb)
  have HTw8 := Lib.hid (HTw7.out.trans (Turned.of_below hb))
  clear hb
  dsimp only
  go_wp2_with fail
  refine ((C1.out _ _ HSw8.out).2.2).mono ?_
  rintro e w9 ⟨rfl, Gw9, hs, ht⟩
  have HSw9 := Lib.hid hs
  have HTw9 := Lib.hid (HTw8.out.trans ht)
  clear hs ht
  dsimp only
  go_wp2_with fail
  refine ((C2.out _ _ HSw9.out).1).mono ?_
  rintro e w10 ⟨rfl, hb⟩
  have HSw10 := Lib.hid (HSw9.out.later hb)
  have HTw10 := Lib.hid (HTw9.out.trans (Turned.of_below hb))
  clear hb
  dsimp only
  go_wp2_with fail
  refine ((C2.out _ _ HSw10.out).2.1).mono ?_
  rintro e w11 ⟨rfl, hb⟩
  have HSw11 := Lib.hid (HSw10.out.later hb)
  have HTw11 := Lib.hid (HTw10.out.trans (Turned.of_below hb))
  clear hb
  dsimp only
  go_wp2_with fail
  refine ((C2.out _ _ HSw11.out).2.2).mono ?_
  rintro e w12 ⟨rfl, Gw12, hs, ht⟩
  have HSw12 := Lib.hid hs
  have HTw12 := Lib.hid (HTw11.out.trans ht)
  clear hs ht
  dsimp only
  go_wp2_with fail
  refine ((C3.out _ _ HSw12.out).1).mono ?_
  rintro e w13 ⟨rfl, hb⟩
  have HSw13 := Lib.hid (HSw12.out.later hb)
  have HTw13 := Lib.hid (HTw12.out.trans (Turned.of_below hb))
  clear hb
  dsimp only
  go_wp2_with fail
  refine ((C3.out _ _ HSw13.out).2.1).mono ?_
  rintro e w14 ⟨rfl, hb⟩
  have HSw14 := Lib.hid (HSw13.out.later hb)
  have HTw14 := Lib.hid (HTw13.out.trans (Turned.of_below hb))
  clear hb
  dsimp only
  go_wp2_with fail
  refine ((C3.out _ _ HSw14.out).2.2).mono ?_
  rintro e w15 ⟨rfl, Gw15, hs, ht⟩
  have HSw15 := Lib.hid hs
  have HTw15 := Lib.hid (HTw14.out.trans ht)
  clear hs ht
  dsimp only
  go_wp2_with fail
  refine ((C4.out _ _ HSw15.out).1).mono ?_
  rintro e w16 ⟨rfl, hb⟩
  have HSw16 := Lib.hid (HSw15.out.later hb)
  have HTw16 := Lib.hid (HTw15.out.trans (Turned.of_below hb))
  clear hb
  dsimp only
  go_wp2_with fail
  refine ((C4.out _ _ HSw16.out).2).mono ?_
  rintro e w17 ⟨rfl, Gw17, hs, ht⟩
  have HSw17 := Lib.hid hs
  have HTw17 := Lib.hid (HTw16.out.trans ht)
  clear hs ht
  dsimp only
  go_wp2_with fail
  refine ((C5.out _ _ HSw17.out)).mono ?_
  rintro e w18 ⟨rfl, hb⟩
  have HSw18 := Lib.hid (HSw17.out.later hb)
  have HTw18 := Lib.hid (HTw17.out.trans (Turned.of_below hb))
  clear hb
  dsimp only
  go_wp2
  go_ret
  exact ⟨rfl, HTw18.out.below HB2.out HFAR.out⟩
end Go.Proofs.Ytbbbkpadadeolaa
