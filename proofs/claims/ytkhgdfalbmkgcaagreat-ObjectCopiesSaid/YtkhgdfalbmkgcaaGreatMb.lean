/- The stores of the laws of layer 6: made, behind any calls, as a function of what came in. -/
import Derived.Test.YtkhgdfalbmkgcaaGreatLa
namespace Go.Proofs.YtkhgdfalbmkgcaaGreat
open Go.RowKit Go.Maps

/-- What a call makes of a store. -/
def stepO (S : StoreL) (x : OpL) : StoreL :=
  if x.k = 0 then (if addB S x.a x.b x.c then addL S x.a.toNat x.b.toNat x.c.toNat else S)
  else if x.k = 1 then (if (1 ≤ x.a ∧ x.a ≤ (S.objs.length : Int)) ∧ (1 ≤ x.c ∧ x.c ≤ 7) then moveL S (x.a - 1).toNat (S.objs.getD (x.a - 1).toNat zeroO) x.c.toNat x.under else S)
  else if x.k = 2 then (if 1 ≤ x.a ∧ x.a ≤ (S.objs.length : Int) then { S with objs := S.objs.set (x.a - 1).toNat ⟨(S.objs.getD (x.a - 1).toNat zeroO).id, (S.objs.getD (x.a - 1).toNat zeroO).card, (S.objs.getD (x.a - 1).toNat zeroO).owner, (S.objs.getD (x.a - 1).toNat zeroO).zone, x.under, (S.objs.getD (x.a - 1).toNat zeroO).sick, x.b, (S.objs.getD (x.a - 1).toNat zeroO).count, (S.objs.getD (x.a - 1).toNat zeroO).boost, (S.objs.getD (x.a - 1).toNat zeroO).block, (S.objs.getD (x.a - 1).toNat zeroO).attacks⟩ } else S)
  else S
def madeL (T : List Crd.CardL) (n : Nat) (l : List OpL) : StoreL := l.foldl stepO ⟨T, n, [], fun _ _ => []⟩
theorem madeL_snoc (T : List Crd.CardL) (n : Nat) (l : List OpL) (x : OpL) : madeL T n (l ++ [x]) = stepO (madeL T n l) x := by simp [madeL]
theorem step_add {S : StoreL} {x : OpL} {c o z : Nat} (h0 : x.k = 0) (h1 : x.a = c) (h2 : x.b = o) (h3 : x.c = z) (h : addB S x.a x.b x.c) : stepO S x = addL S c o z := by
  unfold stepO
  rw [if_pos h0, if_pos h, h1, h2, h3]
  simp
theorem step_addNot {S : StoreL} {x : OpL} (h0 : x.k = 0) (h : ¬addB S x.a x.b x.c) : stepO S x = S := by
  unfold stepO
  rw [if_pos h0, if_neg h]
theorem step_move {S : StoreL} {x : OpL} {j z : Nat} (h0 : x.k = 1) (h1 : x.a = (j : Int) + 1) (h3 : x.c = z) (hj : j < S.objs.length) (hz : 1 ≤ z ∧ z ≤ 7) : stepO S x = moveL S j S.objs[j] z x.under := by
  unfold stepO
  rw [if_neg (by omega), if_pos h0, if_pos (by omega), h1, h3, show ((j : Int) + 1 - 1).toNat = j by omega, show S.objs.getD j zeroO = S.objs[j] by simp [List.getD, hj]]
  simp
theorem step_moveNot {S : StoreL} {x : OpL} (h0 : x.k = 1) (h : ¬((1 ≤ x.a ∧ x.a ≤ (S.objs.length : Int)) ∧ (1 ≤ x.c ∧ x.c ≤ 7))) : stepO S x = S := by
  unfold stepO
  rw [if_neg (by omega), if_pos h0, if_neg h]
theorem step_set {S : StoreL} {x : OpL} {j : Nat} {X : ObjL} (h0 : x.k = 2) (h1 : x.a = (j : Int) + 1) (hj : j < S.objs.length) (hX : S.objs[j] = X) : stepO S x = { S with objs := S.objs.set j ⟨X.id, X.card, X.owner, X.zone, x.under, X.sick, x.b, X.count, X.boost, X.block, X.attacks⟩ } := by
  unfold stepO
  rw [if_neg (by omega), if_neg (by omega), if_pos h0, if_pos (by omega), h1, show ((j : Int) + 1 - 1).toNat = j by omega, show S.objs.getD j zeroO = X by rw [← hX]; simp [List.getD, hj]]
theorem step_setNot {S : StoreL} {x : OpL} (h0 : x.k = 2) (h : ¬(1 ≤ x.a ∧ x.a ≤ (S.objs.length : Int))) : stepO S x = S := by
  unfold stepO
  rw [if_neg (by omega), if_neg (by omega), if_pos h0, if_neg h]
theorem step_no {S : StoreL} {x : OpL} (h0 : x.k ≠ 0) (h1 : x.k ≠ 1) (h2 : x.k ≠ 2) : stepO S x = S := by
  unfold stepO
  rw [if_neg h0, if_neg h1, if_neg h2]
def playO (T : List Crd.CardL) (l : List OpL) : Prop := Crd.greatB T [] = false ∧ l.length ≤ 80 ∧ Crd.tableE T = 0
def RetMadeL (w : World) (T : List Crd.CardL) (n : Nat) (l : List OpL) (e : Ending) (w' : World) : Prop :=
  (¬playO T l ∧ e = .returned (.pointer none) ∧ Below w.heap.size w w') ∨ (playO T l ∧ ∃ b lo G, e = .returned (.pointer (some ⟨b, 0, none⟩)) ∧ StoreAt w' lo b G (madeL T n l) ∧ Fine (madeL T n l) n 80 ∧ w.heap.size ≤ lo ∧ lo ≤ w'.heap.size ∧ Below w.heap.size w w')
set_option maxRecDepth 100000 in
set_option maxHeartbeats 8000000 in
theorem madeL_any {w : World} {v u : Value} {T : List Crd.CardL} {l : List OpL} (hv : Crd.CardsAt w v T) (hT : T.length ≤ 9223372036854775807) (hu : OpsAt w u l) (hw : ∀ x ∈ l, WfO x) (hlen : l.length ≤ 9223372036854775807) (n : Nat) (hn1 : 1 ≤ n) (hn4 : n ≤ 4) :
    Calls Tryz.prog 5 #[v, .int .i64 n, u] w (RetMadeL w T n l) := by
  have HV := Lib.hid hv
  have HU := Lib.hid hu
  have HW := Lib.hid hw
  obtain ⟨va, vc, rfl⟩ := hv.form
  obtain ⟨ua, uc, rfl⟩ := hu.form
  have HGR := Lib.hid (Crd.great_any none 0 0 (l := []) hv rfl hT (by simp))
  obtain ⟨gr, hgr⟩ : ∃ gr, Crd.greatB T [] = gr := ⟨_, rfl⟩
  rw [hgr] at HGR
  have HGB := Lib.hid hgr
  clear hv hu hw hgr
  cases gr
  case true =>
    go_enter Tryz.func5, Tryz.ntmps5
    go_wp2_with fail
    refine HGR.out.mono ?_
    rintro e w1 ⟨rfl, hb1⟩
    dsimp only
    go_wp2
    go_ret
    exact .inl ⟨(fun h => by have := h.1; rw [HGB.out] at this; cases this), rfl, hb1⟩
  by_cases h80 : 80 < l.length
  · have d0 : decide ((80 : Int) < l.length) = true := decide_eq_true (by omega)
    have d0' : decide (80 < l.length) = true := decide_eq_true h80
    go_enter Tryz.func5, Tryz.ntmps5
    go_wp2_with fail
    refine HGR.out.mono ?_
    rintro e w1 ⟨rfl, hb1⟩
    dsimp only
    go_wp2
    go_ret
    exact .inl ⟨(fun h => absurd h.2.1 (by omega)), rfl, hb1⟩
  have d0 : decide ((80 : Int) < l.length) = false := decide_eq_false (by omega)
  have d0' : decide (80 < l.length) = false := decide_eq_false h80
  by_cases hte : Crd.tableE T = 0
  case neg =>
    have HTE := Lib.hid hte
    have HN := Lib.hid (fun (w' : World) (hb : Below w.heap.size w w') => newS_bad (HV.out.later hb) (great_small HGB.out).1 (great_small HGB.out).2 hte n)
    obtain ⟨q, hq⟩ : ∃ q, Crd.tableE T = q := ⟨_, rfl⟩
    rw [hq] at HN hte
    have e0 : (q != 0) = true := bne_iff_ne.2 hte
    clear hte hq
    go_enter Tryz.func5, Tryz.ntmps5
    go_wp2_with fail
    refine HGR.out.mono ?_
    rintro e w1 ⟨rfl, hb1⟩
    have HB1 := Lib.hid hb1
    clear hb1
    dsimp only
    go_wp2_with fail
    refine (HN.out _ HB1.out).mono ?_
    rintro e w2 ⟨rfl, hb2⟩
    have HB2 := Lib.hid (stepB HB1.out hb2)
    clear hb2
    dsimp only
    go_wp2
    go_ret
    exact .inl ⟨(fun h => HTE.out h.2.2), rfl, HB2.out⟩
  have HN := Lib.hid (fun (w' : World) (hb : Below w.heap.size w w') => newS_ok (HV.out.later hb) hte n hn1 hn4)
  have HPL := Lib.hid (show playO T l from ⟨HGB.out, by omega, hte⟩)
  clear hte
  go_enter Tryz.func5, Tryz.ntmps5
  go_wp2_with fail
  refine HGR.out.mono ?_
  rintro e w1 ⟨rfl, hb1⟩
  have HB1 := Lib.hid hb1
  clear hb1
  dsimp only
  go_wp2_with fail
  refine (HN.out _ HB1.out).mono ?_
  rintro e w2 ⟨b, G, rfl, hst, hb2⟩
  have HB2 := Lib.hid (stepB HB1.out hb2)
  have HS2 := Lib.hid hst
  have HL2 := Lib.hid (And.intro HB1.out.size hb2.size)
  obtain ⟨lo, hlo⟩ : ∃ lo, w1.heap.size = lo := ⟨_, rfl⟩
  rw [hlo] at HS2 HL2
  clear hst hb2 hlo HN HB1
  dsimp only
  go_wp2
  go_loopw [30] (fun i wr => ∃ (k : Nat) (G : Ghost) (S : StoreL), k ≤ l.length ∧ i = .int .i64 k ∧ Hid (StoreAt wr lo b G S) ∧ Hid (Fine S n k ∧ S = madeL T n (l.take k)) ∧ Hid (Below w.heap.size w wr) ∧ Hid (lo ≤ wr.heap.size)) (fun i _ => l.length - (intOf i).toNat)
  case atStart => exact ⟨0, G, _, Nat.zero_le _, rfl, HS2, Lib.hid ⟨⟨WfS.none _ _, Nat.le_refl _, rfl⟩, rfl⟩, HB2, Lib.hid HL2.out.2⟩
  case round =>
    obtain ⟨k, G3, S3, hk, rfl, H3, HFE3, HB3, HL3⟩ := hrel
    have HF3 := Lib.hid HFE3.out.1
    by_cases hlt : k < l.length
    · obtain ⟨tb, off, hua, t0, t1, t2, t3, t4⟩ := (HU.out.later HB3.out).at k hlt
      have hwx := HW.out l[k] (List.getElem_mem hlt)
      have htk := take_last l k hlt
      obtain ⟨x, hx⟩ : ∃ x, l[k] = x := ⟨_, rfl⟩
      rw [hx] at t0 t1 t2 t3 t4 hwx htk
      have HST := Lib.hid (show madeL T n (l.take (k + 1)) = stepO S3 x by rw [htk, madeL_snoc, ← HFE3.out.2])
      clear htk
      obtain ⟨ok, oa, ob, oc, un⟩ := x
      obtain ⟨wa, wb, wc⟩ := hwx
      dsimp only at wa wb wc t0 t1 t2 t3 t4
      cases hua
      clear hx
      have hb0 := below_new wr (.cells #[.int .i64 ok, .int .i64 oa, .int .i64 ob, .int .i64 oc, .bool un] 25)
      have HB0 := Lib.hid hb0
      have H0 := Lib.hid (H3.out.later hb0)
      have HL0 := Lib.hid (show lo ≤ (wr.alloc (.cells #[.int .i64 ok, .int .i64 oa, .int .i64 ob, .int .i64 oc, .bool un] 25)).heap.size by have := HL3.out; simp; omega)
      have HBW := Lib.hid (show ∀ q, G3.tag q ≠ .no → w.heap.size ≤ q from fun q hq => Nat.le_trans (by have := HL2.out.1; omega) (H3.out.low q hq))
      have HSL := Lib.hid (show S3.objs.length ≤ 80 by have := HF3.out.len; omega)
      clear hb0
      by_cases hk0 : ok = 0
      · subst hk0
        by_cases hadd : addB S3 oa ob oc
        · obtain ⟨a1, a2, a3, a4, a5, a6⟩ := hadd
          obtain ⟨cn, rfl⟩ : ∃ m : Nat, oa = m := ⟨oa.toNat, by omega⟩
          obtain ⟨ow, rfl⟩ : ∃ m : Nat, ob = m := ⟨ob.toNat, by omega⟩
          obtain ⟨z, rfl⟩ : ∃ m : Nat, oc = m := ⟨oc.toNat, by omega⟩
          have HAD := Lib.hid (add_ok H0.out HL0.out (HF3.out.wf.short (by have := HSL.out; omega)) cn ow z (by omega) (by omega) (by omega) (by omega))
          have HEQ := Lib.hid (show (addL S3 cn ow z) = madeL T n (l.take (k + 1)) by rw [HST.out]; exact (step_add (x := ⟨0, cn, ow, z, un⟩) rfl rfl rfl rfl ⟨a1, a2, a3, a4, a5, a6⟩).symm)
          have HF4 := Lib.hid (show Fine (addL S3 cn ow z) n (k + 1) from ⟨HF3.out.wf.add (by omega) (by omega) (by omega) (by omega), (by have h1 : (addL S3 cn ow z).objs.length = S3.objs.length + 1 := (by simp [addL]); have h2 := HF3.out.len; omega), HF3.out.seats⟩)
          clear wa wb wc a1 a2 a3 a4 a5 a6
          go_wp2_with fail
          refine HAD.out.mono ?_
          rintro e w4 ⟨rfl, G4, hst4, ht4⟩
          have HT4 := Lib.hid (show Turned wr w4 G3 G4 from (Turned.of_below HB0.out).trans ht4)
          have H4 := Lib.hid hst4
          have HB4 := Lib.hid (HT4.out.below HB3.out HBW.out)
          have HL4 := Lib.hid (Nat.le_trans HL3.out HT4.out.chg.size)
          clear hst4 ht4 t0 t1 t2 t3 t4
          dsimp only
          go_wp2
          go_roundw
          case rel => exact ⟨k + 1, G4, _, by omega, by go_num, H4, Lib.hid ⟨HF4.out, HEQ.out⟩, HB4, HL4⟩
          case measure => simp [intOf]; omega
        · have HAD := Lib.hid (add_bad H0.out oa ob oc wb wc hadd)
          have HEQ := Lib.hid (show S3 = madeL T n (l.take (k + 1)) by rw [HST.out]; exact (step_addNot (x := ⟨0, oa, ob, oc, un⟩) rfl hadd).symm)
          have HF4 := Lib.hid (show Fine S3 n (k + 1) from ⟨HF3.out.wf, by have := HF3.out.len; omega, HF3.out.seats⟩)
          clear hadd wa wb wc
          go_wp2_with fail
          refine HAD.out.mono ?_
          rintro e w4 ⟨rfl, hb4⟩
          have H4 := Lib.hid (H0.out.later hb4)
          have HB4 := Lib.hid (stepB (stepB HB3.out HB0.out) hb4)
          have HL4 := Lib.hid (Nat.le_trans HL0.out hb4.size)
          clear hb4 t0 t1 t2 t3 t4
          dsimp only
          go_wp2
          go_roundw
          case rel => exact ⟨k + 1, G3, _, by omega, by go_num, H4, Lib.hid ⟨HF4.out, HEQ.out⟩, HB4, HL4⟩
          case measure => simp [intOf]; omega
      have n0 : (ok == 0) = false := beq_eq_false_iff_ne.2 hk0
      by_cases hk1 : ok = 1
      · subst hk1
        by_cases hin : 1 ≤ oa ∧ oa ≤ (S3.objs.length : Int)
        · obtain ⟨j, rfl⟩ : ∃ j : Nat, oa = (j : Int) + 1 := ⟨(oa - 1).toNat, by omega⟩
          have hj : j < S3.objs.length := by omega
          by_cases hz : 1 ≤ oc ∧ oc ≤ 7
          · obtain ⟨z, rfl⟩ : ∃ m : Nat, oc = m := ⟨oc.toNat, by omega⟩
            have HMV := Lib.hid (move_ok H0.out HF3.out.wf (by have := HSL.out; omega) j z hj (by omega) (by omega) un)
            have HEQ := Lib.hid (show (moveL S3 j S3.objs[j] z un) = madeL T n (l.take (k + 1)) by rw [HST.out]; exact (step_move (x := ⟨1, (j : Int) + 1, ob, z, un⟩) rfl rfl rfl hj (by omega)).symm)
            have HF4 := Lib.hid (show Fine (moveL S3 j S3.objs[j] z un) n (k + 1) from ⟨HF3.out.wf.move hj (by omega) (by omega) un, (by have h1 : (moveL S3 j S3.objs[j] z un).objs.length = S3.objs.length := (by simp [moveL]); have h2 := HF3.out.len; omega), HF3.out.seats⟩)
            clear hin hz wa wb wc hk0
            go_wp2_with fail
            refine HMV.out.mono ?_
            rintro e w4 ⟨rfl, G4, hst4, ht4⟩
            have HT4 := Lib.hid (show Turned wr w4 G3 G4 from (Turned.of_below HB0.out).trans ht4)
            have H4 := Lib.hid hst4
            have HB4 := Lib.hid (HT4.out.below HB3.out HBW.out)
            have HL4 := Lib.hid (Nat.le_trans HL3.out HT4.out.chg.size)
            clear hst4 ht4 t0 t1 t2 t3 t4
            dsimp only
            go_wp2
            go_roundw
            case rel => exact ⟨k + 1, G4, _, by omega, by go_num, H4, Lib.hid ⟨HF4.out, HEQ.out⟩, HB4, HL4⟩
            case measure => simp [intOf]; omega
          · have HMV := Lib.hid (move_bad H0.out HF3.out.wf (by have := HSL.out; omega) j hj oc wc hz un)
            have HEQ := Lib.hid (show S3 = madeL T n (l.take (k + 1)) by rw [HST.out]; exact (step_moveNot (x := ⟨1, (j : Int) + 1, ob, oc, un⟩) rfl (fun h => hz h.2)).symm)
            have HF4 := Lib.hid (show Fine S3 n (k + 1) from ⟨HF3.out.wf, by have := HF3.out.len; omega, HF3.out.seats⟩)
            clear hin hz wa wb wc hk0
            go_wp2_with fail
            refine HMV.out.mono ?_
            rintro e w4 ⟨rfl, hb4⟩
            have H4 := Lib.hid (H0.out.later hb4)
            have HB4 := Lib.hid (stepB (stepB HB3.out HB0.out) hb4)
            have HL4 := Lib.hid (Nat.le_trans HL0.out hb4.size)
            clear hb4 t0 t1 t2 t3 t4
            dsimp only
            go_wp2
            go_roundw
            case rel => exact ⟨k + 1, G3, _, by omega, by go_num, H4, Lib.hid ⟨HF4.out, HEQ.out⟩, HB4, HL4⟩
            case measure => simp [intOf]; omega
        · have HMV := Lib.hid (move_out (zone := oc) un (by decide) (get_out H0.out (by have := HSL.out; omega) oa (by omega)))
          have HEQ := Lib.hid (show S3 = madeL T n (l.take (k + 1)) by rw [HST.out]; exact (step_moveNot (x := ⟨1, oa, ob, oc, un⟩) rfl (fun h => hin h.1)).symm)
          have HF4 := Lib.hid (show Fine S3 n (k + 1) from ⟨HF3.out.wf, by have := HF3.out.len; omega, HF3.out.seats⟩)
          clear hin wa wb wc hk0
          go_wp2_with fail
          refine HMV.out.mono ?_
          rintro e w4 ⟨rfl, hb4⟩
          have H4 := Lib.hid (H0.out.later hb4)
          have HB4 := Lib.hid (stepB (stepB HB3.out HB0.out) hb4)
          have HL4 := Lib.hid (Nat.le_trans HL0.out hb4.size)
          clear hb4 t0 t1 t2 t3 t4
          dsimp only
          go_wp2
          go_roundw
          case rel => exact ⟨k + 1, G3, _, by omega, by go_num, H4, Lib.hid ⟨HF4.out, HEQ.out⟩, HB4, HL4⟩
          case measure => simp [intOf]; omega
      have n1 : (ok == 1) = false := beq_eq_false_iff_ne.2 hk1
      by_cases hk2 : ok = 2
      · subst hk2
        by_cases hin : 1 ≤ oa ∧ oa ≤ (S3.objs.length : Int)
        · obtain ⟨j, rfl⟩ : ∃ j : Nat, oa = (j : Int) + 1 := ⟨(oa - 1).toNat, by omega⟩
          have hj : j < S3.objs.length := by omega
          have HGE := Lib.hid (get_in H0.out (by have := HSL.out; omega) j hj)
          have hid := (HF3.out.wf.ids j hj).1
          have HWF := Lib.hid (fun (y : ObjL) (h0 : y.id = (j : Int) + 1) (h1 : y.card = S3.objs[j].card) (h2 : y.owner = S3.objs[j].owner) (h3 : y.zone = S3.objs[j].zone) => HF3.out.wf.set hj h0 h1 h2 h3)
          have HSE := Lib.hid (fun (w' : World) (hs : StoreAt w' lo b G3 S3) (y : ObjL) (h0 : y.id = (j : Int) + 1) (h1 : y.card = S3.objs[j].card) (h2 : y.owner = S3.objs[j].owner) (h3 : y.zone = S3.objs[j].zone) => set_any hs (by have := HSL.out; omega) j hj y h0 h1 h2 h3)
          obtain ⟨x, hx⟩ : ∃ x, S3.objs[j] = x := ⟨_, rfl⟩
          rw [hx] at HGE HSE HWF hid
          obtain ⟨x0, x1, x2, x3, x4, x5, x6, x7, x8, x9, x10⟩ := x
          dsimp only at hid
          subst hid
          have HSE2 := Lib.hid (fun (w' : World) (hs : StoreAt w' lo b G3 S3) => HSE.out w' hs ⟨(j : Int) + 1, x1, x2, x3, un, x5, ob, x7, x8, x9, x10⟩ rfl rfl rfl rfl)
          have HEQ := Lib.hid (show { S3 with objs := S3.objs.set j ⟨(j : Int) + 1, x1, x2, x3, un, x5, ob, x7, x8, x9, x10⟩ } = madeL T n (l.take (k + 1)) by rw [HST.out]; exact (step_set (x := ⟨2, (j : Int) + 1, ob, oc, un⟩) rfl rfl hj hx).symm)
          have HF4 := Lib.hid (show Fine { S3 with objs := S3.objs.set j ⟨(j : Int) + 1, x1, x2, x3, un, x5, ob, x7, x8, x9, x10⟩ } n (k + 1) from ⟨HWF.out ⟨(j : Int) + 1, x1, x2, x3, un, x5, ob, x7, x8, x9, x10⟩ rfl rfl rfl rfl, by
            show (S3.objs.set j _).length ≤ k + 1
            rw [List.length_set]
            have := HF3.out.len
            omega, HF3.out.seats⟩)
          unfold RetGet oagg at HGE
          unfold oagg at HSE2
          dsimp only at HGE HSE2
          have hT0 := fun q => cell_of_row _ _ q _ _ _ (heap_alloc_new wr (.cells #[.int .i64 2, .int .i64 ((j : Int) + 1), .int .i64 ob, .int .i64 oc, .bool un] 25))
          have p2 : (wr.alloc (.cells #[.int .i64 2, .int .i64 ((j : Int) + 1), .int .i64 ob, .int .i64 oc, .bool un] 25)).cell? ⟨wr.heap.size, 2, none⟩ = some (.int .i64 ob) := hT0 2
          have p4 : (wr.alloc (.cells #[.int .i64 2, .int .i64 ((j : Int) + 1), .int .i64 ob, .int .i64 oc, .bool un] 25)).cell? ⟨wr.heap.size, 4, none⟩ = some (.bool un) := hT0 4
          clear hT0 HSE HWF hx hin wa wb wc hk0 hk1
          go_wp2_with fail
          refine HGE.out.mono ?_
          rintro e w5 ⟨rfl, hb5⟩
          have HB5 := Lib.hid hb5
          have r02 := cell_stays (stepB hb5 (below_new w5 (.cells #[.int .i64 ((j : Int) + 1), .int .i64 x1, .int .i64 x2, .int .i64 x3, .bool x4, .bool x5, .int .i64 x6, .int .i64 x7, .int .i64 x8, .int .i64 x9, .bool x10] 35))) p2
          have r04 := cell_stays (stepB hb5 (below_new w5 (.cells #[.int .i64 ((j : Int) + 1), .int .i64 x1, .int .i64 x2, .int .i64 x3, .bool x4, .bool x5, .int .i64 x6, .int .i64 x7, .int .i64 x8, .int .i64 x9, .bool x10] 35))) p4
          have r12 := cell_stays (stepB hb5 (below_new w5 (.cells #[.int .i64 ((j : Int) + 1), .int .i64 x1, .int .i64 x2, .int .i64 x3, .bool un, .bool x5, .int .i64 x6, .int .i64 x7, .int .i64 x8, .int .i64 x9, .bool x10] 35))) p2
          have r14 := cell_stays (stepB hb5 (below_new w5 (.cells #[.int .i64 ((j : Int) + 1), .int .i64 x1, .int .i64 x2, .int .i64 x3, .bool un, .bool x5, .int .i64 x6, .int .i64 x7, .int .i64 x8, .int .i64 x9, .bool x10] 35))) p4
          have r22 := cell_stays (stepB hb5 (below_new w5 (.cells #[.int .i64 ((j : Int) + 1), .int .i64 x1, .int .i64 x2, .int .i64 x3, .bool x4, .bool x5, .int .i64 ob, .int .i64 x7, .int .i64 x8, .int .i64 x9, .bool x10] 35))) p2
          have r24 := cell_stays (stepB hb5 (below_new w5 (.cells #[.int .i64 ((j : Int) + 1), .int .i64 x1, .int .i64 x2, .int .i64 x3, .bool x4, .bool x5, .int .i64 ob, .int .i64 x7, .int .i64 x8, .int .i64 x9, .bool x10] 35))) p4
          have r32 := cell_stays (stepB hb5 (below_new w5 (.cells #[.int .i64 ((j : Int) + 1), .int .i64 x1, .int .i64 x2, .int .i64 x3, .bool un, .bool x5, .int .i64 ob, .int .i64 x7, .int .i64 x8, .int .i64 x9, .bool x10] 35))) p2
          have r34 := cell_stays (stepB hb5 (below_new w5 (.cells #[.int .i64 ((j : Int) + 1), .int .i64 x1, .int .i64 x2, .int .i64 x3, .bool un, .bool x5, .int .i64 ob, .int .i64 x7, .int .i64 x8, .int .i64 x9, .bool x10] 35))) p4
          clear hb5 t0 t1 t2 t3 t4 p2 p4
          dsimp only
          go_wp2
          go_region
          all_goals
            go_wp2_with fail
            refine (HSE2.out _ (H0.out.later (stepB HB5.out (below_new w5 _)).drew)).mono ?_
            rintro e w6 ⟨rfl, G6, hs6, ht6⟩
            have HT6 := Lib.hid (((Turned.of_below HB0.out).trans (Turned.of_below (stepB HB5.out (below_new w5 _)).drew)).trans ht6)
            have HB6 := Lib.hid (HT6.out.below HB3.out HBW.out)
            have H6 := Lib.hid hs6
            have HL6 := Lib.hid (Nat.le_trans HL3.out HT6.out.chg.size)
            clear hs6 ht6
            dsimp only
            go_wp2
            go_roundw
            case rel => exact ⟨k + 1, G6, _, by omega, by go_num, H6, Lib.hid ⟨HF4.out, HEQ.out⟩, HB6, HL6⟩
            case measure => simp [intOf]; omega
        · have HGE := Lib.hid (get_out H0.out (by have := HSL.out; omega) oa (by omega))
          have HEQ := Lib.hid (show S3 = madeL T n (l.take (k + 1)) by rw [HST.out]; exact (step_setNot (x := ⟨2, oa, ob, oc, un⟩) rfl hin).symm)
          have HF4 := Lib.hid (show Fine S3 n (k + 1) from ⟨HF3.out.wf, by have := HF3.out.len; omega, HF3.out.seats⟩)
          unfold RetGet oagg zeroO at HGE
          dsimp only at HGE
          clear hin wa wb wc hk0 hk1
          go_wp2_with fail
          refine HGE.out.mono ?_
          rintro e w4 ⟨rfl, hb4⟩
          have HBN := Lib.hid (below_alloc2 hb4 (.cells #[.int .i64 0, .int .i64 0, .int .i64 0, .int .i64 0, .bool false, .bool false, .int .i64 0, .int .i64 0, .int .i64 0, .int .i64 0, .bool false] 35))
          have H4 := Lib.hid (H0.out.later HBN.out)
          have HB4 := Lib.hid (stepB (stepB HB3.out HB0.out) HBN.out)
          have HL4 := Lib.hid (Nat.le_trans HL0.out HBN.out.size)
          clear hb4 t0 t1 t2 t3 t4
          dsimp only
          go_wp2
          go_roundw
          case rel => exact ⟨k + 1, G3, _, by omega, by go_num, H4, Lib.hid ⟨HF4.out, HEQ.out⟩, HB4, HL4⟩
          case measure => simp [intOf]; omega
      have n2 : (ok == 2) = false := beq_eq_false_iff_ne.2 hk2
      have HEQ := Lib.hid (show S3 = madeL T n (l.take (k + 1)) by rw [HST.out]; exact (step_no (x := ⟨ok, oa, ob, oc, un⟩) hk0 hk1 hk2).symm)
      have HF4 := Lib.hid (show Fine S3 n (k + 1) from ⟨HF3.out.wf, by have := HF3.out.len; omega, HF3.out.seats⟩)
      have HB4 := Lib.hid (stepB HB3.out HB0.out)
      clear wa wb wc hk0 hk1 hk2
      go_wp2
      go_roundw
      case rel => exact ⟨k + 1, G3, _, by omega, by go_num, H0, Lib.hid ⟨HF4.out, HEQ.out⟩, HB4, HL0⟩
      case measure => simp [intOf]; omega
    · obtain rfl : k = l.length := by omega
      have HF4 := Lib.hid (show Fine S3 n 80 from ⟨HF3.out.wf, by have := HF3.out.len; omega, HF3.out.seats⟩)
      go_wp2
      go_ret
      have e := HFE3.out.2
      rw [List.take_length] at e
      exact .inr ⟨HPL.out, b, lo, G3, rfl, e ▸ H3.out, e ▸ HF4.out, HL2.out.1, HL3.out, HB3.out⟩
end Go.Proofs.YtkhgdfalbmkgcaaGreat
