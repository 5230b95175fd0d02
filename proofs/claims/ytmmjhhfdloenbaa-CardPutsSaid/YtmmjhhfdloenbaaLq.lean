/- The law CardPuts (layer 2), walked for a card that may be: it returns true, and only new memory is made. -/
import Derived.Test.YtmmjhhfdloenbaaLp
namespace Go.Proofs.Ytmmjhhfdloenbaa
open Go.RowKit

theorem ba_loop (B : ByteArray) : ∀ (n i : Nat) (r : List UInt8), B.size - i = n → (ByteArray.toList.loop B i r).length = r.length + n
  | 0, i, r, h => by rw [ByteArray.toList.loop, if_neg (by omega), List.length_reverse]; rfl
  | n + 1, i, r, h => by rw [ByteArray.toList.loop, if_pos (by omega), ba_loop B n (i + 1) _ (by omega), List.length_cons]; omega
theorem ba_nil {B : ByteArray} (h : B.size = 0) : B.toList = [] := by
  have := ba_loop B B.size 0 [] rfl
  rw [show ByteArray.toList.loop B 0 [] = B.toList from rfl, h] at this
  exact List.eq_nil_of_length_eq_zero this
theorem ba_not {B : ByteArray} (h : ¬ B.size = 0) : ¬ B.toList = [] := by
  intro e
  have := ba_loop B B.size 0 [] rfl
  rw [show ByteArray.toList.loop B 0 [] = B.toList from rfl, e] at this
  simp at this; omega
theorem tail_lift {ρ : Type} {P : World → Nat → Option Addr → Nat → Nat → ρ → Prop} {Q : World → Nat → Option Addr → Nat → Nat → Prop} {G : Prop}
    (h1 : (∀ V b za zn zc r, Q V b za zn zc → P V b za zn zc r) → G) (h2 : ∀ V b za zn zc r, Q V b za zn zc → P V b za zn zc r) : G := h1 h2
theorem cget_of {s : ByteArray} {c : CardL} {m n : Int} (h : cnextAt s 0 = (c, m, n)) : cgetOf s = if n = 0 then (if m = s.size then (c, 0) else (zeroC, 4)) else (zeroC, n) := by
  unfold cgetOf; rw [h]
theorem zero_not {c : CardL} (h : mayB c = true) : sameB zeroC c = false := by
  cases hs : sameB zeroC c
  · rfl
  · have := (sameB_iff zeroC c).1 hs
    subst this
    rw [zero_may] at h; exact absurd h (by decide)

set_option maxRecDepth 100000 in
set_option maxHeartbeats 16000000 in
theorem cardPuts_yes {c : CardL} (xa : Option Addr) (xc : Nat) (B : ByteArray) (cut : Int) (hc0 : 0 ≤ cut) (hc1 : cut < 256) (w : World) (ht : TermsIs w (.slice xa c.terms.length xc) c.terms) (hB : B.size ≤ 100)
    (hf : hfit c = true) (h4 : c.terms.length ≤ 4) (htf : c.terms.all tfit = true) (hm : mayB c = true) :
    Calls Try.prog 7 #[cagg c (.slice xa c.terms.length xc), .string B, .int .u8 cut] w (RetB w true) := by
  have hlen : c.terms.length ≤ 9223372036854775807 := by omega
  have HLEN := Lib.hid hlen
  have HT := Lib.hid ht
  have HF := Lib.hid hf
  have HL4 := Lib.hid h4
  have HTF := Lib.hid htf
  have e1 : decide ((30 : Int) < c.terms.length) = false := decide_eq_false (by omega)
  have e2 : decide ((100 : Int) < B.size) = false := decide_eq_false (by omega)
  have e3 : decide ((c.terms.length : Int) ≤ 4) = true := decide_eq_true (by omega)
  have e4 : decide (c.terms.length ≤ 4) = true := decide_eq_true h4
  have hp := cput_good hf h4 htf
  have hR := ReadsAt.of [] (cardBytes c) B.data.toList
  rw [← str_cat] at hR
  have hbl := cardBytes_len c
  obtain ⟨S0, hS0⟩ : ∃ S0 : ByteArray, (⟨(cardBytes c).toArray⟩ : ByteArray) = S0 := ⟨_, rfl⟩
  have hsz : S0.size = 7 + 3 * c.terms.length := by rw [← hS0]; show (cardBytes c).toArray.size = _; rw [List.size_toArray, hbl]
  rw [hS0] at hp hR
  have HS0 := Lib.hid hS0
  have HSZ := Lib.hid hsz
  have hs0 : S0.size ≤ 19 := by omega
  have hs1 : 7 ≤ S0.size := by omega
  have hSB : (S0 ++ B).size ≤ maxLen := by rw [ByteArray.size_append]; unfold maxLen; omega
  have HSB := Lib.hid hSB
  have HPUT := Lib.hid hp
  clear hp hS0 hsz hSB hbl hlen
  obtain ⟨m, hmm⟩ : ∃ m : Int, (0 : Int) + 7 + 3 * c.terms.length = m := ⟨_, rfl⟩
  have hmz : m = S0.size := by rw [← hmm]; have := HSZ.out; omega
  have hN : cnextAt (S0 ++ B) 0 = (c, m, 0) := by
    have h := errC (a := 0) hf h4 htf hR
    rw [hm] at h
    rw [← hmm]
    exact h
  have HN := Lib.hid hN
  have HM := Lib.hid hm
  have HSA := Lib.hid ((sameB_iff c c).2 rfl)
  have HZZ := Lib.hid ((sameB_iff zeroC zeroC).2 rfl)
  have HZC := Lib.hid (zero_not hm)
  have em : (m == (S0.size : Int)) = true := beq_iff_eq.2 hmz
  have HMZ := Lib.hid hmz
  have HCUT : Hid (∀ k, k < S0.size → cgetOf ⟨(S0.data.toList.take k).toArray⟩ = (zeroC, 3)) := Lib.hid (fun k hk => by
    have h := cut_short hf h4 htf k (by rw [cardBytes_len]; have := HSZ.out; omega)
    rw [← HS0.out]; exact h)
  have HG2 : Hid (cgetOf (S0 ++ B) = if B.size = 0 then (c, 0) else (zeroC, 4)) := Lib.hid (by
    rw [cget_of hN, if_pos rfl, ByteArray.size_append]
    by_cases h0 : B.size = 0
    · rw [if_pos (by omega), if_pos h0]
    · rw [if_neg (by omega), if_neg h0])
  clear ht hf htf hm hN hR h4 hmm hmz
  unfold cagg
  go_enter Try.func7, Try.ntmps7
  go_wp2_with fail
  refine (awake2_any _).mono ?_
  rintro e w1 ⟨rfl, hb1⟩
  have HX1 := Lib.hid ((BoxC.new w c xa xc).later hb1)
  obtain ⟨_, k0, k1, k2, k3, k4, k5, k6⟩ := HX1.out
  clear hb1
  go_wp2
  go_region_held3 (fun w' => Below w.heap.size w w' ∧ w'.cell? ⟨w.heap.size, 0, none⟩ = some (.int .i64 c.kind) ∧ w'.cell? ⟨w.heap.size, 1, none⟩ = some (.int .i64 c.cost) ∧ w'.cell? ⟨w.heap.size, 2, none⟩ = some (.int .i64 c.power) ∧ w'.cell? ⟨w.heap.size, 3, none⟩ = some (.int .i64 c.tough) ∧ w'.cell? ⟨w.heap.size, 4, none⟩ = some (.int .i64 c.keys) ∧ w'.cell? ⟨w.heap.size, 5, none⟩ = some (.int .i64 c.whn) ∧ w'.cell? ⟨w.heap.size, 6, none⟩ = some (.slice xa c.terms.length xc))
    (first | assumption | exact HX1.out.later (Below.refl w1.heap.size w1).drew | exact keep7 (by assumption) (by assumption))
    (first
      | (go_at_call 38; refine (codec_any _).mono ?_; rintro e w2 ⟨r, rfl, hcod, hb2⟩)
      | (go_at_call 39; refine (put_c (by assumption) ⟨xa, _, xc, rfl, HT.out.later (And.left (by assumption))⟩ HLEN.out).mono ?_; rw [HPUT.out]; unfold ret2; rintro e w3 ⟨rfl, hb3⟩))
  have hX3 : BoxC w w3 w.heap.size c xa xc := by assumption
  have HX3 := Lib.hid hX3
  obtain ⟨_, k0, k1, k2, k3, k4, k5, k6⟩ := hX3
  clear hcod
  go_wp2_with fail
  refine (refFits_any ⟨xa, _, xc, rfl, HT.out.later HX3.out.1⟩ HLEN.out).mono ?_
  rw [HF.out, HTF.out]
  rintro e w4 ⟨rfl, hb4⟩
  have HX4 := Lib.hid (HX3.out.later hb4)
  obtain ⟨_, k0, k1, k2, k3, k4, k5, k6⟩ := HX4.out
  clear hb4
  go_wp2_with fail
  refine (refPut_any xa xc (HT.out.later HX4.out.1) HF.out HL4.out HTF.out).mono ?_
  rw [HS0.out]
  rintro e w5 ⟨rfl, hb5⟩
  have HX5 := Lib.hid (HX4.out.later hb5)
  obtain ⟨_, k0, k1, k2, k3, k4, k5, k6⟩ := HX5.out
  clear hb5
  go_wp2_with fail
  refine (codec_any _).mono ?_
  rintro e w6 ⟨r2, rfl, hcod, hb6⟩
  have HC6 := Lib.hid hcod
  have HX6 := Lib.hid (HX5.out.later hb6)
  clear hcod hb6
  go_wp2_with fail
  refine (next_c (S0 ++ B) 0 HC6.out HSB.out).mono ?_
  rw [HN.out]
  rintro e w7 ⟨x0, x1, x2, x3, x4, x5, ya, yn, yc, rfl, hq, hb7⟩
  have HX7 := Lib.hid (HX6.out.later hb7)
  obtain ⟨rfl, rfl, rfl, rfl, rfl, rfl, hty⟩ := hq
  obtain rfl := CardIs.len hty.is
  have HTY := Lib.hid hty.is
  unfold Val_c
  have HX7b := Lib.hid (HX7.out.later (below_alloc1 w7 (.cells #[.int .i64 c.kind, .int .i64 c.cost, .int .i64 c.power, .int .i64 c.tough, .int .i64 c.keys, .int .i64 c.whn, .slice ya c.terms.length yc] 65)))
  have HY7 := Lib.hid (BoxC.new w7 c ya yc)
  obtain ⟨_, k0, k1, k2, k3, k4, k5, k6⟩ := HX7b.out
  clear hb7 hty
  go_wp2_with fail
  refine (refMay_any ⟨xa, _, xc, rfl, HT.out.later HX7b.out.1⟩ HLEN.out).mono ?_
  rw [HM.out]
  rintro e w8 ⟨rfl, hb8⟩
  have HX8 := Lib.hid (HX7b.out.later hb8)
  have HY8 := Lib.hid (HY7.out.later hb8)
  clear hb8
  obtain ⟨k, hk⟩ : ∃ k : Nat, cut.tmod (S0.size : Int) = (k : Int) := ⟨(cut.tmod (S0.size : Int)).toNat, (Int.toNat_of_nonneg (Int.tmod_nonneg _ hc0)).symm⟩
  have hkz : k < S0.size := by
    have h1 := Int.tmod_lt_of_pos cut (show (0 : Int) < S0.size by omega)
    omega
  have hkz2 : (k : Int) ≤ S0.size := by omega
  have hk0 : (0 : Int) ≤ k := by omega
  have hk2 : cut % (S0.size : Int) = (k : Int) := by rw [← hk, Int.tmod_eq_emod_of_nonneg hc0]
  have hn1 : ¬ S0.size = 0 := by omega
  have hn2 : ¬ S0 = ByteArray.empty := fun e => by rw [e] at hn1; exact hn1 rfl
  have hkn : k ≤ S0.size := Nat.le_of_lt hkz
  have hw : wrap64 cut = cut := IntWalk.wrap64_in _ (by omega)
  have hw2 : IntKind.i64.wrap cut = cut := IntWalk.i64_in _ (by omega)
  have hnz : ((S0.size : Int) == 0) = false := beq_eq_false_iff_ne.2 (by omega)
  have HKC : Hid (cgetOf (S0.extract 0 k) = (zeroC, 3)) := Lib.hid (by
    have h := HCUT.out k hkz
    have e : (⟨(S0.data.toList.take k).toArray⟩ : ByteArray) = S0.extract 0 k := by apply ByteArray.ext; apply Array.toList_inj.1; simp
    rw [e] at h; exact h)
  have HKS : Hid ((S0.extract 0 k).size ≤ maxLen) := Lib.hid (by rw [ByteArray.size_extract]; unfold maxLen; omega)
  go_wp2
  apply tail_lift (Q := fun V b za zn zc => BoxZ w8 V b za zn zc ∧ TermsIs V (.slice za zn zc) zeroC.terms)
  case h1 =>
    intro HTAIL
    go_region_held3 (fun w' => Below w8.heap.size w8 w')
      (first | with_reducible assumption | with_reducible exact (Below.refl _ _).drew | with_reducible exact below_set7 (by assumption) (by assumption) | with_reducible exact keepB (below_alloc1 _ _) (by assumption) | with_reducible exact keepB (by assumption) (by assumption) | (fail "keep"))
      (first
        | (go_at_call 38; refine (codec_any _).mono ?_; rintro e w9 ⟨r3, rfl, hcod9, hb9⟩; (first | (have hz := newZ (A := w8) (by exact Nat.le_refl _) hb9) | (have hz := newZ (A := w8) (by exact Nat.le_refl _) (undrew hb9)) | skip))
        | (go_at_call 45; refine (get_c _ (by first | assumption | exact CHas.later (by assumption) (below_alloc1 _ _) | (fail "has")) HKS.out).mono ?_; rw [HKC.out]; rintro e w10 ⟨z0, z1, z2, z3, z4, z5, za, zn, zc, rfl, hq10, hb10⟩; unfold Val_c; have hX10 : Below w8.heap.size w8 w10 := keepB hb10 (by assumption); (first | (have hz2 := newZ (A := w8) (by have h := Below.size hb9; exact h) hb10; obtain ⟨hzA, hzlt, ⟨zc0, zc1, zc2, zc3, zc4, zc5, zc6⟩, zfr⟩ := hz2) | (have hz2 := NewZ.later (by assumption) hb10; obtain ⟨hzA, hzlt, ⟨zc0, zc1, zc2, zc3, zc4, zc5, zc6⟩, zfr⟩ := hz2) | skip)))
    · obtain ⟨rfl, rfl, rfl, rfl, rfl, rfl, htz⟩ := hq10
      have htz2 := htz.is
      with_reducible obtain ⟨V, hV, hZ, hTZ⟩ := nameA (A := w8) (w := w10) (by assumption) htz2
      rw [hV]
      clear hb10 hX10 htz htz2 hV
      generalize w10.heap.size = b at *
      with_reducible exact HTAIL V b za zn zc r3 ⟨hZ, hTZ⟩
    · obtain ⟨rfl, rfl, rfl, rfl, rfl, rfl, htz⟩ := hq10
      have htz2 := htz.is
      with_reducible obtain ⟨V, hV, hZ, hTZ⟩ := nameS (A := w8) (w := w10) (by assumption) ⟨zc0, zc1, zc2, zc3, zc4, zc5, zc6⟩ htz2
      rw [hV]
      with_reducible exact HTAIL V _ za zn zc r3 ⟨hZ, hTZ⟩
    · obtain ⟨rfl, rfl, rfl, rfl, rfl, rfl, htz⟩ := hq10
      have htz2 := htz.is
      with_reducible obtain ⟨V, hV, hZ, hTZ⟩ := nameS (A := w8) (w := w10) (by assumption) ⟨zc0, zc1, zc2, zc3, zc4, zc5, zc6⟩ htz2
      rw [hV]
      with_reducible exact HTAIL V _ za zn zc r3 ⟨hZ, hTZ⟩
  case h2 =>
    intro V b za zn zc r3 hQ
    obtain ⟨hZ, hTZ⟩ := hQ
    have HTZ := Lib.hid hTZ
    have HX10 := Lib.hid (HX8.out.later hZ.1)
    have HY10 := Lib.hid (HY8.out.later hZ.1)
    have HZ10 := Lib.hid hZ
    clear hZ hTZ
    go_wp2_with fail
    refine (codec_any _).mono ?_
    rintro e w11 ⟨r4, rfl, hcod11, hb11⟩
    have HC11 := Lib.hid hcod11
    have HX11 := Lib.hid (HX10.out.later hb11)
    have HY11 := Lib.hid (HY10.out.later hb11)
    have HZ11 := Lib.hid (HZ10.out.later hb11)
    have HTZ11 := Lib.hid (HTZ.out.later hb11)
    clear hcod11 hb11
    by_cases hB0 : B.size = 0
    · have HGV := HG2.out
      have hE1 : B.toList = [] := ba_nil hB0
      have hE2 : B.toList.isEmpty = true := by rw [hE1]; rfl
      rw [if_pos hB0] at HGV
      have HG3 := Lib.hid HGV
      clear HGV
      go_wp2_with fail
      refine (get_c (S0 ++ B) HC11.out HSB.out).mono ?_
      rw [HG3.out]
      rintro e w12 ⟨u0, u1, u2, u3, u4, u5, va, vn, vc, rfl, hq12, hb12⟩
      obtain ⟨rfl, rfl, rfl, rfl, rfl, rfl, hte⟩ := hq12
      obtain rfl := CardIs.len hte.is
      unfold Val_c
      have HX12 := Lib.hid ((HX11.out.later hb12).later (below_alloc1 w12 (.cells #[.int .i64 c.kind, .int .i64 c.cost, .int .i64 c.power, .int .i64 c.tough, .int .i64 c.keys, .int .i64 c.whn, .slice va c.terms.length vc] 65)))
      have HY12 := Lib.hid ((HY11.out.later hb12).later (below_alloc1 w12 (.cells #[.int .i64 c.kind, .int .i64 c.cost, .int .i64 c.power, .int .i64 c.tough, .int .i64 c.keys, .int .i64 c.whn, .slice va c.terms.length vc] 65)))
      have HZ12 := Lib.hid ((HZ11.out.later hb12).later (below_alloc1 w12 (.cells #[.int .i64 c.kind, .int .i64 c.cost, .int .i64 c.power, .int .i64 c.tough, .int .i64 c.keys, .int .i64 c.whn, .slice va c.terms.length vc] 65)))
      have HE12 := Lib.hid (BoxC.new w12 c va vc)
      have HTZ12 := Lib.hid ((HTZ11.out.later hb12).later (below_alloc1 w12 (.cells #[.int .i64 c.kind, .int .i64 c.cost, .int .i64 c.power, .int .i64 c.tough, .int .i64 c.keys, .int .i64 c.whn, .slice va c.terms.length vc] 65)))
      have HTE12 := Lib.hid (hte.is.later (below_alloc1 w12 (.cells #[.int .i64 c.kind, .int .i64 c.cost, .int .i64 c.power, .int .i64 c.tough, .int .i64 c.keys, .int .i64 c.whn, .slice va c.terms.length vc] 65)))
      clear hb12 hte
      obtain ⟨_, k0, k1, k2, k3, k4, k5, k6⟩ := HX12.out
      obtain ⟨_, y0, y1, y2, y3, y4, y5, y6⟩ := HY12.out
      go_wp2_with fail
      refine (refSame_any (a := c) (b := c) ⟨ya, _, yc, rfl, HTY.out.later HY12.out.1⟩ ⟨xa, _, xc, rfl, HT.out.later HX12.out.1⟩ HLEN.out HLEN.out).mono ?_
      rw [HSA.out]
      rintro e w13 ⟨rfl, hb13⟩
      have HX13 := Lib.hid (HX12.out.later hb13)
      have HZ13 := Lib.hid (HZ12.out.later hb13)
      have HE13 := Lib.hid (HE12.out.later hb13)
      have HTZ13 := Lib.hid (HTZ12.out.later hb13)
      have HTE13 := Lib.hid (HTE12.out.later hb13)
      clear hb13 k0 k1 k2 k3 k4 k5 k6 y0 y1 y2 y3 y4 y5 y6
      obtain ⟨_, k0, k1, k2, k3, k4, k5, k6⟩ := HZ13.out
      go_wp2_with fail
      refine (refSame_any (a := zeroC) (b := zeroC) ⟨za, zn, zc, rfl, HTZ13.out⟩ (zero_is _) (by decide) (by decide)).mono ?_
      rw [HZZ.out]
      rintro e w14 ⟨rfl, hb14⟩
      have HX14 := Lib.hid (HX13.out.later hb14)
      have HE14 := Lib.hid (HE13.out.later hb14)
      have HTE14 := Lib.hid (HTE13.out.later hb14)
      clear hb14 k0 k1 k2 k3 k4 k5 k6
      obtain ⟨_, k0, k1, k2, k3, k4, k5, k6⟩ := HX14.out
      obtain ⟨_, y0, y1, y2, y3, y4, y5, y6⟩ := HE14.out
      go_wp2_with fail
      refine (refSame_any (a := c) (b := c) ⟨va, _, vc, rfl, HTE14.out⟩ ⟨xa, _, xc, rfl, HT.out.later HX14.out.1⟩ HLEN.out HLEN.out).mono ?_
      rw [HSA.out]
      rintro e w15 ⟨rfl, hb15⟩
      go_wp2
      go_ret
      exact ⟨rfl, stepB HX14.out.1 hb15⟩
    · have HGV := HG2.out
      have hE1 : ¬ B.toList = [] := ba_not hB0
      have hE2 : B.toList.isEmpty = false := by simpa using hE1
      rw [if_neg hB0] at HGV
      have HG3 := Lib.hid HGV
      clear HGV
      go_wp2_with fail
      refine (get_c (S0 ++ B) HC11.out HSB.out).mono ?_
      rw [HG3.out]
      rintro e w12 ⟨u0, u1, u2, u3, u4, u5, va, vn, vc, rfl, hq12, hb12⟩
      obtain ⟨rfl, rfl, rfl, rfl, rfl, rfl, hte⟩ := hq12
      unfold Val_c
      have HX12 := Lib.hid ((HX11.out.later hb12).later (below_alloc1 w12 (.cells #[.int .i64 zeroC.kind, .int .i64 zeroC.cost, .int .i64 zeroC.power, .int .i64 zeroC.tough, .int .i64 zeroC.keys, .int .i64 zeroC.whn, .slice va vn vc] 65)))
      have HY12 := Lib.hid ((HY11.out.later hb12).later (below_alloc1 w12 (.cells #[.int .i64 zeroC.kind, .int .i64 zeroC.cost, .int .i64 zeroC.power, .int .i64 zeroC.tough, .int .i64 zeroC.keys, .int .i64 zeroC.whn, .slice va vn vc] 65)))
      have HZ12 := Lib.hid ((HZ11.out.later hb12).later (below_alloc1 w12 (.cells #[.int .i64 zeroC.kind, .int .i64 zeroC.cost, .int .i64 zeroC.power, .int .i64 zeroC.tough, .int .i64 zeroC.keys, .int .i64 zeroC.whn, .slice va vn vc] 65)))
      have HE12 := Lib.hid (BoxZ.new w12 va vn vc)
      have HTZ12 := Lib.hid ((HTZ11.out.later hb12).later (below_alloc1 w12 (.cells #[.int .i64 zeroC.kind, .int .i64 zeroC.cost, .int .i64 zeroC.power, .int .i64 zeroC.tough, .int .i64 zeroC.keys, .int .i64 zeroC.whn, .slice va vn vc] 65)))
      have HTE12 := Lib.hid (hte.is.later (below_alloc1 w12 (.cells #[.int .i64 zeroC.kind, .int .i64 zeroC.cost, .int .i64 zeroC.power, .int .i64 zeroC.tough, .int .i64 zeroC.keys, .int .i64 zeroC.whn, .slice va vn vc] 65)))
      clear hb12 hte
      obtain ⟨_, k0, k1, k2, k3, k4, k5, k6⟩ := HX12.out
      obtain ⟨_, y0, y1, y2, y3, y4, y5, y6⟩ := HY12.out
      go_wp2_with fail
      refine (refSame_any (a := c) (b := c) ⟨ya, _, yc, rfl, HTY.out.later HY12.out.1⟩ ⟨xa, _, xc, rfl, HT.out.later HX12.out.1⟩ HLEN.out HLEN.out).mono ?_
      rw [HSA.out]
      rintro e w13 ⟨rfl, hb13⟩
      have HX13 := Lib.hid (HX12.out.later hb13)
      have HZ13 := Lib.hid (HZ12.out.later hb13)
      have HE13 := Lib.hid (HE12.out.later hb13)
      have HTZ13 := Lib.hid (HTZ12.out.later hb13)
      have HTE13 := Lib.hid (HTE12.out.later hb13)
      clear hb13 k0 k1 k2 k3 k4 k5 k6 y0 y1 y2 y3 y4 y5 y6
      obtain ⟨_, k0, k1, k2, k3, k4, k5, k6⟩ := HZ13.out
      go_wp2_with fail
      refine (refSame_any (a := zeroC) (b := zeroC) ⟨za, zn, zc, rfl, HTZ13.out⟩ (zero_is _) (by decide) (by decide)).mono ?_
      rw [HZZ.out]
      rintro e w14 ⟨rfl, hb14⟩
      have HX14 := Lib.hid (HX13.out.later hb14)
      have HE14 := Lib.hid (HE13.out.later hb14)
      have HTE14 := Lib.hid (HTE13.out.later hb14)
      clear hb14 k0 k1 k2 k3 k4 k5 k6
      obtain ⟨_, k0, k1, k2, k3, k4, k5, k6⟩ := HX14.out
      obtain ⟨_, y0, y1, y2, y3, y4, y5, y6⟩ := HE14.out
      go_wp2_with fail
      refine (refSame_any (a := zeroC) (b := c) ⟨va, vn, vc, rfl, HTE14.out⟩ ⟨xa, _, xc, rfl, HT.out.later HX14.out.1⟩ (by decide) HLEN.out).mono ?_
      rw [HZC.out]
      rintro e w15 ⟨rfl, hb15⟩
      go_wp2
      go_ret
      exact ⟨rfl, stepB HX14.out.1 hb15⟩
end Go.Proofs.Ytmmjhhfdloenbaa
