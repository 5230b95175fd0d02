/- The law EffectAll, walked (layer 11). -/
import Derived.Test.YtlfffeinngkjgaaGreatBi
import Derived.Test.YtlfffeinngkjgaaGreatBj
import Derived.Test.YtlfffeinngkjgaaGreatAq
namespace Go.Proofs.YtlfffeinngkjgaaGreat
open Go.RowKit Go.Maps
attribute [local go_sem] Oper.semAt_some

theorem keepB1 {A w w' : World} {a0 : Addr} {v0 : Value} (hb : Below w.heap.size w w') (h : Below A.heap.size A w ∧ w.cell? a0 = some v0) : Below A.heap.size A w' ∧ w'.cell? a0 = some v0 := ⟨stepB h.1 hb, cell_stays hb h.2⟩
/-- Two boards alike are the same. -/
theorem bsame_self {w : World} {lo lo' : Nat} {g g' : GhostB} {B : BoardL} (h : BoardAt w lo g B) (h' : BoardAt w lo' g' B) : Calls Tryz.prog 17 #[.pointer (some ⟨g.q, 0, none⟩), .pointer (some ⟨g'.q, 0, none⟩)] w (RetV w (.bool true)) := by
  have := bsame_any (S := B.S) (T := B.T) (D := B.D) (E := B.D) h h'
  rwa [eqD_self] at this
theorem TurnedB.terms {w w' : World} {g g' : GhostB} {u : Value} {l : List Crd.TermL} {lo : Nat} (hu : Crd.TermsIs w u l) (ht : TurnedB w w' g g') (hlo : ∀ k, g.own k → lo ≤ k) (hb : ∀ b off n c, u = .slice (some ⟨b, off, none⟩) n c → l ≠ [] → b < lo) : Crd.TermsIs w' u l := by
  rcases hu with ⟨xa, cap, h1, h2⟩ | ⟨b, off, cap, rfl, hlt, hc⟩
  · exact .inl ⟨xa, cap, h1, h2⟩
  · by_cases hl : l = []
    · subst hl
      exact .inl ⟨_, cap, rfl, rfl⟩
    · have hbl := hb b off _ cap rfl hl
      have hk := (ht.keeps hlt (fun e => by have := hlo b e; omega)).1
      refine .inr ⟨b, off, cap, rfl, Nat.lt_of_lt_of_le hlt ht.size, fun i hi => ?_⟩
      rw [World.cell?_of_block (a := ⟨b, off + i * 3, none⟩) hk, World.cell?_of_block (a := ⟨b, off + i * 3 + 1, none⟩) hk, World.cell?_of_block (a := ⟨b, off + i * 3 + 2, none⟩) hk]
      exact hc i hi
theorem TurnedB.cell {w w' : World} {g g' : GhostB} {lo : Nat} {a : Addr} {v : Value} (hv : w.cell? a = some v) (ht : TurnedB w w' g g') (hlo : ∀ k, g.own k → lo ≤ k) (hk : a.block < lo) (hlt : a.block < w.heap.size) : w'.cell? a = some v := by
  rw [World.cell?_of_block (ht.keeps hlt (fun e => by have := hlo _ e; omega)).1]
  exact hv
theorem TurnedB.two {w w' : World} {g g' : GhostB} {lo : Nat} {B : BoardL} {A : World} (h : TurnedB w w' g g') (hb : BoardAt w lo g B) (hA : Below A.heap.size A w) (hlo : A.heap.size ≤ lo) : Below A.heap.size A w' := h.below hA (fun _ hk => Nat.le_trans hlo (hb.ownLo hk))
set_option maxRecDepth 100000 in
set_option maxHeartbeats 16000000 in
theorem effectAll_walk {v tv : Value} {l : List ThingL} {ts : List Crd.TermL} {xa : Option Addr} {xc : Nat} (a0 a1 a2 : Int) {w : World} (hv : ThingsAt w v l) (hw : ∀ x ∈ l, Wf x.owner ∧ Wf x.zone) (hlen : l.length ≤ 9223372036854775807) (htv : tv = .slice xa ts.length xc) (ht : Crd.TermsIs w tv ts) (htl : ts.length ≤ 9223372036854775807) :
    Calls Tryz.prog 4 #[v, .agg #[.int .i64 a0, .int .i64 a1, .int .i64 a2], tv] w (RetV w (.bool true)) := by
  subst htv
  obtain ⟨s, hs4, hse⟩ := and3 a0
  have hb0 := below_new w (.cells #[.int .i64 a0, .int .i64 a1, .int .i64 a2] 54)
  have hkk := fun j => cell_of_row (w.alloc (.cells #[.int .i64 a0, .int .i64 a1, .int .i64 a2] 54)) w.heap.size j _ _ _ (heap_alloc_new w (.cells #[.int .i64 a0, .int .i64 a1, .int .i64 a2] 54))
  have k0 := hkk 0
  have k1 := hkk 1
  have k2 := hkk 2
  obtain ⟨W, hW⟩ : ∃ W, w.alloc (.cells #[.int .i64 a0, .int .i64 a1, .int .i64 a2] 54) = W := ⟨_, rfl⟩
  rw [hW] at hb0 k0 k1 k2
  have HBO := Lib.hid (fun (w' : World) (hb : Below W.heap.size W w') => board_any ((hv.later hb0).later hb) hw hlen s (by omega))
  have HT := Lib.hid (show Crd.TermsIs W (.slice xa ts.length xc) ts from ht.later hb0)
  have HTB := Lib.hid (show ∀ b off n c, Value.slice xa ts.length xc = .slice (some ⟨b, off, none⟩) n c → ts ≠ [] → b < w.heap.size from fun b off n c e hne => by
    rcases ht with ⟨_, _, _, h2⟩ | ⟨b', off', cap, h1, h2, _⟩
    · exact absurd h2 hne
    · rw [h1] at e
      injection e with e _ _
      injection e with e
      injection e with e _
      omega)
  have HW := Lib.hid hW
  have HSZ := Lib.hid (show W.heap.size = w.heap.size + 1 by rw [← hW]; simp)
  have HB0 := Lib.hid hb0
  have hw8 : IntKind.u8.wrap (s : Int) = s := IntWalk.u8_in _ (by omega)
  obtain ⟨va, vc, hvf⟩ := hv.form
  subst hvf
  clear hkk hv hw ht hb0 hW
  go_enter Tryz.func4, Tryz.ntmps4
  go_upto_region 1 with fail
  rw [HW.out]
  obtain ⟨q4, hq4⟩ : ∃ q, w.heap.size = q := ⟨_, rfl⟩
  have HQ4 := Lib.hid hq4
  rw [hq4] at k0 k1 k2 ⊢
  clear hq4
  go_wp2_with fail
  refine (awake11_any W).mono ?_
  rintro e w1 ⟨rfl, hb1⟩
  have HB1 := Lib.hid hb1
  have K1 := Lib.hid (show w1.cell? ⟨q4, 0, none⟩ = some (.int .i64 a0) ∧ w1.cell? ⟨q4, 1, none⟩ = some (.int .i64 a1) ∧ w1.cell? ⟨q4, 2, none⟩ = some (.int .i64 a2) from ⟨cell_stays hb1 k0, cell_stays hb1 k1, cell_stays hb1 k2⟩)
  clear hb1 k0 k1 k2
  dsimp only
  go_upto_region 3 with fail
  have HI := Lib.hid (show Below w1.heap.size w1 w1 ∧ w1.cell? ⟨q4, 0, none⟩ = some (.int .i64 a0) from ⟨Below.refl _ _, K1.out.1⟩)
  by_cases hp : playT l
  case neg =>
    have HBO1 := Lib.hid (fun (w' : World) (hb : Below w1.heap.size w1 w') => (HBO.out w' (stepB HB1.out hb)).mono fun _ _ h => h.no hp)
    clear HBO
    go_region_held3 (fun w' => Below w1.heap.size w1 w' ∧ w'.cell? ⟨q4, 0, none⟩ = some (.int .i64 a0))
      (first | assumption | (with_reducible exact HI.out) | exact keepB1 ((Below.refl _ _).drew) HI.out | exact keepB1 (by assumption) (by assumption))
      (first
        | (go_at_call 8; refine (HBO1.out _ (And.left (by assumption))).mono ?_; rintro e w2 ⟨rfl, hb2⟩))
    have hB : Below w1.heap.size w1 _ := And.left (by assumption)
    have HBB := Lib.hid (stepB HB0.out (stepB HB1.out hB))
    rename_i hHeld
    clear hHeld hB hb2
    go_wp2
    go_ret
    exact ⟨rfl, HBB.out⟩
  case pos =>
    have HBO1 := Lib.hid (fun (w' : World) (hb : Below w1.heap.size w1 w') => (HBO.out w' (stepB HB1.out hb)).mono fun _ _ h => h.yes hp)
    have HP := Lib.hid (made_fold l hp.2)
    clear HBO hp
    obtain ⟨B, hB⟩ : ∃ B, boardL l s = B := ⟨_, rfl⟩
    unfold RetBY at HBO1
    rw [hB] at HBO1
    clear hB
    go_region_held3 (fun w' => Below w1.heap.size w1 w' ∧ w'.cell? ⟨q4, 0, none⟩ = some (.int .i64 a0))
      (first | assumption | (with_reducible exact HI.out) | exact keepB1 ((Below.refl _ _).drew) HI.out | exact keepB1 (by assumption) (by assumption))
      (first
        | (go_at_call 8; refine (HBO1.out _ (And.left (by assumption))).mono ?_; rintro e w2 ⟨lo, g, rfl, hbd, hlo, hb2⟩))
    rename_i wA loA gA hA hloA hbA hHeld
    have HBW := Lib.hid (stepB HB0.out (stepB HB1.out hHeld.1))
    have HA := Lib.hid (hA.later hb2)
    have HB := Lib.hid hbd
    have HLA := Lib.hid (show W.heap.size ≤ loA ∧ W.heap.size ≤ lo from by
      have h1 := HB1.out.size
      have h2 := hbA.size
      rw [show w1.drew.heap.size = w1.heap.size from rfl] at hloA h2
      omega)
    have HAP := Lib.hid (show ApartB g gA from fun k => by
      by_cases hk : k < wA.heap.size
      · exact .inl (fun e => by have := hbd.ownLo e; omega)
      · exact .inr (fun e => hk (hA.ownLt e)))
    have K2 := Lib.hid (show w2.cell? ⟨q4, 1, none⟩ = some (.int .i64 a1) ∧ w2.cell? ⟨q4, 2, none⟩ = some (.int .i64 a2) from ⟨cell_stays hHeld.1 K1.out.2.1, cell_stays hHeld.1 K1.out.2.2⟩)
    have HTS := Lib.hid (show Crd.TermsIs w2 (.slice xa ts.length xc) ts from (HT.out.later HB1.out).later hHeld.1)
    clear hHeld hA hloA hbA hbd hlo hb2 HI HBO1 HT
    by_cases h10 : 10 < ts.length
    · have d10 : decide ((10 : Int) < ts.length) = true := decide_eq_true (by omega)
      go_wp2
      go_ret
      exact ⟨rfl, HBW.out⟩
    have d10 : decide ((10 : Int) < ts.length) = false := decide_eq_false (by omega)
    have HQL := Lib.hid (show q4 < W.heap.size by have := HSZ.out; have := HQ4.out; omega)
    have HQW := Lib.hid (show q4 < w2.heap.size by have := HB1.out.size; have := HBW.out.size; have := HQL.out; have := HA.out.lt; have := HLA.out.1; have := HA.out.lq; omega)
    have HTU0 := Lib.hid (TurnedB.of_below (g := g) (Below.refl w2.heap.size w2))
    go_wp2
    go_loopw [9, 36] (fun d j wr => ∃ (k : Nat) (g' : GhostB), k ≤ ts.length ∧ d = .int .i64 ((runAll B a1 a2 (ts.take k)).2 : Int) ∧ j = .int .i64 (k : Int) ∧ Hid (BoardAt wr lo g' (runAll B a1 a2 (ts.take k)).1) ∧ Hid (TurnedB w2 wr g g') ∧ g'.q = g.q) (fun _ j _ => ts.length - (intOf j).toNat)
    case atStart => exact ⟨0, g, Nat.zero_le _, rfl, rfl, HB, HTU0, rfl⟩
    case round =>
      obtain ⟨k, g', hk, rfl, rfl, HB', HT', hq⟩ := hrel
      have hlo : ∀ k, g.own k → W.heap.size ≤ k := fun k hk => Nat.le_trans HLA.out.2 (HB.out.ownLo hk)
      have hq1 : wr.cell? ⟨q4, 1, none⟩ = some (.int .i64 a1) := TurnedB.cell K2.out.1 HT'.out hlo HQL.out HQW.out
      have hq2 : wr.cell? ⟨q4, 2, none⟩ = some (.int .i64 a2) := TurnedB.cell K2.out.2 HT'.out hlo HQL.out HQW.out
      have hts := TurnedB.terms HTS.out HT'.out hlo (fun b off n c e hne => by have := HTB.out b off n c e hne; have := HSZ.out; omega)
      by_cases hlt : k < ts.length
      · have d0 : decide ((k : Int) < ts.length) = true := decide_eq_true (by omega)
        obtain ⟨bb, off, rfl, t0, t1, t2⟩ := Crd.terms_at hts k hlt
        have HSN := Lib.hid (runAll_snoc B a1 a2 (ts.take k) ts[k])
        rw [← take_snoc ts k hlt] at HSN
        have hle := runAll_le B a1 a2 (ts.take k)
        obtain ⟨x, hx⟩ : ∃ x, ts[k] = x := ⟨_, rfl⟩
        rw [hx] at t0 t1 t2 HSN
        obtain ⟨P, hP⟩ : ∃ P, runAll B a1 a2 (ts.take k) = P := ⟨_, rfl⟩
        rw [hP] at HSN HB' hle ⊢
        obtain ⟨BP, c⟩ := P
        dsimp only at HSN HB' hle ⊢
        have hc1000 : c ≤ 1000 := by simp at hle; omega
        obtain ⟨op, n, on⟩ := x
        dsimp only at t0 t1 t2
        have hb0 := below_new wr (.cells #[.int .i64 op, .int .i64 n, .int .i64 on] 24)
        have hkk := fun j => cell_of_row (wr.alloc (.cells #[.int .i64 op, .int .i64 n, .int .i64 on] 24)) wr.heap.size j _ _ _ (heap_alloc_new wr (.cells #[.int .i64 op, .int .i64 n, .int .i64 on] 24))
        have k0 := hkk 0
        have k1 := hkk 1
        have k2 := hkk 2
        have hq1' := cell_stays hb0 hq1
        have hq2' := cell_stays hb0 hq2
        obtain ⟨W2, hW2⟩ : ∃ W2, wr.alloc (.cells #[.int .i64 op, .int .i64 n, .int .i64 on] 24) = W2 := ⟨_, rfl⟩
        rw [hW2] at k0 k1 k2 hb0 hq1' hq2'
        have HDO := Lib.hid (fun (i : Int) => do_any (HB'.out.later hb0) a1 ⟨op, n, on⟩ i)
        unfold Crd.tval at HDO
        dsimp only at HDO
        rw [hq] at HDO
        have HTU := Lib.hid (HT'.out.trans (TurnedB.of_below (g := g') hb0))
        have hl : on = 0 ∨ on ≠ 0 := by omega
        clear hts hlo hle hx hP hkk hb0 hq1 hq2
        rcases hl with hn0 | hn0
        · have hpl : placeI ⟨op, n, on⟩ a2 = 0 := if_pos hn0
          have e0 : (on == 0) = true := beq_iff_eq.2 hn0
          clear hn0
          obtain ⟨cb, hcb⟩ : ∃ cb, canB BP a1 ⟨op, n, on⟩ 0 = cb := ⟨_, rfl⟩
          have hdo := HDO.out 0
          rw [hcb] at hdo
          have HDD := Lib.hid hdo
          rw [hpl, hcb] at HSN
          clear hcb HDO hdo hpl
          go_wp2_with fail
          refine HDD.out.mono ?_
          rintro e w9 hr
          obtain ⟨rfl, g3, hr1, hr2, hr3⟩ := RetBd.of hr HTU.out hq
          have HR := Lib.hid (And.intro hr1 (And.intro hr2 hr3))
          clear hr hr1 hr2 hr3 t0 t1 t2 hq1' hq2' k0 k1 k2 hW2
          cases cb with
          | true =>
            go_wp2
            go_roundw
            case rel => exact ⟨k + 1, g3, by omega, by rw [HSN.out]; first | rfl | go_num, by go_num, Lib.hid (by rw [HSN.out]; exact HR.out.1), Lib.hid HR.out.2.1, HR.out.2.2⟩
            case measure => simp [intOf]; omega
          | false =>
            go_wp2
            go_roundw
            case rel => exact ⟨k + 1, g3, by omega, by rw [HSN.out]; first | rfl | go_num, by go_num, Lib.hid (by rw [HSN.out]; exact HR.out.1), Lib.hid HR.out.2.1, HR.out.2.2⟩
            case measure => simp [intOf]; omega
        · have hpl : placeI ⟨op, n, on⟩ a2 = a2 := if_neg hn0
          have e0 : (on == 0) = false := beq_eq_false_iff_ne.2 hn0
          clear hn0
          obtain ⟨cb, hcb⟩ : ∃ cb, canB BP a1 ⟨op, n, on⟩ a2 = cb := ⟨_, rfl⟩
          have hdo := HDO.out a2
          rw [hcb] at hdo
          have HDD := Lib.hid hdo
          rw [hpl, hcb] at HSN
          clear hcb HDO hdo hpl
          go_wp2_with fail
          refine HDD.out.mono ?_
          rintro e w9 hr
          obtain ⟨rfl, g3, hr1, hr2, hr3⟩ := RetBd.of hr HTU.out hq
          have HR := Lib.hid (And.intro hr1 (And.intro hr2 hr3))
          clear hr hr1 hr2 hr3 t0 t1 t2 hq1' hq2' k0 k1 k2 hW2
          cases cb with
          | true =>
            go_wp2
            go_roundw
            case rel => exact ⟨k + 1, g3, by omega, by rw [HSN.out]; first | rfl | go_num, by go_num, Lib.hid (by rw [HSN.out]; exact HR.out.1), Lib.hid HR.out.2.1, HR.out.2.2⟩
            case measure => simp [intOf]; omega
          | false =>
            go_wp2
            go_roundw
            case rel => exact ⟨k + 1, g3, by omega, by rw [HSN.out]; first | rfl | go_num, by go_num, Lib.hid (by rw [HSN.out]; exact HR.out.1), Lib.hid HR.out.2.1, HR.out.2.2⟩
            case measure => simp [intOf]; omega
      · obtain rfl : k = ts.length := by omega
        have HFT := Lib.hid (List.take_length (l := ts))
        rw [HFT.out] at HB' ⊢
        have hfar := HA.out.far HAP.out HT'.out
        have HAA := Lib.hid hfar.1
        have HAP' := Lib.hid hfar.2
        have hloA : ∀ k, gA.own k → W.heap.size ≤ k := fun k hk => Nat.le_trans HLA.out.1 (HA.out.ownLo hk)
        have HBR := Lib.hid (HT'.out.below HBW.out (fun k hk => Nat.le_trans (by have := HSZ.out; omega) (hlo k hk)))
        have hqr : q4 < wr.heap.size := by have := HT'.out.size; have := HQW.out; omega
        have hall := all11_any HAA.out (u := .slice xa ts.length xc) (l := ts) (fun w' g'' ht'' => TurnedB.terms hts ht'' hloA (fun b off n c e hne => by have := HTB.out b off n c e hne; have := HSZ.out; omega)) (by omega) ⟨xa, xc, rfl⟩ a1 a2
        have HALL := Lib.hid hall
        have HLB := Lib.hid (show ∀ k, gA.own k → w.heap.size ≤ k from fun k hk => Nat.le_trans (by have := HSZ.out; omega) (hloA k hk))
        obtain ⟨P, hP⟩ : ∃ P, runAll B a1 a2 ts = P := ⟨_, rfl⟩
        rw [hP] at HB' HALL ⊢
        obtain ⟨BP, c⟩ := P
        dsimp only at HB' HALL ⊢
        clear hall hts hlo hloA hfar hqr hP
        go_wp2_with fail
        refine HALL.out.mono ?_
        rintro e w9 ⟨rfl, gA', hr1, hr2, hr3⟩
        have hfar2 := HB'.out.far HAP'.out.flip hr2
        have hsame := bsame_self hr1 hfar2.1
        rw [hr3, hq] at hsame
        have HSM := Lib.hid hsame
        have HB9 := Lib.hid (hr2.below HBR.out HLB.out)
        have ec : ((c : Int) == (c : Int)) = true := beq_self_eq_true _
        clear hr1 hr2 hr3 hfar2 hsame hq1 hq2
        go_wp2_with fail
        refine HSM.out.mono ?_
        rintro e w10 ⟨rfl, hb10⟩
        have HB10 := Lib.hid (stepB HB9.out hb10)
        clear hb10
        go_wp2
        go_ret
        exact ⟨rfl, HB10.out⟩
end Go.Proofs.YtlfffeinngkjgaaGreat
