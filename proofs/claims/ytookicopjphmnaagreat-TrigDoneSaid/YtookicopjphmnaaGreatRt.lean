/- TrigDone: the walk (layer 13). -/
import Derived.Test.YtookicopjphmnaaGreatRl
import Derived.Test.YtookicopjphmnaaGreatRq
namespace Go.Proofs.YtookicopjphmnaaGreat
open Go.RowKit Go.Maps
attribute [local go_sem] Oper.semAt_some

set_option maxRecDepth 100000 in
set_option maxHeartbeats 4000000 in
theorem moveOut_any {w : World} {p : Option Addr} {i n zone : Int} (under : Bool) (hn : n ≠ 0) (h : Calls Tryz.prog 36 #[.pointer p, .int .i64 i] w (RetGet w zeroO n)) :
    Calls Tryz.prog 26 #[.pointer p, .int .i64 i, .int .i64 zone, .bool under] w (RetV w (.int .i64 n)) := by
  have HG := Lib.hid h
  have e0 : (n != 0) = true := bne_iff_ne.2 hn
  unfold RetGet oagg zeroO at HG
  dsimp only at HG
  clear h hn
  go_enter Tryz.func26, Tryz.ntmps26
  go_wp2_with fail
  refine HG.out.mono ?_
  rintro e w1 ⟨rfl, hb1⟩
  dsimp only
  go_wp2
  go_ret
  exact ⟨rfl, below_alloc2 hb1 _⟩
/-- What is to be moved into the Grave is there, or isn't: the teams stay. -/
theorem grave_any {w : World} {lo : Nat} {g : GhostB} {B : BoardL} (h : BoardAt w lo g B) (i : Int) : Calls Tryz.prog 26 #[.pointer (some ⟨g.b, 0, none⟩), .int .i64 i, .int .i64 5, .bool false] w
    (fun e w' => ∃ v B', B'.T = B.T ∧ RetBd w lo g B' (.int .i64 v) e w') := by
  by_cases hi : hasS B.S i
  · refine (move_bd h i hi 5 (by decide) (by decide)).mono ?_
    intro e w' hr
    exact ⟨0, ⟨moveI B.S i 5, B.T, B.D⟩, rfl, hr⟩
  · have hg := getI_any h i
    rw [show errI B.S i = 7 from if_neg hi, show objI B.S i = zeroO from if_neg hi] at hg
    refine (moveOut_any false (by decide) hg).mono ?_
    intro e w' hr
    exact ⟨7, B, rfl, RetBd.same h hr⟩
theorem own_of_turned {w w' A : World} {a a' : Nat → Prop} (ht : TurnedO w w' a a') (hA : Below A.heap.size A w) (hlo : ∀ k, a k → A.heap.size ≤ k) : Below A.heap.size A w' := ht.below hA hlo
set_option maxRecDepth 100000 in
set_option maxHeartbeats 16000000 in
theorem trigDone_walk (f0 f1 f2 f3 : Int) {w : World} {v u : Value} {l : List TriL} {ids : List Int} {n : Nat} (hv : TrisAt w v l) (hw : ∀ x ∈ l, Wf x.y ∧ Wf x.z) (hlen : l.length ≤ 9223372036854775807) (hn : n < 256) (hu : IntsAt w u ids) (hul : ids.length ≤ 9223372036854775807) :
    Calls Tryz.prog 5 #[v, .int .u8 n, .agg #[.int .i64 f0, .int .i64 f1, .int .i64 f2, .int .i64 f3, u]] w (RetV w (.bool true)) := by
  have HAW := Lib.hid (fun (w' : World) => awake13_any w')
  have HBO := Lib.hid (fun (w' : World) (hb : Below w.heap.size w w') => board13_any (hv.later hb) hw hlen n hn)
  have HNK := Lib.hid (fun (w' : World) => new_stk (w := w') (v := .slice none 0 0) (l := []) (.inl ⟨none, 0, rfl, rfl⟩) (by decide))
  have HU := Lib.hid hu
  obtain ⟨va, vc, rfl⟩ := hv.form
  obtain ⟨ua, uc, rfl⟩ := hu.form
  have hrow := heap_alloc_new w (.cells #[.int .i64 f0, .int .i64 f1, .int .i64 f2, .int .i64 f3, .slice ua ids.length uc] 41)
  have b0 := cell_of_row _ w.heap.size 0 _ _ _ hrow
  have b1 := cell_of_row _ w.heap.size 1 _ _ _ hrow
  have b4 := cell_of_row _ w.heap.size 4 _ _ _ hrow
  have hbn := below_new w (.cells #[.int .i64 f0, .int .i64 f1, .int .i64 f2, .int .i64 f3, .slice ua ids.length uc] 41)
  obtain ⟨W, hW⟩ : ∃ W, w.alloc (.cells #[.int .i64 f0, .int .i64 f1, .int .i64 f2, .int .i64 f3, .slice ua ids.length uc] 41) = W := ⟨_, rfl⟩
  rw [hW] at b0 b1 b4 hbn
  have b0 : W.cell? ⟨w.heap.size, 0, none⟩ = some (.int .i64 f0) := b0
  have b1 : W.cell? ⟨w.heap.size, 1, none⟩ = some (.int .i64 f1) := b1
  have b4 : W.cell? ⟨w.heap.size, 4, none⟩ = some (.slice ua ids.length uc) := b4
  have HBN := Lib.hid hbn
  have HUW := Lib.hid (hu.later hbn)
  have HW := Lib.hid hW
  clear hv hw hu hbn hW hrow
  go_enter Tryz.func5, Tryz.ntmps5
  go_upto_region 1 with fail
  rw [HW.out]
  obtain ⟨q0, hq0⟩ : ∃ q0, w.heap.size = q0 := ⟨_, rfl⟩
  rw [hq0] at b0 b1 b4 ⊢
  have HQ0 := Lib.hid hq0
  have HB0 := Lib.hid (show ∀ w' : World, Below W.heap.size W w' → w'.cell? ⟨q0, 0, none⟩ = some (.int .i64 f0) ∧ w'.cell? ⟨q0, 1, none⟩ = some (.int .i64 f1) ∧ w'.cell? ⟨q0, 4, none⟩ = some (.slice ua ids.length uc) from fun w' hb => ⟨cell_stays hb b0, cell_stays hb b1, cell_stays hb b4⟩)
  clear hq0 b0 b1 b4
  go_wp2_with fail
  refine (HAW.out _).mono ?_
  rintro e w1 ⟨rfl, hb1⟩
  have HB1 := Lib.hid hb1
  clear hb1 HAW
  dsimp only
  go_wp2_with fail
  refine (HBO.out _ (stepB HBN.out HB1.out)).mono ?_
  rintro e w2 (⟨hp, lo, g, rfl, hb, hlo, hb2⟩ | ⟨_, rfl, hb2⟩)
  case inr =>
    have HB2 := Lib.hid (stepB HBN.out (stepB HB1.out hb2))
    clear hb2
    dsimp only
    go_wp2
    go_ret
    exact ⟨rfl, HB2.out⟩
  have HB2 := Lib.hid (stepB HB1.out hb2)
  obtain ⟨_, _, k4⟩ := HB0.out w2 HB2.out
  by_cases h60 : 60 < ids.length
  · have d6 : decide ((60 : Int) < ids.length) = true := decide_eq_true (by omega)
    clear hb hp hlo hb2
    dsimp only
    go_wp2
    go_ret
    exact ⟨rfl, stepB HBN.out HB2.out⟩
  have d6 : decide ((60 : Int) < ids.length) = false := decide_eq_false (by omega)
  have d6' : decide (60 < ids.length) = false := decide_eq_false h60
  have HBD := Lib.hid hb
  have HLO := Lib.hid (show W.heap.size ≤ lo from Nat.le_trans HB1.out.size hlo)
  clear hb hlo hb2 HBO
  obtain ⟨q, sb, tb, s0, r0, G⟩ := g
  dsimp only
  go_wp2_with fail
  refine (HNK.out _).mono ?_
  rintro e w3 ⟨b, gk, rfl, hs, hb3⟩
  have HB3 := Lib.hid (stepB HB2.out hb3)
  have hf := fire_any (HBD.out.later hb3) hs (fun k h1 h2 => by have h3 := HBD.out.ownLt h1; have h4 := hs.ownLo h2; omega) (by decide) f0 f1 (HUW.out.later HB3.out) (by omega)
  have HLK := Lib.hid (show W.heap.size ≤ w2.heap.size from HB2.out.size)
  have HBD3 := Lib.hid (HBD.out.later hb3)
  have HAP := Lib.hid (show ∀ k, ownK b gk k → ¬(⟨q, sb, tb, s0, r0, G⟩ : GhostB).own k from fun k h2 h1 => by have h3 := HBD.out.ownLt h1; have h4 := hs.ownLo h2; omega)
  have HFR := Lib.hid (fire_rises (board13 l n) f0 f1 ids)
  have HFH := Lib.hid (fire_has (board13 l n) f0 f1 ids)
  rw [show List.take 8 ([] : List EntL) = [] from rfl] at hf hs
  have hfl := fireL_len (board13 l n) f1 (orderL (board13 l n) f0 ids) [] (by decide)
  unfold RetFire at hf
  obtain ⟨P, hP⟩ : ∃ P, fireL (board13 l n) f1 (orderL (board13 l n) f0 ids) [] = P := ⟨_, rfl⟩
  rw [hP] at hf HFR HFH hfl
  obtain ⟨pn, E⟩ := P
  dsimp only at hf HFR HFH hfl
  have hpn : pn = E.length := by have := hfl.2.2; simp at this; omega
  subst hpn
  have HF := Lib.hid hf
  have HE8 := Lib.hid hfl.2.1
  have HKL := Lib.hid (show ∀ k, ownK b gk k → W.heap.size ≤ k from fun k hk => Nat.le_trans HB2.out.size (hs.ownLo hk))
  obtain ⟨k0, k1, k4⟩ := HB0.out w3 HB3.out
  clear hs hb3 hf hP hfl
  dsimp only
  go_wp2_with fail
  refine HF.out.mono ?_
  rintro e w4 ⟨rfl, g4, hs4, ht4⟩
  have HB4 := Lib.hid (ht4.below HB3.out HKL.out)
  have HBD4 := Lib.hid (HBD3.out.farO ht4 HAP.out)
  have HAP4 := Lib.hid (apart_o ht4 HAP.out (fun q hq => HBD3.out.ownLt hq))
  have HS4 := Lib.hid hs4
  obtain ⟨k0, k1, k4⟩ := HB0.out w4 HB4.out
  clear hs4 ht4 HF
  dsimp only
  go_wp2
  obtain ⟨T0, hT0⟩ : ∃ T0, (board13 l n).T = T0 := ⟨_, rfl⟩
  have HT0 := Lib.hid hT0
  obtain ⟨lo2, hlo2⟩ : ∃ lo2, w2.heap.size = lo2 := ⟨_, rfl⟩
  rw [hlo2] at HS4 HLK
  clear hT0 hlo2
  go_loopw [44] (fun i44 wr => ∃ (k : Nat) (gx : GhostB) (Bx : BoardL), k ≤ ids.length ∧ i44 = .int .i64 k ∧ gx.q = q ∧ Hid (BoardAt wr lo gx Bx) ∧ Hid (Bx.T = T0) ∧ Hid (StackAt wr lo2 b g4 E) ∧ Hid (∀ k, gx.own k → ¬ownK b g4 k) ∧ Hid (Below W.heap.size W wr)) (fun i44 _ => ids.length - (intOf i44).toNat)
  case atStart => exact ⟨0, ⟨q, sb, tb, s0, r0, G⟩, board13 l n, Nat.zero_le _, rfl, rfl, HBD4, HT0, HS4, Lib.hid (fun q h1 h2 => HAP4.out q h2 h1), HB4⟩
  case round =>
    obtain ⟨k, gx, Bx, hk, rfl, hgq, HBX, HTX, HSX, HAX, HWX⟩ := hrel
    obtain ⟨gq, gb, gtb, gs, gr, gG⟩ := gx
    dsimp only at hgq
    subst hgq
    by_cases hlt : k < ids.length
    · obtain ⟨xb, xo, rfl, _, c5⟩ := (HUW.out.later HWX.out).at k hlt
      obtain ⟨x, hx⟩ : ∃ x, ids[k] = x := ⟨_, rfl⟩
      rw [hx] at c5
      obtain ⟨c0, c1, -⟩ := HBX.out.cells
      have HGR := Lib.hid (grave_any HBX.out x)
      dsimp only at c0 c1 HGR
      clear hx
      go_wp2_with fail
      refine HGR.out.mono ?_
      rintro e w5 ⟨rv, B', hBT, rfl, g', hb5, ht5, hq5⟩
      have HB5 := Lib.hid hb5
      have HQ5 := Lib.hid hq5
      have HT5 := Lib.hid (hBT.trans HTX.out)
      have HS5 := Lib.hid (HSX.out.farO ht5.o HAX.out)
      have HA5 := Lib.hid (apart_o ht5.o HAX.out (fun q hq => HSX.out.ownLt hq))
      have HW5 := Lib.hid (ht5.o.below HWX.out (fun q hq => Nat.le_trans HLO.out (HBX.out.ownLo hq)))
      clear hb5 ht5 hBT hq5 c5 c0 c1
      dsimp only
      go_wp2
      go_roundw
      case rel => exact ⟨k + 1, g', B', by omega, by go_num, HQ5.out, HB5, HT5, HS5, HA5, HW5⟩
      case measure => simp [intOf]; omega
    · go_wp2
      go_loopw [13, 12] (fun i13 i12 wr => ∃ (k : Nat) (lv : Int) (gx : GhostB) (Bx : BoardL) (gk : Option Nat), k ≤ E.length ∧ i13 = .int .i64 k ∧ i12 = .int .i64 lv ∧ gx.q = gq ∧ Hid (BoardAt wr lo gx Bx) ∧ Hid (KeepT T0 Bx.T) ∧ Hid (StackAt wr lo2 b gk (E.take k)) ∧ Hid (∀ k, gx.own k → ¬ownK b gk k) ∧ Hid (Below W.heap.size W wr) ∧ Hid (lv = -1 ∨ 0 ≤ lv ∧ ∀ y ∈ E.take k, aheadT T0 f0 y.seat ≤ lv)) (fun i13 _ _ => (intOf i13).toNat)
      case atStart => exact ⟨E.length, -1, ⟨gq, gb, gtb, gs, gr, gG⟩, Bx, g4, Nat.le_refl _, rfl, rfl, rfl, HBX, Lib.hid (by rw [HTX.out]; exact KeepT.refl _), Lib.hid (by rw [List.take_length]; exact HSX.out), HAX, HWX, Lib.hid (.inl rfl)⟩
      case round =>
        obtain ⟨k2, lv, gx, By, gk2, hk2, rfl, rfl, hgq, HBY, HTY, HSY, HAY, HWY, HLV⟩ := hrel
        obtain ⟨gq2, gb2, gtb2, gs2, gr2, gG2⟩ := gx
        dsimp only at hgq
        subst hgq
        by_cases hpos : 0 < k2
        · obtain ⟨j, rfl⟩ : ∃ j, k2 = j + 1 := ⟨k2 - 1, by omega⟩
          have htk := take_last E j (by omega)
          have hmem : E[j]'(by omega) ∈ E := List.getElem_mem _
          obtain ⟨x, hx⟩ : ∃ x, E[j]'(by omega) = x := ⟨_, rfl⟩
          have hlast : ∀ y ∈ E.take j, aheadT T0 f0 y.seat ≤ aheadT T0 f0 x.seat := by
            intro y hy
            obtain ⟨m, hm, rfl⟩ := List.mem_take_iff_getElem.1 hy
            have h1 := List.pairwise_iff_getElem.1 HFR.out m j (by omega) (by omega) (by omega)
            rw [show (board13 l n).T = T0 from HT0.out, hx] at h1
            exact h1
          rw [hx] at htk hmem
          have hown : ∃ i, hasS (board13 l n).S i ∧ x = entT (board13 l n) i := HFH.out x hmem
          have hsy := HSY.out
          rw [htk] at hsy
          have hlx : lv = -1 ∨ 0 ≤ lv ∧ aheadT T0 f0 x.seat ≤ lv := by
            rcases HLV.out with h | ⟨h, h2⟩
            · exact .inl h
            · exact .inr ⟨h, h2 x (by rw [htk]; simp)⟩
          have hHL : (E.take j).length = j := by rw [List.length_take]; omega
          have HRS := Lib.hid (resolve_ok x HBY.out hsy HAY.out (by have := HE8.out; omega))
          unfold RetRes at HRS
          have hseat : 0 ≤ x.seat ∧ x.seat < 4 := by
            obtain ⟨i, hi, rfl⟩ := hown
            obtain ⟨kk, hkk, rfl⟩ := has13 (made13_fold l hp.2) hi
            have h1 := (obj13 (made13_fold l hp.2) kk hkk).1
            have h2 := okTri_at hp.2 kk hkk
            show 0 ≤ (objOf (made13 l) ((kk : Int) + 1)).owner ∧ (objOf (made13 l) ((kk : Int) + 1)).owner < 4
            rw [h1]
            omega
          have hofr : 0 ≤ ofT T0 x.seat ∧ ofT T0 x.seat < T0.sh.length := by
            rw [← HT0.out]
            exact sides_in n hseat.1 hseat.2
          have HLX := Lib.hid (And.intro hlast hlx)
          clear hsy hx htk hmem hown hlast hlx hseat
          obtain ⟨x0, x1, x2, x3⟩ := x
          dsimp only at hofr HLX
          unfold entV at HRS
          dsimp only at HRS
          have dk : decide ((0 : Int) < ((j + 1 : Nat) : Int)) = true := decide_eq_true (by omega)
          obtain ⟨wE, hwE⟩ : ∃ wE, workE By ⟨x0, x1, x2, x3⟩ = wE := ⟨_, rfl⟩
          have hkeep := keepT_entry By ⟨x0, x1, x2, x3⟩
          rw [hwE] at HRS hkeep
          have HKP := Lib.hid (HTY.out.trans hkeep)
          obtain ⟨BZ, nz⟩ := wE
          dsimp only at HRS HKP
          clear hwE hkeep
          go_wp2_with fail
          refine HRS.out.mono ?_
          rintro e w6 ⟨rfl, g6, gk6, hb6, hq6, hs6, ha6, ht6⟩
          have hw6 := ht6.below HWY.out (fun q hq => hq.elim (fun h => Nat.le_trans HLO.out (HBY.out.ownLo h)) (fun h => Nat.le_trans HLK.out (HSY.out.ownLo h)))
          have hbn := below_new w6 (.cells #[.int .i64 x0, .int .i64 x1, .int .i64 x2, .bool x3] 49)
          have e0 : (w6.alloc (.cells #[.int .i64 x0, .int .i64 x1, .int .i64 x2, .bool x3] 49)).cell? ⟨w6.heap.size, 0, none⟩ = some (.int .i64 x0) := cell_of_row _ w6.heap.size 0 _ _ _ (heap_alloc_new w6 _)
          have hb7 := hb6.later hbn
          have hs7 := hs6.later hbn
          have hw7 := stepB hw6 hbn
          clear ht6 hb6 hs6 hw6 hbn HRS
          dsimp only
          go_upto_region 18 with fail
          obtain ⟨w7, hW7⟩ : ∃ w7, w6.alloc (.cells #[.int .i64 x0, .int .i64 x1, .int .i64 x2, .bool x3] 49) = w7 := ⟨_, rfl⟩
          obtain ⟨q7, hq7⟩ : ∃ q7, w6.heap.size = q7 := ⟨_, rfl⟩
          rw [hW7] at e0 hb7 hs7 hw7 ⊢
          rw [hq7] at e0 ⊢
          have HB7 := Lib.hid hb7
          have HS7 := Lib.hid hs7
          have HW7 := Lib.hid hw7
          have HA7 := Lib.hid ha6
          obtain ⟨gq6, gb6, gtb6, gs6, gr6, gG6⟩ := g6
          dsimp only at hq6
          subst hq6
          have HLS := Lib.hid (len_stk hs7)
          rw [hHL] at HLS
          obtain ⟨m0, _, _⟩ := HB0.out w7 hw7
          obtain ⟨_, c1, -⟩ := hb7.cells
          dsimp only at c1
          have HOF := Lib.hid (fun (nd : Nat) => tof_any (w := w7.drewN nd) (HB7.out.tm.later (below_drewN (Below.refl _ _) nd)) x0)
          have HLN := Lib.hid (fun (nd : Nat) => tlen_any (w := w7.drewN nd) (HB7.out.tm.later (below_drewN (Below.refl _ _) nd)))
          rw [HKP.out.of x0] at HOF
          rw [HKP.out.2] at HLN
          dsimp only at HOF HLN
          clear hW7 hq7 hb7 hs7 hw7 ha6
          go_wp2_with fail
          refine HLS.out.mono ?_
          rintro e w8 ⟨rfl, rfl⟩
          dsimp only
          have hj8 : j < 8 := by have := HE8.out; omega
          have hw1 : IntKind.i64.wrap ((j : Int) + 1 - 1) = (j : Int) := by rw [IntKind.wrap_i64]; omega
          have hj1 : (j : Int) + 1 - 1 = (j : Int) := by omega
          have hz1 : ((j : Int) != (j : Int)) = false := bne_self_eq_false _
          obtain ⟨uu, huu⟩ : ∃ uu, ofT T0 x0 = uu := ⟨_, rfl⟩
          obtain ⟨nn, hnn⟩ : ∃ nn, T0.sh.length = nn := ⟨_, rfl⟩
          have hah : aheadT T0 f0 x0 = (uu + nn - max f0 0 % nn) % nn := by unfold aheadT; rw [huu, hnn, if_neg (by omega)]
          rw [huu] at HOF hofr
          rw [hnn] at HLN hofr
          have HAH := Lib.hid hah
          have HUU := Lib.hid (And.intro huu hnn)
          have hn4 : nn ≤ 4 := by rw [← hnn, ← HKP.out.2]; exact HB7.out.tm.n2
          obtain ⟨ku, rfl⟩ : ∃ ku : Nat, uu = ku := ⟨uu.toNat, by omega⟩
          have hku : ku < nn := by omega
          clear hah huu hnn hofr
          go_upto_region 20 with fail
          go_quiet ((first
            | (go_at_call 10; exact Calls.quiet_of_same ((HOF.out _).mono fun _ _ ⟨he, hw⟩ => ⟨he, hw⟩))
            | (go_at_call 9; exact Calls.quiet_of_same ((HLN.out _).mono fun _ _ ⟨he, hw⟩ => ⟨he, hw⟩))))
          obtain ⟨fv, hfv⟩ : ∃ fv, aheadT T0 f0 x0 = fv := ⟨_, rfl⟩
          have hX : (wrap64 (wrap64 ((ku : Int) - max f0 0 % (nn : Int)) + (nn : Int))).tmod (nn : Int) = fv ∧ 0 ≤ fv := by
            have h0 : 0 ≤ max f0 0 % (nn : Int) := Int.emod_nonneg _ (by omega)
            have h1 : max f0 0 % (nn : Int) < nn := Int.emod_lt_of_pos _ (by omega)
            have h2 := HAH.out
            rw [hfv] at h2
            rw [h2]
            generalize max f0 0 % (nn : Int) = m at h0 h1
            rw [show wrap64 ((ku : Int) - m) = (ku : Int) - m by unfold wrap64; omega, show wrap64 ((ku : Int) - m + nn) = (ku : Int) + nn - m by unfold wrap64; omega]
            exact ⟨Int.tmod_eq_emod_of_nonneg (by omega), Int.emod_nonneg _ (by omega)⟩
          rw [hX.1]
          have hf0 := hX.2
          have HLN2 := Lib.hid (show lv = -1 ∨ 0 ≤ lv ∧ fv ≤ lv from by rw [← hfv]; exact HLX.out.2)
          have HNX := Lib.hid (show fv = -1 ∨ 0 ≤ fv ∧ ∀ y ∈ E.take j, aheadT T0 f0 y.seat ≤ fv from .inr ⟨hf0, by rw [← hfv]; exact HLX.out.1⟩)
          have HW8 := Lib.hid (below_drewN HW7.out nq)
          have HB8 := Lib.hid (HB7.out.later (below_drewN (Below.refl _ _) nq))
          have HS8 := Lib.hid (HS7.out.later (below_drewN (Below.refl _ _) nq))
          obtain ⟨w9, hw9⟩ : ∃ w9, w8.drewN nq = w9 := ⟨_, rfl⟩
          rw [hw9] at HW8 HB8 HS8 ⊢
          clear hX hfv hw9 e0 m0 c1 hf0
          rcases HLN2.out with hl | ⟨hl0, hl1⟩
          · have d1 : decide ((0 : Int) ≤ lv) = false := decide_eq_false (by omega)
            clear hl
            go_wp2
            go_roundw
            case rel => exact ⟨j, fv, ⟨gq6, gb6, gtb6, gs6, gr6, gG6⟩, BZ, gk6, by omega, by go_num, by go_num, rfl, HB8, HKP, HS8, HA7, HW8, HNX⟩
            case measure => simp [intOf]
          · have d1 : decide ((0 : Int) ≤ lv) = true := decide_eq_true hl0
            have d2 : decide (lv < fv) = false := decide_eq_false (by omega)
            clear hl0 hl1
            go_wp2
            go_roundw
            case rel => exact ⟨j, fv, ⟨gq6, gb6, gtb6, gs6, gr6, gG6⟩, BZ, gk6, by omega, by go_num, by go_num, rfl, HB8, HKP, HS8, HA7, HW8, HNX⟩
            case measure => simp [intOf]
        · obtain rfl : k2 = 0 := by omega
          have hs0' := HSY.out
          rw [List.take_zero] at hs0'
          have HLS := Lib.hid (len_stk hs0')
          have HR := Lib.hid (stepB HBN.out HWY.out)
          clear hs0'
          go_wp2_with fail
          refine HLS.out.mono ?_
          rintro e w8 ⟨rfl, hw8⟩
          subst hw8
          dsimp only
          go_wp2
          go_ret
          exact ⟨rfl, HR.out⟩
end Go.Proofs.YtookicopjphmnaaGreat
