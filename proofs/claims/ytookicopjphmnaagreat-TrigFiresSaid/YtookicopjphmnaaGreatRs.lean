/- TrigFires: the walk (layer 13). -/
import Derived.Test.YtookicopjphmnaaGreatRl
import Derived.Test.YtookicopjphmnaaGreatRw
import Derived.Test.YtookicopjphmnaaGreatRx
import Derived.Test.YtookicopjphmnaaGreatEa
import Derived.Deep.Cut
import Derived.Deep.DeepCutAuto
namespace Go.Proofs.YtookicopjphmnaaGreat
open Go.RowKit Go.Maps
attribute [local go_sem] Oper.semAt_some

def e1000 (k : Nat) : List EntL := (List.range k).map fun (i : Nat) => ⟨0, 1000 + (i : Int), 0, false⟩
theorem e1000_succ (k : Nat) : e1000 (k + 1) = e1000 k ++ [⟨0, 1000 + (k : Int), 0, false⟩] := by simp [e1000, List.range_succ]
theorem e1000_len (k : Nat) : (e1000 k).length = k := by simp [e1000]
theorem same_self {w : World} {lo b lo' b' : Nat} {g g' : Option Nat} {L : List EntL} (h : StackAt w lo b g L) (h' : StackAt w lo' b' g' L) (hL : L.length ≤ 1000) : Calls Tryz.prog 24 #[.pointer (some ⟨b, 0, none⟩), .pointer (some ⟨b', 0, none⟩)] w (RetV w (.bool true)) := by
  have h1 := same_stk h h' hL
  rw [decide_eq_true (rfl : L = L)] at h1
  exact h1.mono fun e w' h2 => ⟨h2.1, by obtain ⟨_, n, rfl⟩ := h2; exact below_drewN (Below.refl _ _) n⟩
theorem would_zero (S : StoreL) (when : Int) : wouldT S 0 when = false := by
  unfold wouldT
  rw [decide_eq_false (fun h => by have h1 := h.1; omega)]
  rfl
set_option maxRecDepth 100000 in
set_option maxHeartbeats 16000000 in
theorem trigFires_walk (f0 f1 f2 f3 : Int) {w : World} {v u : Value} {l : List TriL} {ids : List Int} {n : Nat} (hv : TrisAt w v l) (hw : ∀ x ∈ l, Wf x.y ∧ Wf x.z) (hlen : l.length ≤ 9223372036854775807) (hn : n < 256) (hu : IntsAt w u ids) (hul : ids.length ≤ 9223372036854775807) :
    Calls Tryz.prog 4 #[v, .int .u8 n, .agg #[.int .i64 f0, .int .i64 f1, .int .i64 f2, .int .i64 f3, u]] w (RetV w (.bool true)) := by
  have HAW := Lib.hid (fun (w' : World) => awake13_any w')
  have HBO := Lib.hid (fun (w' : World) (hb : Below w.heap.size w w') => board13_any (hv.later hb) hw hlen n hn)
  have HNK := Lib.hid (fun (w' : World) => new_stk (w := w') (v := .slice none 0 0) (l := []) (.inl ⟨none, 0, rfl, rfl⟩) (by decide))
  obtain ⟨va, vc, rfl⟩ := hv.form
  obtain ⟨ua, uc, rfl⟩ := hu.form
  have hrow := heap_alloc_new w (.cells #[.int .i64 f0, .int .i64 f1, .int .i64 f2, .int .i64 f3, .slice ua ids.length uc] 41)
  have b0 := cell_of_row _ w.heap.size 0 _ _ _ hrow
  have b1 := cell_of_row _ w.heap.size 1 _ _ _ hrow
  have b2 := cell_of_row _ w.heap.size 2 _ _ _ hrow
  have b3 := cell_of_row _ w.heap.size 3 _ _ _ hrow
  have b4 := cell_of_row _ w.heap.size 4 _ _ _ hrow
  have hbn := below_new w (.cells #[.int .i64 f0, .int .i64 f1, .int .i64 f2, .int .i64 f3, .slice ua ids.length uc] 41)
  obtain ⟨W, hW⟩ : ∃ W, w.alloc (.cells #[.int .i64 f0, .int .i64 f1, .int .i64 f2, .int .i64 f3, .slice ua ids.length uc] 41) = W := ⟨_, rfl⟩
  rw [hW] at b0 b1 b2 b3 b4 hbn
  have b0 : W.cell? ⟨w.heap.size, 0, none⟩ = some (.int .i64 f0) := b0
  have b1 : W.cell? ⟨w.heap.size, 1, none⟩ = some (.int .i64 f1) := b1
  have b2 : W.cell? ⟨w.heap.size, 2, none⟩ = some (.int .i64 f2) := b2
  have b3 : W.cell? ⟨w.heap.size, 3, none⟩ = some (.int .i64 f3) := b3
  have b4 : W.cell? ⟨w.heap.size, 4, none⟩ = some (.slice ua ids.length uc) := b4
  have HBN := Lib.hid hbn
  have HUW := Lib.hid (hu.later hbn)
  have HVW := Lib.hid (hv.later hbn)
  have HW := Lib.hid hW
  clear hv hw hu hbn hW hrow
  go_enter Tryz.func4, Tryz.ntmps4
  go_upto_region 1 with fail
  rw [HW.out]
  obtain ⟨q0, hq0⟩ : ∃ q0, w.heap.size = q0 := ⟨_, rfl⟩
  rw [hq0] at b0 b1 b2 b3 b4 ⊢
  have HQ0 := Lib.hid hq0
  have HB0 := Lib.hid (show ∀ w' : World, Below W.heap.size W w' → w'.cell? ⟨q0, 0, none⟩ = some (.int .i64 f0) ∧ w'.cell? ⟨q0, 1, none⟩ = some (.int .i64 f1) ∧ w'.cell? ⟨q0, 2, none⟩ = some (.int .i64 f2) ∧ w'.cell? ⟨q0, 3, none⟩ = some (.int .i64 f3) ∧ w'.cell? ⟨q0, 4, none⟩ = some (.slice ua ids.length uc) from fun w' hb => ⟨cell_stays hb b0, cell_stays hb b1, cell_stays hb b2, cell_stays hb b3, cell_stays hb b4⟩)
  clear hq0 b0 b1 b2 b3 b4
  go_wp2_with fail
  refine (HAW.out _).mono ?_
  rintro e w1 ⟨rfl, hb1⟩
  have HB1 := Lib.hid hb1
  clear hb1 HAW
  dsimp only
  go_wp2_with fail
  refine (HBO.out _ (stepB HBN.out HB1.out)).mono ?_
  rintro e w2 (⟨hp, lo, g, rfl, hb, hlo, hb2⟩ | ⟨_, rfl, hb2⟩)
  case inr =>
    have HB2 := Lib.hid (stepB HBN.out (stepB HB1.out hb2))
    clear hb2
    dsimp only
    go_wp2
    go_ret
    exact ⟨rfl, HB2.out⟩
  have HB2 := Lib.hid (stepB HB1.out hb2)
  obtain ⟨_, _, k2, _, k4⟩ := HB0.out w2 HB2.out
  by_cases h60 : 60 < ids.length
  · have d6 : decide ((60 : Int) < ids.length) = true := decide_eq_true (by omega)
    clear hb hp hlo hb2
    dsimp only
    go_wp2
    go_ret
    exact ⟨rfl, stepB HBN.out HB2.out⟩
  have d6 : decide ((60 : Int) < ids.length) = false := decide_eq_false (by omega)
  have d6' : decide (60 < ids.length) = false := decide_eq_false h60
  have HP := Lib.hid hp
  have HLO := Lib.hid (show W.heap.size ≤ lo from Nat.le_trans HB1.out.size hlo)
  have HLS := Lib.hid (lose_bd (hb.later ((Below.refl w2.heap.size w2).drew)) f2)
  have HLOW := Lib.hid (show ∀ k, g.own k → W.heap.size ≤ k from fun k hk => Nat.le_trans HLO.out (hb.ownLo hk))
  obtain ⟨_, c1, -⟩ := hb.cells
  have HB2d := Lib.hid (HB2.out.trans (((Below.refl w2.heap.size w2).drew).mono HB2.out.size))
  clear hb hlo hb2 HBO hp
  obtain ⟨q, sb, tb, s0, r0, G⟩ := g
  dsimp only at c1 HLS
  dsimp only
  go_upto_region 6 with fail
  go_still_tail 6, (by kernel_rfl)
  change wpList _ _ _ _ _ (World.drew _)
  go_wp2_with fail
  refine HLS.out.mono ?_
  rintro e w3 ⟨rfl, g3, hb3, ht3, hq3⟩
  have HB3 := Lib.hid (ht3.o.below HB2d.out HLOW.out)
  obtain ⟨q', sb3, tb3, s3, r3, G3⟩ := g3
  dsimp only at hq3
  subst hq3
  have HBD := Lib.hid (show BoardAt w3 lo ⟨q', sb3, tb3, s3, r3, G3⟩ (boardF l n f2) from hb3)
  have HCP := Lib.hid (bcopy_any HBD.out)
  clear hb3 ht3 c1 k2 k4 HLS HLOW HB2d
  dsimp only at HCP
  dsimp only
  go_wp2_with fail
  refine HCP.out.mono ?_
  rintro e w4 ⟨gc, rfl, hbc, hb4⟩
  have HBC := Lib.hid hbc
  have HB4 := Lib.hid hb4
  clear hbc hb4 HCP
  dsimp only
  go_wp2_with fail
  refine (HNK.out _).mono ?_
  rintro e w5 ⟨b1, gk1, rfl, hs5, hb5⟩
  rw [show List.take 8 ([] : List EntL) = [] from rfl] at hs5
  have HS5 := Lib.hid hs5
  have HB5 := Lib.hid hb5
  obtain ⟨m7, hm7, hand⟩ := and7 f3
  have HBW4 := Lib.hid (stepB HB3.out HB4.out)
  clear hs5 hb5
  dsimp only
  go_wp2
  go_loopw [10] (fun i wr => ∃ (k : Nat) (g : Option Nat), k ≤ m7 ∧ i = .int .i64 k ∧ Hid (StackAt wr w4.heap.size b1 g (e1000 k)) ∧ Hid (Below w4.heap.size w4 wr)) (fun i _ => m7 - (intOf i).toNat)
  case atStart => exact ⟨0, gk1, Nat.zero_le _, rfl, HS5, HB5⟩
  case round =>
    obtain ⟨k3, g3, hk3, rfl, HS11, HB11⟩ := hrel
    obtain ⟨_, _, _, k3c, _⟩ := HB0.out wr (stepB HBW4.out HB11.out)
    by_cases hlt3 : k3 < m7
    · have hpu := push_ok ⟨0, 1000 + (k3 : Int), 0, false⟩ HS11.out (by rw [e1000_len]; omega)
      unfold entV RetStk at hpu
      dsimp only at hpu
      have HPU := Lib.hid hpu
      clear hpu
      go_wp2_with fail
      refine HPU.out.mono ?_
      rintro e w11 ⟨g4, rfl, hs11, hc11, hn11⟩
      have HB12 := Lib.hid ((chg_o hc11 hn11).below HB11.out (fun k hk => HS11.out.ownLo hk))
      have HS12 := Lib.hid (show StackAt w11 w4.heap.size b1 g4 (e1000 (k3 + 1)) from by rw [e1000_succ]; exact hs11)
      clear hs11 hc11 hn11 k3c
      dsimp only
      go_wp2
      go_roundw
      case rel => exact ⟨k3 + 1, g4, by omega, by go_num, HS12, HB12⟩
      case measure => simp [intOf]; omega
    · obtain rfl : k3 = m7 := by omega
      have HCK := Lib.hid (copy_stk HS11.out (by rw [e1000_len]; omega))
      go_wp2_with fail
      refine HCK.out.mono ?_
      rintro e w7 ⟨b2, gk2, rfl, hs7, hb7⟩
      have HS7 := Lib.hid hs7
      have HB7 := Lib.hid hb7
      have HB67 := Lib.hid (stepB HBW4.out HB11.out)
      obtain ⟨k0c, _, _, _, k4c⟩ := HB0.out w7 (stepB HB67.out hb7)
      have HOR := Lib.hid (order_any ((HBD.out.later (stepB HB4.out HB11.out)).later hb7) f0 (HUW.out.later (stepB HB67.out hb7)) (by omega))
      clear hs7 hb7 k3c HCK
      dsimp only
      go_wp2_with fail
      refine HOR.out.mono ?_
      rintro e w8 ⟨uo, rfl, ho8, hb8⟩
      obtain ⟨oa, oc, rfl⟩ := (own_ints ho8).form
      have HTL := Lib.hid (orderL_len (boardF l n f2) f0 ids)
      have HMEM := Lib.hid (show ∀ x ∈ orderL (boardF l n f2) f0 ids, hasS (made13 l) x from fun x hx => ((order_mem (boardF l n f2) f0 ids x).1 hx).2)
      have HLL := Lib.hid (fun k => fireL_len (boardF l n f2) f1 ((orderL (boardF l n f2) f0 ids).take k) (e1000 k3) (by rw [e1000_len]; omega))
      obtain ⟨A, hA⟩ : ∃ A, wr = A := ⟨_, rfl⟩
      obtain ⟨BF, hBF⟩ : ∃ BF, boardF l n f2 = BF := ⟨_, rfl⟩
      obtain ⟨O, hO⟩ : ∃ O, orderL BF f0 ids = O := ⟨_, rfl⟩
      rw [hBF] at HTL HMEM HLL HBD HBC ho8
      rw [hO] at ho8 HTL HMEM HLL
      rw [hA] at HS11 HB11 HB7 HB67 HS7
      rw [hBF, hO]
      have HBFF := Lib.hid hBF
      have HOO := Lib.hid hO
      have HO8 := Lib.hid ho8
      have HB8 := Lib.hid hb8
      clear ho8 hb8 hO hBF hA k0c k4c
      dsimp only
      go_wp2
      have HNK2 := Lib.hid (show ∀ k, (Value.slice oa O.length oc).ownBlock = some k → ¬ownK b2 gk2 k from fun k hk ho => by
        have h1 := HS7.out.ownLt ho
        have h2 := (World.ownsRow.lt HO8.out k hk).1
        omega)
      go_loopw [66, 12] (fun i i12 wr => ∃ (k : Nat) (g' : Option Nat), k ≤ O.length ∧ i = .int .i64 k ∧ i12 = .int .i64 ((fireL BF f1 (O.take k) (e1000 k3)).1 : Nat) ∧ Hid (StackAt wr A.heap.size b2 g' (fireL BF f1 (O.take k) (e1000 k3)).2) ∧ Hid (TurnedO w8 wr (ownK b2 gk2) (ownK b2 g'))) (fun i _ _ => O.length - (intOf i).toNat)
      case atStart => exact ⟨0, gk2, Nat.zero_le _, rfl, rfl, Lib.hid (HS7.out.later HB8.out), Lib.hid (TurnedO.of_below (Below.refl _ _))⟩
      case round =>
        obtain ⟨k, g', hk, rfl, rfl, HSR, HTR⟩ := hrel
        obtain ⟨V, hV⟩ : ∃ V, wr = V := ⟨_, rfl⟩
        rw [hV] at HSR HTR ⊢
        have HBA := Lib.hid (HTR.out.below (stepB HB7.out HB8.out) (fun k hk => HS7.out.ownLo hk))
        have HBV := Lib.hid (stepB HB67.out HBA.out)
        by_cases hlt : k < O.length
        · have hi := own_ints (own_keepS HO8.out (fun q hq => HTR.out.block q (World.ownsRow.lt HO8.out q hq).2 (HNK2.out q hq)))
          obtain ⟨ub, uo, rfl, _, c0⟩ := hi.at k hlt
          have htk := take_last O k hlt
          have hmem := HMEM.out O[k] (List.getElem_mem _)
          obtain ⟨x, hx⟩ : ∃ x, O[k] = x := ⟨_, rfl⟩
          rw [hx] at c0 htk hmem
          obtain ⟨kk, hkk, rfl⟩ := has13 (made13_fold l HP.out.2) hmem
          obtain ⟨t0, t6, t1, t4, _⟩ := okTri_at HP.out.2 kk hkk
          have hE := entF HP.out.2 n f2 kk hkk
          have hWd := wouldF HP.out.2 kk hkk f1
          obtain ⟨ja, jo, rfl, _, ya1, _⟩ := (HVW.out.later HB67.out).at kk hkk
          have HYA0 := Lib.hid (show ∀ w', Below A.heap.size A w' → w'.cell? ⟨ja, jo + kk * 3 + 1, none⟩ = some (.int .i64 l[kk].y) from fun w' hb => cell_stays hb ya1)
          obtain ⟨ja', jo', hja, y0, y1, _⟩ := (HVW.out.later HBV.out).at kk hkk
          injection (Option.some.inj hja) with hj1 hj2 _
          subst hj1 hj2
          have HTA := Lib.hid (show ∀ w', Below V.heap.size V w' → w'.cell? ⟨ja, jo + kk * 3 + 1, none⟩ = some (.int .i64 l[kk].y) from fun w' hb => cell_stays hb y1)
          obtain ⟨⟨X, Y, Z⟩, ht⟩ : ∃ t, l[kk] = t := ⟨_, rfl⟩
          have HYA := HYA0
          rw [ht] at t0 t6 t1 t4 hE hWd y0 HTA HYA
          dsimp only at t0 t6 t1 t4 hE hWd y0 HTA HYA
          clear HYA0 ya1
          obtain ⟨xi, rfl⟩ : ∃ xi : Nat, X = xi := ⟨X.toNat, by omega⟩
          have hxi : xi < 6 := by omega
          obtain ⟨C, hC⟩ : ∃ C, T13.getD (xi : Int).toNat zeroC = C := ⟨_, rfl⟩
          rw [hC] at hE hWd
          have hCx : T13[xi]'hxi = C := by rw [← hC, Int.toNat_natCast, List.getD_eq_getElem?_getD, List.getElem?_eq_getElem hxi]; rfl
          have HCL := Lib.hid (show C.terms.length ≤ 5 from by
            rw [← hCx]
            exact (show ∀ c ∈ T13, c.terms.length ≤ 5 by decide) _ (List.getElem_mem _))
          have HTAB := Lib.hid (show ∀ w', Below V.heap.size V w' → Calls Tryz.prog 19 #[] w' (fun e w2 => ∃ tb, e = .returned (.slice (some ⟨tb, 0, none⟩) 6 6) ∧ w'.heap.size ≤ tb ∧ CardT w2 w'.heap.size tb (xi * 7) C ∧ Below w'.heap.size w' w2) from fun w' _ => (table13_at w').mono fun e w2 ⟨tb, h1, h2, h3, h4⟩ => ⟨tb, h1, h2, hCx ▸ h3 xi hxi, h4⟩)
          have HE := Lib.hid hE
          have HWD := Lib.hid hWd
          have HBR := Lib.hid ((HBD.out.later (stepB HB4.out HB11.out)).later HBA.out)
          have HST := Lib.hid (show fireL BF f1 (O.take (k + 1)) (e1000 k3) = stepFire BF f1 (fireL BF f1 (O.take k) (e1000 k3)) ((kk : Int) + 1) from by rw [htk, fireL_snoc])
          have hll := HLL.out k
          rw [List.length_take, Nat.min_eq_left (by omega)] at hll
          obtain ⟨p, hp⟩ : ∃ p, fireL BF f1 (O.take k) (e1000 k3) = p := ⟨_, rfl⟩
          rw [hp] at HSR HST hll ⊢
          obtain ⟨nn, M⟩ := p
          dsimp only at HSR hll ⊢
          obtain ⟨hn1, hM8, _⟩ := hll
          have yz : (V.alloc (.cells #[.int .i64 0, .int .i64 0, .int .i64 0, .int .i64 0, .int .i64 0, .int .i64 0, .slice none 0 0] 53)).cell? ⟨ja, jo + kk * 3, none⟩ = some (.int .i64 (xi : Int)) := cell_stays (below_new V _) y0
          have HY0 := Lib.hid y0
          clear hi hx hp htk hV hmem hE hWd hC hCx y1 ht
          go_upto_region 18 with fail
          clear c0
          have hs1 : IntKind.i64.wrap ((kk : Int) + 1 - 1) = (kk : Int) := by rw [IntKind.wrap_i64]; have := HP.out.1; omega
          have hk40 : kk < 40 := by have := HP.out.1; omega
          have hs2 : IntKind.i64.wrap (kk : Int) = (kk : Int) := by rw [IntKind.wrap_i64]; omega
          have hkz : (0 : Int) ≤ (kk : Int) := by omega
          have hkl : (kk : Int) < (l.length : Int) := by omega
          have hxz : (0 : Int) ≤ (xi : Int) := by omega
          have hx6 : (xi : Int) < 6 := by omega
          go_cut [15] from 70 to 78 (fun s15 wx => ∃ (q15 : Nat) (ya : Option Addr) (yc : Nat), s15 = .pointer (some ⟨q15, 0, none⟩) ∧ Hid (wx.heap[q15]? = some (.cells #[.int .i64 C.kind, .int .i64 C.cost, .int .i64 C.power, .int .i64 C.tough, .int .i64 C.keys, .int .i64 C.whn, .slice ya C.terms.length yc] 53 (0, 0))) ∧ Hid (Crd.TermsIs wx (.slice ya C.terms.length yc) C.terms) ∧ Hid (Below V.heap.size V wx))
          (go_region_with ((go_at_call 19; first
              | (refine (HTAB.out _ (Below.refl _ _).drew).mono ?_
                 rintro e w9 ⟨tb9, rfl, htb9, ⟨ya, yc, x0, x1, x2, x3, x4, x5, x6, xt, xlo⟩, hb9⟩
                 have HB9 := Lib.hid (stepB (Below.refl V.heap.size V).drew hb9)
                 have HXT := Lib.hid xt
                 have HXL := Lib.hid (show ∀ p, ya = some p → V.heap.size ≤ p.block from xlo)
                 have y9 : w9.cell? ⟨ja, jo + kk * 3, none⟩ = some (.int .i64 (xi : Int)) := cell_stays HB9.out HY0.out
                 have yz9 : (w9.alloc (.cells #[.int .i64 0, .int .i64 0, .int .i64 0, .int .i64 0, .int .i64 0, .int .i64 0, .slice none 0 0] 53)).cell? ⟨ja, jo + kk * 3, none⟩ = some (.int .i64 (xi : Int)) := cell_stays (below_new w9 _) y9
                 have z0 : (w9.alloc (.cells #[.int .i64 0, .int .i64 0, .int .i64 0, .int .i64 0, .int .i64 0, .int .i64 0, .slice none 0 0] 53)).cell? ⟨tb9, xi * 7, none⟩ = some (.int .i64 C.kind) := cell_stays (below_new w9 _) x0
                 have z1 : (w9.alloc (.cells #[.int .i64 0, .int .i64 0, .int .i64 0, .int .i64 0, .int .i64 0, .int .i64 0, .slice none 0 0] 53)).cell? ⟨tb9, xi * 7 + 1, none⟩ = some (.int .i64 C.cost) := cell_stays (below_new w9 _) x1
                 have z2 : (w9.alloc (.cells #[.int .i64 0, .int .i64 0, .int .i64 0, .int .i64 0, .int .i64 0, .int .i64 0, .slice none 0 0] 53)).cell? ⟨tb9, xi * 7 + 2, none⟩ = some (.int .i64 C.power) := cell_stays (below_new w9 _) x2
                 have z3 : (w9.alloc (.cells #[.int .i64 0, .int .i64 0, .int .i64 0, .int .i64 0, .int .i64 0, .int .i64 0, .slice none 0 0] 53)).cell? ⟨tb9, xi * 7 + 3, none⟩ = some (.int .i64 C.tough) := cell_stays (below_new w9 _) x3
                 have z4 : (w9.alloc (.cells #[.int .i64 0, .int .i64 0, .int .i64 0, .int .i64 0, .int .i64 0, .int .i64 0, .slice none 0 0] 53)).cell? ⟨tb9, xi * 7 + 4, none⟩ = some (.int .i64 C.keys) := cell_stays (below_new w9 _) x4
                 have z5 : (w9.alloc (.cells #[.int .i64 0, .int .i64 0, .int .i64 0, .int .i64 0, .int .i64 0, .int .i64 0, .slice none 0 0] 53)).cell? ⟨tb9, xi * 7 + 5, none⟩ = some (.int .i64 C.whn) := cell_stays (below_new w9 _) x5
                 have z6 : (w9.alloc (.cells #[.int .i64 0, .int .i64 0, .int .i64 0, .int .i64 0, .int .i64 0, .int .i64 0, .slice none 0 0] 53)).cell? ⟨tb9, xi * 7 + 6, none⟩ = some (.slice ya C.terms.length yc) := cell_stays (below_new w9 _) x6
                 clear hb9 xt xlo htb9
                 dsimp only)
              | (refine (HTAB.out _ (below_alloc2 (Below.refl _ _).drew _)).mono ?_
                 rintro e w9 ⟨tb9, rfl, htb9, ⟨ya, yc, x0, x1, x2, x3, x4, x5, x6, xt, xlo⟩, hb9⟩
                 have hrw : w9.heap[V.heap.size]? = some (.cells #[.int .i64 0, .int .i64 0, .int .i64 0, .int .i64 0, .int .i64 0, .int .i64 0, .slice none 0 0] 53 (0, 0)) := (hb9.block V.heap.size (by simp)).trans (heap_alloc_new _ _)
                 have hC := fun k => hb9.cell (p := ⟨V.heap.size, k, none⟩) (by simp)
                 have hF := fun k => hb9.frozen (p := ⟨V.heap.size, k, none⟩) (by simp)
                 have c0 : w9.cell? ⟨V.heap.size, 0, none⟩ = some (.int .i64 0) := by rw [hC]; simp [go_sem]
                 have c1 : w9.cell? ⟨V.heap.size, 1, none⟩ = some (.int .i64 0) := by rw [hC]; simp [go_sem]
                 have c2 : w9.cell? ⟨V.heap.size, 2, none⟩ = some (.int .i64 0) := by rw [hC]; simp [go_sem]
                 have c3 : w9.cell? ⟨V.heap.size, 3, none⟩ = some (.int .i64 0) := by rw [hC]; simp [go_sem]
                 have c4 : w9.cell? ⟨V.heap.size, 4, none⟩ = some (.int .i64 0) := by rw [hC]; simp [go_sem]
                 have c5 : w9.cell? ⟨V.heap.size, 5, none⟩ = some (.int .i64 0) := by rw [hC]; simp [go_sem]
                 have c6 : w9.cell? ⟨V.heap.size, 6, none⟩ = some (.slice none 0 0) := by rw [hC]; simp [go_sem]
                 have f0 : w9.frozen? ⟨V.heap.size, 0, none⟩ = false := by rw [hF]; simp [go_sem]
                 have f1 : w9.frozen? ⟨V.heap.size, 1, none⟩ = false := by rw [hF]; simp [go_sem]
                 have f2 : w9.frozen? ⟨V.heap.size, 2, none⟩ = false := by rw [hF]; simp [go_sem]
                 have f3 : w9.frozen? ⟨V.heap.size, 3, none⟩ = false := by rw [hF]; simp [go_sem]
                 have f4 : w9.frozen? ⟨V.heap.size, 4, none⟩ = false := by rw [hF]; simp [go_sem]
                 have f5 : w9.frozen? ⟨V.heap.size, 5, none⟩ = false := by rw [hF]; simp [go_sem]
                 have f6 : w9.frozen? ⟨V.heap.size, 6, none⟩ = false := by rw [hF]; simp [go_sem]
                 have HB9 := Lib.hid (stepB (below_alloc2 (Below.refl V.heap.size V).drew _) hb9)
                 have HXT := Lib.hid xt
                 have HXL := Lib.hid (show ∀ p, ya = some p → p.block ≠ V.heap.size from fun p hp => by have h := xlo p hp; simp at h; omega)
                 have y9 : w9.cell? ⟨ja, jo + kk * 3, none⟩ = some (.int .i64 (xi : Int)) := cell_stays HB9.out HY0.out
                 clear hC hF hb9 xt xlo htb9
                 dsimp only)))) <;> (
            go_wp2
            go_meet
            case rel => first
              | (have hmine := c1; exact ⟨V.heap.size, _, _, rfl, Lib.hid (set7row _ _ _ _ _ _ _ hrw rfl), Lib.hid (terms_set (terms_set (terms_set (terms_set (terms_set (terms_set (terms_set HXT.out HXL.out) HXL.out) HXL.out) HXL.out) HXL.out) HXL.out) HXL.out), Lib.hid (((((((HB9.out.setCell (Nat.le_refl _) _).setCell (Nat.le_refl _) _).setCell (Nat.le_refl _) _).setCell (Nat.le_refl _) _).setCell (Nat.le_refl _) _).setCell (Nat.le_refl _) _).setCell (Nat.le_refl _) _)⟩)
              | exact ⟨_, _, _, rfl, Lib.hid (heap_alloc_new _ _), Lib.hid (HXT.out.later (below_new _ _)), Lib.hid (below_alloc2 HB9.out _)⟩)
          case rest =>
            obtain ⟨q15, ya, yc, rfl, HCD, HTM, HB9⟩ := hcut
            obtain ⟨V2, rfl⟩ : ∃ V2, V2 = wc := ⟨_, rfl⟩
            have k5c := cell_of_row V2 q15 5 _ _ _ HCD.out
            have k6c := cell_of_row V2 q15 6 _ _ _ HCD.out
            obtain ⟨_, f1c, _, _, _⟩ := HB0.out V2 (stepB HBV.out HB9.out)
            have f1d := f1c
            obtain ⟨wb, hwb⟩ : ∃ wb, wouldT (made13 l) ((kk : Int) + 1) f1 = wb := ⟨_, rfl⟩
            have HWB := Lib.hid hwb
            rw [HWD.out] at hwb
            have HWO := Lib.hid (would_any (HBR.out.later HB9.out) ((kk : Int) + 1) f1)
            have HBS := Lib.hid (show BF.S = made13 l ∧ BF.T = loseT (sidesT n) f2 from by rw [← HBFF.out]; exact ⟨rfl, rfl⟩)
            rw [HBS.out.1, HWB.out] at HWO
            clear yz y0 hs1 hs2 HTAB
            go_upto_region 19 with fail
            go_cut [16] from 79 to 88 (fun s16 wx => s16 = .bool wb ∧ wx = V2)
            · by_cases hz : f1 = 0
              · have e0 : (f1 != 0) = false := by simp [hz]
                have hwf : wb = false := by rw [← hwb]; simp [hz]
                clear hz
                go_wp2
                go_meet
                case rel => exact ⟨by rw [hwf], rfl⟩
              · have e0 : (f1 != 0) = true := by simp [hz]
                by_cases h5 : C.whn = f1
                · have e1 : (C.whn == f1) = true := beq_iff_eq.2 h5
                  have hwf : wb = true := by rw [← hwb]; simp [hz, h5]
                  clear hz h5
                  go_wp2
                  go_meet
                  case rel => exact ⟨by rw [hwf], rfl⟩
                · have e1 : (C.whn == f1) = false := beq_eq_false_iff_ne.2 h5
                  have hwf : wb = false := by rw [← hwb]; simp [h5]
                  clear hz h5
                  go_wp2
                  go_meet
                  case rel => exact ⟨by rw [hwf], rfl⟩
            case rest =>
              obtain ⟨rfl, rfl⟩ := hcut
              obtain ⟨V2, rfl⟩ : ∃ V2, V2 = wc := ⟨_, rfl⟩
              go_wp2_with fail
              refine HWO.out.mono ?_
              rintro e V3 ⟨rfl, hb3⟩
              have HB10 := Lib.hid hb3
              have hne : (wb != wb) = false := bne_self_eq_false _
              have k6c := cell_stays hb3 k6c
              clear k5c f1c f1d hwb hb3
              dsimp only
              go_wp2
              clear k6c hne
              go_loopw [99, 17] (fun i i17 wr => ∃ j : Nat, j ≤ C.terms.length ∧ i = .int .i64 j ∧ i17 = .int .i64 (lastOn (C.terms.take j)) ∧ Hid (Below V3.heap.size V3 wr)) (fun i _ _ => C.terms.length - (intOf i).toNat)
              case atStart => exact ⟨0, Nat.zero_le _, rfl, rfl, Lib.hid (Below.refl _ _)⟩
              case round =>
                obtain ⟨j, hj, rfl, rfl, HRB⟩ := hrel
                have hj5 : C.terms.length ≤ 5 := HCL.out
                by_cases hjl : j < C.terms.length
                · obtain ⟨yb, yo, rfl, i0, i1, i2⟩ : ∃ yb yo, ya = some ⟨yb, yo, none⟩ ∧ wr.cell? ⟨yb, yo + j * 3, none⟩ = some (.int .i64 C.terms[j].op) ∧ wr.cell? ⟨yb, yo + j * 3 + 1, none⟩ = some (.int .i64 C.terms[j].n) ∧ wr.cell? ⟨yb, yo + j * 3 + 2, none⟩ = some (.int .i64 C.terms[j].on) := by
                    rcases HTM.out.later (stepB HB10.out HRB.out) with ⟨_, _, _, e⟩ | ⟨yb, yo, cap, e, _, hc⟩
                    · rw [e] at hjl; cases hjl
                    · injection e with e1 e2 e3
                      exact ⟨yb, yo, e1, hc j hjl⟩
                  have htk := take_last C.terms j hjl
                  obtain ⟨⟨z0, z1, z2⟩, htt⟩ : ∃ t, C.terms[j] = t := ⟨_, rfl⟩
                  rw [htt] at i0 i1 i2 htk
                  dsimp only at i0 i1 i2
                  have hls : lastOn (C.terms.take (j + 1)) = if z2 ≠ 0 then z2 else lastOn (C.terms.take j) := by rw [htk, lastOn_snoc]
                  clear htk htt
                  by_cases hz2 : z2 = 0
                  · have e2 : (z2 != 0) = false := by simp [hz2]
                    have HLA := Lib.hid (show lastOn (C.terms.take (j + 1)) = lastOn (C.terms.take j) from by rw [hls, if_neg (by simp [hz2])])
                    clear hls hz2
                    go_wp2
                    go_roundw
                    case rel => exact ⟨j + 1, by omega, by go_num, by rw [HLA.out], Lib.hid (stepB HRB.out (below_new _ _))⟩
                    case measure => simp [intOf]; omega
                  · have e2 : (z2 != 0) = true := by simp [hz2]
                    have HLA := Lib.hid (show lastOn (C.terms.take (j + 1)) = z2 from by rw [hls, if_pos hz2])
                    clear hls hz2
                    go_wp2
                    go_roundw
                    case rel => exact ⟨j + 1, by omega, by go_num, by rw [HLA.out], Lib.hid (stepB HRB.out (below_new _ _))⟩
                    case measure => simp [intOf]; omega
                · obtain rfl : j = C.terms.length := by omega
                  rw [List.take_length]
                  obtain ⟨V4, hV4⟩ : ∃ V4, wr = V4 := ⟨_, rfl⟩
                  rw [hV4] at HRB ⊢
                  have HV4 := Lib.hid (stepB HB9.out (stepB HB10.out HRB.out))
                  have HBR4 := Lib.hid (HBR.out.later HV4.out)
                  obtain ⟨d0, d1, -⟩ := HBR4.out.cells
                  have dy := HTA.out V4 HV4.out
                  have hs1 : IntKind.i64.wrap ((kk : Int) + 1 - 1) = (kk : Int) := by rw [IntKind.wrap_i64]; omega
                  have hs2 : IntKind.i64.wrap (kk : Int) = (kk : Int) := by rw [IntKind.wrap_i64]; omega
                  obtain ⟨on, hon⟩ : ∃ on, lastOn C.terms = on := ⟨_, rfl⟩
                  obtain ⟨AL, hAL⟩ : ∃ AL, aimL (loseT (sidesT n) f2) (made13 l) Y on = AL := ⟨_, rfl⟩
                  have HFI := Lib.hid (fun (w' : World) (hb : Below V4.heap.size V4 w') => first_any (HBR4.out.later hb).st HBR4.out.wf (by have := HBR4.out.len; omega) (HBR4.out.later hb).tm Y on)
                  rw [HBS.out.1, HBS.out.2, hAL] at HFI
                  have hE := HE.out
                  rw [HBFF.out, hon, hAL, ← HBS.out.2] at hE
                  unfold RetFirst at HFI
                  obtain ⟨pv, hpv⟩ : ∃ pv, AL.getD 0 0 = pv := ⟨_, rfl⟩
                  obtain ⟨okb, hokb⟩ : ∃ okb, decide (AL ≠ []) = okb := ⟨_, rfl⟩
                  rw [hpv, hokb] at HFI hE
                  rw [hon]
                  have HEE := Lib.hid hE
                  have HI := Lib.hid (show Below V4.heap.size V4 V4 ∧ _ ∧ _ ∧ _ from ⟨Below.refl _ _, d0, d1, dy⟩)
                  clear hV4 d0 d1 dy hAL hE hpv hokb hon hj5
                  dsimp only at HI HFI
                  go_upto_region 29 with fail
                  go_region_held3 (fun w' => Below V4.heap.size V4 w' ∧ w'.cell? ⟨q', 0, none⟩ = some (.pointer (some ⟨sb3, 0, none⟩)) ∧ w'.cell? ⟨q', 1, none⟩ = some (.pointer (some ⟨tb3, 0, none⟩)) ∧ w'.cell? ⟨ja, jo + kk * 3 + 1, none⟩ = some (.int .i64 Y))
                    (first | assumption | (with_reducible exact HI.out) | exact keepG3 ((Below.refl _ _).drew) HI.out | exact keepG3 (by assumption) (by assumption))
                    ((go_at_call 21; refine (HFI.out _ (And.left (by assumption))).mono ?_; rintro e w11 ⟨rfl, hb11⟩))
                  have hw11 : Below V4.heap.size V4 w11 := And.left (by assumption)
                  have HB12 := Lib.hid (stepB HV4.out hw11)
                  have HBR5 := Lib.hid (HBR.out.later HB12.out)
                  have HS12 := Lib.hid (HSR.out.later HB12.out)
                  have HT12 := Lib.hid (HTR.out.trans (TurnedO.of_below HB12.out))
                  have HA12 := Lib.hid (stepB HBA.out HB12.out)
                  have hO60 : O.length ≤ 60 := by have := HTL.out; omega
                  obtain ⟨u, hu⟩ : ∃ u, ofT BF.T Y = u := ⟨_, rfl⟩
                  obtain ⟨lb, hlb⟩ : ∃ lb, lostT BF.T u = lb := ⟨_, rfl⟩
                  have hE := HEE.out
                  rw [hu, hlb] at hE
                  have HNO := Lib.hid (show (wb && (!lb && okb && decide (M.length < 8))) = false → fireL BF f1 (O.take (k + 1)) (e1000 k3) = (nn, M) from fun h => by
                    rw [HST.out]; unfold stepFire pushB; rw [HBS.out.1, HWB.out, hE.2]
                    exact if_neg (fun e => by have e : (wb && (!lb && okb && decide (M.length < 8))) = true := e; rw [h] at e; cases e))
                  have HYES := Lib.hid (show (wb && (!lb && okb && decide (M.length < 8))) = true → fireL BF f1 (O.take (k + 1)) (e1000 k3) = (nn + 1, M ++ [⟨Y, (kk : Int) + 1, pv, true⟩]) from fun h => by
                    rw [HST.out]; unfold stepFire pushB; rw [HBS.out.1, HWB.out, hE.2, hE.1]
                    exact if_pos h)
                  obtain ⟨d0, d1, -⟩ := HBR5.out.cells
                  have dy := HTA.out w11 HB12.out
                  dsimp only at d0 d1
                  clear hE HI hw11 hb11
                  cases wb with
                  | false =>
                    have HN := Lib.hid (HNO.out rfl)
                    clear HYES HNO hu hlb
                    go_upto_region 30 with fail
                    go_quiet (fail)
                    go_wp2
                    go_roundw
                    case rel => exact ⟨k + 1, g', by omega, by go_num, by rw [HN.out], Lib.hid (by rw [HN.out]; exact HS12.out.later (below_drewN (Below.refl _ _) _)), Lib.hid (HT12.out.trans (TurnedO.of_below (below_drewN (Below.refl _ _) _)))⟩
                    case measure => simp [intOf]; omega
                  | true =>
                    cases okb with
                    | false =>
                      have HN := Lib.hid (HNO.out (by rw [Bool.and_false]; rfl))
                      clear HYES HNO hu hlb
                      go_upto_region 30 with fail
                      go_quiet (fail)
                      go_wp2
                      go_roundw
                      case rel => exact ⟨k + 1, g', by omega, by go_num, by rw [HN.out], Lib.hid (by rw [HN.out]; exact HS12.out.later (below_drewN (Below.refl _ _) _)), Lib.hid (HT12.out.trans (TurnedO.of_below (below_drewN (Below.refl _ _) _)))⟩
                      case measure => simp [intOf]; omega
                    | true =>
                      cases lb with
                      | true =>
                        have HN := Lib.hid (HNO.out rfl)
                        have hofx := fun nd => tof_any ((HBR5.out.later (below_drewN (Below.refl w11.heap.size w11) nd)).tm) Y
                        have hlsx := fun nd => tlost_any ((HBR5.out.later (below_drewN (Below.refl w11.heap.size w11) nd)).tm) u
                        rw [hu] at hofx
                        rw [hlb] at hlsx
                        have HOF := Lib.hid hofx
                        have HLS := Lib.hid hlsx
                        dsimp only at HOF HLS
                        clear HYES HNO hu hlb hofx hlsx
                        go_upto_region 30 with fail
                        go_quiet ((first
                          | (go_at_call 10; exact Calls.quiet_of_same ((HOF.out _).mono fun _ _ ⟨he, hw⟩ => ⟨he, hw⟩))
                          | (go_at_call 22; exact Calls.quiet_of_same ((HLS.out _).mono fun _ _ ⟨he, hw⟩ => ⟨he, hw⟩))))
                        go_wp2
                        go_roundw
                        case rel => exact ⟨k + 1, g', by omega, by go_num, by rw [HN.out], Lib.hid (by rw [HN.out]; exact HS12.out.later (below_drewN (Below.refl _ _) _)), Lib.hid (HT12.out.trans (TurnedO.of_below (below_drewN (Below.refl _ _) _)))⟩
                        case measure => simp [intOf]; omega
                      | false =>
                        have HCA := Lib.hid (show ∀ w', Below A.heap.size A w' → w'.cell? ⟨q', 0, none⟩ = some (.pointer (some ⟨sb3, 0, none⟩)) ∧ w'.cell? ⟨q', 1, none⟩ = some (.pointer (some ⟨tb3, 0, none⟩)) ∧ w'.cell? ⟨ja, jo + kk * 3 + 1, none⟩ = some (.int .i64 Y) from fun w' hb => by
                          have hbr := (HBD.out.later (stepB HB4.out HB11.out)).later hb
                          obtain ⟨e0, e1, -⟩ := hbr.cells
                          refine ⟨e0, e1, ?_⟩
                          exact HYA.out w' hb)
                        have HI := Lib.hid (show Below A.heap.size A w11 ∧ _ ∧ _ ∧ _ from ⟨HA12.out, HCA.out _ HA12.out⟩)
                        have hofx := fun (w' : World) (hb : Below A.heap.size A w') => (tof_any (((HBD.out.later (stepB HB4.out HB11.out)).later hb).tm) Y).mono sameV
                        have hlsx := fun (w' : World) (hb : Below A.heap.size A w') => (tlost_any (((HBD.out.later (stepB HB4.out HB11.out)).later hb).tm) u).mono sameV
                        rw [hu] at hofx
                        rw [hlb] at hlsx
                        have HOF := Lib.hid hofx
                        have HLS := Lib.hid hlsx
                        dsimp only at HOF HLS
                        by_cases hM : M.length < 8
                        · have HY := Lib.hid (HYES.out (by rw [decide_eq_true hM]; rfl))
                          have HPU := Lib.hid (fun (w' : World) (hb : Below w11.heap.size w11 w') => push_ok ⟨Y, (kk : Int) + 1, pv, true⟩ (HS12.out.later hb) hM)
                          unfold entV RetStk at HPU
                          dsimp only at HPU
                          clear HYES HNO hu hlb hofx hlsx d0 d1 dy hM
                          go_upto_region 30 with fail
                          go_region_held3 (fun w' => Below A.heap.size A w' ∧ w'.cell? ⟨q', 0, none⟩ = some (.pointer (some ⟨sb3, 0, none⟩)) ∧ w'.cell? ⟨q', 1, none⟩ = some (.pointer (some ⟨tb3, 0, none⟩)) ∧ w'.cell? ⟨ja, jo + kk * 3 + 1, none⟩ = some (.int .i64 Y))
                            (first | assumption | (with_reducible exact HI.out) | exact keepG3 ((Below.refl _ _).drew) HI.out | exact ⟨hA14, HCA.out _ hA14⟩ | exact keepG3 (by assumption) (by assumption))
                            (first
                              | (go_at_call 10; refine (HOF.out _ (And.left (by assumption))).mono ?_; rintro e w12 ⟨rfl, hb12⟩)
                              | (go_at_call 22; refine (HLS.out _ (And.left (by assumption))).mono ?_; rintro e w13 ⟨rfl, hb13⟩)
                              | (go_at_call 17; refine (HPU.out _ (stepB (stepB (Below.refl _ _).drew hb12) hb13)).mono ?_; rintro e w14 ⟨g4, rfl, hs14, hc14, hn14⟩; have hA14 : Below A.heap.size A w14 := (chg_o hc14 hn14).below (And.left (by assumption)) (fun k hk => HS12.out.ownLo hk)))
                          have HT14 := Lib.hid ((HT12.out.trans (TurnedO.of_below (stepB (stepB (Below.refl _ _).drew hb12) hb13))).trans (chg_o hc14 hn14))
                          have HS14 := Lib.hid hs14
                          clear hs14 hc14 hn14 hA14 hb12 hb13
                          go_wp2
                          go_roundw
                          case rel => exact ⟨k + 1, g4, by omega, by go_num, by rw [HY.out]; go_num, Lib.hid (by rw [HY.out]; exact HS14.out), HT14⟩
                          case measure => simp [intOf]; omega
                        · have HN := Lib.hid (HNO.out (by rw [decide_eq_false hM, Bool.and_false]; rfl))
                          have HPU := Lib.hid (fun (w' : World) (hb : Below w11.heap.size w11 w') => push_full ⟨Y, (kk : Int) + 1, pv, true⟩ (HS12.out.later hb) (by omega))
                          unfold entV at HPU
                          dsimp only at HPU
                          clear HYES HNO hu hlb hofx hlsx d0 d1 dy hM
                          go_upto_region 30 with fail
                          go_region_held3 (fun w' => Below A.heap.size A w' ∧ w'.cell? ⟨q', 0, none⟩ = some (.pointer (some ⟨sb3, 0, none⟩)) ∧ w'.cell? ⟨q', 1, none⟩ = some (.pointer (some ⟨tb3, 0, none⟩)) ∧ w'.cell? ⟨ja, jo + kk * 3 + 1, none⟩ = some (.int .i64 Y))
                            (first | assumption | (with_reducible exact HI.out) | exact keepG3 ((Below.refl _ _).drew) HI.out | exact keepG3 (by assumption) (by assumption))
                            (first
                              | (go_at_call 10; refine (HOF.out _ (And.left (by assumption))).mono ?_; rintro e w12 ⟨rfl, hb12⟩)
                              | (go_at_call 22; refine (HLS.out _ (And.left (by assumption))).mono ?_; rintro e w13 ⟨rfl, hb13⟩)
                              | (go_at_call 17; refine (HPU.out _ (stepB (stepB (Below.refl _ _).drew hb12) hb13)).mono ?_; rintro e w14 ⟨rfl, hb14⟩))
                          have HB14 := Lib.hid (stepB (stepB (stepB ((Below.refl w11.heap.size w11).drew) hb12) hb13) hb14)
                          clear hb12 hb13 hb14
                          go_wp2
                          go_roundw
                          case rel => exact ⟨k + 1, g', by omega, by go_num, by rw [HN.out], Lib.hid (by rw [HN.out]; exact HS12.out.later HB14.out), Lib.hid (HT12.out.trans (TurnedO.of_below HB14.out))⟩
                          case measure => simp [intOf]; omega
        · obtain rfl : k = O.length := by omega
          have hs := HSR.out
          have hpl := HLL.out O.length
          rw [List.take_length] at hs hpl ⊢
          obtain ⟨p, hp⟩ : ∃ p, fireL BF f1 O (e1000 k3) = p := ⟨_, rfl⟩
          rw [hp] at hs hpl ⊢
          obtain ⟨pn, PM⟩ := p
          dsimp only at hs hpl ⊢
          have HS2 := Lib.hid hs
          have HV4 := Lib.hid (stepB HB11.out HBA.out)
          have HBD4 := Lib.hid (HBD.out.later HB4.out)
          have h60' : ids.length ≤ 60 := by omega
          have hfr := fun (w' : World) (hb : Below V.heap.size V w') => fire_any ((HBD4.out.later HV4.out).later hb) ((HS11.out.later HBA.out).later hb) (fun k h1 h2 => by have h3 := HBD4.out.ownLt h1; have h4 := HS11.out.ownLo h2; omega) (by rw [e1000_len]; omega) f0 f1 (HUW.out.later (stepB HBV.out hb)) (by omega)
          rw [HOO.out, hp] at hfr
          unfold RetFire at hfr
          dsimp only at hfr
          have HFR := Lib.hid hfr
          have HSX := Lib.hid (show ∀ (w' : World) (a' : Nat → Prop), TurnedO V.drew w' (ownK b1 g3) a' → StackAt w' A.heap.size b2 g' PM from fun w' a' ht => (hs.later (Below.refl V.heap.size V).drew).farO ht (fun k h1 h2 => by have h3 := HS11.out.ownLt h1; have h4 := HS2.out.ownLo h2; omega))
          have HPL := Lib.hid (show PM.length ≤ 1000 by omega)
          have HBB := Lib.hid (fun (w' : World) (hb : Below w4.heap.size w4 w') => bsame_self (HBD4.out.later hb) (HBC.out.later hb))
          have HFN := Lib.hid (fun (w' : World) (v : Value) => fire_nil (some ⟨b1, 0, none⟩) 0 1 v w')
          have HFS := Lib.hid (fun (w' : World) (hb : Below w4.heap.size w4 w') => fire_nilS (HBD4.out.later hb) f0 f1 (HUW.out.later (stepB HBW4.out hb)) (by omega))
          have HWN := Lib.hid (fun (w' : World) => would_nil 1 1 w')
          have hw0 := fun (w' : World) (hb : Below w4.heap.size w4 w') => would_any (HBD4.out.later hb) 0 1
          rw [show wouldT BF.S 0 1 = false from would_zero BF.S 1] at hw0
          have HW0 := Lib.hid hw0
          obtain ⟨a0, a1, _, _, a4⟩ := HB0.out V HBV.out
          have HI := Lib.hid (show Below w4.heap.size w4 V ∧ _ ∧ _ ∧ _ from ⟨HV4.out, a0, a1, a4⟩)
          have HIA := Lib.hid (show ∀ w', Below w4.heap.size w4 w' → w'.cell? ⟨q0, 0, none⟩ = some (.int .i64 f0) ∧ w'.cell? ⟨q0, 1, none⟩ = some (.int .i64 f1) ∧ w'.cell? ⟨q0, 4, none⟩ = some (.slice ua ids.length uc) from fun w' hb => by
            obtain ⟨a0, a1, _, _, a4⟩ := HB0.out w' (stepB HBW4.out hb)
            exact ⟨a0, a1, a4⟩)
          have hpp : ((pn : Int) == (pn : Int)) = true := beq_self_eq_true _
          dsimp only at HBB HFS HW0 HFR
          clear hs hpl hp hfr hw0 a0 a1 a4 hV
          go_upto_region 33 with fail
          go_region_held3 (fun w' => Below w4.heap.size w4 w' ∧ w'.cell? ⟨q0, 0, none⟩ = some (.int .i64 f0) ∧ w'.cell? ⟨q0, 1, none⟩ = some (.int .i64 f1) ∧ w'.cell? ⟨q0, 4, none⟩ = some (.slice ua ids.length uc))
            (first | assumption | (with_reducible exact HI.out) | exact keepG3 ((Below.refl _ _).drew) HI.out | exact ⟨hA15, HIA.out _ hA15⟩ | exact keepG3 (by assumption) (by assumption) | exact keepG3 (below_new _ _) (by assumption))
            (first
              | (go_at_call_of 23 (Value.pointer none); go_at_call_of 23 (Value.pointer (some ⟨q', 0, none⟩)); refine (HFS.out _ (And.left (by assumption))).mono ?_; rintro e w19 ⟨rfl, hb19⟩)
              | (go_at_call_of 23 (Value.pointer none); refine (HFN.out _ _).mono ?_; rintro e w18 ⟨rfl, hb18⟩)
              | (go_at_call 23; refine (HFR.out _ (Below.refl _ _).drew).mono ?_; rintro e w15 ⟨rfl, g6, hs15, ht15⟩; have hA15 : Below w4.heap.size w4 w15 := ht15.below (And.left (by assumption)) (fun k hk => HS11.out.ownLo hk))
              | (go_at_call 24; refine (same_self hs15 (HSX.out _ _ ht15) HPL.out).mono ?_; rintro e w16 ⟨rfl, hb16⟩)
              | (go_at_call 25; refine (HBB.out _ (And.left (by assumption))).mono ?_; rintro e w17 ⟨rfl, hb17⟩)
              | (go_at_call_of 20 (Value.pointer none); refine (HWN.out _).mono ?_; rintro e w20 ⟨rfl, hb20⟩)
              | (go_at_call 20; refine (HW0.out _ (And.left (by assumption))).mono ?_; rintro e w21 ⟨rfl, hb21⟩))
          have HEND := Lib.hid (show Below w4.heap.size w4 w21 from And.left (by assumption))
          go_wp2
          go_ret
          exact ⟨rfl, stepB HBN.out (stepB HBW4.out HEND.out)⟩
end Go.Proofs.YtookicopjphmnaaGreat
