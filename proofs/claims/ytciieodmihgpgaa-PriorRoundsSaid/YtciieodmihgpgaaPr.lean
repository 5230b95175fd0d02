/- The law PriorRounds (layer 16), walked. -/
import Derived.Test.YtciieodmihgpgaaPq
import Derived.Test.YtciieodmihgpgaaTo
import Derived.IntWalk
namespace Go.Proofs.Ytciieodmihgpgaa
open Go.RowKit
attribute [local go_sem] Oper.semAt_some

set_option maxRecDepth 100000 in
set_option maxHeartbeats 32000000 in
theorem priorRounds_walk {n f : Nat} {v : Value} {l : List Int} {w : World} (hn : n < 256) (hv : ValsAt w v (u8sV l)) (hl : l.length ≤ 9223372036854775807) (hw : ∀ x ∈ l, 0 ≤ x ∧ x < 256) (hf : f < 256) :
    Calls Try.prog 3 #[.int .u8 n, v, .int .u8 f] w (RetV w (.bool true)) := by
  have hvl : (u8sV l).length = l.length := by simp [u8sV]
  obtain ⟨va, vc, rfl⟩ := hv.form
  rw [hvl] at hv ⊢
  have HV := Lib.hid hv
  have HW := Lib.hid hw
  have HSD := Lib.hid (fun (W : World) => sides_any hn W)
  obtain ⟨T, hT⟩ : ∃ T, sidesT n = T := ⟨_, rfl⟩
  have HT3 := Lib.hid (show T ∈ three from by rw [← hT]; exact sides_three n)
  have HN4 := Lib.hid ((three_ok T HT3.out).1)
  rw [hT] at HSD
  obtain ⟨k, hk⟩ : ∃ k : Nat, (f : Int) % (T.sh.length : Int) = k := ⟨((f : Int) % (T.sh.length : Int)).toNat, by rw [Int.toNat_of_nonneg]; exact Int.emod_nonneg _ (by have := HN4.out; omega)⟩
  have HKN := Lib.hid (show k < T.sh.length from by have := Int.emod_lt_of_pos (f : Int) (b := (T.sh.length : Int)) (by have := HN4.out; omega); omega)
  clear hv hw hT
  go_enter Try.func3, Try.ntmps3
  go_wp2_with fail
  refine (awake16_any _).mono ?_
  rintro e w1 ⟨rfl, hb1⟩
  have HB1 := Lib.hid hb1
  clear hb1
  dsimp only
  go_wp2_with fail
  refine (HSD.out w1).mono ?_
  rintro e w2 ⟨lo, b, s, r, rfl, ht, hlo, hb2⟩
  have HT2 := Lib.hid ht
  have HB2 := Lib.hid (stepB HB1.out hb2)
  have HLO := Lib.hid hlo
  clear ht hb2 hlo HSD
  by_cases hlong : l.length ≤ 20
  case neg =>
    have d0 : decide ((20 : Int) < l.length) = true := decide_eq_true (by omega)
    dsimp only
    go_wp2
    go_ret
    exact ⟨rfl, HB2.out⟩
  have d0 : decide ((20 : Int) < l.length) = false := decide_eq_false (by omega)
  have HLE := Lib.hid (tlen_any HT2.out)
  obtain ⟨N, hN⟩ : ∃ N, T.sh.length = N := ⟨_, rfl⟩
  have HN := Lib.hid hN
  rw [hN] at HLE HN4 HKN hk
  have hNz : (N : Int) ≠ 0 := by have := HN4.out; omega
  have hf0 : (0 : Int) ≤ f := by omega
  clear hN
  dsimp only
  go_wp2_with fail
  refine HLE.out.mono ?_
  rintro e w3 ⟨rfl, rfl⟩
  dsimp only
  go_wp2_with fail
  refine (newP_any k w3).mono ?_
  rintro e w4 ⟨rfl, hp4, hb4⟩
  have HP4 := Lib.hid (PT.mk (HT2.out.later hb4) hp4 ⟨by have := HT2.out.lt; omega, by have := HT2.out.sd.1; omega, by have := HT2.out.ltr; omega⟩)
  have HB4 := Lib.hid (stepB HB2.out hb4)
  have HTL := Lib.hid (show w.heap.size ≤ w3.heap.size from HB2.out.size)
  obtain ⟨t, ht⟩ : ∃ t, w3.heap.size = t := ⟨_, rfl⟩
  rw [ht] at HP4 HTL ⊢
  rw [hk]
  clear hp4 hb4 ht HT2 HB1 HB2 d0 HLE hk hNz hf0
  dsimp only
  go_wp2
  go_loopw [10] (fun nv wr => ∃ m : Nat, m ≤ N ∧ nv = .int .i64 (rdN T k m : Nat) ∧ Hid (PT wr lo b s r t T (rdP T k m)) ∧ Hid (Below w.heap.size w wr)) (fun nv _ => 4 - (intOf nv).toNat)
  case atStart => exact ⟨0, Nat.zero_le _, rfl, HP4, HB4⟩
  case round =>
    obtain ⟨m, hm, rfl, HP, HB⟩ := hrel
    obtain ⟨wA, rfl⟩ : ∃ wA, wA = wr := ⟨_, rfl⟩
    by_cases hlt : m < N
    · have HRD := Lib.hid (rd_is HT3.out (k := k) (m := m) (by rw [HN.out]; exact HKN.out) (by rw [HN.out]; exact hlt))
      have hQ := HRD.out.p
      have HNX : Hid ((turnP T (rdP T k m)).1 = rdP T k (m + 1) ∧ rdN T k m + (seatsT T (rdP T k m).team).length = rdN T k (m + 1)) := Lib.hid ⟨rfl, rfl⟩
      have HRD1 : Hid ((turnP T (rdP T k m)).2 = (if m + 1 = N then 2 else 1) ∧ rdN T k m < 4 ∧ rdN T k (m + 1) ≤ 4 ∧ (rdN T k (m + 1) = 4 ↔ m + 1 = N) ∧ lostT T (rdP T k m).team = false ∧ (0 ≤ (rdP T k m).row ∧ (rdP T k m).row ≤ 3) ∧ 1 ≤ (seatsT T (rdP T k m).team).length) := Lib.hid (by
        have h := HRD.out
        refine ⟨?_, h.n, h.n1, ?_, h.lost, h.row, h.some⟩
        · rw [← HN.out]; exact h.turn
        · rw [← HN.out]; exact h.all)
      obtain ⟨tm, htm⟩ : ∃ tm, (rdP T k m).team = tm := ⟨_, rfl⟩
      obtain ⟨ro, hro⟩ : ∃ ro, (rdP T k m).row = ro := ⟨_, rfl⟩
      rw [htm, hro] at hQ HRD1
      rw [htm] at HNX
      rw [hQ] at HP HRD1 HNX
      obtain ⟨nm, hnm⟩ : ∃ nm, rdN T k m = nm := ⟨_, rfl⟩
      obtain ⟨n1, hn1⟩ : ∃ n1, rdN T k (m + 1) = n1 := ⟨_, rfl⟩
      rw [hnm, hn1] at HRD1 HNX
      rw [hnm]
      have HN1 := Lib.hid hn1
      have d0 : decide ((nm : Int) < 4) = true := decide_eq_true (by have := HRD1.out.2.1; omega)
      have HTE := Lib.hid (teamP_any HP.out.pr)
      have HIN := Lib.hid (tin_any HP.out.tm tm)
      clear hQ htm hro hnm hn1 HRD
      dsimp only at HTE
      go_wp2_with fail
      refine HTE.out.mono ?_
      rintro e w5 ⟨rfl, rfl⟩
      dsimp only
      go_wp2_with fail
      refine HIN.out.mono ?_
      rintro e w6 ⟨vs, rfl, hr6, hb6⟩
      have hSpos : 0 < (seatsT T tm).length := HRD1.out.2.2.2.2.2.2
      obtain ⟨g, gc, rfl, hg0, hrow⟩ := own_rowIn hr6 hSpos
      have HOR := Lib.hid (Order.mk (T := T) (k := tm) (X := seatsT T tm) (List.Perm.refl _) (seat_in HP.out.tm tm))
      have HGL := Lib.hid (show w.heap.size ≤ g ∧ g ≠ t ∧ b ≠ g ∧ s ≠ g ∧ r ≠ g from ⟨Nat.le_trans HB.out.size hg0, by have := HP.out.pr.lt; omega, by have := HP.out.tm.lt; omega, by have := HP.out.tm.sd.1; omega, by have := HP.out.tm.ltr; omega⟩)
      have HP6 := Lib.hid (HP.out.later hb6)
      have HB6 := Lib.hid (stepB HB.out hb6)
      have hSf := seats_few HP.out.tm tm
      obtain ⟨L, hL⟩ : ∃ L, seatsT T tm = L := ⟨_, rfl⟩
      rw [hL] at hrow HOR hSpos hSf HNX HRD1 ⊢
      obtain ⟨S, hS⟩ : ∃ S, L.length = S := ⟨_, rfl⟩
      have HX6 : Hid (RowIn w6 3 g (intsV L) ∧ L.length = S ∧ Order T tm L) := Lib.hid ⟨hrow, hS, HOR.out⟩
      rw [hS] at hSpos hSf HNX HRD1 ⊢
      clear hr6 hb6 hg0 hrow HOR hL hS HIN HTE HP HB d0
      have hSz : (S : Int) ≠ 0 := by omega
      dsimp only
      go_wp2
      go_loopw [49] (fun c wr => ∃ (i : Nat) (X : List Int), i ≤ l.length ∧ c = .int .i64 i ∧ Hid (RowIn wr 3 g (intsV X) ∧ X.length = S ∧ Order T tm X) ∧ Hid (PT wr lo b s r t T ⟨tm, ro, no4⟩) ∧ Hid (Below w.heap.size w wr)) (fun c _ => l.length - (intOf c).toNat)
      case atStart => exact ⟨0, L, Nat.zero_le _, rfl, HX6, HP6, HB6⟩
      case round =>
        obtain ⟨i, X, hi, rfl, HX, HP, HB⟩ := hrel
        obtain ⟨wB, rfl⟩ : ∃ wB, wB = wr := ⟨_, rfl⟩
        by_cases hil : i < l.length
        · obtain ⟨b1, o1, rfl, hb1, x0⟩ : ∃ b1 o1, va = some ⟨b1, o1, none⟩ ∧ b1 < w.heap.size ∧ w.cell? ⟨b1, o1 + i, none⟩ = some (.int .u8 l[i]) := by
            have hv' := HV.out
            rw [← hvl] at hv'
            obtain ⟨b1, o1, h1, h2, h3⟩ := hv'.at i (by rw [hvl]; exact hil)
            exact ⟨b1, o1, h1, h2, by rw [h3]; simp [u8sV]⟩
          have x1 := HB.out.cell (p := ⟨b1, o1 + i, none⟩) hb1
          rw [x0] at x1
          have hxr := HW.out l[i] (List.getElem_mem hil)
          obtain ⟨x, hx⟩ : ∃ x, l[i] = x := ⟨_, rfl⟩
          rw [hx] at x1 hxr
          have e0 : (0 : Int) ≤ i := by omega
          have e1 : (i : Int) < l.length := by omega
          obtain ⟨p, hp⟩ : ∃ p : Nat, (i : Int) % (S : Int) = p := ⟨((i : Int) % (S : Int)).toNat, by rw [Int.toNat_of_nonneg]; exact Int.emod_nonneg _ hSz⟩
          obtain ⟨q, hq⟩ : ∃ q : Nat, x % (S : Int) = q := ⟨(x % (S : Int)).toNat, by rw [Int.toNat_of_nonneg]; exact Int.emod_nonneg _ hSz⟩
          have hpS : p < S := by have := Int.emod_lt_of_pos (i : Int) (b := (S : Int)) (by omega); omega
          have hqS : q < S := by have := Int.emod_lt_of_pos x (b := (S : Int)) (by omega); omega
          clear hx x0 hb1
          go_wp2
          go_quiet (fail)
          go_wp2
          try rw [hp]
          try rw [hq]
          obtain ⟨w8, hw8⟩ : ∃ w8, wB.drewN nq = w8 := ⟨_, rfl⟩
          have hb8 : Below wB.heap.size wB w8 := by rw [← hw8]; exact below_drewN (Below.refl _ _) _
          rw [hw8]
          have HP8 := Lib.hid (HP.out.later hb8)
          have HB8 := Lib.hid (stepB HB.out hb8)
          have HX8 := Lib.hid (show RowIn w8 3 g (intsV X) ∧ X.length = S ∧ Order T tm X from ⟨HX.out.1.later hb8, HX.out.2⟩)
          have HST : Hid (∀ (y z : Int), X.getD q 0 = y → X.getD p 0 = z → ∀ (nd : Nat), (RowIn (((w8.drewN nd).setCell ⟨g, p, none⟩ (.int .i64 y)).setCell ⟨g, q, none⟩ (.int .i64 z)) 3 g (intsV (swapI X p q)) ∧ (swapI X p q).length = S ∧ Order T tm (swapI X p q)) ∧ PT (((w8.drewN nd).setCell ⟨g, p, none⟩ (.int .i64 y)).setCell ⟨g, q, none⟩ (.int .i64 z)) lo b s r t T ⟨tm, ro, no4⟩ ∧
              Below w.heap.size w (((w8.drewN nd).setCell ⟨g, p, none⟩ (.int .i64 y)).setCell ⟨g, q, none⟩ (.int .i64 z))) := Lib.hid (by
            rintro y z rfl rfl nd
            obtain ⟨h1, h2, h3⟩ := HX8.out
            have hd : Below w8.heap.size w8 (w8.drewN nd) := below_drewN (Below.refl _ _) _
            have hg := grown_trans (grown_below hd) (grown_trans (grown_set (w8.drewN nd) g p (.int .i64 (X.getD q 0))) (grown_set _ g q (.int .i64 (X.getD p 0))))
            obtain ⟨n1, n2, n3, n4, n5⟩ := HGL.out
            exact ⟨⟨(h1.later hd).swap p q, by simp [swapI, h2], h3.swap (by omega) (by omega)⟩, ⟨HP8.out.tm.grown hg n3 n4 n5, HP8.out.pr.grown hg (Ne.symm n2), HP8.out.ne⟩, grown_to HB8.out hg n1⟩)
          have cq := HX8.out.1.cell q (by rw [intsV_len, HX8.out.2.1]; exact hqS)
          have cp := HX8.out.1.cell p (by rw [intsV_len, HX8.out.2.1]; exact hpS)
          have hXl := HX8.out.2.1
          rw [show (intsV X)[q]'(by rw [intsV_len, hXl]; exact hqS) = .int .i64 (X.getD q 0) by simp [intsV, List.getD, show q < X.length by omega]] at cq
          rw [show (intsV X)[p]'(by rw [intsV_len, hXl]; exact hpS) = .int .i64 (X.getD p 0) by simp [intsV, List.getD, show p < X.length by omega]] at cp
          have fq := HX8.out.1.free q
          have fp := HX8.out.1.free p
          obtain ⟨y, hy⟩ : ∃ y, X.getD q 0 = y := ⟨_, rfl⟩
          obtain ⟨z, hz⟩ : ∃ z, X.getD p 0 = z := ⟨_, rfl⟩
          have HST := Lib.hid (HST.out y z hy hz)
          have hyz : p = q → y = z := fun e => by rw [← hy, ← hz, e]
          rw [hy] at cq
          rw [hz] at cp
          have p0 : (0 : Int) ≤ p := by omega
          have p1 : (p : Int) < S := by omega
          have q0 : (0 : Int) ≤ q := by omega
          have q1 : (q : Int) < S := by omega
          clear hw8 hb8 HX HP HB HX8 HP8 HB8 hXl hy hz hp hq x1 e1
          by_cases hpq : p = q
          · have hyz := hyz hpq
            subst hyz
            subst hpq
            clear cp fp p0 p1
            go_wp2
            go_region
            all_goals
              go_wp2
              go_roundw
              case rel => exact ⟨i + 1, _, by omega, by go_num, Lib.hid (HST.out _).1, Lib.hid (HST.out _).2.1, Lib.hid (HST.out _).2.2⟩
              case measure => simp [intOf]; omega
          · clear hyz
            have hqp : ¬ q = p := fun e => hpq e.symm
            go_wp2
            go_region
            all_goals
              go_wp2
              go_roundw
              case rel => exact ⟨i + 1, _, by omega, by go_num, Lib.hid (HST.out _).1, Lib.hid (HST.out _).2.1, Lib.hid (HST.out _).2.2⟩
              case measure => simp [intOf]; omega
        · obtain rfl : i = l.length := by omega
          have HOX := Lib.hid HX.out.2
          have HX7 := Lib.hid HX.out.1
          have hX0 : X.take 0 = [] := List.take_zero
          have HP7 : Hid (PT wB lo b s r t T ⟨tm, ro, marks (X.take 0)⟩) := Lib.hid (by rw [hX0]; exact HP.out)
          clear hX0 HX HP hil hi HP6 HB6 HX6
          go_wp2
          go_loopw [10, 80] (fun nv c wr => ∃ (i : Nat) (Q : PriL), i ≤ S ∧ nv = .int .i64 ((nm : Int) + (i : Int)) ∧ c = .int .i64 i ∧ Hid (PT wr lo b s r t T Q) ∧ Hid ((i < S → Q = ⟨tm, ro, marks (X.take i)⟩) ∧ (i = S → Q = (turnP T ⟨tm, ro, no4⟩).1)) ∧ Hid (RowIn wr 3 g (intsV X)) ∧ Hid (Below w.heap.size w wr)) (fun _ c _ => S - (intOf c).toNat)
          case atStart => exact ⟨0, _, Nat.zero_le _, by go_num, rfl, HP7, Lib.hid ⟨fun _ => rfl, fun e => by omega⟩, HX7, HB⟩
          case round =>
            obtain ⟨i, Q, hi, rfl, rfl, HP, HQ, HX, HB⟩ := hrel
            obtain ⟨wC, rfl⟩ : ∃ wC, wC = wr := ⟨_, rfl⟩
            by_cases hiS : i < S
            · have hXl := HOX.out.1
              have hQ := HQ.out.1 hiS
              subst hQ
              have ci := HX.out.cell i (by rw [intsV_len, hXl]; exact hiS)
              rw [show (intsV X)[i]'(by rw [intsV_len, hXl]; exact hiS) = .int .i64 (X[i]'(by omega)) by simp [intsV]] at ci
              have HMA := Lib.hid (HOX.out.2.may (r := ro) HRD1.out.2.2.2.2.1 i (by omega))
              have HPS := Lib.hid (HOX.out.2.pass (r := ro) i (by omega))
              have HPA := Lib.hid (pass_yes HP.out HMA.out HRD1.out.2.2.2.2.2.1.1 (Int.le_trans HRD1.out.2.2.2.2.2.1.2 (by decide)))
              obtain ⟨y, hy⟩ : ∃ y, X[i]'(by omega) = y := ⟨_, rfl⟩
              rw [hy] at ci HPA HPS
              rw [hXl] at HPS
              obtain ⟨R, hR⟩ : ∃ R, passP T ⟨tm, ro, marks (X.take i)⟩ y = R := ⟨_, rfl⟩
              rw [hR] at HPA HPS
              have i0 : (0 : Int) ≤ i := by omega
              have i1 : (i : Int) < S := by omega
              have HS4 := Lib.hid hSf
              have hw1 : IntKind.i64.wrap ((nm : Int) + (i : Int) + 1) = (nm : Int) + (i : Int) + 1 := by have := HRD1.out.2.1; rw [IntKind.wrap_i64]; omega
              have hw2 : IntKind.i64.wrap ((S : Int) - 1) = (S : Int) - 1 := by rw [IntKind.wrap_i64]; omega
              clear hXl hy hR HMA
              go_wp2_with fail
              refine HPA.out.mono ?_
              rintro e w9 ⟨rfl, hp9, hg9⟩
              have HP9 := Lib.hid (HP.out.ret hp9 hg9)
              have HX9 := Lib.hid (HX.out.grown hg9 HGL.out.2.1)
              have HB9 := Lib.hid (grown_to HB.out hg9 HTL.out)
              clear hp9 hg9 HPA HP HX HB ci
              dsimp only
              by_cases hlast : i + 1 < S
              · have hR := HPS.out.trans (if_pos hlast)
                subst hR
                have c1 : ((i : Int) == (S : Int) - 1) = false := beq_eq_false_iff_ne.2 (by omega)
                have c2 : ((nm : Int) + (i : Int) + 1 == 4) = false := beq_eq_false_iff_ne.2 (by have := HRD1.out.2.2.1; have := HNX.out.2; omega)
                clear HPS
                dsimp only at HP9 ⊢
                go_wp2
                go_roundw
                case rel => exact ⟨i + 1, _, by omega, by go_num, by go_num, HP9, Lib.hid ⟨fun _ => rfl, fun e => by omega⟩, HX9, HB9⟩
                case measure => simp [intOf]; omega
              · have hR := HPS.out.trans (if_neg hlast)
                have c1 : ((i : Int) == (S : Int) - 1) = true := beq_iff_eq.2 (by omega)
                obtain ⟨R1, R2⟩ := R
                have hR1 : R1 = (turnP T ⟨tm, ro, no4⟩).1 := by rw [← hR]
                have hR2 : R2 = (if m + 1 = N then 2 else 1) := by rw [← HRD1.out.1, ← hR]
                have HR1 := Lib.hid hR1
                clear hR hR1 HPS
                dsimp only at HP9 ⊢
                by_cases hmN : m + 1 = N
                · rw [if_pos hmN] at hR2
                  subst hR2
                  have c2 : ((nm : Int) + (i : Int) + 1 == 4) = true := beq_iff_eq.2 (by have := HRD1.out.2.2.2.1.2 hmN; have := HNX.out.2; omega)
                  go_wp2
                  go_roundw
                  case rel => exact ⟨i + 1, _, by omega, by go_num, by go_num, HP9, Lib.hid ⟨fun e => by omega, fun _ => HR1.out⟩, HX9, HB9⟩
                  case measure => simp [intOf]; omega
                · rw [if_neg hmN] at hR2
                  subst hR2
                  have c2 : ((nm : Int) + (i : Int) + 1 == 4) = false := beq_eq_false_iff_ne.2 (fun e => hmN (HRD1.out.2.2.2.1.1 (by have := HNX.out.2; omega)))
                  go_wp2
                  go_roundw
                  case rel => exact ⟨i + 1, _, by omega, by go_num, by go_num, HP9, Lib.hid ⟨fun e => by omega, fun _ => HR1.out⟩, HX9, HB9⟩
                  case measure => simp [intOf]; omega
            · obtain rfl : i = S := by omega
              have hQ := (HQ.out.2 rfl).trans HNX.out.1
              subst hQ
              have HN2 := Lib.hid HNX.out.2
              go_wp2
              go_roundw
              case rel => exact ⟨m + 1, by omega, by rw [HN1.out, ← HN2.out]; go_num, HP, HB⟩
              case measure => have := HRD1.out.2.1; simp [intOf]; omega
    · obtain rfl : m = N := by omega
      have hE : rdN T k m = 4 := by
        obtain ⟨m', rfl⟩ : ∃ m', m = m' + 1 := ⟨m - 1, by have := HN4.out; omega⟩
        exact (rd_is HT3.out (k := k) (m := m') (by rw [HN.out]; exact HKN.out) (by rw [HN.out]; omega)).all.2 HN.out.symm
      have hP := rd_end HT3.out (k := k) (by rw [HN.out]; exact HKN.out)
      rw [HN.out] at hP
      rw [hP] at HP
      rw [hE]
      have HTE := Lib.hid (teamP_any HP.out.pr)
      have HPS := Lib.hid (passed_any HP.out.pr)
      clear hE hP
      dsimp only at HTE HPS
      go_wp2_with fail
      refine HTE.out.mono ?_
      rintro e w5 ⟨rfl, rfl⟩
      dsimp only
      go_wp2_with fail
      refine HPS.out.mono ?_
      rintro e w9 ⟨vs, rfl, hr9, hb9⟩
      have hi9 := own_ints hr9
      obtain ⟨va9, vc9, rfl⟩ := hi9.form
      rw [show (passedL no4).length = 0 from rfl] at hi9 ⊢
      have HB9 := Lib.hid (stepB HB.out hb9)
      clear hi9 hr9 hb9 HPS
      dsimp only
      go_wp2
      go_ret
      exact ⟨rfl, HB9.out⟩
end Go.Proofs.Ytciieodmihgpgaa
