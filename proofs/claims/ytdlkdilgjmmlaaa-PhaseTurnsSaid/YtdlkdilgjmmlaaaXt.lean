/- The law PhaseTurns, walked. -/
import Derived.Test.YtdlkdilgjmmlaaaXs
namespace Go.Proofs.Ytdlkdilgjmmlaaa
open Go.RowKit Go.Maps
attribute [local go_sem] Oper.semAt_some

def u8sV (l : List Int) : List Value := l.map fun x => .int .u8 x
theorem loseT_sides (T : TeamL) (k : Int) : (loseT T k).sides = T.sides := by
  unfold loseT
  split <;> rfl
theorem lose_bd {w : World} {lo : Nat} {g : GhostB} {B : BoardL} (h : BoardAt w lo g B) (k : Int) : Calls Try.prog 7 #[.pointer (some ⟨g.tb, 0, none⟩), .int .i64 k] w (RetBd w lo g ⟨B.S, loseT B.T k, B.D⟩ (.bool (!lostT B.T k))) :=
  (tlose_any h.tm k).mono fun _ _ hr => h.retT (loseT_sides _ _) hr
set_option maxRecDepth 100000 in
set_option maxHeartbeats 40000000 in
theorem phaseTurns_walk {n m : Nat} (hn : n < 256) (hm : m < 256) {w : World} {v : Value} {l : List Int} (hv : ValsAt w v (u8sV l)) (hl : ∀ x ∈ l, 0 ≤ x ∧ x < 256) (hlen : l.length ≤ 9223372036854775807) :
    Calls Try.prog 3 #[.int .u8 n, v, .int .u8 m] w (RetV w (.bool true)) := by
  have HAW := Lib.hid (fun (w' : World) => awake15_any w')
  have HBO := Lib.hid (fun (w' : World) => board0_any w' n hn)
  have HNT := Lib.hid (fun (w' : World) => newTurn_any 0 w')
  have HNN := Lib.hid (fun (w' : World) (t : Nat) => nextTurn_nil (t := t) w')
  have hll : (u8sV l).length = l.length := by simp [u8sV]
  obtain ⟨xa, xc, rfl⟩ := hv.form
  rw [hll] at hv ⊢
  have HV := Lib.hid hv
  have HX := Lib.hid (And.intro hl hll)
  clear hv hl hll
  go_enter Try.func3, Try.ntmps3
  go_wp2_with fail
  refine (HAW.out _).mono ?_
  rintro e w1 ⟨rfl, hb1⟩
  have HB1 := Lib.hid hb1
  clear hb1 HAW
  dsimp only
  go_wp2_with fail
  refine (HBO.out _).mono ?_
  rintro e w2 ⟨lo, g, rfl, hbd, hlo, hb2⟩
  have HBD := Lib.hid hbd
  have HLO := Lib.hid (show ∀ k, g.own k → w.heap.size ≤ k from fun k hk => Nat.le_trans HB1.out.size (Nat.le_trans hlo (hbd.ownLo hk)))
  have HB2 := Lib.hid (stepB HB1.out hb2)
  obtain ⟨q, hq⟩ : ∃ q, g.q = q := ⟨_, rfl⟩
  have HQ := Lib.hid hq
  rw [hq]
  clear hbd hlo hb2 hq HBO
  dsimp only
  by_cases h10 : l.length ≤ 10
  case neg =>
    have e10 : decide ((10 : Int) < l.length) = true := decide_eq_true (by omega)
    go_wp2
    go_ret
    exact ⟨rfl, HB2.out⟩
  have e10 : decide ((10 : Int) < l.length) = false := decide_eq_false (by omega)
  go_wp2
  go_loopw [29] (fun i wr => ∃ (k : Nat) (g1 : GhostB) (T : TeamL), k ≤ l.length ∧ i = .int .i64 k ∧ Hid (BoardAt wr lo g1 ⟨made13 [], T, dry0⟩) ∧ Hid (g1.q = q) ∧ Hid (TurnedO w2 wr g.own g1.own)) (fun i _ => l.length - (intOf i).toNat)
  case atStart => exact ⟨0, g, _, Nat.zero_le _, rfl, HBD, HQ, Lib.hid (TurnedO.of_below (Below.refl _ _))⟩
  case round =>
    clear HBD
    obtain ⟨k, g1, T, hk, rfl, HBD, HQ1, HT⟩ := hrel
    by_cases hlt : k < l.length
    · have e0 : decide ((k : Int) < l.length) = true := decide_eq_true (by omega)
      have hw1 : IntKind.i64.wrap ((k : Int) + 1) = (k : Int) + 1 := wrap4 (by omega) (by omega)
      have hbw : Below w.heap.size w wr := HT.out.below HB2.out HLO.out
      have hv5 := HV.out.later hbw
      obtain ⟨b, off, hr, _, c0⟩ := (show ValsAt wr (.slice xa (u8sV l).length xc) (u8sV l) by rw [HX.out.2]; exact hv5).at k (by rw [HX.out.2]; exact hlt)
      obtain ⟨y, hy⟩ : ∃ y, l[k] = y := ⟨_, rfl⟩
      have hy2 := HX.out.1 l[k] (List.getElem_mem hlt)
      rw [show (u8sV l)[k]'(by rw [HX.out.2]; exact hlt) = .int .u8 y from by simp [u8sV, hy]] at c0
      rw [hy] at hy2
      have hw2 : IntKind.i64.wrap y = y := wrap4 (by omega) (by omega)
      have hw3 : IntKind.i64.wrap (y.tmod 4) = y.tmod 4 := by
        have h1 := Int.tmod_nonneg 4 hy2.1
        have h2 := Int.tmod_lt_of_pos y (show (0 : Int) < 4 by decide)
        exact wrap4 h1 (by omega)
      have k1 : (0 : Int) ≤ k := by omega
      have k2 : (k : Int) < l.length := by omega
      obtain ⟨-, cq, -⟩ := HBD.out.cells
      rw [HQ1.out] at cq
      obtain ⟨z, hz⟩ : ∃ z, y.tmod 4 = z := ⟨_, rfl⟩
      rw [hz] at hw3
      have HC := Lib.hid (lose_bd HBD.out z)
      obtain ⟨g1tb, hgtb⟩ : ∃ g1tb, g1.tb = g1tb := ⟨_, rfl⟩
      rw [hgtb] at cq HC
      subst hr
      clear hy hv5 hbw hgtb hy2
      go_wp2_with fail
      refine HC.out.mono ?_
      rintro e w5 ⟨rfl, g2, hbd, htu, hq2⟩
      have HBD5 := Lib.hid hbd
      have HT5 := Lib.hid (HT.out.trans htu.o)
      have HQ5 := Lib.hid (hq2.trans HQ1.out)
      clear hbd htu hq2 HC cq c0
      dsimp only
      go_wp2
      go_roundw
      case rel => exact ⟨k + 1, g2, _, by omega, by go_num, HBD5, HQ5, HT5⟩
      case measure => simp [intOf]; omega
    · obtain rfl : k = l.length := by omega
      have e0 : decide ((l.length : Int) < l.length) = false := decide_eq_false (by omega)
      have HB3 := Lib.hid (HT.out.below HB2.out HLO.out)
      have HLO3 := Lib.hid (show ∀ k, g1.own k → w.heap.size ≤ k from fun k hk => by
        by_cases h2 : k < w2.heap.size
        · exact HLO.out k (HT.out.own k h2 hk)
        · have := HB2.out.size; omega)
      go_wp2_with fail
      refine (HNT.out wr).mono ?_
      rintro e V ⟨rfl, ht, hb4⟩
      have hj := phj_new HBD.out ht hb4
      rw [HQ1.out] at hj
      have HJ0 := Lib.hid hj
      have HBV := Lib.hid (stepB HB3.out hb4)
      have HLV := Lib.hid (show ∀ k, own3 g1 wr.heap.size k → w.heap.size ≤ k from fun k hk => by
        rcases hk with hk | rfl
        · exact HLO3.out k hk
        · exact HB3.out.size)
      obtain ⟨t, ht9⟩ : ∃ t, wr.heap.size = t := ⟨_, rfl⟩
      rw [ht9] at HJ0 HLV ⊢
      clear ht hb4 hj ht9 HBD HT HQ HQ1 HB3 HLO3 HLO
      obtain ⟨r, hr⟩ : ∃ r : Nat, m % 20 = r := ⟨_, rfl⟩
      have hr20 : r < 20 := by omega
      have hw20 : IntKind.i64.wrap (m : Int) = (m : Int) := wrap4 (by omega) (by omega)
      have hm20 : (m : Int).tmod 20 = (r : Int) := by rw [← hr]; exact Int.tmod_eq_emod_of_nonneg (by omega)
      have hw21 : IntKind.i64.wrap (r : Int) = (r : Int) := wrap4 (by omega) (by omega)
      clear hr
      dsimp only
      go_wp2
      go_loopw [11] (fun i wr => ∃ (k : Nat) (tm : Int), k ≤ r ∧ i = .int .i64 k ∧ Hid (PhJ V wr lo g1 q t T ⟨tm, 1 + (k : Int), 1, dry0⟩ (fun _ => False))) (fun i _ => r - (intOf i).toNat)
      case atStart => exact ⟨0, 0, Nat.zero_le _, rfl, HJ0⟩
      case round =>
        clear HJ0
        obtain ⟨k, tm, hk, rfl, HJ⟩ := hrel
        by_cases hlt : k < r
        · have e1 : decide ((k : Int) < r) = true := decide_eq_true (by omega)
          have hw1 : IntKind.i64.wrap ((k : Int) + 1) = (k : Int) + 1 := wrap4 (by omega) (by omega)
          have hwn : IntKind.i64.wrap (1 + (k : Int) + 1) = 1 + (k : Int) + 1 := wrap4 (by omega) (by omega)
          obtain ⟨c0, c1, c2⟩ := HJ.out.cells
          obtain ⟨tb, s, rr, cq, htm⟩ := HJ.out.teams
          dsimp only at c0 c1 c2
          obtain ⟨nx, hnx⟩ : ∃ nx, nextT T tm = nx := ⟨_, rfl⟩
          have HNE := Lib.hid hnx
          have HNX := Lib.hid (fun (nd : Nat) => by have h1 := tnext_any (htm.later (below_drewN (Below.refl wr.heap.size wr) nd)) tm; rw [hnx] at h1; exact h1)
          clear htm hnx
          go_upto_region 15 with fail
          go_quiet ((go_at_call 9; exact Calls.quiet_of_same ((HNX.out _).mono fun _ _ ⟨he, hw⟩ => ⟨he, hw⟩)))
          obtain ⟨wA, rfl⟩ : ∃ wA, wA = wr := ⟨_, rfl⟩
          have HJ15 := Lib.hid (fun nd => HJ.out.later (below_drewN (Below.refl wA.heap.size wA) nd))
          go_wp2
          clear c0 c1 c2 cq HNX
          go_loopw [14] (fun i wi => ∃ (j : Nat), j ≤ 8 ∧ i = .int .i64 j ∧ Hid (PhJ V wi lo g1 q t T (atY T tm (1 + (k : Int)) j) (fun _ => False))) (fun i _ => 8 - (intOf i).toNat)
          case atStart => exact ⟨0, by omega, rfl, Lib.hid (HJ15.out _)⟩
          case round =>
            clear HJ15 HJ
            obtain ⟨j, hj, rfl, HJ⟩ := hrel
            by_cases hlj : j < 8
            · have e2 : decide ((j : Int) < 8) = true := decide_eq_true (by omega)
              have hwj : IntKind.i64.wrap ((j : Int) + 1) = (j : Int) + 1 := wrap4 (by omega) (by omega)
              have HCP := Lib.hid (copyTurn_any HJ.out.turn)
              go_wp2_with fail
              refine HCP.out.mono ?_
              rintro e w5 ⟨rfl, hcp, hb5⟩
              have HJ5 := Lib.hid (HJ.out.later hb5)
              have HC5 := Lib.hid hcp
              clear hcp hb5 HCP
              dsimp only
              go_wp2_with fail
              refine (HNN.out w5 t).mono ?_
              rintro e w6 ⟨rfl, e6⟩
              rw [e6]
              clear e6 w6
              have HSM := Lib.hid (sameTurn_any HJ5.out.turn HC5.out)
              dsimp only
              go_wp2_with fail
              refine HSM.out.mono ?_
              rintro e w7 ⟨rfl, hb7⟩
              have HJ7 := Lib.hid (HJ5.out.later hb7)
              clear hb7 HSM HC5 HJ5
              have hy := atY_ok (T := T) (tm := tm) (no := 1 + (k : Int)) hlj
              have hc := HJ7.out.next hy.1 hy.2.1 (by rw [hy.2.2]; omega) (by rw [hy.2.2]; omega)
              rw [atY_next hlj] at hc
              have HC := Lib.hid hc
              clear hc hy
              dsimp only
              go_wp2_with fail
              refine HC.out.mono ?_
              rintro e w8 ⟨rfl, hj8, _⟩
              have HJ8 := Lib.hid hj8
              clear hj8 HC HJ7
              dsimp only
              go_wp2
              go_roundw
              case rel => exact ⟨j + 1, by omega, by go_num, HJ8⟩
              case measure => simp [intOf]; omega
            · obtain rfl : j = 8 := by omega
              obtain ⟨c0, c1, c2⟩ := HJ.out.cells
              have hy8 : atY T tm (1 + (k : Int)) 8 = ⟨nx, 1 + (k : Int) + 1, 1, dry0⟩ := by rw [← HNE.out]; rfl
              rw [hy8] at c0 c1 c2
              dsimp only at c0 c1 c2
              have HJ9 := Lib.hid (show PhJ V wr lo g1 q t T ⟨nx, 1 + ((k + 1 : Nat) : Int), 1, dry0⟩ (fun _ => False) by
                have h1 := HJ.out
                rw [hy8, show 1 + (k : Int) + 1 = 1 + ((k + 1 : Nat) : Int) by omega] at h1
                exact h1)
              clear hy8 HJ
              go_wp2
              go_roundw
              case rel => exact ⟨k + 1, nx, by omega, by go_num, HJ9⟩
              case measure => simp [intOf]; omega
        · obtain rfl : r = k := by omega
          have e1 : decide ((r : Int) < r) = false := decide_eq_false (by omega)
          have HB9 := Lib.hid (HJ.out.below HBV.out HLV.out)
          go_wp2
          go_ret
          exact ⟨rfl, HB9.out⟩
end Go.Proofs.Ytdlkdilgjmmlaaa
