/- The law PileLists (layer 5), walked: for every list of numbers it returns true, and only new memory is made. -/
import Derived.Test.YtphcdeppilaceaaFf
namespace Go.Proofs.Ytphcdeppilaceaa
open Go.RowKit

theorem ins_end (L : List Int) (x : Int) : insL L L.length x = L ++ [x] := by simp [insL]
theorem lay_nodup {L : List Int} (x : Int) (h : L.Nodup) : (layL L L.length x).Nodup := by
  unfold layL
  split
  · exact h
  · rw [ins_end, List.nodup_append]
    refine ⟨h, by simp, fun a ha b hb e => ?_⟩
    rw [List.mem_singleton] at hb
    subst hb; subst e
    contradiction
theorem once_from : ∀ (l L : List Int), L.Nodup → (l.foldl (fun L x => layL L L.length x) L).Nodup
  | [], _, h => h
  | x :: l, _, h => once_from l _ (lay_nodup x h)
theorem once_nodup (l : List Int) : (onceL l).Nodup := once_from l [] List.nodup_nil
theorem drop_cons {L : List Int} {i : Nat} (h : i < L.length) : L.drop i = L[i] :: L.drop (i + 1) := List.drop_eq_getElem_cons h
theorem nodup_next {L : List Int} {i : Nat} (hn : L.Nodup) (h : i < L.length) : L[i] ∉ L.drop (i + 1) := by
  have h1 : (L.drop i).Nodup := hn.sublist (List.drop_sublist i L)
  rw [drop_cons h] at h1
  exact (List.nodup_cons.1 h1).1
theorem away_base {v : Value} {w : World} {base n b : Nat} {t : TypeId} {g : Option Nat} {xs : List Value} (h : w.ownsRow base t 1 v n xs) (hb : b < base) (hg : ∀ k, g = some k → k < base) : Away v b g := fun k hk => by
  have h1 := (World.ownsRow.lt h k hk).1
  exact ⟨by omega, fun e => by have := hg k e; omega⟩

set_option maxRecDepth 100000 in
set_option maxHeartbeats 4000000 in
theorem pileLists_walk {u : Value} {l : List Int} {w : World} (hu : IntsAt w u l) (hl : l.length ≤ 9223372036854775807) :
    Calls Try.prog 7 #[u] w (RetV w (.bool true)) := by
  obtain ⟨ya, yc, rfl⟩ := hu.form
  have HU := Lib.hid hu
  clear hu
  by_cases hg : 60 < l.length
  · have b1 : decide ((60 : Int) < l.length) = true := decide_eq_true (by omega)
    go_enter Try.func7, Try.ntmps7
    go_wp2_with fail
    refine (awake5_any _).mono ?_
    rintro e w1 ⟨rfl, hb1⟩
    go_wp2
    go_ret
    exact ⟨rfl, hb1⟩
  have b1 : decide ((60 : Int) < l.length) = false := decide_eq_false (by omega)
  have l1 : l.length ≤ 60 := by omega
  clear hg
  go_enter Try.func7, Try.ntmps7
  go_wp2_with fail
  refine (awake5_any _).mono ?_
  rintro e w1 ⟨rfl, hb1⟩
  have HB1 := Lib.hid hb1
  have HN1 := Lib.hid (new_any (HU.out.later hb1) (by omega))
  clear hb1
  go_wp2_with fail
  refine HN1.out.mono ?_
  rintro e w2 ⟨b, g, rfl, hp2, hb2⟩
  have HP2 := Lib.hid hp2
  have HB2 := Lib.hid (stepB HB1.out hb2)
  have HLO := Lib.hid (And.intro (show w.heap.size ≤ b from Nat.le_trans HB1.out.size hp2.lo) (fun k (hk : g = some k) => Nat.le_trans HB1.out.size (hp2.row k hk).1))
  clear hp2 hb2
  go_wp2
  go_loopw [22, 4] (fun i r wr => ∃ (k n : Nat) (za : Option Addr) (zc : Nat), k ≤ l.length ∧ n ≤ k ∧ i = .int .i64 k ∧ r = .slice za n zc ∧ Hid ((onceL (l.take k)).length = n) ∧
      Hid (wr.ownsRow w2.heap.size 3 1 (.slice za n zc) n (intsV (onceL (l.take k)))) ∧ Hid (Below w2.heap.size w2 wr)) (fun i _ _ => l.length - (intOf i).toNat)
  case atStart => exact ⟨0, 0, none, 0, Nat.zero_le _, Nat.zero_le _, rfl, rfl, Lib.hid rfl, Lib.hid (World.ownsRow_nil _ _ _ _), Lib.hid (Below.refl _ _)⟩
  case round =>
    obtain ⟨k, n, za, zc, hk, hnk, rfl, rfl, HN, HO, HB⟩ := hrel
    by_cases hlt : k < l.length
    · obtain ⟨r, off, hya, _, c0⟩ := (HU.out.later (stepB HB2.out HB.out)).at k hlt
      have htk := take_last l k hlt
      obtain ⟨y, hy⟩ : ∃ y, l[k] = y := ⟨_, rfl⟩
      rw [hy] at c0 htk
      have hst := onceL_snoc (l.take k) y
      rw [← htk] at hst
      have hh := hasRef_any y (own_ints HO.out) (by have := HN.out; omega)
      subst hya
      by_cases hyx : y ∈ onceL (l.take k)
      · have HE := Lib.hid (show onceL (l.take (k + 1)) = onceL (l.take k) by rw [hst]; exact if_pos hyx)
        rw [decide_eq_true hyx] at hh
        have HH := Lib.hid hh
        clear hy htk hst hyx hh
        go_wp2_with fail
        refine HH.out.mono ?_
        rintro e w3 ⟨rfl, rfl⟩
        go_wp2
        go_roundw
        case rel => exact ⟨k + 1, n, za, zc, by omega, by omega, by go_num, rfl, Lib.hid (by rw [HE.out]; exact HN.out), Lib.hid (by rw [HE.out]; exact HO.out), HB⟩
        case measure => simp [intOf]; omega
      · have HE := Lib.hid (show onceL (l.take (k + 1)) = onceL (l.take k) ++ [y] by rw [hst, ← ins_end]; exact if_neg hyx)
        rw [decide_eq_false hyx] at hh
        have HH := Lib.hid hh
        clear hy htk hst hyx hh
        go_wp2_with fail
        refine HH.out.mono ?_
        rintro e w3 ⟨rfl, rfl⟩
        go_wp2_with (at_builtin; refine wpList_append_ints rfl _ _ rfl rfl w2.heap.size _ _ (intsV (onceL (l.take k))) rfl (HO.out.alloc _) _ 1 1 [y] rfl rfl ((RowAt.new w3 3 (intsV [y])).vals 1) (by simp; omega) (by have := HB.out.size; simp; omega) ?f)
        case f =>
          intro v' w5 hown hgrow _
          have HO5 := Lib.hid (show w5.ownsRow w2.heap.size 3 1 v' (n + 1) (intsV (onceL (l.take (k + 1)))) from by
            rw [HE.out]; unfold intsV; rw [List.map_append]; exact hown)
          have HB5 := Lib.hid ((HB.out.alloc HB.out.size (.cells #[.int .i64 y] 3)).grown hgrow (Nat.le_trans HB.out.size (by simp)) (fun g e => (World.ownsRow.lt (HO.out.alloc (.cells #[.int .i64 y] 3)) g e).1))
          obtain ⟨g', cap', rfl⟩ := ownsRow_succ hown
          clear hown hgrow
          go_wp2
          go_roundw
          case rel => exact ⟨k + 1, n + 1, _, _, by omega, by omega, by go_num, rfl, Lib.hid (by rw [HE.out, List.length_append, HN.out]; rfl), HO5, HB5⟩
          case measure => simp [intOf]; omega
    · obtain rfl : k = l.length := by omega
      obtain ⟨wA, rfl⟩ : ∃ wA, wA = wr := ⟨_, rfl⟩
      obtain ⟨W, hW⟩ : ∃ W, onceL l = W := ⟨_, rfl⟩
      have ho := HO.out
      have hn := HN.out
      have hnd := once_nodup l
      have hp := HP2.out.later HB.out
      rw [List.take_length, hW] at ho hn
      rw [hW] at hp hnd
      have HND := Lib.hid hnd
      have HPA := Lib.hid hp
      have HIA := Lib.hid (own_ints ho)
      have HAW := Lib.hid (away_base ho HP2.out.lt (fun k hk => (HP2.out.row k hk).2.1))
      have HLL := Lib.hid hn
      have HLA := Lib.hid (list_any hp (by omega))
      clear ho hnd hp hn hW HN HO
      go_wp2_with fail
      refine HLA.out.mono ?_
      rintro e w3 ⟨v3, rfl, ho3, hb3⟩
      have HB3 := Lib.hid hb3
      have hin := ints_same (own_ints ho3) (HIA.out.later hb3) (by have := HLL.out; omega)
      have HIN := Lib.hid hin
      obtain ⟨xa3, xc3, rfl⟩ := (own_ints ho3).form
      clear hb3 ho3 hin
      go_wp2_with fail
      refine HIN.out.mono ?_
      rintro e w4 ⟨rfl, nd, hw4⟩
      have HB4 := Lib.hid (show Below wA.heap.size wA w4 by rw [hw4]; exact below_drewN HB3.out nd)
      clear hw4
      go_wp2
      go_loopw [42] (fun i wr => ∃ k : Nat, k ≤ n ∧ i = .int .i64 k ∧ Hid (PileAt wr w1.heap.size b g (W.drop k)) ∧ Hid (IntsAt wr (.slice za n zc) W) ∧ Hid (Below w.heap.size w wr)) (fun i _ => n - (intOf i).toNat)
      case atStart => exact ⟨0, Nat.zero_le _, rfl, Lib.hid (by rw [List.drop_zero]; exact HPA.out.later HB4.out), Lib.hid (HIA.out.later HB4.out), Lib.hid (stepB (stepB HB2.out HB.out) HB4.out)⟩
      case round =>
        obtain ⟨k, hk', rfl, HP, HI, HBW⟩ := hrel
        by_cases hlt3 : k < n
        · have hkW : k < W.length := by rw [HLL.out]; exact hlt3
          have hi := HI.out
          obtain ⟨r, off, hza, _, c0⟩ := (show IntsAt wr (.slice za W.length zc) W by rw [HLL.out]; exact hi).at k hkW
          have hp := HP.out
          have hnn := nodup_next HND.out hkW
          rw [drop_cons hkW] at hp
          obtain ⟨x, hx⟩ : ∃ x, W[k] = x := ⟨_, rfl⟩
          obtain ⟨R, hR⟩ : ∃ R, W.drop (k + 1) = R := ⟨_, rfl⟩
          rw [hx, hR] at hp hnn
          rw [hx] at c0
          have hRl : R.length = n - (k + 1) := by rw [← hR, List.length_drop, HLL.out]
          have hpop := pop_any hp (by simp; omega)
          rw [show (x :: R).headD 0 = x from rfl, show decide (0 < (x :: R).length) = true by simp, show (x :: R).tail = R from rfl] at hpop
          have HPOP := Lib.hid hpop
          have HNN := Lib.hid (decide_eq_false hnn)
          have HRL := Lib.hid hRl
          have HR := Lib.hid hR
          have e1 : ((R.length : Int) != (n : Int) - 1 - (k : Int)) = false := by rw [bne_eq_false_iff_eq]; omega
          subst hza
          clear hi hp hnn hx hR hRl hpop
          go_wp2_with fail
          refine HPOP.out.mono ?_
          rintro e w5 ⟨rfl, hp5, hc5⟩
          have HP5 := Lib.hid hp5
          have HI5 := Lib.hid (vals_chg HI.out hc5 HAW.out)
          have HB5 := Lib.hid (hc5.below HBW.out HLO.out.1 HLO.out.2)
          have hhas := has_any x hp5 (by have := HRL.out; omega)
          rw [HNN.out] at hhas
          have HH := Lib.hid hhas
          clear hp5 hc5 hhas
          go_wp2_with fail
          refine HH.out.mono ?_
          rintro e w6 ⟨rfl, hb6⟩
          have HP6 := Lib.hid (HP5.out.later hb6)
          have HI6 := Lib.hid (IntsAt.later HI5.out hb6)
          have HB6 := Lib.hid (stepB HB5.out hb6)
          have HL6 := Lib.hid (len_any HP6.out)
          clear hb6
          go_wp2_with fail
          refine HL6.out.mono ?_
          rintro e w7 ⟨rfl, rfl⟩
          go_wp2
          go_roundw
          case rel => exact ⟨k + 1, by omega, by go_num, Lib.hid (by rw [HR.out]; exact HP6.out), HI6, HB6⟩
          case measure => simp [intOf]; omega
        · obtain rfl : n = k := by omega
          have hp := HP.out
          rw [List.drop_of_length_le (by rw [HLL.out]; exact Nat.le_refl _)] at hp
          have HPOP := Lib.hid (pop_any hp (by simp))
          clear hp
          go_wp2_with fail
          refine HPOP.out.mono ?_
          rintro e w5 ⟨rfl, hp5, hc5⟩
          have HB5 := Lib.hid (hc5.below HBW.out HLO.out.1 HLO.out.2)
          clear hp5 hc5
          go_wp2
          go_ret
          exact ⟨by simp, HB5.out⟩
end Go.Proofs.Ytphcdeppilaceaa
