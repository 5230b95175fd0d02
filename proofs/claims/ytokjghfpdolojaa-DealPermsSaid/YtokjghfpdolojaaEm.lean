/- The law DealShuffles, walked: for every two lists of numbers it returns true, and only new memory is made. -/
import Derived.Test.YtokjghfpdolojaaEl
import Derived.Test.YtokjghfpdolojaaEh
import Derived.Test.YtokjghfpdolojaaEj
namespace Go.Proofs.Ytokjghfpdolojaa
open Go.RowKit

theorem ints_far {w w1 w2 : World} {b : Nat} {v : Value} {l : List Int} (h : IntsAt w v l) (hb : Below w.heap.size w w1) (hg : w1.grownBy w2 (some b)) (hlt : w.heap.size ≤ b) : IntsAt w2 v l := by
  rcases h with h | ⟨r, off, cap, rfl, hr, hc⟩
  · exact .inl h
  · have h1 : IntsAt w1 (.slice (some ⟨r, off, none⟩) (intsV l).length cap) l := IntsAt.later (.inr ⟨r, off, cap, rfl, hr, hc⟩) hb
    exact ints_grown h1 hg (apart_far (.inr ⟨r, off, cap, rfl, hr, hc⟩) hlt)
theorem below_grown_new {w w1 w' : World} {v : Value} (hg : w1.grownBy w' v.ownBlock) (h1 : Below w.heap.size w w1) (hv : ∀ k, v.ownBlock = some k → w.heap.size ≤ k) : Below w.heap.size w w' :=
  h1.grown hg h1.size hv
theorem swapL_count {α : Type} [Inhabited α] [BEq α] [LawfulBEq α] (x : List α) (i j : Nat) (hi : i < x.length) (hj : j < x.length) (a : α) : (swapL x i j).count a = x.count a := by
  unfold swapL
  have e1 : x.getD j default = x[j] := by simp [List.getD, hj]
  have e2 : x.getD i default = x[i] := by simp [List.getD, hi]
  rw [e1, e2]
  exact (List.set_set_perm hi hj).count_eq a
theorem shufL_count {α : Type} [Inhabited α] [BEq α] [LawfulBEq α] (a : α) : ∀ (i : Nat) (x : List α) (m : List Int), i < x.length → (shufL i x m).count a = x.count a
  | 0, _, _, _ => rfl
  | i + 1, x, m, h => by
    have hd := drawN_in (m.headD 0) ((i : Int) + 1 + 1) (by omega)
    show (shufL i (swapL x (i + 1) (drawN (m.headD 0) ((i : Int) + 1 + 1)).toNat) m.tail).count a = _
    rw [shufL_count a i _ _ (by rw [swapL_len]; omega), swapL_count x _ _ h (by omega)]
theorem shuf_counts (a : Int) (l m : List Int) : (shufL (l.length - 1) l m).count a = l.count a := by
  cases l with
  | nil => rfl
  | cons x r => exact shufL_count a _ _ _ (by simp)
def ShIs (w wr : World) (lo bd : Nat) (v' g : Value) (l m L : List Int) : Prop :=
  DrawsAt wr lo bd (m.drop (l.length - 1)) (l.length - 1) ∧ IntsAt wr v' l ∧ IntsAt wr g L ∧ Below w.heap.size w wr ∧ w.heap.size ≤ lo

set_option maxRecDepth 100000 in
set_option maxHeartbeats 8000000 in
theorem dealShuffles_walk {v u : Value} {l m : List Int} {w : World} (hv : IntsAt w v l) (hu : IntsAt w u m) (hl : l.length ≤ 9223372036854775807) (hm : m.length ≤ 9223372036854775807) :
    Calls Try.prog 4 #[v, u] w (RetB w true) := by
  obtain ⟨xa, xc, rfl⟩ := hv.form
  obtain ⟨ya, yc, rfl⟩ := hu.form
  have HV := Lib.hid hv
  have HU := Lib.hid hu
  clear hv hu
  by_cases hl1 : 100 < l.length
  · have b1 : decide ((100 : Int) < l.length) = true := decide_eq_true (by omega)
    clear hl1
    go_enter Try.func4, Try.ntmps4
    go_wp2_with fail
    refine (awake4_any _).mono ?_
    rintro e w1 ⟨rfl, hb1⟩
    go_wp2
    go_ret
    exact ⟨rfl, hb1⟩
  have b1 : decide ((100 : Int) < l.length) = false := decide_eq_false (by omega)
  by_cases hm1 : 200 < m.length
  · have b2 : decide ((200 : Int) < m.length) = true := decide_eq_true (by omega)
    clear hl1 hm1
    go_enter Try.func4, Try.ntmps4
    go_wp2_with fail
    refine (awake4_any _).mono ?_
    rintro e w1 ⟨rfl, hb1⟩
    go_wp2
    go_ret
    exact ⟨rfl, hb1⟩
  have b2 : decide ((200 : Int) < m.length) = false := decide_eq_false (by omega)
  have l1 : l.length ≤ 100 := by omega
  have m1 : m.length ≤ 200 := by omega
  clear hl1 hm1
  go_enter Try.func4, Try.ntmps4
  go_wp2_with fail
  refine (awake4_any _).mono ?_
  rintro e w1 ⟨rfl, hb1⟩
  have HB1 := Lib.hid hb1
  clear hb1
  go_wp2_with (at_builtin; refine wpList_append_ints rfl _ _ rfl rfl w1.heap.size (.slice (some ⟨w1.heap.size, 0, none⟩) 0 0) 0 [] rfl (own_empty1 rfl (Nat.le_refl _)) xa _ xc l rfl rfl (HV.out.later (below_alloc2 HB1.out _)) (by omega) (by simp) ?f)
  case f =>
    intro v' w2 hown hgrow _
    have HB2 := Lib.hid (below_grown_new hgrow (below_alloc2 HB1.out _) (fun k e => by simp [Value.ownBlock] at e; have := HB1.out.size; omega))
    have HI2 := Lib.hid (show IntsAt w2 v' l from own_vals hown (by rw [intsV_len]))
    obtain ⟨za, zc, rfl⟩ := HI2.out.form
    clear hown hgrow
    go_wp2_with fail
    refine (new_any (HU.out.later HB2.out) (by omega)).mono ?_
    rintro e w3 ⟨bd, rfl, hd3, hlo3, hb3⟩
    have HD3 := Lib.hid hd3
    have HLO3 := Lib.hid hlo3
    have HB3 := Lib.hid hb3
    clear hd3 hlo3 hb3
    go_wp2_with fail
    refine (shuffle_int (HI2.out.later HB3.out) (by omega) HD3.out (by omega) (by omega)).mono ?_
    rintro e w4 ⟨rfl, hr4, hd4, hg4⟩
    obtain ⟨L, hL⟩ : ∃ L, shufL (l.length - 1) l m = L := ⟨_, rfl⟩
    have hLL : L.length = l.length := by rw [← hL, shufL_len]
    rw [hL] at hr4
    have HL := Lib.hid hL
    have HI4 := Lib.hid (show IntsAt w4 (.slice (some ⟨w3.heap.size, 0, none⟩) l.length l.length) L from by
      have := RowAt.vals hr4 l.length
      rw [List.length_map, hLL] at this
      exact this)
    have HD4 := Lib.hid hd4
    have hbd3 := HD3.out.lt
    have HW4 := Lib.hid (show IntsAt w4 (.slice za l.length zc) l from ints_far HI2.out HB3.out hg4 HLO3.out)
    have HB4 := Lib.hid (grown_to (stepB HB2.out HB3.out) hg4 (by have := HLO3.out; have := HB2.out.size; omega))
    have HLL := Lib.hid hLL
    clear hr4 hd4 hg4 hL hLL
    go_wp2_with fail
    refine (refShuffle_any (k := 0) (RowAt.new w4 _ [.slice ya m.length yc, .int .i64 0]) (HU.out.later (below_alloc2 HB4.out _)) (HV.out.later (below_alloc2 HB4.out _)) (apart_far HU.out HB4.out.size) (by omega) (by omega)).mono ?_
    rw [List.drop_zero, HL.out]
    rintro e w5 ⟨v5, rfl, hi5, hg5⟩
    have HI5 := Lib.hid hi5
    have HB5 := Lib.hid (grown_to (below_alloc2 HB4.out (.cells #[.slice ya m.length yc, .int .i64 0] 28)) hg5 HB4.out.size)
    have HD5 := Lib.hid ((HD4.out.later (below_new w4 (.cells #[.slice ya m.length yc, .int .i64 0] 28))).grown hg5 (.inr HD4.out.lt))
    have HG5 := Lib.hid (ints_far HI4.out (below_new w4 _) hg5 (Nat.le_refl _))
    have HW5 := Lib.hid (ints_far HW4.out (below_new w4 _) hg5 (Nat.le_refl _))
    clear hi5 hg5 HD4 HI4 HW4
    go_wp2_with fail
    refine (ints_same HG5.out HI5.out (by rw [HLL.out]; omega)).mono ?_
    rintro e w6 ⟨rfl, n6, rfl⟩
    have HB6 := Lib.hid (below_drewN HB5.out n6)
    have hd6 : Below w5.heap.size w5 (w5.drewN n6) := below_drewN (Below.refl _ _) n6
    have HS6 := Lib.hid (And.intro (HD5.out.later hd6) (And.intro (HG5.out.later hd6) (HW5.out.later hd6)))
    clear hd6 HD5 HG5 HW5 HI5
    go_wp2_with fail
    refine (ints_same HS6.out.2.2 (HV.out.later HB6.out) (by omega)).mono ?_
    rintro e w7 ⟨rfl, n7, rfl⟩
    have HB7 := Lib.hid (below_drewN HB6.out n7)
    have hd7 : Below (w5.drewN n6).heap.size (w5.drewN n6) ((w5.drewN n6).drewN n7) := below_drewN (Below.refl _ _) n7
    have HD7 := Lib.hid (HS6.out.1.later hd7)
    have HG7 := Lib.hid (HS6.out.2.1.later hd7)
    obtain ⟨w7, hw7⟩ : ∃ w7, (w5.drewN n6).drewN n7 = w7 := ⟨_, rfl⟩
    rw [hw7] at HB7 HD7 HG7
    rw [hw7]
    have HLO := Lib.hid (show w.heap.size ≤ bd by have := HLO3.out; have := HB2.out.size; omega)
    obtain ⟨a, ha⟩ : ∃ a, 0 + (l.length - 1) = a := ⟨_, rfl⟩
    rw [ha] at HD7
    have HA := Lib.hid (show l.length - 1 = a by omega)
    rw [HA.out] at HD7
    have a1 : a ≤ 100 := by omega
    have e1 : ((a : Int) != max ((l.length : Int) - 1) 0) = false := by
      rw [bne_eq_false_iff_eq]; omega
    have e2 : (a : Int) ≤ max ((l.length : Int) - 1) 0 := by omega
    have e3 : max ((l.length : Int) - 1) 0 ≤ a := by omega
    clear ha
    have l2 : (l.length : Int) ≤ 100 := by omega
    have l0 : (0 : Int) ≤ l.length := by omega
    clear hd7 HS6 HB6 hw7
    go_wp2_with (go_at_call 12; refine (taken_any HD7.out).mono ?_; rintro e w' ⟨rfl, rfl⟩)
    · have h0 : l.length = 0 := by omega
      obtain rfl : l = [] := List.eq_nil_of_length_eq_zero h0
      obtain rfl : a = 0 := by have := HA.out; simpa using this.symm
      refine wp_loop_rounds 1 ?_
      rw [rounds_succ]
      go_wp2_with (first
        | (go_at_call 12; refine (taken_any HD7.out).mono ?_; rintro e w' ⟨rfl, rfl⟩)
        | (go_at_call 18; refine (pick_none _ _ _ _).mono ?_; rintro e w' ⟨rfl, rfl⟩))
      go_ret
      exact ⟨rfl, HB7.out⟩
    · go_loop [57] (fun i => ∃ k : Nat, k ≤ l.length ∧ i = .int .i64 k) (fun i => l.length - (intOf i).toNat)
      case atStart => exact ⟨0, Nat.zero_le _, rfl⟩
      case round =>
        obtain ⟨k, hk, rfl⟩ := hrel
        by_cases hlt : k < l.length
        · obtain ⟨r, off, rfl, hrl, c0⟩ := (HV.out.later HB7.out).at k hlt
          have HVV := Lib.hid (HV.out.later HB7.out)
          obtain ⟨x, hx⟩ : ∃ x, l[k] = x := ⟨_, rfl⟩
          rw [hx] at c0
          clear hx
          have d0 : (0 : Int) ≤ k := by omega
          have d1 : (k : Int) < l.length := by omega
          have HCT := Lib.hid (show L.count x = l.count x by rw [← HL.out]; exact shuf_counts x l m)
          go_wp2_with (first
            | (go_at_call 17; (with_reducible refine (many_any x HG7.out (by rw [HLL.out]; omega)).mono ?_); rw [HCT.out]; rintro e w' ⟨rfl, rfl⟩)
            | (go_at_call 17; (with_reducible refine (many_any x HVV.out (by omega)).mono ?_); rintro e w' ⟨rfl, rfl⟩))
          go_round
          case rel => exact ⟨k + 1, by omega, by go_num⟩
          case measure => simp [intOf]; omega
        · obtain rfl : k = l.length := by omega
          have hl0 : 0 < l.length := by omega
          have hlo := drawN_in ((m.drop a).headD 0) l.length (by omega)
          obtain ⟨j, hj⟩ : ∃ j : Nat, drawN ((m.drop a).headD 0) l.length = (j : Int) := ⟨(drawN ((m.drop a).headD 0) l.length).toNat, by omega⟩
          rw [hj] at hlo
          have HJ := Lib.hid hj
          have j0 : (0 : Int) ≤ j := by omega
          have j1 : (j : Int) < l.length := by omega
          have jl : j < l.length := by omega
          have e0 : ((l.length : Int) == 0) = false := beq_eq_false_iff_ne.2 (by omega)
          clear hj hlo hlt
          go_wp2_with (go_at_call 12; refine (taken_any HD7.out).mono ?_; rintro e w' ⟨rfl, rfl⟩)
          refine (pick_any (HV.out.later HB7.out) hl0 (by omega) HD7.out (by omega) (by rw [List.length_drop]; omega) (apart_far HV.out HLO.out)).mono ?_
          rintro e w8 ⟨x, rfl, hx, hd8, hg8⟩
          rw [HJ.out, Int.toNat_natCast] at hx
          have HD8 := Lib.hid hd8
          have HB8 := Lib.hid (grown_to HB7.out hg8 HLO.out)
          have HX := Lib.hid hx
          clear hd8 hg8 hx
          go_wp2_with fail
          refine (refBelow_any (l := m) (k := a) _ (RowAt.new w8 _ [.slice ya m.length yc, .int .i64 a]) (HU.out.later (below_alloc2 HB8.out _)) (by omega) (by omega)).mono ?_
          rw [HJ.out]
          rintro e w9 ⟨rfl, _, hg9, _⟩
          have HB9 := Lib.hid (grown_to (below_alloc2 HB8.out (.cells #[.slice ya m.length yc, .int .i64 a] 28)) hg9 HB8.out.size)
          have HD9 := Lib.hid ((HD8.out.later (below_new w8 (.cells #[.slice ya m.length yc, .int .i64 a] 28))).grown hg9 (.inr HD8.out.lt))
          obtain ⟨r, off, rfl, hrl, c0⟩ := (HV.out.later HB9.out).at j jl
          have hxj : l[j] = x := by
            have h := HX.out
            rw [List.getElem?_eq_getElem jl] at h
            injection h
          rw [hxj] at c0
          clear hg9 hxj
          go_wp2_with (go_at_call 12; refine (taken_any HD9.out).mono ?_; rintro e w' ⟨rfl, rfl⟩)
          go_ret
          exact ⟨rfl, HB9.out⟩
end Go.Proofs.Ytokjghfpdolojaa
