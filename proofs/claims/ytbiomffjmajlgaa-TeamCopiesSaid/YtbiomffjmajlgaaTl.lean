/- The law TeamCopies (layer 9), walked. -/
import Derived.Test.YtbiomffjmajlgaaTk
import Derived.IntWalk
namespace Go.Proofs.Ytbiomffjmajlgaa
open Go.RowKit
attribute [local go_sem] Oper.semAt_some

theorem and_in (x : Int) (m : Nat) (hm : m < 1000) : 0 ≤ bits .and .i64 x m ∧ bits .and .i64 x m ≤ m := by
  have h : ((BitVec.ofInt 64 x) &&& (BitVec.ofInt 64 m)).toNat ≤ m := by
    rw [BitVec.toNat_and]
    refine Nat.le_trans Nat.and_le_right ?_
    rw [BitVec.toNat_ofInt]
    omega
  have e : bits .and .i64 x m = IntKind.i64.wrap (((BitVec.ofInt 64 x) &&& (BitVec.ofInt 64 m)).toNat) := rfl
  rw [e]
  obtain ⟨n, hn⟩ : ∃ n, ((BitVec.ofInt 64 x) &&& (BitVec.ofInt 64 m)).toNat = n := ⟨_, rfl⟩
  rw [hn] at h ⊢
  have hw : IntKind.i64.wrap (n : Int) = n := by rw [IntKind.wrap_i64]; omega
  rw [hw]
  omega
/-- What two teams share, when number k has the life x. -/
def two9 (k : Int) (x : Int) (o : Bool) : List ShareL := if k = 0 then [⟨x, 0, o⟩, ⟨9, 0, false⟩] else [⟨9, 0, false⟩, ⟨x, 0, o⟩]
theorem new_two (S : List Int) (k : Int) : newT S [9, 9] = ⟨S, two9 k 9 false⟩ := by unfold two9 newT shOf; split <;> rfl
theorem two_gain (S : List Int) {k x : Int} (n : Int) (hk : k = 0 ∨ k = 1) : gainT ⟨S, two9 k x false⟩ k n = ⟨S, two9 k (addZ x n) false⟩ := by rcases hk with rfl | rfl <;> rfl
theorem two_in (S : List Int) {k x : Int} {o : Bool} (hk : k = 0 ∨ k = 1) : inL ⟨S, two9 k x o⟩ k = true := by rcases hk with rfl | rfl <;> rfl
theorem two_life (S : List Int) {k x : Int} {o : Bool} (hk : k = 0 ∨ k = 1) : lifeT ⟨S, two9 k x o⟩ k = x := by rcases hk with rfl | rfl <;> rfl
theorem two_lost (S : List Int) {k x : Int} {o : Bool} (hk : k = 0 ∨ k = 1) : lostT ⟨S, two9 k x o⟩ k = o := by rcases hk with rfl | rfl <;> rfl
theorem two_lose (S : List Int) {k x : Int} {o : Bool} (hk : k = 0 ∨ k = 1) : loseT ⟨S, two9 k x o⟩ k = ⟨S, two9 k x true⟩ := by rcases hk with rfl | rfl <;> rfl
theorem two_over (S : List Int) {k x : Int} (hk : k = 0 ∨ k = 1) : overT ⟨S, two9 k x false⟩ = false := by rcases hk with rfl | rfl <;> rfl
theorem two_unlike (S : List Int) {k x : Int} {o : Bool} (hk : k = 0 ∨ k = 1) (h : x ≠ 9 ∨ o = true) : sameT ⟨S, two9 k x o⟩ ⟨S, two9 k 9 false⟩ = false := by
  unfold sameT
  rw [Bool.and_eq_false_iff]
  right
  refine decide_eq_false fun e => ?_
  rcases hk with rfl | rfl <;> simp [two9] at e <;> rcases h with h | h <;> simp_all
set_option maxRecDepth 100000 in
set_option maxHeartbeats 32000000 in
theorem teamCopies_walk {v : Value} {S : List Int} {a0 a1 a2 b0 b1 b2 : Int} {w : World} (hv : IntsAt w v S) (hS : S.length ≤ 9223372036854775807) :
    Calls Try.prog 5 #[v, .agg #[.int .i64 a0, .int .i64 a1, .int .i64 a2], .agg #[.int .i64 b0, .int .i64 b1, .int .i64 b2]] w (RetV w (.bool true)) := by
  obtain ⟨z, hz⟩ : ∃ z : Bool, z = true ↔ MayP S [9, 9] := by
    by_cases h : MayP S [9, 9]
    · exact ⟨true, by simp [h]⟩
    · exact ⟨false, by simp [h]⟩
  have HZ := Lib.hid hz
  obtain ⟨k, hk⟩ : ∃ k, bits .and .i64 a1 1 = k := ⟨_, rfl⟩
  obtain ⟨m, hm⟩ : ∃ m, bits .and .i64 b2 7 = m := ⟨_, rfl⟩
  have hk1 : k = 0 ∨ k = 1 := by
    have := and_in a1 1 (by decide)
    rw [show ((1 : Nat) : Int) = 1 from rfl, hk] at this
    omega
  have hm7 : 0 ≤ m ∧ m ≤ 7 := by
    have := and_in b2 7 (by decide)
    rw [show ((7 : Nat) : Int) = 7 from rfl, hm] at this
    exact this
  have HK1 := Lib.hid hk1
  have hn2 : ∀ W : World, IntsAt (W.alloc (.cells #[.int .i64 9, .int .i64 9] 3)) (.slice (some ⟨W.heap.size, 0, none⟩) 2 2) [9, 9] := fun W => (RowAt.new W 3 (intsV [9, 9])).vals 2
  have HNEW := Lib.hid (fun (w' : World) (hb : Below w.heap.size w w') => new9_any (hv.later (below_alloc2 hb (.cells #[.int .i64 9, .int .i64 9] 3))) (hn2 w') hS (by simp) hz)
  have HMAY := Lib.hid (fun (w' : World) (hb : Below w.heap.size w w') => may9_any (hv.later (below_alloc2 hb (.cells #[.int .i64 9, .int .i64 9] 3))) (hn2 w') hS (by simp) hz)
  obtain ⟨va, vc, rfl⟩ := hv.form
  clear hv hz hn2
  refine (callsIn_wide (n := 9)).1 ?_
  have hx1 := below_new w (.cells #[.int .i64 a0, .int .i64 a1, .int .i64 a2] 39)
  have hx2 := below_alloc2 hx1 (.cells #[.int .i64 b0, .int .i64 b1, .int .i64 b2] 39)
  have hx3 := below_alloc2 hx2 (.cells #[.bool false] 4)
  have hy2 := below_new (w.alloc (.cells #[.int .i64 a0, .int .i64 a1, .int .i64 a2] 39)) (.cells #[.int .i64 b0, .int .i64 b1, .int .i64 b2] 39)
  have hy3 := below_new ((w.alloc (.cells #[.int .i64 a0, .int .i64 a1, .int .i64 a2] 39)).alloc (.cells #[.int .i64 b0, .int .i64 b1, .int .i64 b2] 39)) (.cells #[.bool false] 4)
  have p1 := heap_alloc_new w (.cells #[.int .i64 a0, .int .i64 a1, .int .i64 a2] 39)
  have p2 := heap_alloc_new (w.alloc (.cells #[.int .i64 a0, .int .i64 a1, .int .i64 a2] 39)) (.cells #[.int .i64 b0, .int .i64 b1, .int .i64 b2] 39)
  have p3 := heap_alloc_new ((w.alloc (.cells #[.int .i64 a0, .int .i64 a1, .int .i64 a2] 39)).alloc (.cells #[.int .i64 b0, .int .i64 b1, .int .i64 b2] 39)) (.cells #[.bool false] 4)
  replace p1 := (hy3.block _ (by simp; omega)).trans ((hy2.block _ (by simp)).trans p1)
  replace p2 := (hy3.block _ (by simp)).trans p2
  simp only [World.size_alloc] at p1 p2 p3
  obtain ⟨q, hq⟩ : ∃ q, w.heap.size = q := ⟨_, rfl⟩
  have HQ := Lib.hid hq
  refine callsIn_of_wp_marks Try.func5 rfl trivial ?_ rfl
  simp only [Try.ntmps5, List.size_toArray, List.length_cons, List.length_nil, Nat.reduceAdd, Nat.reduceSub, Array.replicate_succ, Array.replicate_zero, List.push_toArray, List.append_toArray, List.nil_append, List.cons_append]
  refine wpIn_wide.2 ?_
  go_wp2_with fail
  refine (awake9_any _).mono ?_
  rintro e w1 ⟨rfl, hb1⟩
  have HB1 := Lib.hid (stepB hx3 hb1)
  have HP1 := Lib.hid ((hb1.block _ (by simp; omega)).trans p1)
  have HP2 := Lib.hid ((hb1.block _ (by simp)).trans p2)
  have HP3 := Lib.hid ((hb1.block _ (by simp)).trans p3)
  simp only [hq] at HP1 HP2 HP3 ⊢
  clear hx1 hx2 hx3 hy2 hy3 p1 p2 p3 hb1 hq
  try dsimp only
  go_wp2_with fail
  refine (HNEW.out w1 HB1.out).mono ?_
  rintro e w2 ⟨hyes, hno, hb2⟩
  have HB2 := Lib.hid (stepB (below_alloc2 HB1.out (.cells #[.int .i64 9, .int .i64 9] 3)) hb2)
  have hb12 := stepB (below_new w1 (.cells #[.int .i64 9, .int .i64 9] 3)) hb2
  have HA2 := Lib.hid ((hb12.block _ (Array.getElem?_eq_some_iff.1 HP1.out).1).trans HP1.out)
  have HC2 := Lib.hid ((hb12.block _ (Array.getElem?_eq_some_iff.1 HP2.out).1).trans HP2.out)
  have HR2 := Lib.hid (show HdAt w2 (q + 1 + 1) (.bool false) from ⟨_, (hb12.block _ (Array.getElem?_eq_some_iff.1 HP3.out).1).trans HP3.out⟩)
  have HLO := Lib.hid (show w.heap.size ≤ (w1.alloc (.cells #[.int .i64 9, .int .i64 9] 3)).heap.size from (below_alloc2 HB1.out (.cells #[.int .i64 9, .int .i64 9] 3)).size)
  obtain ⟨lo, hlo⟩ : ∃ lo, (w1.alloc (.cells #[.int .i64 9, .int .i64 9] 3)).heap.size = lo := ⟨_, rfl⟩
  rw [hlo] at HLO
  simp only [hlo] at hyes
  clear hb12 hb2 HP1 HP2 HP3 hlo
  cases z with
  | false =>
    obtain rfl := hno rfl
    have HM := Lib.hid (HMAY.out w2 HB2.out)
    clear hyes hno HNEW HMAY
    try dsimp only
    go_wp2_with fail
    refine HM.out.mono ?_
    rintro e w3 ⟨rfl, rfl⟩
    have hr3 := HR2.out.later (below_new w2 (.cells #[.int .i64 9, .int .i64 9] 3))
    have c1 := hr3.cell
    have f1 := hr3.frozen
    have HRR := Lib.hid (hr3.set (.bool true))
    have HBR := Lib.hid ((below_alloc2 HB2.out (.cells #[.int .i64 9, .int .i64 9] 3)).setCell (p := ⟨q + 1 + 1, 0, none⟩) (by show w.heap.size ≤ q + 1 + 1; have := HQ.out; omega) (.bool true))
    clear hr3
    try dsimp only
    go_wp2
    exact ⟨_, results_c6 rfl rfl HRR.out, rfl, HBR.out⟩
  | true =>
    obtain ⟨b, s, r, rfl, ht⟩ := hyes rfl
    have HT2 := Lib.hid ht
    clear hyes hno HNEW HMAY ht
    obtain ⟨T, hT⟩ : ∃ T, newT S [9, 9] = T := ⟨_, rfl⟩
    rw [hT] at HT2
    have HTT := Lib.hid hT
    clear hT
    try dsimp only
    go_wp2_with fail
    refine (tcopy_any HT2.out).mono ?_
    rintro e w3 ⟨b', s', r', rfl, ht3, hb3⟩
    have HC3 := Lib.hid ht3
    have HT3 := Lib.hid (HT2.out.later hb3)
    have HS3 := Lib.hid (show b < w2.heap.size ∧ s < w2.heap.size ∧ r < w2.heap.size ∧ q + 1 + 1 < w2.heap.size from ⟨HT2.out.lt, HT2.out.sd.1, HT2.out.ltr, HR2.out.lt⟩)
    have HB3 := Lib.hid (stepB HB2.out hb3)
    have HA3 := Lib.hid ((hb3.block _ (Array.getElem?_eq_some_iff.1 HA2.out).1).trans HA2.out)
    have HCC3 := Lib.hid ((hb3.block _ (Array.getElem?_eq_some_iff.1 HC2.out).1).trans HC2.out)
    have HR3 := Lib.hid (HR2.out.later hb3)
    clear ht3 hb3 HA2 HC2 HR2 HB2 HT2
    try dsimp only
    go_wp2_with fail
    refine (tsame_any HC3.out HT3.out).mono ?_
    rintro e w4 ⟨rfl, hb4⟩
    rw [show sameT T T = true by simp [sameT]]
    have HC4 := Lib.hid (HC3.out.later hb4)
    have HT4 := Lib.hid (HT3.out.later hb4)
    have HB4 := Lib.hid (stepB HB3.out hb4)
    have ha4 := (hb4.block _ (Array.getElem?_eq_some_iff.1 HA3.out).1).trans HA3.out
    have hc4 := (hb4.block _ (Array.getElem?_eq_some_iff.1 HCC3.out).1).trans HCC3.out
    have q1 : w4.cell? ⟨q, 1, none⟩ = some (.int .i64 a1) := by rw [cell_of_row w4 q 1 _ _ _ ha4]; rfl
    have q2 : w4.cell? ⟨q + 1, 2, none⟩ = some (.int .i64 b2) := by rw [cell_of_row w4 (q + 1) 2 _ _ _ hc4]; rfl
    have HR4 := Lib.hid (HR3.out.later hb4)
    clear ha4 hc4 hb4 HA3 HCC3 HR3 HB3 HT3 HC3
    try dsimp only
    go_wp2
    go_quiet (fail)
    go_wp2_with fail
    have HTK := Lib.hid (show T = ⟨S, two9 k 9 false⟩ by rw [← HTT.out]; exact new_two S k)
    rw [HTK.out] at HC4 HT4
    have hbq := drew_below w4 nq
    have HCq := Lib.hid (HC4.out.later hbq)
    have HTq := Lib.hid (HT4.out.later hbq)
    have HRq := Lib.hid (HR4.out.later hbq)
    have HBq := Lib.hid (stepB HB4.out hbq)
    obtain ⟨wq, hwq⟩ : ∃ wq, w4.drewN nq = wq := ⟨_, rfl⟩
    rw [hwq] at HCq HTq HRq HBq ⊢
    clear hbq HC4 HT4 HR4 HB4 hwq q1 q2
    have HQ2 := Lib.hid (show b < w2.heap.size ∧ s < w2.heap.size ∧ r < w2.heap.size from ⟨HS3.out.1, HS3.out.2.1, HS3.out.2.2.1⟩)
    have HCN := Lib.hid (show w.heap.size ≤ w2.heap.size ∧ q + 1 + 1 < w2.heap.size from ⟨by have := HS3.out.2.2.2; have := HQ.out; omega, HS3.out.2.2.2⟩)
    -- Gain
    have hg := tgain_any HCq.out k (1 + m)
    rw [two_gain S (1 + m) HK1.out, if_pos (two_in S HK1.out)] at hg
    have ha1 : addZ 9 (1 + m) = 10 + m := by unfold addZ holdZ; omega
    rw [ha1] at hg
    have HG5 := Lib.hid hg
    clear hg ha1
    go_wp2_with fail
    refine HG5.out.mono ?_
    rintro e w5 ⟨rfl, hc5, hg5⟩
    have HC5 := Lib.hid hc5
    have HT5 := Lib.hid (HTq.out.grown hg5 (by have := HQ2.out; have := hc5.lr; omega) (by have := HQ2.out; have := hc5.lr; omega) (by have := HQ2.out; have := hc5.lr; omega))
    have HR5 := Lib.hid (HdAt.of HRq.out (hg5.block _ HRq.out.lt (by have := HCN.out; have := hc5.lr; simp; omega)))
    have HB5 := Lib.hid (grown_to HBq.out hg5 (by have := HCN.out; have := hc5.lr; omega))
    clear hc5 hg5 HCq HTq HRq HBq HG5
    -- Same
    go_wp2_with fail
    refine (tsame_any HC5.out HT5.out).mono ?_
    rintro e w6 ⟨rfl, hb6⟩
    rw [two_unlike S HK1.out (.inl (by omega))]
    have HC6 := Lib.hid (HC5.out.later hb6)
    have HT6 := Lib.hid (HT5.out.later hb6)
    have HR6 := Lib.hid (HR5.out.later hb6)
    have HB6 := Lib.hid (stepB HB5.out hb6)
    clear hb6 HC5 HT5 HR5 HB5
    -- Life
    go_wp2_with fail
    refine (tlife_any HT6.out k).mono ?_
    rintro e w7 ⟨rfl, rfl⟩
    rw [two_life S HK1.out]
    -- Gain
    have hg := tgain_any HC6.out k (-(1 + m))
    rw [two_gain S (-(1 + m)) HK1.out, if_pos (two_in S HK1.out)] at hg
    have ha1 : addZ (10 + m) (-(1 + m)) = 9 := by unfold addZ holdZ; omega
    rw [ha1] at hg
    have HG5 := Lib.hid hg
    clear hg ha1
    go_wp2_with fail
    refine HG5.out.mono ?_
    rintro e w8 ⟨rfl, hc8, hg8⟩
    have HC8 := Lib.hid hc8
    have HT8 := Lib.hid (HT6.out.grown hg8 (by have := HQ2.out; have := hc8.lr; omega) (by have := HQ2.out; have := hc8.lr; omega) (by have := HQ2.out; have := hc8.lr; omega))
    have HR8 := Lib.hid (HdAt.of HR6.out (hg8.block _ HR6.out.lt (by have := HCN.out; have := hc8.lr; simp; omega)))
    have HB8 := Lib.hid (grown_to HB6.out hg8 (by have := HCN.out; have := hc8.lr; omega))
    clear hc8 hg8 HC6 HT6 HR6 HB6 HG5
    -- Same
    go_wp2_with fail
    refine (tsame_any HC8.out HT8.out).mono ?_
    rintro e w9 ⟨rfl, hb9⟩
    rw [show sameT ⟨S, two9 k 9 false⟩ ⟨S, two9 k 9 false⟩ = true by simp [sameT]]
    have HC9 := Lib.hid (HC8.out.later hb9)
    have HT9 := Lib.hid (HT8.out.later hb9)
    have HR9 := Lib.hid (HR8.out.later hb9)
    have HB9 := Lib.hid (stepB HB8.out hb9)
    clear hb9 HC8 HT8 HR8 HB8
    -- Lose
    have hl := tlose_any HC9.out k
    rw [two_lose S HK1.out, two_lost S HK1.out] at hl
    have HG5 := Lib.hid hl
    clear hl
    go_wp2_with fail
    refine HG5.out.mono ?_
    rintro e w10 ⟨rfl, hc10, hg10⟩
    have HC10 := Lib.hid hc10
    have HT10 := Lib.hid (HT9.out.grown hg10 (by have := HQ2.out; have := hc10.lr; omega) (by have := HQ2.out; have := hc10.lr; omega) (by have := HQ2.out; have := hc10.lr; omega))
    have HR10 := Lib.hid (HdAt.of HR9.out (hg10.block _ HR9.out.lt (by have := HCN.out; have := hc10.lr; simp; omega)))
    have HB10 := Lib.hid (grown_to HB9.out hg10 (by have := HCN.out; have := hc10.lr; omega))
    have HSZ10 := Lib.hid (show w2.heap.size ≤ w10.heap.size from by have := hc10.lb; have := hc10.lt; omega)
    clear hc10 hg10 HC9 HT9 HR9 HB9 HG5
    -- Same
    go_wp2_with fail
    refine (tsame_any HC10.out HT10.out).mono ?_
    rintro e w11 ⟨rfl, hb11⟩
    rw [two_unlike S HK1.out (.inr rfl)]
    have HT11 := Lib.hid (HT10.out.later hb11)
    have HR11 := Lib.hid (HR10.out.later hb11)
    have HB11 := Lib.hid (stepB HB10.out hb11)
    have HSZ11 := Lib.hid (Nat.le_trans HSZ10.out hb11.size)
    clear hb11 HC10 HT10 HR10 HB10
    -- Over
    go_wp2_with fail
    refine (tover_any HT11.out).mono ?_
    rintro e w12 ⟨rfl, hb12⟩
    rw [two_over S HK1.out]
    have HT12 := Lib.hid (HT11.out.later hb12)
    have HR12 := Lib.hid (HR11.out.later hb12)
    have HB12 := Lib.hid (stepB HB11.out hb12)
    have HSZ12 := Lib.hid (Nat.le_trans HSZ11.out hb12.size)
    clear hb12 HT11 HR11 HB11
    -- the range over no teams' foes
    go_wp2_with fail
    refine (foes_any none 0 w12).mono ?_
    rintro e w13 ⟨rfl, hd1, hd2, hb13, hs13⟩
    have HSEQ := Lib.hid (foes_nil_seq 8 (by omega) (c2 := w12.heap.size + 1) (fun l => KpP (fun k => k = l) (fun _ => False)) hd1)
    have HT13 := Lib.hid (HT12.out.later hb13)
    have HR13 := Lib.hid (HR12.out.later hb13)
    have HB13 := Lib.hid (stepB HB12.out hb13)
    have HSZ13 := Lib.hid (Nat.le_trans HSZ12.out hb13.size)
    clear hd1 hd2 hb13 hs13 HT12 HR12 HB12
    try dsimp only
    go_wp2_with fail
    refine (wpIn_wide (n := 9)).1 ?_
    refine range_world3 rfl (by omega) (I := fun (_ : List Int) W => Below w13.heap.size w13 W) (Ix := fun _ _ _ => False) (gf := 42) (lb := _) rfl trivial (fun _ _ => by kernel_rfl) HSEQ.out KpP.trans (fun W' o o' ho hc _ => KpP.put o' rfl ho hc) (fun W W' hb => KpP.of_below _ _ hb) (Below.refl _ _) (fun _ => rfl)
      (ownFrom_below (Nat.le_refl _) (Nat.le_refl _)) (fun c s A B row hs hg hr => hs) (fun s A B row hs hg hr => hs) (fun s A B row hs hg hr => hs) (Below.refl _ _) ?_ ?_ ?_
    · rintro pre x W K hI hT
      exact hT.elim
    · rintro D xs W hD hS hI hK
      have HT14 := Lib.hid (HT13.out.later hI)
      have HR14 := Lib.hid (HR13.out.later hI)
      have HB14 := Lib.hid (stepB HB13.out hI)
      have HD14 := Lib.hid (And.intro hD hK)
      have HW := Lib.hid HB13.out.size
      clear hI hK hD hS HT13 HR13 HB13 HSEQ
      have HWW := HSZ13
      go_wp2_with fail
      refine (len_nil _).mono ?_
      rintro e wn0 ⟨rfl, rfl⟩
      go_wp2_with fail
      refine (seats_nil _).mono ?_
      rintro e wn1 ⟨rfl, rfl⟩
      go_wp2_with fail
      refine (life_nil 0 _).mono ?_
      rintro e wn2 ⟨rfl, rfl⟩
      go_wp2_with fail
      refine (poison_nil 0 _).mono ?_
      rintro e wn3 ⟨rfl, rfl⟩
      go_wp2_with fail
      refine (in_nil 0 _).mono ?_
      rintro e wn4 ⟨rfl, rfl⟩
      go_wp2_with fail
      refine (of_nil 0 _).mono ?_
      rintro e wn5 ⟨rfl, rfl⟩
      go_wp2_with fail
      refine (next_nil 0 _).mono ?_
      rintro e wn6 ⟨rfl, rfl⟩
      go_wp2_with fail
      refine (winner_nil _).mono ?_
      rintro e wn7 ⟨rfl, rfl⟩
      go_wp2_with fail
      refine (over_nil _).mono ?_
      rintro e wn8 ⟨rfl, rfl⟩
      go_wp2_with fail
      refine (lost_nil 0 _).mono ?_
      rintro e wn9 ⟨rfl, rfl⟩
      go_wp2_with fail
      refine (lose_nil 0 _).mono ?_
      rintro e wn10 ⟨rfl, rfl⟩
      go_wp2_with fail
      refine (mates_nil 0 0 _).mono ?_
      rintro e wn11 ⟨rfl, rfl⟩
      go_wp2_with fail
      refine (gain_nil 0 1 _).mono ?_
      rintro e wg20 ⟨rfl, hb20⟩
      have HR20 := Lib.hid (HR14.out.later hb20)
      have HB20 := Lib.hid (stepB HB14.out hb20)
      have HD20 := Lib.hid (And.intro HD14.out.1 ((hb20.block D (Array.getElem?_eq_some_iff.1 HD14.out.2).1).trans HD14.out.2))
      clear hb20 HR14 HB14 HD14
      go_wp2_with fail
      refine (sick_nil 0 1 _).mono ?_
      rintro e wg21 ⟨rfl, hb21⟩
      have HR21 := Lib.hid (HR20.out.later hb21)
      have HB21 := Lib.hid (stepB HB20.out hb21)
      have HD21 := Lib.hid (And.intro HD20.out.1 ((hb21.block D (Array.getElem?_eq_some_iff.1 HD20.out.2).1).trans HD20.out.2))
      clear hb21 HR20 HB20 HD20
      go_wp2_with fail
      refine (copy_nil _).mono ?_
      rintro e wm0 ⟨rfl, rfl⟩
      go_wp2_with fail
      refine (same_nil _).mono ?_
      rintro e wm1 ⟨rfl, rfl⟩
      go_wp2_with fail
      refine (same_none b _).mono ?_
      rintro e wm2 ⟨rfl, rfl⟩
      have cr := HR21.out.cell
      have fr := HR21.out.frozen
      have HRR := Lib.hid (HR21.out.set (.bool true))
      have HBR := Lib.hid (HB21.out.setCell (p := ⟨q + 1 + 1, 0, none⟩) (by show w.heap.size ≤ q + 1 + 1; have := HQ.out; omega) (.bool true))
      have HMF := Lib.hid (show MarksO (wm2.setCell ⟨q + 1 + 1, 0, none⟩ (.bool true)) [D] from fun D' hD' => by
        obtain rfl := List.mem_singleton.1 hD'
        exact (heap_setCell_other _ ⟨q + 1 + 1, 0, none⟩ D' (.bool true) (by show D' ≠ q + 1 + 1; have := HCN.out; have := HD21.out.1; have := HW.out; have := HWW.out; omega)).trans HD21.out.2)
      go_wp2
      refine leaves_marksO (B := w.heap.size) [D] _ (by simp) (fun D' hD' => by simp at hD'; have := HD21.out.1; have := HW.out; have := HWW.out; omega) HMF.out (fun W' hb hc => ?_)
      obtain ⟨tr, hr⟩ := HRR.out
      exact ⟨_, results_c6 rfl rfl ⟨tr, hc _ _ hr rfl⟩, rfl, HBR.out.trans hb⟩
    · rintro D c pre W hD hS hI hK
      exact hI.elim
end Go.Proofs.Ytbiomffjmajlgaa
