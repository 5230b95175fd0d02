/- The law DealApart, proved: for every three lists of numbers it returns true; each argument reads behind the call as it read before. No condition. -/
import Derived.Test.YtcbjekdbkhibbabEm
namespace Go.Proofs.Ytcbjekdbkhibbab
open Go.ChangeShapes Go.WideShapes Go.ChangeAt Go.RowKit

/-- The numbers from n - 1 down to c, but none below 1. -/
def dnL (n c : Nat) : List Int := (List.range (n - max c 1)).map fun (j : Nat) => (n : Int) - 1 - j
theorem dnL_step (n c : Nat) (h1 : 2 ≤ c) (h2 : c ≤ n) : dnL n (c - 1) = dnL n c ++ [((c : Int) - 1)] := by
  unfold dnL
  have e : n - max (c - 1) 1 = (n - max c 1) + 1 := by omega
  rw [e, List.range_succ, List.map_append]
  congr 1
  simp only [List.map_cons, List.map_nil]
  congr 1
  omega
theorem dnL_len (n c : Nat) : (dnL n c).length = n - max c 1 := by simp [dnL]
theorem dnL_start (n : Nat) : dnL n n = [] := by
  unfold dnL
  rw [show n - max n 1 = 0 by omega]; rfl
theorem dnL_cons (i : Nat) : dnL (i + 2) 1 = ((i : Int) + 1) :: dnL (i + 1) 1 := by
  unfold dnL
  rw [show i + 2 - max 1 1 = (i + 1 - max 1 1) + 1 by omega, List.range_succ_eq_map, List.map_cons, List.map_map]
  congr 1
  · simp; omega
  · apply List.map_congr_left
    intro j _
    simp only [Function.comp]
    omega
theorem swapL_self {α : Type} [Inhabited α] (x : List α) (i : Nat) (h : i < x.length) : swapL x i i = x := by
  unfold swapL
  have e : x.getD i default = x[i] := by simp [List.getD, h]
  rw [e, List.set_getElem_self, List.set_getElem_self]
theorem drawN_self (i : Nat) : drawN ((i : Int) + 1) ((i : Int) + 1 + 1) = (i : Int) + 1 := by
  have h : ((i : Int) + 1).tmod ((i : Int) + 1 + 1) = (i : Int) + 1 := Int.tmod_eq_of_lt (by omega) (by omega)
  unfold drawN
  rw [if_neg (by omega), h, if_neg (by omega)]
theorem shuf_still : ∀ (i : Nat) (x : List Int), i < x.length → shufL i x (dnL (i + 1) 1) = x
  | 0, _, _ => rfl
  | i + 1, x, h => by
    rw [dnL_cons]
    show shufL i (swapL x (i + 1) (drawN ((i : Int) + 1) ((i : Int) + 1 + 1)).toNat) (dnL (i + 1) 1) = x
    rw [drawN_self, show ((i : Int) + 1).toNat = i + 1 by omega, swapL_self x _ h]
    exact shuf_still i x (by omega)
theorem still_all (a : List Int) : shufL (a.length - 1) a (dnL a.length 1) = a := by
  cases a with
  | nil => rfl
  | cons x r =>
    show shufL r.length _ (dnL (r.length + 1) 1) = _
    exact shuf_still r.length (x :: r) (by simp)
theorem below_own {A w w' : World} {B : Nat} {v : Value} {t : TypeId} {s n : Nat} {xs : List Value} (hg : w.grownBy w' v.ownBlock) (hb : Below B A w) (hB : B ≤ w.heap.size) (ho : w.ownsRow B t s v n xs) : Below B A w' :=
  hb.grown hg hB (fun k e => (ho.lt k e).1)
def CapOk (v : Value) : Prop := ∀ xa n xc, v = .slice xa n xc → n ≤ xc
set_option maxRecDepth 100000 in
theorem open_cap {H : Type} {enc : TypeId × Value → H} {w : World} {base : Nat} {v : Value} {d : DataW H} {p : List MemPlace} (hv : Value.okWide Try.prog w .any base 22 v) (h : DataW.Trod enc Try.prog w 0 (fun _ => true) true 22 v d p) : CapOk v := by
  obtain ⟨a0, len0, cap0, rfl⟩ := okWide_slice Try.underlying22 hv
  obtain ⟨fuel, h⟩ := h
  intro xa n xc e
  rcases open_ints Try.underlying22 Try.underlying3 cellsI h with ⟨hcs, _⟩ | ⟨ad, len', cap', zs, hcs, _, hl, _⟩
  · have := (List.cons.inj hcs).1
    rw [e] at this
    injection this with _ h2 h3
    omega
  · have := (List.cons.inj hcs).1
    rw [e] at this
    injection this with _ h2 h3
    omega
/-- A list as far as it is one behind a place. -/
theorem ints_from {w : World} {b off cap k : Nat} {l : List Int} (h : IntsAt w (.slice (some ⟨b, off, none⟩) l.length cap) l) (hk : k < l.length) : IntsAt w (.slice (some ⟨b, off + k, none⟩) (l.length - k) (cap - k)) (l.drop k) := by
  obtain ⟨b', off', h1, hlt, _⟩ := h.at k hk
  injection h1 with h1
  injection h1 with hb ho
  subst hb; subst ho
  refine .inr ⟨b, off + k, cap - k, by rw [intsV_len, List.length_drop], hlt, fun i hi => ?_⟩
  rw [intsV_len, List.length_drop] at hi
  obtain ⟨b2, off2, h2, _, hc⟩ := h.at (k + i) (by omega)
  injection h2 with h2
  injection h2 with hb ho
  subst hb; subst ho
  rw [show off + k + i = off + (k + i) by omega, hc]
  simp [intsV]
set_option maxRecDepth 100000 in
set_option maxHeartbeats 8000000 in
theorem apart_a {v u z : Value} {a b m : List Int} {w : World} (hv : IntsAt w v a) (hu : IntsAt w u b) (hz : IntsAt w z m) (ha : a.length ≤ 9223372036854775807) (h : 60 < a.length) :
    Calls Try.prog 6 #[v, u, z] w (RetB w true) := by
  obtain ⟨xa, xc, rfl⟩ := hv.form
  obtain ⟨ya, yc, rfl⟩ := hu.form
  obtain ⟨za, zc, rfl⟩ := hz.form
  have HV := Lib.hid hv
  have HU := Lib.hid hu
  have HZ := Lib.hid hz
  clear hv hu hz
  have b1 : decide ((60 : Int) < a.length) = true := decide_eq_true (by omega)
  clear h
  go_enter Try.func6, Try.ntmps6
  go_wp2_with fail
  refine (awake4_any _).mono ?_
  rintro e w1 ⟨rfl, hb1⟩
  go_wp2
  go_ret
  exact ⟨rfl, hb1⟩
set_option maxRecDepth 100000 in
set_option maxHeartbeats 8000000 in
theorem apart_b {v u z : Value} {a b m : List Int} {w : World} (hv : IntsAt w v a) (hu : IntsAt w u b) (hz : IntsAt w z m) (hb : b.length ≤ 9223372036854775807) (h1 : ¬ 60 < a.length) (h : 60 < b.length) :
    Calls Try.prog 6 #[v, u, z] w (RetB w true) := by
  obtain ⟨xa, xc, rfl⟩ := hv.form
  obtain ⟨ya, yc, rfl⟩ := hu.form
  obtain ⟨za, zc, rfl⟩ := hz.form
  have HV := Lib.hid hv
  have HU := Lib.hid hu
  have HZ := Lib.hid hz
  clear hv hu hz
  have b1 : decide ((60 : Int) < a.length) = false := decide_eq_false (by omega)
  have b2 : decide ((60 : Int) < b.length) = true := decide_eq_true (by omega)
  clear h h1
  go_enter Try.func6, Try.ntmps6
  go_wp2_with fail
  refine (awake4_any _).mono ?_
  rintro e w1 ⟨rfl, hb1⟩
  go_wp2
  go_ret
  exact ⟨rfl, hb1⟩
set_option maxRecDepth 100000 in
set_option maxHeartbeats 8000000 in
theorem apart_m {v u z : Value} {a b m : List Int} {w : World} (hv : IntsAt w v a) (hu : IntsAt w u b) (hz : IntsAt w z m) (hm : m.length ≤ 9223372036854775807) (h1 : ¬ 60 < a.length) (h2 : ¬ 60 < b.length) (h : 200 < m.length) :
    Calls Try.prog 6 #[v, u, z] w (RetB w true) := by
  obtain ⟨xa, xc, rfl⟩ := hv.form
  obtain ⟨ya, yc, rfl⟩ := hu.form
  obtain ⟨za, zc, rfl⟩ := hz.form
  have HV := Lib.hid hv
  have HU := Lib.hid hu
  have HZ := Lib.hid hz
  clear hv hu hz
  have b1 : decide ((60 : Int) < a.length) = false := decide_eq_false (by omega)
  have b2 : decide ((60 : Int) < b.length) = false := decide_eq_false (by omega)
  have b3 : decide ((200 : Int) < m.length) = true := decide_eq_true (by omega)
  clear h h1 h2
  go_enter Try.func6, Try.ntmps6
  go_wp2_with fail
  refine (awake4_any _).mono ?_
  rintro e w1 ⟨rfl, hb1⟩
  go_wp2
  go_ret
  exact ⟨rfl, hb1⟩
set_option maxRecDepth 100000 in
set_option maxHeartbeats 8000000 in
theorem apart_in {v u z : Value} {a b m : List Int} {w : World} (hv : IntsAt w v a) (hu : IntsAt w u b) (hz : IntsAt w z m) (h1 : ¬ 60 < a.length) (h2 : ¬ 60 < b.length) (h3 : ¬ 200 < m.length) (hcap : CapOk z) (ht : a.length - 1 < m.length) :
    Calls Try.prog 6 #[v, u, z] w (RetB w true) := by
  obtain ⟨xa, xc, rfl⟩ := hv.form
  obtain ⟨ya, yc, rfl⟩ := hu.form
  obtain ⟨za, zc, rfl⟩ := hz.form
  have HV := Lib.hid hv
  have HU := Lib.hid hu
  have HZ := Lib.hid hz
  clear hv hu hz
  have b1 : decide ((60 : Int) < a.length) = false := decide_eq_false (by omega)
  have b2 : decide ((60 : Int) < b.length) = false := decide_eq_false (by omega)
  have b3 : decide ((200 : Int) < m.length) = false := decide_eq_false (by omega)
  obtain ⟨k, hk⟩ : ∃ k, 0 + (a.length - 1) = k := ⟨_, rfl⟩
  have HK := Lib.hid (show a.length - 1 = k by omega)
  have k1 : k ≤ 60 := by omega
  have k0 : (0 : Int) ≤ k := by omega
  have l1 : a.length ≤ 60 := by omega
  have l2 : b.length ≤ 60 := by omega
  have l3 : m.length ≤ 200 := by omega
  have HT := Lib.hid (show k < m.length by omega)
  have zc1 : m.length ≤ zc := hcap _ _ _ rfl
  have zc2 : ¬ zc = k := by omega
  have zc3 : (m.length : Int) ≤ zc := by omega
  clear hcap
  have t1 : (k : Int) < m.length := by omega
  have t2 : decide ((k : Int) < m.length) = true := decide_eq_true t1
  clear ht
  clear hk h1 h2 h3
  go_enter Try.func6, Try.ntmps6
  go_wp2_with fail
  refine (awake4_any _).mono ?_
  rintro e w1 ⟨rfl, hb1⟩
  have HB1 := Lib.hid hb1
  clear hb1
  go_wp2_with fail
  refine (new_any (HZ.out.later HB1.out) (by omega)).mono ?_
  rintro e w2 ⟨bd, rfl, hd2, hlo2, hb2⟩
  have HD2 := Lib.hid hd2
  have HLO := Lib.hid (show w.heap.size ≤ bd by have := HB1.out.size; omega)
  have HB2 := Lib.hid (stepB HB1.out hb2)
  clear hd2 hlo2 hb2
  go_wp2_with fail
  refine (shuffle_int (HV.out.later HB2.out) (by omega) HD2.out (by omega) (by omega)).mono ?_
  rintro e w3 ⟨rfl, hr3, hd3, hg3⟩
  rw [HK.out, Nat.zero_add] at hd3
  have HX3 := Lib.hid (show IntsAt w3 (.slice (some ⟨w2.heap.size, 0, none⟩) a.length a.length) (shufL (a.length - 1) a m) from by
    have := RowAt.vals hr3 a.length
    rw [List.length_map, shufL_len] at this
    exact this)
  have HD3 := Lib.hid hd3
  have HB3 := Lib.hid (grown_to HB2.out hg3 HLO.out)
  have HZ3 := Lib.hid (show w2.heap.size + 0 < w3.heap.size from hr3.lt)
  have hdl2 := HD2.out.lt
  have HNE := Lib.hid (show bd ≠ w2.heap.size by omega)
  clear hr3 hd3 hg3 hdl2
  go_wp2_with (go_at_call 12; refine (taken_any HD3.out).mono ?_; rintro e w' ⟨rfl, rfl⟩)
  refine (shuffle_int (HU.out.later HB3.out) (by omega) HD3.out (by omega) (by rw [List.length_drop]; omega)).mono ?_
  rintro e w4 ⟨rfl, hr4, hd4, hg4⟩
  have HX4 := Lib.hid (show IntsAt w4 (.slice (some ⟨w2.heap.size, 0, none⟩) a.length a.length) (shufL (a.length - 1) a m) from ints_grown HX3.out hg4 (by
    rintro o ⟨n, c, e⟩
    injection e with e _ _; injection e with e; injection e with e _
    exact absurd e.symm HNE.out))
  have HY4 := Lib.hid (show IntsAt w4 (.slice (some ⟨w3.heap.size, 0, none⟩) b.length b.length) (shufL (b.length - 1) b (m.drop k)) from by
    have := RowAt.vals hr4 b.length
    rw [List.length_map, shufL_len] at this
    exact this)
  have HB4 := Lib.hid (grown_to HB3.out hg4 HLO.out)
  clear hr4 hd4 hg4
  obtain ⟨r, off, rfl, hrl, _⟩ := (HZ.out.later HB4.out).at k HT.out
  have HR4 := Lib.hid (ints_from (HZ.out.later HB4.out) HT.out)
  go_wp2
  go_loopw [12, 13] (fun v i wr => ∃ c : Nat, c ≤ a.length ∧ i = .int .i64 ((c : Int) - 1) ∧ Hid (wr.ownsRow w4.heap.size 3 1 v (dnL a.length c).length (intsV (dnL a.length c)) ∧ Below w4.heap.size w4 wr)) (fun _ i _ => (intOf i).toNat)
  case atStart => exact ⟨a.length, Nat.le_refl _, rfl, Lib.hid ⟨by rw [dnL_start]; exact World.ownsRow_nil _ _ _ _, Below.refl _ _⟩⟩
  case round =>
    obtain ⟨c, hc, rfl, HS⟩ := hrel
    by_cases h2 : 2 ≤ c
    · have hst := dnL_step a.length c h2 hc
      have hdl := dnL_len a.length c
      obtain ⟨D, hD⟩ : ∃ D, dnL a.length c = D := ⟨_, rfl⟩
      rw [hD] at HS hst hdl
      have HST := Lib.hid hst
      have c1 : (2 : Int) ≤ c := by omega
      have HC := Lib.hid hc
      have H2 := Lib.hid h2
      have HDL := Lib.hid hdl
      clear hD hst hdl
      go_wp2_with (at_builtin; refine wpList_append_ints rfl _ _ rfl rfl w4.heap.size _ _ (intsV D) rfl (HS.out.1.alloc _) _ 1 1 [((c : Int) - 1)] rfl rfl ((RowAt.new wr 3 (intsV [((c : Int) - 1)])).vals 1) (by have := HDL.out; simp; omega) (by have := HS.out.2.size; simp; omega) ?f)
      case f =>
        intro v' w' hown hgrow _
        have HN := Lib.hid (show w'.ownsRow w4.heap.size 3 1 v' (dnL a.length (c - 1)).length (intsV (dnL a.length (c - 1))) from by
          rw [HST.out, List.length_append]; unfold intsV; rw [List.map_append]; exact hown)
        have HBN := Lib.hid (below_own hgrow (below_alloc2 HS.out.2 _) (by have := HS.out.2.size; simp; omega) (HS.out.1.alloc (.cells #[.int .i64 ((c : Int) - 1)] 3)))
        clear hown hgrow HS
        go_wp2
        go_roundw
        case rel =>
          first
            | exact ⟨c - 1, by have := HC.out; omega, by have := H2.out; congr 1; omega, HN, HBN⟩
            | ((repeat apply Exists.intro); exact ⟨⟨c - 1, by have := HC.out; omega, by have := H2.out; congr 1; omega, HN, HBN⟩, rfl⟩)
        case measure => have := H2.out; simp [intOf]; omega
    · have hc1 : dnL a.length c = dnL a.length 1 := by unfold dnL; rw [show max c 1 = max 1 1 by omega]
      rw [hc1] at HS
      have hi := own_vals HS.out.1 (intsV_len _)
      have HST := Lib.hid (show IntsAt wr u12 (dnL a.length 1) from hi)
      obtain ⟨va, vc, rfl⟩ := HST.out.form
      have HBR := Lib.hid (stepB HB4.out HS.out.2)
      have HXR := Lib.hid (HX4.out.later HS.out.2)
      have HYR := Lib.hid (HY4.out.later HS.out.2)
      have HRR := Lib.hid (HR4.out.later HS.out.2)
      have c1 : (c : Int) - 1 ≤ 0 := by omega
      clear HS hi hc1 HX4 HY4 HR4
      go_wp2_with fail
      refine (new_any (HZ.out.later HBR.out) (by omega)).mono ?_
      rintro e w51 ⟨b5, rfl, hd5, hlo5, hb5⟩
      have HD5 := Lib.hid hd5
      have HBn5 := Lib.hid hb5
      have HLn5 := Lib.hid hlo5
      clear hd5 hb5 hlo5
      go_wp2_with fail
      refine (shuffle_int ((HV.out.later HBR.out).later HBn5.out) (by omega) HD5.out (by omega) (by omega)).mono ?_
      rintro e w52 ⟨rfl, hr5, hd5, hg5⟩
      have HW5 := Lib.hid (show Below wr.heap.size wr w52 from grown_to HBn5.out hg5 HLn5.out)
      have HO5 := Lib.hid (show IntsAt w52 (.slice (some ⟨w51.heap.size, 0, none⟩) a.length a.length) (shufL (a.length - 1) a m) from by
        have := RowAt.vals hr5 a.length
        rw [List.length_map, shufL_len] at this
        exact this)
      clear hr5 hd5 hg5
      go_wp2_with fail
      refine (ints_same (HXR.out.later HW5.out) HO5.out (by rw [shufL_len]; omega)).mono ?_
      rintro e w6 ⟨rfl, n6, rfl⟩
      obtain ⟨w6, hw6⟩ : ∃ w6, w52.drewN n6 = w6 := ⟨_, rfl⟩
      have HW6 := Lib.hid (show Below wr.heap.size wr w6 by rw [← hw6]; exact below_drewN HW5.out n6)
      rw [hw6]
      clear hw6
      go_wp2_with fail
      refine (new_any (HRR.out.later HW6.out) (by rw [List.length_drop]; omega)).mono ?_
      rintro e w71 ⟨b7, rfl, hd7, hlo7, hb7⟩
      have HD7 := Lib.hid hd7
      have HBn7 := Lib.hid hb7
      have HLn7 := Lib.hid hlo7
      clear hd7 hb7 hlo7
      go_wp2_with fail
      refine (shuffle_int (((HU.out.later HBR.out).later HW6.out).later HBn7.out) (by omega) HD7.out (by omega) (by rw [List.length_drop]; omega)).mono ?_
      rintro e w72 ⟨rfl, hr7, hd7, hg7⟩
      have HW7 := Lib.hid (show Below w6.heap.size w6 w72 from grown_to HBn7.out hg7 HLn7.out)
      have HO7 := Lib.hid (show IntsAt w72 (.slice (some ⟨w71.heap.size, 0, none⟩) b.length b.length) (shufL (b.length - 1) b (m.drop k)) from by
        have := RowAt.vals hr7 b.length
        rw [List.length_map, shufL_len] at this
        exact this)
      clear hr7 hd7 hg7
      go_wp2_with fail
      refine (ints_same ((HYR.out.later HW6.out).later HW7.out) HO7.out (by rw [shufL_len]; omega)).mono ?_
      rintro e w8 ⟨rfl, n8, rfl⟩
      obtain ⟨w8, hw8⟩ : ∃ w8, w72.drewN n8 = w8 := ⟨_, rfl⟩
      have HW8 := Lib.hid (show Below wr.heap.size wr w8 by rw [← hw8]; exact below_drewN (stepB HW6.out HW7.out) n8)
      rw [hw8]
      clear hw8
      go_wp2_with fail
      refine (new_any (HST.out.later HW8.out) (by rw [dnL_len]; omega)).mono ?_
      rintro e w91 ⟨b9, rfl, hd9, hlo9, hb9⟩
      have HD9 := Lib.hid hd9
      have HBn9 := Lib.hid hb9
      have HLn9 := Lib.hid hlo9
      clear hd9 hb9 hlo9
      go_wp2_with fail
      refine (shuffle_int (((HV.out.later HBR.out).later HW8.out).later HBn9.out) (by omega) HD9.out (by omega) (by rw [dnL_len]; omega)).mono ?_
      rintro e w92 ⟨rfl, hr9, hd9, hg9⟩
      have HW9 := Lib.hid (show Below w8.heap.size w8 w92 from grown_to HBn9.out hg9 HLn9.out)
      have HO9 := Lib.hid (show IntsAt w92 (.slice (some ⟨w91.heap.size, 0, none⟩) a.length a.length) (a) from by
        have := RowAt.vals hr9 a.length
        rw [List.length_map, shufL_len] at this
        rw [still_all] at this
        exact this)
      clear hr9 hd9 hg9
      go_wp2_with fail
      refine (ints_same HO9.out (((HV.out.later HBR.out).later HW8.out).later HW9.out) (by omega)).mono ?_
      rintro e w10 ⟨rfl, n10, rfl⟩
      go_wp2
      go_ret
      exact ⟨rfl, below_drewN (stepB HBR.out (stepB HW8.out HW9.out)) n10⟩
set_option maxRecDepth 100000 in
set_option maxHeartbeats 8000000 in
theorem apart_out {v u z : Value} {a b m : List Int} {w : World} (hv : IntsAt w v a) (hu : IntsAt w u b) (hz : IntsAt w z m) (h1 : ¬ 60 < a.length) (h2 : ¬ 60 < b.length) (h3 : ¬ 200 < m.length) (ht : ¬ a.length - 1 < m.length) :
    Calls Try.prog 6 #[v, u, z] w (RetB w true) := by
  obtain ⟨xa, xc, rfl⟩ := hv.form
  obtain ⟨ya, yc, rfl⟩ := hu.form
  obtain ⟨za, zc, rfl⟩ := hz.form
  have HV := Lib.hid hv
  have HU := Lib.hid hu
  have HZ := Lib.hid hz
  clear hv hu hz
  have b1 : decide ((60 : Int) < a.length) = false := decide_eq_false (by omega)
  have b2 : decide ((60 : Int) < b.length) = false := decide_eq_false (by omega)
  have b3 : decide ((200 : Int) < m.length) = false := decide_eq_false (by omega)
  obtain ⟨k, hk⟩ : ∃ k, 0 + (a.length - 1) = k := ⟨_, rfl⟩
  have HK := Lib.hid (show a.length - 1 = k by omega)
  have k1 : k ≤ 60 := by omega
  have k0 : (0 : Int) ≤ k := by omega
  have l1 : a.length ≤ 60 := by omega
  have l2 : b.length ≤ 60 := by omega
  have l3 : m.length ≤ 200 := by omega
  have HT := Lib.hid (show m.drop k = [] from List.drop_eq_nil_of_le (by omega))
  have t1 : (m.length : Int) ≤ k := by omega
  have t2 : decide (k < m.length) = false := decide_eq_false (by omega)
  clear ht
  clear hk h1 h2 h3
  go_enter Try.func6, Try.ntmps6
  go_wp2_with fail
  refine (awake4_any _).mono ?_
  rintro e w1 ⟨rfl, hb1⟩
  have HB1 := Lib.hid hb1
  clear hb1
  go_wp2_with fail
  refine (new_any (HZ.out.later HB1.out) (by omega)).mono ?_
  rintro e w2 ⟨bd, rfl, hd2, hlo2, hb2⟩
  have HD2 := Lib.hid hd2
  have HLO := Lib.hid (show w.heap.size ≤ bd by have := HB1.out.size; omega)
  have HB2 := Lib.hid (stepB HB1.out hb2)
  clear hd2 hlo2 hb2
  go_wp2_with fail
  refine (shuffle_int (HV.out.later HB2.out) (by omega) HD2.out (by omega) (by omega)).mono ?_
  rintro e w3 ⟨rfl, hr3, hd3, hg3⟩
  rw [HK.out, Nat.zero_add] at hd3
  have HX3 := Lib.hid (show IntsAt w3 (.slice (some ⟨w2.heap.size, 0, none⟩) a.length a.length) (shufL (a.length - 1) a m) from by
    have := RowAt.vals hr3 a.length
    rw [List.length_map, shufL_len] at this
    exact this)
  have HD3 := Lib.hid hd3
  have HB3 := Lib.hid (grown_to HB2.out hg3 HLO.out)
  have HZ3 := Lib.hid (show w2.heap.size + 0 < w3.heap.size from hr3.lt)
  have hdl2 := HD2.out.lt
  have HNE := Lib.hid (show bd ≠ w2.heap.size by omega)
  clear hr3 hd3 hg3 hdl2
  go_wp2_with (go_at_call 12; refine (taken_any HD3.out).mono ?_; rintro e w' ⟨rfl, rfl⟩)
  refine (shuffle_int (HU.out.later HB3.out) (by omega) HD3.out (by omega) (by rw [List.length_drop]; omega)).mono ?_
  rintro e w4 ⟨rfl, hr4, hd4, hg4⟩
  have HX4 := Lib.hid (show IntsAt w4 (.slice (some ⟨w2.heap.size, 0, none⟩) a.length a.length) (shufL (a.length - 1) a m) from ints_grown HX3.out hg4 (by
    rintro o ⟨n, c, e⟩
    injection e with e _ _; injection e with e; injection e with e _
    exact absurd e.symm HNE.out))
  have HY4 := Lib.hid (show IntsAt w4 (.slice (some ⟨w3.heap.size, 0, none⟩) b.length b.length) (shufL (b.length - 1) b (m.drop k)) from by
    have := RowAt.vals hr4 b.length
    rw [List.length_map, shufL_len] at this
    exact this)
  have HB4 := Lib.hid (grown_to HB3.out hg4 HLO.out)
  clear hr4 hd4 hg4
  have HR4 := Lib.hid (show IntsAt w4 (.slice none 0 0) (m.drop k) by rw [HT.out]; exact .inl ⟨_, _, rfl, rfl⟩)
  go_wp2
  go_loopw [12, 13] (fun v i wr => ∃ c : Nat, c ≤ a.length ∧ i = .int .i64 ((c : Int) - 1) ∧ Hid (wr.ownsRow w4.heap.size 3 1 v (dnL a.length c).length (intsV (dnL a.length c)) ∧ Below w4.heap.size w4 wr)) (fun _ i _ => (intOf i).toNat)
  case atStart => exact ⟨a.length, Nat.le_refl _, rfl, Lib.hid ⟨by rw [dnL_start]; exact World.ownsRow_nil _ _ _ _, Below.refl _ _⟩⟩
  case round =>
    obtain ⟨c, hc, rfl, HS⟩ := hrel
    by_cases h2 : 2 ≤ c
    · have hst := dnL_step a.length c h2 hc
      have hdl := dnL_len a.length c
      obtain ⟨D, hD⟩ : ∃ D, dnL a.length c = D := ⟨_, rfl⟩
      rw [hD] at HS hst hdl
      have HST := Lib.hid hst
      have c1 : (2 : Int) ≤ c := by omega
      have HC := Lib.hid hc
      have H2 := Lib.hid h2
      have HDL := Lib.hid hdl
      clear hD hst hdl
      go_wp2_with (at_builtin; refine wpList_append_ints rfl _ _ rfl rfl w4.heap.size _ _ (intsV D) rfl (HS.out.1.alloc _) _ 1 1 [((c : Int) - 1)] rfl rfl ((RowAt.new wr 3 (intsV [((c : Int) - 1)])).vals 1) (by have := HDL.out; simp; omega) (by have := HS.out.2.size; simp; omega) ?f)
      case f =>
        intro v' w' hown hgrow _
        have HN := Lib.hid (show w'.ownsRow w4.heap.size 3 1 v' (dnL a.length (c - 1)).length (intsV (dnL a.length (c - 1))) from by
          rw [HST.out, List.length_append]; unfold intsV; rw [List.map_append]; exact hown)
        have HBN := Lib.hid (below_own hgrow (below_alloc2 HS.out.2 _) (by have := HS.out.2.size; simp; omega) (HS.out.1.alloc (.cells #[.int .i64 ((c : Int) - 1)] 3)))
        clear hown hgrow HS
        go_wp2
        go_roundw
        case rel =>
          first
            | exact ⟨c - 1, by have := HC.out; omega, by have := H2.out; congr 1; omega, HN, HBN⟩
            | ((repeat apply Exists.intro); exact ⟨⟨c - 1, by have := HC.out; omega, by have := H2.out; congr 1; omega, HN, HBN⟩, rfl⟩)
        case measure => have := H2.out; simp [intOf]; omega
    · have hc1 : dnL a.length c = dnL a.length 1 := by unfold dnL; rw [show max c 1 = max 1 1 by omega]
      rw [hc1] at HS
      have hi := own_vals HS.out.1 (intsV_len _)
      have HST := Lib.hid (show IntsAt wr u12 (dnL a.length 1) from hi)
      obtain ⟨va, vc, rfl⟩ := HST.out.form
      have HBR := Lib.hid (stepB HB4.out HS.out.2)
      have HXR := Lib.hid (HX4.out.later HS.out.2)
      have HYR := Lib.hid (HY4.out.later HS.out.2)
      have HRR := Lib.hid (HR4.out.later HS.out.2)
      have c1 : (c : Int) - 1 ≤ 0 := by omega
      clear HS hi hc1 HX4 HY4 HR4
      go_wp2_with fail
      refine (new_any (HZ.out.later HBR.out) (by omega)).mono ?_
      rintro e w51 ⟨b5, rfl, hd5, hlo5, hb5⟩
      have HD5 := Lib.hid hd5
      have HBn5 := Lib.hid hb5
      have HLn5 := Lib.hid hlo5
      clear hd5 hb5 hlo5
      go_wp2_with fail
      refine (shuffle_int ((HV.out.later HBR.out).later HBn5.out) (by omega) HD5.out (by omega) (by omega)).mono ?_
      rintro e w52 ⟨rfl, hr5, hd5, hg5⟩
      have HW5 := Lib.hid (show Below wr.heap.size wr w52 from grown_to HBn5.out hg5 HLn5.out)
      have HO5 := Lib.hid (show IntsAt w52 (.slice (some ⟨w51.heap.size, 0, none⟩) a.length a.length) (shufL (a.length - 1) a m) from by
        have := RowAt.vals hr5 a.length
        rw [List.length_map, shufL_len] at this
        exact this)
      clear hr5 hd5 hg5
      go_wp2_with fail
      refine (ints_same (HXR.out.later HW5.out) HO5.out (by rw [shufL_len]; omega)).mono ?_
      rintro e w6 ⟨rfl, n6, rfl⟩
      obtain ⟨w6, hw6⟩ : ∃ w6, w52.drewN n6 = w6 := ⟨_, rfl⟩
      have HW6 := Lib.hid (show Below wr.heap.size wr w6 by rw [← hw6]; exact below_drewN HW5.out n6)
      rw [hw6]
      clear hw6
      go_wp2_with fail
      refine (new_any (HRR.out.later HW6.out) (by rw [List.length_drop]; omega)).mono ?_
      rintro e w71 ⟨b7, rfl, hd7, hlo7, hb7⟩
      have HD7 := Lib.hid hd7
      have HBn7 := Lib.hid hb7
      have HLn7 := Lib.hid hlo7
      clear hd7 hb7 hlo7
      go_wp2_with fail
      refine (shuffle_int (((HU.out.later HBR.out).later HW6.out).later HBn7.out) (by omega) HD7.out (by omega) (by rw [List.length_drop]; omega)).mono ?_
      rintro e w72 ⟨rfl, hr7, hd7, hg7⟩
      have HW7 := Lib.hid (show Below w6.heap.size w6 w72 from grown_to HBn7.out hg7 HLn7.out)
      have HO7 := Lib.hid (show IntsAt w72 (.slice (some ⟨w71.heap.size, 0, none⟩) b.length b.length) (shufL (b.length - 1) b (m.drop k)) from by
        have := RowAt.vals hr7 b.length
        rw [List.length_map, shufL_len] at this
        exact this)
      clear hr7 hd7 hg7
      go_wp2_with fail
      refine (ints_same ((HYR.out.later HW6.out).later HW7.out) HO7.out (by rw [shufL_len]; omega)).mono ?_
      rintro e w8 ⟨rfl, n8, rfl⟩
      obtain ⟨w8, hw8⟩ : ∃ w8, w72.drewN n8 = w8 := ⟨_, rfl⟩
      have HW8 := Lib.hid (show Below wr.heap.size wr w8 by rw [← hw8]; exact below_drewN (stepB HW6.out HW7.out) n8)
      rw [hw8]
      clear hw8
      go_wp2_with fail
      refine (new_any (HST.out.later HW8.out) (by rw [dnL_len]; omega)).mono ?_
      rintro e w91 ⟨b9, rfl, hd9, hlo9, hb9⟩
      have HD9 := Lib.hid hd9
      have HBn9 := Lib.hid hb9
      have HLn9 := Lib.hid hlo9
      clear hd9 hb9 hlo9
      go_wp2_with fail
      refine (shuffle_int (((HV.out.later HBR.out).later HW8.out).later HBn9.out) (by omega) HD9.out (by omega) (by rw [dnL_len]; omega)).mono ?_
      rintro e w92 ⟨rfl, hr9, hd9, hg9⟩
      have HW9 := Lib.hid (show Below w8.heap.size w8 w92 from grown_to HBn9.out hg9 HLn9.out)
      have HO9 := Lib.hid (show IntsAt w92 (.slice (some ⟨w91.heap.size, 0, none⟩) a.length a.length) (a) from by
        have := RowAt.vals hr9 a.length
        rw [List.length_map, shufL_len] at this
        rw [still_all] at this
        exact this)
      clear hr9 hd9 hg9
      go_wp2_with fail
      refine (ints_same HO9.out (((HV.out.later HBR.out).later HW8.out).later HW9.out) (by omega)).mono ?_
      rintro e w10 ⟨rfl, n10, rfl⟩
      go_wp2
      go_ret
      exact ⟨rfl, below_drewN (stepB HBR.out (stepB HW8.out HW9.out)) n10⟩
theorem dealApart_walk {v u z : Value} {a b m : List Int} {w : World} (hv : IntsAt w v a) (hu : IntsAt w u b) (hz : IntsAt w z m) (hcap : CapOk z) (ha : a.length ≤ 9223372036854775807) (hb : b.length ≤ 9223372036854775807) (hm : m.length ≤ 9223372036854775807) :
    Calls Try.prog 6 #[v, u, z] w (RetB w true) := by
  by_cases h1 : 60 < a.length
  · exact apart_a hv hu hz ha h1
  by_cases h2 : 60 < b.length
  · exact apart_b hv hu hz hb h1 h2
  by_cases h3 : 200 < m.length
  · exact apart_m hv hu hz hm h1 h2 h3
  by_cases ht : a.length - 1 < m.length
  · exact apart_in hv hu hz h1 h2 h3 hcap ht
  · exact apart_out hv hu hz h1 h2 h3 ht

set_option maxRecDepth 100000 in
theorem dealApart_lifted (os : Os) (started : os.Started) (H : Type) (enc : TypeId × Value → H) :
    ReturnsInHanded {} Try.checked os 6 .any (Rows.dealApartSpec.pre6 enc Try.prog Try.f6 Rows.dealApartRow.domain false) (Rows.dealApartSpec.post enc Try.prog Try.f6 false true false false) := by
  refine returnsInHanded_of_change (C := Try.checked) own started (by kernel_rfl) Try.func6
    (ChangeSpec.witness6 (enc := enc) (C := Try.checked) false ⟨#[], #[.slice none 0 0, .slice none 0 0, .slice none 0 0], []⟩ 8 (by kernel_rfl) (by kernel_rfl) (by kernel_rfl) (by kernel_rfl)) ?_
  intro W base args ds gs before hval0 hW hcnd _
  have hval : ∀ (j : Nat) t v, Try.f6.params[j]? = some t → args[j]? = some v → Value.okWide Try.prog W .any base t v := hval0
  have hW' := hW
  obtain ⟨p, q, hA0, hV, rfl, hfz, hnd⟩ := hW
  have hA : DataW.TrodAll enc Try.prog W 0 (fun _ => true) true Try.f6.params.toList args.toList ds p := hA0
  rw [Try.params6] at hA hval
  have hA1 := hA
  obtain ⟨v0, vs0, d0, ds0, p0, q0, hargs0, rfl, rfl, h0, r0⟩ := trodAll_cons hA
  obtain ⟨v1, vs1, d1, ds1, p1, q1, rfl, rfl, rfl, h1, r1⟩ := trodAll_cons r0
  obtain ⟨v2, vs2, d2, ds2, p2, q2, rfl, rfl, rfl, h2, r2⟩ := trodAll_cons r1
  obtain ⟨rfl, rfl, rfl⟩ := trodAll_nil r2
  obtain rfl : args = #[v0, v1, v2] := by cases args; simp_all
  obtain ⟨rfl, rfl⟩ := trodVars_none hV
  obtain ⟨a, ha, hal, _⟩ := open_nums (hval 0 22 v0 rfl rfl) h0
  obtain ⟨b, hb, hbl, _⟩ := open_nums (hval 1 22 v1 rfl rfl) h1
  obtain ⟨m, hm, hml, _⟩ := open_nums (hval 2 22 v2 rfl rfl) h2
  have hcap := open_cap (hval 2 22 v2 rfl rfl) h2
  clear hval0
  simp only [List.append_nil] at hW'
  have hlt := fun x hx => hW'.lt x hx
  unfold maxLen at hal hbl hml
  refine (dealApart_walk ha hb hm hcap (by omega) (by omega) (by omega)).mono fun e W' ⟨he, hb⟩ => ?_
  subst he
  exact ⟨_, rfl, post_below (pr := []) (pv := []) hW' (trodAll_cons_mk (shut_bool Try.underlying4 _) trodAll_mk0)
    (trodAll_stays laidOutT hb (by intro t ht; simp at ht; subst ht; exact ⟨by kernel_rfl, of_decide_eq_true (by kernel_rfl)⟩) hA1 (by simpa using hlt)) rfl hb⟩

/-- The law DealApart: for every three lists of numbers it returns true; each argument reads behind the call as it read before. -/
theorem dealApart_holds : Rows.DealApartSaid :=
  OpenClaim.holds_of_wide 6 Try.f6 rfl rfl rfl rfl rfl rfl rfl ⟨rfl, rfl, rfl, rfl, rfl⟩ rfl rfl rfl rfl rfl (by kernel_rfl) Try.func6 (by kernel_rfl)
    (of_decide_eq_true (by kernel_rfl)) (by unfold Func.isWrapper; first | (rw [if_pos (by decide +kernel)]; kernel_rfl) | (rw [if_neg (by decide +kernel)]; exact ⟨rfl, rfl⟩))
    (fun os started H enc _ => dealApart_lifted os started H enc)
end Go.Proofs.Ytcbjekdbkhibbab
