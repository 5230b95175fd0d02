/- Plain facts for ManaPays and ManaTwice (layer 7): what is tapped twice; the law's list of lands. The law ManaTwice (layer 7), walked: for all things and numbers it returns true, and only new memory is made. -/
import Derived.Test.YtkhgdfalbmkgcaaJm
import Derived.Test.YtkhgdfalbmkgcaaJx
import Derived.Test.YtkhgdfalbmkgcaaJn
namespace Go.Proofs.Ytkhgdfalbmkgcaa
open Go.RowKit Go.Maps

theorem tapAll_two (S : StoreL) (X Y : List Int) : tapAll (tapAll S X) Y = tapAll S (X ++ Y) := by
  unfold tapAll
  simp only [List.map_map, StoreL.mk.injEq, true_and, and_true]
  apply List.map_congr_left
  intro o _
  simp only [Function.comp]
  have hc : (X ++ Y).contains o.id = (X.contains o.id || Y.contains o.id) := by
    rw [Bool.eq_iff_iff]; simp
  rw [hc]
  have ht : (tapO o).id = o.id := rfl
  cases hx : X.contains o.id <;> cases hy : Y.contains o.id <;> simp only [if_true, if_false, Bool.false_eq_true, Bool.or_false, Bool.or_true, Bool.or_self, ht, hy] <;> rfl
theorem mine_rest {S : StoreL} (h : WfS S) (seat : Int) (c : Nat) : mineL (tapAll S ((mineL S seat).take c)) seat = (mineL S seat).drop c := by
  rw [mine_tap]
  exact filter_take (mine_nodup h seat) c
theorem take_two (L : List Int) (x y : Nat) : L.take x ++ (L.drop x).take y = L.take (x + y) := by
  rw [List.take_add]
/-- The law's own list of lands. -/
def landT (seat : Int) (x : ThingL) : Bool := x.card == 0 && (x.owner == seat && (x.zone == 3 && !x.tapped))
def landsT (seat : Int) (l : List ThingL) : List Int := (l.zipIdx.filter fun p => landT seat p.1).map fun p => (p.2 : Int) + 1
theorem landsT_nil (seat : Int) : landsT seat [] = [] := rfl
theorem landsT_snoc (seat : Int) (l : List ThingL) (x : ThingL) : landsT seat (l ++ [x]) = if landT seat x then landsT seat l ++ [(l.length : Int) + 1] else landsT seat l := by
  unfold landsT
  rw [List.zipIdx_append]
  simp only [List.zipIdx_cons, List.zipIdx_nil, Nat.zero_add, List.filter_append, List.map_append, List.filter_cons, List.filter_nil]
  split <;> simp
theorem landsT_len (seat : Int) (l : List ThingL) : (landsT seat l).length ≤ l.length := by
  unfold landsT
  rw [List.length_map]
  exact Nat.le_trans (List.length_filter_le _ _) (by simp)
theorem land_T7 {n : Int} (h0 : 0 ≤ n) (h4 : n < 4) : isLandB T7 n = (n == 0) := by
  have h : n = 0 ∨ n = 1 ∨ n = 2 ∨ n = 3 := by omega
  rcases h with rfl | rfl | rfl | rfl <;> decide
theorem mine_landsT {S : StoreL} {l : List ThingL} (h : MadeS S l) (hp : playT l) (seat : Int) : mineL S seat = landsT seat l := by
  rw [mine_made h]
  unfold landsT objsT
  rw [List.filter_map, List.map_map]
  have hf : l.zipIdx.filter ((fun o : ObjL => o.owner == seat && (o.zone == 3 && (!o.tapped && isLandB T7 o.card))) ∘ fun p => objT p.2 p.1) = l.zipIdx.filter fun p => landT seat p.1 := by
    apply List.filter_congr
    intro p hm
    have hmem : p.1 ∈ l := by
      obtain ⟨a, i⟩ := p
      exact List.fst_mem_of_mem_zipIdx hm
    have hok := List.all_eq_true.1 hp.2 _ hmem
    simp only [okT, decide_eq_true_eq] at hok
    simp only [Function.comp, objT, landT, land_T7 hok.1 hok.2.1]
    cases p.1.card == 0 <;> cases p.1.owner == seat <;> cases p.1.zone == 3 <;> cases p.1.tapped <;> rfl
  rw [hf]
  rfl
theorem landsT_mem {S : StoreL} {l : List ThingL} (h : MadeS S l) (hp : playT l) {seat i : Int} (hi : i ∈ landsT seat l) : ∃ k, ∃ _ : k < l.length, i = (k : Int) + 1 := by
  rw [← mine_landsT h hp, mine_mem h.wf] at hi
  obtain ⟨k, hk, e, _⟩ := hi
  exact ⟨k, by rw [← h.len]; exact hk, e⟩
end Go.Proofs.Ytkhgdfalbmkgcaa
namespace Go.Proofs.Ytkhgdfalbmkgcaa
open Go.RowKit Go.Maps

theorem apart_copy {w w3 : World} {lo b b' : Nat} {G G' : Ghost} {S S' : StoreL} (h : StoreAt w lo b G S) (h' : StoreAt w3 w.heap.size b' G' S') : Apart G G' := fun k => by
  by_cases hk : k < w.heap.size
  · exact .inr (Classical.byContradiction fun hn => by have := h'.low k hn; omega)
  · exact .inl (h.high k (by omega))
set_option maxRecDepth 100000 in
set_option maxHeartbeats 16000000 in
theorem manaTwice_walk {u : Value} {l : List ThingL} {a b : Nat} {w : World} (hu : ThingsAt w u l) (hw : ∀ x ∈ l, Wf x.owner ∧ Wf x.zone) (hl : l.length ≤ 9223372036854775807) (ha : a < 256) (hb : b < 256) :
    Calls Try.prog 8 #[u, .int .u8 a, .int .u8 b] w (RetV w (.bool true)) := by
  have HM := Lib.hid (fun (w' : World) (hb : Below w.heap.size w w') => made_any (hu.later hb) hw hl)
  obtain ⟨ua, uc, rfl⟩ := hu.form
  clear hu hw
  obtain ⟨x, hx⟩ : ∃ x, a % 20 = x := ⟨_, rfl⟩
  obtain ⟨y, hy⟩ : ∃ y, b % 20 = y := ⟨_, rfl⟩
  have dx : ((a : Int)).tmod 20 = (x : Int) := by rw [Int.tmod_eq_emod_of_nonneg (by omega)]; omega
  have dy : ((b : Int)).tmod 20 = (y : Int) := by rw [Int.tmod_eq_emod_of_nonneg (by omega)]; omega
  have hx20 : x < 20 := by omega
  have hy20 : y < 20 := by omega
  clear hx hy
  go_enter Try.func8, Try.ntmps8
  go_wp2_with fail
  refine (awake7_any _).mono ?_
  rintro e w1 ⟨rfl, hb1⟩
  have HB1 := Lib.hid hb1
  clear hb1
  dsimp only
  go_wp2_with fail
  refine (HM.out _ HB1.out).mono ?_
  rintro e w2 (⟨hpl, bb, lo, G, S, rfl, hs, hm, hlo, hle, hb2⟩ | ⟨_, rfl, hb2⟩)
  case inr =>
    have HB2 := Lib.hid (stepB HB1.out hb2)
    clear hb2
    dsimp only
    go_wp2
    go_ret
    exact ⟨rfl, HB2.out⟩
  have HB2 := Lib.hid (stepB HB1.out hb2)
  have HFAR := Lib.hid (show ∀ k, G.tag k ≠ .no → w.heap.size ≤ k from fun k hk => Nat.le_trans (Nat.le_trans HB1.out.size hlo) (hs.low k hk))
  have HSL := Lib.hid (show S.objs.length ≤ 1000 by rw [hm.len]; have := hpl.1; omega)
  have HWF := Lib.hid hm.wf
  have HS2 := Lib.hid hs
  have HCP := Lib.hid (copyS_any hs (hm.wf.short HSL.out))
  clear hs hm hlo hle hb2 hpl HM
  dsimp only
  go_wp2_with fail
  refine HCP.out.mono ?_
  rintro e w3 ⟨tb, H, rfl, ht3, hb3⟩
  have HAP := Lib.hid (apart_copy HS2.out ht3)
  have HT3 := Lib.hid ht3
  have HS3 := Lib.hid (HS2.out.later hb3)
  have HB3 := Lib.hid (stepB HB2.out hb3)
  have HTF := Lib.hid (show ∀ k, H.tag k ≠ .no → w.heap.size ≤ k from fun k hk => Nat.le_trans HB2.out.size (ht3.low k hk))
  have hlo3 := HT3.out.low
  clear ht3 hb3 HCP hlo3
  obtain ⟨lt, hlt⟩ : ∃ lt, w2.heap.size = lt := ⟨_, rfl⟩
  rw [hlt] at HT3
  clear hlt
  dsimp only
  have hcan := can_of (cost := ((x + y : Nat) : Int)) (lands_mine HS3.out HWF.out HSL.out 1) (Nat.le_trans (mine_len _) HSL.out)
  have HML := Lib.hid (Nat.le_trans (mine_len (S := S) 1) HSL.out)
  obtain ⟨q, hq⟩ : ∃ q, (mineL S 1).length = q := ⟨_, rfl⟩
  rw [hq] at hcan
  obtain ⟨bo, hbo⟩ : ∃ bo, decide (x + y ≤ q) = bo := ⟨_, rfl⟩
  rw [show (decide (0 ≤ ((x + y : Nat) : Int)) && decide (((x + y : Nat) : Int) ≤ (q : Int))) = bo by rw [decide_eq_true (show (0 : Int) ≤ ((x + y : Nat) : Int) by omega), Bool.true_and, ← hbo]; congr 1; rw [eq_iff_iff]; omega, Int.natCast_add] at hcan
  have HC := Lib.hid hcan
  have HQ := Lib.hid hq
  clear hcan hq
  go_wp2_with fail
  refine HC.out.mono ?_
  rintro e w4 ⟨rfl, hb4⟩
  have HS4 := Lib.hid (HS3.out.later hb4)
  have HT4 := Lib.hid (HT3.out.later hb4)
  have HB4 := Lib.hid (stepB HB3.out hb4)
  clear hb4 HC HS3 HT3 HB3
  dsimp only
  by_cases hxq : x ≤ q
  · have HP := Lib.hid (pay_ok HS4.out HWF.out HSL.out 1 x (by rw [HQ.out]; exact hxq))
    go_wp2_with fail
    refine HP.out.mono ?_
    rintro e w5 ⟨rfl, G5, hs5, ht5⟩
    have HT5 := Lib.hid (HT4.out.far HAP.out ht5)
    have HTU5 := Lib.hid ht5
    have HWF5 := Lib.hid (tapAll_wf HWF.out ((mineL S 1).take x))
    have HSL5 := Lib.hid (show (tapAll S ((mineL S 1).take x)).objs.length ≤ 1000 by rw [tapAll_len]; exact HSL.out)
    have HM5 := Lib.hid (mine_rest HWF.out 1 x)
    have HS5 := Lib.hid hs5
    have HTW := Lib.hid (tapAll_two S ((mineL S 1).take x) (((mineL S 1).drop x).take y))
    have HTK := Lib.hid (take_two (mineL S 1) x y)
    have HML5 := Lib.hid (show ((mineL S 1).drop x).length = q - x by rw [List.length_drop, HQ.out])
    clear hs5 ht5 HP HT4 HS4
    dsimp only
    by_cases hyq : x + y ≤ q
    · obtain rfl : bo = true := by rw [← hbo]; exact decide_eq_true hyq
      have hp := pay_ok HS5.out HWF5.out HSL5.out 1 y (by rw [HM5.out, HML5.out]; omega)
      rw [HM5.out, HTW.out, HTK.out] at hp
      have HP := Lib.hid hp
      clear hp hbo
      go_wp2_with fail
      refine HP.out.mono ?_
      rintro e w6 ⟨rfl, G6, hs6, ht6⟩
      obtain ⟨ht6t, hap6⟩ := HT5.out.1.far HT5.out.2 ht6
      have HT6 := Lib.hid ht6t
      have HAP6 := Lib.hid hap6
      have HS6 := Lib.hid hs6
      have HTU6 := Lib.hid (HTU5.out.trans ht6)
      have hp := pay_ok ht6t HWF.out HSL.out 1 (x + y) (by rw [HQ.out]; exact hyq)
      rw [Int.natCast_add] at hp
      have HP7 := Lib.hid hp
      clear hs6 ht6 ht6t hap6 hp HP
      dsimp only
      go_wp2_with fail
      refine HP7.out.mono ?_
      rintro e w7 ⟨rfl, H7, hs7, ht7⟩
      have hfar := HS6.out.far HAP6.out.flip ht7
      have HSA := Lib.hid (same_true hfar.1 hs7 ((tapAll_wf HWF.out ((mineL S 1).take (x + y))).short (by rw [tapAll_len]; exact HSL.out)))
      have HB7 := Lib.hid (ht7.below (HTU6.out.below HB4.out HFAR.out) HTF.out)
      clear hs7 ht7 hfar HP7
      dsimp only
      go_wp2_with fail
      refine HSA.out.mono ?_
      rintro e w8 ⟨rfl, hb8⟩
      dsimp only
      go_wp2
      go_ret
      exact ⟨rfl, stepB HB7.out hb8⟩
    · obtain rfl : bo = false := by rw [← hbo]; exact decide_eq_false hyq
      have HP := Lib.hid (pay_no HS5.out HWF5.out HSL5.out 1 y (by omega) (by rw [HM5.out, HML5.out]; omega))
      clear hbo
      go_wp2_with fail
      refine HP.out.mono ?_
      rintro e w6 ⟨rfl, hb6⟩
      have HB6 := Lib.hid (stepB (HTU5.out.below HB4.out HFAR.out) hb6)
      clear hb6
      dsimp only
      go_wp2
      go_ret
      exact ⟨rfl, HB6.out⟩
  · obtain rfl : bo = false := by rw [← hbo]; exact decide_eq_false (by omega)
    have HP := Lib.hid (pay_no HS4.out HWF.out HSL.out 1 x (by omega) (by rw [HQ.out]; omega))
    clear hbo
    go_wp2_with fail
    refine HP.out.mono ?_
    rintro e w5 ⟨rfl, hb5⟩
    have HB5 := Lib.hid (stepB HB4.out hb5)
    have HS5 := Lib.hid (HS4.out.later hb5)
    clear hb5 HP
    dsimp only
    by_cases hyq : y ≤ q
    · have HP := Lib.hid (pay_ok HS5.out HWF.out HSL.out 1 y (by rw [HQ.out]; exact hyq))
      go_wp2_with fail
      refine HP.out.mono ?_
      rintro e w6 ⟨rfl, G6, hs6, ht6⟩
      have HB6 := Lib.hid (ht6.below HB5.out HFAR.out)
      clear hs6 ht6
      dsimp only
      go_wp2
      go_ret
      exact ⟨rfl, HB6.out⟩
    · have HP := Lib.hid (pay_no HS5.out HWF.out HSL.out 1 y (by omega) (by rw [HQ.out]; omega))
      go_wp2_with fail
      refine HP.out.mono ?_
      rintro e w6 ⟨rfl, hb6⟩
      have HB6 := Lib.hid (stepB HB5.out hb6)
      clear hb6
      dsimp only
      go_wp2
      go_ret
      exact ⟨rfl, HB6.out⟩
end Go.Proofs.Ytkhgdfalbmkgcaa
