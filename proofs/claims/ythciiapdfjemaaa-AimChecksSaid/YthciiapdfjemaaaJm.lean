/- Made (layer 7's law): a store with things, if they may be. The document's example (layer 7): awake. -/
import Derived.Test.YthciiapdfjemaaaJk
namespace Go.Proofs.Ythciiapdfjemaaa
open Go.RowKit Go.Maps

def RetMade (w : World) (l : List ThingL) (e : Ending) (w' : World) : Prop :=
  (playT l ∧ ∃ b lo G S, e = .returned (.pointer (some ⟨b, 0, none⟩)) ∧ StoreAt w' lo b G S ∧ MadeS S l ∧ w.heap.size ≤ lo ∧ lo ≤ w'.heap.size ∧ Below w.heap.size w w') ∨ (¬playT l ∧ e = .returned (.pointer none) ∧ Below w.heap.size w w')
theorem cards_form {w : World} {v : Value} (h : Crd.CardsAt w v T7) : ∃ xa xc, v = .slice xa 4 xc := h.form
set_option maxRecDepth 100000 in
set_option maxHeartbeats 8000000 in
theorem made_any {w : World} {v : Value} {l : List ThingL} (hv : ThingsAt w v l) (hw : ∀ x ∈ l, Wf x.owner ∧ Wf x.zone) (hlen : l.length ≤ 9223372036854775807) :
    Calls Try.prog 8 #[v] w (RetMade w l) := by
  have HV := Lib.hid hv
  have HW := Lib.hid hw
  obtain ⟨va, vc, rfl⟩ := hv.form
  clear hv hw
  by_cases h40 : 40 < l.length
  · have d0 : decide ((40 : Int) < l.length) = true := decide_eq_true (by omega)
    have HN := Lib.hid (show ¬playT l from fun h => by have := h.1; omega)
    go_enter Try.func8, Try.ntmps8
    go_wp2
    go_ret
    exact .inr ⟨HN.out, rfl, Below.refl _ _⟩
  have d0 : decide ((40 : Int) < l.length) = false := decide_eq_false (by omega)
  have d0' : decide (40 < l.length) = false := decide_eq_false (by omega)
  go_enter Try.func8, Try.ntmps8
  go_wp2_with fail
  refine (table_law _).mono ?_
  rintro e w1 ⟨tv, rfl, hc, hb1⟩
  have HNW := Lib.hid (newS_ok hc T7_ok 4 (by decide) (by decide))
  obtain ⟨ta, tc, rfl⟩ := cards_form hc
  have HB1 := Lib.hid hb1
  clear hc hb1
  dsimp only
  go_wp2_with fail
  refine HNW.out.mono ?_
  rintro e w2 ⟨b, G, rfl, hst, hb2⟩
  have HB2 := Lib.hid (stepB HB1.out hb2)
  have HS2 := Lib.hid hst
  have HL2 := Lib.hid (And.intro HB1.out.size hb2.size)
  obtain ⟨lo, hlo⟩ : ∃ lo, w1.heap.size = lo := ⟨_, rfl⟩
  rw [hlo] at HS2 HL2
  clear hst hb2 hlo HNW HB1
  dsimp only
  go_wp2
  go_loopw [27] (fun i wr => ∃ (k : Nat) (G : Ghost) (S : StoreL), k ≤ l.length ∧ i = .int .i64 k ∧ Hid (StoreAt wr lo b G S) ∧ Hid (MadeS S (l.take k)) ∧ Hid (Below w.heap.size w wr) ∧ Hid (lo ≤ wr.heap.size) ∧ Hid ((l.take k).all okT = true)) (fun i _ => l.length - (intOf i).toNat)
  case atStart => exact ⟨0, G, _, Nat.zero_le _, rfl, HS2, Lib.hid (by rw [List.take_zero]; exact made_none), HB2, Lib.hid HL2.out.2, Lib.hid rfl⟩
  case round =>
    obtain ⟨k, G3, S3, hk, rfl, H3, HM3, HB3, HL3, HOK⟩ := hrel
    by_cases hlt : k < l.length
    · obtain ⟨tb, off, rfl, t0, t1, t2, t3, t4⟩ := (HV.out.later HB3.out).at k hlt
      have htk := take_last l k hlt
      have hwx := HW.out l[k] (List.getElem_mem hlt)
      have hall : okT l[k] = false → l.all okT = false := Crd.allB_not hlt
      have htl : (l.take k).length = k := by rw [List.length_take]; omega
      obtain ⟨x, hx⟩ : ∃ x, l[k] = x := ⟨_, rfl⟩
      rw [hx] at t0 t1 t2 t3 t4 htk hwx hall
      have HTK := Lib.hid htk
      have HTL := Lib.hid htl
      have HX := Lib.hid hx
      clear hx htk htl
      by_cases hok : okT x = true
      · obtain ⟨x0, x1, x2, tp, sk⟩ := x
        have hok2 := hok
        simp only [okT, decide_eq_true_eq] at hok2
        obtain ⟨n, rfl⟩ : ∃ n : Nat, x0 = n := ⟨x0.toNat, by omega⟩
        obtain ⟨ow, rfl⟩ : ∃ n : Nat, x1 = n := ⟨x1.toNat, by omega⟩
        obtain ⟨z, rfl⟩ : ∃ n : Nat, x2 = n := ⟨x2.toNat, by omega⟩
        obtain ⟨hk3, i0, i1, i2, i3, i4, i5, hm4⟩ := HM3.out.step ⟨n, ow, z, tp, sk⟩ n ow z rfl rfl rfl (by omega) (by omega) (by omega) (by omega) HTL.out
        have hlen3 : S3.objs.length = k := by rw [HM3.out.len]; exact HTL.out
        have hb0 := below_new wr (.cells #[.int .i64 n, .int .i64 ow, .int .i64 z, .bool tp, .bool sk] 42)
        have HAD := Lib.hid (add_ok (H3.out.later hb0) (by have := HL3.out; simp; omega) (HM3.out.wf.short (by omega)) n ow z (by rw [HM3.out.T]; show n < 4; omega) (by rw [HM3.out.seats]; omega) (by omega) (by omega))
        rw [hlen3] at HAD
        obtain ⟨s0, hs0⟩ : ∃ s0, (freshO T7 ((k : Int) + 1) n ow z).sick = s0 := ⟨_, rfl⟩
        have hfr : freshO T7 ((k : Int) + 1) n ow z = ⟨(k : Int) + 1, n, ow, z, false, s0, 0, 0, 0, 0, false⟩ := by rw [← hs0]; rfl
        rw [hfr] at i4
        have HGE := Lib.hid (fun (W' : World) (G' : Ghost) (hs : StoreAt W' lo b G' (addL S3 n ow z)) => get_in hs (by rw [i5]; omega) k hk3)
        rw [i4] at HGE
        have HSE := Lib.hid (fun (W' : World) (G' : Ghost) (hs : StoreAt W' lo b G' (addL S3 n ow z)) => set_any hs (by rw [i5]; omega) k hk3 (objT k ⟨n, ow, z, tp, sk⟩) rfl i1.symm i2.symm i3.symm)
        have HM4 := Lib.hid hm4
        have HBW := Lib.hid (show ∀ q, G3.tag q ≠ .no → w.heap.size ≤ q from fun q hq => Nat.le_trans (by have := HL2.out.1; omega) (H3.out.low q hq))
        have HOK4 := Lib.hid (show (l.take (k + 1)).all okT = true by rw [HTK.out, List.all_append, HOK.out, Bool.true_and]; simp [hok])
        unfold RetGet oagg at HGE
        unfold objT oagg at HSE
        dsimp only at HGE HSE
        have HT0 := Lib.hid (show ∀ j, (wr.alloc (.cells #[.int .i64 n, .int .i64 ow, .int .i64 z, .bool tp, .bool sk] 42)).cell? ⟨wr.heap.size, j, none⟩ = (#[.int .i64 n, .int .i64 ow, .int .i64 z, .bool tp, .bool sk] : Array Value)[j]? from fun j => cell_of_row _ _ j _ _ _ (heap_alloc_new wr _))
        clear hk3 i0 i1 i2 i3 i4 i5 hm4 hs0 hfr hok hok2 hwx hall hb0
        go_wp2_with fail
        refine HAD.out.mono ?_
        rintro e w4 ⟨rfl, G4, hst4, ht4⟩
        have HT4 := Lib.hid (show Turned wr w4 G3 G4 from (Turned.of_below (below_new wr _)).trans ht4)
        have H4 := Lib.hid hst4
        have q3 : w4.cell? ⟨wr.heap.size, 3, none⟩ = some (.bool tp) := by
          rw [World.cell?_of_block (w := wr.alloc (.cells #[.int .i64 n, .int .i64 ow, .int .i64 z, .bool tp, .bool sk] 42)) (a := ⟨wr.heap.size, 3, none⟩) (ht4.chg.block wr.heap.size (by simp) (.inl (H3.out.high _ (Nat.le_refl _))))]
          exact HT0.out 3
        have q4 : w4.cell? ⟨wr.heap.size, 4, none⟩ = some (.bool sk) := by
          rw [World.cell?_of_block (w := wr.alloc (.cells #[.int .i64 n, .int .i64 ow, .int .i64 z, .bool tp, .bool sk] 42)) (a := ⟨wr.heap.size, 4, none⟩) (ht4.chg.block wr.heap.size (by simp) (.inl (H3.out.high _ (Nat.le_refl _))))]
          exact HT0.out 4
        have HG4 := Lib.hid (HGE.out w4 G4 hst4)
        clear hst4 ht4 t0 t1 t2 t3 t4 HGE HT0
        dsimp only
        go_wp2_with fail
        refine HG4.out.mono ?_
        rintro e w5 ⟨rfl, hb5⟩
        have HB5 := Lib.hid hb5
        have r30 := cell_stays (stepB hb5 (below_new w5 (.cells #[.int .i64 ((k : Int) + 1), .int .i64 n, .int .i64 ow, .int .i64 z, .bool false, .bool s0, .int .i64 0, .int .i64 0, .int .i64 0, .int .i64 0, .bool false] 65))) q3
        have r40 := cell_stays (stepB hb5 (below_new w5 (.cells #[.int .i64 ((k : Int) + 1), .int .i64 n, .int .i64 ow, .int .i64 z, .bool false, .bool s0, .int .i64 0, .int .i64 0, .int .i64 0, .int .i64 0, .bool false] 65))) q4
        have r31 := cell_stays (stepB hb5 (below_new w5 (.cells #[.int .i64 ((k : Int) + 1), .int .i64 n, .int .i64 ow, .int .i64 z, .bool false, .bool sk, .int .i64 0, .int .i64 0, .int .i64 0, .int .i64 0, .bool false] 65))) q3
        have r41 := cell_stays (stepB hb5 (below_new w5 (.cells #[.int .i64 ((k : Int) + 1), .int .i64 n, .int .i64 ow, .int .i64 z, .bool false, .bool sk, .int .i64 0, .int .i64 0, .int .i64 0, .int .i64 0, .bool false] 65))) q4
        have r32 := cell_stays (stepB hb5 (below_new w5 (.cells #[.int .i64 ((k : Int) + 1), .int .i64 n, .int .i64 ow, .int .i64 z, .bool tp, .bool s0, .int .i64 0, .int .i64 0, .int .i64 0, .int .i64 0, .bool false] 65))) q3
        have r42 := cell_stays (stepB hb5 (below_new w5 (.cells #[.int .i64 ((k : Int) + 1), .int .i64 n, .int .i64 ow, .int .i64 z, .bool tp, .bool s0, .int .i64 0, .int .i64 0, .int .i64 0, .int .i64 0, .bool false] 65))) q4
        have r33 := cell_stays (stepB hb5 (below_new w5 (.cells #[.int .i64 ((k : Int) + 1), .int .i64 n, .int .i64 ow, .int .i64 z, .bool tp, .bool sk, .int .i64 0, .int .i64 0, .int .i64 0, .int .i64 0, .bool false] 65))) q3
        have r43 := cell_stays (stepB hb5 (below_new w5 (.cells #[.int .i64 ((k : Int) + 1), .int .i64 n, .int .i64 ow, .int .i64 z, .bool tp, .bool sk, .int .i64 0, .int .i64 0, .int .i64 0, .int .i64 0, .bool false] 65))) q4
        clear q3 q4 hb5
        dsimp only
        go_wp2
        go_region
        all_goals
          go_wp2_with fail
          refine (HSE.out _ G4 (H4.out.later (stepB HB5.out (below_new w5 _)).drew)).mono ?_
          rintro e w6 ⟨rfl, G6, hs6, ht6⟩
          have HT6 := Lib.hid ((HT4.out.trans (Turned.of_below (stepB HB5.out (below_new w5 _)).drew)).trans ht6)
          have HB6 := Lib.hid (HT6.out.below HB3.out HBW.out)
          have H6 := Lib.hid (show StoreAt w6 lo b G6 (setL (addL S3 n ow z) k (objT k ⟨n, ow, z, tp, sk⟩)) from hs6)
          have HL6 := Lib.hid (Nat.le_trans HL3.out HT6.out.chg.size)
          have HM6 := Lib.hid (show MadeS (setL (addL S3 n ow z) k (objT k ⟨n, ow, z, tp, sk⟩)) (l.take (k + 1)) by rw [HTK.out]; exact HM4.out)
          clear hs6 ht6
          dsimp only
          go_wp2
          go_roundw
          case rel => exact ⟨k + 1, G6, _, by omega, by go_num, H6, HM6, HB6, HL6, HOK4⟩
          case measure => simp [intOf]; omega
      · have hno : ¬addB S3 x.card x.owner x.zone := fun h => hok (by
          obtain ⟨h1, h2, h3, h4, h5, h6⟩ := h
          rw [HM3.out.T, show T7.length = 4 from rfl] at h2
          rw [HM3.out.seats] at h4
          exact decide_eq_true ⟨h1, by omega, h3, by omega, h5, h6⟩)
        have HAD := Lib.hid (add_bad (H3.out.later (below_new wr (.cells #[.int .i64 x.card, .int .i64 x.owner, .int .i64 x.zone, .bool x.tapped, .bool x.sick] 42))) x.card x.owner x.zone hwx.1 hwx.2 hno)
        have HNP := Lib.hid (show ¬playT l from fun h => by have := h.2; rw [hall (by simpa using hok)] at this; cases this)
        clear hwx hno hok hall
        go_wp2_with fail
        refine HAD.out.mono ?_
        rintro e w4 ⟨rfl, hb4⟩
        dsimp only
        go_wp2
        go_ret
        exact .inr ⟨HNP.out, rfl, stepB (below_alloc2 HB3.out _) hb4⟩
    · obtain rfl : k = l.length := by omega
      have hm := HM3.out
      have ho := HOK.out
      rw [List.take_length] at hm ho
      have HM := Lib.hid hm
      have HP := Lib.hid (show playT l from ⟨by omega, ho⟩)
      clear hm ho
      go_wp2
      go_ret
      exact .inl ⟨HP.out, b, lo, G3, S3, rfl, H3.out, HM.out, HL2.out.1, HL3.out, HB3.out⟩
end Go.Proofs.Ythciiapdfjemaaa
namespace Go.Proofs.Ythciiapdfjemaaa
open Go.RowKit Go.Maps

def oneT : ThingL := ⟨0, 0, 3, false, false⟩
def threeT : List ThingL := [oneT, oneT, oneT]
end Go.Proofs.Ythciiapdfjemaaa
