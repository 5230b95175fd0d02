/- The law StackNone, walked (layer 12). -/
import Derived.Test.YtgjojjhppgjkkaaGreatKh
import Derived.Test.YtgjojjhppgjkkaaGreatKi
namespace Go.Proofs.YtgjojjhppgjkkaaGreat
open Go.RowKit Go.Maps
attribute [local go_sem] Oper.semAt_some

theorem pop_any {w : World} {lo b : Nat} {g : Option Nat} {L : List EntL} (h : StackAt w lo b g L) (hL : L.length ≤ 1000) : Calls Tryz.prog 23 #[.pointer (some ⟨b, 0, none⟩)] w (RetStk w lo b g (.tuple #[entV (topE L), .bool (decide (0 < L.length))]) L.dropLast) := by
  rcases List.eq_nil_or_concat L with rfl | ⟨M, y, rfl⟩
  · refine (pop_empty h).mono ?_
    rintro e w1 ⟨rfl, hb⟩
    exact ⟨g, rfl, h.later hb, Chg.of_below hb, .inl rfl⟩
  · rw [List.concat_eq_append] at h hL ⊢
    rw [topE_snoc, show decide (0 < (M ++ [y]).length) = true from decide_eq_true (by simp), List.dropLast_concat]
    exact pop_ok y h (by simp at hL; omega)
theorem drop_same (L : List EntL) : decide (L.dropLast = L) = !decide (0 < L.length) := by
  by_cases h : 0 < L.length
  · rw [decide_eq_true h, decide_eq_false]
    · rfl
    · intro e
      have := congrArg List.length e
      rw [List.length_dropLast] at this
      omega
  · have : L = [] := List.eq_nil_of_length_eq_zero (by omega)
    subst this
    rfl
theorem none_results {W : World} {q : Nat} {t : Bool} {T : TypeId} {tmps : Array Value} (e4 : tmps.getD 4 undef = .pointer (some ⟨q, 0, none⟩)) (h2 : W.heap[q]? = some (.cells #[.bool t] T (0, 0))) :
    (results Tryz.f6 tmps).run Tryz.prog W = .ok (.bool t) W := by
  have m0 : W.cell? ⟨q, 0, none⟩ = some (.bool t) := cell_of_row W q 0 _ _ _ h2
  simp only [Array.getD_eq_getD_getElem?] at e4
  simp [results, Tryz.results6, go_sem, e4, m0]
set_option maxRecDepth 100000 in
set_option maxHeartbeats 16000000 in
theorem stackNone_walk {v : Value} {l : List EntL} (x : EntL) {w : World} (hv : EntsAt w v l) (hlen : l.length ≤ 9223372036854775807) :
    Calls Tryz.prog 6 #[v, entV x] w (RetV w (.bool true)) := by
  obtain ⟨x0, x1, x2, x3⟩ := x
  have hb0 := below_alloc2 (below_new w (.cells #[.int .i64 x0, .int .i64 x1, .int .i64 x2, .bool x3] 59)) (.cells #[.bool false] 4)
  have h3 : ((w.alloc (.cells #[.int .i64 x0, .int .i64 x1, .int .i64 x2, .bool x3] 59)).alloc (.cells #[.bool false] 4)).heap[w.heap.size]? = some (.cells #[.int .i64 x0, .int .i64 x1, .int .i64 x2, .bool x3] 59 (0, 0)) := (Below.heap_alloc _ _ _ (by simp)).trans (heap_alloc_new w _)
  have h4 : ((w.alloc (.cells #[.int .i64 x0, .int .i64 x1, .int .i64 x2, .bool x3] 59)).alloc (.cells #[.bool false] 4)).heap[w.heap.size + 1]? = some (.cells #[.bool false] 4 (0, 0)) := by
    have := heap_alloc_new (w.alloc (.cells #[.int .i64 x0, .int .i64 x1, .int .i64 x2, .bool x3] 59)) (.cells #[.bool false] 4)
    rwa [World.size_alloc] at this
  obtain ⟨W0, hW0⟩ : ∃ W0, (w.alloc (.cells #[.int .i64 x0, .int .i64 x1, .int .i64 x2, .bool x3] 59)).alloc (.cells #[.bool false] 4) = W0 := ⟨_, rfl⟩
  obtain ⟨q3, hq3⟩ : ∃ q3, w.heap.size = q3 := ⟨_, rfl⟩
  rw [hW0] at hb0 h3 h4
  rw [hq3] at h3 h4
  have HW0 := Lib.hid hW0
  have HQ3 := Lib.hid hq3
  have HB0 := Lib.hid hb0
  have HR := Lib.hid (And.intro h3 h4)
  have HV := Lib.hid (hv.later hb0)
  obtain ⟨xa, xc, rfl⟩ := hv.form
  unfold entV
  dsimp only
  clear hb0 h3 h4 hW0 hq3 hv
  refine (callsIn_wide (n := 9)).1 ?_
  refine callsIn_of_wp_marks Tryz.func6 rfl trivial ?_ rfl
  simp only [Tryz.ntmps6, List.size_toArray, List.length_cons, List.length_nil, Nat.reduceAdd, Nat.reduceSub, Array.replicate_succ, Array.replicate_zero, List.push_toArray, List.append_toArray, List.nil_append, List.cons_append]
  refine wpIn_wide.2 ?_
  go_wp2_with fail
  rw [HW0.out]
  simp only [HQ3.out]
  refine (awake12_any W0).mono ?_
  rintro e w1 ⟨rfl, hb1⟩
  have HB1 := Lib.hid hb1
  have hrow1 := (hb1.block (q3 + 1) (Crd.lt_of_row HR.out.2)).trans HR.out.2
  have m4 : w1.cell? ⟨q3 + 1, 0, none⟩ = some (.bool false) := cell_of_row w1 _ 0 _ _ _ hrow1
  have f4 := fun j => frozen_of_row w1 (q3 + 1) j _ _ hrow1
  have HRW1 := Lib.hid hrow1
  clear hb1 hrow1
  by_cases h20 : 20 < l.length
  · have d0 : decide ((20 : Int) < l.length) = true := decide_eq_true (by omega)
    have hset : (w1.setCell ⟨q3 + 1, 0, none⟩ (.bool true)).heap[q3 + 1]? = some (.cells #[.bool true] 4 (0, 0)) := by
      rw [heap_setCell_same _ (q3 + 1) 0 (#[.bool false]) 4 (.bool true) HRW1.out]
      rfl
    have HSET := Lib.hid hset
    have HBW := Lib.hid ((stepB HB0.out HB1.out).setCell (p := ⟨q3 + 1, 0, none⟩) (show w.heap.size ≤ q3 + 1 by have := HQ3.out; omega) (.bool true))
    clear hset
    go_wp2
    exact ⟨_, none_results rfl HSET.out, rfl, HBW.out⟩
  · have d0 : decide ((20 : Int) < l.length) = false := decide_eq_false (by omega)
    have hl20 : l.length ≤ 20 := by omega
    obtain ⟨L, hL⟩ : ∃ L, l.take 8 = L := ⟨_, rfl⟩
    have hLn : (L.length : Int) = min (l.length : Int) 8 := by rw [← hL, List.length_take]; omega
    have HLN := Lib.hid hLn
    have hL8 : L.length ≤ 8 := by omega
    have HNW := Lib.hid (new_stk (HV.out.later HB1.out) (by omega))
    rw [hL] at HNW
    clear h20 hL hLn
    go_wp2_with fail
    refine HNW.out.mono ?_
    rintro e w2 ⟨b, gk, rfl, hs2, hb2⟩
    have HS2 := Lib.hid hs2
    have HB2 := Lib.hid hb2
    clear hs2 hb2 HNW
    dsimp only
    go_wp2_with fail
    refine (copy_stk HS2.out (by omega)).mono ?_
    rintro e w3 ⟨c, gc, rfl, hs3, hb3⟩
    have HS3 := Lib.hid (HS2.out.later hb3)
    have HC3 := Lib.hid hs3
    have HSEP : Hid (Sep c gc b gk) := Lib.hid ⟨fun e => by have := HS2.out.lt; have := hs3.lo; omega, fun e => by have := hs3.row b e; have := HS2.out.lt; omega, fun e => by have := HS2.out.row c e; have := hs3.lo; omega, fun k h1 h2 => by have := hs3.row k h1; have := HS2.out.row k h2; omega⟩
    have HB3 := Lib.hid (stepB HB2.out hb3)
    clear hs3 hb3 HS2
    dsimp only
    go_wp2_with fail
    refine (resolve_nil _ w3).mono ?_
    rintro e w4 ⟨rfl, hb4⟩
    have hb5 := stepB hb4 (below_new w4 (.cells #[.int .i64 0, .int .i64 0, .int .i64 0, .bool false] 59))
    have HB5 := Lib.hid (stepB HB3.out hb5)
    have HS5 := Lib.hid (HS3.out.later hb5)
    have HC5 := Lib.hid (HC3.out.later hb5)
    obtain ⟨W5, hW5⟩ : ∃ W5, w4.alloc (.cells #[.int .i64 0, .int .i64 0, .int .i64 0, .bool false] 59) = W5 := ⟨_, rfl⟩
    rw [hW5] at HB5 HS5 HC5
    have HW5 := Lib.hid hW5
    clear hb4 hb5 hW5 HS3 HC3
    have hsm := same_stk HS5.out HC5.out (by omega)
    rw [decide_eq_true rfl] at hsm
    have HSM := Lib.hid hsm
    clear hsm m4 f4
    simp only [entV, zeroE]
    go_upto_region 8 with fail
    rw [HW5.out]
    go_wp2_with fail
    refine HSM.out.mono ?_
    rintro e w6 ⟨rfl, n6, rfl⟩
    have HS6 := Lib.hid (HS5.out.later (below_drewN (Below.refl _ _) n6))
    have HC6 := Lib.hid (HC5.out.later (below_drewN (Below.refl _ _) n6))
    have HB6 := Lib.hid (below_drewN HB5.out n6)
    obtain ⟨w6, hw6⟩ : ∃ w6, W5.drewN n6 = w6 := ⟨_, rfl⟩
    rw [hw6] at HS6 HC6 HB6 ⊢
    clear hw6 HS5 HC5 HB5
    go_wp2_with fail
    refine (len_stk HS6.out).mono ?_
    rintro e w7 ⟨rfl, rfl⟩
    have hne : ((L.length : Int) != min (l.length : Int) 8) = false := by rw [HLN.out]; exact bne_self_eq_false _
    have HPO := Lib.hid (pop_any HC6.out (by omega))
    obtain ⟨y, hy⟩ : ∃ y, topE L = y := ⟨_, rfl⟩
    obtain ⟨wb, hwb⟩ : ∃ wb, decide (0 < L.length) = wb := ⟨_, rfl⟩
    have hds := drop_same L
    rw [hy, hwb] at HPO
    rw [hwb] at hds
    obtain ⟨y0, y1, y2, y3⟩ := y
    unfold entV at HPO
    dsimp only at HPO
    have HDS := Lib.hid hds
    have HCR := Lib.hid HC6.out.row
    clear hy hwb hds HC6
    go_upto_region 10 with fail
    go_wp2_with fail
    refine HPO.out.mono ?_
    rintro e w8 ⟨gc', rfl, hc8, hch8, hn8⟩
    have hb9 := below_new w8 (.cells #[.int .i64 y0, .int .i64 y1, .int .i64 y2, .bool y3] 59)
    have HC9 := Lib.hid (hc8.later hb9)
    have HS9 := Lib.hid ((HS6.out.far hch8 HSEP.out).later hb9)
    have hcl : w1.heap.size ≤ c := Nat.le_trans HB2.out.size HC9.out.lo
    have HB9 := Lib.hid (stepB (hch8.below HB6.out hcl (fun k hk => Nat.le_trans HB2.out.size (HCR.out k hk).1)) hb9)
    obtain ⟨W9, hW9⟩ : ∃ W9, w8.alloc (.cells #[.int .i64 y0, .int .i64 y1, .int .i64 y2, .bool y3] 59) = W9 := ⟨_, rfl⟩
    rw [hW9] at HC9 HS9 HB9
    have HW9 := Lib.hid hW9
    have hsm := same_stk HC9.out HS9.out (by rw [List.length_dropLast]; omega)
    rw [HDS.out] at hsm
    have HSM := Lib.hid hsm
    have hbb : (wb == !wb) = false := by cases wb <;> rfl
    clear hc8 hch8 hn8 hb9 hW9 hsm hcl HPO HCR
    dsimp only
    go_upto_region 11 with fail
    rw [HW9.out]
    go_wp2_with fail
    refine HSM.out.mono ?_
    rintro e w10 ⟨rfl, n10, rfl⟩
    have HS10 := Lib.hid (HS9.out.later (below_drewN (Below.refl _ _) n10))
    have HB10 := Lib.hid (below_drewN HB9.out n10)
    obtain ⟨w10, hw10⟩ : ∃ w10, W9.drewN n10 = w10 := ⟨_, rfl⟩
    rw [hw10] at HS10 HB10 ⊢
    clear hw10 HS9 HC9 HB9
    go_upto_region 14 with fail
    go_wp2_with fail
    refine (allK0_any w10).mono ?_
    rintro e w11 ⟨rfl, hc11, hb11⟩
    have HSEQ := Lib.hid (allK0_seq 8 (w := w11) (fun l => KpP (fun k => False ∨ k = l) (fun _ => False)) hc11)
    have HS11 := Lib.hid (HS10.out.later hb11)
    have HB11 := Lib.hid (stepB HB10.out hb11)
    obtain ⟨qa, hqa⟩ : ∃ qa, w10.heap.size = qa := ⟨_, rfl⟩
    rw [hqa] at HSEQ ⊢
    clear hc11 hb11 hqa HS10
    dsimp only
    go_wp2_with fail
    refine (wpIn_wide (n := 9)).1 ?_
    refine range_world3 rfl (by omega) (I := fun (_ : List EntL) W => Below w11.heap.size w11 W) (Ix := fun _ _ _ => False) (gf := 53) (lb := _) rfl trivial (fun _ _ => by kernel_rfl) HSEQ.out KpP.trans (fun W' o o' ho hc _ => KpP.put o' (.inr rfl) ho hc) (fun W W' hb => KpP.of_below _ _ hb) (Below.refl _ _) (fun _ => rfl)
      (fun s A B row hs hg hr => ownFrom_below (β := Unit) (Nat.le_refl _) (Nat.le_refl _) () A B row hs hg hr) (fun c s A B row hs hg hr => hs) (fun s A B row hs hg hr => hs) (fun s A B row hs hg hr => hs) (Below.refl _ _) ?round ?done ?stop
    case stop =>
      rintro D c pre W hD hS hI hK
      exact hI.elim
    case round =>
      rintro pre x W K hI hT hsz hK
      exact hT.elim
    case done =>
      rintro D xs w12 hD hS hI hK
      have HK := Lib.hid hK
      have HD := Lib.hid (show w11.heap.size ≤ D from hD)
      have HS12 := Lib.hid (HS11.out.later hI)
      have HB12 := Lib.hid (stepB HB11.out hI)
      have HDL := Lib.hid (Crd.lt_of_row hK)
      have HTP := Lib.hid (fun (w' : World) => top_stk0 w')
      have HPP := Lib.hid (fun (w' : World) => pop_stk0 w')
      simp only [entV, zeroE] at HTP HPP
      clear hD hS hI hK
      go_wp2_with fail
      refine (HPP.out w12).mono ?_
      rintro e w13 ⟨rfl, hb13⟩
      have hb14 := stepB hb13 (below_new w13 (.cells #[.int .i64 0, .int .i64 0, .int .i64 0, .bool false] 59))
      obtain ⟨W14, hW14⟩ : ∃ W14, w13.alloc (.cells #[.int .i64 0, .int .i64 0, .int .i64 0, .bool false] 59) = W14 := ⟨_, rfl⟩
      rw [hW14] at hb14
      have HB14 := Lib.hid hb14
      have HW14 := Lib.hid hW14
      clear hb13 hb14 hW14
      dsimp only
      go_upto_region 17 with fail
      rw [HW14.out]
      go_wp2_with fail
      refine (HTP.out W14).mono ?_
      rintro e w15 ⟨rfl, hb15⟩
      have hb16 := stepB hb15 (below_new w15 (.cells #[.int .i64 0, .int .i64 0, .int .i64 0, .bool false] 59))
      obtain ⟨W16, hW16⟩ : ∃ W16, w15.alloc (.cells #[.int .i64 0, .int .i64 0, .int .i64 0, .bool false] 59) = W16 := ⟨_, rfl⟩
      rw [hW16] at hb16
      have HB16 := Lib.hid (stepB HB14.out hb16)
      have HW16 := Lib.hid hW16
      have h3 := ((stepB (stepB HB1.out HB12.out) HB16.out).block q3 (Crd.lt_of_row HR.out.1)).trans HR.out.1
      have k0 := cell_of_row W16 q3 0 _ _ _ h3
      have k1 := cell_of_row W16 q3 1 _ _ _ h3
      have k2 := cell_of_row W16 q3 2 _ _ _ h3
      have k3 := cell_of_row W16 q3 3 _ _ _ h3
      have HPU := Lib.hid (fun (w' : World) => push_stk0 ⟨x0, x1, x2, x3⟩ w')
      simp only [entV] at HPU
      clear hb15 hb16 hW16 h3
      dsimp only
      go_upto_region 18 with fail
      rw [HW16.out]
      go_wp2_with fail
      refine (HPU.out W16).mono ?_
      rintro e w17 ⟨rfl, hb17⟩
      have HB17 := Lib.hid (stepB HB16.out hb17)
      clear hb17 k0 k1 k2 k3
      go_wp2_with fail
      refine (len_stk0 w17).mono ?_
      rintro e w18 ⟨rfl, rfl⟩
      go_wp2_with fail
      refine (room_stk0 w18).mono ?_
      rintro e w19 ⟨rfl, rfl⟩
      go_wp2_with fail
      refine (copy_stk0 w19).mono ?_
      rintro e w20 ⟨rfl, rfl⟩
      go_wp2_with fail
      refine (same_stk00 w20).mono ?_
      rintro e w21 ⟨rfl, rfl⟩
      go_wp2_with fail
      refine (same_stk0 b w21).mono ?_
      rintro e w22 ⟨rfl, rfl⟩
      have h4 := ((stepB HB12.out HB17.out).block (q3 + 1) (Crd.lt_of_row HRW1.out)).trans HRW1.out
      have m4 : w22.cell? ⟨q3 + 1, 0, none⟩ = some (.bool false) := cell_of_row w22 _ 0 _ _ _ h4
      have f4 := fun j => frozen_of_row w22 (q3 + 1) j _ _ h4
      have hDK : w22.heap[D]? = some (.deferred (some [])) := (HB17.out.block D HDL.out).trans HK.out
      have hset : (w22.setCell ⟨q3 + 1, 0, none⟩ (.bool true)).heap[q3 + 1]? = some (.cells #[.bool true] 4 (0, 0)) := by
        rw [heap_setCell_same _ (q3 + 1) 0 (#[.bool false]) 4 (.bool true) h4]
        rfl
      have hqD : q3 + 1 < D := by have h1 := Crd.lt_of_row HRW1.out; have h2 := HB11.out.size; have h3 := HD.out; omega
      have hsD : (w22.setCell ⟨q3 + 1, 0, none⟩ (.bool true)).heap[D]? = some (.deferred (some [])) := by
        rw [heap_setCell_other _ ⟨q3 + 1, 0, none⟩ D _ (by show D ≠ q3 + 1; omega)]
        exact hDK
      have HF := Lib.hid (And.intro hset (And.intro hsD hqD))
      have HBW := Lib.hid (((stepB (stepB HB0.out HB1.out) (stepB HB12.out HB17.out))).setCell (p := ⟨q3 + 1, 0, none⟩) (show w.heap.size ≤ q3 + 1 by have := HQ3.out; omega) (.bool true))
      have HWD := Lib.hid (show w.heap.size ≤ D by have := HQ3.out; omega)
      clear h4 hDK hset hsD hqD
      go_wp2
      refine ⟨by simp, .inl ⟨_, _, rfl, run_takeDeferred HF.out.2.1, ?_⟩⟩
      exact ⟨_, none_results rfl ((World.putObj_heap_other (by have := HF.out.2.2; omega)).trans HF.out.1), rfl, below_putD HBW.out HWD.out HF.out.2.1 _⟩
end Go.Proofs.YtgjojjhppgjkkaaGreat
