/- The law ObjectMoves (layer 6), walked: for every table, all calls and every one more it returns true, and only new memory is made. -/
import Derived.Test.YtkhgdfalbmkgcaaLd
import Derived.Deep.Cut
namespace Go.Proofs.Ytkhgdfalbmkgcaa
open Go.RowKit Go.Maps
attribute [local go_sem] Oper.semAt_some

set_option maxRecDepth 100000 in
set_option maxHeartbeats 32000000 in
theorem objectMoves_walk {v u : Value} {T : List Crd.CardL} {l : List OpL} {o : OpL} {w : World} (hv : Crd.CardsAt w v T) (hT : T.length ≤ 9223372036854775807) (hu : OpsAt w u l) (hw : ∀ x ∈ l, WfO x) (hlen : l.length ≤ 9223372036854775807) :
    Calls Try.prog 4 #[v, u, .agg #[.int .i64 o.k, .int .i64 o.a, .int .i64 o.b, .int .i64 o.c, .bool o.under]] w (RetV w (.bool true)) := by
  have HMD := Lib.hid (fun (w' : World) (hb : Below w.heap.size w w') => madeO_any (hv.later hb) hT (hu.later hb) hw hlen 4 (by decide) (by decide))
  obtain ⟨va, vc, rfl⟩ := hv.form
  obtain ⟨ua, uc, rfl⟩ := hu.form
  obtain ⟨ok, oa, ob, oc, un⟩ := o
  dsimp only
  clear hv hu hw
  refine (callsIn_wide (n := 9)).1 ?_
  have hbx := below_new w (.cells #[.int .i64 ok, .int .i64 oa, .int .i64 ob, .int .i64 oc, .bool un] 43)
  have hby := stepB hbx (below_new (w.alloc (.cells #[.int .i64 ok, .int .i64 oa, .int .i64 ob, .int .i64 oc, .bool un] 43)) (.cells #[.bool false] 4))
  have hop := ((below_new (w.alloc (.cells #[.int .i64 ok, .int .i64 oa, .int .i64 ob, .int .i64 oc, .bool un] 43)) (.cells #[.bool false] 4)).block w.heap.size (by simp)).trans (heap_alloc_new w (.cells #[.int .i64 ok, .int .i64 oa, .int .i64 ob, .int .i64 oc, .bool un] 43))
  have hrb := heap_alloc_new (w.alloc (.cells #[.int .i64 ok, .int .i64 oa, .int .i64 ob, .int .i64 oc, .bool un] 43)) (.cells #[.bool false] 4)
  rw [World.size_alloc] at hrb
  obtain ⟨q, hq⟩ : ∃ q, w.heap.size = q := ⟨_, rfl⟩
  have HQ := Lib.hid hq
  refine callsIn_of_wp_marks Try.func4 rfl trivial ?_ rfl
  simp only [Try.ntmps4, List.size_toArray, List.length_cons, List.length_nil, Nat.reduceAdd, Nat.reduceSub, Array.replicate_succ, Array.replicate_zero, List.push_toArray, List.append_toArray, List.nil_append, List.cons_append]
  refine wpIn_wide.2 ?_
  go_wp2_with fail
  refine (awake6_any _).mono ?_
  rintro e w1 ⟨rfl, hb1⟩
  have HB1 := Lib.hid (stepB hby hb1)
  have HOP1 := Lib.hid ((hb1.block _ (by simp; omega)).trans hop)
  have HRB1 := Lib.hid ((hb1.block _ (by simp)).trans hrb)
  rw [hq] at HOP1 HRB1
  clear hbx hby hop hrb hb1 hq
  dsimp only
  go_wp2_with fail
  refine (HMD.out _ HB1.out).mono ?_
  rintro e w2 (⟨rfl, hb2⟩ | ⟨b, lo, G, S, rfl, hs, hf, hlo, hle, hb2⟩)
  · have HB2 := Lib.hid (stepB (stepB HB1.out hb2) (below_new w2 (.cells #[.pointer none] 26)))
    have hr : HdAt w2 (q + 1) (.bool false) := ⟨_, (hb2.block _ (Array.getElem?_eq_some_iff.1 HRB1.out).1).trans HRB1.out⟩
    have HR2 := Lib.hid (hr.later (below_new w2 (.cells #[.pointer none] 26)))
    have c1 := HR2.out.cell
    have f1 := HR2.out.frozen
    have HRR := Lib.hid (HR2.out.set (.bool true))
    have HBR := Lib.hid (HB2.out.setCell (p := ⟨q + 1, 0, none⟩) (by show w.heap.size ≤ q + 1; have := HQ.out; omega) (.bool true))
    clear hb2 hr
    dsimp only
    go_wp2
    exact ⟨_, results_b6 rfl rfl HRR.out, rfl, HBR.out⟩
  have HB2 := Lib.hid (stepB HB1.out hb2)
  have HS2 := Lib.hid hs
  have HF := Lib.hid hf
  have hq2 := HB1.out.size
  have HKP2 : Hid (Kept w2 G [(q, .cells #[.int .i64 ok, .int .i64 oa, .int .i64 ob, .int .i64 oc, .bool un] 43 (0, 0)), (q + 1, .cells #[.bool false] 4 (0, 0))]) := Lib.hid (by
    have k1 := (Array.getElem?_eq_some_iff.1 HOP1.out).1
    have k2 := (Array.getElem?_eq_some_iff.1 HRB1.out).1
    have htag : ∀ k, k < w1.heap.size → G.tag k = .no := fun k hk => Classical.byContradiction fun hn => by have := hs.low k hn; omega
    intro p hp
    rcases List.mem_cons.1 hp with rfl | hp
    · exact ⟨(hb2.block _ k1).trans HOP1.out, htag _ k1⟩
    · obtain rfl := List.mem_singleton.1 hp
      exact ⟨(hb2.block _ k2).trans HRB1.out, htag _ k2⟩)
  have HFAR := Lib.hid (show ∀ k, G.tag k ≠ .no → w.heap.size ≤ k from fun k hk => Nat.le_trans (Nat.le_trans HB1.out.size hlo) (hs.low k hk))
  clear hs hf hlo hle hb2 hq2 HMD
  -- the box of s
  have hb3 := below_new w2 (.cells #[.pointer (some ⟨b, 0, none⟩)] 26)
  have HS3 := Lib.hid (HS2.out.later hb3)
  have HK3 := Lib.hid ((HKP2.out.later hb3).cons (heap_alloc_new w2 (.cells #[.pointer (some ⟨b, 0, none⟩)] 26)) (HS2.out.high _ (Nat.le_refl _)))
  have HB3 := Lib.hid (stepB HB2.out hb3)
  clear hb3
  obtain ⟨w3, hw3⟩ : ∃ w3, w2.alloc (.cells #[.pointer (some ⟨b, 0, none⟩)] 26) = w3 := ⟨_, rfl⟩
  obtain ⟨q7, hq7⟩ : ∃ q7, w2.heap.size = q7 := ⟨_, rfl⟩
  rw [hw3] at HS3 HK3 HB3
  rw [hq7] at HK3
  have c7 : w3.cell? ⟨q7, 0, none⟩ = some (.pointer (some ⟨b, 0, none⟩)) := HK3.out.c0 0
  have ca : w3.cell? ⟨q, 1, none⟩ = some (.int .i64 oa) := HK3.out.c1 1
  dsimp only
  by_cases hin : 1 ≤ oa ∧ oa ≤ (S.objs.length : Int)
  case neg =>
    have HGE := Lib.hid (get_out HS3.out (by have := HF.out.len; omega) oa (by omega))
    unfold RetGet oagg zeroO at HGE
    dsimp only at HGE
    clear hin
    go_wp2_with fail
    refine HGE.out.mono ?_
    rintro e w4 ⟨rfl, hb4⟩
    clear hw3 hq7 c7 ca
    have HK4 := Lib.hid (HK3.out.later (below_alloc2 hb4 (.cells #[.int .i64 0, .int .i64 0, .int .i64 0, .int .i64 0, .bool false, .bool false, .int .i64 0, .int .i64 0, .int .i64 0, .int .i64 0, .bool false] 32)))
    have HB4 := Lib.hid (stepB HB3.out (below_alloc2 hb4 (.cells #[.int .i64 0, .int .i64 0, .int .i64 0, .int .i64 0, .bool false, .bool false, .int .i64 0, .int .i64 0, .int .i64 0, .int .i64 0, .bool false] 32)))
    clear hb4
    dsimp only
    have HR := Lib.hid HK4.out.h2
    have HRR := Lib.hid (HR.out.set (.bool true))
    have HBR := Lib.hid (HB4.out.setCell (p := ⟨q + 1, 0, none⟩) (by show w.heap.size ≤ q + 1; have := HQ.out; omega) (.bool true))
    have cr := HR.out.cell
    have fr := HR.out.frozen
    clear HR
    go_wp2
    exact ⟨_, results_b6 rfl rfl HRR.out, rfl, HBR.out⟩
  obtain ⟨j, rfl⟩ : ∃ j : Nat, oa = (j : Int) + 1 := ⟨(oa - 1).toNat, by omega⟩
  have hj : j < S.objs.length := by omega
  obtain ⟨i0, i1, i1', i2, i2', i3, i3'⟩ := HF.out.wf.ids j hj
  have hge := get_in HS3.out (by have := HF.out.len; omega) j hj
  obtain ⟨X, hX⟩ : ∃ X, S.objs[j] = X := ⟨_, rfl⟩
  rw [hX] at i0 i1 i1' i2 i2' i3 i3' hge
  obtain ⟨x0, x1, x2, x3, x4, x5, x6, x7, x8, x9, x10⟩ := X
  dsimp only at i0 i1 i1' i2 i2' i3 i3'
  subst i0
  obtain ⟨ow, rfl⟩ : ∃ n : Nat, x2 = n := ⟨x2.toNat, by omega⟩
  obtain ⟨zo, rfl⟩ : ∃ n : Nat, x3 = n := ⟨x3.toNat, by omega⟩
  have HX := Lib.hid hX
  have HOWN := Lib.hid (show ow < S.seats ∧ 1 ≤ zo ∧ zo ≤ 7 by omega)
  have HGE := Lib.hid hge
  unfold RetGet oagg at HGE
  dsimp only at HGE
  have HJ := Lib.hid hj
  clear hge hX i1 i1' i2 i2' i3 i3' hin
  go_wp2_with fail
  refine HGE.out.mono ?_
  rintro e w4 ⟨rfl, hb4⟩
  clear hw3 hq7 c7 ca HGE
  have hb5 := below_alloc2 hb4 (.cells #[.int .i64 ((j : Int) + 1), .int .i64 x1, .int .i64 ow, .int .i64 zo, .bool x4, .bool x5, .int .i64 x6, .int .i64 x7, .int .i64 x8, .int .i64 x9, .bool x10] 32)
  have HS5 := Lib.hid (HS3.out.later hb5)
  have HK5 := Lib.hid ((HK3.out.later hb5).cons (heap_alloc_new w4 (.cells #[.int .i64 ((j : Int) + 1), .int .i64 x1, .int .i64 ow, .int .i64 zo, .bool x4, .bool x5, .int .i64 x6, .int .i64 x7, .int .i64 x8, .int .i64 x9, .bool x10] 32)) (HS3.out.high _ hb4.size))
  have HB5 := Lib.hid (stepB HB3.out hb5)
  clear hb4 hb5 HS3 HK3 HB3
  obtain ⟨w5, hw5⟩ : ∃ w5, w4.alloc (.cells #[.int .i64 ((j : Int) + 1), .int .i64 x1, .int .i64 ow, .int .i64 zo, .bool x4, .bool x5, .int .i64 x6, .int .i64 x7, .int .i64 x8, .int .i64 x9, .bool x10] 32) = w5 := ⟨_, rfl⟩
  obtain ⟨q8, hq8⟩ : ∃ q8, w4.heap.size = q8 := ⟨_, rfl⟩
  rw [hw5] at HS5 HK5 HB5
  rw [hq8] at HK5
  have c7 : w5.cell? ⟨q7, 0, none⟩ = some (.pointer (some ⟨b, 0, none⟩)) := HK5.out.c1 0
  have ca : w5.cell? ⟨q, 1, none⟩ = some (.int .i64 ((j : Int) + 1)) := HK5.out.c2 1
  have cc : w5.cell? ⟨q, 3, none⟩ = some (.int .i64 oc) := HK5.out.c2 3
  have cu : w5.cell? ⟨q, 4, none⟩ = some (.bool un) := HK5.out.c2 4
  dsimp only
  by_cases hc1 : oc < 1
  · have d1 : decide (oc < 1) = true := decide_eq_true hc1
    have HR := Lib.hid HK5.out.h3
    have HRR := Lib.hid (HR.out.set (.bool true))
    have HBR := Lib.hid (HB5.out.setCell (p := ⟨q + 1, 0, none⟩) (by show w.heap.size ≤ q + 1; have := HQ.out; omega) (.bool true))
    have cr := HR.out.cell
    have fr := HR.out.frozen
    clear HR
    go_wp2
    exact ⟨_, results_b6 rfl rfl HRR.out, rfl, HBR.out⟩
  have d1 : decide (oc < 1) = false := decide_eq_false hc1
  by_cases hc7 : 7 < oc
  · have d7 : decide (7 < oc) = true := decide_eq_true hc7
    have HR := Lib.hid HK5.out.h3
    have HRR := Lib.hid (HR.out.set (.bool true))
    have HBR := Lib.hid (HB5.out.setCell (p := ⟨q + 1, 0, none⟩) (by show w.heap.size ≤ q + 1; have := HQ.out; omega) (.bool true))
    have cr := HR.out.cell
    have fr := HR.out.frozen
    clear HR
    go_wp2
    exact ⟨_, results_b6 rfl rfl HRR.out, rfl, HBR.out⟩
  have d7 : decide (7 < oc) = false := decide_eq_false hc7
  obtain ⟨z, rfl⟩ : ∃ n : Nat, oc = n := ⟨oc.toNat, by omega⟩
  have HZ := Lib.hid (show 1 ≤ z ∧ z ≤ 7 by omega)
  have HCP := Lib.hid (copyS_any HS5.out (HF.out.wf.short (by have := HF.out.len; omega)))
  clear hc1 hc7
  go_wp2_with fail
  refine HCP.out.mono ?_
  rintro e w6 ⟨tb, H, rfl, ht6, hb6⟩
  clear hw5 hq8 c7 ca cc cu d1 d7 HCP
  have HAP := Lib.hid (apart_copyO HS5.out ht6)
  have HT6 := Lib.hid ht6
  have HS6 := Lib.hid (HS5.out.later hb6)
  have HK6 := Lib.hid (HK5.out.later hb6)
  have HB6 := Lib.hid (stepB HB5.out hb6)
  obtain ⟨lt, hlt⟩ : ∃ lt, w5.heap.size = lt := ⟨_, rfl⟩
  rw [hlt] at HT6
  clear hlt ht6 hb6 HS5 HK5 HB5
  have c7 : w6.cell? ⟨q7, 0, none⟩ = some (.pointer (some ⟨b, 0, none⟩)) := HK6.out.c1 0
  have ca : w6.cell? ⟨q, 1, none⟩ = some (.int .i64 ((j : Int) + 1)) := HK6.out.c2 1
  have cc : w6.cell? ⟨q, 3, none⟩ = some (.int .i64 z) := HK6.out.c2 3
  have cu : w6.cell? ⟨q, 4, none⟩ = some (.bool un) := HK6.out.c2 4
  have hmv := move_ok HS6.out HF.out.wf (by have := HF.out.len; omega) j z HJ.out HZ.out.1 HZ.out.2 un
  rw [HX.out] at hmv
  have HMV := Lib.hid hmv
  have HM1 := Lib.hid (move_step HF.out.wf HJ.out HX.out HZ.out.1 HZ.out.2 un)
  obtain ⟨S1, hS1⟩ : ∃ S1, moveL S j ⟨(j : Int) + 1, x1, ow, zo, x4, x5, x6, x7, x8, x9, x10⟩ z un = S1 := ⟨_, rfl⟩
  rw [hS1] at HM1 HMV
  clear hmv hS1
  dsimp only
  go_wp2_with fail
  refine HMV.out.mono ?_
  rintro e w7 ⟨rfl, G7, hs7, ht7⟩
  clear c7 ca cc cu HMV
  have HS7 := Lib.hid hs7
  have hfr := HT6.out.far HAP.out ht7
  have HT7 := Lib.hid hfr.1
  have HAP7 := Lib.hid hfr.2
  have HK7 := Lib.hid (HK6.out.turn ht7)
  have HB7 := Lib.hid (ht7.below HB6.out HFAR.out)
  have HTU7 := Lib.hid ht7
  clear hs7 ht7 hfr HS6 HT6 HK6
  have c7 : w7.cell? ⟨q7, 0, none⟩ = some (.pointer (some ⟨b, 0, none⟩)) := HK7.out.c1 0
  have ca : w7.cell? ⟨q, 1, none⟩ = some (.int .i64 ((j : Int) + 1)) := HK7.out.c2 1
  have cz : w7.cell? ⟨q8, 3, none⟩ = some (.int .i64 zo) := HK7.out.c0 3
  have cu : w7.cell? ⟨q, 4, none⟩ = some (.bool un) := HK7.out.c2 4
  have hj1 : j < S1.objs.length := by rw [HM1.out.len]; exact HJ.out
  obtain ⟨s1, hs1⟩ := fresh_form S.T ((j : Int) + 1) x1 ow z
  have hX1 := (HM1.out.same hj1).trans hs1
  have hmv := move_ok HS7.out HM1.out.wf (by rw [HM1.out.len]; have := HF.out.len; omega) j zo hj1 HOWN.out.2.1 HOWN.out.2.2 (!un)
  rw [hX1] at hmv
  have HMV := Lib.hid hmv
  have HM2 := Lib.hid (move_step HM1.out.wf hj1 hX1 HOWN.out.2.1 HOWN.out.2.2 (!un))
  obtain ⟨S2, hS2⟩ : ∃ S2, moveL S1 j ⟨(j : Int) + 1, x1, ow, z, false, s1, 0, 0, 0, 0, false⟩ zo (!un) = S2 := ⟨_, rfl⟩
  rw [hS2] at HM2 HMV
  clear hmv hS2 hX1 hs1 hj1
  dsimp only
  go_wp2_with fail
  refine HMV.out.mono ?_
  rintro e w8 ⟨rfl, G8, hs8, ht8⟩
  clear c7 ca cz cu HMV
  have HS8 := Lib.hid hs8
  have HT8 := Lib.hid (HT7.out.far HAP7.out ht8).1
  have HK8 := Lib.hid (HK7.out.turn ht8)
  have HB8 := Lib.hid ((HTU7.out.trans ht8).below HB6.out HFAR.out)
  clear hs8 ht8 HS7 HT7 HK7 HAP7 HB7 HTU7 HB6
  have c7 : w8.cell? ⟨q7, 0, none⟩ = some (.pointer (some ⟨b, 0, none⟩)) := HK8.out.c1 0
  have ca : w8.cell? ⟨q, 1, none⟩ = some (.int .i64 ((j : Int) + 1)) := HK8.out.c2 1
  have hj2 : j < S2.objs.length := by rw [HM2.out.len, HM1.out.len]; exact HJ.out
  obtain ⟨s2, hs2⟩ := fresh_form S1.T ((j : Int) + 1) x1 ow zo
  have HLN := Lib.hid (show S2.objs.length = S.objs.length by rw [HM2.out.len, HM1.out.len])
  have hge := get_in HS8.out (by rw [HLN.out]; have := HF.out.len; omega) j hj2
  rw [(HM2.out.same hj2).trans hs2] at hge
  have HGE := Lib.hid hge
  unfold RetGet oagg at HGE
  dsimp only at HGE
  clear hge hs2 hj2
  dsimp only
  go_wp2_with fail
  refine HGE.out.mono ?_
  rintro e w9 ⟨rfl, hb9⟩
  clear c7 ca HGE
  have hb10 := below_alloc2 hb9 (.cells #[.int .i64 ((j : Int) + 1), .int .i64 x1, .int .i64 ow, .int .i64 zo, .bool false, .bool s2, .int .i64 0, .int .i64 0, .int .i64 0, .int .i64 0, .bool false] 32)
  have HS10 := Lib.hid (HS8.out.later hb10)
  have HT10 := Lib.hid (HT8.out.later hb10)
  have HK10 := Lib.hid ((HK8.out.later hb10).cons (heap_alloc_new w9 (.cells #[.int .i64 ((j : Int) + 1), .int .i64 x1, .int .i64 ow, .int .i64 zo, .bool false, .bool s2, .int .i64 0, .int .i64 0, .int .i64 0, .int .i64 0, .bool false] 32)) (HS8.out.high _ hb9.size))
  have HB10 := Lib.hid (stepB HB8.out hb10)
  clear hb9 hb10 HS8 HT8 HK8 HB8
  have y0 : (w9.alloc (.cells #[.int .i64 ((j : Int) + 1), .int .i64 x1, .int .i64 ow, .int .i64 zo, .bool false, .bool s2, .int .i64 0, .int .i64 0, .int .i64 0, .int .i64 0, .bool false] 32)).cell? ⟨w9.heap.size, 0, none⟩ = some (.int .i64 ((j : Int) + 1)) := HK10.out.c0 0
  have y1 : (w9.alloc (.cells #[.int .i64 ((j : Int) + 1), .int .i64 x1, .int .i64 ow, .int .i64 zo, .bool false, .bool s2, .int .i64 0, .int .i64 0, .int .i64 0, .int .i64 0, .bool false] 32)).cell? ⟨w9.heap.size, 1, none⟩ = some (.int .i64 x1) := HK10.out.c0 1
  have y2 : (w9.alloc (.cells #[.int .i64 ((j : Int) + 1), .int .i64 x1, .int .i64 ow, .int .i64 zo, .bool false, .bool s2, .int .i64 0, .int .i64 0, .int .i64 0, .int .i64 0, .bool false] 32)).cell? ⟨w9.heap.size, 2, none⟩ = some (.int .i64 ow) := HK10.out.c0 2
  have y3 : (w9.alloc (.cells #[.int .i64 ((j : Int) + 1), .int .i64 x1, .int .i64 ow, .int .i64 zo, .bool false, .bool s2, .int .i64 0, .int .i64 0, .int .i64 0, .int .i64 0, .bool false] 32)).cell? ⟨w9.heap.size, 3, none⟩ = some (.int .i64 zo) := HK10.out.c0 3
  have y4 : (w9.alloc (.cells #[.int .i64 ((j : Int) + 1), .int .i64 x1, .int .i64 ow, .int .i64 zo, .bool false, .bool s2, .int .i64 0, .int .i64 0, .int .i64 0, .int .i64 0, .bool false] 32)).cell? ⟨w9.heap.size, 4, none⟩ = some (.bool false) := HK10.out.c0 4
  have y6 : (w9.alloc (.cells #[.int .i64 ((j : Int) + 1), .int .i64 x1, .int .i64 ow, .int .i64 zo, .bool false, .bool s2, .int .i64 0, .int .i64 0, .int .i64 0, .int .i64 0, .bool false] 32)).cell? ⟨w9.heap.size, 6, none⟩ = some (.int .i64 0) := HK10.out.c0 6
  have y7 : (w9.alloc (.cells #[.int .i64 ((j : Int) + 1), .int .i64 x1, .int .i64 ow, .int .i64 zo, .bool false, .bool s2, .int .i64 0, .int .i64 0, .int .i64 0, .int .i64 0, .bool false] 32)).cell? ⟨w9.heap.size, 7, none⟩ = some (.int .i64 0) := HK10.out.c0 7
  have y8 : (w9.alloc (.cells #[.int .i64 ((j : Int) + 1), .int .i64 x1, .int .i64 ow, .int .i64 zo, .bool false, .bool s2, .int .i64 0, .int .i64 0, .int .i64 0, .int .i64 0, .bool false] 32)).cell? ⟨w9.heap.size, 8, none⟩ = some (.int .i64 0) := HK10.out.c0 8
  have y9 : (w9.alloc (.cells #[.int .i64 ((j : Int) + 1), .int .i64 x1, .int .i64 ow, .int .i64 zo, .bool false, .bool s2, .int .i64 0, .int .i64 0, .int .i64 0, .int .i64 0, .bool false] 32)).cell? ⟨w9.heap.size, 9, none⟩ = some (.int .i64 0) := HK10.out.c0 9
  have y10 : (w9.alloc (.cells #[.int .i64 ((j : Int) + 1), .int .i64 x1, .int .i64 ow, .int .i64 zo, .bool false, .bool s2, .int .i64 0, .int .i64 0, .int .i64 0, .int .i64 0, .bool false] 32)).cell? ⟨w9.heap.size, 10, none⟩ = some (.bool false) := HK10.out.c0 10
  have z0 : (w9.alloc (.cells #[.int .i64 ((j : Int) + 1), .int .i64 x1, .int .i64 ow, .int .i64 zo, .bool false, .bool s2, .int .i64 0, .int .i64 0, .int .i64 0, .int .i64 0, .bool false] 32)).cell? ⟨q8, 0, none⟩ = some (.int .i64 ((j : Int) + 1)) := HK10.out.c1 0
  have z1 : (w9.alloc (.cells #[.int .i64 ((j : Int) + 1), .int .i64 x1, .int .i64 ow, .int .i64 zo, .bool false, .bool s2, .int .i64 0, .int .i64 0, .int .i64 0, .int .i64 0, .bool false] 32)).cell? ⟨q8, 1, none⟩ = some (.int .i64 x1) := HK10.out.c1 1
  have z2 : (w9.alloc (.cells #[.int .i64 ((j : Int) + 1), .int .i64 x1, .int .i64 ow, .int .i64 zo, .bool false, .bool s2, .int .i64 0, .int .i64 0, .int .i64 0, .int .i64 0, .bool false] 32)).cell? ⟨q8, 2, none⟩ = some (.int .i64 ow) := HK10.out.c1 2
  have z3 : (w9.alloc (.cells #[.int .i64 ((j : Int) + 1), .int .i64 x1, .int .i64 ow, .int .i64 zo, .bool false, .bool s2, .int .i64 0, .int .i64 0, .int .i64 0, .int .i64 0, .bool false] 32)).cell? ⟨q8, 3, none⟩ = some (.int .i64 zo) := HK10.out.c1 3
  dsimp only
  go_wp2_with fail
  refine (objAll_any (some ⟨tb, 0, none⟩) _).mono ?_
  rintro e w11 ⟨rfl, hbx11, hb11⟩
  clear y0 y1 y2 y3 y4 y6 y7 y8 y9 y10 z0 z1 z2 z3
  obtain ⟨wA, hwA⟩ : ∃ wA, w9.alloc (.cells #[.int .i64 ((j : Int) + 1), .int .i64 x1, .int .i64 ow, .int .i64 zo, .bool false, .bool s2, .int .i64 0, .int .i64 0, .int .i64 0, .int .i64 0, .bool false] 32) = wA := ⟨_, rfl⟩
  obtain ⟨q11, hq11⟩ : ∃ q11, w9.heap.size = q11 := ⟨_, rfl⟩
  rw [hwA] at HS10 HT10 HK10 HB10 hbx11 hb11 ⊢
  rw [hq11] at HK10 ⊢
  clear hwA hq11
  have HS11 := Lib.hid (HS10.out.later hb11)
  have HT11 := Lib.hid (HT10.out.later hb11)
  have HK11 := Lib.hid (HK10.out.later hb11)
  have HB11 := Lib.hid (stepB HB10.out hb11)
  have HBX := Lib.hid hbx11
  obtain ⟨qc, hqc⟩ : ∃ qc, wA.heap.size = qc := ⟨_, rfl⟩
  rw [hqc] at HBX ⊢
  clear hbx11 hb11 HS10 HT10 HK10 HB10 hqc
  dsimp only
  go_wp2_with fail
  refine (wpIn_wide (n := 9)).1 ?_
  have HSEQ := Lib.hid (objs_seq 8 (by omega) (w := w11) (fun _ => False) (fun _ => False) (fun _ e => e.elim) HBX.out HT11.out (by have := HF.out.len; omega) (fun c hc => hc.elim))
  refine range_world3 rfl (by omega) (I := fun (_ : List ObjL) W => Below w11.heap.size w11 W) (Ix := fun _ _ _ => False) (gf := 36) (lb := _) rfl trivial (fun _ _ => by kernel_rfl) HSEQ.out KpP.trans (fun W' o o' ho hc _ => KpP.put o' (.inr rfl) ho hc) (fun W W' hb => KpP.of_below _ _ hb) (Below.refl _ _) (fun _ => rfl)
    (fun s A B row hs hg hr => ownFrom_below (β := Unit) (Nat.le_refl _) (Nat.le_refl _) () A B row hs hg hr) (fun c s A B row hs hg hr => hs) (fun s A B row hs hg hr => hs) (fun s A B row hs hg hr => hs) (Below.refl _ _) ?round ?done ?stop
  case stop =>
    rintro D c pre W hD hS hI hK
    exact hI.elim
  case round =>
    rintro pre x W K hI hT hsz hK
    have HT := Lib.hid hT
    have HI := Lib.hid hI
    have hk : pre.length < S.objs.length := by have := hT.length_le; simp at this; omega
    have hxk : S.objs[pre.length] = x := by
      obtain ⟨r, hr⟩ := hT
      have h : ∀ (L : List ObjL) (hL : pre ++ [x] ++ r = L) (hh : pre.length < L.length), L[pre.length] = x := by
        rintro L rfl hh
        simp
      exact h _ hr hk
    obtain ⟨k, hkk⟩ : ∃ k, pre.length = k := ⟨_, rfl⟩
    have hk' : k < S.objs.length := by rw [← hkk]; exact hk
    have hxk' : S.objs[k] = x := by subst hkk; exact hxk
    have HID := Lib.hid ((HF.out.wf.ids k hk').1)
    have HXK := Lib.hid hxk'
    rw [hxk'] at HID
    obtain ⟨a0, a1, a2, a3, a4, a5, a6, a7, a8, a9, a10⟩ := x
    obtain rfl : a0 = (k : Int) + 1 := HID.out
    have HK := Lib.hid hK
    clear hK hT hI hxk hkk hk hxk' HID
    simp only [encO, ocs]
    simp
    gi_wp2
    refine HK.out _ _ (below_new W _) ?_
    clear HK
    intro Wb hsz2 hrest hkw hbW
    have hqz := (hrest W.heap.size (by omega)).trans (heap_alloc_new W (.cells #[.int .i64 ((k : Int) + 1), .int .i64 a1, .int .i64 a2, .int .i64 a3, .bool a4, .bool a5, .int .i64 a6, .int .i64 a7, .int .i64 a8, .int .i64 a9, .bool a10] 32))
    have HBW := Lib.hid hbW
    have HKW := Lib.hid hkw
    have HSB := Lib.hid (HS11.out.later hbW)
    have HKB := Lib.hid (HK11.out.later hbW)
    have hk2 : k < S2.objs.length := by rw [HLN.out]; exact hk'
    have hge := get_in HSB.out (by rw [HLN.out]; have := HF.out.len; omega) k hk2
    obtain ⟨qz, hqz0⟩ : ∃ qz, W.heap.size = qz := ⟨_, rfl⟩
    rw [hqz0] at hqz ⊢
    have HZL := Lib.hid (show qz < Wb.heap.size from (Array.getElem?_eq_some_iff.1 hqz).1)
    have c7 : Wb.cell? ⟨q7, 0, none⟩ = some (.pointer (some ⟨b, 0, none⟩)) := HKB.out.c2 0
    have cz : Wb.cell? ⟨qz, 0, none⟩ = some (.int .i64 ((k : Int) + 1)) := (obj_of_row (x := ⟨(k : Int) + 1, a1, a2, a3, a4, a5, a6, a7, a8, a9, a10⟩) hqz).1
    have HQZ := Lib.hid hqz
    clear hqz0 hqz hrest hkw hbW hsz2
    by_cases hjk : j = k
    · subst hjk
      obtain ⟨s3, hs3⟩ := fresh_form S1.T ((j : Int) + 1) x1 ow zo
      rw [(HM2.out.same hk2).trans hs3] at hge
      have HGE := Lib.hid hge
      unfold RetGet oagg at HGE
      dsimp only at HGE
      clear hge hs3 hk2
      gi_wp2_with fail
      refine ⟨trivial, (callsIn_wide.2 HGE.out).mono ?_⟩
      rintro e w12 ⟨rfl, hb12⟩
      have HB12 := Lib.hid (below_alloc2 hb12 (.cells #[.int .i64 ((j : Int) + 1), .int .i64 x1, .int .i64 ow, .int .i64 zo, .bool false, .bool s3, .int .i64 0, .int .i64 0, .int .i64 0, .int .i64 0, .bool false] 32))
      have cz' := cell_stays HB12.out cz
      have ca' := cell_stays HB12.out (show Wb.cell? ⟨q, 1, none⟩ = some (.int .i64 ((j : Int) + 1)) from HKB.out.c3 1)
      clear hb12 HGE c7 cz
      dsimp only
      gi_wp2
      have kw := KpP.of_below (fun _ => False) (fun _ => False) HB12.out
      exact ⟨kw.from (fun k e => e.elim), HKW.out.trans (kw.mono (fun k e => e.elim)), stepB HBW.out HB12.out⟩
    · have hk1 : k < S1.objs.length := by rw [HM1.out.len]; exact hk'
      rw [HM2.out.other hk2 hk1 hjk, HM1.out.other hk1 hk' hjk, HXK.out] at hge
      have HGE := Lib.hid hge
      unfold RetGet oagg at HGE
      dsimp only at HGE
      have enj : (((k : Int) + 1) != ((j : Int) + 1)) = true := bne_iff_ne.2 (by omega)
      clear hge hk2 hk1
      gi_wp2_with fail
      refine ⟨trivial, (callsIn_wide.2 HGE.out).mono ?_⟩
      rintro e w12 ⟨rfl, hb12⟩
      have HB12 := Lib.hid (below_alloc2 hb12 (.cells #[.int .i64 ((k : Int) + 1), .int .i64 a1, .int .i64 a2, .int .i64 a3, .bool a4, .bool a5, .int .i64 a6, .int .i64 a7, .int .i64 a8, .int .i64 a9, .bool a10] 32))
      have cz' := obj_of_row (x := ⟨(k : Int) + 1, a1, a2, a3, a4, a5, a6, a7, a8, a9, a10⟩) ((HB12.out.block qz HZL.out).trans HQZ.out)
      have cw' := obj_of_row (x := ⟨(k : Int) + 1, a1, a2, a3, a4, a5, a6, a7, a8, a9, a10⟩) (heap_alloc_new w12 (.cells #[.int .i64 ((k : Int) + 1), .int .i64 a1, .int .i64 a2, .int .i64 a3, .bool a4, .bool a5, .int .i64 a6, .int .i64 a7, .int .i64 a8, .int .i64 a9, .bool a10] 32))
      obtain ⟨p0, p1, p2, p3, p4, p5, p6, p7, p8, p9, p10⟩ := cz'
      obtain ⟨o0, o1, o2, o3, o4, o5, o6, o7, o8, o9, o10⟩ := cw'
      simp only [Nat.zero_add] at p1 p2 p3 p4 p5 p6 p7 p8 p9 p10 o1 o2 o3 o4 o5 o6 o7 o8 o9 o10
      dsimp only at p0 p1 p2 p3 p4 p5 p6 p7 p8 p9 p10 o0 o1 o2 o3 o4 o5 o6 o7 o8 o9 o10
      have ca' := cell_stays HB12.out (show Wb.cell? ⟨q, 1, none⟩ = some (.int .i64 ((j : Int) + 1)) from HKB.out.c3 1)
      have hE : ∀ W, (binOp .neq 32 (.agg #[.int .i64 ((k : Int) + 1), .int .i64 a1, .int .i64 a2, .int .i64 a3, .bool a4, .bool a5, .int .i64 a6, .int .i64 a7, .int .i64 a8, .int .i64 a9, .bool a10]) (.agg #[.int .i64 ((k : Int) + 1), .int .i64 a1, .int .i64 a2, .int .i64 a3, .bool a4, .bool a5, .int .i64 a6, .int .i64 a7, .int .i64 a8, .int .i64 a9, .bool a10])).run Try.prog W = .ok (.bool false) W := fun W => by rw [neqObj]; simp
      have hN := @neqgO
      clear hb12 HGE c7 cz
      dsimp only
      gi_wp2
      have kw := KpP.of_below (fun _ => False) (fun _ => False) HB12.out
      exact ⟨kw.from (fun k e => e.elim), HKW.out.trans (kw.mono (fun k e => e.elim)), stepB HBW.out HB12.out⟩
  case done =>
    rintro D ys W hD hS hbW hK
    have HSD := Lib.hid (HS11.out.later hbW)
    have HKD := Lib.hid (HK11.out.later hbW)
    have HBD := Lib.hid (stepB HB11.out hbW)
    have HDK := Lib.hid hK
    have HDL := Lib.hid (show w11.heap.size ≤ D from hD)
    have c7 : W.cell? ⟨q7, 0, none⟩ = some (.pointer (some ⟨b, 0, none⟩)) := HKD.out.c2 0
    have cx2 : W.cell? ⟨q8, 2, none⟩ = some (.int .i64 ow) := HKD.out.c1 2
    have cx3 : W.cell? ⟨q8, 3, none⟩ = some (.int .i64 zo) := HKD.out.c1 3
    have hin := in_any HSD.out (HM2.out.wf.short (by rw [HLN.out]; have := HF.out.len; omega)) (s := ow) (z := zo) ⟨by omega, by have := HOWN.out.1; have := HS11.out.n4; have := HF.out.seats; omega⟩ ⟨by omega, by have := HOWN.out.2.2; omega⟩
    obtain ⟨L', hL'⟩ := HM2.out.in_home (ow := ow) rfl (by rw [HM1.out.seats]; exact HOWN.out.1) HOWN.out.2.1 HOWN.out.2.2
    rw [hL'] at hin
    have hlb : (if (!un) = true then L' ++ [(j : Int) + 1] else ((j : Int) + 1) :: L').length ≤ 1000 := by
      rw [← hL']
      exact inL_len (HM2.out.wf.short (by rw [HLN.out]; have := HF.out.len; omega)) _ _
    clear hbW hK hD hL' hS
    cases un
    · rw [show (if (!false) = true then L' ++ [(j : Int) + 1] else ((j : Int) + 1) :: L') = L' ++ [(j : Int) + 1] from rfl] at hin
      have HIN := Lib.hid hin
      clear hin
      go_wp2_with fail
      refine HIN.out.mono ?_
      rintro e w13 ⟨v13, rfl, ho13, hb13⟩
      have hlen : (L' ++ [(j : Int) + 1]).length = L'.length + 1 := by simp
      have hlb1 : L'.length + 1 ≤ 1000 := by rw [← hlen]; exact hlb
      have hat := (own_ints ho13)
      obtain ⟨ya, yc, rfl⟩ := own_form ho13
      obtain ⟨g, off, hya, _, hlast⟩ := hat.at L'.length (by simp)
      rw [List.getElem_append_right (Nat.le_refl _)] at hlast
      simp only [Nat.sub_self, List.getElem_singleton] at hlast
      subst hya
      have HKE := Lib.hid (HKD.out.later hb13)
      have HBE := Lib.hid (stepB HBD.out hb13)
      have HDE := Lib.hid ((hb13.block D (Array.getElem?_eq_some_iff.1 HDK.out).1).trans HDK.out)
      have hqD : D ≠ q + 1 := by have h1 := HK11.out.h4.lt; have h3 := HDL.out; omega
      rw [hlen]
      clear hat ho13 hb13 hlb hlen c7 cx2 cx3
      have ca : w13.cell? ⟨q, 1, none⟩ = some (.int .i64 ((j : Int) + 1)) := HKE.out.c3 1
      have cu : w13.cell? ⟨q, 4, none⟩ = some (.bool false) := HKE.out.c3 4
      have HR := Lib.hid HKE.out.h4
      have cr := HR.out.cell
      have fr := HR.out.frozen
      have e0 : (((L'.length : Int) + 1) == 0) = false := beq_eq_false_iff_ne.2 (by omega)
      have e1 : (L'.length : Int) + 1 - 1 = (L'.length : Int) := by omega
      have e2 : IntKind.i64.wrap (L'.length : Int) = (L'.length : Int) := IntWalk.i64_in _ (by omega)
      have e3 : (0 : Int) ≤ (L'.length : Int) := by omega
      have e4 : (L'.length : Int) < (L'.length : Int) + 1 := by omega
      dsimp only
      go_wp2
      go_region
      all_goals
        have HRR := Lib.hid (show HdAt (w13.setCell ⟨q + 1, 0, none⟩ (.bool true)).drew (q + 1) (.bool true) from HR.out.set (.bool true))
        have HBR := Lib.hid (HBE.out.setCell (p := ⟨q + 1, 0, none⟩) (by show w.heap.size ≤ q + 1; have := HQ.out; omega) (.bool true)).drew
        have HD7 := Lib.hid (show (w13.setCell ⟨q + 1, 0, none⟩ (.bool true)).drew.heap[D]? = some (.deferred (some [])) from (heap_setCell_other w13 ⟨q + 1, 0, none⟩ D (.bool true) hqD).trans HDE.out)
        have HR7 := Lib.hid (HRR.out.of (World.putObj_heap_other (o := .deferred none) (Ne.symm hqD)))
        clear HR cr fr ca cu e0 e1 e2 e3 e4 hlast
        go_wp2
        refine ⟨by simp, .inl ⟨_, _, rfl, run_takeDeferred HD7.out, ?_⟩⟩
        exact ⟨_, results_b6 rfl rfl HR7.out, rfl, below_putO _ HBR.out (by have := HDL.out; have := HB11.out.size; omega) HD7.out rfl⟩
    · rw [show (if (!true) = true then L' ++ [(j : Int) + 1] else ((j : Int) + 1) :: L') = ((j : Int) + 1) :: L' from rfl] at hin
      have HIN := Lib.hid hin
      clear hin
      go_wp2_with fail
      refine HIN.out.mono ?_
      rintro e w13 ⟨v13, rfl, ho13, hb13⟩
      have hlen : (((j : Int) + 1) :: L').length = L'.length + 1 := by simp
      have hlb1 : L'.length + 1 ≤ 1000 := by rw [← hlen]; exact hlb
      have hat := (own_ints ho13)
      obtain ⟨ya, yc, rfl⟩ := own_form ho13
      obtain ⟨g, off, hya, _, hlast⟩ := hat.at 0 (by simp)
      rw [List.getElem_cons_zero, Nat.add_zero] at hlast
      subst hya
      have HKE := Lib.hid (HKD.out.later hb13)
      have HBE := Lib.hid (stepB HBD.out hb13)
      have HDE := Lib.hid ((hb13.block D (Array.getElem?_eq_some_iff.1 HDK.out).1).trans HDK.out)
      have hqD : D ≠ q + 1 := by have h1 := HK11.out.h4.lt; have h3 := HDL.out; omega
      rw [hlen]
      clear hat ho13 hb13 hlb hlen c7 cx2 cx3
      have ca : w13.cell? ⟨q, 1, none⟩ = some (.int .i64 ((j : Int) + 1)) := HKE.out.c3 1
      have cu : w13.cell? ⟨q, 4, none⟩ = some (.bool true) := HKE.out.c3 4
      have HR := Lib.hid HKE.out.h4
      have cr := HR.out.cell
      have fr := HR.out.frozen
      have e0 : (((L'.length : Int) + 1) == 0) = false := beq_eq_false_iff_ne.2 (by omega)
      have e1 : (0 : Int) < (L'.length : Int) + 1 := by omega
      have e2 : 0 < L'.length + 1 := by omega
      have e3 : (0 : Int) ≤ (L'.length : Int) := by omega
      have e4 : (L'.length : Int) < (L'.length : Int) + 1 := by omega
      dsimp only
      go_wp2
      go_region
      all_goals
        have HRR := Lib.hid (show HdAt (w13.setCell ⟨q + 1, 0, none⟩ (.bool true)).drew (q + 1) (.bool true) from HR.out.set (.bool true))
        have HBR := Lib.hid (HBE.out.setCell (p := ⟨q + 1, 0, none⟩) (by show w.heap.size ≤ q + 1; have := HQ.out; omega) (.bool true)).drew
        have HD7 := Lib.hid (show (w13.setCell ⟨q + 1, 0, none⟩ (.bool true)).drew.heap[D]? = some (.deferred (some [])) from (heap_setCell_other w13 ⟨q + 1, 0, none⟩ D (.bool true) hqD).trans HDE.out)
        have HR7 := Lib.hid (HRR.out.of (World.putObj_heap_other (o := .deferred none) (Ne.symm hqD)))
        clear HR cr fr ca cu e0 e1 e2 e3 e4 hlast
        go_wp2
        refine ⟨by simp, .inl ⟨_, _, rfl, run_takeDeferred HD7.out, ?_⟩⟩
        exact ⟨_, results_b6 rfl rfl HR7.out, rfl, below_putO _ HBR.out (by have := HDL.out; have := HB11.out.size; omega) HD7.out rfl⟩
end Go.Proofs.Ytkhgdfalbmkgcaa
