/- The law ObjectGoes (layer 6), walked: for every table, all calls and every two numbers it returns true, and only new memory is made. -/
import Derived.Test.YtkhgdfalbmkgcaaLf
import Derived.Deep.Cut
namespace Go.Proofs.Ytkhgdfalbmkgcaa
open Go.RowKit Go.Maps
attribute [local go_sem] Oper.semAt_some

set_option maxRecDepth 100000 in
set_option maxHeartbeats 32000000 in
theorem objectGoes_walk {v u : Value} {T : List Crd.CardL} {l : List OpL} {a m : Int} {w : World} (hv : Crd.CardsAt w v T) (hT : T.length ≤ 9223372036854775807) (hu : OpsAt w u l) (hw : ∀ x ∈ l, WfO x) (hlen : l.length ≤ 9223372036854775807) :
    Calls Try.prog 3 #[v, u, .agg #[.int .i64 a, .int .i64 m]] w (RetV w (.bool true)) := by
  have HMD := Lib.hid (fun (w' : World) (hb : Below w.heap.size w w') => madeO_any (hv.later hb) hT (hu.later hb) hw hlen 4 (by decide) (by decide))
  obtain ⟨va, vc, rfl⟩ := hv.form
  obtain ⟨ua, uc, rfl⟩ := hu.form
  clear hv hu hw
  refine (callsIn_wide (n := 9)).1 ?_
  have hbx := below_new w (.cells #[.int .i64 a, .int .i64 m] 24)
  have hby := stepB hbx (below_new (w.alloc (.cells #[.int .i64 a, .int .i64 m] 24)) (.cells #[.bool false] 4))
  have hop := ((below_new (w.alloc (.cells #[.int .i64 a, .int .i64 m] 24)) (.cells #[.bool false] 4)).block w.heap.size (by simp)).trans (heap_alloc_new w (.cells #[.int .i64 a, .int .i64 m] 24))
  have hrb := heap_alloc_new (w.alloc (.cells #[.int .i64 a, .int .i64 m] 24)) (.cells #[.bool false] 4)
  rw [World.size_alloc] at hrb
  obtain ⟨q, hq⟩ : ∃ q, w.heap.size = q := ⟨_, rfl⟩
  have HQ := Lib.hid hq
  refine callsIn_of_wp_marks Try.func3 rfl trivial ?_ rfl
  simp only [Try.ntmps3, List.size_toArray, List.length_cons, List.length_nil, Nat.reduceAdd, Nat.reduceSub, Array.replicate_succ, Array.replicate_zero, List.push_toArray, List.append_toArray, List.nil_append, List.cons_append]
  refine wpIn_wide.2 ?_
  go_wp2_with fail
  refine (awake6_any _).mono ?_
  rintro e w1 ⟨rfl, hb1⟩
  have HB1 := Lib.hid (stepB hby hb1)
  have HOP1 := Lib.hid ((hb1.block _ (by simp; omega)).trans hop)
  have HRB1 := Lib.hid ((hb1.block _ (by simp)).trans hrb)
  rw [hq] at HOP1 HRB1
  clear hbx hby hop hrb hb1 hq
  dsimp only
  go_wp2_with fail
  refine (HMD.out _ HB1.out).mono ?_
  rintro e w2 (⟨rfl, hb2⟩ | ⟨b, lo, G, S, rfl, hs, hf, hlo, hle, hb2⟩)
  · have HB2 := Lib.hid (stepB (stepB HB1.out hb2) (below_new w2 (.cells #[.pointer none] 26)))
    have hr : HdAt w2 (q + 1) (.bool false) := ⟨_, (hb2.block _ (Array.getElem?_eq_some_iff.1 HRB1.out).1).trans HRB1.out⟩
    have HR2 := Lib.hid (hr.later (below_new w2 (.cells #[.pointer none] 26)))
    have c1 := HR2.out.cell
    have f1 := HR2.out.frozen
    have HRR := Lib.hid (HR2.out.set (.bool true))
    have HBR := Lib.hid (HB2.out.setCell (p := ⟨q + 1, 0, none⟩) (by show w.heap.size ≤ q + 1; have := HQ.out; omega) (.bool true))
    clear hb2 hr
    dsimp only
    go_wp2
    exact ⟨_, results_b6 rfl rfl HRR.out, rfl, HBR.out⟩
  have HB2 := Lib.hid (stepB HB1.out hb2)
  have HS2 := Lib.hid hs
  have HF := Lib.hid hf
  have hq2 := HB1.out.size
  have HKP2 : Hid (Kept w2 G [(q, .cells #[.int .i64 a, .int .i64 m] 24 (0, 0)), (q + 1, .cells #[.bool false] 4 (0, 0))]) := Lib.hid (by
    have k1 := (Array.getElem?_eq_some_iff.1 HOP1.out).1
    have k2 := (Array.getElem?_eq_some_iff.1 HRB1.out).1
    have htag : ∀ k, k < w1.heap.size → G.tag k = .no := fun k hk => Classical.byContradiction fun hn => by have := hs.low k hn; omega
    intro p hp
    rcases List.mem_cons.1 hp with rfl | hp
    · exact ⟨(hb2.block _ k1).trans HOP1.out, htag _ k1⟩
    · obtain rfl := List.mem_singleton.1 hp
      exact ⟨(hb2.block _ k2).trans HRB1.out, htag _ k2⟩)
  have HFAR := Lib.hid (show ∀ k, G.tag k ≠ .no → w.heap.size ≤ k from fun k hk => Nat.le_trans (Nat.le_trans HB1.out.size hlo) (hs.low k hk))
  clear hs hf hlo hle hb2 hq2 HMD
  -- the box of s
  have hb3 := below_new w2 (.cells #[.pointer (some ⟨b, 0, none⟩)] 26)
  have HS3 := Lib.hid (HS2.out.later hb3)
  have HK3 := Lib.hid ((HKP2.out.later hb3).cons (heap_alloc_new w2 (.cells #[.pointer (some ⟨b, 0, none⟩)] 26)) (HS2.out.high _ (Nat.le_refl _)))
  have HB3 := Lib.hid (stepB HB2.out hb3)
  clear hb3
  obtain ⟨w3, hw3⟩ : ∃ w3, w2.alloc (.cells #[.pointer (some ⟨b, 0, none⟩)] 26) = w3 := ⟨_, rfl⟩
  obtain ⟨q7, hq7⟩ : ∃ q7, w2.heap.size = q7 := ⟨_, rfl⟩
  rw [hw3] at HS3 HK3 HB3
  rw [hq7] at HK3
  clear HS2 HB2 HKP2
  have c7 : w3.cell? ⟨q7, 0, none⟩ = some (.pointer (some ⟨b, 0, none⟩)) := HK3.out.c0 0
  have hb4 := below_new w3 (.cells #[.int .i64 0] 3)
  have HN4 := Lib.hid (HdAt.new w3 (.int .i64 0) 3)
  have HB34 := Lib.hid hb4
  have c74 := cell_stays hb4 c7
  have hal := objAll_any (some ⟨b, 0, none⟩) (w3.alloc (.cells #[.int .i64 0] 3))
  have HAL := Lib.hid hal
  obtain ⟨M, hM⟩ : ∃ M : Nat, max m 0 = (M : Int) := ⟨(max m 0).toNat, by omega⟩
  have HMM := Lib.hid hM
  clear hb4 hal hM
  dsimp only
  go_wp2_with fail
  refine HAL.out.mono ?_
  rintro e w5 ⟨rfl, hbx5, hb5⟩
  have HB5 := Lib.hid (stepB HB34.out hb5)
  have HN5 := Lib.hid (HN4.out.later hb5)
  have HBX := Lib.hid hbx5
  obtain ⟨q8, hq8⟩ : ∃ q8, w3.heap.size = q8 := ⟨_, rfl⟩
  rw [hq8] at HN5
  have HQ8 := Lib.hid hq8
  rw [World.size_alloc, hq8] at HBX
  clear c7 c74 hbx5 hb5 HN4 HB34 HAL hw3 hq7
  dsimp only
  go_wp2_with fail
  refine (wpIn_wide (n := 9)).1 ?_
  rw [World.size_alloc, hq8]
  clear hq8
  have HS5 := Lib.hid (HS3.out.later HB5.out)
  have HSEQ := Lib.hid (objs_seq 8 (by omega) (w := w5) (fun k => k = q8) (fun _ => False) (fun k e => by subst e; exact HN5.out.lt) HBX.out HS5.out (by have := HF.out.len; omega) (fun c hc => hc.elim))
  have hAI : AllI M q8 w3 w5 [] w5 := ⟨HN5.out, KpP.refl _ _ _, HB5.out, Nat.zero_le _⟩
  refine range_world3 rfl (by omega) (I := AllI M q8 w3 w5) (Ix := AllX M q8 w3 w5) (gf := 36) (lb := _) rfl trivial (fun _ _ => by kernel_rfl) HSEQ.out KpP.trans (fun W' o o' ho hc _ => KpP.put o' (.inr rfl) ho hc) (fun W W' hb => KpP.of_below _ _ hb) (Below.refl _ _) (fun _ => rfl)
    (allI_own HB5.out.size (Nat.le_refl _)) (fun c => allX_own HB5.out.size (Nat.le_refl _) c) (fun s A B row hs hg hr => hs) (fun s A B row hs hg hr => hs) hAI ?round ?done ?stop
  case round =>
    rintro pre x W K hI hT hsz hK
    have hk : pre.length < S.objs.length := by have := hT.length_le; simp at this; omega
    have hxk : S.objs[pre.length] = x := by
      obtain ⟨r, hr⟩ := hT
      have h : ∀ (L : List ObjL) (hL : pre ++ [x] ++ r = L) (hh : pre.length < L.length), L[pre.length] = x := by
        rintro L rfl hh
        simp
      exact h _ hr hk
    obtain ⟨k, hkk⟩ : ∃ k, pre.length = k := ⟨_, rfl⟩
    have hk' : k < S.objs.length := by rw [← hkk]; exact hk
    have hxk' : S.objs[k] = x := by subst hkk; exact hxk
    have HID := Lib.hid ((HF.out.wf.ids k hk').1)
    have HXK := Lib.hid hxk'
    rw [hxk'] at HID
    obtain ⟨a0, a1, a2, a3, a4, a5, a6, a7, a8, a9, a10⟩ := x
    obtain rfl : a0 = (k : Int) + 1 := HID.out
    have HK := Lib.hid hK
    have HKK := Lib.hid hkk
    clear hK hT hI hxk hkk hk hxk' HID hAI
    simp only [encO, ocs]
    simp
    gi_wp2
    refine HK.out _ _ (below_new W _) ?_
    clear HK
    intro Wb hsz2 hrest hkw ⟨hn, hkp, hbw, hlm⟩
    rw [HKK.out] at hn hlm
    have hqz := (hrest W.heap.size (by omega)).trans (heap_alloc_new W (.cells #[.int .i64 ((k : Int) + 1), .int .i64 a1, .int .i64 a2, .int .i64 a3, .bool a4, .bool a5, .int .i64 a6, .int .i64 a7, .int .i64 a8, .int .i64 a9, .bool a10] 32))
    have HBW := Lib.hid hbw
    have HKW := Lib.hid hkw
    have HKP := Lib.hid hkp
    have HNB := Lib.hid hn
    have HSB := Lib.hid (HS3.out.later hbw)
    have HKB := Lib.hid (HK3.out.later hbw)
    obtain ⟨qz, hqz0⟩ : ∃ qz, W.heap.size = qz := ⟨_, rfl⟩
    rw [hqz0] at hqz ⊢
    have HQZ := Lib.hid hqz
    have HZL := Lib.hid (show qz < Wb.heap.size from (Array.getElem?_eq_some_iff.1 hqz).1)
    have HZN := Lib.hid (show q8 < qz from by rw [← hqz0]; have h1 := HN5.out.lt; omega)
    have c7 : Wb.cell? ⟨q7, 0, none⟩ = some (.pointer (some ⟨b, 0, none⟩)) := HKB.out.c0 0
    have cm : Wb.cell? ⟨q, 1, none⟩ = some (.int .i64 m) := HKB.out.c1 1
    have c8 := hn.cell
    have f8 := hn.frozen
    have hmax := HMM.out
    clear hqz0 hqz hrest hkw hkp hbw hn hsz2
    by_cases hkM : k = M
    · subst hkM
      have e1 : ((k : Int) == max m 0) = true := by rw [hmax]; exact beq_self_eq_true _
      gi_wp2
      exact ⟨(KpP.refl (fun _ => False) (fun _ => False) _).from (fun k e => e.elim), HKW.out, rfl, HNB.out, HKP.out, HBW.out, by rw [List.length_append, HKK.out]; exact Nat.le_refl _⟩
    · have e1 : ((k : Int) == max m 0) = false := by rw [hmax]; exact beq_eq_false_iff_ne.2 (by omega)
      have hk80 : (k : Int) ≤ 80 := by have := HF.out.len; omega
      have hlt : k + 1 ≤ M := by omega
      have HBC := Lib.hid (HBW.out.setCell (p := ⟨q8, 0, none⟩) (show w3.heap.size ≤ q8 by rw [HQ8.out]; exact Nat.le_refl _) (.int .i64 ((k : Int) + 1)))
      have HSC := Lib.hid (HS3.out.later HBC.out)
      have HKC := Lib.hid (HK3.out.later HBC.out)
      have HNC := Lib.hid (HNB.out.set (.int .i64 ((k : Int) + 1)))
      have HZC := Lib.hid ((heap_setCell_other Wb ⟨q8, 0, none⟩ qz (.int .i64 ((k : Int) + 1)) (by show qz ≠ q8; have := HZN.out; omega)).trans HQZ.out)
      have c7' : (Wb.setCell ⟨q8, 0, none⟩ (.int .i64 ((k : Int) + 1))).cell? ⟨q7, 0, none⟩ = some (.pointer (some ⟨b, 0, none⟩)) := HKC.out.c0 0
      have c8' := HNC.out.cell
      have HGE := Lib.hid (get_in HSC.out (by have := HF.out.len; omega) k hk')
      rw [HXK.out] at HGE
      unfold RetGet oagg at HGE
      dsimp only at HGE
      clear hkM
      gi_wp2_with fail
      refine ⟨trivial, (callsIn_wide.2 HGE.out).mono ?_⟩
      rintro e w12 ⟨rfl, hb12⟩
      have HB12 := Lib.hid (below_alloc2 hb12 (.cells #[.int .i64 ((k : Int) + 1), .int .i64 a1, .int .i64 a2, .int .i64 a3, .bool a4, .bool a5, .int .i64 a6, .int .i64 a7, .int .i64 a8, .int .i64 a9, .bool a10] 32))
      obtain ⟨p0, p1, p2, p3, p4, p5, p6, p7, p8, p9, p10⟩ := obj_of_row (x := ⟨(k : Int) + 1, a1, a2, a3, a4, a5, a6, a7, a8, a9, a10⟩) ((HB12.out.block qz (by have := HZL.out; simpa using this)).trans HZC.out)
      obtain ⟨o0, o1, o2, o3, o4, o5, o6, o7, o8, o9, o10⟩ := obj_of_row (x := ⟨(k : Int) + 1, a1, a2, a3, a4, a5, a6, a7, a8, a9, a10⟩) (heap_alloc_new w12 (.cells #[.int .i64 ((k : Int) + 1), .int .i64 a1, .int .i64 a2, .int .i64 a3, .bool a4, .bool a5, .int .i64 a6, .int .i64 a7, .int .i64 a8, .int .i64 a9, .bool a10] 32))
      simp only [Nat.zero_add] at p1 p2 p3 p4 p5 p6 p7 p8 p9 p10 o1 o2 o3 o4 o5 o6 o7 o8 o9 o10
      dsimp only at p0 p1 p2 p3 p4 p5 p6 p7 p8 p9 p10 o0 o1 o2 o3 o4 o5 o6 o7 o8 o9 o10
      have hE : ∀ W, (binOp .neq 32 (.agg #[.int .i64 ((k : Int) + 1), .int .i64 a1, .int .i64 a2, .int .i64 a3, .bool a4, .bool a5, .int .i64 a6, .int .i64 a7, .int .i64 a8, .int .i64 a9, .bool a10]) (.agg #[.int .i64 ((k : Int) + 1), .int .i64 a1, .int .i64 a2, .int .i64 a3, .bool a4, .bool a5, .int .i64 a6, .int .i64 a7, .int .i64 a8, .int .i64 a9, .bool a10])).run Try.prog W = .ok (.bool false) W := fun W => by rw [neqObj]; simp
      have hN := @neqgO
      clear hb12 HGE c7 c7' c8 c8' f8 cm e1 hmax
      dsimp only
      gi_wp2
      have kw : KpP (fun k => k = q8) (fun _ => False) Wb _ := (kpP_setE (.int .i64 ((k : Int) + 1))).trans (KpP.of_below _ _ HB12.out)
      exact ⟨kw.from (fun k e => by subst e; exact HN5.out.lt), HKW.out.trans (kw.mono (fun k e => .inl e)), by rw [List.length_append, HKK.out]; exact HNC.out.later HB12.out, HKP.out.trans kw, stepB HBC.out HB12.out, by rw [List.length_append, HKK.out]; exact hlt⟩
  case' stop =>
    rintro D c pre W hD hS ⟨rfl, hn, hkp, hbw, hlm⟩ hK
    obtain ⟨N, hNN⟩ : ∃ N, M = N := ⟨_, rfl⟩
    have HNM := Lib.hid (show min (S.objs.length : Int) (M : Int) = (N : Int) by rw [← hNN]; have := hS.length_le; omega)
    rw [hNN] at hn
    clear hlm hkp hNN hS
    refine wpIn_wide.2 ?_
    go_wp2_with fail
  case' done =>
    rintro D ys W hD hS ⟨hn, hkp, hbw, hlm⟩ hK
    subst hS
    obtain ⟨N, hNN⟩ : ∃ N, S.objs.length = N := ⟨_, rfl⟩
    have HNM := Lib.hid (show min (S.objs.length : Int) (M : Int) = (N : Int) by rw [← hNN]; omega)
    rw [hNN] at hn
    clear hlm hkp hNN
    go_wp2_with fail
  all_goals
    have c8 := hn.cell
    have c7 : W.cell? ⟨q7, 0, none⟩ = some (.pointer (some ⟨b, 0, none⟩)) := (HK3.out.later hbw).c0 0
    have cm : W.cell? ⟨q, 1, none⟩ = some (.int .i64 m) := (HK3.out.later hbw).c1 1
    have hmx := HMM.out
    have hmn := HNM.out
    have eN : ((N : Int) != (N : Int)) = false := bne_self_eq_false _
    have HLE := Lib.hid (fun k => (Calls.quiet_of_same ((len_store ((HS3.out.later hbw).later (below_drewN (Below.refl _ _) k)) (HF.out.wf.short (by have := HF.out.len; omega))).mono fun _ _ h => h) : Calls Try.prog 14 #[.pointer (some ⟨b, 0, none⟩)] (W.drewN k) fun e w'' => e = .returned (.int .i64 S.objs.length) ∧ ∃ m, w'' = W.drewN m))
    have HBW := Lib.hid hbw
    have HDK := Lib.hid hK
    have HDL := Lib.hid (show w5.heap.size ≤ D from hD)
    clear hbw hK hn HNM hAI
    go_wp2
    go_quiet ((with_reducible exact HLE.out _))
    obtain ⟨wd, hwd⟩ : ∃ wd, W.drewN nq = wd := ⟨_, rfl⟩
    have hbd : Below W.heap.size W wd := hwd ▸ below_drewN (Below.refl _ _) nq
    rw [hwd]
    have HBD := Lib.hid (stepB HBW.out hbd)
    have HDD := Lib.hid ((hbd.block D (Array.getElem?_eq_some_iff.1 HDK.out).1).trans HDK.out)
    clear c8 c7 cm hmx hmn HLE hbd hwd HDK
    have hx1 := below_new wd (.cells #[.slice none 0 0] 37)
    have hx2 := stepB hx1 (below_new (wd.alloc (.cells #[.slice none 0 0] 37)) (.cells #[.slice none 0 0] 37))
    have hl12 := (list_newO wd w3.heap.size).later (below_new (wd.alloc (.cells #[.slice none 0 0] 37)) (.cells #[.slice none 0 0] 37))
    have hl13 := list_newO (wd.alloc (.cells #[.slice none 0 0] 37)) w3.heap.size
    rw [World.size_alloc] at hl13
    have c7 : ((wd.alloc (.cells #[.slice none 0 0] 37)).alloc (.cells #[.slice none 0 0] 37)).cell? ⟨q7, 0, none⟩ = some (.pointer (some ⟨b, 0, none⟩)) := (HK3.out.later (stepB HBD.out hx2)).c0 0
    have HFA := Lib.hid (field_any (some ⟨b, 0, none⟩) (.inl ⟨none, 0, rfl, rfl⟩ : IntsAt ((wd.alloc (.cells #[.slice none 0 0] 37)).alloc (.cells #[.slice none 0 0] 37)) (.slice none 0 0) []) (by simp))
    have HX2 := Lib.hid hx2
    have HL12 := Lib.hid hl12
    have HL13 := Lib.hid hl13
    clear hx1 hx2 hl12 hl13
    go_wp2_with fail
    refine HFA.out.mono ?_
    rintro e wr ⟨rfl, hf1, ⟨u, hf2, hu⟩, hbr⟩
    have HBR := Lib.hid (stepB HBD.out (stepB HX2.out hbr))
    have HDR := Lib.hid ((((stepB HX2.out hbr).block D (Array.getElem?_eq_some_iff.1 HDD.out).1)).trans HDD.out)
    have HL12r := Lib.hid (HL12.out.later hbr)
    have HL13r := Lib.hid (HL13.out.later hbr)
    have HWR := Lib.hid (stepB HX2.out hbr).size
    obtain ⟨r, hr⟩ : ∃ r, wd.heap.size = r := ⟨_, rfl⟩
    have HRD := Lib.hid (show D < r from by rw [← hr]; exact (Array.getElem?_eq_some_iff.1 HDD.out).1)
    have HRB := Lib.hid (show w3.heap.size ≤ r from by rw [← hr]; exact HBD.out.size)
    simp only [World.size_alloc, hr] at hf1 hf2 HL12r HL13r
    have HSR := Lib.hid (show r + 4 ≤ wr.heap.size by have := hf2.lt; omega)
    have hsr := HS3.out.later HBR.out
    have HSEQ2 := Lib.hid (field_seq 8 (by omega) (w := wr) (fun _ => False) (fun k => k = r) (fun _ e => e.elim) hf1 hf2 hsr HF.out.wf (by have := HF.out.len; omega) hu (by simp) (fun c hc => by subst hc; exact ⟨_, HL12r.out.head, fun k hk => (HL12r.out.row k hk).2.1⟩))
    have hI2 : IdsI r w3 wr [] wr := ⟨.slice none 0 0, HL12r.out, KpP.refl _ _ _, HBR.out, Nat.zero_le _⟩
    clear hf1 hf2 hu hbr c7 HFA hsr HL12 HL13 HX2 HDD
    dsimp only
    go_wp2_with fail
    refine (wpIn_wide (n := 9)).1 ?_
    simp only [World.size_alloc, hr]
    clear hr
    refine range_world3 rfl (by omega) (I := IdsI r w3 wr) (Ix := fun _ _ _ => False) (gf := 40) (lb := _) rfl trivial (fun _ _ => by kernel_rfl) HSEQ2.out KpP.trans (fun W' o o' ho hc _ => KpP.put o' (.inr rfl) ho hc) (fun W W' hb => KpP.of_below _ _ hb) (Below.refl _ _) (fun _ => rfl)
      (idsI_own HBR.out.size (Nat.le_refl _)) (fun c s A B row hs hg hr => hs) (fun s A B row hs hg hr => hs) (fun s A B row hs hg hr => hs) hI2 ?_ ?_ ?_
    · rintro pre x W K hI hT hsz hK
      obtain ⟨kx, hkx, hx, hid, hz, n, hcn, hn⟩ := field_mem HF.out.wf (by rw [HF.out.seats]; decide) (show x ∈ fieldL S [] from hT.subset (by simp))
      have HPL := Lib.hid (show pre.length + 1 ≤ 1000 from by have h1 := hT.length_le; have h2 := fieldL_len HF.out.wf (by have := HF.out.len; omega) (by rw [HF.out.seats]; decide) []; simp at h1; omega)
      obtain ⟨x0, x1, x2, x3, x4, x5, x6, x7, x8, x9, x10⟩ := x
      have HK := Lib.hid hK
      clear hK hT hI hx hid hz hcn hn
      simp only [encO, ocs]
      simp
      gi_wp2
      refine HK.out _ _ (below_new W _) ?_
      clear HK
      intro Wb hsz2 hrest hkw ⟨v1, l0, k0, b0, hl1⟩
      have hbx := (hrest W.heap.size (by omega)).trans (heap_alloc_new W (.cells #[.int .i64 x0, .int .i64 x1, .int .i64 x2, .int .i64 x3, .bool x4, .bool x5, .int .i64 x6, .int .i64 x7, .int .i64 x8, .int .i64 x9, .bool x10] 32))
      obtain ⟨qo, hqo⟩ : ∃ qo, W.heap.size = qo := ⟨_, rfl⟩
      rw [hqo] at hbx ⊢
      have o0 : Wb.cell? ⟨qo, 0, none⟩ = some (.int .i64 x0) := (obj_of_row (x := ⟨x0, x1, x2, x3, x4, x5, x6, x7, x8, x9, x10⟩) hbx).1
      have HPL2 := Lib.hid (show (pre.map (·.id)).length + 1 ≤ 1000 by rw [List.length_map]; exact HPL.out)
      obtain ⟨Lp, hLp⟩ : ∃ Lp, pre.map (·.id) = Lp := ⟨_, rfl⟩
      rw [hLp] at l0 HPL2
      have HLP := Lib.hid hLp
      have cl := l0.head.cell
      have fl := l0.head.frozen
      obtain ⟨xa1, xc1, rfl⟩ := own_form l0.own
      have HL1 := Lib.hid l0
      have HK1 := Lib.hid k0
      have HB1 := Lib.hid b0
      have HKB := Lib.hid hkw
      clear hsz2 hrest hkw hqo hbx l0 k0 b0 hl1 hLp
      have hlen : Lp.length + [x0].length ≤ 1000 := by have := HPL2.out; simpa using this
      have hlo : w3.heap.size ≤ (Wb.alloc (.cells #[.int .i64 x0] 3)).heap.size := by have := HB1.out.size; simp; omega
      gi_wp2_with (gi_at_builtin; refine wpListIn_append_ints rfl _ _ rfl rfl w3.heap.size _ Lp.length (intsV Lp) rfl (own_later HL1.out.own (below_new Wb _)) _ 1 1 [x0] rfl rfl ((RowAt.new _ 3 (intsV [x0])).vals 1) hlen hlo ?_)
      intro v' w6 hown hgrow hnew
      have hsep : ∀ c, c = r → (Value.slice xa1 Lp.length xc1).ownBlock ≠ some c := fun c hc e => by subst hc; exact (HL1.out.row _ e).2.2 rfl
      obtain ⟨l7, k7, h6⟩ := ListIn.snoc (E := fun _ => False) (H := fun k => k = r) HL1.out rfl hgrow hown (by rw [World.size_alloc]; exact hnew) hsep
      have c6 := h6.cell
      have f6 := h6.frozen
      have HB7 := Lib.hid (show Below w3.heap.size w3 (w6.setCell ⟨r, 0, none⟩ v') from ((HB1.out.alloc HB1.out.size _).grown hgrow (by have := HB1.out.size; simp; omega) (fun c e => by have := (HL1.out.row c e).1; omega)).setCell (by show w3.heap.size ≤ (r : Nat); have := HRB.out; omega) v')
      obtain ⟨xa7, xc7, rfl⟩ := own_form hown
      have HL7 := Lib.hid l7
      have HK7 := Lib.hid k7
      clear hown hgrow hnew hsep l7 k7 h6 hlen hlo cl fl
      gi_wp2
      exact ⟨HK7.out.from (fun k e => e.elim), HKB.out.trans (HK7.out.mono (fun k e => e.elim)), _, by rw [List.map_append, HLP.out]; exact HL7.out, HK1.out.trans HK7.out, HB7.out, by rw [List.length_append]; exact HPL.out⟩
    · rintro D2 ys W2 hD2 hS ⟨v2, l2, k2, b2, hl2⟩ hK2
      subst hS
      rw [field_ids HF.out.wf (by rw [HF.out.seats]; decide)] at l2
      have hoff : ∀ k, k ≠ r → Off (fun k => k = r) wr k := fun k hk => off_lO HL12r.out hk (by intro e; cases e)
      have HBX3 := Lib.hid (k2.rest (r + 1) _ HL13r.out.box (fun e => e) (fun _ => hoff (r + 1) (by omega)))
      have HD1 := Lib.hid (k2.rest D _ HDR.out (fun e => e) (fun _ => hoff D (by have := HRD.out; omega)))
      have HD2 := Lib.hid hK2
      have HDB2 := Lib.hid (show wr.heap.size ≤ D2 from hD2)
      have HL2 := Lib.hid l2
      have HB2 := Lib.hid b2
      have HW2 := Lib.hid (show wr.heap.size ≤ W2.heap.size from k2.size)
      clear l2 k2 b2 hl2 hK2 hD2 hoff
      have c7 : W2.cell? ⟨q7, 0, none⟩ = some (.pointer (some ⟨b, 0, none⟩)) := (HK3.out.later HB2.out).c0 0
      have ca : W2.cell? ⟨q, 0, none⟩ = some (.int .i64 a) := (HK3.out.later HB2.out).c1 0
      have HFA3 := Lib.hid (field_any (some ⟨b, 0, none⟩) ((RowAt.new W2 3 (intsV [a, 1])).vals 2 : IntsAt (W2.alloc (.cells #[.int .i64 a, .int .i64 1] 3)) (.slice (some ⟨W2.heap.size, 0, none⟩) 2 2) [a, 1]) (by simp))
      go_wp2_with fail
      refine HFA3.out.mono ?_
      rintro e wq ⟨rfl, hg1, ⟨u3, hg2, hu3⟩, hbq⟩
      have hbq2 := stepB (below_new W2 (.cells #[.int .i64 a, .int .i64 1] 3)) hbq
      have HBQ := Lib.hid (stepB HB2.out hbq2)
      have HD1q := Lib.hid ((hbq2.block D (Array.getElem?_eq_some_iff.1 HD1.out).1).trans HD1.out)
      have HD2q := Lib.hid ((hbq2.block D2 (Array.getElem?_eq_some_iff.1 HD2.out).1).trans HD2.out)
      have HD2L := Lib.hid (Array.getElem?_eq_some_iff.1 HD2.out).1
      have HL2q := Lib.hid (HL2.out.later hbq2)
      have HL3q : Hid (ListIn wq w3.heap.size (r + 1) (.slice none 0 0) []) := Lib.hid ⟨(hbq2.block (r + 1) (Array.getElem?_eq_some_iff.1 HBX3.out).1).trans HBX3.out, World.ownsRow_nil _ _ _ _⟩
      have HWQ := Lib.hid (Nat.le_trans HW2.out hbq2.size)
      obtain ⟨t, ht⟩ : ∃ t, W2.heap.size = t := ⟨_, rfl⟩
      simp only [World.size_alloc, ht] at hg1 hg2
      have HTL := Lib.hid (show D2 < t by rw [← ht]; exact HD2L.out)
      have HTR := Lib.hid (show wr.heap.size ≤ t by rw [← ht]; exact HW2.out)
      have hsq := HS3.out.later HBQ.out
      have HSEQ3 := Lib.hid (field_seq 8 (by omega) (w := wq) (fun _ => False) (fun k => k = r + 1) (fun _ e => e.elim) hg1 hg2 hsq HF.out.wf (by have := HF.out.len; omega) hu3 (by simp) (fun c hc => by subst hc; exact ⟨_, HL3q.out.head, fun k hk => (HL3q.out.row k hk).2.1⟩))
      have hI3 : IdsI (r + 1) w3 wq [] wq := ⟨.slice none 0 0, HL3q.out, KpP.refl _ _ _, HBQ.out, Nat.zero_le _⟩
      clear hg1 hg2 hu3 hbq hbq2 c7 ca HFA3 hsq HD1 HD2 HL2 HBX3
      dsimp only
      go_wp2_with fail
      refine (wpIn_wide (n := 9)).1 ?_
      simp only [World.size_alloc, ht]
      clear ht
      refine range_world3 rfl (by omega) (I := IdsI (r + 1) w3 wq) (Ix := fun _ _ _ => False) (gf := 40) (lb := _) rfl trivial (fun _ _ => by kernel_rfl) HSEQ3.out KpP.trans (fun W' o o' ho hc _ => KpP.put o' (.inr rfl) ho hc) (fun W W' hb => KpP.of_below _ _ hb) (Below.refl _ _) (fun _ => rfl)
        (idsI_own HBQ.out.size (Nat.le_refl _)) (fun c s A B row hs hg hr => hs) (fun s A B row hs hg hr => hs) (fun s A B row hs hg hr => hs) hI3 ?_ ?_ ?_
      · rintro pre x W K hI hT hsz hK
        obtain ⟨kx, hkx, hx, hid, hz, n, hcn, hn⟩ := field_mem HF.out.wf (by rw [HF.out.seats]; decide) (show x ∈ fieldL S [a, 1] from hT.subset (by simp))
        have HPL := Lib.hid (show pre.length + 1 ≤ 1000 from by have h1 := hT.length_le; have h2 := fieldL_len HF.out.wf (by have := HF.out.len; omega) (by rw [HF.out.seats]; decide) [a, 1]; simp at h1; omega)
        obtain ⟨x0, x1, x2, x3, x4, x5, x6, x7, x8, x9, x10⟩ := x
        have HK := Lib.hid hK
        clear hK hT hI hx hid hz hcn hn
        simp only [encO, ocs]
        simp
        gi_wp2
        refine HK.out _ _ (below_new W _) ?_
        clear HK
        intro Wb hsz2 hrest hkw ⟨v1, l0, k0, b0, hl1⟩
        have hbx := (hrest W.heap.size (by omega)).trans (heap_alloc_new W (.cells #[.int .i64 x0, .int .i64 x1, .int .i64 x2, .int .i64 x3, .bool x4, .bool x5, .int .i64 x6, .int .i64 x7, .int .i64 x8, .int .i64 x9, .bool x10] 32))
        obtain ⟨qo, hqo⟩ : ∃ qo, W.heap.size = qo := ⟨_, rfl⟩
        rw [hqo] at hbx ⊢
        have o0 : Wb.cell? ⟨qo, 0, none⟩ = some (.int .i64 x0) := (obj_of_row (x := ⟨x0, x1, x2, x3, x4, x5, x6, x7, x8, x9, x10⟩) hbx).1
        have HPL2 := Lib.hid (show (pre.map (·.id)).length + 1 ≤ 1000 by rw [List.length_map]; exact HPL.out)
        obtain ⟨Lp, hLp⟩ : ∃ Lp, pre.map (·.id) = Lp := ⟨_, rfl⟩
        rw [hLp] at l0 HPL2
        have HLP := Lib.hid hLp
        have cl := l0.head.cell
        have fl := l0.head.frozen
        obtain ⟨xa1, xc1, rfl⟩ := own_form l0.own
        have HL1 := Lib.hid l0
        have HK1 := Lib.hid k0
        have HB1 := Lib.hid b0
        have HKB := Lib.hid hkw
        clear hsz2 hrest hkw hqo hbx l0 k0 b0 hl1 hLp
        have hlen : Lp.length + [x0].length ≤ 1000 := by have := HPL2.out; simpa using this
        have hlo : w3.heap.size ≤ (Wb.alloc (.cells #[.int .i64 x0] 3)).heap.size := by have := HB1.out.size; simp; omega
        gi_wp2_with (gi_at_builtin; refine wpListIn_append_ints rfl _ _ rfl rfl w3.heap.size _ Lp.length (intsV Lp) rfl (own_later HL1.out.own (below_new Wb _)) _ 1 1 [x0] rfl rfl ((RowAt.new _ 3 (intsV [x0])).vals 1) hlen hlo ?_)
        intro v' w6 hown hgrow hnew
        have hsep : ∀ c, c = r + 1 → (Value.slice xa1 Lp.length xc1).ownBlock ≠ some c := fun c hc e => by subst hc; exact (HL1.out.row _ e).2.2 rfl
        obtain ⟨l7, k7, h6⟩ := ListIn.snoc (E := fun _ => False) (H := fun k => k = r + 1) HL1.out rfl hgrow hown (by rw [World.size_alloc]; exact hnew) hsep
        have c6 := h6.cell
        have f6 := h6.frozen
        have HB7 := Lib.hid (show Below w3.heap.size w3 (w6.setCell ⟨r + 1, 0, none⟩ v') from ((HB1.out.alloc HB1.out.size _).grown hgrow (by have := HB1.out.size; simp; omega) (fun c e => by have := (HL1.out.row c e).1; omega)).setCell (by show w3.heap.size ≤ (r + 1 : Nat); have := HRB.out; omega) v')
        obtain ⟨xa7, xc7, rfl⟩ := own_form hown
        have HL7 := Lib.hid l7
        have HK7 := Lib.hid k7
        clear hown hgrow hnew hsep l7 k7 h6 hlen hlo cl fl
        gi_wp2
        exact ⟨HK7.out.from (fun k e => e.elim), HKB.out.trans (HK7.out.mono (fun k e => e.elim)), _, by rw [List.map_append, HLP.out]; exact HL7.out, HK1.out.trans HK7.out, HB7.out, by rw [List.length_append]; exact HPL.out⟩
      · rintro D3 ys W3 hD3 hS ⟨v3, l3, k3, b3, hl3⟩ hK3
        subst hS
        rw [field_ids HF.out.wf (by rw [HF.out.seats]; decide)] at l3
        have hoff : ∀ k, k ≠ r + 1 → Off (fun k => k = r + 1) wq k := fun k hk => off_lO HL3q.out hk (by intro e; cases e)
        have hne := own_not_box HL2q.out.own HL3q.out.box
        have HD1 := Lib.hid (k3.rest D _ HD1q.out (fun e => e) (fun _ => hoff D (by have := HRD.out; omega)))
        have HD2 := Lib.hid (k3.rest D2 _ HD2q.out (fun e => e) (fun _ => hoff D2 (by have := HDB2.out; have := HSR.out; omega)))
        have HD3 := Lib.hid hK3
        have HDB3 := Lib.hid (show wq.heap.size ≤ D3 from hD3)
        have HL2 := Lib.hid (HL2q.out.kept k3 ⟨fun e => e, hoff r (by omega)⟩ (fun k hk => ⟨fun e => e, hoff k (fun e => hne (e ▸ hk))⟩))
        have HL3 := Lib.hid l3
        have HB3c := Lib.hid b3
        have HW3 := Lib.hid (show wq.heap.size ≤ W3.heap.size from k3.size)
        clear l3 k3 b3 hl3 hK3 hD3 hoff hne
        have hin := in_any (HS3.out.later HB3c.out) (HF.out.wf.short (by have := HF.out.len; omega)) (s := 0) (z := 3) ⟨by decide, by decide⟩ ⟨by decide, by decide⟩
        rw [inL_field (by rw [HF.out.seats]; decide)] at hin
        have HMEM := Lib.hid (fun x (hx : x ∈ S.pl 0 3) => HF.out.wf.onField (by rw [HF.out.seats]; decide) hx)
        have HPLL := Lib.hid ((HF.out.wf.short (by have := HF.out.len; omega)).2 0 3 ⟨by rw [HF.out.seats]; decide, by decide, by decide, fun _ => rfl⟩)
        have hF1 := fldIds_all S
        have hF2 : fldIds S [a, 1] = (S.pl 0 3).filter fun i => ownB [a, 1] (objOf S i) := rfl
        rw [hF1] at HL2
        rw [hF2] at HL3
        have HIN2 := Lib.hid (fun (w' : World) (hb : Below w3.heap.size w3 w') => in_any (HS3.out.later hb) (HF.out.wf.short (by have := HF.out.len; omega)) (s := 2) (z := 3) ⟨by decide, by decide⟩ ⟨by decide, by decide⟩)
        rw [inL_field (by rw [HF.out.seats]; decide)] at HIN2
        obtain ⟨PL, hPL⟩ : ∃ PL, S.pl 0 3 = PL := ⟨_, rfl⟩
        rw [hPL] at hin HMEM HPLL HL2 HL3 HIN2
        have HIN := Lib.hid hin
        have hpl := HPLL.out
        clear hin hF1 hF2 hPL
        have c7 : W3.cell? ⟨q7, 0, none⟩ = some (.pointer (some ⟨b, 0, none⟩)) := (HK3.out.later HB3c.out).c0 0
        go_wp2_with fail
        refine HIN.out.mono ?_
        rintro e wi ⟨vi, rfl, hoi, hbi⟩
        have HII := Lib.hid (own_ints hoi)
        obtain ⟨ia, ic, rfl⟩ := own_form hoi
        have HBI := Lib.hid (stepB HB3c.out hbi)
        have HB3I := Lib.hid hbi
        clear c7 hoi hbi HIN
        dsimp only
        go_wp2
        go_loopw [14, 81] (fun c i wz => ∃ k : Nat, k ≤ PL.length ∧ i = .int .i64 k ∧ Hid (wz.ownsRow wi.heap.size 3 1 c ((PL.take k).filter fun i => ownB [a, 1] (objOf S i)).length (intsV ((PL.take k).filter fun i => ownB [a, 1] (objOf S i)))) ∧ Hid (Below wi.heap.size wi wz)) (fun _ i _ => PL.length - (intOf i).toNat)
        case atStart => exact ⟨0, Nat.zero_le _, rfl, Lib.hid (World.ownsRow_nil _ _ _ _), Lib.hid (Below.refl _ _)⟩
        case round =>
          obtain ⟨k, hk, rfl, HO, HBZ⟩ := hrel
          by_cases hlt : k < PL.length
          · obtain ⟨ig, io, hia, _, ci⟩ := (HII.out.later HBZ.out).at k hlt
            obtain ⟨kk, hkk, hid, hobj, _⟩ := HMEM.out PL[k] (List.getElem_mem hlt)
            have htk := take_last PL k hlt
            have hsn := filter_snocI (fun i => ownB [a, 1] (objOf S i)) (PL.take k) PL[k]
            rw [← htk] at hsn
            rw [hobj] at hsn
            rw [hid] at ci hsn
            have hfl := List.length_filter_le (fun i => ownB [a, 1] (objOf S i)) (PL.take k)
            rw [List.length_take, Nat.min_eq_left hk] at hfl
            have hge := get_in (HS3.out.later (stepB HBI.out HBZ.out)) (by have := HF.out.len; omega) kk hkk
            obtain ⟨X, hX⟩ : ∃ X, S.objs[kk] = X := ⟨_, rfl⟩
            rw [hX] at hge hsn
            obtain ⟨x0, x1, x2, x3, x4, x5, x6, x7, x8, x9, x10⟩ := X
            have HSN := Lib.hid hsn
            obtain ⟨L0, hL0⟩ : ∃ L0, ((PL.take k).filter fun i => ownB [a, 1] (objOf S i)) = L0 := ⟨_, rfl⟩
            rw [hL0] at HSN hfl HO
            have HGE := Lib.hid hge
            unfold RetGet oagg at HGE
            dsimp only at HGE
            have c7 : wr.cell? ⟨q7, 0, none⟩ = some (.pointer (some ⟨b, 0, none⟩)) := (HK3.out.later (stepB HBI.out HBZ.out)).c0 0
            have d0 : (0 : Int) ≤ k := by omega
            have d1 : (k : Int) < PL.length := by omega
            cases hia
            clear hid hobj htk hsn hge hX hL0
            go_wp2_with fail
            refine HGE.out.mono ?_
            rintro e wg ⟨rfl, hbg⟩
            have HBG := Lib.hid (stepB HBZ.out (below_alloc2 hbg (.cells #[.int .i64 x0, .int .i64 x1, .int .i64 x2, .int .i64 x3, .bool x4, .bool x5, .int .i64 x6, .int .i64 x7, .int .i64 x8, .int .i64 x9, .bool x10] 32)))
            have HBG0 := Lib.hid (below_alloc2 hbg (.cells #[.int .i64 x0, .int .i64 x1, .int .i64 x2, .int .i64 x3, .bool x4, .bool x5, .int .i64 x6, .int .i64 x7, .int .i64 x8, .int .i64 x9, .bool x10] 32))
            have ca : (wg.alloc (.cells #[.int .i64 x0, .int .i64 x1, .int .i64 x2, .int .i64 x3, .bool x4, .bool x5, .int .i64 x6, .int .i64 x7, .int .i64 x8, .int .i64 x9, .bool x10] 32)).cell? ⟨q, 0, none⟩ = some (.int .i64 a) := (HK3.out.later (stepB HBI.out HBG.out)).c1 0
            have HO2 := Lib.hid (own_later HO.out (show Below wr.heap.size wr (wg.alloc (.cells #[.int .i64 x0, .int .i64 x1, .int .i64 x2, .int .i64 x3, .bool x4, .bool x5, .int .i64 x6, .int .i64 x7, .int .i64 x8, .int .i64 x9, .bool x10] 32)) from HBG0.out))
            clear c7 ci hbg HGE
            dsimp only
            by_cases hown : x2 = a ∨ x2 = 1
            · have HE := Lib.hid (show ((PL.take (k + 1)).filter fun i => ownB [a, 1] (objOf S i)) = L0 ++ [(kk : Int) + 1] by
                rw [HSN.out, if_pos]
                unfold ownB
                rcases hown with h | h <;> simp [h])
              have hb2 : (x2 == a) = true ∨ ((x2 == a) = false ∧ (x2 == 1) = true) := by
                by_cases h : x2 = a
                · exact .inl (by simp [h])
                · exact .inr ⟨beq_eq_false_iff_ne.2 h, by rcases hown with h1 | h1; exact absurd h1 h; simp [h1]⟩
              have HI1 : Hid (IntsAt ((wg.alloc (.cells #[.int .i64 x0, .int .i64 x1, .int .i64 x2, .int .i64 x3, .bool x4, .bool x5, .int .i64 x6, .int .i64 x7, .int .i64 x8, .int .i64 x9, .bool x10] 32)).alloc (.cells #[.int .i64 ((kk : Int) + 1)] 3)) (.slice (some ⟨wg.heap.size + 1, 0, none⟩) 1 1) [(kk : Int) + 1]) := Lib.hid (by
                have h := (RowAt.new (wg.alloc (.cells #[.int .i64 x0, .int .i64 x1, .int .i64 x2, .int .i64 x3, .bool x4, .bool x5, .int .i64 x6, .int .i64 x7, .int .i64 x8, .int .i64 x9, .bool x10] 32)) 3 (intsV [(kk : Int) + 1])).vals 1
                rw [World.size_alloc] at h
                exact h)
              clear hown HSN
              rcases hb2 with e1 | ⟨e1, e2⟩
              all_goals
                go_wp2_with (at_builtin; refine wpList_append_ints rfl _ _ rfl rfl wi.heap.size _ _ (intsV L0) rfl (HO2.out.alloc _) _ 1 1 [(kk : Int) + 1] rfl rfl HI1.out (by simp; omega) (by have := HBG.out.size; simp at this ⊢; omega) ?_)
                intro v' w5' hown hgrow _
                have HO5 := Lib.hid (show w5'.ownsRow wi.heap.size 3 1 v' ((PL.take (k + 1)).filter fun i => ownB [a, 1] (objOf S i)).length (intsV ((PL.take (k + 1)).filter fun i => ownB [a, 1] (objOf S i))) from by
                  rw [HE.out, List.length_append]; unfold intsV; rw [List.map_append]; exact hown)
                have HB6 := Lib.hid ((HBG.out.alloc HBG.out.size (.cells #[.int .i64 ((kk : Int) + 1)] 3)).grown hgrow (Nat.le_trans HBG.out.size (by simp)) (fun g e => (World.ownsRow.lt (HO2.out.alloc (.cells #[.int .i64 ((kk : Int) + 1)] 3)) g e).1))
                obtain ⟨g', cap', rfl⟩ := ownsRow_succ hown
                clear hown hgrow
                go_wp2
                go_roundw
                case rel => exact ⟨k + 1, by omega, by go_num, HO5, HB6⟩
                case measure => simp [intOf]; omega
            · have HE := Lib.hid (show ((PL.take (k + 1)).filter fun i => ownB [a, 1] (objOf S i)) = L0 by
                rw [HSN.out, if_neg]
                unfold ownB
                intro h
                simp at h
                exact hown h)
              have e1 : (x2 == a) = false := beq_eq_false_iff_ne.2 (fun h => hown (.inl h))
              have e2 : (x2 == 1) = false := beq_eq_false_iff_ne.2 (fun h => hown (.inr h))
              clear hown HSN
              go_wp2
              go_roundw
              case rel => exact ⟨k + 1, by omega, by go_num, by rw [HE.out]; exact HO2, HBG⟩
              case measure => simp [intOf]; omega
          · obtain rfl : k = PL.length := by omega
            obtain ⟨wE, rfl⟩ : ∃ wE, wE = wr := ⟨_, rfl⟩
            have ho := HO.out
            rw [List.take_length] at ho
            obtain ⟨F, hF⟩ : ∃ F, (PL.filter fun i => ownB [a, 1] (objOf S i)) = F := ⟨_, rfl⟩
            have hFl : F.length ≤ 1000 := by rw [← hF]; exact Nat.le_trans (List.length_filter_le _ _) HPLL.out
            have hl3 := HL3.out
            rw [hF] at ho hl3
            have HBE3 := Lib.hid (show Below W3.heap.size W3 wE from stepB HB3I.out HBZ.out)
            have HBE := Lib.hid (stepB HB3c.out HBE3.out)
            have HL3E := Lib.hid (hl3.later HBE3.out)
            have HL2E := Lib.hid (HL2.out.later HBE3.out)
            have HOE := Lib.hid (own_ints ho)
            have HM := Lib.hid (show MarksO wE [D3, D2, D] from fun D' hD' => by
              simp only [List.mem_cons, List.not_mem_nil, or_false] at hD'
              rcases hD' with rfl | rfl | rfl
              · exact (HBE3.out.block _ (Array.getElem?_eq_some_iff.1 HD3.out).1).trans HD3.out
              · exact (HBE3.out.block _ (Array.getElem?_eq_some_iff.1 HD2.out).1).trans HD2.out
              · exact (HBE3.out.block _ (Array.getElem?_eq_some_iff.1 HD1.out).1).trans HD1.out)
            have HKE := Lib.hid (HK3.out.later HBE.out)
            have c12 := HL2E.out.head.cell
            have c13 := HL3E.out.head.cell
            have c7 : wE.cell? ⟨q7, 0, none⟩ = some (.pointer (some ⟨b, 0, none⟩)) := HKE.out.c0 0
            have HRB0 := Lib.hid HKE.out.h2
            have cr := HRB0.out.cell
            have fr := HRB0.out.frozen
            obtain ⟨xa2, xc2, rfl⟩ := own_form HL2E.out.own
            obtain ⟨xa3, xc3, rfl⟩ := own_form HL3E.out.own
            obtain ⟨xaE, xcE, rfl⟩ := own_form ho
            have HBW0 := Lib.hid (stepB HB3.out HBE.out)
            clear ho hl3 hF HO HBZ HL2 HL3
            go_wp2
            refine wp_region_noPanic ?_
            go_region_law ((first
              | (go_simp; go_at_call 16; refine (HIN2.out _ (stepB HBE.out (below_drewN (Below.refl _ _) _))).mono ?_; rintro e w30 ⟨v30, rfl, ho30, hb30⟩; have hb30' := stepB (below_drewN (Below.refl wE.heap.size wE) _) hb30; have HI30 := Lib.hid (own_ints ho30); obtain ⟨y30, z30, rfl⟩ := own_form ho30; have c12' := cell_stays hb30' c12; have c13' := cell_stays hb30' c13; have cr' := cell_stays hb30' cr; dsimp only)
              | (go_simp; go_at_call 17; (with_reducible refine (ids_same ((own_ints HL2E.out.own).later hb30') HI30.out hpl).mono ?_); rintro e w31 ⟨rfl, hb31⟩; have hb31' := stepB hb30' hb31; have c13'' := cell_stays hb31' c13; have cr'' := cell_stays hb31' cr; dsimp only)
              | (go_simp; go_at_call 17; (with_reducible refine (ids_same ((own_ints HL3E.out.own).later hb31') (HOE.out.later hb31') hFl).mono ?_); rintro e w32 ⟨rfl, hb32⟩; have hb32' := stepB hb31' hb32; have HB32 := Lib.hid hb32'; have HH32 := Lib.hid (HRB0.out.later hb32'); have cr3 := HH32.out.cell; have fr3 := HH32.out.frozen; dsimp only)
              | (trace_state; fail "arm")))
            all_goals
              refine NoPanic.normal ?_
              have HR := Lib.hid (HH32.out.set (.bool true))
              have HBF := Lib.hid ((stepB HBW0.out HB32.out).setCell (p := ⟨q + 1, 0, none⟩) (by show w.heap.size ≤ q + 1; have := HQ.out; omega) (.bool true))
              have HMF := Lib.hid ((HM.out.others (others_belowO HB32.out)).others (KeepsOthers.setCell w32 ⟨q + 1, 0, none⟩ (.bool true)))
              have k1 := HRD.out
              have k2 := HSR.out
              have k3 := HDB2.out
              have k4 := (Array.getElem?_eq_some_iff.1 HD2q.out).1
              have k5 := HDB3.out
              have k6 := HDL.out
              have k7 := HB5.out.size
              have k8 := HB3.out.size
              clear cr fr cr3 fr3
              go_wp2
              refine leaves_marksO (B := w.heap.size) [D3, D2, D] _ (by simp; omega) (fun D' hD' => by simp at hD'; omega) HMF.out (fun W' hb hc => ?_)
              obtain ⟨tr, hr⟩ := HR.out
              exact ⟨_, results_b6 rfl rfl ⟨tr, hc _ _ hr rfl⟩, rfl, HBF.out.trans hb⟩
      · rintro D3 c pre W3 hD3 hS hI hK
        exact hI.elim
    · rintro D2 c pre W2 hD2 hS hI hK
      exact hI.elim
end Go.Proofs.Ytkhgdfalbmkgcaa
