/- FightSums: each attacker strikes for just its power in all; nobody strikes who neither attacks nor blocks (layer 17). -/
import Derived.Test.YtjgjhfeopmakaaaGreatQp
import Derived.Test.YtjgjhfeopmakaaaGreatQt
import Derived.Test.YtjgjhfeopmakaaaGreatQu
namespace Go.Proofs.YtjgjhfeopmakaaaGreat
open Go.RowKit Go.Maps
attribute [local go_sem] Oper.semAt_some

theorem HitsAt.grownM {W W' : World} {b : Nat} {o : Obj} {v : Value} {L : List HitL} (h : HitsAt W v L) (hg : W.grownBy W' (some b)) (hD : W.heap[b]? = some o) (ho : o.isCells = false) : HitsAt W' v L := by
  rcases h with h | ⟨c, off, cap, rfl, hlt, hc⟩
  · exact .inl h
  · refine .inr ⟨c, off, cap, rfl, Nat.lt_of_lt_of_le hlt hg.size, fun i hi => ?_⟩
    obtain ⟨c0, c1, c2⟩ := hc i hi
    have hb : c ≠ b := by
      rintro rfl
      simp [World.cell?, hD] at c0
      cases o <;> simp_all [Obj.isCells]
    have e : ∀ j, W'.cell? ⟨c, j, none⟩ = W.cell? ⟨c, j, none⟩ := fun j => World.cell?_of_block (w := W) (a := ⟨c, j, none⟩) (hg.block c hlt (fun e => hb (Option.some.inj e)))
    exact ⟨(e _).trans c0, (e _).trans c1, (e _).trans c2⟩
theorem SumMap.obj {w : World} {b n : Nat} {f : Int → Int} (h : SumMap w b n f) : ∃ o, w.heap[b]? = some o ∧ o.isCells = false := by
  obtain ⟨D, ⟨es, clock, hb, _⟩, _⟩ := h
  exact ⟨_, hb, rfl⟩
/-- What a hit of the plan is, as the law asks it. -/
theorem sums_hit {w : World} {lo : Nat} {g : GhostB} {l : List ManL} {S : StoreL} {f : Int → Bool} {T : TeamL} {D : DryL} (hb : BoardAt w lo g ⟨S, T, D⟩) (h : NobS l S f) (hl : l.length ≤ 20) {t : Int} (ht : 0 ≤ t) {x : HitL} (hx : x ∈ planL ⟨S, T, D⟩ t) :
    ∃ k, ∃ hk : k < l.length, x.x = (k : Int) + 1 ∧ k < 256 ∧ 1 ≤ x.z ∧ x.z ≤ 999 ∧ (l[k].attacks = true ∨ (l[k].attacks = false ∧ l[k].block ≠ 0)) ∧
      ((∃ j, ∃ hj : j < l.length, x.y = (j : Int) + 1 ∧ j < 256 ∧ ¬(x.y = -1 - t) ∧ (l[j].block = x.x ∨ (¬(l[j].block = x.x) ∧ l[k].block = x.y))) ∨ (¬(1 ≤ x.y) ∧ (¬(x.y = -1 - t) ∨ (x.y = -1 - t ∧ nextT T t = t)))) := by
  have hz := plan_bound _ t x hx
  have hat : ∀ y, y ∈ attackL ⟨S, T, D⟩ t → ∃ k, ∃ hk : k < l.length, y = (k : Int) + 1 ∧ l[k].attacks = true := fun y hy => by
    obtain ⟨_, k, hk, e, ha, _⟩ := nob_attack h hl hy
    exact ⟨k, hk, e, ha⟩
  have hbk : ∀ y i, y ∈ blockL ⟨S, T, D⟩ i → ∃ k, ∃ hk : k < l.length, y = (k : Int) + 1 ∧ l[k].block = i ∧ 1 ≤ i := fun y i hy => by
    obtain ⟨h1, h2, h3⟩ := block_mem hy
    obtain ⟨_, k, hk, e, ho⟩ := h.here h1
    have h4 : (objI S y).block = i := h2
    rw [ho] at h4
    exact ⟨k, hk, e, h4, h3⟩
  have hcase : ∀ k (hk : k < l.length), l[k].attacks = true ∨ l[k].block ≠ 0 → (l[k].attacks = true ∨ (l[k].attacks = false ∧ l[k].block ≠ 0)) := fun k hk hh => by
    cases ha : l[k].attacks with
    | true => exact .inl rfl
    | false => exact .inr ⟨rfl, hh.resolve_left (by rw [ha]; decide)⟩
  rcases (plan_mem hb hx).2 with ⟨h1, _, h3, _⟩ | ⟨h1, h2, _⟩ | ⟨h1, h2, _⟩
  · obtain ⟨k, hk, e, ha⟩ := hat _ h1
    have hn := next_bounds hb.tm t
    dsimp only at hn h3
    refine ⟨k, hk, e, by omega, hz.1, hz.2, .inl ha, .inr ⟨by omega, ?_⟩⟩
    by_cases hy : x.y = -1 - t
    · exact .inr ⟨hy, by omega⟩
    · exact .inl hy
  · obtain ⟨k, hk, e, ha⟩ := hat _ h1
    obtain ⟨j, hj, e2, hbl, _⟩ := hbk _ _ h2
    exact ⟨k, hk, e, by omega, hz.1, hz.2, .inl ha, .inl ⟨j, hj, e2, by omega, by omega, .inl hbl⟩⟩
  · obtain ⟨k, hk, e, hbl, h5⟩ := hbk _ _ h2
    obtain ⟨j, hj, e2, _⟩ := hat _ h1
    refine ⟨k, hk, e, by omega, hz.1, hz.2, hcase k hk (.inr (by omega)), .inl ⟨j, hj, e2, by omega, by omega, ?_⟩⟩
    by_cases hj2 : l[j].block = x.x
    · exact .inl hj2
    · exact .inr ⟨hj2, hbl⟩
theorem sums_wrap {s z : Int} {k : Nat} (h1 : 0 ≤ s) (h2 : s ≤ 999 * k) (h3 : 1 ≤ z) (h4 : z ≤ 999) (h5 : k ≤ 1000000) : wrap64 (s + z) = s + z ∧ IntKind.i64.wrap (s + z) = s + z ∧ (Lit.int .i64 (s + z)).wf = true := by
  refine ⟨by unfold wrap64; omega, by rw [IntKind.wrap_i64]; omega, WalkArith.wf_i64 (by omega)⟩
theorem wrapE (n : Nat) (h : n < 256) : wrap64 (n : Int) = n := by unfold wrap64; omega
theorem wrapF (n : Nat) (h : n < 256) : IntKind.i64.wrap (n : Int) = n := by rw [IntKind.wrap_i64]; omega
theorem neg_wrap {t : Int} (h1 : 0 ≤ t) (h2 : t < 4) : wrap64 (-1 - t) = -1 - t ∧ IntKind.i64.wrap (-1 - t) = -1 - t := ⟨by unfold wrap64; omega, by rw [IntKind.wrap_i64]; omega⟩
set_option maxRecDepth 100000 in
set_option maxHeartbeats 32000000 in
theorem fightSums_walk {v : Value} {l : List ManL} {n n2 : Nat} {w : World} (hv : MansAt w v l) (hw : ∀ x ∈ l, Wf x.owner) (hlen : l.length ≤ 9223372036854775807) (hn : n < 256) (hn2 : n2 < 256) :
    Calls Tryz.prog 4 #[v, .int .u8 n, .int .u8 n2] w (RetV w (.bool true)) := by
  have hmm := @run_makeMap Tryz.prog
  obtain ⟨va, vc, rfl⟩ := hv.form
  have hb1 := below_new w (.cells #[.slice va l.length vc] 22)
  have hb2 := below_new (w.alloc (.cells #[.slice va l.length vc] 22)) (.cells #[.bool false] 4)
  have hr1 := (hb2.block w.heap.size (by simp)).trans (heap_alloc_new w (.cells #[.slice va l.length vc] 22))
  have hr2 := heap_alloc_new (w.alloc (.cells #[.slice va l.length vc] 22)) (.cells #[.bool false] 4)
  have hbb := stepB hb1 hb2
  obtain ⟨W0, hW0⟩ : ∃ W0, (w.alloc (.cells #[.slice va l.length vc] 22)).alloc (.cells #[.bool false] 4) = W0 := ⟨_, rfl⟩
  rw [hW0] at hr1 hr2 hbb
  rw [World.size_alloc] at hr2
  have HV := Lib.hid (hv.later hbb)
  have HW := Lib.hid hw
  have HBB := Lib.hid hbb
  obtain ⟨q, hq⟩ : ∃ q, w.heap.size = q := ⟨_, rfl⟩
  have HQ := Lib.hid hq
  rw [hq] at hr1 hr2
  have HR1 := Lib.hid hr1
  have HR2 := Lib.hid hr2
  clear hv hw hb1 hb2 hr1 hr2 hbb
  refine (callsIn_wide (n := 9)).1 ?_
  refine callsIn_of_wp_marks Tryz.func4 rfl trivial ?_ rfl
  simp only [Tryz.ntmps4, List.size_toArray, List.length_cons, List.length_nil, Nat.reduceAdd, Nat.reduceSub, Array.replicate_succ, Array.replicate_zero, List.push_toArray, List.append_toArray, List.nil_append, List.cons_append]
  refine wpIn_wide.2 ?_
  go_wp2_with fail
  refine (awake17_any _).mono ?_
  rintro e w1 ⟨rfl, hb1⟩
  have HB1 := Lib.hid hb1
  have HR11 := Lib.hid ((hb1.block _ (Crd.lt_of_row HR1.out)).trans HR1.out)
  have HR12 := Lib.hid ((hb1.block _ (Crd.lt_of_row HR2.out)).trans HR2.out)
  have HBO := Lib.hid (board17_any (HV.out.later hb1) HW.out hlen n hn)
  have z1 := cell_of_row w1 q 0 _ _ _ HR11.out
  simp only [List.getElem?_toArray, List.getElem?_cons_zero] at z1
  clear hb1 hW0
  dsimp only
  go_wp2_with fail
  refine HBO.out.mono ?_
  rintro e w2 (⟨hplay, lo, g, rfl, hg, hlo, hb2⟩ | ⟨hplay, rfl, hb2⟩)
  case inr =>
    have hb2' := stepB hb2 (below_new w2 (.cells #[.pointer none] 26))
    have hr2 := (hb2'.block _ (Crd.lt_of_row HR12.out)).trans HR12.out
    have c2 := cell_of_row _ (q + 1) 0 _ _ _ hr2
    have f2 := frozen_of_row _ (q + 1) 0 _ _ hr2
    have HX := Lib.hid (show HdAt ((w2.alloc (.cells #[.pointer none] 26)).setCell ⟨q + 1, 0, none⟩ (.bool true)) (q + 1) (.bool true) from HdAt.set ⟨_, hr2⟩ _)
    have HB2 := Lib.hid (show Below w.heap.size w ((w2.alloc (.cells #[.pointer none] 26)).setCell ⟨q + 1, 0, none⟩ (.bool true)) from (stepB (stepB HBB.out HB1.out) hb2').setCell (by have := HQ.out; show w.heap.size ≤ q + 1; omega) _)
    simp only [List.getElem?_toArray, List.getElem?_cons_zero] at c2
    clear hr2 hb2 hb2' HBO z1
    dsimp only
    go_wp2
    exact ⟨_, results_c6 rfl rfl HX.out, rfl, HB2.out⟩
  have HP := Lib.hid hplay
  have hl20 := hplay.1
  obtain ⟨qB, bB, tB, sB, rB, GB⟩ := g
  have hb3 := below_new w2 (.cells #[.pointer (some ⟨qB, 0, none⟩)] 26)
  have hr7 := heap_alloc_new w2 (.cells #[.pointer (some ⟨qB, 0, none⟩)] 26)
  have hb23 := stepB hb2 hb3
  obtain ⟨W3, hW3⟩ : ∃ W3, w2.alloc (.cells #[.pointer (some ⟨qB, 0, none⟩)] 26) = W3 := ⟨_, rfl⟩
  rw [hW3] at hb3 hr7 hb23
  have HG3 := Lib.hid (hg.later hb3)
  have HB3 := Lib.hid (stepB HB1.out hb23)
  have HR31 := Lib.hid ((hb23.block _ (Crd.lt_of_row HR11.out)).trans HR11.out)
  have HR32 := Lib.hid ((hb23.block _ (Crd.lt_of_row HR12.out)).trans HR12.out)
  obtain ⟨q7, hq7⟩ : ∃ q7, w2.heap.size = q7 := ⟨_, rfl⟩
  rw [hq7] at hr7
  have HR37 := Lib.hid hr7
  have z7 := cell_of_row W3 q7 0 _ _ _ hr7
  simp only [List.getElem?_toArray, List.getElem?_cons_zero] at z7
  have HNS := Lib.hid (NobS.start (made17_fold l HP.out.2.2))
  unfold board17 at HG3
  obtain ⟨S, hS⟩ : ∃ S, made17 (l.map cardM) l = S := ⟨_, rfl⟩
  obtain ⟨TT, hTT⟩ : ∃ TT, sidesT n = TT := ⟨_, rfl⟩
  rw [hS, hTT] at HG3
  rw [hS] at HNS
  have cT := HG3.out.cells.2.1
  have HLN := Lib.hid (tlen_any HG3.out.tm)
  obtain ⟨NL, hNL⟩ : ∃ NL, TT.sh.length = NL := ⟨_, rfl⟩
  have hN4 : NL ≤ 4 := by rw [← hNL]; exact HG3.out.tm.n2
  have hN1 : 1 ≤ NL := by
    have h1 := HG3.out.se
    have h2 := HNS.out.seats
    have h3 := HG3.out.tm.nd (TT.sides[0]'(by dsimp only at h1; omega)) (List.getElem_mem _)
    dsimp only at h3
    omega
  dsimp only at cT HLN
  rw [hNL] at HLN
  obtain ⟨t, ht⟩ : ∃ t, n2 % NL = t := ⟨_, rfl⟩
  have ht4 : t < NL := by rw [← ht]; exact Nat.mod_lt _ (by omega)
  have hm1 : ((n2 : Int)).tmod NL = (t : Int) := by rw [← ht]; exact (Int.ofNat_tmod n2 NL).symm
  have hm2 : (n2 : Int) % NL = (t : Int) := by rw [← ht]; rfl
  have hNZ : ¬((NL : Int) = 0) := by omega
  have hNZ2 : ¬(NL = 0) := by omega
  have hlo' := hlo
  clear hplay hg hlo hlo' hb2 hb3 hb23 hr7 HBO z1 HR11 HR12 hS hTT hNL ht
  dsimp only
  go_wp2_with fail
  refine HLN.out.mono ?_
  rintro e w4 ⟨rfl, rfl⟩
  clear z7 cT HLN
  have hma := below_new w4 (.map #[] 0)
  have hmb := below_new (w4.alloc (.map #[] 0)) (.cells #[.map (some w4.heap.size)] 48)
  have hlm := (sum_made w4).later hmb
  have hr9 := heap_alloc_new (w4.alloc (.map #[] 0)) (.cells #[.map (some w4.heap.size)] 48)
  have hm3 := stepB hma hmb
  dsimp only
  clear hW3 hq7
  go_upto_region 8 with fail
  obtain ⟨W5, hW5⟩ : ∃ W5, (w4.alloc (.map #[] 0)).alloc (.cells #[.map (some w4.heap.size)] 48) = W5 := ⟨_, rfl⟩
  rw [hW5] at hlm hr9 hm3
  try rw [hW5]
  rw [World.size_alloc] at hr9
  obtain ⟨mb, hmbq⟩ : ∃ mb, w4.heap.size = mb := ⟨_, rfl⟩
  have HMB := Lib.hid hmbq
  try simp only [hmbq]
  rw [hmbq] at hlm hr9
  have HLM := Lib.hid hlm
  have HR59 := Lib.hid hr9
  have HB5 := Lib.hid hm3
  have z7 := cell_of_row W5 q7 0 _ _ _ ((hm3.block _ (Crd.lt_of_row HR37.out)).trans HR37.out)
  simp only [List.getElem?_toArray, List.getElem?_cons_zero] at z7
  have HAL := Lib.hid (show (attackL ⟨S, TT, dry0⟩ t).length ≤ 100 from by
    have h1 := selP_len S (atkB TT t) (crsL S)
    have h2 := HNS.out.len
    have h3 : (strL S (fieldL S [])).length ≤ S.objs.length := by
      unfold strL
      rw [List.length_map]
      refine Nat.le_trans (List.length_filter_le _ _) (Nat.le_trans (selO_len _ _ _) ?_)
      have hk : okK S.seats 0 3 := ⟨by rw [HNS.out.seats]; decide, by decide, by decide, fun _ => rfl⟩
      refine nodup_len S.objs.length _ (HNS.out.wf.nodup 0 3 hk) (fun x hx => ?_)
      obtain ⟨k, hk2, rfl, _⟩ := (HNS.out.wf.mem 0 3 hk x).1 hx
      omega
    unfold crsL at h1
    rw [List.length_map] at h1
    show (selP S (atkB TT t) ((strL S (fieldL S [])).map Prod.fst)).length ≤ 100
    omega)
  have HPL := Lib.hid (plan_any (HG3.out.later hm3) (t : Int) HAL.out)
  dsimp only at HPL
  have HMP := Lib.hid (fun x hx => sums_hit (t := (t : Int)) (x := x) HG3.out HNS.out hl20 (by omega) hx)
  have HPLE := Lib.hid (show (planL ⟨S, TT, dry0⟩ t).length ≤ 1000000 from by
    have h1 := planR_len HG3.out (t : Int) (attackL ⟨S, TT, dry0⟩ t)
    have h2 := HAL.out
    have h3 : (planL ⟨S, TT, dry0⟩ t).length ≤ (planR ⟨S, TT, dry0⟩ (t : Int) (attackL ⟨S, TT, dry0⟩ t)).length := List.length_filter_le _ _
    omega)
  have HSB := Lib.hid (fun k x => sumH_bound ((planL ⟨S, TT, dry0⟩ t).take k) x (fun h hh => by have := plan_bound _ _ h (List.mem_of_mem_take hh); omega))
  have HSU := Lib.hid (fun x (hx : x ∈ attackL ⟨S, TT, dry0⟩ t) (hb : (objI S x).block = 0) => plan_sum (B := ⟨S, TT, dry0⟩) HNS.out.wf (by have := HNS.out.seats; dsimp only; omega) hx hb)
  obtain ⟨PL, hPL⟩ : ∃ PL, planL ⟨S, TT, dry0⟩ (t : Int) = PL := ⟨_, rfl⟩
  rw [hPL] at HPL HPLE
  simp only [hPL] at HMP HSB HSU
  have hpll := HPLE.out
  clear hlm hr9 hma hmb hm3 hW5 hmbq hPL
  go_wp2_with fail
  refine HPL.out.mono ?_
  rintro e w6 ⟨pv, rfl, hpv, _, hb6⟩
  have HPV := Lib.hid hpv
  have HB6 := Lib.hid (stepB HB5.out hb6)
  have HR69 := Lib.hid ((hb6.block _ (Crd.lt_of_row HR59.out)).trans HR59.out)
  have HLM6 := Lib.hid (HLM.out.later hb6)
  obtain ⟨pa, pc, rfl⟩ := hpv.form
  have HTT := Lib.hid (neg_wrap (t := (t : Int)) (by omega) (by omega))
  clear hpv hb6 HPL HLM HR59 HB5 z7 hm1 hm2 hNZ hNZ2
  dsimp only
  go_wp2
  go_loopw [34] (fun i wr => ∃ k : Nat, k ≤ PL.length ∧ i = .int .i64 k ∧ Hid (SumMap wr mb k (sumH (PL.take k))) ∧ Hid (wr.heap[mb + 1]? = some (.cells #[.map (some mb)] 48 (0, 0))) ∧ Hid (HitsAt wr (.slice pa PL.length pc) PL) ∧ Hid (Below w4.heap.size w4 wr)) (fun i _ => PL.length - (intOf i).toNat)
  case atStart => exact ⟨0, Nat.zero_le _, rfl, Lib.hid (by rw [List.take_zero]; exact HLM6.out), HR69, HPV, HB6⟩
  case round =>
    obtain ⟨k, hk, rfl, HSM, HRM, HPR, HBR⟩ := hrel
    by_cases hlt : k < PL.length
    · obtain ⟨hb, hoff, rfl, x0, x1, x2⟩ := HPR.out.at k hlt
      obtain ⟨kx, hkx, hxx, hk256, hz1, hz9, hAB, hY⟩ := HMP.out PL[k] (List.getElem_mem hlt)
      have hTK := fun y => sumH_take (l := PL) hlt y
      have hS0 := HSB.out k PL[k].x
      have hkm : k < maxLen := Nat.lt_of_lt_of_le hlt (Nat.le_trans hpll (by decide))
      have hkl : (PL.take k).length ≤ k := by rw [List.length_take]; exact Nat.min_le_left _ _
      have dk : decide ((k : Int) < PL.length) = true := decide_eq_true (Int.ofNat_lt.2 hlt)
      obtain ⟨h0, hh0⟩ : ∃ h0, PL[k] = h0 := ⟨_, rfl⟩
      simp only [hh0] at x0 x1 x2 hxx hz1 hz9 hAB hY hTK hS0
      clear hh0
      obtain ⟨x, y, z⟩ := h0
      dsimp only at x0 x1 x2 hxx hz1 hz9 hAB hY hTK hS0
      subst hxx
      obtain ⟨s, hs⟩ : ∃ s, sumH (PL.take k) ((kx : Int) + 1) = s := ⟨_, rfl⟩
      rw [hs] at hS0
      obtain ⟨hw1, hw2, hlit⟩ := sums_wrap (k := (PL.take k).length) hS0.1 hS0.2 hz1 hz9 (Nat.le_trans hkl (Nat.le_trans hk hpll))
      have hba := below_new wr (.cells #[.int .i64 ((kx : Int) + 1), .int .i64 y, .int .i64 z] 52)
      have hrA := heap_alloc_new wr (.cells #[.int .i64 ((kx : Int) + 1), .int .i64 y, .int .i64 z] 52)
      obtain ⟨WA, hWA⟩ : ∃ WA, wr.alloc (.cells #[.int .i64 ((kx : Int) + 1), .int .i64 y, .int .i64 z] 52) = WA := ⟨_, rfl⟩
      rw [hWA] at hba hrA
      have hlk := (HSM.out.later hba).look (litC kx hk256)
      rw [hs] at hlk
      obtain ⟨w7, hrun, hsm7, hgr7⟩ := (HSM.out.later hba).put hkm (litC kx hk256) hlit
      obtain ⟨ob, hob, hobc⟩ := (HSM.out.later hba).obj
      have hbA := stepB HBR.out hba
      have hmbw := HMB.out
      have HB7 := Lib.hid (show Below w4.heap.size w4 w7 from grown_of hbA hgr7 (fun j e => by cases e; exact Nat.le_of_eq hmbw))
      have HP7 := Lib.hid ((HPR.out.later hba).grownM hgr7 hob hobc)
      have hmlt : mb + 1 < WA.heap.size := Nat.lt_of_lt_of_le (Crd.lt_of_row HRM.out) hba.size
      have HRM7 := Lib.hid (show w7.heap[mb + 1]? = some (.cells #[.map (some mb)] 48 (0, 0)) from (hgr7.block _ hmlt (fun e => by have := Option.some.inj e; omega)).trans ((hba.block _ (Crd.lt_of_row HRM.out)).trans HRM.out))
      have hmw : mb < wr.heap.size := Nat.lt_of_succ_lt (Crd.lt_of_row HRM.out)
      have HR7 := Lib.hid (show w7.heap[wr.heap.size]? = some (.cells #[.int .i64 ((kx : Int) + 1), .int .i64 y, .int .i64 z] 52 (0, 0)) from (hgr7.block _ (Crd.lt_of_row hrA) (fun e => by have := Option.some.inj e; omega)).trans hrA)
      have HSM7 := Lib.hid (show SumMap w7 mb (k + 1) (sumH (PL.take (k + 1))) from by
        have e : (fun v => if v = (kx : Int) + 1 then s + z else sumH (PL.take k) v) = sumH (PL.take (k + 1)) := by
          funext v
          rw [hTK v]
          by_cases hv : v = (kx : Int) + 1
          · rw [if_pos hv, if_pos hv.symm, hv, hs]
          · rw [if_neg hv, if_neg (fun h => hv h.symm)]
            exact (Int.add_zero _).symm
        rw [← e]
        exact hsm7)
      have z3 := cell_of_row WA q 0 _ _ _ ((hbA.block _ (Crd.lt_of_row HR31.out)).trans HR31.out)
      have z9 := cell_of_row WA (mb + 1) 0 _ _ _ ((hba.block _ (Crd.lt_of_row HRM.out)).trans HRM.out)
      have a0 := cell_of_row WA wr.heap.size 0 _ _ _ hrA
      have a1 := cell_of_row WA wr.heap.size 1 _ _ _ hrA
      have a2 := cell_of_row WA wr.heap.size 2 _ _ _ hrA
      simp only [List.getElem?_toArray, List.getElem?_cons_succ, List.getElem?_cons_zero] at z3 z9 a0 a1 a2
      have dz : decide (z < 1) = false := decide_eq_false (Int.not_lt.2 hz1)
      have dx : decide ((kx : Int) + 1 < 1) = false := decide_eq_false (by omega)
      have dl : decide ((l.length : Int) < (kx : Int) + 1) = false := decide_eq_false (by omega)
      have b3 := cell_of_row w7 q 0 _ _ _ ((HB7.out.block _ (Crd.lt_of_row HR31.out)).trans HR31.out)
      have c0 := cell_of_row w7 wr.heap.size 0 _ _ _ HR7.out
      simp only [List.getElem?_toArray, List.getElem?_cons_zero] at b3 c0
      have hmans := HV.out.later (stepB HB3.out HB7.out)
      obtain ⟨ab, off, rfl, t0, t1, t2, t3, t4, t5, t6, t7, t8⟩ := hmans.at kx hkx
      have HMS := Lib.hid hmans
      obtain ⟨m, hm⟩ : ∃ m, l[kx] = m := ⟨_, rfl⟩
      simp only [hm] at hAB hY t0 t1 t2 t3 t4 t5 t6 t7 t8
      have hwc := wrapC kx hk256
      have hwd := wrapD kx hk256
      have hkxl : (kx : Int) < l.length := Int.ofNat_lt.2 hkx
      have hkx0 : (0 : Int) ≤ kx := Int.natCast_nonneg _
      obtain ⟨m0, m1, m2, m3, m4, m5, m6, m7, m8⟩ := m
      dsimp only at hAB hY t0 t1 t2 t3 t4 t5 t6 t7 t8
      have HAB := Lib.hid hAB
      have HY := Lib.hid hY
      obtain ⟨qh, hqh⟩ : ∃ qh, wr.heap.size = qh := ⟨_, rfl⟩
      rw [hqh] at a0 a1 a2 c0 HR7
      clear hm hmans hAB hY hs hS0 hTK hba hrA hsm7 hgr7 hob hobc hbA hmlt hmw hlit
      go_upto_region 15 with fail
      clear hWA hqh z3 z9 a0 a1 a2 b3 c0 hlk hrun t0 t1 t2 t3 t4 t5 t6 t7 t8 x0 x1 x2
      have hbm := below_new w7 (.cells #[.int .i64 m0, .int .i64 m1, .int .i64 m2, .int .i64 m3, .int .i64 m4, .int .i64 m5, .bool m6, .bool m7, .bool m8] 42)
      have hrm := heap_alloc_new w7 (.cells #[.int .i64 m0, .int .i64 m1, .int .i64 m2, .int .i64 m3, .int .i64 m4, .int .i64 m5, .bool m6, .bool m7, .bool m8] 42)
      obtain ⟨WM, hWM⟩ : ∃ WM, w7.alloc (.cells #[.int .i64 m0, .int .i64 m1, .int .i64 m2, .int .i64 m3, .int .i64 m4, .int .i64 m5, .bool m6, .bool m7, .bool m8] 42) = WM := ⟨_, rfl⟩
      rw [hWM] at hbm hrm ⊢
      obtain ⟨qm, hqm⟩ : ∃ qm, w7.heap.size = qm := ⟨_, rfl⟩
      rw [hqm] at hrm ⊢
      have HBM := Lib.hid (stepB HB7.out hbm)
      have HSMD := Lib.hid (fun d => Lib.hid ((HSM7.out.later hbm).later (below_drewN (Below.refl _ WM) d)))
      have HRMD := Lib.hid (fun d => Lib.hid (show (WM.drewN d).heap[mb + 1]? = some (.cells #[.map (some mb)] 48 (0, 0)) from (hbm.block _ (Crd.lt_of_row HRM7.out)).trans HRM7.out))
      have HPD := Lib.hid (fun d => Lib.hid ((HP7.out.later hbm).later (below_drewN (Below.refl _ WM) d)))
      have HBD := Lib.hid (fun d => Lib.hid (below_drewN HBM.out d))
      have m8c := cell_of_row WM qm 8 _ _ _ hrm
      have m5c := cell_of_row WM qm 5 _ _ _ hrm
      have hr7 := (hbm.block _ (Crd.lt_of_row HR7.out)).trans HR7.out
      have y1 := cell_of_row WM qh 1 _ _ _ hr7
      have y0 := cell_of_row WM qh 0 _ _ _ hr7
      have l3 := cell_of_row WM q 0 _ _ _ ((HBM.out.block _ (Crd.lt_of_row HR31.out)).trans HR31.out)
      have q7c := cell_of_row WM q7 0 _ _ _ ((HBM.out.block _ (Crd.lt_of_row HR37.out)).trans HR37.out)
      simp only [List.getElem?_toArray, List.getElem?_cons_succ, List.getElem?_cons_zero] at m8c m5c y1 y0 l3 q7c
      have cT := (HG3.out.later HBM.out).cells.2.1
      dsimp only at cT
      have HMW := Lib.hid (HMS.out.later hbm)
      have HNX := Lib.hid (fun (d : Nat) => tnext_any ((HG3.out.later HBM.out).later (below_drewN (Below.refl _ WM) d)).tm (t : Int))
      dsimp only at HNX
      obtain ⟨hn1, hn2⟩ := HTT.out
      clear hbm hrm hWM hqm hr7
      rcases HAB.out with rfl | ⟨rfl, hm5⟩
      · rcases HY.out with ⟨j, hj, rfl, hj256, hyt, hbl | ⟨hbl, hmy⟩⟩ | ⟨hy1, hyt | ⟨rfl, hnx⟩⟩
        · obtain ⟨ab', off', hab, s0, s1, s2, s3, s4, s5, s6, s7, s8⟩ := HMW.out.at j hj
          injection hab with hab
          injection hab with hab1 hab2 _
          subst hab1 hab2
          have hjc := wrapC j hj256
          have hjd := wrapD j hj256
          have hjl : (j : Int) < l.length := Int.ofNat_lt.2 hj
          have hj0 : (0 : Int) ≤ j := Int.natCast_nonneg _
          have dge : decide ((1 : Int) ≤ (j : Int) + 1) = true := decide_eq_true (by omega)
          have dyt : decide ((j : Int) + 1 = -1 - (t : Int)) = false := decide_eq_false hyt
          have eyt : ((j : Int) + 1 == -1 - (t : Int)) = false := beq_eq_false_iff_ne.2 hyt
          rw [hbl] at s5
          clear s0 s1 s2 s3 s4 s6 s7 s8
          go_quiet ((go_at_call 17; exact Calls.quiet_of_same ((HNX.out _).mono fun _ _ ⟨he, hw⟩ => ⟨he, hw⟩)))
          obtain ⟨dq, hdq⟩ : ∃ dq : Nat, dq = dq := ⟨0, rfl⟩
          go_wp2
          go_roundw
          case rel => exact ⟨k + 1, Nat.succ_le_of_lt hlt, by go_num, HSMD.out _, HRMD.out _, HPD.out _, HBD.out _⟩
          case measure => simp [intOf]; omega
        · obtain ⟨ab', off', hab, s0, s1, s2, s3, s4, s5, s6, s7, s8⟩ := HMW.out.at j hj
          injection hab with hab
          injection hab with hab1 hab2 _
          subst hab1 hab2
          have hjc := wrapC j hj256
          have hjd := wrapD j hj256
          have hjl : (j : Int) < l.length := Int.ofNat_lt.2 hj
          have hj0 : (0 : Int) ≤ j := Int.natCast_nonneg _
          have dge : decide ((1 : Int) ≤ (j : Int) + 1) = true := decide_eq_true (by omega)
          have dyt : decide ((j : Int) + 1 = -1 - (t : Int)) = false := decide_eq_false hyt
          have eyt : ((j : Int) + 1 == -1 - (t : Int)) = false := beq_eq_false_iff_ne.2 hyt
          obtain ⟨bj, hbj⟩ : ∃ bj, l[j].block = bj := ⟨_, rfl⟩
          rw [hbj] at s5 hbl
          have db : decide (bj = (kx : Int) + 1) = false := decide_eq_false hbl
          have eb : (bj == (kx : Int) + 1) = false := beq_eq_false_iff_ne.2 hbl
          have nb : (bj != (kx : Int) + 1) = true := bne_iff_ne.2 hbl
          have njj : ((j : Int) + 1 != (j : Int) + 1) = false := by simp
          have ejj : ((j : Int) + 1 == (j : Int) + 1) = true := beq_self_eq_true _
          subst hmy
          clear s0 s1 s2 s3 s4 s6 s7 s8 hbj
          go_quiet ((go_at_call 17; exact Calls.quiet_of_same ((HNX.out _).mono fun _ _ ⟨he, hw⟩ => ⟨he, hw⟩)))
          obtain ⟨dq, hdq⟩ : ∃ dq : Nat, dq = dq := ⟨0, rfl⟩
          go_wp2
          go_roundw
          case rel => exact ⟨k + 1, Nat.succ_le_of_lt hlt, by go_num, HSMD.out _, HRMD.out _, HPD.out _, HBD.out _⟩
          case measure => simp [intOf]; omega
        · have dge : decide ((1 : Int) ≤ y) = false := decide_eq_false (Int.not_le.2 hy1)
          have dyt : decide (y = -1 - (t : Int)) = false := decide_eq_false hyt
          have eyt : (y == -1 - (t : Int)) = false := beq_eq_false_iff_ne.2 hyt
          go_quiet ((go_at_call 17; exact Calls.quiet_of_same ((HNX.out _).mono fun _ _ ⟨he, hw⟩ => ⟨he, hw⟩)))
          obtain ⟨dq, hdq⟩ : ∃ dq : Nat, dq = dq := ⟨0, rfl⟩
          go_wp2
          go_roundw
          case rel => exact ⟨k + 1, Nat.succ_le_of_lt hlt, by go_num, HSMD.out _, HRMD.out _, HPD.out _, HBD.out _⟩
          case measure => simp [intOf]; omega
        · have dge : decide ((1 : Int) ≤ -1 - (t : Int)) = false := decide_eq_false (Int.not_le.2 hy1)
          simp only [hnx] at HNX
          go_quiet ((go_at_call 17; exact Calls.quiet_of_same ((HNX.out _).mono fun _ _ ⟨he, hw⟩ => ⟨he, hw⟩)))
          obtain ⟨dq, hdq⟩ : ∃ dq : Nat, dq = dq := ⟨0, rfl⟩
          go_wp2
          go_roundw
          case rel => exact ⟨k + 1, Nat.succ_le_of_lt hlt, by go_num, HSMD.out _, HRMD.out _, HPD.out _, HBD.out _⟩
          case measure => simp [intOf]; omega
      · have d5 : decide (m5 = 0) = false := decide_eq_false hm5
        have e5 : (m5 == 0) = false := beq_eq_false_iff_ne.2 hm5
        rcases HY.out with ⟨j, hj, rfl, hj256, hyt, hbl | ⟨hbl, hmy⟩⟩ | ⟨hy1, hyt | ⟨rfl, hnx⟩⟩
        · obtain ⟨ab', off', hab, s0, s1, s2, s3, s4, s5, s6, s7, s8⟩ := HMW.out.at j hj
          injection hab with hab
          injection hab with hab1 hab2 _
          subst hab1 hab2
          have hjc := wrapC j hj256
          have hjd := wrapD j hj256
          have hjl : (j : Int) < l.length := Int.ofNat_lt.2 hj
          have hj0 : (0 : Int) ≤ j := Int.natCast_nonneg _
          have dge : decide ((1 : Int) ≤ (j : Int) + 1) = true := decide_eq_true (by omega)
          have dyt : decide ((j : Int) + 1 = -1 - (t : Int)) = false := decide_eq_false hyt
          have eyt : ((j : Int) + 1 == -1 - (t : Int)) = false := beq_eq_false_iff_ne.2 hyt
          rw [hbl] at s5
          clear s0 s1 s2 s3 s4 s6 s7 s8
          go_quiet ((go_at_call 17; exact Calls.quiet_of_same ((HNX.out _).mono fun _ _ ⟨he, hw⟩ => ⟨he, hw⟩)))
          obtain ⟨dq, hdq⟩ : ∃ dq : Nat, dq = dq := ⟨0, rfl⟩
          go_wp2
          go_roundw
          case rel => exact ⟨k + 1, Nat.succ_le_of_lt hlt, by go_num, HSMD.out _, HRMD.out _, HPD.out _, HBD.out _⟩
          case measure => simp [intOf]; omega
        · obtain ⟨ab', off', hab, s0, s1, s2, s3, s4, s5, s6, s7, s8⟩ := HMW.out.at j hj
          injection hab with hab
          injection hab with hab1 hab2 _
          subst hab1 hab2
          have hjc := wrapC j hj256
          have hjd := wrapD j hj256
          have hjl : (j : Int) < l.length := Int.ofNat_lt.2 hj
          have hj0 : (0 : Int) ≤ j := Int.natCast_nonneg _
          have dge : decide ((1 : Int) ≤ (j : Int) + 1) = true := decide_eq_true (by omega)
          have dyt : decide ((j : Int) + 1 = -1 - (t : Int)) = false := decide_eq_false hyt
          have eyt : ((j : Int) + 1 == -1 - (t : Int)) = false := beq_eq_false_iff_ne.2 hyt
          obtain ⟨bj, hbj⟩ : ∃ bj, l[j].block = bj := ⟨_, rfl⟩
          rw [hbj] at s5 hbl
          have db : decide (bj = (kx : Int) + 1) = false := decide_eq_false hbl
          have eb : (bj == (kx : Int) + 1) = false := beq_eq_false_iff_ne.2 hbl
          have nb : (bj != (kx : Int) + 1) = true := bne_iff_ne.2 hbl
          have njj : ((j : Int) + 1 != (j : Int) + 1) = false := by simp
          have ejj : ((j : Int) + 1 == (j : Int) + 1) = true := beq_self_eq_true _
          subst hmy
          clear s0 s1 s2 s3 s4 s6 s7 s8 hbj
          go_quiet ((go_at_call 17; exact Calls.quiet_of_same ((HNX.out _).mono fun _ _ ⟨he, hw⟩ => ⟨he, hw⟩)))
          obtain ⟨dq, hdq⟩ : ∃ dq : Nat, dq = dq := ⟨0, rfl⟩
          go_wp2
          go_roundw
          case rel => exact ⟨k + 1, Nat.succ_le_of_lt hlt, by go_num, HSMD.out _, HRMD.out _, HPD.out _, HBD.out _⟩
          case measure => simp [intOf]; omega
        · have dge : decide ((1 : Int) ≤ y) = false := decide_eq_false (Int.not_le.2 hy1)
          have dyt : decide (y = -1 - (t : Int)) = false := decide_eq_false hyt
          have eyt : (y == -1 - (t : Int)) = false := beq_eq_false_iff_ne.2 hyt
          go_quiet ((go_at_call 17; exact Calls.quiet_of_same ((HNX.out _).mono fun _ _ ⟨he, hw⟩ => ⟨he, hw⟩)))
          obtain ⟨dq, hdq⟩ : ∃ dq : Nat, dq = dq := ⟨0, rfl⟩
          go_wp2
          go_roundw
          case rel => exact ⟨k + 1, Nat.succ_le_of_lt hlt, by go_num, HSMD.out _, HRMD.out _, HPD.out _, HBD.out _⟩
          case measure => simp [intOf]; omega
        · have dge : decide ((1 : Int) ≤ -1 - (t : Int)) = false := decide_eq_false (Int.not_le.2 hy1)
          simp only [hnx] at HNX
          go_quiet ((go_at_call 17; exact Calls.quiet_of_same ((HNX.out _).mono fun _ _ ⟨he, hw⟩ => ⟨he, hw⟩)))
          obtain ⟨dq, hdq⟩ : ∃ dq : Nat, dq = dq := ⟨0, rfl⟩
          go_wp2
          go_roundw
          case rel => exact ⟨k + 1, Nat.succ_le_of_lt hlt, by go_num, HSMD.out _, HRMD.out _, HPD.out _, HBD.out _⟩
          case measure => simp [intOf]; omega
    · obtain rfl : k = PL.length := by omega
      have dk : decide ((PL.length : Int) < PL.length) = false := decide_eq_false (by omega)
      have hsm := HSM.out
      rw [List.take_length] at hsm
      have HSM9 := Lib.hid hsm
      obtain ⟨w9, hw9⟩ : ∃ w9, wr = w9 := ⟨_, rfl⟩
      subst hw9
      have z7 := cell_of_row wr q7 0 _ _ _ ((HBR.out.block _ (Crd.lt_of_row HR37.out)).trans HR37.out)
      simp only [List.getElem?_toArray, List.getElem?_cons_zero] at z7
      have HATK := Lib.hid (attackers_any qB (t : Int) wr)
      have HBL := Lib.hid HBR.out.size
      clear hsm HSM HPR HMP HSB
      go_wp2_with fail
      refine HATK.out.mono ?_
      rintro e w10 ⟨rfl, j1, j2, hb10⟩
      have HB10 := Lib.hid hb10
      have HB4 := Lib.hid (stepB HBR.out hb10)
      obtain ⟨q10, hq10⟩ : ∃ q10, wr.heap.size = q10 := ⟨_, rfl⟩
      have HQ10 := Lib.hid hq10
      rw [hq10] at j1 j2
      have HSEQ := Lib.hid (attk_seq 8 (by omega) (w := w10) (fun _ => False) (fun _ => False) (fun _ e => e.elim) j1 j2 (HG3.out.later HB4.out) (fun c hc => hc.elim))
      have HI0 : Hid (Below w10.heap.size w10 w10) := Lib.hid (Below.refl _ _)
      have HSM10 := Lib.hid (HSM9.out.later hb10)
      have HRM10 := Lib.hid ((hb10.block _ (Crd.lt_of_row HRM.out)).trans HRM.out)
      clear j1 j2 hb10 z7 HATK
      go_wp2_with fail
      try simp only [hq10]
      clear hq10
      refine (wpIn_wide (n := 9)).1 ?_
      refine range_world3 rfl (by omega) (I := fun _ W => Below w10.heap.size w10 W) (Ix := fun _ _ _ => False) (gf := 41) (lb := _) rfl trivial (fun _ _ => by kernel_rfl) HSEQ.out KpP.trans (fun W' o o' ho hc _ => KpP.put o' (.inr rfl) ho hc) (fun W W' hb => KpP.of_below _ _ hb) (Below.refl _ _) (fun _ => rfl)
        (blowI_own (Nat.le_refl _)) (fun c s A B row hs hg hr => hs) (fun s A B row hs hg hr => hs) (fun s A B row hs hg hr => hs) HI0.out ?rngr ?rngd ?rngs
      case rngs =>
        rintro D c pre W hD hS hI hK
        exact hI.elim
      case rngr =>
        rintro pre x W K hI hT hsz hK
        have hxm := hT.subset (show x ∈ pre ++ [x] by simp)
        obtain ⟨_, kx, hkx, rfl, ho⟩ := HNS.out.here (attack_mem hxm).1
        have hsu := HSU.out _ hxm
        rw [ho] at hsu
        have hk256 : kx < 256 := Nat.lt_of_lt_of_le hkx (Nat.le_trans hl20 (by decide))
        have hwc := wrapC kx hk256
        have hwd := wrapD kx hk256
        have hwe := wrapE kx hk256
        have hwf := wrapF kx hk256
        have hkxl : (kx : Int) < l.length := Int.ofNat_lt.2 hkx
        have hkx0 : (0 : Int) ≤ kx := Int.natCast_nonneg _
        have HKX := Lib.hid (show (manO kx l[kx]).block = 0 → sumH PL ((kx : Int) + 1) = powS S ((kx : Int) + 1) from hsu)
        have HK := Lib.hid hK
        clear hK hT hI hxm ho hsu
        simp only [encF]
        simp
        gi_wp2
        refine HK.out _ _ (Below.refl _ _) ?_
        clear HK
        intro Wb hsz2 hrest hkw hbw
        have HKB := Lib.hid hkw
        have HBWb := Lib.hid hbw
        have hb4 := stepB HB4.out hbw
        have z3 := cell_of_row Wb q 0 _ _ _ ((hb4.block _ (Crd.lt_of_row HR31.out)).trans HR31.out)
        have z7 := cell_of_row Wb q7 0 _ _ _ ((hb4.block _ (Crd.lt_of_row HR37.out)).trans HR37.out)
        have z9 := cell_of_row Wb (mb + 1) 0 _ _ _ ((hbw.block _ (Crd.lt_of_row HRM10.out)).trans HRM10.out)
        simp only [List.getElem?_toArray, List.getElem?_cons_zero] at z3 z7 z9
        have zB := (HG3.out.later hb4).cells.1
        dsimp only at zB
        have hmp := HSM10.out.later hbw
        obtain ⟨ab, off, rfl, t0, t1, t2, t3, t4, t5, t6, t7, t8⟩ := (HV.out.later (stepB HB3.out hb4)).at kx hkx
        have HPW := Lib.hid (fun (w' : World) (hb : Below Wb.heap.size Wb w') => power_any (HG3.out.later (stepB hb4 hb)).st HG3.out.wf (by have := HG3.out.len; omega) ((kx : Int) + 1))
        dsimp only at HPW
        obtain ⟨pw, hpw⟩ : ∃ pw, sumH PL ((kx : Int) + 1) = pw := ⟨_, rfl⟩
        have hkk : l[kx].block = (manO kx l[kx]).block := rfl
        obtain ⟨bk, hbk⟩ : ∃ bk, (manO kx l[kx]).block = bk := ⟨_, rfl⟩
        rw [hkk, hbk] at t5
        rw [hbk, hpw] at HKX
        have HSW := Lib.hid (fun (w' : World) (hb : Below Wb.heap.size Wb w') => show w'.cell? ⟨q, 0, none⟩ = some (.slice (some ⟨ab, off, none⟩) l.length vc) ∧ w'.cell? ⟨ab, off + kx * 9 + 5, none⟩ = some (.int .i64 bk) ∧ w'.cell? ⟨mb + 1, 0, none⟩ = some (.map (some mb)) ∧ w'.cell? ⟨q7, 0, none⟩ = some (.pointer (some ⟨qB, 0, none⟩)) ∧ w'.cell? ⟨qB, 0, none⟩ = some (.pointer (some ⟨bB, 0, none⟩)) ∧ (Instr.lookup 48 (.map (some mb)) (.int .i64 ((kx : Int) + 1)) false).run Tryz.prog w' = .ok (.int .i64 pw) w' from ⟨cell_stays hb z3, cell_stays hb t5, cell_stays hb z9, cell_stays hb z7, cell_stays hb zB, by rw [← hpw]; exact (hmp.later hb).look (litC kx hk256)⟩)
        clear hsz2 hrest hkw hbw hb4 z3 z7 z9 zB hmp t0 t1 t2 t3 t4 t5 t6 t7 t8 hkk hbk hpw
        gi_wp2_with fail
        by_cases hb0 : bk = 0
        · subst hb0
          rw [← HKX.out rfl] at HPW
          refine wpIn_region_any (by kernel_rfl) ?_
          change wpAnyIn _ _ _ _ _ _ _ _ _ (World.drew _)
          refine anyS.any (S := fun w' => w'.cell? ⟨q, 0, none⟩ = some (.slice (some ⟨ab, off, none⟩) l.length vc) ∧ w'.cell? ⟨ab, off + kx * 9 + 5, none⟩ = some (.int .i64 0) ∧ w'.cell? ⟨mb + 1, 0, none⟩ = some (.map (some mb)) ∧ w'.cell? ⟨q7, 0, none⟩ = some (.pointer (some ⟨qB, 0, none⟩)) ∧ w'.cell? ⟨qB, 0, none⟩ = some (.pointer (some ⟨bB, 0, none⟩)) ∧ (Instr.lookup 48 (.map (some mb)) (.int .i64 ((kx : Int) + 1)) false).run Tryz.prog w' = .ok (.int .i64 pw) w') ?_
          refine anyS_take (i := 0) (v := ?_) (by kernel_rfl) rfl (by kernel_rfl) (by kernel_rfl) (by kernel_rfl) (fun _ _ _ h => h) (by kernel_rfl) (fun _ => rfl) ?_ ?_
          rotate_left
          · intro w' hS
            obtain ⟨s1, s2, s3, s4, s5, s6⟩ := hS
            go_simp
            try with_reducible rfl
          refine anyS_take (i := 1) (v := ?_) (by kernel_rfl) rfl (by kernel_rfl) (by kernel_rfl) (by kernel_rfl) (fun _ _ _ h => h) (by kernel_rfl) (fun _ => rfl) ?_ ?_
          rotate_left
          · intro w' hS
            obtain ⟨s1, s2, s3, s4, s5, s6⟩ := hS
            go_simp
            try with_reducible rfl
          refine anyS_take (i := 2) (v := ?_) (by kernel_rfl) rfl (by kernel_rfl) (by kernel_rfl) (by kernel_rfl) (fun _ _ _ h => h) (by kernel_rfl) (fun _ => rfl) ?_ ?_
          rotate_left
          · intro w' hS
            obtain ⟨s1, s2, s3, s4, s5, s6⟩ := hS
            go_simp
            try with_reducible rfl
          refine anyS_take (i := 3) (v := ?_) (by kernel_rfl) rfl (by kernel_rfl) (by kernel_rfl) (by kernel_rfl) (fun _ _ _ h => h) (by kernel_rfl) (fun _ => rfl) ?_ ?_
          rotate_left
          · intro w' hS
            obtain ⟨s1, s2, s3, s4, s5, s6⟩ := hS
            go_simp
            try with_reducible rfl
          refine anyS_take (i := 4) (v := ?_) (by kernel_rfl) rfl (by kernel_rfl) (by kernel_rfl) (by kernel_rfl) (fun _ _ _ h => h) (by kernel_rfl) (fun _ => rfl) ?_ ?_
          rotate_left
          · intro w' hS
            obtain ⟨s1, s2, s3, s4, s5, s6⟩ := hS
            go_simp
            try with_reducible rfl
          refine anyS_take (i := 5) (v := ?_) (by kernel_rfl) rfl (by kernel_rfl) (by kernel_rfl) (by kernel_rfl) (fun _ _ _ h => h) (by kernel_rfl) (fun _ => rfl) ?_ ?_
          rotate_left
          · intro w' hS
            obtain ⟨s1, s2, s3, s4, s5, s6⟩ := hS
            go_simp
            try with_reducible rfl
          refine anyS_take (i := 6) (v := ?_) (by kernel_rfl) rfl (by kernel_rfl) (by kernel_rfl) (by kernel_rfl) (fun _ _ _ h => h) (by kernel_rfl) (fun _ => rfl) ?_ ?_
          rotate_left
          · intro w' hS
            obtain ⟨s1, s2, s3, s4, s5, s6⟩ := hS
            go_simp
            try with_reducible rfl
          refine anyS_take (i := 7) (v := ?_) (by kernel_rfl) rfl (by kernel_rfl) (by kernel_rfl) (by kernel_rfl) (fun _ _ _ h => h) (by kernel_rfl) (fun _ => rfl) ?_ ?_
          rotate_left
          · intro w' hS
            obtain ⟨s1, s2, s3, s4, s5, s6⟩ := hS
            go_simp
            try with_reducible rfl
          refine anyS_take (i := 8) (v := ?_) (by kernel_rfl) rfl (by kernel_rfl) (by kernel_rfl) (by kernel_rfl) (fun _ _ _ h => h) (by kernel_rfl) (fun _ => rfl) ?_ ?_
          rotate_left
          · intro w' hS
            obtain ⟨s1, s2, s3, s4, s5, s6⟩ := hS
            go_simp
            try with_reducible rfl
          refine anyS_take (i := 9) (v := ?_) (by kernel_rfl) rfl (by kernel_rfl) (by kernel_rfl) (by kernel_rfl) (fun _ _ _ h => h) (by kernel_rfl) (fun _ => rfl) ?_ ?_
          rotate_left
          · intro w' hS
            obtain ⟨s1, s2, s3, s4, s5, s6⟩ := hS
            go_simp
            try with_reducible rfl
          refine anyS_take (i := 10) (v := ?_) (by kernel_rfl) rfl (by kernel_rfl) (by kernel_rfl) (by kernel_rfl) (fun _ _ _ h => h) (by kernel_rfl) (fun _ => rfl) ?_ ?_
          rotate_left
          · intro w' hS
            obtain ⟨s1, s2, s3, s4, s5, s6⟩ := hS
            go_simp
            try with_reducible rfl
          refine anyS_take (i := 11) (v := ?_) (by kernel_rfl) rfl (by kernel_rfl) (by kernel_rfl) (by kernel_rfl) (fun _ _ _ h => h) (by kernel_rfl) (fun _ => rfl) ?_ ?_
          rotate_left
          · intro w' hS
            obtain ⟨s1, s2, s3, s4, s5, s6⟩ := hS
            go_simp
            try with_reducible rfl
          refine anyS_take (i := 12) (v := ?_) (by kernel_rfl) rfl (by kernel_rfl) (by kernel_rfl) (by kernel_rfl) (fun _ _ _ h => h) (by kernel_rfl) (fun _ => rfl) ?_ ?_
          rotate_left
          · intro w' hS
            obtain ⟨s1, s2, s3, s4, s5, s6⟩ := hS
            go_simp
            try with_reducible rfl
          refine anyS_take (i := 13) (v := ?_) (by kernel_rfl) rfl (by kernel_rfl) (by kernel_rfl) (by kernel_rfl) (fun _ _ _ h => h) (by kernel_rfl) (fun _ => rfl) ?_ ?_
          rotate_left
          · intro w' hS
            obtain ⟨s1, s2, s3, s4, s5, s6⟩ := hS
            go_simp
            try with_reducible rfl
          refine anyS_take (i := 14) (v := ?_) (by kernel_rfl) rfl (by kernel_rfl) (by kernel_rfl) (by kernel_rfl) (fun _ _ _ h => h) (by kernel_rfl) (fun _ => rfl) ?_ ?_
          rotate_left
          · intro w' hS
            obtain ⟨s1, s2, s3, s4, s5, s6⟩ := hS
            go_simp
            try with_reducible rfl
          refine anyS_take (i := 15) (v := ?_) (by kernel_rfl) rfl (by kernel_rfl) (by kernel_rfl) (by kernel_rfl) (fun _ _ _ h => h) (by kernel_rfl) (fun _ => rfl) ?_ ?_
          rotate_left
          · intro w' hS
            obtain ⟨s1, s2, s3, s4, s5, s6⟩ := hS
            go_simp
            try with_reducible rfl
          refine anyS_one (i := 16) (by kernel_rfl) rfl (HSW.out _ (Below.refl _ _).drew) (fun K hK => ?_)
          go_simp
          gi_wp2_with ((refine ⟨trivial, ?_⟩; gi_at_call 19; refine CallsIn.mono (F := Fence.wide) (callsIn_wide.2 (HPW.out _ (Below.refl _ _).drew)) ?_; rintro e w11 ⟨rfl, hb11⟩; have HB11 := Lib.hid (stepB (Below.refl Wb.heap.size Wb).drew hb11); clear hb11))
          refine anyS_take (i := 17) (v := ?_) (by kernel_rfl) rfl (by kernel_rfl) (by kernel_rfl) (by kernel_rfl) (fun _ _ _ h => h) (by kernel_rfl) (fun _ => rfl) ?_ ?_
          rotate_left
          · intro w' hS
            obtain ⟨s1, s2, s3, s4, s5, s6⟩ := hS
            go_simp
            try with_reducible rfl
          refine anyS_take (i := 18) (v := ?_) (by kernel_rfl) rfl (by kernel_rfl) (by kernel_rfl) (by kernel_rfl) (fun _ _ _ h => h) (by kernel_rfl) (fun _ => rfl) ?_ ?_
          rotate_left
          · intro w' hS
            obtain ⟨s1, s2, s3, s4, s5, s6⟩ := hS
            go_simp
            try with_reducible rfl
          refine anyS_done (by kernel_rfl) (HSW.out _ HB11.out) ?_ _
          have HKW := Lib.hid (KpP.of_below (fun _ => False) (fun _ => False) HB11.out)
          gi_wp2
          exact ⟨HKW.out.from (fun k e => e.elim), (HKB.out.trans (HKW.out.mono (fun k e => e.elim))).mono (fun k e => e.elim False.elim id), stepB HBWb.out HB11.out⟩
        · have e0 : (bk == 0) = false := beq_eq_false_iff_ne.2 hb0
          have d0 : decide (bk = 0) = false := decide_eq_false hb0
          refine wpIn_region_any (by kernel_rfl) ?_
          change wpAnyIn _ _ _ _ _ _ _ _ _ (World.drew _)
          refine anyS.any (S := fun w' => w'.cell? ⟨q, 0, none⟩ = some (.slice (some ⟨ab, off, none⟩) l.length vc) ∧ w'.cell? ⟨ab, off + kx * 9 + 5, none⟩ = some (.int .i64 bk) ∧ w'.cell? ⟨mb + 1, 0, none⟩ = some (.map (some mb)) ∧ w'.cell? ⟨q7, 0, none⟩ = some (.pointer (some ⟨qB, 0, none⟩)) ∧ w'.cell? ⟨qB, 0, none⟩ = some (.pointer (some ⟨bB, 0, none⟩)) ∧ (Instr.lookup 48 (.map (some mb)) (.int .i64 ((kx : Int) + 1)) false).run Tryz.prog w' = .ok (.int .i64 pw) w') ?_
          refine anyS_take (i := 0) (v := ?_) (by kernel_rfl) rfl (by kernel_rfl) (by kernel_rfl) (by kernel_rfl) (fun _ _ _ h => h) (by kernel_rfl) (fun _ => rfl) ?_ ?_
          rotate_left
          · intro w' hS
            obtain ⟨s1, s2, s3, s4, s5, s6⟩ := hS
            go_simp
            try with_reducible rfl
          refine anyS_take (i := 1) (v := ?_) (by kernel_rfl) rfl (by kernel_rfl) (by kernel_rfl) (by kernel_rfl) (fun _ _ _ h => h) (by kernel_rfl) (fun _ => rfl) ?_ ?_
          rotate_left
          · intro w' hS
            obtain ⟨s1, s2, s3, s4, s5, s6⟩ := hS
            go_simp
            try with_reducible rfl
          refine anyS_take (i := 2) (v := ?_) (by kernel_rfl) rfl (by kernel_rfl) (by kernel_rfl) (by kernel_rfl) (fun _ _ _ h => h) (by kernel_rfl) (fun _ => rfl) ?_ ?_
          rotate_left
          · intro w' hS
            obtain ⟨s1, s2, s3, s4, s5, s6⟩ := hS
            go_simp
            try with_reducible rfl
          refine anyS_take (i := 3) (v := ?_) (by kernel_rfl) rfl (by kernel_rfl) (by kernel_rfl) (by kernel_rfl) (fun _ _ _ h => h) (by kernel_rfl) (fun _ => rfl) ?_ ?_
          rotate_left
          · intro w' hS
            obtain ⟨s1, s2, s3, s4, s5, s6⟩ := hS
            go_simp
            try with_reducible rfl
          refine anyS_take (i := 4) (v := ?_) (by kernel_rfl) rfl (by kernel_rfl) (by kernel_rfl) (by kernel_rfl) (fun _ _ _ h => h) (by kernel_rfl) (fun _ => rfl) ?_ ?_
          rotate_left
          · intro w' hS
            obtain ⟨s1, s2, s3, s4, s5, s6⟩ := hS
            go_simp
            try with_reducible rfl
          refine anyS_take (i := 5) (v := ?_) (by kernel_rfl) rfl (by kernel_rfl) (by kernel_rfl) (by kernel_rfl) (fun _ _ _ h => h) (by kernel_rfl) (fun _ => rfl) ?_ ?_
          rotate_left
          · intro w' hS
            obtain ⟨s1, s2, s3, s4, s5, s6⟩ := hS
            go_simp
            try with_reducible rfl
          refine anyS_take (i := 6) (v := ?_) (by kernel_rfl) rfl (by kernel_rfl) (by kernel_rfl) (by kernel_rfl) (fun _ _ _ h => h) (by kernel_rfl) (fun _ => rfl) ?_ ?_
          rotate_left
          · intro w' hS
            obtain ⟨s1, s2, s3, s4, s5, s6⟩ := hS
            go_simp
            try with_reducible rfl
          refine anyS_take (i := 7) (v := ?_) (by kernel_rfl) rfl (by kernel_rfl) (by kernel_rfl) (by kernel_rfl) (fun _ _ _ h => h) (by kernel_rfl) (fun _ => rfl) ?_ ?_
          rotate_left
          · intro w' hS
            obtain ⟨s1, s2, s3, s4, s5, s6⟩ := hS
            go_simp
            try with_reducible rfl
          refine anyS_skip (i := 8) (by kernel_rfl) rfl (by kernel_rfl) (by kernel_rfl) (by kernel_rfl) (fun _ _ _ h => h) (by kernel_rfl) (fun _ => by rfl) ?_
          refine anyS_skip (i := 9) (by kernel_rfl) rfl (by kernel_rfl) (by kernel_rfl) (by kernel_rfl) (fun _ _ _ h => h) (by kernel_rfl) (fun _ => by rfl) ?_
          refine anyS_skip (i := 10) (by kernel_rfl) rfl (by kernel_rfl) (by kernel_rfl) (by kernel_rfl) (fun _ _ _ h => h) (by kernel_rfl) (fun _ => by rfl) ?_
          refine anyS_skip (i := 11) (by kernel_rfl) rfl (by kernel_rfl) (by kernel_rfl) (by kernel_rfl) (fun _ _ _ h => h) (by kernel_rfl) (fun _ => by rfl) ?_
          refine anyS_skip (i := 12) (by kernel_rfl) rfl (by kernel_rfl) (by kernel_rfl) (by kernel_rfl) (fun _ _ _ h => h) (by kernel_rfl) (fun _ => by rfl) ?_
          refine anyS_skip (i := 13) (by kernel_rfl) rfl (by kernel_rfl) (by kernel_rfl) (by kernel_rfl) (fun _ _ _ h => h) (by kernel_rfl) (fun _ => by rfl) ?_
          refine anyS_skip (i := 14) (by kernel_rfl) rfl (by kernel_rfl) (by kernel_rfl) (by kernel_rfl) (fun _ _ _ h => h) (by kernel_rfl) (fun _ => by rfl) ?_
          refine anyS_skip (i := 15) (by kernel_rfl) rfl (by kernel_rfl) (by kernel_rfl) (by kernel_rfl) (fun _ _ _ h => h) (by kernel_rfl) (fun _ => by rfl) ?_
          refine anyS_one (i := 16) (by kernel_rfl) rfl (HSW.out _ (Below.refl _ _).drew) (fun K hK => ?_)
          go_simp
          refine ⟨trivial, hK _ _ ?_⟩
          clear hK K
          refine anyS_skip (i := 17) (by kernel_rfl) rfl (by kernel_rfl) (by kernel_rfl) (by kernel_rfl) (fun _ _ _ h => h) (by kernel_rfl) (fun _ => by rfl) ?_
          refine anyS_take (i := 18) (v := ?_) (by kernel_rfl) rfl (by kernel_rfl) (by kernel_rfl) (by kernel_rfl) (fun _ _ _ h => h) (by kernel_rfl) (fun _ => rfl) ?_ ?_
          rotate_left
          · intro w' hS
            obtain ⟨s1, s2, s3, s4, s5, s6⟩ := hS
            go_simp
            try with_reducible rfl
          have HB11 := Lib.hid ((Below.refl Wb.heap.size Wb).drew)
          refine anyS_done (by kernel_rfl) (HSW.out _ HB11.out) ?_ _
          have HKW := Lib.hid (KpP.of_below (fun _ => False) (fun _ => False) HB11.out)
          gi_wp2
          exact ⟨HKW.out.from (fun k e => e.elim), (HKB.out.trans (HKW.out.mono (fun k e => e.elim))).mono (fun k e => e.elim False.elim id), stepB HBWb.out HB11.out⟩
      case rngd =>
        rintro D xs W hD hS hbw hK
        have hbz := stepB HB4.out hbw
        have hr2 := (hbz.block _ (Crd.lt_of_row HR32.out)).trans HR32.out
        have c2 := cell_of_row W (q + 1) 0 _ _ _ hr2
        have f2 := frozen_of_row W (q + 1) 0 _ _ hr2
        simp only [List.getElem?_toArray, List.getElem?_cons_zero] at c2
        have HX := Lib.hid (show HdAt (W.setCell ⟨q + 1, 0, none⟩ (.bool true)) (q + 1) (.bool true) from HdAt.set ⟨_, hr2⟩ _)
        have HBE := Lib.hid (show Below w.heap.size w (W.setCell ⟨q + 1, 0, none⟩ (.bool true)) from (stepB (stepB HBB.out HB3.out) hbz).setCell (by have := HQ.out; show w.heap.size ≤ q + 1; omega) _)
        have HME := Lib.hid (show Marks w.heap.size (W.setCell ⟨q + 1, 0, none⟩ (.bool true)) [{ target := .collected D, args := #[] }] from
          (((Marks.none w.heap.size w10).cons hbw hD (Nat.le_trans (stepB (stepB HBB.out HB3.out) HB4.out).size hD) hK).setC hr2))
        clear hbw hK hS hD hbz hr2 HSEQ HI0
        go_wp2
        exact marks_leaveC HME.out HBE.out rfl rfl HX.out
end Go.Proofs.YtjgjhfeopmakaaaGreat
