/- The law DealPerms (layer 4), walked: for every number of items and every bound it returns true, and only new memory is made. -/
import Derived.Test.YtokjghfpdolojaaEx
import Derived.Test.YtokjghfpdolojaaEh
namespace Go.Proofs.Ytokjghfpdolojaa
open Go.RowKit
attribute [local go_sem] Oper.semAt_some

theorem places_succ (j : Nat) : placesL (j + 1) = placesL j ++ [(j : Int)] := by simp [placesL, List.range_succ]
theorem fact_bd : ∀ j, j < 6 → factN j ≤ 120 := by decide
theorem info_ints : (Try.prog.info? 22).map (fun i => (i.zero, i.size, i.bytes)) = some (some (.slice none 0 0), 1, 24) := by kernel_rfl
theorem own_lower {W : World} {b c : Nat} {t : TypeId} {v : Value} {k : Nat} {xs : List Value} (h : W.ownsRow b t 1 v k xs) (hbc : c ≤ b) : W.ownsRow c t 1 v k xs := by
  refine ⟨h.1, ?_⟩
  rcases h.2 with h2 | ⟨g, cap, cur, e, hb, r⟩
  · exact .inl h2
  · exact .inr ⟨g, cap, cur, e, by omega, r⟩
theorem own_raise {W V : World} {b c : Nat} {t : TypeId} {v : Value} {k m : Nat} {xs ys : List Value} (h : W.ownsRow b t 1 v k xs) (h' : V.ownsRow c t 1 v m ys) (hm : 0 < m) : W.ownsRow c t 1 v k xs := by
  refine ⟨h.1, ?_⟩
  rcases h'.2 with ⟨_, e0⟩ | ⟨g', cap', cur', e', hb', _⟩
  · omega
  · rcases h.2 with h2 | ⟨g, cap, cur, e, hb, r⟩
    · exact .inl h2
    · rw [e] at e'; injection e' with e' _ _; injection e' with e'; injection e' with e' _
      exact .inr ⟨g, cap, cur, e, by omega, r⟩
theorem pref_at {p q : List (List Int)} (h : p <+: q) {k : Nat} (hk : k < p.length) : q.getD k [] = p[k] := by
  obtain ⟨r, rfl⟩ := h
  rw [List.getD_eq_getElem?_getD, List.getElem?_append_left hk, List.getElem?_eq_getElem hk]; rfl
theorem drawsC_step {i : Nat} (c : Nat) (h : 1 < i) : drawsC i c = ((c % i : Nat) : Int) :: drawsC (i - 1) (c / i) := by
  obtain ⟨q, rfl⟩ : ∃ q, i = q + 2 := ⟨i - 2, by omega⟩
  rfl
theorem wf_small {x : Int} (h0 : 0 ≤ x) (h1 : x < 100000) : (Lit.int .i64 x).wf = true := by
  simp [Lit.wf, IntKind.min, IntKind.max, IntKind.signed, IntKind.bits]; omega
/-- What the loop over the orders holds: the box of what came, its row behind n₁. -/
def AllI (mo : Int) (s n₁ : Nat) (A : World) (pre : List PItem) (W : World) : Prop := (∃ v, Boxed W s 38 v ∧ W.ownsRow n₁ 22 1 v pre.length (pre.map PItem.val) ∧ True) ∧ Below s A W ∧ n₁ ≤ W.heap.size ∧ (pre.length : Int) ≤ mo
set_option maxHeartbeats 4000000 in
set_option maxRecDepth 100000 in
theorem perms_walk (n mo : Int) (w : World) (hn0 : 0 ≤ n) (hn1 : n < 256) (hm0 : 0 ≤ mo) (hm1 : mo < 256) :
    Calls Try.prog 5 #[.int .u8 n, .int .u8 mo] w fun e w' => e = .returned (.bool true) ∧ Below w.heap.size w w' := by
  obtain ⟨i0, hi, hz0, hz1, hz2⟩ := info_parts info_int
  obtain ⟨k, hk⟩ : ∃ k : Nat, n % 6 = (k : Int) := ⟨(n % 6).toNat, by omega⟩
  have hk6 : k < 6 := by omega
  have HK6 := Lib.hid hk6
  refine (callsIn_wide (n := 3)).1 ?_
  refine callsIn_of_wp_marks Try.func5 rfl trivial ?_ rfl
  simp only [Try.ntmps5, List.size_toArray, List.length_cons, List.length_nil, Nat.reduceAdd, Nat.reduceSub, Array.replicate_succ, Array.replicate_zero, List.push_toArray, List.append_toArray, List.nil_append, List.cons_append]
  gi_wp2_with fail
  refine ⟨trivial, (callsIn_wide.2 (awake4_any _)).mono ?_⟩
  rintro e w1 ⟨rfl, hb1⟩
  have HM1 := Lib.hid (cell_stays hb1 (show (w.alloc (.cells #[.int .u8 mo] 5)).cell? ⟨w.heap.size, 0, none⟩ = some (.int .u8 mo) by simp [go_sem]))
  have HW1 := Lib.hid (stepB (below_new w (.cells #[.int .u8 mo] 5)) hb1)
  clear hb1
  gi_wp2
  rw [hk]
  gi_loopw [6, 7, 8] (fun l m i wr => ∃ (j : Nat) (va : Option Addr) (vc : Nat), j ≤ k ∧ l = .slice va j vc ∧ i = .int .i64 j ∧ m = .int .i64 (factN j : Nat) ∧ Hid (wr.ownsRow w1.heap.size 3 1 l j (intsV (placesL j))) ∧ Hid (Below w1.heap.size w1 wr)) (fun _ _ i _ => k - (intOf i).toNat)
  case atStart => exact ⟨0, none, 0, Nat.zero_le _, rfl, rfl, rfl, Lib.hid (World.ownsRow_nil _ _ _ _), Lib.hid (Below.refl _ _)⟩
  case round =>
    obtain ⟨j, va, vc, hj, rfl, rfl, rfl, HO, HB⟩ := hrel
    by_cases hlt : j < k
    · have hf := fact_bd j (by omega)
      obtain ⟨f, hfq⟩ : ∃ f, factN j = f := ⟨_, rfl⟩
      rw [hfq] at hf ⊢
      have d2 : f * (j + 1) ≤ 720 := Nat.le_trans (Nat.mul_le_mul hf (show j + 1 ≤ 6 by omega)) (by omega)
      obtain ⟨q, hq⟩ : ∃ q, factN (j + 1) = q := ⟨_, rfl⟩
      have hq2 : f * (j + 1) = q := by rw [← hq, ← hfq]; rfl
      have d1 : (f : Int) * ((j : Int) + 1) = (q : Int) := by rw [← hq2]; push_cast; rfl
      have hmul : IntKind.i64.wrap ((f : Int) * ((j : Int) + 1)) = (q : Int) := by rw [d1]; exact IntWalk.i64_in _ (by omega)
      have HQ := Lib.hid hq
      clear hq hq2 d1 d2 hfq
      have hrow := HO.out
      have hB := HB.out
      gi_wp2_with (gi_at_builtin; refine wpListIn_append_own _ rfl _ _ 22 rfl w1.heap.size 3 i0 (.int .i64 0) 1 8 Try.underlying22 hi hz0 hz1 hz2 rfl (by decide) _ _ _ rfl (hrow.alloc _) ⟨wr.heap.size, 0, none⟩ 1 1 [.int .i64 (j : Int)] rfl rfl (cell_one_new _ _ _) (by simp [Value.oneCell']) (by unfold maxLen; omega) (by omega) (by have := hB.size; simp; omega) ?_; intro v' w5 hown' hgrow _; have HO5 := Lib.hid hown'; have HB5 := Lib.hid ((HB.out.alloc HB.out.size (.cells #[.int .i64 (j : Int)] 3)).grown hgrow (Nat.le_trans HB.out.size (by simp)) (fun g e => (World.ownsRow.lt (hrow.alloc (.cells #[.int .i64 (j : Int)] 3)) g e).1)); obtain ⟨g', cap', rfl⟩ := ownsRow_succ hown'; clear hown' hgrow)
      gi_wp2
      go_roundw
      case rel => exact ⟨j + 1, _, _, by omega, rfl, by go_num, by rw [HQ.out], Lib.hid (by rw [places_succ]; simpa [intsV] using HO5.out), HB5⟩
      case measure => simp [intOf]; omega
    · obtain rfl : j = k := by omega
      have HIL := Lib.hid (show IntsAt wr (.slice va j vc) (placesL j) from own_vals HO.out (by rw [intsV_len, placesL_len]))
      have HM2 := Lib.hid (cell_stays HB.out HM1.out)
      have HW2 := Lib.hid (stepB HW1.out HB.out)
      clear hi hz0 hz1 hz2
      obtain ⟨i1, hi, hz0, hz1, hz2⟩ := info_parts info_ints
      gi_wp2_with fail
      refine ⟨trivial, (callsIn_wide.2 (perms_any (HIL.out.later (below_new _ _)) (by rw [placesL_len]; omega))).mono ?_⟩
      rintro e w4 ⟨rfl, ⟨lv, hlv, hrm⟩, hb4, hsz4⟩
      have hsu : (wr.alloc (.cells #[.slice none 0 0] 38)).heap.size = wr.heap.size + 1 := by simp
      rw [hsu] at hlv hsz4 ⊢
      have HLV := Lib.hid hlv
      have HRM := Lib.hid hrm
      have HSZ4 := Lib.hid hsz4
      have HGB : Hid (Boxed w4 wr.heap.size 38 (.slice none 0 0)) := Lib.hid ((hb4.block _ (by simp)).trans (Boxed.new wr 38 _))
      have HU4 : Hid (Below wr.heap.size wr w4) := Lib.hid (stepB (below_new wr _) hb4)
      clear hlv hrm hsz4 hb4 hsu
      gi_wp2_with fail
      have hI : OwnFrom w4.heap.size (AllI mo wr.heap.size (wr.heap.size + 2) wr) :=
        OwnFrom.and (Own.from (holdsRow_own (wr.heap.size + 2) wr.heap.size 38 22 1 (fun pre : List PItem => pre.length) (fun pre => pre.map PItem.val) (fun _ _ => True)) _) (OwnFrom.and (ownFrom_below (Nat.le_refl _) (by have := HSZ4.out; omega)) (fun _ _ _ _ hs hg _ => ⟨Nat.le_trans hs.1 hg.size, hs.2⟩))
      have hseq := perms_seq (n := 2) (by omega) (w := w4) (b := wr.heap.size + 1) (s := wr.heap.size) (n₀ := wr.heap.size + 2) (L := placesL j) (by rw [placesL_len]; exact HK6.out) (by omega) (by omega) HSZ4.out HLV.out HRM.out
      rw [placesL_len] at hseq
      refine range_world rfl (by omega) (gf := 24) (lb := #[.pointer (some ⟨wr.heap.size + 1, 0, none⟩)]) rfl trivial (fun _ _ => by kernel_rfl)
        hseq KpP.trans (fun W l o o' hl h hc hw => KpP.put (w := w4) HSZ4.out W l o o' hl h hc hw) (Below.refl _ _) (fun _ => rfl)
        (AllI mo wr.heap.size (wr.heap.size + 2) wr)
        (fun c pre W => c = .exit 2 ∧ ∃ pre' x, pre = pre' ++ [x] ∧ (pre'.length : Int) = mo ∧ AllI mo wr.heap.size (wr.heap.size + 2) wr pre' W)
        hI (fun c s A B row hs hg hr => ⟨hs.1, by obtain ⟨_, pre', x, e, hl, hi⟩ := hs; exact ⟨pre', x, e, hl, hI _ _ _ _ hi hg hr⟩⟩)
        (permsDone_own _ _ _) (permsPart_own _ _ _) ⟨⟨_, HGB.out, World.ownsRow_nil _ _ _ _, trivial⟩, HU4.out, HSZ4.out, hm0⟩ ?a1 ?assign ?body ?done ?stop
      case assign =>
        intro l x W K hK
        gi_wp2
        exact hK
      case body =>
        rintro l pre x W ⟨⟨v, hv, hrow, -⟩, hB, hn2, hmo⟩ hlt
        have hc := hv.cell
        have hcm := (hB.cell (p := ⟨w.heap.size, 0, none⟩) (World.block_lt_of_cell? _ _ HM2.out)).trans HM2.out
        obtain ⟨va', vc', rfl, -⟩ := headsP hrow
        have hrow' := own_lower hrow (show wr.heap.size ≤ wr.heap.size + 2 by omega)
        have hpl : pre.length < 120 := by have h1 := orders_many j HK6.out; have h2 := fact_bd j HK6.out; omega
        gi_wp2_with (gi_at_builtin; refine wpListIn_append_own _ rfl _ _ 38 rfl (wr.heap.size + 2) 22 i1 (.slice none 0 0) 1 24 Try.underlying38 hi hz0 hz1 hz2 rfl (by decide) _ _ _ rfl (hrow.alloc _) ⟨W.heap.size, 0, none⟩ 1 1 [x.val] rfl rfl (cell_one_new _ _ _) (by simp [Value.oneCell', PItem.val]) (by unfold maxLen; omega) (by omega) (by have := hB.size; simp; omega) ?_; intro v' w5 hown' hgrow _; obtain ⟨g', cap', rfl⟩ := ownsRow_succ hown'; obtain ⟨hv1, hv2, hr2, hk2, hb2⟩ := hv.appended (by decide) hrow' hB.size (Nat.le_refl _) (own_lower hown' (show wr.heap.size ≤ wr.heap.size + 2 by omega)) hgrow; have hc1 := hv1.cell; have hf1 := hv1.frozen)
        · have hx : ((pre.length : Int) == mo) = true := by assumption
          exact ⟨KeepsOthers.refl _, KpP.refl _ _ _, rfl, pre, x, rfl, by simpa using hx, ⟨_, hv, hrow, trivial⟩, hB, hn2, hmo⟩
        · exfalso
          simp [PItem.val] at h
        · have hA : wr.heap.size + 2 ≤ (W.alloc (.cells #[x.val] 22)).heap.size := by simp; omega
          have hg2 : (W.alloc (.cells #[x.val] 22)).grownBy w5 (Value.slice va' pre.length vc').ownBlock := hgrow
          have hrw : (W.alloc (.cells #[x.val] 22)).ownsRow (wr.heap.size + 2) 22 1 (.slice va' pre.length vc') pre.length (pre.map PItem.val) := hrow.alloc _
          have hkp : KpP (wr.heap.size + 2) wr.heap.size W (w5.setCell ⟨wr.heap.size, 0, none⟩ (.slice (some ⟨g', 0, none⟩) (pre.length + 1) cap')) :=
            ((KpP.alloc hn2 _).trans (KpP.grown hg2 (fun r e => own_rowL hrw r e) hA)).trans (KpP.box _ hv1)
          exact ⟨hk2, hkp, ⟨_, hv2, by simpa using own_raise hr2 hown' (Nat.succ_pos _), trivial⟩, hB.trans hb2, Nat.le_trans hn2 hkp.1, by
            have h8 : ((pre.length : Int) == mo) = false := by assumption
            have h9 := beq_eq_false_iff_ne.1 h8
            simp only [List.length_append, List.length_singleton]; push_cast; omega⟩
      case' done =>
        rintro D zs W hD ⟨hmp, hheld⟩ ⟨⟨v, hv, hrow, -⟩, hB, hn2, hmo⟩ hK
        rw [orders_at j HK6.out] at hmp
        have hzf : zs.length = factN j := by rw [← orders_many j HK6.out, ← hmp, List.length_map]
        have HMP : Hid (zs.map (·.2) <+: ordersL j) := Lib.hid (by rw [hmp]; exact List.prefix_refl _)
        have HZ : Hid (min (factN j : Int) mo = (zs.length : Int)) := Lib.hid (by omega)
        have HELD := Lib.hid hheld
        clear hmp hheld hmo hzf
      case' stop =>
        rintro D c pre W hD ⟨hmp, hheld⟩ ⟨rfl, zs, x, rfl, hl, ⟨v, hv, hrow, -⟩, hB, hn2, hmo⟩ hK
        rw [orders_at j HK6.out] at hmp
        have hle := hmp.length_le
        rw [List.length_map, orders_many j HK6.out, List.length_append, List.length_singleton] at hle
        have HMP : Hid (zs.map (·.2) <+: ordersL j) := Lib.hid (List.IsPrefix.trans (by rw [List.map_append]; exact List.prefix_append _ _) hmp)
        have HZ : Hid (min (factN j : Int) mo = (zs.length : Int)) := Lib.hid (by omega)
        have HELD : Hid (HeldP W zs) := Lib.hid (fun y hy => hheld y (List.mem_append_left _ hy))
        clear hmp hheld hmo hl hle x
      all_goals (
        obtain ⟨va', vc', rfl, hheads⟩ := headsP hrow
        have HHEADS := Lib.hid hheads
        have HB := Lib.hid hB
        have HK := Lib.hid hK
        have HD := Lib.hid hD
        have hc := hv.cell
        have hcm := (hB.cell (p := ⟨w.heap.size, 0, none⟩) (World.block_lt_of_cell? _ _ HM2.out)).trans HM2.out
        clear hheads hB hrow hK hv hD hI hseq hi hz0 hz1 hz2 hn2
        obtain ⟨wA, rfl⟩ : ∃ wA, wA = wr := ⟨_, rfl⟩
        obtain ⟨F, hF⟩ : ∃ F, factN j = F := ⟨_, rfl⟩
        have hF1 := fact_bd j HK6.out
        have hzl : zs.length ≤ 120 := by have h1 := HMP.out.length_le; rw [List.length_map, orders_many j HK6.out] at h1; omega
        rw [hF] at HZ hF1 ⊢
        have HF := Lib.hid hF
        have HIL2 : Hid (IntsAt W (.slice va (placesL j).length vc) (placesL j)) := Lib.hid (by rw [placesL_len]; exact HIL.out.later HB.out)
        have e1 : ((zs.length : Int) != min (F : Int) mo) = false := by rw [HZ.out]; simp
        have e2 : ((j : Int) != (j : Int)) = false := by simp
        clear hF
        gi_wp2
        clear e1
        gi_loopw [62] (fun i wq => ∃ k : Nat, k ≤ zs.length ∧ i = .int .i64 k ∧ Hid (Below W.heap.size W wq)) (fun i _ => zs.length - (intOf i).toNat)
        case atStart => exact ⟨0, Nat.zero_le _, rfl, Lib.hid (Below.refl _ _)⟩
        case round =>
          obtain ⟨k, hk', rfl, HV⟩ := hrel
          by_cases hlt2 : k < zs.length
          · obtain ⟨g, rfl, hgl, hgc⟩ := HHEADS.out k hlt2
            have g1 := (HV.out.cell (p := ⟨g, k, none⟩) hgl).trans hgc
            have hr1 := (HELD.out zs[k] (List.getElem_mem hlt2)).later HV.out
            have hml : k < (zs.map (·.2)).length := by rw [List.length_map]; exact hlt2
            have hpk := pref_at HMP.out hml
            rw [List.getElem_map] at hpk
            obtain ⟨⟨⟨xa, xn, xc⟩, xl⟩, hz⟩ : ∃ z, zs[k] = z := ⟨_, rfl⟩
            have hxm : xl ∈ ordersL j := HMP.out.subset (List.mem_map.2 ⟨zs[k], List.getElem_mem hlt2, by rw [hz]⟩)
            have hxl : xl.length = j := (order_bd HK6.out hxm).1
            rw [hz] at g1 hr1 hpk
            simp only [PItem.val] at g1 hr1 hpk
            obtain ⟨ya, yc, hy⟩ := hr1.2.1.form
            injection hy with hya hn hyc
            subst hya hn hyc
            rw [hxl] at g1 hr1
            have HX1 := Lib.hid hr1.2.1
            have HXM := Lib.hid hxm
            have HXL := Lib.hid hxl
            have HPK := Lib.hid hpk
            clear hz hxm hr1 hgc hxl hpk hml
            have hcw := (HV.out.cell (p := ⟨wA.heap.size, 0, none⟩) (World.block_lt_of_cell? _ _ hc)).trans hc
            by_cases hk0 : k = 0
            case' pos =>
              have d3 : decide (0 < k) = false := decide_eq_false (by omega)
              clear hk0
              gi_wp2
              refine ⟨trivial, ?_⟩
              gi_wp2
              obtain ⟨wB, hwB⟩ : ∃ wB, wB = wr := ⟨_, rfl⟩
              rw [← hwB]
              rw [← hwB] at HV HX1
              clear d3 g1 hcw hwB
            case' neg =>
              obtain ⟨q, hq⟩ : ∃ q, k = q + 1 := ⟨k - 1, by omega⟩
              have d3 : decide (0 < k) = true := decide_eq_true (by omega)
              have d4 : IntKind.i64.wrap ((k : Int) - 1) = (q : Int) := by rw [show (k : Int) - 1 = (q : Int) by omega]; exact IntWalk.i64_in _ (by omega)
              have hlt3 : q < zs.length := by omega
              have h0 := HHEADS.out q hlt3
              obtain ⟨g', hg', hgl', hgc'⟩ := h0
              obtain rfl : g = g' := by injection hg' with hg'; injection hg'
              have g0 := (HV.out.cell (p := ⟨g, q, none⟩) hgl').trans hgc'
              have hr0 := (HELD.out zs[q] (List.getElem_mem hlt3)).later HV.out
              have hml0 : q < (zs.map (·.2)).length := by rw [List.length_map]; exact hlt3
              have hpk0 := pref_at HMP.out hml0
              rw [List.getElem_map] at hpk0
              obtain ⟨⟨⟨za, zn, zc⟩, zl⟩, hz0⟩ : ∃ z, zs[q] = z := ⟨_, rfl⟩
              have hxm0 : zl ∈ ordersL j := HMP.out.subset (List.mem_map.2 ⟨zs[q], List.getElem_mem hlt3, by rw [hz0]⟩)
              have hxl0 : zl.length = j := (order_bd HK6.out hxm0).1
              rw [hz0] at g0 hr0 hpk0
              simp only [PItem.val] at g0 hr0 hpk0
              obtain ⟨ya0, yc0, hy0⟩ := hr0.2.1.form
              injection hy0 with hya0 hn0' hyc0
              subst hya0 hn0' hyc0
              rw [hxl0] at g0 hr0
              have HX0 := Lib.hid hr0.2.1
              have HLS : Hid (lessB zl xl = true) := Lib.hid (by
                have h1 := order_less (n := j) (k := q) HK6.out (by have := HMP.out.length_le; rw [List.length_map] at this; omega)
                rw [hpk0, ← hq, HPK.out] at h1
                exact h1)
              have HXL0 := Lib.hid hxl0
              clear hz0 hxm0 hr0 hgc' hxl0 hpk0 hml0 hg' hgl' hq
              gi_wp2_with fail
              have hL := less_any HX0.out HX1.out (by have := HXL0.out; have := HK6.out; omega) (by rw [HXL.out, HXL0.out])
              rw [HLS.out] at hL
              refine ⟨trivial, ?_⟩
              with_reducible refine (callsIn_wide.2 hL).mono ?_
              rintro e w5 ⟨rfl, nd, rfl⟩
              gi_wp2
              obtain ⟨wB, hwB⟩ : ∃ wB, wB = wr.drewN nd := ⟨_, rfl⟩
              have hbB : Below wr.heap.size wr wB := by rw [hwB]; exact below_drewN (Below.refl _ _) nd
              rw [← hwB]
              replace HV := Lib.hid (stepB HV.out hbB)
              replace HX1 := Lib.hid (HX1.out.later hbB)
              clear d3 d4 g1 hcw hwB hbB g0 HX0 HLS HXL0 hlt3
            all_goals (
              gi_loopw [87] (fun i wq => ∃ m : Nat, m ≤ j ∧ i = .int .i64 m ∧ Hid (Below wB.heap.size wB wq)) (fun i _ => j - (intOf i).toNat)
              case atStart => exact ⟨0, Nat.zero_le _, rfl, Lib.hid (Below.refl _ _)⟩
              case round =>
                obtain ⟨m, hm', rfl, HV2⟩ := hrel
                by_cases hlt4 : m < j
                · obtain ⟨lb, lo, hle, hll, c2⟩ := (HIL2.out.later (stepB HV.out HV2.out)).at m (by rw [placesL_len]; exact hlt4)
                  obtain ⟨x, hx⟩ : ∃ x, (placesL j)[m]'(by rw [placesL_len]; exact hlt4) = x := ⟨_, rfl⟩
                  rw [hx] at c2
                  have HC1 : Hid (xl.count x = 1) := Lib.hid (order_one HK6.out HXM.out (by rw [← hx]; exact List.getElem_mem _))
                  have hM := many_any x (HX1.out.later HV2.out) (by have := HXL.out; have := HK6.out; omega)
                  rw [HC1.out, show ((1 : Nat) : Int) = 1 from rfl] at hM
                  have HM := Lib.hid hM
                  subst hle
                  clear hx HC1 hM
                  gi_wp2_with fail
                  refine ⟨trivial, ?_⟩
                  with_reducible refine (callsIn_wide.2 HM.out).mono ?_
                  rintro e w6 ⟨rfl, rfl⟩
                  gi_wp2
                  go_roundw
                  case rel => exact ⟨m + 1, by omega, by go_num, HV2⟩
                  case measure => simp [intOf]; omega
                · obtain rfl : j = m := by omega
                  gi_wp2
                  go_roundw
                  case rel => exact ⟨k + 1, by omega, by go_num, Lib.hid (stepB HV.out HV2.out)⟩
                  case measure => simp [intOf]; omega)
          · obtain ⟨wC, rfl⟩ : ∃ wC, wC = wr := ⟨_, rfl⟩
            have hkz : k = zs.length := by omega
            subst hkz
            have hmm := @run_makeMap Try.prog
            gi_wp2
            clear hmm
            gi_loopw [16] (fun c wq => ∃ m : Nat, m ≤ F ∧ c = .int .i64 m ∧ Hid (SeenAt wq wC.heap.size ((List.range m).map (codeAt j))) ∧ Hid (Below wC.heap.size wC wq)) (fun c _ => F - (intOf c).toNat)
            case atStart => exact ⟨0, Nat.zero_le _, rfl, Lib.hid (SeenAt.new _), Lib.hid (below_new _ _)⟩
            case round =>
              obtain ⟨c, hc', rfl, HS, HV2⟩ := hrel
              obtain ⟨wE, rfl⟩ : ∃ wE, wE = wr := ⟨_, rfl⟩
              by_cases hlt3 : c < F
              · obtain ⟨i2, hi, hz0, hz1, hz2⟩ := info_parts info_int
                gi_wp2
                gi_loopw [17, 18, 19] (fun r d i wq => ∃ (i' r' m : Nat) (dl : List Int) (da : Option Addr) (dc : Nat), i' ≤ j ∧ r' ≤ 120 ∧ m ≤ 6 ∧ i = .int .i64 i' ∧ r = .int .i64 r' ∧ d = .slice da m dc ∧ Hid (dl.length = m ∧ m + i' ≤ j) ∧ Hid (drawsC j c = dl ++ drawsC i' r') ∧
                    Hid (wq.ownsRow wE.heap.size 3 1 (.slice da m dc) m (intsV dl)) ∧ Hid (Below wE.heap.size wE wq)) (fun _ _ i _ => (intOf i).toNat)
                case atStart => exact ⟨j, c, 0, [], none, 0, Nat.le_refl _, by omega, by omega, rfl, rfl, rfl, Lib.hid ⟨rfl, by omega⟩, Lib.hid rfl, Lib.hid (World.ownsRow_nil _ _ _ _), Lib.hid (Below.refl _ _)⟩
                case round =>
                  obtain ⟨i', r', m, dl, da, dc, hi1, hr1, hm6, rfl, rfl, rfl, HN, HDR, HO2, HV3⟩ := hrel
                  by_cases hlt4 : 1 < i'
                  · have hrow := HO2.out
                    have hB3 := HV3.out
                    have hm7 := HN.out
                    obtain ⟨x, hx⟩ : ∃ x, r' % i' = x := ⟨_, rfl⟩
                    obtain ⟨y, hy⟩ : ∃ y, r' / i' = y := ⟨_, rfl⟩
                    have hrem : (r' : Int).tmod (i' : Int) = (x : Int) := by rw [← hx]; rfl
                    have hquo : (r' : Int).tdiv (i' : Int) = (y : Int) := by rw [← hy]; rfl
                    have hy2 : y ≤ 120 := by rw [← hy]; exact Nat.le_trans (Nat.div_le_self _ _) hr1
                    have HX := Lib.hid hx
                    have HY := Lib.hid hy
                    have hz : ((i' : Int) == 0) = false := beq_eq_false_iff_ne.2 (by omega)
                    clear hx hy hm7
                    gi_wp2_with (gi_at_builtin; refine wpListIn_append_own _ rfl _ _ 22 rfl wE.heap.size 3 i2 (.int .i64 0) 1 8 Try.underlying22 hi hz0 hz1 hz2 rfl (by decide) _ _ _ rfl (hrow.alloc _) ⟨wr.heap.size, 0, none⟩ 1 1 [.int .i64 (x : Int)] rfl rfl (cell_one_new _ _ _) (by simp [Value.oneCell']) (by unfold maxLen; omega) (by omega) (by have := hB3.size; simp; omega) ?_; intro v' w5 hown' hgrow _; have HO5 := Lib.hid hown'; have HB5 := Lib.hid ((HV3.out.alloc HV3.out.size (.cells #[.int .i64 (x : Int)] 3)).grown hgrow (Nat.le_trans HV3.out.size (by simp)) (fun g e => (World.ownsRow.lt (hrow.alloc (.cells #[.int .i64 (x : Int)] 3)) g e).1)); obtain ⟨g', cap', rfl⟩ := ownsRow_succ hown'; clear hown' hgrow)
                    go_roundw
                    case rel => exact ⟨i' - 1, y, m + 1, dl ++ [(x : Int)], _, _, by omega, hy2, by have := HN.out; omega, by rw [show ((i' - 1 : Nat) : Int) = (i' : Int) - 1 by omega], rfl, rfl, Lib.hid ⟨by rw [List.length_append, HN.out.1]; rfl, by have := HN.out; omega⟩,
                      Lib.hid (by rw [HDR.out, drawsC_step r' hlt4, HX.out, HY.out]; simp), Lib.hid (by simpa [intsV] using HO5.out), HB5⟩
                    case measure => simp [intOf]; omega
                  · have hdr : dl = drawsC j c := by rw [HDR.out, drawsC_small r' (by omega), List.append_nil]
                    have hid := Lib.hid (show IntsAt wr (.slice da m dc) dl from own_vals HO2.out (by rw [intsV_len]; exact HN.out.1))
                    have HDL := Lib.hid hdr
                    have hdl6 : dl.length ≤ 6 := by have := HN.out; omega
                    clear hdr hm6
                    gi_wp2_with fail
                    refine ⟨trivial, ?_⟩
                    refine (callsIn_wide.2 (new_any hid.out (by omega))).mono ?_
                    rintro e w2 ⟨bd, rfl, hd, hlo, hb⟩
                    have hv2 : ValsAt w2 (.slice va j vc) (intsV (placesL j)) := by have h := HIL2.out.later (stepB (stepB (stepB HV.out HV2.out) HV3.out) hb); rw [placesL_len] at h; exact h
                    have hsh := shuffle_int hv2 (by rw [placesL_len]; omega) hd (by omega) (by omega)
                    have HSH := Lib.hid hsh
                    have HB2 := Lib.hid (stepB HV3.out hb)
                    have HLO := Lib.hid hlo
                    clear hv2 hsh hd hlo hb
                    gi_wp2_with fail
                    refine ⟨trivial, ?_⟩
                    with_reducible refine (callsIn_wide.2 HSH.out).mono ?_
                    rintro e w3 ⟨rfl, hr3, -, hg3⟩
                    obtain ⟨L, hL⟩ : ∃ L, shufL (j - 1) (placesL j) dl = L := ⟨_, rfl⟩
                    have hLl : L.length = j := by rw [← hL, shufL_len, placesL_len]
                    have hLi : ∀ x ∈ L, 0 ≤ x ∧ x < 10 := fun x hx => by have h := shuf_in (j := j) (m := dl) (x := x) (by rw [hL]; exact hx); omega
                    have hLc : codeL L = codeAt j c := by rw [← hL, HDL.out]; rfl
                    rw [placesL_len, hL] at hr3
                    rw [placesL_len]
                    have HR3 := Lib.hid hr3
                    have HB3 := Lib.hid (grown_to HB2.out hg3 (by have := HLO.out; have := HV3.out.size; omega))
                    have HLL := Lib.hid hLl
                    have HLI := Lib.hid hLi
                    have HLC := Lib.hid hLc
                    clear hr3 hg3 hL hLl hLi hLc
                    gi_wp2
                    gi_loopw [20, 123] (fun x i wq => ∃ (q : Nat) (C : Int), q ≤ j ∧ i = .int .i64 q ∧ x = .int .i64 C ∧ Hid (C = codeL (L.take q)) ∧ Hid (Below w3.heap.size w3 wq)) (fun _ i _ => j - (intOf i).toNat)
                    case atStart => exact ⟨0, 0, Nat.zero_le _, rfl, rfl, Lib.hid rfl, Lib.hid (Below.refl _ _)⟩
                    case round =>
                      obtain ⟨q, C, hq, rfl, rfl, HC, HV4⟩ := hrel
                      have hCb := code_bd (l := L.take q) (fun x hx => HLI.out x (List.mem_of_mem_take hx)) (by rw [List.length_take]; omega)
                      rw [← HC.out] at hCb
                      obtain ⟨hC0, hC1⟩ := hCb
                      by_cases hlt5 : q < j
                      · have hqL : q < L.length := by rw [HLL.out]; exact hlt5
                        have c3 := (HR3.out.later HV4.out).cell q (by rw [List.length_map]; exact hqL)
                        rw [List.getElem_map] at c3
                        have hxi := HLI.out L[q] (List.getElem_mem hqL)
                        have htk := take_last L q hqL
                        obtain ⟨x, hx⟩ : ∃ x, L[q] = x := ⟨_, rfl⟩
                        rw [hx] at c3 hxi htk
                        have HTK := Lib.hid htk
                        obtain ⟨hx0, hx1⟩ := hxi
                        clear hx htk hqL
                        gi_wp2
                        go_roundw
                        case rel => exact ⟨q + 1, 10 * C + x, by omega, by go_num, by go_num, Lib.hid (by rw [HTK.out, codeL_snoc, HC.out]), HV4⟩
                        case measure => simp [intOf]; omega
                      · obtain rfl : j = q := by omega
                        have hCe : C = codeAt j c := by rw [HC.out, List.take_of_length_le (by rw [HLL.out]; exact Nat.le_refl _), HLC.out]
                        have hsn : SeenAt wr wC.heap.size ((List.range c).map (codeAt j)) := HS.out.later (stepB HB3.out HV4.out)
                        have hnew : C ∉ (List.range c).map (codeAt j) := by rw [hCe]; exact code_new HK6.out (by rw [HF.out]; exact hlt3)
                        have hlk := hsn.look hnew (wf_small hC0 hC1)
                        obtain ⟨w5, hup, hs5, hg5⟩ := hsn.mark hnew (wf_small hC0 hC1) (by rw [List.length_map, List.length_range]; omega)
                        have HS5 := Lib.hid hs5
                        have HB5 := Lib.hid (grown_to (stepB (stepB HV2.out HB3.out) HV4.out) hg5 (Nat.le_refl _))
                        have HCE := Lib.hid hCe
                        clear hsn hnew hs5 hg5 hCe
                        gi_wp2
                        go_roundw
                        case rel => exact ⟨c + 1, by omega, by go_num, Lib.hid (by rw [List.range_succ, List.map_append]; have h := HS5.out; rw [HCE.out] at h; exact h), HB5⟩
                        case measure => simp [intOf]; omega
              · obtain rfl : F = c := by omega
                obtain ⟨DD, hown, hsz⟩ := HS.out.len
                rw [List.length_map, List.length_range] at hown hsz
                have hs : ((Maps.size DD : Int) == (F : Int)) = true := by rw [hsz]; simp
                have HKE := Lib.hid (((stepB HV.out HV2.out).block D (Array.getElem?_eq_some_iff.1 HK.out).1).trans HK.out)
                have HBE := Lib.hid (((HW2.out.trans (HB.out.mono HW2.out.size)).trans ((stepB HV.out HV2.out).mono (Nat.le_trans HW2.out.size HB.out.size))).trans
                  (belowK_b (w := w) (Nat.le_refl _) wE D _ (.deferred none) (by have h1 := HD.out; have h2 := HSZ4.out; have h3 := HW2.out.size; omega) HKE.out rfl rfl))
                gi_wp2_with (gi_at_len; refine wpListIn_len_own _ rfl _ _ rfl 3 4 Try.underlying42 _ wC.heap.size F DD rfl hown ?_)
                refine ⟨by simp, .inl ⟨_, _, rfl, run_takeDeferred HKE.out, ?_⟩⟩
                exact ⟨_, results_tmp rfl _ _ _, rfl, HBE.out⟩)
end Go.Proofs.Ytokjghfpdolojaa
