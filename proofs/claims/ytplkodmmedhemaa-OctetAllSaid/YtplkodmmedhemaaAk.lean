/- The law OctetAll (layer 1), walked: for every width, bytes and bound it returns true, and only new memory is made. -/
import Derived.Test.YtplkodmmedhemaaAj
import Derived.Test.YtplkodmmedhemaaCuw
namespace Go.Proofs.Ytplkodmmedhemaa
open Go.RowKit
attribute [local go_sem] Oper.semAt_some

theorem info51 : (Try.prog.info? 51).map (fun i => (i.zero, i.size, i.bytes)) = some (some (.slice none 0 0), 1, 24) := by kernel_rfl

set_option maxHeartbeats 4000000 in
set_option maxRecDepth 100000 in
theorem octetAll_walk (width : Int) (s : ByteArray) (mo : Int) (w : World) (hs : s.size ≤ maxLen) (hm0 : 0 ≤ mo) (hm1 : mo < 256) :
    Calls Try.prog 4 #[.int .i64 width, .string s, .int .u8 mo] w fun e w' => e = .returned (.bool true) ∧ Below w.heap.size w w' := by
  have hs' := hs
  unfold maxLen at hs
  by_cases hlong : 100 < s.size
  · have hd : decide ((100 : Int) < s.size) = true := by simp; omega
    go_enter Try.func4, Try.ntmps4
    go_wp2_with fail
    refine (awake_any _).mono ?_
    rintro e w1 ⟨rfl, hb1⟩
    have HW1 := Lib.hid (below_step (below_alloc w (.cells #[.int .u8 mo] 5)) hb1)
    clear hb1
    go_wp2
    go_ret
    exact ⟨rfl, HW1.out⟩
  · have hd : decide ((100 : Int) < s.size) = false := by simp; omega
    have HS := Lib.hid hs'
    clear hs'
    obtain ⟨i0, hi, hz0, hz1, hz2⟩ := info_parts info51
    refine (callsIn_wide (n := 3)).1 ?_
    refine callsIn_of_wp_marks Try.func4 rfl trivial ?_ rfl
    simp only [Try.ntmps4, List.size_toArray, List.length_cons, List.length_nil, Nat.reduceAdd, Nat.reduceSub, Array.replicate_succ, Array.replicate_zero, List.push_toArray, List.append_toArray, List.nil_append, List.cons_append]
    gi_wp2_with fail
    refine ⟨trivial, (callsIn_wide.2 (awake_any _)).mono ?_⟩
    rintro e w1 ⟨rfl, hb1⟩
    have HM1 := Lib.hid (cell_keeps hb1 (show (w.alloc (.cells #[.int .u8 mo] 5)).cell? ⟨w.heap.size, 0, none⟩ = some (.int .u8 mo) by simp [go_sem]))
    have HW1 := Lib.hid (below_step (below_alloc w (.cells #[.int .u8 mo] 5)) hb1)
    clear hb1
    gi_wp2_with fail
    refine ⟨trivial, (callsIn_wide.2 (num_codec width _)).mono ?_⟩
    rintro e w2 ⟨vc, rfl, hcod, hb2⟩
    have HM2 := Lib.hid (cell_keeps hb2 HM1.out)
    have HW2 := Lib.hid (below_step HW1.out hb2)
    have HC2 := Lib.hid hcod
    clear hcod hb2
    gi_wp2_with fail
    refine ⟨trivial, (callsIn_wide.2 (list_codec HC2.out (Below.refl _ _) (putN_size _ (heldN_bd width).2) 3)).mono ?_⟩
    rintro e w3 ⟨v3, rfl, hcod, hb3⟩
    rw [show mostN 3 = 3 from rfl] at hcod
    have HM3 := Lib.hid (cell_keeps hb3 HM2.out)
    have HW3 := Lib.hid (below_step HW2.out hb3)
    have HC3 := Lib.hid hcod
    obtain ⟨k0, f0, a0, k1, f1, a1, rfl⟩ := hcod.shape
    clear hcod hb3
    gi_wp2_with fail
    refine ⟨trivial, (callsIn_wide.2 (all_any _ _ _ _ _ _ _ _)).mono ?_⟩
    rintro e w4 ⟨rfl, hw4⟩
    obtain ⟨U, hU⟩ : ∃ U, w3.alloc (.cells #[.func (.func k0) f0 a0, .func (.func k1) f1 a1] 45) = U := ⟨_, rfl⟩
    rw [hU] at hw4 ⊢
    have hszU : U.heap.size = w3.heap.size + 1 := by rw [← hU]; simp
    have HCB := Lib.hid (hU ▸ Has2.new w3 (.func (.func k0) f0 a0) (.func (.func k1) f1 a1) 45 : Has2 U w3.heap.size (.func (.func k0) f0 a0) (.func (.func k1) f1 a1))
    have HCU := Lib.hid (HC3.out.later (hU ▸ below_alloc w3 (.cells #[.func (.func k0) f0 a0, .func (.func k1) f1 a1] 45) : Below w3.heap.size w3 U))
    have HWU := Lib.hid (below_step HW3.out (hU ▸ below_alloc w3 (.cells #[.func (.func k0) f0 a0, .func (.func k1) f1 a1] 45) : Below w3.heap.size w3 U))
    have HMU := Lib.hid (cell_keeps (hU ▸ below_alloc w3 (.cells #[.func (.func k0) f0 a0, .func (.func k1) f1 a1] 45) : Below w3.heap.size w3 U) HM3.out)
    have hsz4 : w4.heap.size = U.heap.size + 3 := by rw [hw4]; simp
    have HGB : Hid (Boxed w4 U.heap.size 47 (.slice none 0 0)) := Lib.hid (by rw [hw4]; exact ((Boxed.new U 47 _).alloc _).alloc _)
    have HU4 : Hid (Below U.heap.size U w4) := Lib.hid (by rw [hw4]; exact below_step (below_step (below_alloc U _) (below_alloc _ _)) (below_alloc _ _))
    have HR1 : Hid (w4.heap[U.heap.size + 1]? = some (.cells #[.func (.func k0) f0 a0, .func (.func k1) f1 a1] 45 (0, 0))) := Lib.hid (by
      rw [hw4]
      have h := heap_alloc_new (U.alloc (.cells #[.slice none 0 0] 47)) (.cells #[.func (.func k0) f0 a0, .func (.func k1) f1 a1] 45)
      rw [World.size_alloc] at h
      exact (Below.heap_alloc _ _ _ (by simp)).trans h)
    have HR2 : Hid (w4.heap[U.heap.size + 2]? = some (.cells #[.string s] 9 (0, 0))) := Lib.hid (by
      rw [hw4]
      have h := heap_alloc_new ((U.alloc (.cells #[.slice none 0 0] 47)).alloc (.cells #[.func (.func k0) f0 a0, .func (.func k1) f1 a1] 45)) (.cells #[.string s] 9)
      rw [World.size_alloc, World.size_alloc] at h
      exact h)
    clear hw4 hU
    gi_wp2_with fail
    rw [← hszU]
    have HSZU := Lib.hid hszU
    have HSZ4 := Lib.hid hsz4
    clear hszU hsz4
    have hmono : ∀ a x m, lnextAt (lnextI (nextN (heldN width)) 3) s a = (x, m, 0) → m ≤ s.size := fun a x m h => (lnextAt_fwd h).2.1
    have hI : OwnFrom w4.heap.size (fun (pre : List Item) (W : World) => (∃ v, Boxed W U.heap.size 47 v ∧ W.ownsRow U.heap.size 51 1 v pre.length (pre.map Item.val) ∧ True) ∧ Below U.heap.size U W) :=
      OwnFrom.and (Own.from (holdsRow_own U.heap.size U.heap.size 47 51 1 (fun pre : List Item => pre.length) (fun pre => pre.map Item.val) (fun _ _ => True)) _) (ownFrom_below (Nat.le_refl _) (by have := HSZ4.out; omega))
    refine range_world rfl (by omega) (gf := 43) (lb := #[.pointer (some ⟨U.heap.size + 1, 0, none⟩), .pointer (some ⟨U.heap.size + 1 + 1, 0, none⟩)]) rfl trivial (fun _ _ => by kernel_rfl)
      (all_seq 2 (by omega) HCU.out (by omega) hmono HU4.out _ _ HR1.out HR2.out) KpL.trans (fun W l o o' hl h hc hw => KpL.putObj (w := w4) (by have := HSZ4.out; omega) W l o o' hl h hc hw) (Below.refl _ _) (fun _ => rfl)
      (fun (pre : List Item) (W : World) => (∃ v, Boxed W U.heap.size 47 v ∧ W.ownsRow U.heap.size 51 1 v pre.length (pre.map Item.val) ∧ True) ∧ Below U.heap.size U W)
      (fun c pre W => c = .exit 0 ∧ ∃ pre' x, pre = pre' ++ [x] ∧ (pre'.length : Int) = mo % 20 ∧ (∃ v, Boxed W U.heap.size 47 v ∧ W.ownsRow U.heap.size 51 1 v pre'.length (pre'.map Item.val) ∧ True) ∧ Below U.heap.size U W)
      hI (fun c s A B row hs hg hr => ⟨hs.1, by obtain ⟨_, pre', x, e, hl, hi⟩ := hs; exact ⟨pre', x, e, hl, hI _ _ _ _ hi hg hr⟩⟩)
      (allDone_own _ _ _ _) (allPart_own _ _ _ _) ⟨⟨_, HGB.out, World.ownsRow_nil _ _ _ _, trivial⟩, HU4.out⟩ ?a1 ?assign ?body ?done ?stop
    case assign =>
      intro l x W K hK
      gi_wp2
      exact hK
    case body =>
      rintro l pre x W ⟨⟨v, hv, hrow, -⟩, hB⟩ hlt
      have hc := hv.cell
      have hcm := (hB.cell (p := ⟨w.heap.size, 0, none⟩) (lt_of_cell HMU.out)).trans HMU.out
      obtain ⟨va, vc, rfl, -⟩ := heads_of hrow
      gi_wp2_with (gi_at_builtin; refine wpListIn_append_own _ rfl _ _ 47 rfl U.heap.size 51 i0 (.slice none 0 0) 1 24 Try.underlying47 hi hz0 hz1 hz2 rfl (by decide) _ _ _ rfl (hrow.alloc _) ⟨W.heap.size, 0, none⟩ 1 1 [x.val] rfl rfl (cell_one_new _ _ _) (by simp [Value.oneCell', Item.val]) (by unfold maxLen; omega) (by omega) (by have := hB.size; simp; omega) ?_; intro v' w5 hown' hgrow _; obtain ⟨g', cap', rfl⟩ := ownsRow_succ hown'; obtain ⟨hv1, hv2, hr2, hk2, hb2⟩ := hv.appended (by decide) hrow hB.size (Nat.le_refl _) hown' hgrow; have hc1 := hv1.cell; have hf1 := hv1.frozen)
      · have hx : ((pre.length : Int) == mo % 20) = true := by assumption
        exact ⟨KeepsOthers.refl _, ⟨Below.refl _ _, fun _ _ _ _ _ _ h => h⟩, rfl, pre, x, rfl, by simpa using hx, ⟨_, hv, hrow, trivial⟩, hB⟩
      · exfalso
        simp [Item.val] at h
      · have hA : U.heap.size ≤ (W.alloc (.cells #[x.val] 51)).heap.size := by have := hB.size; simp; omega
        have hg2 : (W.alloc (.cells #[x.val] 51)).grownBy w5 (Value.slice va pre.length vc).ownBlock := hgrow
        have hrw : (W.alloc (.cells #[x.val] 51)).ownsRow U.heap.size 51 1 (.slice va pre.length vc) pre.length (pre.map Item.val) := hrow.alloc _
        have hkp : KpL U.heap.size W (w5.setCell ⟨U.heap.size, 0, none⟩ (.slice (some ⟨g', 0, none⟩) (pre.length + 1) cap')) :=
          (KpL.alloc hB.size _).trans ((KpL.grown ((Below.refl _ _).grown hg2 hA (fun k e => (own_row51 hrw k e).1)) hg2 (fun k e => (own_row51 hrw k e).2)).trans (KpL.box _ hv1 (Nat.le_refl _)))
        exact ⟨hk2, hkp, ⟨_, hv2, by simpa using hr2, trivial⟩, hB.trans hb2⟩
    case' done =>
      rintro D zs W hD ⟨⟨b, hch, hend⟩, hheld⟩ ⟨⟨v, hv, hrow, -⟩, hB⟩ hK
      have HEND : Hid ((lnextAt (lnextI (nextN (heldN width)) 3) s b).2.2 ≠ 0 ∨ (zs.length : Int) = mo % 20) := Lib.hid (by
        by_cases h0 : (lnextAt (lnextI (nextN (heldN width)) 3) s b).2.2 = 0
        · rcases hend with h | h
          · exact .inl h
          · have h1 := lnextAt_fwd (h := heldN width) (most := 3) (s := s) (a := b) (m := (lnextAt (lnextI (nextN (heldN width)) 3) s b).2.1) (x := (lnextAt (lnextI (nextN (heldN width)) 3) s b).1) (by rw [← h0])
            omega
        · exact .inl h0)
      have HCH := Lib.hid hch
      have HELD := Lib.hid hheld
      clear hend hch hheld
    case' stop =>
      rintro D c pre W hD ⟨⟨b', hch'⟩, hheld⟩ ⟨rfl, zs, x, rfl, hl, ⟨v, hv, hrow, -⟩, hB⟩ hK
      obtain ⟨b, hch⟩ := chain_left hch'
      have HEND : Hid ((lnextAt (lnextI (nextN (heldN width)) 3) s b).2.2 ≠ 0 ∨ (zs.length : Int) = mo % 20) := Lib.hid (.inr hl)
      have HCH := Lib.hid hch
      have HELD : Hid (Held U.heap.size W zs) := Lib.hid (fun y hy => hheld y (List.mem_append_left _ hy))
      clear hch hch' hheld hl x b'
    all_goals (
      obtain ⟨va, vc', rfl, hheads⟩ := heads_of hrow
      have HHEADS := Lib.hid hheads
      have HB := Lib.hid hB
      have HROW := Lib.hid hrow
      have HK := Lib.hid hK
      have HD := Lib.hid hD
      have hc := hv.cell
      have hzl : zs.length ≤ 9223372036854775807 := by
        rcases hrow.2 with ⟨_, h0⟩ | ⟨g, cap, cur, _, _, _, hn, hm, _⟩
        · omega
        · unfold maxLen at hm; omega
      clear hheads hB hrow hK hv hD
      clear hi hz0 hz1 hz2 hI hmono
      gi_wp2
      gi_loopw [10, 43] (fun at_ i wr => ∃ (k : Nat) (a : Int), k ≤ zs.length ∧ i = .int .i64 k ∧ at_ = .int .i64 a ∧ Hid (chain (lnextI (nextN (heldN width)) 3) s 0 (zs.take k) a) ∧ Hid (Below W.heap.size W wr)) (fun _ i _ => zs.length - (RowKit.intOf i).toNat)
      case atStart => exact ⟨0, 0, Nat.zero_le _, rfl, rfl, Lib.hid rfl, Lib.hid (Below.refl _ _)⟩
      case round =>
        obtain ⟨k, a, hk, rfl, rfl, HA, HV⟩ := hrel
        have HVU := Lib.hid (HB.out.trans (HV.out.mono HB.out.size))
        have c0 := (HVU.out.cell (p := ⟨w3.heap.size, 0, none⟩) (by have := HSZU.out; simp; omega)).trans HCB.out.1
        have c1 := (HVU.out.cell (p := ⟨w3.heap.size, 1, none⟩) (by have := HSZU.out; simp; omega)).trans HCB.out.2
        by_cases hlt : k < zs.length
        · obtain ⟨g, rfl, hgl, hgc⟩ := HHEADS.out k hlt
          obtain ⟨a', hc1, hnx, hfw, hc2⟩ := chain_take k hlt HCH.out
          obtain rfl := chain_end HA.out hc1
          have g1 := (HV.out.cell (p := ⟨g, k, none⟩) hgl).trans hgc
          have hsl0 := SliceIs.later (HELD.out zs[k] (List.getElem_mem hlt)).is HV.out
          obtain ⟨⟨⟨xa, xn, xc⟩, xl, xm⟩, hz⟩ : ∃ z, zs[k] = z := ⟨_, rfl⟩
          rw [hz] at g1 hfw hnx hc2 hsl0
          simp only [Item.val] at g1 hsl0 hfw hnx hc2
          have HNX := Lib.hid hnx
          have HC2 := Lib.hid hc2
          have HSL := Lib.hid hsl0
          have hl3 := (lnextAt_fwd hnx).2.2
          clear hz hgc hnx hc1 hc2 hsl0
          gi_wp2_with fail
          refine ⟨trivial, (callsIn_wide.2 (lnext_codec HCU.out HVU.out s a HS.out)).mono ?_⟩
          rw [HNX.out]
          rintro e w6 ⟨ya, yn, yc, rfl, hsy, hb6⟩
          have HV6 := Lib.hid (below_step HV.out hb6)
          have HSX := Lib.hid (HSL.out.later hb6)
          have HSY := Lib.hid hsy.is
          unfold ret3s
          clear hsy hb6 c0 c1 g1
          gi_wp2_with fail
          refine ⟨trivial, (callsIn_wide.2 (ints_same HSX.out HSY.out (by omega))).mono ?_⟩
          rintro e w7 ⟨rfl, hb7⟩
          have HV7 := Lib.hid (below_step HV6.out hb7)
          have hle : decide (xm ≤ a) = false := by simp; omega
          clear hb7
          gi_wp2
          go_roundw
          case rel => exact ⟨k + 1, xm, by omega, by go_num, rfl, HC2, HV7⟩
          case measure => simp [RowKit.intOf]; omega
        · obtain rfl : k = zs.length := by omega
          obtain rfl : a = b := chain_end (by have h := HA.out; rwa [List.take_length] at h) HCH.out
          obtain ⟨xl, xm, xe, hr⟩ : ∃ xl xm xe, lnextAt (lnextI (nextN (heldN width)) 3) s a = (xl, xm, xe) := ⟨_, _, _, rfl⟩
          have HR := Lib.hid hr
          have HE : Hid (xe ≠ 0 ∨ (zs.length : Int) = mo % 20) := Lib.hid (by have h := HEND.out; rw [hr] at h; exact h)
          clear hr
          gi_wp2_with fail
          refine ⟨trivial, (callsIn_wide.2 (lnext_codec HCU.out HVU.out s a HS.out)).mono ?_⟩
          rw [HR.out]
          rintro e w6 ⟨ya, yn, yc, rfl, -, hb6⟩
          have HV6 := Lib.hid (below_step HV.out hb6)
          have c2 := (HV6.out.cell (p := ⟨U.heap.size, 0, none⟩) (lt_of_cell hc)).trans hc
          have c3 := (HV6.out.cell (p := ⟨w.heap.size, 0, none⟩) (Nat.lt_of_lt_of_le (lt_of_cell HMU.out) HB.out.size)).trans ((HB.out.cell (p := ⟨w.heap.size, 0, none⟩) (lt_of_cell HMU.out)).trans HMU.out)
          have HK6 := Lib.hid ((HV6.out.block D (lt_of_row HK.out)).trans HK.out)
          have HBW := Lib.hid (((HWU.out.trans (HB.out.mono HWU.out.size)).trans (HV6.out.mono (Nat.le_trans HWU.out.size HB.out.size))).trans
            (belowK_b (w := w) (Nat.le_refl _) w6 D _ (.deferred none) (by have h1 := HD.out; have h2 := HSZ4.out; have h3 := HWU.out.size; omega) HK6.out rfl rfl))
          unfold ret3s
          clear hb6 c0 c1 hc
          by_cases hE : xe = 0
          · subst hE
            have hq : ((zs.length : Int) == mo % 20) = true := by rcases HE.out with h | h <;> simp_all
            gi_wp2
            refine ⟨by simp, .inl ⟨_, _, rfl, run_takeDeferred HK6.out, ?_⟩⟩
            exact ⟨_, results_tmp rfl _ _ _, rfl, HBW.out⟩
          · have hE1 : (xe != 0) = true := by simpa using hE
            gi_wp2
            refine ⟨by simp, .inl ⟨_, _, rfl, run_takeDeferred HK6.out, ?_⟩⟩
            exact ⟨_, results_tmp rfl _ _ _, rfl, HBW.out⟩)
end Go.Proofs.Ytplkodmmedhemaa
