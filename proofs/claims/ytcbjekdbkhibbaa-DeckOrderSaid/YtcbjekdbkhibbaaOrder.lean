/- The law DeckOrder, proved: for every table, list of numbers and list of turns it returns true; each argument reads behind the call as it read before. No condition. -/
import Derived.Test.YtcbjekdbkhibbaaDu
import Derived.Test.YtcbjekdbkhibbaaOc
import Derived.Test.YtcbjekdbkhibbaaTk
import Derived.Deep.QuietTactic
import Derived.BigQuiet
namespace Go.Proofs.Ytcbjekdbkhibbaa
open Go.ChangeShapes Go.WideShapes Go.ChangeAt Go.RowKit

theorem great_small {t : List CardL} {l : List Int} (h : greatB t l = false) : t.length ≤ 70 ∧ l.length ≤ 60 := by
  unfold greatB at h
  simp only [Bool.or_eq_false_iff, decide_eq_false_iff_not] at h
  omega
theorem costs_next {t : List CardL} {k : Nat} (hk : k < t.length) (h : ∀ c ∈ t.take k, -1000 ≤ c.cost ∧ c.cost ≤ 1000) (hc : -1000 ≤ t[k].cost ∧ t[k].cost ≤ 1000) : ∀ c ∈ t.take (k + 1), -1000 ≤ c.cost ∧ c.cost ≤ 1000 := by
  rw [take_last t k hk]
  intro c hm
  rcases List.mem_append.1 hm with hm | hm
  · exact h c hm
  · rw [List.mem_singleton] at hm; subst hm; exact hc
set_option maxRecDepth 100000 in
set_option maxHeartbeats 16000000 in
theorem order_great {v u z : Value} {t : List CardL} {l ts : List Int} {w : World} (h : CardsAt w v t) (hu : IntsAt w u l) (hz : U8At w z ts) (hn : t.length ≤ 9223372036854775807) (hs : SmallC t) (hl : l.length ≤ 9223372036854775807) (hwf : WfI l) (hw8 : Wf8 ts) (hg : greatB t l = true) :
    Calls Try.prog 13 #[v, u, z] w (RetB w true) := by
  obtain ⟨xa, xc, rfl⟩ := h.form
  obtain ⟨ya, yc, rfl⟩ := hu.form
  obtain ⟨za, zc, rfl⟩ := hz.form
  have HL := Lib.hid h
  have HU := Lib.hid hu
  have HZ := Lib.hid hz
  have HS := Lib.hid hs
  have HWF := Lib.hid hwf
  have HW8 := Lib.hid hw8
  clear h hu hz hs hwf hw8
  have HG := Lib.hid hg
  clear hg
  go_enter Try.func13, Try.ntmps13
  go_wp2_with fail
  refine (awake3_any _).mono ?_
  rintro e w1 ⟨rfl, hb1⟩
  have HB1 := Lib.hid hb1
  clear hb1
  go_wp2_with fail
  refine (great_any ya l.length yc (HL.out.later HB1.out) rfl hn hl).mono ?_
  rw [HG.out]
  rintro e w2 ⟨rfl, hb2⟩
  have HB2 := Lib.hid (stepB HB1.out hb2)
  clear hb2
  go_wp2
  go_ret
  exact ⟨rfl, HB2.out⟩
set_option maxRecDepth 100000 in
set_option maxHeartbeats 16000000 in
theorem order_long {v u z : Value} {t : List CardL} {l ts : List Int} {w : World} (h : CardsAt w v t) (hu : IntsAt w u l) (hz : U8At w z ts) (hn : t.length ≤ 9223372036854775807) (hs : SmallC t) (hl : l.length ≤ 9223372036854775807) (hwf : WfI l) (hw8 : Wf8 ts) (hg : greatB t l = false) (ht : 60 < ts.length) (htl : ts.length ≤ 9223372036854775807) :
    Calls Try.prog 13 #[v, u, z] w (RetB w true) := by
  obtain ⟨xa, xc, rfl⟩ := h.form
  obtain ⟨ya, yc, rfl⟩ := hu.form
  obtain ⟨za, zc, rfl⟩ := hz.form
  have HL := Lib.hid h
  have HU := Lib.hid hu
  have HZ := Lib.hid hz
  have HS := Lib.hid hs
  have HWF := Lib.hid hwf
  have HW8 := Lib.hid hw8
  clear h hu hz hs hwf hw8
  have HG := Lib.hid hg
  have e1 : decide ((60 : Int) < ts.length) = true := decide_eq_true (by omega)
  clear hg ht
  go_enter Try.func13, Try.ntmps13
  go_wp2_with fail
  refine (awake3_any _).mono ?_
  rintro e w1 ⟨rfl, hb1⟩
  have HB1 := Lib.hid hb1
  clear hb1
  go_wp2_with fail
  refine (great_any ya l.length yc (HL.out.later HB1.out) rfl hn hl).mono ?_
  rw [HG.out]
  rintro e w2 ⟨rfl, hb2⟩
  have HB2 := Lib.hid (stepB HB1.out hb2)
  clear hb2
  go_wp2
  go_ret
  exact ⟨rfl, HB2.out⟩
set_option maxRecDepth 100000 in
set_option maxHeartbeats 16000000 in
theorem order_in {v u z : Value} {t : List CardL} {l ts : List Int} {w : World} (h : CardsAt w v t) (hu : IntsAt w u l) (hz : U8At w z ts) (hn : t.length ≤ 9223372036854775807) (hs : SmallC t) (hl : l.length ≤ 9223372036854775807) (hwf : WfI l) (hw8 : Wf8 ts) (hg : greatB t l = false) (ht : ¬ 60 < ts.length) :
    Calls Try.prog 13 #[v, u, z] w (RetB w true) := by
  obtain ⟨xa, xc, rfl⟩ := h.form
  obtain ⟨ya, yc, rfl⟩ := hu.form
  obtain ⟨za, zc, rfl⟩ := hz.form
  have HL := Lib.hid h
  have HU := Lib.hid hu
  have HZ := Lib.hid hz
  have HS := Lib.hid hs
  have HWF := Lib.hid hwf
  have HW8 := Lib.hid hw8
  clear h hu hz hs hwf hw8
  have HG := Lib.hid hg
  obtain ⟨t1, l1⟩ := great_small hg
  have e1 : decide ((60 : Int) < ts.length) = false := decide_eq_false (by omega)
  have ts1 : ts.length ≤ 60 := by omega
  clear hg ht
  go_enter Try.func13, Try.ntmps13
  go_wp2_with fail
  refine (awake3_any _).mono ?_
  rintro e w1 ⟨rfl, hb1⟩
  have HB1 := Lib.hid hb1
  clear hb1
  go_wp2_with fail
  refine (great_any ya l.length yc (HL.out.later HB1.out) rfl hn hl).mono ?_
  rw [HG.out]
  rintro e w2 ⟨rfl, hb2⟩
  have HB2 := Lib.hid (stepB HB1.out hb2)
  clear hb2
  go_wp2
  go_loopw [26] (fun i wr => ∃ k : Nat, k ≤ t.length ∧ i = .int .i64 k ∧ Hid (∀ c ∈ t.take k, -1000 ≤ c.cost ∧ c.cost ≤ 1000) ∧ Hid (Below w.heap.size w wr)) (fun i _ => t.length - (intOf i).toNat)
  case atStart => exact ⟨0, Nat.zero_le _, rfl, Lib.hid (by simp), HB2⟩
  case round =>
    obtain ⟨k, hk, rfl, HK, HB⟩ := hrel
    by_cases hlt : k < t.length
    · obtain ⟨b, off, rfl, hcell⟩ := (HL.out.later HB.out).at k hlt
      obtain ⟨c, hcc⟩ : ∃ c, t[k] = c := ⟨_, rfl⟩
      rw [hcc] at hcell
      have HCC := Lib.hid hcc
      obtain ⟨qa, qc, c0, c1, c2, c3, c4, c5, c6, htm⟩ := hcell
      have HLT := Lib.hid hlt
      have d0 : (0 : Int) ≤ k := by omega
      have d1 : (k : Int) < t.length := by omega
      have HBA := Lib.hid (below_alloc2 HB.out (.cells #[.int .i64 c.kind, .int .i64 c.cost, .int .i64 c.power, .int .i64 c.tough, .int .i64 c.keys, .int .i64 c.whn, .slice qa c.terms.length qc] 65))
      clear htm hcc
      by_cases hlo : c.cost < -1000
      · have b1 : decide (c.cost < -1000) = true := decide_eq_true hlo
        go_wp2
        go_ret
        exact ⟨rfl, HBA.out⟩
      · have b1 : decide (c.cost < -1000) = false := decide_eq_false hlo
        by_cases hhi : 1000 < c.cost
        · have b2 : decide (1000 < c.cost) = true := decide_eq_true hhi
          go_wp2
          go_ret
          exact ⟨rfl, HBA.out⟩
        · have b2 : decide (1000 < c.cost) = false := decide_eq_false hhi
          have HOK := Lib.hid (show -1000 ≤ c.cost ∧ c.cost ≤ 1000 by omega)
          go_wp2
          go_roundw
          case rel => exact ⟨k + 1, by omega, by go_num, Lib.hid (costs_next HLT.out HK.out (by rw [HCC.out]; exact HOK.out)), HBA⟩
          case measure => simp [intOf]; omega
    · obtain rfl : k = t.length := by omega
      have HCO := Lib.hid (show CostOk t from fun c hc => HK.out c (by rw [List.take_length]; exact hc))
      clear HK hlt hk
      go_wp2_with (at_builtin; refine wpList_append_ints rfl _ _ rfl rfl wr.heap.size (.slice (some ⟨wr.heap.size, 0, none⟩) 0 0) 0 [] rfl (own_empty1 rfl (Nat.le_refl _)) ya _ yc l rfl rfl (HU.out.later (below_alloc2 HB.out _)) (by omega) (by simp) ?f1)
      case f1 =>
        intro v4 w4 hown4 hgrow4 hob
        obtain ⟨g, cap, hv4, hgB⟩ : ∃ g cap, v4 = .slice (some ⟨g, 0, none⟩) l.length cap ∧ wr.heap.size ≤ g := by
          rcases hown4.2 with ⟨rfl, _⟩ | ⟨g, cap, cur, rfl, hg, _⟩
          · simp [Value.ownBlock] at hob
          · exact ⟨g, cap, rfl, hg⟩
        subst hv4
        have HT4 := Lib.hid (show TurnIs w w4 wr.heap.size g cap l l from ⟨hown4, List.Perm.refl _, HB.out.size, below_own hgrow4 (below_alloc2 HB.out _) (Nat.le_trans HB.out.size (by simp)) (own_empty1 (W := wr) (B := w.heap.size) (T := 3) rfl HB.out.size)⟩)
        clear hown4 hgrow4 hob
        go_wp2
        go_loopw [44] (fun i wx => ∃ (j : Nat) (X : List Int), j ≤ ts.length ∧ i = .int .i64 j ∧ Hid (TurnIs w wx wr.heap.size g cap l X)) (fun i _ => ts.length - (intOf i).toNat)
        case atStart => exact ⟨0, l, Nat.zero_le _, rfl, HT4⟩
        case round =>
          obtain ⟨j, X, hj, rfl, HX⟩ := hrel
          by_cases hlt : j < ts.length
          · obtain ⟨zb, zoff, hza, c0⟩ := (HZ.out.later HX.out.2.2.2).at j hlt
            have hw8x := HW8.out _ (List.getElem_mem hlt)
            obtain ⟨x, hx⟩ : ∃ x, ts[j] = x := ⟨_, rfl⟩
            rw [hx] at c0 hw8x
            obtain ⟨y, rfl⟩ : ∃ y : Nat, x = (y : Int) := ⟨x.toNat, by omega⟩
            have HLT := Lib.hid hlt
            have d0 : (0 : Int) ≤ j := by omega
            have d1 : (j : Int) < ts.length := by omega
            have y0 : (0 : Int) ≤ y := by omega
            have y1 : (y : Int) < 256 := by omega
            clear hx hw8x
            subst hza
            by_cases hl0 : l.length = 0
            · have hl0' : decide ((0 : Int) < l.length) = false := decide_eq_false (by omega)
              have hl0'' : decide (0 < l.length) = false := decide_eq_false (by omega)
              clear hl0
              go_wp2
              go_roundw
              case rel => exact ⟨j + 1, X, by have := HLT.out; omega, by go_num, HX⟩
              case measure => have := HLT.out; simp [intOf]; omega
            · obtain ⟨n, hn'⟩ : ∃ n, l.length = n := ⟨_, rfl⟩
              have HN := Lib.hid hn'
              have hXL := HX.out.2.1.length_eq
              have hlp : decide ((0 : Int) < l.length) = true := decide_eq_true (by omega)
              have hlp2 : decide (0 < l.length) = true := decide_eq_true (by omega)
              have hlp3 : 0 < l.length := by omega
              have hnz : ¬ (l.length : Int) = 0 := by omega
              obtain ⟨a, ha⟩ : ∃ a, j % l.length = a := ⟨_, rfl⟩
              obtain ⟨b, hb⟩ : ∃ b, y % l.length = b := ⟨_, rfl⟩
              have hal : a < l.length := by rw [← ha]; exact Nat.mod_lt _ hlp3
              have hbl : b < l.length := by rw [← hb]; exact Nat.mod_lt _ hlp3
              have hta : (j : Int).tmod (l.length : Int) = (a : Int) := by rw [← ha]; exact (Int.ofNat_tmod _ _).symm
              have htb : (y : Int).tmod (l.length : Int) = (b : Int) := by rw [← hb]; exact (Int.ofNat_tmod _ _).symm
              have hwy : IntKind.i64.wrap (y : Int) = y := IntWalk.i64_in _ (by omega)
              obtain ⟨p, hp⟩ : ∃ p, X.getD b 0 = p := ⟨_, rfl⟩
              obtain ⟨q, hq⟩ : ∃ q, X.getD a 0 = q := ⟨_, rfl⟩
              have HST := Lib.hid (fun nd => turn_step (nd := nd) HX.out hgB hal hbl hp hq)
              have ci := HX.out.1.cellAt a (by omega)
              have cj := HX.out.1.cellAt b (by omega)
              rw [show (intsV X)[a]? = some (.int .i64 q) by rw [← hq]; simp [intsV, List.getD, show a < X.length by omega]] at ci
              rw [show (intsV X)[b]? = some (.int .i64 p) by rw [← hp]; simp [intsV, List.getD, show b < X.length by omega]] at cj
              have fi := HX.out.1.frozenAt a
              have fj := HX.out.1.frozenAt b
              have huv : b = a → p = q := fun e => by rw [← hp, ← hq, e]
              have a0 : (0 : Int) ≤ a := by omega
              have a1 : (a : Int) < l.length := by omega
              have b0 : (0 : Int) ≤ b := by omega
              have b1 : (b : Int) < l.length := by omega
              clear ha hb hp hq hXL HX hn'
              by_cases hab : b = a
              · have := huv hab
                subst this
                subst hab
                clear huv cj fj
                go_wp2
                go_quiet (fail)
                clear hta htb hwy
                go_wp2
                go_region
                all_goals
                  go_wp2
                  go_roundw
                  case rel => exact ⟨j + 1, _, by have := HLT.out; omega, by go_num, HST.out _⟩
                  case measure => have := HLT.out; simp [intOf]; omega
              · clear huv
                have hab2 : ¬ a = b := fun e => hab e.symm
                go_wp2
                go_quiet (fail)
                clear hta htb hwy
                go_wp2
                go_region
                all_goals
                  go_wp2
                  go_roundw
                  case rel => exact ⟨j + 1, _, by have := HLT.out; omega, by go_num, HST.out _⟩
                  case measure => have := HLT.out; simp [intOf]; omega
          · obtain rfl : j = ts.length := by omega
            have hx1 := HX.out.1
            rw [HX.out.2.1.length_eq] at hx1
            have hx2 := own_ints hx1
            rw [← HX.out.2.1.length_eq] at hx2
            have HM := Lib.hid hx2
            clear hx1 hx2
            have HP := Lib.hid HX.out.2.1
            have HBX := Lib.hid HX.out.2.2.2
            have HXL := Lib.hid (show X.length ≤ 1000 by rw [← HX.out.2.1.length_eq]; omega)
            have HXW := Lib.hid (wf_perm HX.out.2.1 HWF.out)
            obtain ⟨E1, hE1⟩ : ∃ E, deckE t l = E := ⟨_, rfl⟩
            have HE1 := Lib.hid hE1
            have HE1' := Lib.hid (show deckE t X = E1 by rw [← hE1]; exact (deck_perm HP.out).symm)
            obtain ⟨E2, hE2⟩ : ∃ E, schemeE t l = E := ⟨_, rfl⟩
            have HE2 := Lib.hid hE2
            have HE2' := Lib.hid (show schemeE t X = E2 by rw [← hE2]; exact (scheme_perm HP.out).symm)
            obtain ⟨E3, hE3⟩ : ∃ E, worthL t l = E := ⟨_, rfl⟩
            have HE3 := Lib.hid hE3
            have HE3' := Lib.hid (show worthL t X = E3 by rw [← hE3]; exact (worth_perm HP.out).symm)
            have l2 : l.length ≤ 1000 := by omega
            have t2 : t.length ≤ 9223372036854775807 := by omega
            clear hE1 hE2 hE3 HX hlt hj
            go_wp2_with fail
            refine (deckCheck_any (HL.out.later HBX.out) (HU.out.later HBX.out) t2 HS.out l2 HWF.out).mono ?_
            rw [HE1.out]
            rintro e x1 ⟨rfl, hb1⟩
            have HB1' := Lib.hid hb1
            clear hb1
            go_wp2_with fail
            refine (deckCheck_any ((HL.out.later HBX.out).later HB1'.out) (HM.out.later HB1'.out) t2 HS.out HXL.out HXW.out).mono ?_
            rw [HE1'.out]
            rintro e x2 ⟨rfl, hb2⟩
            have HB2' := Lib.hid (stepB HB1'.out hb2)
            clear hb2
            go_wp2_with fail
            refine (schemes_any ((HL.out.later HBX.out).later HB2'.out) ((HU.out.later HBX.out).later HB2'.out) t2 HS.out l2 HWF.out).mono ?_
            rw [HE2.out]
            rintro e x3 ⟨rfl, hb3⟩
            have HB3' := Lib.hid (stepB HB2'.out hb3)
            clear hb3
            go_wp2_with fail
            refine (schemes_any ((HL.out.later HBX.out).later HB3'.out) (HM.out.later HB3'.out) t2 HS.out HXL.out HXW.out).mono ?_
            rw [HE2'.out]
            rintro e x4 ⟨rfl, hb4⟩
            have HB4' := Lib.hid (stepB HB3'.out hb4)
            clear hb4
            go_wp2_with fail
            refine (worth_any ((HL.out.later HBX.out).later HB4'.out) ((HU.out.later HBX.out).later HB4'.out) l2 HCO.out).mono ?_
            rw [HE3.out]
            rintro e x5 ⟨rfl, hb5⟩
            have HB5' := Lib.hid (stepB HB4'.out hb5)
            clear hb5
            go_wp2_with fail
            refine (worth_any ((HL.out.later HBX.out).later HB5'.out) (HM.out.later HB5'.out) HXL.out HCO.out).mono ?_
            rw [HE3'.out]
            rintro e x6 ⟨rfl, hb6⟩
            have HB6' := Lib.hid (stepB HB5'.out hb6)
            clear hb6
            go_wp2
            go_ret
            exact ⟨rfl, stepB HBX.out HB6'.out⟩
theorem deckOrder_walk {v u z : Value} {t : List CardL} {l ts : List Int} {w : World} (h : CardsAt w v t) (hu : IntsAt w u l) (hz : U8At w z ts) (hn : t.length ≤ 9223372036854775807) (hs : SmallC t) (hl : l.length ≤ 9223372036854775807) (hwf : WfI l) (hw8 : Wf8 ts) (htl : ts.length ≤ 9223372036854775807) :
    Calls Try.prog 13 #[v, u, z] w (RetB w true) := by
  cases hg : greatB t l
  · by_cases ht : 60 < ts.length
    · exact order_long h hu hz hn hs hl hwf hw8 hg ht htl
    · exact order_in h hu hz hn hs hl hwf hw8 hg ht
  · exact order_great h hu hz hn hs hl hwf hw8 hg

set_option maxRecDepth 100000 in
theorem deckOrder_lifted (os : Os) (started : os.Started) (H : Type) (enc : TypeId × Value → H) :
    ReturnsInHanded {} Try.checked os 13 .any (Rows.deckOrderSpec.pre6 enc Try.prog Try.f13 Rows.deckOrderRow.domain false) (Rows.deckOrderSpec.post enc Try.prog Try.f13 false true false false) := by
  refine returnsInHanded_of_change (C := Try.checked) own started (by kernel_rfl) Try.func13
    (ChangeSpec.witness6 (enc := enc) (C := Try.checked) false ⟨#[], #[.slice none 0 0, .slice none 0 0, .slice none 0 0], []⟩ 8 (by kernel_rfl) (by kernel_rfl) (by kernel_rfl) (by kernel_rfl)) ?_
  intro W base args ds gs before hval0 hW hcnd _
  have hval : ∀ (j : Nat) t v, Try.f13.params[j]? = some t → args[j]? = some v → Value.okWide Try.prog W .any base t v := hval0
  have hW' := hW
  obtain ⟨p, q, hA0, hV, rfl, hfz, hnd⟩ := hW
  have hA : DataW.TrodAll enc Try.prog W 0 (fun _ => true) true Try.f13.params.toList args.toList ds p := hA0
  rw [Try.params13] at hA hval
  have hA1 := hA
  obtain ⟨v0, vs0, d0, ds0, p0, q0, hargs0, rfl, rfl, h0, r0⟩ := trodAll_cons hA
  obtain ⟨v1, vs1, d1, ds1, p1, q1, rfl, rfl, rfl, h1, r1⟩ := trodAll_cons r0
  obtain ⟨v2, vs2, d2, ds2, p2, q2, rfl, rfl, rfl, h2, r2⟩ := trodAll_cons r1
  obtain ⟨rfl, rfl, rfl⟩ := trodAll_nil r2
  obtain rfl : args = #[v0, v1, v2] := by cases args; simp_all
  obtain ⟨rfl, rfl⟩ := trodVars_none hV
  obtain ⟨t, ht, htl, hts⟩ := open_cards (hval 0 85 v0 rfl rfl) h0
  obtain ⟨l, hl, hll, hlw⟩ := open_nums (hval 1 51 v1 rfl rfl) h1
  obtain ⟨u, hu, hul, huw⟩ := open_turns (hval 2 55 v2 rfl rfl) h2
  clear hval0
  simp only [List.append_nil] at hW'
  have hlt := fun x hx => hW'.lt x hx
  unfold maxLen at htl hll hul
  refine (deckOrder_walk ht hl hu (by omega) hts (by omega) hlw huw (by omega)).mono fun e W' ⟨he, hb⟩ => ?_
  subst he
  exact ⟨_, rfl, post_below (pr := []) (pv := []) hW' (trodAll_cons_mk (shut_bool Try.underlying4 _) trodAll_mk0)
    (trodAll_stays laidOutT hb (by intro t ht; simp at ht; rcases ht with rfl | rfl | rfl <;> exact ⟨by kernel_rfl, of_decide_eq_true (by kernel_rfl)⟩) hA1 (by simpa using hlt)) rfl hb⟩

/-- The law DeckOrder: for every table, list of numbers and list of turns it returns true; each argument reads behind the call as it read before. -/
theorem deckOrder_holds : Rows.DeckOrderSaid :=
  OpenClaim.holds_of_wide 13 Try.f13 rfl rfl rfl rfl rfl rfl rfl ⟨rfl, rfl, rfl, rfl, rfl⟩ rfl rfl rfl rfl rfl (by kernel_rfl) Try.func13 (by kernel_rfl)
    (of_decide_eq_true (by kernel_rfl)) (by unfold Func.isWrapper; first | (rw [if_pos (by decide +kernel)]; kernel_rfl) | (rw [if_neg (by decide +kernel)]; exact ⟨rfl, rfl⟩))
    (fun os started H enc _ => deckOrder_lifted os started H enc)
end Go.Proofs.Ytcbjekdbkhibbaa
