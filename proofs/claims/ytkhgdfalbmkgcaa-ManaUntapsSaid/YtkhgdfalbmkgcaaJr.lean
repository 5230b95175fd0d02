/- The law ManaUntaps (layer 7), walked: for all things, seats and numbers it returns true, and only new memory is made. -/
import Derived.Test.YtkhgdfalbmkgcaaJq
import Derived.Deep.Cut
namespace Go.Proofs.Ytkhgdfalbmkgcaa
open Go.RowKit Go.Maps

theorem drew_belowU {w w' : World} {v : Value} {e : Ending} (h : Drew w v e w') : e = .returned v ∧ Below w.heap.size w w' := by
  obtain ⟨h1, n, rfl⟩ := h
  exact ⟨h1, below_drewN (Below.refl _ _) n⟩
set_option maxRecDepth 100000 in
set_option maxHeartbeats 16000000 in
theorem manaUntaps_walk {u v : Value} {l : List ThingL} {os : List Int} {id : Int} {w : World} (hu : ThingsAt w u l) (hw : ∀ x ∈ l, Wf x.owner ∧ Wf x.zone) (hl : l.length ≤ 9223372036854775807) (hv : IntsAt w v os) (hol : os.length ≤ 9223372036854775807) :
    Calls Try.prog 7 #[u, v, .int .i64 id] w (RetV w (.bool true)) := by
  have HMD := Lib.hid (fun (w' : World) (hb : Below w.heap.size w w') => made_any (hu.later hb) hw hl)
  have HU := Lib.hid hu
  have HV := Lib.hid hv
  obtain ⟨ua, uc, rfl⟩ := hu.form
  obtain ⟨va, vc, rfl⟩ := hv.form
  clear hu hw hv
  go_enter Try.func7, Try.ntmps7
  go_wp2_with fail
  refine (awake7_any _).mono ?_
  rintro e w1 ⟨rfl, hb1⟩
  have HB1 := Lib.hid hb1
  clear hb1
  dsimp only
  go_wp2_with fail
  refine (HMD.out _ HB1.out).mono ?_
  rintro e w2 (⟨hpl, b, lo, G, S, rfl, hs, hm, hlo, hle, hb2⟩ | ⟨_, rfl, hb2⟩)
  case inr =>
    have HB2 := Lib.hid (stepB HB1.out hb2)
    clear hb2
    dsimp only
    go_wp2
    go_ret
    exact ⟨rfl, HB2.out⟩
  have HB2 := Lib.hid (stepB HB1.out hb2)
  have HLO := Lib.hid (show w.heap.size ≤ lo from Nat.le_trans HB1.out.size hlo)
  have HM := Lib.hid hm
  have HS2 := Lib.hid hs
  have HPL0 := Lib.hid hpl
  clear hs hm hlo hle hb2 hpl HMD
  dsimp only
  by_cases h10 : 10 < os.length
  · have d0 : decide ((10 : Int) < os.length) = true := decide_eq_true (by omega)
    go_wp2
    go_ret
    exact ⟨rfl, HB2.out⟩
  have d0 : decide ((10 : Int) < os.length) = false := decide_eq_false (by omega)
  have d0' : decide (10 < os.length) = false := decide_eq_false (by omega)
  have HSL := Lib.hid (show S.objs.length ≤ 1000 by rw [HM.out.len]; have := HPL0.out.1; omega)
  have HTH0 : Hid (∀ (w' : World) (G' : Ghost), Turned w2 w' G G' → ThingsAt w' (.slice ua l.length uc) l) := Lib.hid fun w' G' ht => HU.out.later (ht.below HB2.out (fun k hk => Nat.le_trans HLO.out (HS2.out.low k hk)))
  have hl40 := HPL0.out.1
  by_cases hid : id < 1 ∨ (l.length : Int) < id
  · have HT := Lib.hid (taps_out (by decide) (get_out HS2.out HSL.out id (by rw [HM.out.len]; exact hid)))
    have HP := HPL0
    by_cases h1 : id < 1
    · have d1 : decide (id < 1) = true := decide_eq_true h1
      clear hid h1
      go_wp2_with fail
      refine HT.out.mono ?_
      rintro e w4 ⟨rfl, hb4⟩
      have HB4 := Lib.hid (stepB HB2.out hb4)
      have HS4 := Lib.hid (HS2.out.later hb4)
      have HTH := Lib.hid (show ∀ (w' : World) (G' : Ghost), Turned w4 w' G G' → ThingsAt w' (.slice ua l.length uc) l from fun w' G' ht => HTH0.out w' G' ((Turned.of_below hb4).trans ht))
      have HM4 := HM
      have HPL := HPL0
      clear hb4 HT HTH0
      dsimp only
      as_aux_lemma =>
        have HCN := Lib.hid (untapN_made HM4.out os)
        have HLT := Lib.hid (show l.length ≤ 40 from HPL.out.1)
        have hl40 := HLT.out
        have HTW := Lib.hid (HTH.out w4 G (Turned.of_below (Below.refl _ _)))
        have HUN := Lib.hid (fun (w' : World) (hb : Below w4.heap.size w4 w') => untap_any (HS4.out.later hb) HM4.out.wf (by rw [HM4.out.len]; omega) (HV.out.later (stepB HB4.out hb)) (by omega))
        go_wp2
        go_loopw [11, 86] (fun c i wr => ∃ k : Nat, k ≤ l.length ∧ i = .int .i64 k ∧ c = .int .i64 (cntT os (l.take k)) ∧ Hid (Below w4.heap.size w4 wr)) (fun _ i _ => l.length - (intOf i).toNat)
        case atStart => exact ⟨0, Nat.zero_le _, rfl, by rw [List.take_zero]; rfl, Lib.hid (Below.refl _ _)⟩
        case round =>
          obtain ⟨k, hk, rfl, rfl, HBR⟩ := hrel
          by_cases hlt : k < l.length
          · obtain ⟨tb, off, hta, t0, t1, t2, t3, t4⟩ := (HTW.out.later HBR.out).at k hlt
            have hsn := cntT_snoc os (l.take k) l[k]
            have htk := take_last l k hlt
            have hcl := cntT_le os (l.take k)
            rw [List.length_take] at hcl
            obtain ⟨x, hx⟩ : ∃ x, l[k] = x := ⟨_, rfl⟩
            rw [hx] at t0 t1 t2 t3 t4 htk hsn
            rw [← htk] at hsn
            obtain ⟨x0, x1, x2, tp, sk⟩ := x
            have HSN := Lib.hid hsn
            obtain ⟨cq, hcq⟩ : ∃ cq, cntT os (l.take k) = cq := ⟨_, rfl⟩
            rw [hcq] at HSN hcl ⊢
            have hcq40 : cq ≤ 40 := by omega
            cases hta
            clear hx htk hsn hcq hcl
            by_cases hz : x2 = 3
            · subst hz
              obtain ⟨hb, hhb⟩ : ∃ hb, decide (x1 ∈ os) = hb := ⟨_, rfl⟩
              have HHR := Lib.hid (hasRef_any x1 (HV.out.later (stepB (stepB HB4.out HBR.out) (below_new wr (.cells #[.int .i64 x0, .int .i64 x1, .int .i64 3, .bool tp, .bool sk] 62)))) (by omega))
              rw [hhb] at HHR
              have HAW := Lib.hid (show awayT os ⟨x0, x1, 3, tp, sk⟩ = (hb && (tp || sk)) by unfold awayT onT; rw [hhb]; rfl)
              rw [HAW.out] at HSN
              clear hhb HAW
              go_wp2_with fail
              refine HHR.out.mono ?_
              rintro e w5 ⟨rfl, rfl⟩
              dsimp only
              have HB5 := Lib.hid (below_alloc2 HBR.out (.cells #[.int .i64 x0, .int .i64 x1, .int .i64 3, .bool tp, .bool sk] 62))
              cases hb <;> cases tp <;> cases sk
              all_goals
                go_wp2
                go_roundw
                case rel => exact ⟨k + 1, by omega, by go_num, by rw [HSN.out]; simp, HB5⟩
                case measure => simp [intOf]; omega
            · have e3 : (x2 == 3) = false := beq_eq_false_iff_ne.2 hz
              have HAW := Lib.hid (show awayT os ⟨x0, x1, x2, tp, sk⟩ = false by unfold awayT onT; rw [decide_eq_false hz]; rfl)
              rw [HAW.out] at HSN
              have HB5 := Lib.hid (below_alloc2 HBR.out (.cells #[.int .i64 x0, .int .i64 x1, .int .i64 x2, .bool tp, .bool sk] 62))
              clear hz HAW
              go_wp2
              go_roundw
              case rel => exact ⟨k + 1, by omega, by go_num, by rw [HSN.out]; simp, HB5⟩
              case measure => simp [intOf]; omega
          · obtain rfl : k = l.length := by omega
            rw [List.take_length]
            obtain ⟨wA, rfl⟩ : ∃ wA, wA = wr := ⟨_, rfl⟩
            have hu1 := HUN.out wA HBR.out
            rw [HCN.out] at hu1
            obtain ⟨cq, hcq⟩ : ∃ cq, cntT os l = cq := ⟨_, rfl⟩
            rw [hcq] at hu1 ⊢
            have HU1 := Lib.hid hu1
            have ecq : ((cq : Int) != (cq : Int)) = false := bne_self_eq_false _
            clear hu1 hcq
            go_wp2_with fail
            refine HU1.out.mono ?_
            rintro e w6 ⟨rfl, G6, hs6, ht6⟩
            have HT6 := Lib.hid ((Turned.of_below HBR.out).trans ht6)
            have HB6 := Lib.hid (HT6.out.below HB4.out (fun k hk => Nat.le_trans HLO.out (HS4.out.low k hk)))
            have hu2 := untap_any hs6 (untapL_wf HM4.out.wf os) (by rw [untapL_len, HM4.out.len]; omega) (HV.out.later HB6.out) (by omega)
            rw [(untap_again _ os).1, (untap_again _ os).2, show ((0 : Nat) : Int) = 0 from rfl] at hu2
            have HU2 := Lib.hid hu2
            clear hs6 ht6 hu2 HU1
            dsimp only
            go_wp2_with fail
            refine HU2.out.mono ?_
            rintro e w7 ⟨rfl, G7, hs7, ht7⟩
            have HS7 := Lib.hid hs7
            have HT7 := Lib.hid (HT6.out.trans ht7)
            have HB7 := Lib.hid (HT7.out.below HB4.out (fun k hk => Nat.le_trans HLO.out (HS4.out.low k hk)))
            have HTW7 := Lib.hid (HTH.out w7 G7 HT7.out)
            clear hs7 ht7 HU2
            dsimp only
            go_wp2
            go_loopw [123] (fun i wr => ∃ k : Nat, k ≤ l.length ∧ i = .int .i64 k ∧ Hid (Below w7.heap.size w7 wr)) (fun i _ => l.length - (intOf i).toNat)
            case atStart => exact ⟨0, Nat.zero_le _, rfl, Lib.hid (Below.refl _ _)⟩
            case round =>
              obtain ⟨k, hk, rfl, HR⟩ := hrel
              by_cases hlt : k < l.length
              · obtain ⟨tb, off, hta, t0, t1, t2, t3, t4⟩ := (HTW7.out.later HR.out).at k hlt
                obtain ⟨hkk, hget⟩ := untap_get HM4.out os k hlt
                obtain ⟨x, hx⟩ : ∃ x, l[k] = x := ⟨_, rfl⟩
                rw [hx] at t0 t1 t2 t3 t4 hget
                obtain ⟨x0, x1, x2, tp, sk⟩ := x
                dsimp only at hget
                have hgi := get_in (HS7.out.later (stepB HR.out (below_new wr (.cells #[.int .i64 x0, .int .i64 x1, .int .i64 x2, .bool tp, .bool sk] 62)))) (by rw [untapL_len, HM4.out.len]; omega) k hkk
                rw [hget] at hgi
                obtain ⟨ta, hta1⟩ : ∃ ta, (tp && !onT os ⟨x0, x1, x2, tp, sk⟩) = ta := ⟨_, rfl⟩
                obtain ⟨sa, hsa1⟩ : ∃ sa, (sk && !onT os ⟨x0, x1, x2, tp, sk⟩) = sa := ⟨_, rfl⟩
                rw [hta1, hsa1] at hgi
                unfold RetGet oagg at hgi
                dsimp only at hgi
                have HGI := Lib.hid hgi
                have kt : ∀ j, (wr.alloc (.cells #[.int .i64 x0, .int .i64 x1, .int .i64 x2, .bool tp, .bool sk] 62)).cell? ⟨wr.heap.size, j, none⟩ = (#[.int .i64 x0, .int .i64 x1, .int .i64 x2, .bool tp, .bool sk] : Array Value)[j]? := fun j => cell_of_row _ _ j _ _ _ (heap_alloc_new wr _)
                have HK1 := Lib.hid (show (wr.alloc (.cells #[.int .i64 x0, .int .i64 x1, .int .i64 x2, .bool tp, .bool sk] 62)).cell? ⟨wr.heap.size, 1, none⟩ = some (.int .i64 x1) from kt 1)
                have HK2 := Lib.hid (show (wr.alloc (.cells #[.int .i64 x0, .int .i64 x1, .int .i64 x2, .bool tp, .bool sk] 62)).cell? ⟨wr.heap.size, 2, none⟩ = some (.int .i64 x2) from kt 2)
                have HK3 := Lib.hid (show (wr.alloc (.cells #[.int .i64 x0, .int .i64 x1, .int .i64 x2, .bool tp, .bool sk] 62)).cell? ⟨wr.heap.size, 3, none⟩ = some (.bool tp) from kt 3)
                have HK4 := Lib.hid (show (wr.alloc (.cells #[.int .i64 x0, .int .i64 x1, .int .i64 x2, .bool tp, .bool sk] 62)).cell? ⟨wr.heap.size, 4, none⟩ = some (.bool sk) from kt 4)
                have HTA := Lib.hid hta1
                have HSA := Lib.hid hsa1
                cases hta
                clear hx hgi hget hkk hta1 hsa1 kt
                go_wp2_with fail
                refine HGI.out.mono ?_
                rintro e w8 ⟨rfl, hb8⟩
                have hb9 := stepB hb8 (below_new w8 (.cells #[.int .i64 ((k : Int) + 1), .int .i64 x0, .int .i64 x1, .int .i64 x2, .bool ta, .bool sa, .int .i64 0, .int .i64 0, .int .i64 0, .int .i64 0, .bool false] 32))
                have r1 := cell_stays hb9 HK1.out
                have r2 := cell_stays hb9 HK2.out
                have r3 := cell_stays hb9 HK3.out
                have r4 := cell_stays hb9 HK4.out
                have HB9 := Lib.hid (stepB (below_alloc2 HR.out _) hb9)
                clear hb8 hb9 HGI t0 t1 t2 t3 t4
                dsimp only
                by_cases hz : x2 = 3
                · subst hz
                  obtain ⟨hb, hhb⟩ : ∃ hb, decide (x1 ∈ os) = hb := ⟨_, rfl⟩
                  have HHR := Lib.hid (hasRef_any x1 (HV.out.later (stepB HB7.out HB9.out)) (by omega))
                  rw [hhb] at HHR
                  have hon : onT os ⟨x0, x1, 3, tp, sk⟩ = hb := by unfold onT; rw [hhb]; rfl
                  have hta2 := HTA.out
                  have hsa2 := HSA.out
                  rw [hon] at hta2 hsa2
                  clear hhb hon HTA HSA
                  go_wp2_with fail
                  refine HHR.out.mono ?_
                  rintro e w10 ⟨rfl, rfl⟩
                  dsimp only
                  cases hb <;> cases tp <;> cases sk
                  all_goals
                    simp at hta2 hsa2
                    subst hta2 hsa2
                    go_wp2
                    go_roundw
                    case rel => exact ⟨k + 1, by omega, by go_num, HB9⟩
                    case measure => simp [intOf]; omega
                · have e3 : (x2 == 3) = false := beq_eq_false_iff_ne.2 hz
                  have hon : onT os ⟨x0, x1, x2, tp, sk⟩ = false := by unfold onT; rw [decide_eq_false hz]; rfl
                  have hta2 := HTA.out
                  have hsa2 := HSA.out
                  rw [hon] at hta2 hsa2
                  clear hz hon HTA HSA
                  cases tp <;> cases sk
                  all_goals
                    simp at hta2 hsa2
                    subst hta2 hsa2
                    go_wp2
                    go_roundw
                    case rel => exact ⟨k + 1, by omega, by go_num, HB9⟩
                    case measure => simp [intOf]; omega
              · obtain rfl : k = l.length := by omega
                have HBE := Lib.hid (stepB HB7.out HR.out)
                obtain ⟨wE, rfl⟩ : ∃ wE, wE = wr := ⟨_, rfl⟩
                go_wp2_with fail
                refine (pay_neg none 0 0 (.inl rfl)).mono ?_
                rintro e w10 ⟨rfl, rfl⟩
                dsimp only
                go_wp2_with fail
                refine (taps_out (by decide) (get_nil 1 _)).mono ?_
                rintro e w11 ⟨rfl, hb11⟩
                have HB11 := Lib.hid (stepB HBE.out hb11)
                clear hb11
                dsimp only
                go_wp2_with fail
                refine (untapNil_any (one_int w11 0) (by decide)).mono ?_
                rintro e w12 ⟨rfl, hb12⟩
                have HB12 := Lib.hid (stepB (below_alloc2 HB11.out _) hb12)
                clear hb12
                dsimp only
                go_wp2_with fail
                refine (has_of (landsNil_any 0 w12) (by decide)).mono ?_
                rintro e w13 ⟨rfl, hb13⟩
                have HB13 := Lib.hid (stepB HB12.out hb13)
                clear hb13
                dsimp only
                go_wp2_with fail
                refine (can_of (cost := 0) (landsNil_any 0 w13) (by decide)).mono ?_
                rintro e w14 ⟨rfl, hb14⟩
                have HB14 := Lib.hid (stepB HB13.out hb14)
                clear hb14
                dsimp only
                go_wp2_with fail
                refine (can_of (cost := 1) (landsNil_any 0 w14) (by decide)).mono ?_
                rintro e w15 ⟨rfl, hb15⟩
                have HB15 := Lib.hid (stepB HB14.out hb15)
                clear hb15
                dsimp only
                go_wp2
                go_ret
                exact ⟨ret_bool (by simp), HB15.out⟩
    · have d1 : decide (id < 1) = false := decide_eq_false h1
      have d2 : decide ((l.length : Int) < id) = true := decide_eq_true (hid.resolve_left h1)
      clear hid h1
      go_wp2_with fail
      refine HT.out.mono ?_
      rintro e w4 ⟨rfl, hb4⟩
      have HB4 := Lib.hid (stepB HB2.out hb4)
      have HS4 := Lib.hid (HS2.out.later hb4)
      have HTH := Lib.hid (show ∀ (w' : World) (G' : Ghost), Turned w4 w' G G' → ThingsAt w' (.slice ua l.length uc) l from fun w' G' ht => HTH0.out w' G' ((Turned.of_below hb4).trans ht))
      have HM4 := HM
      have HPL := HPL0
      clear hb4 HT HTH0
      dsimp only
      as_aux_lemma =>
        have HCN := Lib.hid (untapN_made HM4.out os)
        have HLT := Lib.hid (show l.length ≤ 40 from HPL.out.1)
        have hl40 := HLT.out
        have HTW := Lib.hid (HTH.out w4 G (Turned.of_below (Below.refl _ _)))
        have HUN := Lib.hid (fun (w' : World) (hb : Below w4.heap.size w4 w') => untap_any (HS4.out.later hb) HM4.out.wf (by rw [HM4.out.len]; omega) (HV.out.later (stepB HB4.out hb)) (by omega))
        go_wp2
        go_loopw [11, 86] (fun c i wr => ∃ k : Nat, k ≤ l.length ∧ i = .int .i64 k ∧ c = .int .i64 (cntT os (l.take k)) ∧ Hid (Below w4.heap.size w4 wr)) (fun _ i _ => l.length - (intOf i).toNat)
        case atStart => exact ⟨0, Nat.zero_le _, rfl, by rw [List.take_zero]; rfl, Lib.hid (Below.refl _ _)⟩
        case round =>
          obtain ⟨k, hk, rfl, rfl, HBR⟩ := hrel
          by_cases hlt : k < l.length
          · obtain ⟨tb, off, hta, t0, t1, t2, t3, t4⟩ := (HTW.out.later HBR.out).at k hlt
            have hsn := cntT_snoc os (l.take k) l[k]
            have htk := take_last l k hlt
            have hcl := cntT_le os (l.take k)
            rw [List.length_take] at hcl
            obtain ⟨x, hx⟩ : ∃ x, l[k] = x := ⟨_, rfl⟩
            rw [hx] at t0 t1 t2 t3 t4 htk hsn
            rw [← htk] at hsn
            obtain ⟨x0, x1, x2, tp, sk⟩ := x
            have HSN := Lib.hid hsn
            obtain ⟨cq, hcq⟩ : ∃ cq, cntT os (l.take k) = cq := ⟨_, rfl⟩
            rw [hcq] at HSN hcl ⊢
            have hcq40 : cq ≤ 40 := by omega
            cases hta
            clear hx htk hsn hcq hcl
            by_cases hz : x2 = 3
            · subst hz
              obtain ⟨hb, hhb⟩ : ∃ hb, decide (x1 ∈ os) = hb := ⟨_, rfl⟩
              have HHR := Lib.hid (hasRef_any x1 (HV.out.later (stepB (stepB HB4.out HBR.out) (below_new wr (.cells #[.int .i64 x0, .int .i64 x1, .int .i64 3, .bool tp, .bool sk] 62)))) (by omega))
              rw [hhb] at HHR
              have HAW := Lib.hid (show awayT os ⟨x0, x1, 3, tp, sk⟩ = (hb && (tp || sk)) by unfold awayT onT; rw [hhb]; rfl)
              rw [HAW.out] at HSN
              clear hhb HAW
              go_wp2_with fail
              refine HHR.out.mono ?_
              rintro e w5 ⟨rfl, rfl⟩
              dsimp only
              have HB5 := Lib.hid (below_alloc2 HBR.out (.cells #[.int .i64 x0, .int .i64 x1, .int .i64 3, .bool tp, .bool sk] 62))
              cases hb <;> cases tp <;> cases sk
              all_goals
                go_wp2
                go_roundw
                case rel => exact ⟨k + 1, by omega, by go_num, by rw [HSN.out]; simp, HB5⟩
                case measure => simp [intOf]; omega
            · have e3 : (x2 == 3) = false := beq_eq_false_iff_ne.2 hz
              have HAW := Lib.hid (show awayT os ⟨x0, x1, x2, tp, sk⟩ = false by unfold awayT onT; rw [decide_eq_false hz]; rfl)
              rw [HAW.out] at HSN
              have HB5 := Lib.hid (below_alloc2 HBR.out (.cells #[.int .i64 x0, .int .i64 x1, .int .i64 x2, .bool tp, .bool sk] 62))
              clear hz HAW
              go_wp2
              go_roundw
              case rel => exact ⟨k + 1, by omega, by go_num, by rw [HSN.out]; simp, HB5⟩
              case measure => simp [intOf]; omega
          · obtain rfl : k = l.length := by omega
            rw [List.take_length]
            obtain ⟨wA, rfl⟩ : ∃ wA, wA = wr := ⟨_, rfl⟩
            have hu1 := HUN.out wA HBR.out
            rw [HCN.out] at hu1
            obtain ⟨cq, hcq⟩ : ∃ cq, cntT os l = cq := ⟨_, rfl⟩
            rw [hcq] at hu1 ⊢
            have HU1 := Lib.hid hu1
            have ecq : ((cq : Int) != (cq : Int)) = false := bne_self_eq_false _
            clear hu1 hcq
            go_wp2_with fail
            refine HU1.out.mono ?_
            rintro e w6 ⟨rfl, G6, hs6, ht6⟩
            have HT6 := Lib.hid ((Turned.of_below HBR.out).trans ht6)
            have HB6 := Lib.hid (HT6.out.below HB4.out (fun k hk => Nat.le_trans HLO.out (HS4.out.low k hk)))
            have hu2 := untap_any hs6 (untapL_wf HM4.out.wf os) (by rw [untapL_len, HM4.out.len]; omega) (HV.out.later HB6.out) (by omega)
            rw [(untap_again _ os).1, (untap_again _ os).2, show ((0 : Nat) : Int) = 0 from rfl] at hu2
            have HU2 := Lib.hid hu2
            clear hs6 ht6 hu2 HU1
            dsimp only
            go_wp2_with fail
            refine HU2.out.mono ?_
            rintro e w7 ⟨rfl, G7, hs7, ht7⟩
            have HS7 := Lib.hid hs7
            have HT7 := Lib.hid (HT6.out.trans ht7)
            have HB7 := Lib.hid (HT7.out.below HB4.out (fun k hk => Nat.le_trans HLO.out (HS4.out.low k hk)))
            have HTW7 := Lib.hid (HTH.out w7 G7 HT7.out)
            clear hs7 ht7 HU2
            dsimp only
            go_wp2
            go_loopw [123] (fun i wr => ∃ k : Nat, k ≤ l.length ∧ i = .int .i64 k ∧ Hid (Below w7.heap.size w7 wr)) (fun i _ => l.length - (intOf i).toNat)
            case atStart => exact ⟨0, Nat.zero_le _, rfl, Lib.hid (Below.refl _ _)⟩
            case round =>
              obtain ⟨k, hk, rfl, HR⟩ := hrel
              by_cases hlt : k < l.length
              · obtain ⟨tb, off, hta, t0, t1, t2, t3, t4⟩ := (HTW7.out.later HR.out).at k hlt
                obtain ⟨hkk, hget⟩ := untap_get HM4.out os k hlt
                obtain ⟨x, hx⟩ : ∃ x, l[k] = x := ⟨_, rfl⟩
                rw [hx] at t0 t1 t2 t3 t4 hget
                obtain ⟨x0, x1, x2, tp, sk⟩ := x
                dsimp only at hget
                have hgi := get_in (HS7.out.later (stepB HR.out (below_new wr (.cells #[.int .i64 x0, .int .i64 x1, .int .i64 x2, .bool tp, .bool sk] 62)))) (by rw [untapL_len, HM4.out.len]; omega) k hkk
                rw [hget] at hgi
                obtain ⟨ta, hta1⟩ : ∃ ta, (tp && !onT os ⟨x0, x1, x2, tp, sk⟩) = ta := ⟨_, rfl⟩
                obtain ⟨sa, hsa1⟩ : ∃ sa, (sk && !onT os ⟨x0, x1, x2, tp, sk⟩) = sa := ⟨_, rfl⟩
                rw [hta1, hsa1] at hgi
                unfold RetGet oagg at hgi
                dsimp only at hgi
                have HGI := Lib.hid hgi
                have kt : ∀ j, (wr.alloc (.cells #[.int .i64 x0, .int .i64 x1, .int .i64 x2, .bool tp, .bool sk] 62)).cell? ⟨wr.heap.size, j, none⟩ = (#[.int .i64 x0, .int .i64 x1, .int .i64 x2, .bool tp, .bool sk] : Array Value)[j]? := fun j => cell_of_row _ _ j _ _ _ (heap_alloc_new wr _)
                have HK1 := Lib.hid (show (wr.alloc (.cells #[.int .i64 x0, .int .i64 x1, .int .i64 x2, .bool tp, .bool sk] 62)).cell? ⟨wr.heap.size, 1, none⟩ = some (.int .i64 x1) from kt 1)
                have HK2 := Lib.hid (show (wr.alloc (.cells #[.int .i64 x0, .int .i64 x1, .int .i64 x2, .bool tp, .bool sk] 62)).cell? ⟨wr.heap.size, 2, none⟩ = some (.int .i64 x2) from kt 2)
                have HK3 := Lib.hid (show (wr.alloc (.cells #[.int .i64 x0, .int .i64 x1, .int .i64 x2, .bool tp, .bool sk] 62)).cell? ⟨wr.heap.size, 3, none⟩ = some (.bool tp) from kt 3)
                have HK4 := Lib.hid (show (wr.alloc (.cells #[.int .i64 x0, .int .i64 x1, .int .i64 x2, .bool tp, .bool sk] 62)).cell? ⟨wr.heap.size, 4, none⟩ = some (.bool sk) from kt 4)
                have HTA := Lib.hid hta1
                have HSA := Lib.hid hsa1
                cases hta
                clear hx hgi hget hkk hta1 hsa1 kt
                go_wp2_with fail
                refine HGI.out.mono ?_
                rintro e w8 ⟨rfl, hb8⟩
                have hb9 := stepB hb8 (below_new w8 (.cells #[.int .i64 ((k : Int) + 1), .int .i64 x0, .int .i64 x1, .int .i64 x2, .bool ta, .bool sa, .int .i64 0, .int .i64 0, .int .i64 0, .int .i64 0, .bool false] 32))
                have r1 := cell_stays hb9 HK1.out
                have r2 := cell_stays hb9 HK2.out
                have r3 := cell_stays hb9 HK3.out
                have r4 := cell_stays hb9 HK4.out
                have HB9 := Lib.hid (stepB (below_alloc2 HR.out _) hb9)
                clear hb8 hb9 HGI t0 t1 t2 t3 t4
                dsimp only
                by_cases hz : x2 = 3
                · subst hz
                  obtain ⟨hb, hhb⟩ : ∃ hb, decide (x1 ∈ os) = hb := ⟨_, rfl⟩
                  have HHR := Lib.hid (hasRef_any x1 (HV.out.later (stepB HB7.out HB9.out)) (by omega))
                  rw [hhb] at HHR
                  have hon : onT os ⟨x0, x1, 3, tp, sk⟩ = hb := by unfold onT; rw [hhb]; rfl
                  have hta2 := HTA.out
                  have hsa2 := HSA.out
                  rw [hon] at hta2 hsa2
                  clear hhb hon HTA HSA
                  go_wp2_with fail
                  refine HHR.out.mono ?_
                  rintro e w10 ⟨rfl, rfl⟩
                  dsimp only
                  cases hb <;> cases tp <;> cases sk
                  all_goals
                    simp at hta2 hsa2
                    subst hta2 hsa2
                    go_wp2
                    go_roundw
                    case rel => exact ⟨k + 1, by omega, by go_num, HB9⟩
                    case measure => simp [intOf]; omega
                · have e3 : (x2 == 3) = false := beq_eq_false_iff_ne.2 hz
                  have hon : onT os ⟨x0, x1, x2, tp, sk⟩ = false := by unfold onT; rw [decide_eq_false hz]; rfl
                  have hta2 := HTA.out
                  have hsa2 := HSA.out
                  rw [hon] at hta2 hsa2
                  clear hz hon HTA HSA
                  cases tp <;> cases sk
                  all_goals
                    simp at hta2 hsa2
                    subst hta2 hsa2
                    go_wp2
                    go_roundw
                    case rel => exact ⟨k + 1, by omega, by go_num, HB9⟩
                    case measure => simp [intOf]; omega
              · obtain rfl : k = l.length := by omega
                have HBE := Lib.hid (stepB HB7.out HR.out)
                obtain ⟨wE, rfl⟩ : ∃ wE, wE = wr := ⟨_, rfl⟩
                go_wp2_with fail
                refine (pay_neg none 0 0 (.inl rfl)).mono ?_
                rintro e w10 ⟨rfl, rfl⟩
                dsimp only
                go_wp2_with fail
                refine (taps_out (by decide) (get_nil 1 _)).mono ?_
                rintro e w11 ⟨rfl, hb11⟩
                have HB11 := Lib.hid (stepB HBE.out hb11)
                clear hb11
                dsimp only
                go_wp2_with fail
                refine (untapNil_any (one_int w11 0) (by decide)).mono ?_
                rintro e w12 ⟨rfl, hb12⟩
                have HB12 := Lib.hid (stepB (below_alloc2 HB11.out _) hb12)
                clear hb12
                dsimp only
                go_wp2_with fail
                refine (has_of (landsNil_any 0 w12) (by decide)).mono ?_
                rintro e w13 ⟨rfl, hb13⟩
                have HB13 := Lib.hid (stepB HB12.out hb13)
                clear hb13
                dsimp only
                go_wp2_with fail
                refine (can_of (cost := 0) (landsNil_any 0 w13) (by decide)).mono ?_
                rintro e w14 ⟨rfl, hb14⟩
                have HB14 := Lib.hid (stepB HB13.out hb14)
                clear hb14
                dsimp only
                go_wp2_with fail
                refine (can_of (cost := 1) (landsNil_any 0 w14) (by decide)).mono ?_
                rintro e w15 ⟨rfl, hb15⟩
                have HB15 := Lib.hid (stepB HB14.out hb15)
                clear hb15
                dsimp only
                go_wp2
                go_ret
                exact ⟨ret_bool (by simp), HB15.out⟩
  · obtain ⟨k, rfl⟩ : ∃ k : Nat, id = (k : Int) + 1 := ⟨(id - 1).toNat, by omega⟩
    have hk : k < l.length := by omega
    have d1 : decide ((k : Int) + 1 < 1) = false := decide_eq_false (by omega)
    have d2 : decide ((l.length : Int) < (k : Int) + 1) = false := decide_eq_false (by omega)
    have d3 : (k : Int) + 1 - 1 = k := by omega
    have d4 : (0 : Int) ≤ k := by omega
    have d5 : (k : Int) < l.length := by omega
    have hkS : k < S.objs.length := by rw [HM.out.len]; exact hk
    have hobj : S.objs[k] = objT k l[k] := by
      have : ∀ (L : List ObjL) (hL : L = objsT l) (hh : k < L.length), L[k] = objT k l[k] := fun L hL hh => by subst hL; exact objsT_get l k hk
      exact this _ HM.out.objs hkS
    have hzo : S.objs[k].zone = l[k].zone := by rw [hobj]; rfl
    have hto : S.objs[k].tapped = l[k].tapped := by rw [hobj]; rfl
    by_cases hz : l[k].zone = 3
    · by_cases ht : l[k].tapped = true
      · have HT := Lib.hid ((taps_not HS2.out HSL.out k hkS).2 (by rw [hzo]; exact hz) (by rw [hto]; exact ht))
        clear hid hobj hzo hto
        go_wp2_with fail
        refine HT.out.mono ?_
        rintro e w4 ⟨rfl, hb4⟩
        obtain ⟨tb, off, rfl, t0, t1, t2, t3, t4⟩ := (HU.out.later (stepB HB2.out hb4)).at k hk
        rw [hz] at t2
        rw [ht] at t3
        have HB4 := Lib.hid (stepB HB2.out hb4)
        have HS4 := Lib.hid (HS2.out.later hb4)
        have HTH := Lib.hid (show ∀ (w' : World) (G' : Ghost), Turned w4 w' G G' → ThingsAt w' (.slice (some ⟨tb, off, none⟩) l.length uc) l from fun w' G' ht => HTH0.out w' G' ((Turned.of_below hb4).trans ht))
        have HM4 := HM
        have HPL := HPL0
        clear hb4 HT HTH0 hz ht
        dsimp only
        as_aux_lemma =>
          have HCN := Lib.hid (untapN_made HM4.out os)
          have HLT := Lib.hid (show l.length ≤ 40 from HPL.out.1)
          have hl40 := HLT.out
          have HTW := Lib.hid (HTH.out w4 G (Turned.of_below (Below.refl _ _)))
          have HUN := Lib.hid (fun (w' : World) (hb : Below w4.heap.size w4 w') => untap_any (HS4.out.later hb) HM4.out.wf (by rw [HM4.out.len]; omega) (HV.out.later (stepB HB4.out hb)) (by omega))
          go_wp2
          go_loopw [11, 86] (fun c i wr => ∃ k : Nat, k ≤ l.length ∧ i = .int .i64 k ∧ c = .int .i64 (cntT os (l.take k)) ∧ Hid (Below w4.heap.size w4 wr)) (fun _ i _ => l.length - (intOf i).toNat)
          case atStart => exact ⟨0, Nat.zero_le _, rfl, by rw [List.take_zero]; rfl, Lib.hid (Below.refl _ _)⟩
          case round =>
            obtain ⟨k, hk, rfl, rfl, HBR⟩ := hrel
            by_cases hlt : k < l.length
            · obtain ⟨tb, off, hta, t0, t1, t2, t3, t4⟩ := (HTW.out.later HBR.out).at k hlt
              have hsn := cntT_snoc os (l.take k) l[k]
              have htk := take_last l k hlt
              have hcl := cntT_le os (l.take k)
              rw [List.length_take] at hcl
              obtain ⟨x, hx⟩ : ∃ x, l[k] = x := ⟨_, rfl⟩
              rw [hx] at t0 t1 t2 t3 t4 htk hsn
              rw [← htk] at hsn
              obtain ⟨x0, x1, x2, tp, sk⟩ := x
              have HSN := Lib.hid hsn
              obtain ⟨cq, hcq⟩ : ∃ cq, cntT os (l.take k) = cq := ⟨_, rfl⟩
              rw [hcq] at HSN hcl ⊢
              have hcq40 : cq ≤ 40 := by omega
              cases hta
              clear hx htk hsn hcq hcl
              by_cases hz : x2 = 3
              · subst hz
                obtain ⟨hb, hhb⟩ : ∃ hb, decide (x1 ∈ os) = hb := ⟨_, rfl⟩
                have HHR := Lib.hid (hasRef_any x1 (HV.out.later (stepB (stepB HB4.out HBR.out) (below_new wr (.cells #[.int .i64 x0, .int .i64 x1, .int .i64 3, .bool tp, .bool sk] 62)))) (by omega))
                rw [hhb] at HHR
                have HAW := Lib.hid (show awayT os ⟨x0, x1, 3, tp, sk⟩ = (hb && (tp || sk)) by unfold awayT onT; rw [hhb]; rfl)
                rw [HAW.out] at HSN
                clear hhb HAW
                go_wp2_with fail
                refine HHR.out.mono ?_
                rintro e w5 ⟨rfl, rfl⟩
                dsimp only
                have HB5 := Lib.hid (below_alloc2 HBR.out (.cells #[.int .i64 x0, .int .i64 x1, .int .i64 3, .bool tp, .bool sk] 62))
                cases hb <;> cases tp <;> cases sk
                all_goals
                  go_wp2
                  go_roundw
                  case rel => exact ⟨k + 1, by omega, by go_num, by rw [HSN.out]; simp, HB5⟩
                  case measure => simp [intOf]; omega
              · have e3 : (x2 == 3) = false := beq_eq_false_iff_ne.2 hz
                have HAW := Lib.hid (show awayT os ⟨x0, x1, x2, tp, sk⟩ = false by unfold awayT onT; rw [decide_eq_false hz]; rfl)
                rw [HAW.out] at HSN
                have HB5 := Lib.hid (below_alloc2 HBR.out (.cells #[.int .i64 x0, .int .i64 x1, .int .i64 x2, .bool tp, .bool sk] 62))
                clear hz HAW
                go_wp2
                go_roundw
                case rel => exact ⟨k + 1, by omega, by go_num, by rw [HSN.out]; simp, HB5⟩
                case measure => simp [intOf]; omega
            · obtain rfl : k = l.length := by omega
              rw [List.take_length]
              obtain ⟨wA, rfl⟩ : ∃ wA, wA = wr := ⟨_, rfl⟩
              have hu1 := HUN.out wA HBR.out
              rw [HCN.out] at hu1
              obtain ⟨cq, hcq⟩ : ∃ cq, cntT os l = cq := ⟨_, rfl⟩
              rw [hcq] at hu1 ⊢
              have HU1 := Lib.hid hu1
              have ecq : ((cq : Int) != (cq : Int)) = false := bne_self_eq_false _
              clear hu1 hcq
              go_wp2_with fail
              refine HU1.out.mono ?_
              rintro e w6 ⟨rfl, G6, hs6, ht6⟩
              have HT6 := Lib.hid ((Turned.of_below HBR.out).trans ht6)
              have HB6 := Lib.hid (HT6.out.below HB4.out (fun k hk => Nat.le_trans HLO.out (HS4.out.low k hk)))
              have hu2 := untap_any hs6 (untapL_wf HM4.out.wf os) (by rw [untapL_len, HM4.out.len]; omega) (HV.out.later HB6.out) (by omega)
              rw [(untap_again _ os).1, (untap_again _ os).2, show ((0 : Nat) : Int) = 0 from rfl] at hu2
              have HU2 := Lib.hid hu2
              clear hs6 ht6 hu2 HU1
              dsimp only
              go_wp2_with fail
              refine HU2.out.mono ?_
              rintro e w7 ⟨rfl, G7, hs7, ht7⟩
              have HS7 := Lib.hid hs7
              have HT7 := Lib.hid (HT6.out.trans ht7)
              have HB7 := Lib.hid (HT7.out.below HB4.out (fun k hk => Nat.le_trans HLO.out (HS4.out.low k hk)))
              have HTW7 := Lib.hid (HTH.out w7 G7 HT7.out)
              clear hs7 ht7 HU2
              dsimp only
              go_wp2
              go_loopw [123] (fun i wr => ∃ k : Nat, k ≤ l.length ∧ i = .int .i64 k ∧ Hid (Below w7.heap.size w7 wr)) (fun i _ => l.length - (intOf i).toNat)
              case atStart => exact ⟨0, Nat.zero_le _, rfl, Lib.hid (Below.refl _ _)⟩
              case round =>
                obtain ⟨k, hk, rfl, HR⟩ := hrel
                by_cases hlt : k < l.length
                · obtain ⟨tb, off, hta, t0, t1, t2, t3, t4⟩ := (HTW7.out.later HR.out).at k hlt
                  obtain ⟨hkk, hget⟩ := untap_get HM4.out os k hlt
                  obtain ⟨x, hx⟩ : ∃ x, l[k] = x := ⟨_, rfl⟩
                  rw [hx] at t0 t1 t2 t3 t4 hget
                  obtain ⟨x0, x1, x2, tp, sk⟩ := x
                  dsimp only at hget
                  have hgi := get_in (HS7.out.later (stepB HR.out (below_new wr (.cells #[.int .i64 x0, .int .i64 x1, .int .i64 x2, .bool tp, .bool sk] 62)))) (by rw [untapL_len, HM4.out.len]; omega) k hkk
                  rw [hget] at hgi
                  obtain ⟨ta, hta1⟩ : ∃ ta, (tp && !onT os ⟨x0, x1, x2, tp, sk⟩) = ta := ⟨_, rfl⟩
                  obtain ⟨sa, hsa1⟩ : ∃ sa, (sk && !onT os ⟨x0, x1, x2, tp, sk⟩) = sa := ⟨_, rfl⟩
                  rw [hta1, hsa1] at hgi
                  unfold RetGet oagg at hgi
                  dsimp only at hgi
                  have HGI := Lib.hid hgi
                  have kt : ∀ j, (wr.alloc (.cells #[.int .i64 x0, .int .i64 x1, .int .i64 x2, .bool tp, .bool sk] 62)).cell? ⟨wr.heap.size, j, none⟩ = (#[.int .i64 x0, .int .i64 x1, .int .i64 x2, .bool tp, .bool sk] : Array Value)[j]? := fun j => cell_of_row _ _ j _ _ _ (heap_alloc_new wr _)
                  have HK1 := Lib.hid (show (wr.alloc (.cells #[.int .i64 x0, .int .i64 x1, .int .i64 x2, .bool tp, .bool sk] 62)).cell? ⟨wr.heap.size, 1, none⟩ = some (.int .i64 x1) from kt 1)
                  have HK2 := Lib.hid (show (wr.alloc (.cells #[.int .i64 x0, .int .i64 x1, .int .i64 x2, .bool tp, .bool sk] 62)).cell? ⟨wr.heap.size, 2, none⟩ = some (.int .i64 x2) from kt 2)
                  have HK3 := Lib.hid (show (wr.alloc (.cells #[.int .i64 x0, .int .i64 x1, .int .i64 x2, .bool tp, .bool sk] 62)).cell? ⟨wr.heap.size, 3, none⟩ = some (.bool tp) from kt 3)
                  have HK4 := Lib.hid (show (wr.alloc (.cells #[.int .i64 x0, .int .i64 x1, .int .i64 x2, .bool tp, .bool sk] 62)).cell? ⟨wr.heap.size, 4, none⟩ = some (.bool sk) from kt 4)
                  have HTA := Lib.hid hta1
                  have HSA := Lib.hid hsa1
                  cases hta
                  clear hx hgi hget hkk hta1 hsa1 kt
                  go_wp2_with fail
                  refine HGI.out.mono ?_
                  rintro e w8 ⟨rfl, hb8⟩
                  have hb9 := stepB hb8 (below_new w8 (.cells #[.int .i64 ((k : Int) + 1), .int .i64 x0, .int .i64 x1, .int .i64 x2, .bool ta, .bool sa, .int .i64 0, .int .i64 0, .int .i64 0, .int .i64 0, .bool false] 32))
                  have r1 := cell_stays hb9 HK1.out
                  have r2 := cell_stays hb9 HK2.out
                  have r3 := cell_stays hb9 HK3.out
                  have r4 := cell_stays hb9 HK4.out
                  have HB9 := Lib.hid (stepB (below_alloc2 HR.out _) hb9)
                  clear hb8 hb9 HGI t0 t1 t2 t3 t4
                  dsimp only
                  by_cases hz : x2 = 3
                  · subst hz
                    obtain ⟨hb, hhb⟩ : ∃ hb, decide (x1 ∈ os) = hb := ⟨_, rfl⟩
                    have HHR := Lib.hid (hasRef_any x1 (HV.out.later (stepB HB7.out HB9.out)) (by omega))
                    rw [hhb] at HHR
                    have hon : onT os ⟨x0, x1, 3, tp, sk⟩ = hb := by unfold onT; rw [hhb]; rfl
                    have hta2 := HTA.out
                    have hsa2 := HSA.out
                    rw [hon] at hta2 hsa2
                    clear hhb hon HTA HSA
                    go_wp2_with fail
                    refine HHR.out.mono ?_
                    rintro e w10 ⟨rfl, rfl⟩
                    dsimp only
                    cases hb <;> cases tp <;> cases sk
                    all_goals
                      simp at hta2 hsa2
                      subst hta2 hsa2
                      go_wp2
                      go_roundw
                      case rel => exact ⟨k + 1, by omega, by go_num, HB9⟩
                      case measure => simp [intOf]; omega
                  · have e3 : (x2 == 3) = false := beq_eq_false_iff_ne.2 hz
                    have hon : onT os ⟨x0, x1, x2, tp, sk⟩ = false := by unfold onT; rw [decide_eq_false hz]; rfl
                    have hta2 := HTA.out
                    have hsa2 := HSA.out
                    rw [hon] at hta2 hsa2
                    clear hz hon HTA HSA
                    cases tp <;> cases sk
                    all_goals
                      simp at hta2 hsa2
                      subst hta2 hsa2
                      go_wp2
                      go_roundw
                      case rel => exact ⟨k + 1, by omega, by go_num, HB9⟩
                      case measure => simp [intOf]; omega
                · obtain rfl : k = l.length := by omega
                  have HBE := Lib.hid (stepB HB7.out HR.out)
                  obtain ⟨wE, rfl⟩ : ∃ wE, wE = wr := ⟨_, rfl⟩
                  go_wp2_with fail
                  refine (pay_neg none 0 0 (.inl rfl)).mono ?_
                  rintro e w10 ⟨rfl, rfl⟩
                  dsimp only
                  go_wp2_with fail
                  refine (taps_out (by decide) (get_nil 1 _)).mono ?_
                  rintro e w11 ⟨rfl, hb11⟩
                  have HB11 := Lib.hid (stepB HBE.out hb11)
                  clear hb11
                  dsimp only
                  go_wp2_with fail
                  refine (untapNil_any (one_int w11 0) (by decide)).mono ?_
                  rintro e w12 ⟨rfl, hb12⟩
                  have HB12 := Lib.hid (stepB (below_alloc2 HB11.out _) hb12)
                  clear hb12
                  dsimp only
                  go_wp2_with fail
                  refine (has_of (landsNil_any 0 w12) (by decide)).mono ?_
                  rintro e w13 ⟨rfl, hb13⟩
                  have HB13 := Lib.hid (stepB HB12.out hb13)
                  clear hb13
                  dsimp only
                  go_wp2_with fail
                  refine (can_of (cost := 0) (landsNil_any 0 w13) (by decide)).mono ?_
                  rintro e w14 ⟨rfl, hb14⟩
                  have HB14 := Lib.hid (stepB HB13.out hb14)
                  clear hb14
                  dsimp only
                  go_wp2_with fail
                  refine (can_of (cost := 1) (landsNil_any 0 w14) (by decide)).mono ?_
                  rintro e w15 ⟨rfl, hb15⟩
                  have HB15 := Lib.hid (stepB HB14.out hb15)
                  clear hb15
                  dsimp only
                  go_wp2
                  go_ret
                  exact ⟨ret_bool (by simp), HB15.out⟩
      · have ht : l[k].tapped = false := by simpa using ht
        have HT := Lib.hid (taps_ok HS2.out HM.out.wf HSL.out k hkS (by rw [hzo]; exact hz) (by rw [hto]; exact ht))
        rw [hobj] at HT
        clear hid
        go_wp2_with fail
        refine HT.out.mono ?_
        rintro e w3 ⟨rfl, G3, hs3, ht3⟩
        obtain ⟨tb, off, rfl, t0, t1, t2, t3, t4⟩ := (HTH0.out w3 G3 ht3).at k hk
        have hth3 := HTH0.out w3 G3 ht3
        rw [hz] at t2
        rw [ht] at t3
        have hg := get_in hs3 (by show (S.objs.set k _).length ≤ 1000; rw [List.length_set]; exact HSL.out) k (by show k < (S.objs.set k _).length; rw [List.length_set]; exact hkS)
        have hgo : (setL S k (tapO (objT k l[k]))).objs[k]'(by show k < (S.objs.set k _).length; rw [List.length_set]; exact hkS) = ⟨(k : Int) + 1, l[k].card, l[k].owner, l[k].zone, true, l[k].sick, 0, 0, 0, 0, false⟩ := by
          simp only [setL, List.getElem_set_self]
          rfl
        rw [hgo] at hg
        unfold RetGet oagg at hg
        dsimp only at hg
        have HG3 := Lib.hid hg
        have HS3 := Lib.hid hs3
        have HT3 := Lib.hid ht3
        have HTH3 := Lib.hid hth3
        clear hg hgo hs3 ht3 hth3 hobj hzo hto HT
        dsimp only
        go_wp2_with fail
        refine HG3.out.mono ?_
        rintro e w5 ⟨rfl, hb5⟩
        have HB5 := Lib.hid hb5
        have t0' := cell_stays hb5 t0
        clear hb5
        obtain ⟨i0, hi0, hz0, hz1, hz2⟩ := info_parts info_thing
        have HTL := Lib.hid (thingsV_len l)
        have hb7 := stepB (stepB HB5.out (below_new w5 (.cells #[.int .i64 ((k : Int) + 1), .int .i64 l[k].card, .int .i64 l[k].owner, .int .i64 3, .bool true, .bool l[k].sick, .int .i64 0, .int .i64 0, .int .i64 0, .int .i64 0, .bool false] 32))) (below_new _ (.cells #[] 62))
        have HNW := Lib.hid (things_news (HTH3.out.later hb7))
        have HB7 := Lib.hid hb7
        have hown0 : ((w5.alloc (.cells #[.int .i64 ((k : Int) + 1), .int .i64 l[k].card, .int .i64 l[k].owner, .int .i64 3, .bool true, .bool l[k].sick, .int .i64 0, .int .i64 0, .int .i64 0, .int .i64 0, .bool false] 32)).alloc (.cells #[] 62)).ownsRow (w5.heap.size + 1) 62 5 (.slice (some ⟨w5.heap.size + 1, 0, none⟩) 0 0) 0 [] :=
          ⟨rfl, .inr ⟨w5.heap.size + 1, 0, #[], rfl, Nat.le_refl _, heap_two _ _ _, Nat.le_refl _, Nat.zero_le _, rfl, rfl⟩⟩
        have HW0 := Lib.hid hown0
        have hpos : 0 < l.length := by omega
        clear hb7 hown0 t0 t1 t2 t3 t4 t0'
        rw [hz] at *
        dsimp only
        go_wp2_with (at_builtin; refine wpList_append_lies _ rfl _ _ 59 rfl (w5.heap.size + 1) 62 i0 _ 5 32 Try.underlying59 hi0 hz0 hz1 hz2 rfl (by decide) (.slice (some ⟨w5.heap.size + 1, 0, none⟩) 0 0) 0 [] rfl HW0.out ⟨tb, off, none⟩ l.length uc (thingsV l) rfl HTL.out HNW.out (thingsV_one _) hpos (by unfold maxLen; omega) (by omega) (by simp) _ rfl ?_)
        intro g cap w6 hown hgrow hat hlt6
        have hfz := own_fz hown (k * 5 + 3)
        obtain ⟨g', off', hgg, _, _, _, t3', _⟩ := (things_own hown).at k hk
        injection hgg with hgg
        injection hgg with hg1 hg2
        subst hg1 hg2
        rw [Nat.zero_add] at t3'
        have hgb : w5.heap.size + 1 ≤ g := (World.ownsRow.lt hown g rfl).1
        have hb6 : Below w3.heap.size w3 w6 := HB7.out.grown hgrow HB7.out.size (fun c e => by have e1 : w5.heap.size + 1 = c := Option.some.inj e; have := HB5.out.size; omega)
        have hb8 : Below w3.heap.size w3 (w6.setCell ⟨g, k * 5 + 3, none⟩ (.bool true)) := hb6.setCell (p := ⟨g, k * 5 + 3, none⟩) (by have := HB5.out.size; show w3.heap.size ≤ g; omega) _
        have hown7 := (hown.stored (k * 5 + 3) (.bool true)).1
        rw [thingsV_tap l k hk] at hown7
        have HG0 := Lib.hid (show G3.tag g = .no from HS3.out.high g (by have := HB5.out.size; omega))
        have HB4 := Lib.hid (stepB (HT3.out.below HB2.out (fun q hq => Nat.le_trans HLO.out (HS2.out.low q hq))) hb8)
        have HS4 := Lib.hid (HS3.out.later hb8)
        have HM4 := Lib.hid (HM.out.tap k hk)
        have HPL := Lib.hid (HPL0.out.tap k hk)
        have hll : l.length = (l.set k (tapT l[k])).length := by rw [List.length_set]
        obtain ⟨l1, hl1⟩ : ∃ l1, l.set k (tapT l[k]) = l1 := ⟨_, rfl⟩
        rw [hl1] at hown7 HM4 HPL hll
        rw [hll] at hown7
        obtain ⟨w4, hw4⟩ : ∃ w4, w6.setCell ⟨g, k * 5 + 3, none⟩ (.bool true) = w4 := ⟨_, rfl⟩
        rw [hw4] at hown7 HB4 HS4
        have HTH := Lib.hid (show ∀ (w' : World) (G' : Ghost), Turned w4 w' G3 G' → ThingsAt w' (.slice (some ⟨g, 0, none⟩) l1.length cap) l1 from fun w' G' ht => things_own (own11_later hown7 fun q hq => ht.chg.block q (World.ownsRow.lt hown7 q hq).2 (.inl (by injection hq with hq; rw [← hq]; exact HG0.out))))
        have HLL := Lib.hid hll
        have HW4 := Lib.hid hw4
        clear hown hgrow hat hlt6 hgb hb6 hb8 hown7 hll hl1 hw4 HNW HW0 HTL HB7 HTH0 HTH3 HG3 hi0 hz0 hz1 hz2
        go_wp2
        rw [HW4.out, HLL.out]

        as_aux_lemma =>
          have HCN := Lib.hid (untapN_made HM4.out os)
          have HLT := Lib.hid (show l1.length ≤ 40 from HPL.out.1)
          have hl40 := HLT.out
          have HTW := Lib.hid (HTH.out w4 G3 (Turned.of_below (Below.refl _ _)))
          have HUN := Lib.hid (fun (w' : World) (hb : Below w4.heap.size w4 w') => untap_any (HS4.out.later hb) HM4.out.wf (by rw [HM4.out.len]; omega) (HV.out.later (stepB HB4.out hb)) (by omega))
          go_loopw [11, 86] (fun c i wr => ∃ k : Nat, k ≤ l1.length ∧ i = .int .i64 k ∧ c = .int .i64 (cntT os (l1.take k)) ∧ Hid (Below w4.heap.size w4 wr)) (fun _ i _ => l1.length - (intOf i).toNat)
          case atStart => exact ⟨0, Nat.zero_le _, rfl, by rw [List.take_zero]; rfl, Lib.hid (Below.refl _ _)⟩
          case round =>
            obtain ⟨k, hk, rfl, rfl, HBR⟩ := hrel
            by_cases hlt : k < l1.length
            · obtain ⟨tb, off, hta, t0, t1, t2, t3, t4⟩ := (HTW.out.later HBR.out).at k hlt
              have hsn := cntT_snoc os (l1.take k) l1[k]
              have htk := take_last l1 k hlt
              have hcl := cntT_le os (l1.take k)
              rw [List.length_take] at hcl
              obtain ⟨x, hx⟩ : ∃ x, l1[k] = x := ⟨_, rfl⟩
              rw [hx] at t0 t1 t2 t3 t4 htk hsn
              rw [← htk] at hsn
              obtain ⟨x0, x1, x2, tp, sk⟩ := x
              have HSN := Lib.hid hsn
              obtain ⟨cq, hcq⟩ : ∃ cq, cntT os (l1.take k) = cq := ⟨_, rfl⟩
              rw [hcq] at HSN hcl ⊢
              have hcq40 : cq ≤ 40 := by omega
              cases hta
              simp only [Nat.zero_add] at t0 t1 t2 t3 t4
              clear hx htk hsn hcq hcl
              by_cases hz : x2 = 3
              · subst hz
                obtain ⟨hb, hhb⟩ : ∃ hb, decide (x1 ∈ os) = hb := ⟨_, rfl⟩
                have HHR := Lib.hid (hasRef_any x1 (HV.out.later (stepB (stepB HB4.out HBR.out) (below_new wr (.cells #[.int .i64 x0, .int .i64 x1, .int .i64 3, .bool tp, .bool sk] 62)))) (by omega))
                rw [hhb] at HHR
                have HAW := Lib.hid (show awayT os ⟨x0, x1, 3, tp, sk⟩ = (hb && (tp || sk)) by unfold awayT onT; rw [hhb]; rfl)
                rw [HAW.out] at HSN
                clear hhb HAW
                go_wp2_with fail
                refine HHR.out.mono ?_
                rintro e w5 ⟨rfl, rfl⟩
                dsimp only
                have HB5 := Lib.hid (below_alloc2 HBR.out (.cells #[.int .i64 x0, .int .i64 x1, .int .i64 3, .bool tp, .bool sk] 62))
                cases hb <;> cases tp <;> cases sk
                all_goals
                  go_wp2
                  go_roundw
                  case rel => exact ⟨k + 1, by omega, by go_num, by rw [HSN.out]; simp, HB5⟩
                  case measure => simp [intOf]; omega
              · have e3 : (x2 == 3) = false := beq_eq_false_iff_ne.2 hz
                have HAW := Lib.hid (show awayT os ⟨x0, x1, x2, tp, sk⟩ = false by unfold awayT onT; rw [decide_eq_false hz]; rfl)
                rw [HAW.out] at HSN
                have HB5 := Lib.hid (below_alloc2 HBR.out (.cells #[.int .i64 x0, .int .i64 x1, .int .i64 x2, .bool tp, .bool sk] 62))
                clear hz HAW
                go_wp2
                go_roundw
                case rel => exact ⟨k + 1, by omega, by go_num, by rw [HSN.out]; simp, HB5⟩
                case measure => simp [intOf]; omega
            · obtain rfl : k = l1.length := by omega
              rw [List.take_length]
              obtain ⟨wA, rfl⟩ : ∃ wA, wA = wr := ⟨_, rfl⟩
              have hu1 := HUN.out wA HBR.out
              rw [HCN.out] at hu1
              obtain ⟨cq, hcq⟩ : ∃ cq, cntT os l1 = cq := ⟨_, rfl⟩
              rw [hcq] at hu1 ⊢
              have HU1 := Lib.hid hu1
              have ecq : ((cq : Int) != (cq : Int)) = false := bne_self_eq_false _
              clear hu1 hcq
              go_wp2_with fail
              refine HU1.out.mono ?_
              rintro e w6 ⟨rfl, G6, hs6, ht6⟩
              have HT6 := Lib.hid ((Turned.of_below HBR.out).trans ht6)
              have HB6 := Lib.hid (HT6.out.below HB4.out (fun k hk => Nat.le_trans HLO.out (HS4.out.low k hk)))
              have hu2 := untap_any hs6 (untapL_wf HM4.out.wf os) (by rw [untapL_len, HM4.out.len]; omega) (HV.out.later HB6.out) (by omega)
              rw [(untap_again _ os).1, (untap_again _ os).2, show ((0 : Nat) : Int) = 0 from rfl] at hu2
              have HU2 := Lib.hid hu2
              clear hs6 ht6 hu2 HU1
              dsimp only
              go_wp2_with fail
              refine HU2.out.mono ?_
              rintro e w7 ⟨rfl, G7, hs7, ht7⟩
              have HS7 := Lib.hid hs7
              have HT7 := Lib.hid (HT6.out.trans ht7)
              have HB7 := Lib.hid (HT7.out.below HB4.out (fun k hk => Nat.le_trans HLO.out (HS4.out.low k hk)))
              have HTW7 := Lib.hid (HTH.out w7 G7 HT7.out)
              clear hs7 ht7 HU2
              dsimp only
              go_wp2
              go_loopw [123] (fun i wr => ∃ k : Nat, k ≤ l1.length ∧ i = .int .i64 k ∧ Hid (Below w7.heap.size w7 wr)) (fun i _ => l1.length - (intOf i).toNat)
              case atStart => exact ⟨0, Nat.zero_le _, rfl, Lib.hid (Below.refl _ _)⟩
              case round =>
                obtain ⟨k, hk, rfl, HR⟩ := hrel
                by_cases hlt : k < l1.length
                · obtain ⟨tb, off, hta, t0, t1, t2, t3, t4⟩ := (HTW7.out.later HR.out).at k hlt
                  obtain ⟨hkk, hget⟩ := untap_get HM4.out os k hlt
                  obtain ⟨x, hx⟩ : ∃ x, l1[k] = x := ⟨_, rfl⟩
                  rw [hx] at t0 t1 t2 t3 t4 hget
                  obtain ⟨x0, x1, x2, tp, sk⟩ := x
                  dsimp only at hget
                  have hgi := get_in (HS7.out.later (stepB HR.out (below_new wr (.cells #[.int .i64 x0, .int .i64 x1, .int .i64 x2, .bool tp, .bool sk] 62)))) (by rw [untapL_len, HM4.out.len]; omega) k hkk
                  rw [hget] at hgi
                  obtain ⟨ta, hta1⟩ : ∃ ta, (tp && !onT os ⟨x0, x1, x2, tp, sk⟩) = ta := ⟨_, rfl⟩
                  obtain ⟨sa, hsa1⟩ : ∃ sa, (sk && !onT os ⟨x0, x1, x2, tp, sk⟩) = sa := ⟨_, rfl⟩
                  rw [hta1, hsa1] at hgi
                  unfold RetGet oagg at hgi
                  dsimp only at hgi
                  have HGI := Lib.hid hgi
                  have kt : ∀ j, (wr.alloc (.cells #[.int .i64 x0, .int .i64 x1, .int .i64 x2, .bool tp, .bool sk] 62)).cell? ⟨wr.heap.size, j, none⟩ = (#[.int .i64 x0, .int .i64 x1, .int .i64 x2, .bool tp, .bool sk] : Array Value)[j]? := fun j => cell_of_row _ _ j _ _ _ (heap_alloc_new wr _)
                  have HK1 := Lib.hid (show (wr.alloc (.cells #[.int .i64 x0, .int .i64 x1, .int .i64 x2, .bool tp, .bool sk] 62)).cell? ⟨wr.heap.size, 1, none⟩ = some (.int .i64 x1) from kt 1)
                  have HK2 := Lib.hid (show (wr.alloc (.cells #[.int .i64 x0, .int .i64 x1, .int .i64 x2, .bool tp, .bool sk] 62)).cell? ⟨wr.heap.size, 2, none⟩ = some (.int .i64 x2) from kt 2)
                  have HK3 := Lib.hid (show (wr.alloc (.cells #[.int .i64 x0, .int .i64 x1, .int .i64 x2, .bool tp, .bool sk] 62)).cell? ⟨wr.heap.size, 3, none⟩ = some (.bool tp) from kt 3)
                  have HK4 := Lib.hid (show (wr.alloc (.cells #[.int .i64 x0, .int .i64 x1, .int .i64 x2, .bool tp, .bool sk] 62)).cell? ⟨wr.heap.size, 4, none⟩ = some (.bool sk) from kt 4)
                  have HTA := Lib.hid hta1
                  have HSA := Lib.hid hsa1
                  cases hta
                  simp only [Nat.zero_add] at t0 t1 t2 t3 t4
                  clear hx hgi hget hkk hta1 hsa1 kt
                  go_wp2_with fail
                  refine HGI.out.mono ?_
                  rintro e w8 ⟨rfl, hb8⟩
                  have hb9 := stepB hb8 (below_new w8 (.cells #[.int .i64 ((k : Int) + 1), .int .i64 x0, .int .i64 x1, .int .i64 x2, .bool ta, .bool sa, .int .i64 0, .int .i64 0, .int .i64 0, .int .i64 0, .bool false] 32))
                  have r1 := cell_stays hb9 HK1.out
                  have r2 := cell_stays hb9 HK2.out
                  have r3 := cell_stays hb9 HK3.out
                  have r4 := cell_stays hb9 HK4.out
                  have HB9 := Lib.hid (stepB (below_alloc2 HR.out _) hb9)
                  clear hb8 hb9 HGI t0 t1 t2 t3 t4
                  dsimp only
                  by_cases hz : x2 = 3
                  · subst hz
                    obtain ⟨hb, hhb⟩ : ∃ hb, decide (x1 ∈ os) = hb := ⟨_, rfl⟩
                    have HHR := Lib.hid (hasRef_any x1 (HV.out.later (stepB HB7.out HB9.out)) (by omega))
                    rw [hhb] at HHR
                    have hon : onT os ⟨x0, x1, 3, tp, sk⟩ = hb := by unfold onT; rw [hhb]; rfl
                    have hta2 := HTA.out
                    have hsa2 := HSA.out
                    rw [hon] at hta2 hsa2
                    clear hhb hon HTA HSA
                    go_wp2_with fail
                    refine HHR.out.mono ?_
                    rintro e w10 ⟨rfl, rfl⟩
                    dsimp only
                    cases hb <;> cases tp <;> cases sk
                    all_goals
                      simp at hta2 hsa2
                      subst hta2 hsa2
                      go_wp2
                      go_roundw
                      case rel => exact ⟨k + 1, by omega, by go_num, HB9⟩
                      case measure => simp [intOf]; omega
                  · have e3 : (x2 == 3) = false := beq_eq_false_iff_ne.2 hz
                    have hon : onT os ⟨x0, x1, x2, tp, sk⟩ = false := by unfold onT; rw [decide_eq_false hz]; rfl
                    have hta2 := HTA.out
                    have hsa2 := HSA.out
                    rw [hon] at hta2 hsa2
                    clear hz hon HTA HSA
                    cases tp <;> cases sk
                    all_goals
                      simp at hta2 hsa2
                      subst hta2 hsa2
                      go_wp2
                      go_roundw
                      case rel => exact ⟨k + 1, by omega, by go_num, HB9⟩
                      case measure => simp [intOf]; omega
                · obtain rfl : k = l1.length := by omega
                  have HBE := Lib.hid (stepB HB7.out HR.out)
                  obtain ⟨wE, rfl⟩ : ∃ wE, wE = wr := ⟨_, rfl⟩
                  go_wp2_with fail
                  refine (pay_neg none 0 0 (.inl rfl)).mono ?_
                  rintro e w10 ⟨rfl, rfl⟩
                  dsimp only
                  go_wp2_with fail
                  refine (taps_out (by decide) (get_nil 1 _)).mono ?_
                  rintro e w11 ⟨rfl, hb11⟩
                  have HB11 := Lib.hid (stepB HBE.out hb11)
                  clear hb11
                  dsimp only
                  go_wp2_with fail
                  refine (untapNil_any (one_int w11 0) (by decide)).mono ?_
                  rintro e w12 ⟨rfl, hb12⟩
                  have HB12 := Lib.hid (stepB (below_alloc2 HB11.out _) hb12)
                  clear hb12
                  dsimp only
                  go_wp2_with fail
                  refine (has_of (landsNil_any 0 w12) (by decide)).mono ?_
                  rintro e w13 ⟨rfl, hb13⟩
                  have HB13 := Lib.hid (stepB HB12.out hb13)
                  clear hb13
                  dsimp only
                  go_wp2_with fail
                  refine (can_of (cost := 0) (landsNil_any 0 w13) (by decide)).mono ?_
                  rintro e w14 ⟨rfl, hb14⟩
                  have HB14 := Lib.hid (stepB HB13.out hb14)
                  clear hb14
                  dsimp only
                  go_wp2_with fail
                  refine (can_of (cost := 1) (landsNil_any 0 w14) (by decide)).mono ?_
                  rintro e w15 ⟨rfl, hb15⟩
                  have HB15 := Lib.hid (stepB HB14.out hb15)
                  clear hb15
                  dsimp only
                  go_wp2
                  go_ret
                  exact ⟨ret_bool (by simp), HB15.out⟩
    · have HT := Lib.hid ((taps_not HS2.out HSL.out k hkS).1 (by rw [hzo]; exact hz))
      clear hid hobj hzo hto
      obtain ⟨z, hzz⟩ : ∃ z, l[k].zone = z := ⟨_, rfl⟩
      rw [hzz] at hz
      have e3 : (z != 3) = true := bne_iff_ne.2 hz
      go_wp2_with fail
      refine HT.out.mono ?_
      rintro e w4 ⟨rfl, hb4⟩
      obtain ⟨tb, off, rfl, t0, t1, t2, t3, t4⟩ := (HU.out.later (stepB HB2.out hb4)).at k hk
      rw [hzz] at t2
      have HB4 := Lib.hid (stepB HB2.out hb4)
      have HS4 := Lib.hid (HS2.out.later hb4)
      have HTH := Lib.hid (show ∀ (w' : World) (G' : Ghost), Turned w4 w' G G' → ThingsAt w' (.slice (some ⟨tb, off, none⟩) l.length uc) l from fun w' G' ht => HTH0.out w' G' ((Turned.of_below hb4).trans ht))
      have HM4 := HM
      have HPL := HPL0
      clear hb4 HT HTH0 hz hzz
      dsimp only
      as_aux_lemma =>
        have HCN := Lib.hid (untapN_made HM4.out os)
        have HLT := Lib.hid (show l.length ≤ 40 from HPL.out.1)
        have hl40 := HLT.out
        have HTW := Lib.hid (HTH.out w4 G (Turned.of_below (Below.refl _ _)))
        have HUN := Lib.hid (fun (w' : World) (hb : Below w4.heap.size w4 w') => untap_any (HS4.out.later hb) HM4.out.wf (by rw [HM4.out.len]; omega) (HV.out.later (stepB HB4.out hb)) (by omega))
        go_wp2
        go_loopw [11, 86] (fun c i wr => ∃ k : Nat, k ≤ l.length ∧ i = .int .i64 k ∧ c = .int .i64 (cntT os (l.take k)) ∧ Hid (Below w4.heap.size w4 wr)) (fun _ i _ => l.length - (intOf i).toNat)
        case atStart => exact ⟨0, Nat.zero_le _, rfl, by rw [List.take_zero]; rfl, Lib.hid (Below.refl _ _)⟩
        case round =>
          obtain ⟨k, hk, rfl, rfl, HBR⟩ := hrel
          by_cases hlt : k < l.length
          · obtain ⟨tb, off, hta, t0, t1, t2, t3, t4⟩ := (HTW.out.later HBR.out).at k hlt
            have hsn := cntT_snoc os (l.take k) l[k]
            have htk := take_last l k hlt
            have hcl := cntT_le os (l.take k)
            rw [List.length_take] at hcl
            obtain ⟨x, hx⟩ : ∃ x, l[k] = x := ⟨_, rfl⟩
            rw [hx] at t0 t1 t2 t3 t4 htk hsn
            rw [← htk] at hsn
            obtain ⟨x0, x1, x2, tp, sk⟩ := x
            have HSN := Lib.hid hsn
            obtain ⟨cq, hcq⟩ : ∃ cq, cntT os (l.take k) = cq := ⟨_, rfl⟩
            rw [hcq] at HSN hcl ⊢
            have hcq40 : cq ≤ 40 := by omega
            cases hta
            clear hx htk hsn hcq hcl
            by_cases hz : x2 = 3
            · subst hz
              obtain ⟨hb, hhb⟩ : ∃ hb, decide (x1 ∈ os) = hb := ⟨_, rfl⟩
              have HHR := Lib.hid (hasRef_any x1 (HV.out.later (stepB (stepB HB4.out HBR.out) (below_new wr (.cells #[.int .i64 x0, .int .i64 x1, .int .i64 3, .bool tp, .bool sk] 62)))) (by omega))
              rw [hhb] at HHR
              have HAW := Lib.hid (show awayT os ⟨x0, x1, 3, tp, sk⟩ = (hb && (tp || sk)) by unfold awayT onT; rw [hhb]; rfl)
              rw [HAW.out] at HSN
              clear hhb HAW
              go_wp2_with fail
              refine HHR.out.mono ?_
              rintro e w5 ⟨rfl, rfl⟩
              dsimp only
              have HB5 := Lib.hid (below_alloc2 HBR.out (.cells #[.int .i64 x0, .int .i64 x1, .int .i64 3, .bool tp, .bool sk] 62))
              cases hb <;> cases tp <;> cases sk
              all_goals
                go_wp2
                go_roundw
                case rel => exact ⟨k + 1, by omega, by go_num, by rw [HSN.out]; simp, HB5⟩
                case measure => simp [intOf]; omega
            · have e3 : (x2 == 3) = false := beq_eq_false_iff_ne.2 hz
              have HAW := Lib.hid (show awayT os ⟨x0, x1, x2, tp, sk⟩ = false by unfold awayT onT; rw [decide_eq_false hz]; rfl)
              rw [HAW.out] at HSN
              have HB5 := Lib.hid (below_alloc2 HBR.out (.cells #[.int .i64 x0, .int .i64 x1, .int .i64 x2, .bool tp, .bool sk] 62))
              clear hz HAW
              go_wp2
              go_roundw
              case rel => exact ⟨k + 1, by omega, by go_num, by rw [HSN.out]; simp, HB5⟩
              case measure => simp [intOf]; omega
          · obtain rfl : k = l.length := by omega
            rw [List.take_length]
            obtain ⟨wA, rfl⟩ : ∃ wA, wA = wr := ⟨_, rfl⟩
            have hu1 := HUN.out wA HBR.out
            rw [HCN.out] at hu1
            obtain ⟨cq, hcq⟩ : ∃ cq, cntT os l = cq := ⟨_, rfl⟩
            rw [hcq] at hu1 ⊢
            have HU1 := Lib.hid hu1
            have ecq : ((cq : Int) != (cq : Int)) = false := bne_self_eq_false _
            clear hu1 hcq
            go_wp2_with fail
            refine HU1.out.mono ?_
            rintro e w6 ⟨rfl, G6, hs6, ht6⟩
            have HT6 := Lib.hid ((Turned.of_below HBR.out).trans ht6)
            have HB6 := Lib.hid (HT6.out.below HB4.out (fun k hk => Nat.le_trans HLO.out (HS4.out.low k hk)))
            have hu2 := untap_any hs6 (untapL_wf HM4.out.wf os) (by rw [untapL_len, HM4.out.len]; omega) (HV.out.later HB6.out) (by omega)
            rw [(untap_again _ os).1, (untap_again _ os).2, show ((0 : Nat) : Int) = 0 from rfl] at hu2
            have HU2 := Lib.hid hu2
            clear hs6 ht6 hu2 HU1
            dsimp only
            go_wp2_with fail
            refine HU2.out.mono ?_
            rintro e w7 ⟨rfl, G7, hs7, ht7⟩
            have HS7 := Lib.hid hs7
            have HT7 := Lib.hid (HT6.out.trans ht7)
            have HB7 := Lib.hid (HT7.out.below HB4.out (fun k hk => Nat.le_trans HLO.out (HS4.out.low k hk)))
            have HTW7 := Lib.hid (HTH.out w7 G7 HT7.out)
            clear hs7 ht7 HU2
            dsimp only
            go_wp2
            go_loopw [123] (fun i wr => ∃ k : Nat, k ≤ l.length ∧ i = .int .i64 k ∧ Hid (Below w7.heap.size w7 wr)) (fun i _ => l.length - (intOf i).toNat)
            case atStart => exact ⟨0, Nat.zero_le _, rfl, Lib.hid (Below.refl _ _)⟩
            case round =>
              obtain ⟨k, hk, rfl, HR⟩ := hrel
              by_cases hlt : k < l.length
              · obtain ⟨tb, off, hta, t0, t1, t2, t3, t4⟩ := (HTW7.out.later HR.out).at k hlt
                obtain ⟨hkk, hget⟩ := untap_get HM4.out os k hlt
                obtain ⟨x, hx⟩ : ∃ x, l[k] = x := ⟨_, rfl⟩
                rw [hx] at t0 t1 t2 t3 t4 hget
                obtain ⟨x0, x1, x2, tp, sk⟩ := x
                dsimp only at hget
                have hgi := get_in (HS7.out.later (stepB HR.out (below_new wr (.cells #[.int .i64 x0, .int .i64 x1, .int .i64 x2, .bool tp, .bool sk] 62)))) (by rw [untapL_len, HM4.out.len]; omega) k hkk
                rw [hget] at hgi
                obtain ⟨ta, hta1⟩ : ∃ ta, (tp && !onT os ⟨x0, x1, x2, tp, sk⟩) = ta := ⟨_, rfl⟩
                obtain ⟨sa, hsa1⟩ : ∃ sa, (sk && !onT os ⟨x0, x1, x2, tp, sk⟩) = sa := ⟨_, rfl⟩
                rw [hta1, hsa1] at hgi
                unfold RetGet oagg at hgi
                dsimp only at hgi
                have HGI := Lib.hid hgi
                have kt : ∀ j, (wr.alloc (.cells #[.int .i64 x0, .int .i64 x1, .int .i64 x2, .bool tp, .bool sk] 62)).cell? ⟨wr.heap.size, j, none⟩ = (#[.int .i64 x0, .int .i64 x1, .int .i64 x2, .bool tp, .bool sk] : Array Value)[j]? := fun j => cell_of_row _ _ j _ _ _ (heap_alloc_new wr _)
                have HK1 := Lib.hid (show (wr.alloc (.cells #[.int .i64 x0, .int .i64 x1, .int .i64 x2, .bool tp, .bool sk] 62)).cell? ⟨wr.heap.size, 1, none⟩ = some (.int .i64 x1) from kt 1)
                have HK2 := Lib.hid (show (wr.alloc (.cells #[.int .i64 x0, .int .i64 x1, .int .i64 x2, .bool tp, .bool sk] 62)).cell? ⟨wr.heap.size, 2, none⟩ = some (.int .i64 x2) from kt 2)
                have HK3 := Lib.hid (show (wr.alloc (.cells #[.int .i64 x0, .int .i64 x1, .int .i64 x2, .bool tp, .bool sk] 62)).cell? ⟨wr.heap.size, 3, none⟩ = some (.bool tp) from kt 3)
                have HK4 := Lib.hid (show (wr.alloc (.cells #[.int .i64 x0, .int .i64 x1, .int .i64 x2, .bool tp, .bool sk] 62)).cell? ⟨wr.heap.size, 4, none⟩ = some (.bool sk) from kt 4)
                have HTA := Lib.hid hta1
                have HSA := Lib.hid hsa1
                cases hta
                clear hx hgi hget hkk hta1 hsa1 kt
                go_wp2_with fail
                refine HGI.out.mono ?_
                rintro e w8 ⟨rfl, hb8⟩
                have hb9 := stepB hb8 (below_new w8 (.cells #[.int .i64 ((k : Int) + 1), .int .i64 x0, .int .i64 x1, .int .i64 x2, .bool ta, .bool sa, .int .i64 0, .int .i64 0, .int .i64 0, .int .i64 0, .bool false] 32))
                have r1 := cell_stays hb9 HK1.out
                have r2 := cell_stays hb9 HK2.out
                have r3 := cell_stays hb9 HK3.out
                have r4 := cell_stays hb9 HK4.out
                have HB9 := Lib.hid (stepB (below_alloc2 HR.out _) hb9)
                clear hb8 hb9 HGI t0 t1 t2 t3 t4
                dsimp only
                by_cases hz : x2 = 3
                · subst hz
                  obtain ⟨hb, hhb⟩ : ∃ hb, decide (x1 ∈ os) = hb := ⟨_, rfl⟩
                  have HHR := Lib.hid (hasRef_any x1 (HV.out.later (stepB HB7.out HB9.out)) (by omega))
                  rw [hhb] at HHR
                  have hon : onT os ⟨x0, x1, 3, tp, sk⟩ = hb := by unfold onT; rw [hhb]; rfl
                  have hta2 := HTA.out
                  have hsa2 := HSA.out
                  rw [hon] at hta2 hsa2
                  clear hhb hon HTA HSA
                  go_wp2_with fail
                  refine HHR.out.mono ?_
                  rintro e w10 ⟨rfl, rfl⟩
                  dsimp only
                  cases hb <;> cases tp <;> cases sk
                  all_goals
                    simp at hta2 hsa2
                    subst hta2 hsa2
                    go_wp2
                    go_roundw
                    case rel => exact ⟨k + 1, by omega, by go_num, HB9⟩
                    case measure => simp [intOf]; omega
                · have e3 : (x2 == 3) = false := beq_eq_false_iff_ne.2 hz
                  have hon : onT os ⟨x0, x1, x2, tp, sk⟩ = false := by unfold onT; rw [decide_eq_false hz]; rfl
                  have hta2 := HTA.out
                  have hsa2 := HSA.out
                  rw [hon] at hta2 hsa2
                  clear hz hon HTA HSA
                  cases tp <;> cases sk
                  all_goals
                    simp at hta2 hsa2
                    subst hta2 hsa2
                    go_wp2
                    go_roundw
                    case rel => exact ⟨k + 1, by omega, by go_num, HB9⟩
                    case measure => simp [intOf]; omega
              · obtain rfl : k = l.length := by omega
                have HBE := Lib.hid (stepB HB7.out HR.out)
                obtain ⟨wE, rfl⟩ : ∃ wE, wE = wr := ⟨_, rfl⟩
                go_wp2_with fail
                refine (pay_neg none 0 0 (.inl rfl)).mono ?_
                rintro e w10 ⟨rfl, rfl⟩
                dsimp only
                go_wp2_with fail
                refine (taps_out (by decide) (get_nil 1 _)).mono ?_
                rintro e w11 ⟨rfl, hb11⟩
                have HB11 := Lib.hid (stepB HBE.out hb11)
                clear hb11
                dsimp only
                go_wp2_with fail
                refine (untapNil_any (one_int w11 0) (by decide)).mono ?_
                rintro e w12 ⟨rfl, hb12⟩
                have HB12 := Lib.hid (stepB (below_alloc2 HB11.out _) hb12)
                clear hb12
                dsimp only
                go_wp2_with fail
                refine (has_of (landsNil_any 0 w12) (by decide)).mono ?_
                rintro e w13 ⟨rfl, hb13⟩
                have HB13 := Lib.hid (stepB HB12.out hb13)
                clear hb13
                dsimp only
                go_wp2_with fail
                refine (can_of (cost := 0) (landsNil_any 0 w13) (by decide)).mono ?_
                rintro e w14 ⟨rfl, hb14⟩
                have HB14 := Lib.hid (stepB HB13.out hb14)
                clear hb14
                dsimp only
                go_wp2_with fail
                refine (can_of (cost := 1) (landsNil_any 0 w14) (by decide)).mono ?_
                rintro e w15 ⟨rfl, hb15⟩
                have HB15 := Lib.hid (stepB HB14.out hb15)
                clear hb15
                dsimp only
                go_wp2
                go_ret
                exact ⟨ret_bool (by simp), HB15.out⟩
end Go.Proofs.Ytkhgdfalbmkgcaa
