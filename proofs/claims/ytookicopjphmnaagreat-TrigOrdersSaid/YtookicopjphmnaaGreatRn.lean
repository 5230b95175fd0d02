/- TrigOrders: what is wanted, and the walk (layer 13). -/
import Derived.Test.YtookicopjphmnaaGreatRl
import Derived.Test.YtookicopjphmnaaGreatRo
import Derived.Test.YtookicopjphmnaaGreatAq
namespace Go.Proofs.YtookicopjphmnaaGreat
open Go.RowKit Go.Maps
attribute [local go_sem] Oper.semAt_some

theorem want3_yes {T : TeamL} {l : List TriL} {ids : List Int} {a n d s k : Nat} (h : wantB T l ids a n d s k = true) : want3 T l ids a n d s (k + 1) = want3 T l ids a n d s k ++ [(k : Int) + 1] := by
  simp [want3, List.range_succ, List.filter_append, h]
theorem want3_no {T : TeamL} {l : List TriL} {ids : List Int} {a n d s k : Nat} (h : wantB T l ids a n d s k = false) : want3 T l ids a n d s (k + 1) = want3 T l ids a n d s k := by
  simp [want3, List.range_succ, List.filter_append, h]
theorem want2_succ (T : TeamL) (l : List TriL) (ids : List Int) (a n d s : Nat) : want2 T l ids a n d (s + 1) = want2 T l ids a n d s ++ want3 T l ids a n d s l.length := by
  simp [want2, List.range_succ]
theorem want1_succ (T : TeamL) (l : List TriL) (ids : List Int) (a n d : Nat) : want1 T l ids a n (d + 1) = want1 T l ids a n d ++ want2 T l ids a n d 4 := by
  simp [want1, List.range_succ]
theorem want3_len (T : TeamL) (l : List TriL) (ids : List Int) (a n d s k : Nat) : (want3 T l ids a n d s k).length ≤ k := by
  unfold want3
  rw [List.length_map]
  have := List.length_filter_le (fun i => wantB T l ids a n d s i) (List.range k)
  rwa [List.length_range] at this
theorem want2_len (T : TeamL) (l : List TriL) (ids : List Int) (a n d : Nat) : ∀ s, (want2 T l ids a n d s).length ≤ s * l.length
  | 0 => by simp [want2]
  | s + 1 => by
    rw [want2_succ, List.length_append, Nat.succ_mul]
    exact Nat.add_le_add (want2_len T l ids a n d s) (want3_len _ _ _ _ _ _ _ _)
theorem want1_len (T : TeamL) (l : List TriL) (ids : List Int) (a n : Nat) : ∀ d, (want1 T l ids a n d).length ≤ d * (4 * l.length)
  | 0 => by simp [want1]
  | d + 1 => by
    rw [want1_succ, List.length_append, Nat.succ_mul]
    exact Nat.add_le_add (want1_len T l ids a n d) (want2_len _ _ _ _ _ _ _)
set_option maxRecDepth 100000 in
set_option maxHeartbeats 16000000 in
theorem trigOrders_walk (i0 i1 : Int) {w : World} {v u : Value} {l : List TriL} {ids : List Int} (hv : TrisAt w v l) (hw : ∀ x ∈ l, Wf x.y ∧ Wf x.z) (hlen : l.length ≤ 9223372036854775807) (hu : IntsAt w u ids) (hul : ids.length ≤ 9223372036854775807) :
    Calls Tryz.prog 3 #[v, .agg #[.int .i64 i0, .int .i64 i1], u] w (RetV w (.bool true)) := by
  obtain ⟨s, hs4, hand⟩ := and3 i0
  have HAW := Lib.hid (fun (w' : World) => awake13_any w')
  have HBO := Lib.hid (fun (w' : World) (hb : Below w.heap.size w w') => board13_any (hv.later hb) hw hlen s (by omega))
  have HV := Lib.hid hv
  have HU := Lib.hid hu
  obtain ⟨va, vc, rfl⟩ := hv.form
  obtain ⟨ua, uc, rfl⟩ := hu.form
  have hcv : IntKind.u8.wrap (s : Int) = s := by simp [IntKind.wrap, IntKind.bits, IntKind.signed]; omega
  have b0 : (w.alloc (.cells #[.int .i64 i0, .int .i64 i1] 23)).cell? ⟨w.heap.size, 0, none⟩ = some (.int .i64 i0) := cell_of_row _ w.heap.size 0 _ _ _ (heap_alloc_new w _)
  have b1 : (w.alloc (.cells #[.int .i64 i0, .int .i64 i1] 23)).cell? ⟨w.heap.size, 1, none⟩ = some (.int .i64 i1) := cell_of_row _ w.heap.size 1 _ _ _ (heap_alloc_new w _)
  have hbn := below_new w (.cells #[.int .i64 i0, .int .i64 i1] 23)
  obtain ⟨W, hW⟩ : ∃ W, w.alloc (.cells #[.int .i64 i0, .int .i64 i1] 23) = W := ⟨_, rfl⟩
  rw [hW] at b0 b1 hbn
  have HBN := Lib.hid hbn
  have HW := Lib.hid hW
  clear hv hw hu hbn hW
  go_enter Tryz.func3, Tryz.ntmps3
  go_upto_region 1 with fail
  rw [HW.out]
  obtain ⟨q0, hq0⟩ : ∃ q0, w.heap.size = q0 := ⟨_, rfl⟩
  rw [hq0] at b0 b1 ⊢
  have HQ0 := Lib.hid hq0
  clear hq0
  go_wp2_with fail
  refine (HAW.out _).mono ?_
  rintro e w1 ⟨rfl, hb1⟩
  have HB1 := Lib.hid (stepB HBN.out hb1)
  have b0 := cell_stays hb1 b0
  have b1 := cell_stays hb1 b1
  clear hb1 HAW
  dsimp only
  go_wp2_with fail
  refine (HBO.out _ HB1.out).mono ?_
  rintro e w2 (⟨hp, lo, g, rfl, hb, hlo, hb2⟩ | ⟨_, rfl, hb2⟩)
  case inr =>
    have HB2 := Lib.hid (stepB HB1.out hb2)
    clear hb2
    dsimp only
    go_wp2
    go_ret
    exact ⟨rfl, HB2.out⟩
  have HB2 := Lib.hid (stepB HB1.out hb2)
  have b1 := cell_stays hb2 b1
  by_cases h60 : 60 < ids.length
  · have d6 : decide ((60 : Int) < ids.length) = true := decide_eq_true (by omega)
    clear hb hp hlo hb2
    dsimp only
    go_wp2
    go_ret
    exact ⟨rfl, HB2.out⟩
  have d6 : decide ((60 : Int) < ids.length) = false := decide_eq_false (by omega)
  have d6' : decide (60 < ids.length) = false := decide_eq_false h60
  have h40 : l.length ≤ 40 := hp.1
  have HM := Lib.hid (And.intro hp.1 hp.2)
  have HBD := Lib.hid hb
  obtain ⟨c0, c1, -⟩ := hb.cells
  have hn4 := hb.tm.n2
  have hn1 : 1 ≤ (board13 l s).T.sh.length := by
    have h1 := hb.tm.n1
    have h2 := hb.tm.nd ((board13 l s).T.sides[0]'(by omega)) (List.getElem_mem _)
    omega
  have HLN := Lib.hid (fun (w' : World) (hb' : Below w2.heap.size w2 w') => tlen_any ((HBD.out.later hb').tm))
  have HOF := Lib.hid (fun (w' : World) (hb' : Below w2.heap.size w2 w') (k : Int) => tof_any ((HBD.out.later hb').tm) k)
  have HOR := Lib.hid (fun (w' : World) (hb' : Below w2.heap.size w2 w') => order_any (HBD.out.later hb') i1 (HU.out.later (stepB HB2.out hb')) (by omega))
  have HON := Lib.hid (fun (w' : World) => order_nil i1 (.slice ua ids.length uc) w')
  have HHS := Lib.hid (fun (w' : World) (hb' : Below w2.heap.size w2 w') (x : Int) => hasRef_any x (HU.out.later (stepB HB2.out hb')) (by omega))
  obtain ⟨n, hn⟩ : ∃ n, (board13 l s).T.sh.length = n := ⟨_, rfl⟩
  rw [hn] at HLN hn4 hn1
  have HN := Lib.hid hn
  obtain ⟨a, ha⟩ : ∃ a : Nat, max i1 0 % (n : Int) = a := ⟨(max i1 0 % (n : Int)).toNat, by have := Int.emod_nonneg (max i1 0) (show (n : Int) ≠ 0 by omega); omega⟩
  have han : a < n := by have := Int.emod_lt_of_pos (max i1 0) (show (0 : Int) < n by omega); omega
  clear hb hp hlo hb2 hn HBO
  obtain ⟨q, sb, tb, s0, r, G⟩ := g
  dsimp only at c0 c1 HLN HOF HOR ⊢
  go_wp2_with fail
  refine (HLN.out _ (Below.refl _ _)).mono ?_
  rintro e w3 ⟨rfl, hw3⟩
  subst hw3
  dsimp only
  go_wp2
  rw [ha]
  have HA := Lib.hid ha
  have HB3 := HB2
  have HTB := Lib.hid (HV.out.later HB2.out)
  have HDN := Lib.hid (show ∀ M : List Int, M.length ≤ 640 → M.length ≤ 900 from fun M h => by omega)
  obtain ⟨TT, hTT⟩ : ∃ TT, (board13 l s).T = TT := ⟨_, rfl⟩
  rw [hTT] at HOF
  have HTT := Lib.hid hTT
  clear ha hTT
  go_loopw [11, 10] (fun i11 i10 wr => ∃ (d : Nat) (M : List Int) (ya : Option Addr) (yc : Nat), d ≤ n ∧ i11 = .int .i64 d ∧ i10 = .slice ya M.length yc ∧ Hid (M = want1 TT l ids a n d) ∧ Hid (wr.ownsRow w3.heap.size 3 1 (.slice ya M.length yc) M.length (intsV M)) ∧ Hid (Below w3.heap.size w3 wr)) (fun i11 _ _ => n - (intOf i11).toNat)
  case atStart => exact ⟨0, [], none, 0, Nat.zero_le _, rfl, rfl, Lib.hid (by simp [want1]), Lib.hid ⟨by simp [intsV], .inl ⟨rfl, rfl⟩⟩, Lib.hid (Below.refl _ _)⟩
  case round =>
    obtain ⟨d, M, ya, yc, hd, rfl, rfl, HM1, HO1, HR1⟩ := hrel
    by_cases hdn : d < n
    · have hM1 : M.length ≤ d * 160 := by rw [HM1.out]; exact Nat.le_trans (want1_len TT l ids a n d) (Nat.mul_le_mul_left d (by omega))
      go_wp2
      go_loopw [12, 10] (fun i12 i10 wr => ∃ (sn : Nat) (M2 : List Int) (ya : Option Addr) (yc : Nat), sn ≤ 4 ∧ i12 = .int .i64 sn ∧ i10 = .slice ya M2.length yc ∧ Hid (M2 = want1 TT l ids a n d ++ want2 TT l ids a n d sn) ∧ Hid (wr.ownsRow w3.heap.size 3 1 (.slice ya M2.length yc) M2.length (intsV M2)) ∧ Hid (Below w3.heap.size w3 wr)) (fun i12 _ _ => 4 - (intOf i12).toNat)
      case atStart => exact ⟨0, M, ya, yc, by omega, rfl, rfl, Lib.hid (by rw [HM1.out]; simp [want2]), HO1, HR1⟩
      case round =>
        obtain ⟨sn, M2, ya2, yc2, hsn, rfl, rfl, HM2, HO2, HR2⟩ := hrel
        by_cases hs4' : sn < 4
        · have d4 : decide ((sn : Int) < 4) = true := decide_eq_true (by omega)
          have d4' : decide (sn < 4) = true := decide_eq_true hs4'
          have hM2 : M2.length ≤ d * 160 + sn * 40 := by
            rw [HM2.out, List.length_append]
            have h1 := want1_len TT l ids a n d
            have h2 := want2_len TT l ids a n d sn
            have h3 := Nat.mul_le_mul_left d (show 4 * l.length ≤ 160 by omega)
            have h4 := Nat.mul_le_mul_left sn h40
            omega
          go_wp2
          go_loopw [51, 10] (fun i51 i10 wr => ∃ (k : Nat) (M3 : List Int) (ya : Option Addr) (yc : Nat), k ≤ l.length ∧ i51 = .int .i64 k ∧ i10 = .slice ya M3.length yc ∧ Hid (M3 = want1 TT l ids a n d ++ want2 TT l ids a n d sn ++ want3 TT l ids a n d sn k) ∧ Hid (wr.ownsRow w3.heap.size 3 1 (.slice ya M3.length yc) M3.length (intsV M3)) ∧ Hid (Below w3.heap.size w3 wr)) (fun i51 _ _ => l.length - (intOf i51).toNat)
          case atStart => exact ⟨0, M2, ya2, yc2, by omega, rfl, rfl, Lib.hid (by rw [HM2.out]; simp [want3]), HO2, HR2⟩
          case round =>
            obtain ⟨k, M3, ya3, yc3, hk, rfl, rfl, HM3, HO3, HR3⟩ := hrel
            by_cases hkl : k < l.length
            · obtain ⟨xb, xo, rfl, t0, t1, t2⟩ := (HTB.out.later HR3.out).at k hkl
              obtain ⟨t, ht⟩ : ∃ t, l[k] = t := ⟨_, rfl⟩
              rw [ht] at t0 t1 t2
              have hM3 : M3.length ≤ 900 := by
                rw [HM3.out, List.length_append, List.length_append]
                have h1 := want1_len TT l ids a n d
                have h2 := want2_len TT l ids a n d sn
                have h3 := Nat.mul_le_mul_left d (show 4 * l.length ≤ 160 by omega)
                have h4 := Nat.mul_le_mul_left sn h40
                have h5 := want3_len TT l ids a n d sn k
                omega
              have hbn := below_new wr (.cells #[.int .i64 t.x, .int .i64 t.y, .int .i64 t.z] 34)
              have c9 : (wr.alloc (.cells #[.int .i64 t.x, .int .i64 t.y, .int .i64 t.z] 34)).cell? ⟨wr.heap.size, 1, none⟩ = some (.int .i64 t.y) := cell_of_row _ wr.heap.size 1 _ _ _ (heap_alloc_new wr _)
              have c1 := cell_stays (stepB HR3.out hbn) c1
              have HBN4 := Lib.hid (stepB HR3.out hbn)
              have HO4 := Lib.hid (own_keepS HO3.out (fun q hq => hbn.block q (World.ownsRow.lt HO3.out q hq).2))
              have HWB := Lib.hid (show wantB TT l ids a n d sn k = (decide (t.y = (sn : Int)) && (decide (ofT TT sn = (((a + d) % n : Nat) : Int)) && decide (((k : Int) + 1) ∈ ids))) from by unfold wantB; rw [show l.getD k default = t from by rw [← ht]; simp [List.getD, hkl]])
              clear ht hbn
              go_upto_region 18 with fail
              obtain ⟨W4, hW4⟩ : ∃ W4, wr.alloc (.cells #[.int .i64 t.x, .int .i64 t.y, .int .i64 t.z] 34) = W4 := ⟨_, rfl⟩
              rw [hW4] at c9 c1 HBN4 HO4 ⊢
              obtain ⟨q4, hq4⟩ : ∃ q4, wr.heap.size = q4 := ⟨_, rfl⟩
              rw [hq4] at c9 ⊢
              clear hW4 hq4 t0 t1 t2
              by_cases h1 : t.y = (sn : Int)
              · have e1 : (t.y == (sn : Int)) = true := beq_iff_eq.2 h1
                obtain ⟨uu, huu⟩ : ∃ uu, ofT TT (sn : Int) = uu := ⟨_, rfl⟩
                have hof := fun (nd : Nat) => HOF.out (W4.drewN nd) (stepB HBN4.out (below_drewN (Below.refl _ _) nd)) sn
                rw [huu] at hof HWB
                have HOF4 := Lib.hid hof
                have hmod : (((a : Int) + (d : Int)) % (n : Int)) = (((a + d) % n : Nat) : Int) := by simp
                rw [decide_eq_true h1, Bool.true_and] at HWB
                clear hof huu
                by_cases h2 : uu = (((a + d) % n : Nat) : Int)
                · have e2 : (uu == (((a + d) % n : Nat) : Int)) = true := beq_iff_eq.2 h2
                  have e3 : (uu == ((a : Int) + (d : Int)) % (n : Int)) = true := by rw [hmod]; exact e2
                  rw [decide_eq_true h2, Bool.true_and] at HWB
                  obtain ⟨hb, hhb⟩ : ∃ hb, decide (((k : Int) + 1) ∈ ids) = hb := ⟨_, rfl⟩
                  have hhs := fun (nd : Nat) => HHS.out (W4.drewN nd) (stepB HBN4.out (below_drewN (Below.refl _ _) nd)) ((k : Int) + 1)
                  rw [hhb] at hhs HWB
                  have HHS4 := Lib.hid hhs
                  have HE2 := Lib.hid h2
                  clear hmod hhs hhb h2 h1
                  cases hb with
                  | false =>
                    have HF := Lib.hid HWB.out
                    go_quiet ((first | (go_at_call 10; exact Calls.quiet_of_same ((HOF4.out _).mono fun _ _ ⟨he, hw⟩ => ⟨he, hw⟩)) | (go_at_call 11; exact Calls.quiet_of_same ((HHS4.out _).mono fun _ _ ⟨he, hw⟩ => ⟨he, hw⟩))))
                    have HMN := Lib.hid (show M3 = want1 TT l ids a n d ++ want2 TT l ids a n d sn ++ want3 TT l ids a n d sn (k + 1) from by rw [want3_no HF.out]; exact HM3.out)
                    go_wp2
                    go_roundw
                    case rel => exact ⟨k + 1, M3, ya3, yc3, by omega, by go_num, rfl, HMN, Lib.hid HO4.out, Lib.hid (below_drewN HBN4.out _)⟩
                    case measure => simp [intOf]; omega
                  | true =>
                    have HF := Lib.hid HWB.out
                    have HMY := Lib.hid (show M3 ++ [(k : Int) + 1] = want1 TT l ids a n d ++ want2 TT l ids a n d sn ++ want3 TT l ids a n d sn (k + 1) from by rw [want3_yes HF.out, HM3.out]; simp)
                    go_quiet ((first | (go_at_call 10; exact Calls.quiet_of_same ((HOF4.out _).mono fun _ _ ⟨he, hw⟩ => ⟨he, hw⟩)) | (go_at_call 11; exact Calls.quiet_of_same ((HHS4.out _).mono fun _ _ ⟨he, hw⟩ => ⟨he, hw⟩))))
                    obtain ⟨W5, hW5⟩ : ∃ W5, W4.drewN nq = W5 := ⟨_, rfl⟩
                    have HO5 := Lib.hid (show W5.ownsRow w3.heap.size 3 1 (.slice ya3 M3.length yc3) M3.length (intsV M3) from by rw [← hW5]; exact HO4.out)
                    have HB5 := Lib.hid (show Below w3.heap.size w3 W5 from by rw [← hW5]; exact below_drewN HBN4.out _)
                    rw [hW5]
                    clear hW5 c9 c1
                    go_wp2_with (at_builtin; refine wpList_push (A := w3) rfl _ _ rfl rfl (.slice ya3 M3.length yc3) M3 ((k : Int) + 1) rfl HO5.out HB5.out rfl hM3 ?f)
                    case f =>
                      intro v' w' hown hb'
                      have HO' := Lib.hid hown
                      have HB' := Lib.hid hb'
                      obtain ⟨za, zc, rfl⟩ := (own_ints hown).form
                      clear hown hb'
                      go_wp2
                      go_roundw
                      case rel => exact ⟨k + 1, M3 ++ [(k : Int) + 1], za, zc, by omega, by go_num, by first | rfl | simp, HMY, Lib.hid (by have h := HO'.out; simp only [List.length_append, List.length_cons, List.length_nil, Nat.zero_add] at h ⊢; exact h), HB'⟩
                      case measure => simp [intOf]; omega
                · have e2 : (uu == (((a + d) % n : Nat) : Int)) = false := beq_eq_false_iff_ne.2 h2
                  have e3 : (uu == ((a : Int) + (d : Int)) % (n : Int)) = false := by rw [hmod]; exact e2
                  rw [decide_eq_false h2, Bool.false_and] at HWB
                  have HF := Lib.hid HWB.out
                  clear hmod h2 h1
                  go_quiet ((go_at_call 10; exact Calls.quiet_of_same ((HOF4.out _).mono fun _ _ ⟨he, hw⟩ => ⟨he, hw⟩)))
                  have HMN := Lib.hid (show M3 = want1 TT l ids a n d ++ want2 TT l ids a n d sn ++ want3 TT l ids a n d sn (k + 1) from by rw [want3_no HF.out]; exact HM3.out)
                  go_wp2
                  go_roundw
                  case rel => exact ⟨k + 1, M3, ya3, yc3, by omega, by go_num, rfl, HMN, Lib.hid HO4.out, Lib.hid (below_drewN HBN4.out _)⟩
                  case measure => simp [intOf]; omega
              · have e1 : (t.y == (sn : Int)) = false := beq_eq_false_iff_ne.2 h1
                rw [decide_eq_false h1, Bool.false_and] at HWB
                have HF := Lib.hid HWB.out
                clear h1
                go_quiet (fail)
                have HMN := Lib.hid (show M3 = want1 TT l ids a n d ++ want2 TT l ids a n d sn ++ want3 TT l ids a n d sn (k + 1) from by rw [want3_no HF.out]; exact HM3.out)
                go_wp2
                go_roundw
                case rel => exact ⟨k + 1, M3, ya3, yc3, by omega, by go_num, rfl, HMN, Lib.hid HO4.out, Lib.hid (below_drewN HBN4.out _)⟩
                case measure => simp [intOf]; omega
            · obtain rfl : k = l.length := by omega
              have HMN := Lib.hid (show M3 = want1 TT l ids a n d ++ want2 TT l ids a n d (sn + 1) from by rw [want2_succ, ← List.append_assoc]; exact HM3.out)
              go_wp2
              go_roundw
              case rel => exact ⟨sn + 1, M3, ya3, yc3, by omega, by go_num, rfl, HMN, HO3, HR3⟩
              case measure => simp [intOf]; omega
        · obtain rfl : sn = 4 := by omega
          have HMN := Lib.hid (show M2 = want1 TT l ids a n (d + 1) from by rw [want1_succ]; exact HM2.out)
          go_wp2
          go_roundw
          case rel => exact ⟨d + 1, M2, ya2, yc2, by omega, by go_num, rfl, HMN, HO2, HR2⟩
          case measure => simp [intOf]; omega
    · obtain rfl : d = n := by omega
      have hw1 := order_want (ids := ids) HM.out.2 s a d i1 HN.out HA.out han
      have HEQ := Lib.hid (show orderL (board13 l s) i1 ids = M from by rw [hw1, show (board13 l s).T = TT from HTT.out]; exact HM1.out.symm)
      have hor := HOR.out wr HR1.out
      rw [HEQ.out] at hor
      have HOR5 := Lib.hid hor
      have b1r := cell_stays HR1.out b1
      have hMl : M.length ≤ 1000 := by
        rw [HM1.out]
        have h1 := want1_len TT l ids a d d
        have h2 := Nat.mul_le_mul hn4 (show 4 * l.length ≤ 160 by omega)
        omega
      clear hor hw1
      go_wp2_with fail
      refine HOR5.out.mono ?_
      rintro e w5 ⟨uo, rfl, ho5, hb5⟩
      have hi5 := own_ints ho5
      have HIS := Lib.hid (ints_same hi5 ((own_ints HO1.out).later hb5) hMl)
      obtain ⟨za, zc, rfl⟩ := hi5.form
      have HB5 := Lib.hid (stepB HB2.out (stepB HR1.out hb5))
      have b1r := cell_stays hb5 b1r
      clear ho5 hb5 hi5
      dsimp only
      go_wp2_with fail
      refine HIS.out.mono ?_
      rintro e w6 ⟨rfl, nd, rfl⟩
      dsimp only
      go_wp2_with fail
      refine (HON.out _).mono ?_
      rintro e w7 ⟨rfl, hb7⟩
      have HB7 := Lib.hid (stepB (below_drewN HB5.out nd) hb7)
      clear hb7
      dsimp only
      go_wp2
      go_ret
      exact ⟨rfl, HB7.out⟩
end Go.Proofs.YtookicopjphmnaaGreat
