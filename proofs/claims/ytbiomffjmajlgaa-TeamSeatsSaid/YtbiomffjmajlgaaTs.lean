/- The law TeamSeats (layer 9), walked. -/
import Derived.Test.YtbiomffjmajlgaaTn
import Derived.Deep.CutRange
namespace Go.Proofs.Ytbiomffjmajlgaa
open Go.RowKit

theorem ofT_new {S L : List Int} (a : Int) : ofT (newT S L) a = if 0 ≤ a then S.getD a.toNat (-1) else -1 := rfl
theorem ofT_nat {S L : List Int} (k : Nat) (hk : k < S.length) : ofT (newT S L) k = S[k] := by simp [ofT, newT, List.getD, hk]
theorem ofT_out {S L : List Int} (k : Nat) (hk : S.length ≤ k) : ofT (newT S L) k = -1 := by simp [ofT, newT, List.getD, List.getElem?_eq_none hk]
theorem ofT_low {S L : List Int} : ofT (newT S L) (-1) = -1 := rfl
theorem sh_new {S L : List Int} : (newT S L).sh.length = L.length := by simp [newT]
theorem lost_new {S L : List Int} (k : Int) : lostT (newT S L) k = !inL (newT S L) k := by
  unfold lostT
  cases h : inL (newT S L) k with
  | false => rfl
  | true =>
    obtain ⟨n, rfl, hn⟩ := in_nat h
    rw [sh_new] at hn
    simp [newT, shOf, List.getD, hn]
theorem life_new {S L : List Int} (k : Nat) (h : k < L.length) : lifeT (newT S L) k = L[k] := by
  rw [lifeT_in (by rw [sh_new]; exact h)]
  simp [newT, shOf]
theorem poison_new {S L : List Int} (k : Int) : poisonT (newT S L) k = 0 := by
  unfold poisonT
  split
  · rename_i h
    obtain ⟨n, rfl, hn⟩ := in_nat h
    rw [sh_new] at hn
    simp [newT, shOf, List.getD, hn]
  · rfl
theorem seats_new {S L : List Int} (h : MayP S L) (n : Int) : decide (0 < (seatsT (newT S L) n).length) = inL (newT S L) n := by
  have hl : (newT S L).sides.length = S.length := rfl
  cases hi : inL (newT S L) n with
  | true =>
    obtain ⟨k, rfl, hk⟩ := in_nat hi
    rw [sh_new] at hk
    have hm := h.2.1.2 k hk
    obtain ⟨j, hj, hjk⟩ := List.getElem_of_mem hm
    refine decide_eq_true (List.length_pos_of_mem (a := (j : Int)) ?_)
    unfold seatsT upTo
    refine List.mem_map.2 ⟨j, List.mem_filter.2 ⟨List.mem_range.2 (by rw [hl]; exact hj), ?_⟩, rfl⟩
    rw [ofT_nat j hj, hjk]
    exact beq_self_eq_true _
  | false =>
    refine decide_eq_false (fun hp => ?_)
    obtain ⟨x, hx⟩ := List.exists_mem_of_length_pos hp
    unfold seatsT upTo at hx
    obtain ⟨j, hj, rfl⟩ := List.mem_map.1 hx
    obtain ⟨hj1, hj2⟩ := List.mem_filter.1 hj
    have hjl := List.mem_range.1 hj1
    rw [hl] at hjl
    rw [ofT_nat j hjl] at hj2
    have := h.2.1.1 j hjl
    have e : S[j] = n := by simpa using hj2
    rw [e] at this
    simp only [inL, sh_new] at hi
    simp [this] at hi
set_option maxRecDepth 100000 in
set_option maxHeartbeats 32000000 in
theorem teamSeats_walk (n : Int) {v u : Value} {S L : List Int} {w : World} (hv : IntsAt w v S) (hS : S.length ≤ 9223372036854775807) (hu : IntsAt w u L) (hL : L.length ≤ 9223372036854775807) :
    Calls Try.prog 3 #[v, u, .int .i64 n] w (RetV w (.bool true)) := by
  have HV := Lib.hid hv
  have HU := Lib.hid hu
  obtain ⟨va, vc, rfl⟩ := hv.form
  obtain ⟨ua, uc, rfl⟩ := hu.form
  clear hv hu
  go_enter Try.func3, Try.ntmps3
  go_wp2_with fail
  refine (awake9_any _).mono ?_
  rintro e w1 ⟨rfl, hb1⟩
  have HB1 := Lib.hid hb1
  clear hb1
  by_cases hs20 : S.length ≤ 20
  case neg =>
    have d0 : decide ((20 : Int) < S.length) = true := decide_eq_true (by omega)
    go_wp2
    go_ret
    exact ⟨rfl, HB1.out⟩
  have d0 : decide ((20 : Int) < S.length) = false := decide_eq_false (by omega)
  by_cases hl20 : L.length ≤ 20
  case neg =>
    have d1 : decide ((20 : Int) < L.length) = true := decide_eq_true (by omega)
    go_wp2
    go_ret
    exact ⟨rfl, HB1.out⟩
  have d1 : decide ((20 : Int) < L.length) = false := decide_eq_false (by omega)
  obtain ⟨z, hz⟩ : ∃ z : Bool, z = true ↔ MayP S L := by
    by_cases h : MayP S L
    · exact ⟨true, by simp [h]⟩
    · exact ⟨false, by simp [h]⟩
  have HZ := Lib.hid hz
  have HNEW := Lib.hid (new9_any (HV.out.later HB1.out) (HU.out.later HB1.out) hS (by omega) hz)
  clear hz
  go_wp2_with fail
  refine HNEW.out.mono ?_
  rintro e w2 ⟨hyes, hno, hb2⟩
  have HB2 := Lib.hid (stepB HB1.out hb2)
  have HMAY := Lib.hid (may9_any (HV.out.later HB2.out) (HU.out.later HB2.out) hS (by omega) HZ.out)
  have HLO := Lib.hid HB1.out.size
  clear hb2 HNEW
  cases z with
  | false =>
    obtain rfl := hno rfl
    clear hyes hno
    go_wp2_with fail
    refine HMAY.out.mono ?_
    rintro e w3 ⟨rfl, rfl⟩
    go_wp2
    go_ret
    exact ⟨rfl, HB2.out⟩
  | true =>
    obtain ⟨b, s, r, rfl, ht⟩ := hyes rfl
    have HT := Lib.hid ht
    have HMP := Lib.hid (HZ.out.1 rfl)
    clear hyes hno ht HZ
    have HLN := Lib.hid (show Calls Try.prog 10 #[.pointer (some ⟨b, 0, none⟩)] w2 (Same w2 (.int .i64 L.length)) from by
      have := tlen_any HT.out; rwa [sh_new] at this)
    have HSN := Lib.hid (show Calls Try.prog 11 #[.pointer (some ⟨b, 0, none⟩)] w2 (Same w2 (.int .i64 S.length)) from tseats_any HT.out)
    go_wp2_with fail
    refine HMAY.out.mono ?_
    rintro e w3 ⟨rfl, rfl⟩
    go_wp2_with fail
    refine HLN.out.mono ?_
    rintro e w4 ⟨rfl, rfl⟩
    go_wp2_with fail
    refine HSN.out.mono ?_
    rintro e w5 ⟨rfl, rfl⟩
    have hn4 := HMP.out.1
    obtain ⟨T, hT⟩ : ∃ T, newT S L = T := ⟨_, rfl⟩
    rw [hT] at HT
    have HTT := Lib.hid hT
    have HOF := Lib.hid (fun a : Int => tof_any HT.out a)
    have HMT := Lib.hid (fun a c : Int => tmates_any HT.out a c)
    clear hT HLN HSN HMAY
    obtain ⟨b1, o1, rfl, hbw, _⟩ := HV.out.at 0 (by omega)
    have HC := Lib.hid (fun (k : Nat) (hk : k < S.length) => show w5.cell? ⟨b1, o1 + k, none⟩ = some (.int .i64 S[k]) from by
      obtain ⟨b2, o2, e, hb, hc⟩ := HV.out.at k hk
      injection e with e
      injection e with e1 e2
      subst e1 e2
      rw [HB2.out.cell (p := ⟨b1, o1 + k, none⟩) hb]
      exact hc)
    clear hbw
    go_wp2
    go_loop [9] (fun a => ∃ k : Nat, k ≤ S.length + 2 ∧ a = .int .i64 ((k : Int) - 1)) (fun a => S.length + 2 - (intOf a + 1).toNat)
    case atStart => exact ⟨0, by omega, rfl⟩
    case round =>
      obtain ⟨k, hk, rfl⟩ := hrel
      by_cases hlt : k < S.length + 2
      · have d2 : decide ((k : Int) - 1 ≤ S.length) = true := decide_eq_true (by omega)
        go_upto_region 14 with fail
        go_cut [74] from 67 to 74 (fun s74 wx => s74 = .bool (decide (0 ≤ (k : Int) - 1) && decide ((k : Int) - 1 < S.length)) ∧ w5 = wx)
        case first =>
          by_cases h0 : k = 0
          · subst h0
            have e0 : decide ((0 : Int) ≤ ((0 : Nat) : Int) - 1) = false := by decide
            go_wp2
            go_meet
            case rel => exact ⟨by rw [e0]; rfl, rfl⟩
          · have e0 : decide ((0 : Int) ≤ (k : Int) - 1) = true := decide_eq_true (by omega)
            go_wp2
            go_meet
            case rel => exact ⟨by rw [e0]; rfl, rfl⟩
        case rest =>
        obtain ⟨rfl, rfl⟩ := hcut
        obtain ⟨zb, hzb⟩ : ∃ zb, (decide (0 ≤ (k : Int) - 1) && decide ((k : Int) - 1 < S.length)) = zb := ⟨_, rfl⟩
        rw [hzb]
        go_upto_if 74 with fail
        go_cut [9, 10, 61] from 75 to 78 (fun s9 s10 s61 wx => s9 = .int .i64 ((k : Int) - 1) ∧ s61 = .int .i64 ((k : Int) - 1) ∧ s10 = .int .i64 (ofT T ((k : Int) - 1)) ∧ w5 = wx)
        case first =>
          cases zb with
          | false =>
            have hof : ofT T ((k : Int) - 1) = -1 := by
              rw [← HTT.out]
              by_cases h0 : k = 0
              · subst h0; rfl
              · rw [show (k : Int) - 1 = ((k - 1 : Nat) : Int) by omega]
                refine ofT_out _ ?_
                rw [Bool.and_eq_false_iff, decide_eq_false_iff_not, decide_eq_false_iff_not] at hzb
                omega
            clear hzb
            go_wp2
            go_meet
            case rel => exact ⟨rfl, rfl, by rw [hof], rfl⟩
          | true =>
            rw [Bool.and_eq_true, decide_eq_true_eq, decide_eq_true_eq] at hzb
            obtain ⟨j, rfl⟩ : ∃ j, k = j + 1 := ⟨k - 1, by omega⟩
            have e1 : ((j + 1 : Nat) : Int) - 1 = (j : Int) := by omega
            have hj : j < S.length := by omega
            have c0 := HC.out j hj
            have hof := ofT_nat (L := L) j hj
            rw [HTT.out] at hof
            obtain ⟨x, hx⟩ : ∃ x, S[j] = x := ⟨_, rfl⟩
            rw [hx] at c0 hof
            have p0 : (0 : Int) ≤ j := by omega
            have p1 : (j : Int) < S.length := by omega
            clear hzb hx
            simp only [e1]
            go_wp2
            go_meet
            case rel => exact ⟨by rw [e1], by rw [e1], by rw [e1, hof], rfl⟩
        case rest =>
        obtain ⟨rfl, rfl, rfl, rfl⟩ := hcut
        have HA := Lib.hid (HOF.out ((k : Int) - 1))
        have HM := Lib.hid (fun c : Int => HMT.out ((k : Int) - 1) c)
        have HMV := Lib.hid (fun c : Int => show matesT T ((k : Int) - 1) c = (decide (0 ≤ ofT T ((k : Int) - 1)) && (ofT T ((k : Int) - 1) == ofT T c)) from rfl)
        obtain ⟨wa, hwa⟩ : ∃ wa, ofT T ((k : Int) - 1) = wa := ⟨_, rfl⟩
        rw [hwa] at HA HMV ⊢
        clear hzb hwa
        go_wp2_with fail
        refine HA.out.mono ?_
        rintro e w6 ⟨rfl, rfl⟩
        go_wp2
        go_loop [11] (fun c => ∃ j : Nat, j ≤ S.length + 2 ∧ c = .int .i64 ((j : Int) - 1)) (fun c => S.length + 2 - (intOf c + 1).toNat)
        case atStart => exact ⟨0, by omega, rfl⟩
        case round =>
          obtain ⟨j, hj, rfl⟩ := hrel
          by_cases hjl : j < S.length + 2
          · have d3 : decide ((j : Int) - 1 ≤ S.length) = true := decide_eq_true (by omega)
            have HMJ := Lib.hid (HM.out ((j : Int) - 1))
            have hmv := HMV.out ((j : Int) - 1)
            by_cases hw0 : 0 ≤ wa
            case neg =>
              have e0 : decide (0 ≤ wa) = false := decide_eq_false hw0
              rw [hmv, e0, Bool.false_and] at HMJ
              clear hmv
              go_wp2_with fail
              refine HMJ.out.mono ?_
              rintro e w7 ⟨rfl, rfl⟩
              go_wp2
              go_round
              case rel => exact ⟨j + 1, by omega, by go_num⟩
              case measure => simp [intOf]; omega
            have e0 : decide (0 ≤ wa) = true := decide_eq_true hw0
            rw [e0, Bool.true_and] at hmv
            by_cases hj0 : j = 0
            · subst hj0
              have e1 : decide ((0 : Int) ≤ ((0 : Nat) : Int) - 1) = false := by decide
              have hb : (wa == ofT T (((0 : Nat) : Int) - 1)) = false := by
                rw [← HTT.out]
                exact beq_eq_false_iff_ne.2 (by show wa ≠ -1; omega)
              rw [hmv, hb] at HMJ
              clear hmv hb
              go_wp2_with fail
              refine HMJ.out.mono ?_
              rintro e w7 ⟨rfl, rfl⟩
              go_wp2
              go_round
              case rel => exact ⟨1, by omega, by go_num⟩
              case measure => first | (simp [intOf]; done) | (simp [intOf]; omega)
            obtain ⟨i, rfl⟩ : ∃ i, j = i + 1 := ⟨j - 1, by omega⟩
            have ei : ((i + 1 : Nat) : Int) - 1 = (i : Int) := by omega
            rw [ei] at hmv HMJ d3
            simp only [ei]
            have e1 : decide ((0 : Int) ≤ (i : Int)) = true := decide_eq_true (by omega)
            by_cases hil : i < S.length
            · have e2 : decide ((i : Int) < S.length) = true := decide_eq_true (by omega)
              have c0 := HC.out i hil
              have hof := ofT_nat (L := L) i hil
              rw [HTT.out] at hof
              obtain ⟨x, hx⟩ : ∃ x, S[i] = x := ⟨_, rfl⟩
              rw [hx] at c0 hof
              rw [hof] at hmv
              obtain ⟨eb, heb⟩ : ∃ eb, (x == wa) = eb := ⟨_, rfl⟩
              have heb2 : (wa == x) = eb := by rw [← heb]; exact Bool.beq_comm
              rw [hmv, heb2] at HMJ
              have hbb : (eb != eb) = false := bne_self_eq_false _
              have p0 : (0 : Int) ≤ i := by omega
              have p1 : (i : Int) < S.length := by omega
              clear hmv hx hof heb2
              go_wp2_with fail
              refine HMJ.out.mono ?_
              rintro e w7 ⟨rfl, rfl⟩
              go_wp2
              go_round
              case rel => exact ⟨i + 2, by omega, by go_num⟩
              case measure => simp [intOf]; omega
            · have e2 : decide ((i : Int) < S.length) = false := decide_eq_false (by omega)
              have hb : (wa == ofT T (i : Int)) = false := by
                rw [← HTT.out, ofT_out _ (by omega)]
                exact beq_eq_false_iff_ne.2 (by omega)
              rw [hmv, hb] at HMJ
              clear hmv hb
              go_wp2_with fail
              refine HMJ.out.mono ?_
              rintro e w7 ⟨rfl, rfl⟩
              go_wp2
              go_round
              case rel => exact ⟨i + 2, by omega, by go_num⟩
              case measure => simp [intOf]; omega
          · obtain rfl : j = S.length + 2 := by omega
            have d3 : decide (((S.length + 2 : Nat) : Int) - 1 ≤ S.length) = false := decide_eq_false (by omega)
            go_wp2
            go_round
            case rel => exact ⟨k + 1, by omega, by go_num⟩
            case measure => simp [intOf]; omega
      · obtain rfl : k = S.length + 2 := by omega
        have d2 : decide (((S.length + 2 : Nat) : Int) - 1 ≤ S.length) = false := decide_eq_false (by omega)
        clear hlt hk d2
        have HLF := Lib.hid (fun (w' : World) (hb : Below w5.heap.size w5 w') (k : Nat) (hk : k < L.length) => show Calls Try.prog 16 #[.pointer (some ⟨b, 0, none⟩), .int .i64 k] w' (Same w' (.int .i64 L[k])) from by
          have h1 := tlife_any (HT.out.later hb) k
          rw [← HTT.out, life_new k hk] at h1
          exact h1)
        have HPO := Lib.hid (fun (w' : World) (hb : Below w5.heap.size w5 w') (k : Int) => show Calls Try.prog 17 #[.pointer (some ⟨b, 0, none⟩), .int .i64 k] w' (Same w' (.int .i64 0)) from by
          have h1 := tpoison_any (HT.out.later hb) k
          rw [← HTT.out, poison_new] at h1
          exact h1)
        have HLS := Lib.hid (fun (w' : World) (hb : Below w5.heap.size w5 w') (k : Int) => show Calls Try.prog 18 #[.pointer (some ⟨b, 0, none⟩), .int .i64 k] w' (Same w' (.bool (!inL T k))) from by
          have h1 := tlost_any (HT.out.later hb) k
          rw [← HTT.out, lost_new, HTT.out] at h1
          exact h1)
        have HIN := Lib.hid (fun (w' : World) (hb : Below w5.heap.size w5 w') (k : Int) => tin_any (HT.out.later hb) k)
        have HSL := Lib.hid (show T.sides.length = S.length ∧ T.sh.length = L.length from by rw [← HTT.out]; exact ⟨rfl, sh_new⟩)
        clear HOF HMT
        go_wp2
        go_loopw [118] (fun i wr => ∃ k : Nat, k ≤ L.length ∧ i = .int .i64 (k : Int) ∧ Hid (Below w5.heap.size w5 wr)) (fun i _ => L.length - (intOf i).toNat)
        case atStart => exact ⟨0, Nat.zero_le _, rfl, Lib.hid (Below.refl _ _)⟩
        case round =>
          obtain ⟨k, hk, rfl, HBR⟩ := hrel
          by_cases hlt : k < L.length
          · obtain ⟨b3, o3, rfl, hb3, y0⟩ := HU.out.at k hlt
            have y1 := (stepB HB2.out HBR.out).cell (p := ⟨b3, o3 + k, none⟩) hb3
            rw [y0] at y1
            have HLK := Lib.hid (fun (w' : World) (hb : Below w5.heap.size w5 w') => HLF.out w' hb k hlt)
            obtain ⟨x, hx⟩ : ∃ x, L[k] = x := ⟨_, rfl⟩
            rw [hx] at y1 HLK
            have q0 : (0 : Int) ≤ k := by omega
            have q1 : (k : Int) < L.length := by omega
            clear hx y0 hb3
            obtain ⟨wA, rfl⟩ : ∃ wA, wA = wr := ⟨_, rfl⟩
            obtain ⟨p, hp⟩ : ∃ p : Nat → Bool, (fun n : Nat => ofT T n == (k : Int)) = p := ⟨_, rfl⟩
            have HP := Lib.hid (fun (n : Nat) (hn : n < S.length) => show p n = (S[n] == (k : Int)) by rw [← hp, ← HTT.out]; show (ofT (newT S L) n == (k : Int)) = _; rw [ofT_nat n hn])
            have HSE := Lib.hid (show seatsT T k = upTo p S.length by unfold seatsT; rw [hp, HSL.out.1])
            clear hp
            go_wp2
            go_loopw [15, 125] (fun v i wr => ∃ j : Nat, j ≤ S.length ∧ i = .int .i64 j ∧ Hid (wr.ownsRow wA.heap.size 3 1 v (upTo p j).length (intsV (upTo p j))) ∧ Hid (Below wA.heap.size wA wr)) (fun _ i _ => S.length - (intOf i).toNat)
            case atStart => exact ⟨0, Nat.zero_le _, rfl, Lib.hid (World.ownsRow_nil _ _ _ _), Lib.hid (Below.refl _ _)⟩
            case round =>
              obtain ⟨j, hj, rfl, HW, HB⟩ := hrel
              by_cases hjl : j < S.length
              · have d0 : (0 : Int) ≤ j := by omega
                have d1 : (j : Int) < S.length := by omega
                have c0 := cell_stays (HBR.out.trans (HB.out.mono HBR.out.size)) (HC.out j hjl)
                have hpk := HP.out j hjl
                have hlen := upTo_len p j
                obtain ⟨M, hM⟩ : ∃ M, upTo p j = M := ⟨_, rfl⟩
                rw [hM] at HW hlen
                obtain ⟨y, hy⟩ : ∃ y, S[j] = y := ⟨_, rfl⟩
                rw [hy] at c0 hpk
                clear hy
                cases hb : p j with
                | false =>
                  have HN := Lib.hid ((upTo_no hb).trans hM)
                  have e0 : (y == (k : Int)) = false := by rw [← hpk, hb]
                  clear hb hM hpk
                  go_wp2
                  go_roundw
                  case rel => exact ⟨j + 1, by omega, by go_num, by rw [HN.out]; exact HW, HB⟩
                  case measure => simp [intOf]; omega
                | true =>
                  have HN := Lib.hid ((upTo_yes hb).trans (by rw [hM]))
                  have e0 : (y == (k : Int)) = true := by rw [← hpk, hb]
                  clear hb hM hpk
                  go_wp2_with (at_builtin; refine wpList_push rfl _ _ rfl rfl _ M (j : Int) rfl HW.out HB.out rfl (by omega) ?f)
                  case f =>
                    intro v' w' h3 h4
                    have H3 := Lib.hid (show w'.ownsRow wA.heap.size 3 1 v' (upTo p (j + 1)).length (intsV (upTo p (j + 1))) from by rw [HN.out, List.length_append]; exact h3)
                    have H4 := Lib.hid h4
                    clear h3 h4
                    go_wp2
                    go_roundw
                    case rel => exact ⟨j + 1, by omega, by go_num, H3, H4⟩
                    case measure => simp [intOf]; omega
              · obtain rfl : j = S.length := by omega
                have HBZ := Lib.hid (HBR.out.trans (HB.out.mono HBR.out.size))
                have HINK := Lib.hid (HIN.out wr HBZ.out k)
                rw [HSE.out] at HINK
                have hlen := upTo_len p S.length
                obtain ⟨M, hM⟩ : ∃ M, upTo p S.length = M := ⟨_, rfl⟩
                rw [hM] at HW HINK hlen
                have HWI := Lib.hid (own_ints HW.out)
                clear hM HB
                go_wp2_with fail
                refine HINK.out.mono ?_
                rintro e w7 ⟨v7, rfl, ho7, hb7⟩
                have HIS := Lib.hid (ints_same (own_ints ho7) (HWI.out.later hb7) (by omega))
                have HB7 := Lib.hid (stepB HBZ.out hb7)
                clear ho7 hb7
                go_wp2_with fail
                refine HIS.out.mono ?_
                rintro e w8 ⟨rfl, n8, rfl⟩
                have HB8 := Lib.hid (stepB HB7.out (drew_below _ n8))
                obtain ⟨w9, hw9⟩ : ∃ w9, w7.drewN n8 = w9 := ⟨_, rfl⟩
                rw [hw9] at HB8 ⊢
                have HL9 := Lib.hid (HLK.out w9 HB8.out)
                have HP9 := Lib.hid (HPO.out w9 HB8.out k)
                have HS9 := Lib.hid (HLS.out w9 HB8.out k)
                rw [inL_nat (by rw [HSL.out.2]; exact hlt)] at HS9
                clear hw9 HIS HINK
                go_wp2_with fail
                refine HL9.out.mono ?_
                rintro e w10 ⟨rfl, rfl⟩
                go_wp2_with fail
                refine HP9.out.mono ?_
                rintro e w11 ⟨rfl, rfl⟩
                go_wp2_with fail
                refine HS9.out.mono ?_
                rintro e w12 ⟨rfl, rfl⟩
                go_wp2
                go_roundw
                case rel => exact ⟨k + 1, by omega, by go_num, HB8⟩
                case measure => simp [intOf]; omega
          · obtain rfl : k = L.length := by omega
            clear hlt hk HC HLF
            have HINN := Lib.hid (HIN.out wr HBR.out n)
            have HSN := Lib.hid (show decide (0 < (seatsT T n).length) = inL T n from by rw [← HTT.out]; exact seats_new HMP.out n)
            have hslen : (seatsT T n).length ≤ 4 := by
              have := upTo_len (fun k => ofT T k == n) T.sides.length
              rw [HSL.out.1] at this
              unfold seatsT
              rw [HSL.out.1]
              omega
            have hin : inL T n = (decide (0 ≤ n) && decide (n < L.length)) := by unfold inL; rw [HSL.out.2]
            have HLOST := Lib.hid (fun (w' : World) (hb : Below w5.heap.size w5 w') => HLS.out w' hb n)
            obtain ⟨Q, hQ⟩ : ∃ Q, seatsT T n = Q := ⟨_, rfl⟩
            rw [hQ] at HINN HSN hslen
            clear hQ
            cases hib : inL T n with
            | true =>
              rw [hib] at hin HSN HLOST
              have h0 := hin.symm
              rw [Bool.and_eq_true, decide_eq_true_eq, decide_eq_true_eq] at h0
              have e0 : decide (0 ≤ n) = true := decide_eq_true h0.1
              have e1 : decide (n < (L.length : Int)) = true := decide_eq_true h0.2
              have e2 : decide (0 < Q.length) = true := HSN.out
              have e2p : 0 < Q.length := of_decide_eq_true HSN.out
              clear hin h0 hib
              go_wp2_with fail
              refine HINN.out.mono ?_
              rintro e w7 ⟨v7, rfl, ho7, hb7⟩
              obtain ⟨xa, xc, rfl⟩ := own_form ho7
              have HB7 := Lib.hid (stepB HBR.out hb7)
              clear ho7 hb7
              go_wp2_with fail
              refine (HLOST.out w7 HB7.out).mono ?_
              rintro e w8 ⟨rfl, rfl⟩
              go_wp2
              go_ret
              exact ⟨rfl, stepB HB2.out HB7.out⟩
            | false =>
              rw [hib] at HSN HLOST
              obtain rfl : Q = [] := List.eq_nil_of_length_eq_zero (by have := of_decide_eq_false HSN.out; omega)
              have HTB := Lib.hid (fun (w' : World) (hb : Below w5.heap.size w5 w') => HT.out.later hb)
              have HIB := Lib.hid hib
              have e0 : (decide (0 ≤ n) && decide (n < (L.length : Int))) = false := by rw [← hin, hib]
              go_upto_region 37 with fail
              go_cut [18] from 163 to 170 (fun s18 wx => s18 = .bool false ∧ wr = wx)
              case first =>
                by_cases h0 : 0 ≤ n
                · have e3 : decide (0 ≤ n) = true := decide_eq_true h0
                  rw [e3, Bool.true_and] at e0
                  go_wp2
                  go_meet
                  case rel => exact ⟨rfl, rfl⟩
                · have e3 : decide (0 ≤ n) = false := decide_eq_false h0
                  clear e0
                  go_wp2
                  go_meet
                  case rel => exact ⟨rfl, rfl⟩
              case rest =>
              obtain ⟨rfl, rfl⟩ := hcut
              clear hin hib e0
              go_wp2_with fail
              refine HINN.out.mono ?_
              rintro e w7 ⟨v7, rfl, ho7, hb7⟩
              obtain ⟨xa, xc, rfl⟩ := own_form ho7
              have HB7 := Lib.hid (stepB HBR.out hb7)
              clear ho7 hb7
              go_wp2_with fail
              refine (HLOST.out w7 HB7.out).mono ?_
              rintro e w8 ⟨rfl, rfl⟩
              have HLF7 := Lib.hid (show Calls Try.prog 16 #[.pointer (some ⟨b, 0, none⟩), .int .i64 n] w8 (Same w8 (.int .i64 0)) from by
                have h1 := tlife_any (HTB.out w8 HB7.out) n
                rwa [show lifeT T n = 0 by unfold lifeT; rw [HIB.out]; rfl] at h1)
              go_wp2_with fail
              refine HLF7.out.mono ?_
              rintro e w9 ⟨rfl, rfl⟩
              go_wp2_with fail
              refine (HPO.out w9 HB7.out n).mono ?_
              rintro e w10 ⟨rfl, rfl⟩
              have HNX := Lib.hid (tnext_any (HTB.out w10 HB7.out) n)
              rw [show nextT T n = -1 by unfold nextT; rw [HIB.out]; rfl] at HNX
              go_wp2_with fail
              refine HNX.out.mono ?_
              rintro e w11 ⟨rfl, rfl⟩
              have HLZ := Lib.hid (tlose_any (HTB.out w11 HB7.out) n)
              rw [show lostT T n = true by unfold lostT; rw [HIB.out]; rfl, show loseT T n = T by unfold loseT; rw [HIB.out]; rfl] at HLZ
              go_wp2_with fail
              refine HLZ.out.mono ?_
              rintro e w12 ⟨rfl, ht12, hg12⟩
              have HGN := Lib.hid (tgain_any ht12 n 1)
              have HB12 := Lib.hid (own_to (stepB HB2.out HB7.out) HLO.out (HTB.out w11 HB7.out) hg12)
              have HT12 := Lib.hid ht12
              rw [HIB.out, show gainT T n 1 = T by unfold gainT; rw [HIB.out]; rfl] at HGN
              clear ht12 hg12
              go_wp2_with fail
              refine HGN.out.mono ?_
              rintro e w13 ⟨rfl, ht13, hg13⟩
              have HSK := Lib.hid (tsick_any ht13 n 1)
              have HB13 := Lib.hid (own_to HB12.out HLO.out HT12.out hg13)
              have HT13 := Lib.hid ht13
              rw [HIB.out, show sickT T n 1 = T by unfold sickT; rw [HIB.out]; rfl] at HSK
              clear ht13 hg13
              go_wp2_with fail
              refine HSK.out.mono ?_
              rintro e w14 ⟨rfl, ht14, hg14⟩
              have HB14 := Lib.hid (own_to HB13.out HLO.out HT13.out hg14)
              clear ht14 hg14
              go_wp2
              go_ret
              exact ⟨rfl, HB14.out⟩
end Go.Proofs.Ytbiomffjmajlgaa
