/- The law StatChanges (layer 8), walked: for every list of things, every list of sets and every three numbers it returns true, and only new memory is made. -/
import Derived.Test.YtbbbkpadadeolaaSl
import Derived.Test.YtbbbkpadadeolaaSe
import Derived.Deep.Cut
import Derived.Deep.CutBlock
import Derived.Deep.RegionHeld3
namespace Go.Proofs.Ytbbbkpadadeolaa
open Go.RowKit Go.Maps
attribute [local go_sem] Oper.semAt_some

set_option maxRecDepth 100000 in
set_option maxHeartbeats 32000000 in
theorem statChanges_walk {v u : Value} {l : List ThingL} {s : List SetL} {w : World} (a0 a1 a2 : Int) (hv : ThingsAt w v l) (hw : ∀ x ∈ l, Wf x.owner ∧ Wf x.zone) (hlen : l.length ≤ 9223372036854775807) (hu : SetsAt w u s) (hls : s.length ≤ 9223372036854775807) :
    Calls Try.prog 4 #[v, u, .agg #[.int .i64 a0, .int .i64 a1, .int .i64 a2]] w (RetV w (.bool true)) := by
  have HMD := Lib.hid (fun (w' : World) (hb : Below w.heap.size w w') => made8_any (hv.later hb) hw hlen (hu.later hb) hls)
  clear hv hu hw
  refine (callsIn_wide (n := 9)).1 ?_
  have hbx := below_new w (.cells #[.int .i64 a0, .int .i64 a1, .int .i64 a2] 49)
  have hby := stepB hbx (below_new (w.alloc (.cells #[.int .i64 a0, .int .i64 a1, .int .i64 a2] 49)) (.cells #[.bool false] 4))
  have hop := ((below_new (w.alloc (.cells #[.int .i64 a0, .int .i64 a1, .int .i64 a2] 49)) (.cells #[.bool false] 4)).block w.heap.size (by simp)).trans (heap_alloc_new w (.cells #[.int .i64 a0, .int .i64 a1, .int .i64 a2] 49))
  have hrb := heap_alloc_new (w.alloc (.cells #[.int .i64 a0, .int .i64 a1, .int .i64 a2] 49)) (.cells #[.bool false] 4)
  rw [World.size_alloc] at hrb
  obtain ⟨q, hq⟩ : ∃ q, w.heap.size = q := ⟨_, rfl⟩
  have HQ := Lib.hid hq
  refine callsIn_of_wp_marks Try.func4 rfl trivial ?_ rfl
  simp only [Try.ntmps4, List.size_toArray, List.length_cons, List.length_nil, Nat.reduceAdd, Nat.reduceSub, Array.replicate_succ, Array.replicate_zero, List.push_toArray, List.append_toArray, List.nil_append, List.cons_append]
  refine wpIn_wide.2 ?_
  go_wp2_with fail
  refine (awake8_any _).mono ?_
  rintro e w1 ⟨rfl, hb1⟩
  have HB1 := Lib.hid (stepB hby hb1)
  have HOP1 := Lib.hid ((hb1.block _ (by simp; omega)).trans hop)
  have HRB1 := Lib.hid ((hb1.block _ (by simp)).trans hrb)
  rw [hq] at HOP1 HRB1
  clear hbx hby hop hrb hb1 hq
  dsimp only
  go_wp2_with fail
  refine (HMD.out _ HB1.out).mono ?_
  rintro e w2 (⟨hp, b, lo, G, S, rfl, hs, hf, _, hlo, hle, hb2⟩ | ⟨_, rfl, hb2⟩)
  case inr =>
    have HB2 := Lib.hid (stepB (stepB HB1.out hb2) (below_new w2 (.cells #[.pointer none] 25)))
    have hr : HdAt w2 (q + 1) (.bool false) := ⟨_, (hb2.block _ (Array.getElem?_eq_some_iff.1 HRB1.out).1).trans HRB1.out⟩
    have HR2 := Lib.hid (hr.later (below_new w2 (.cells #[.pointer none] 25)))
    have c1 := HR2.out.cell
    have f1 := HR2.out.frozen
    have HRR := Lib.hid (HR2.out.set (.bool true))
    have HBR := Lib.hid (HB2.out.setCell (p := ⟨q + 1, 0, none⟩) (by show w.heap.size ≤ q + 1; have := HQ.out; omega) (.bool true))
    clear hb2 hr
    dsimp only
    go_wp2
    exact ⟨_, results_b6 rfl rfl HRR.out, rfl, HBR.out⟩
  have HB2 := Lib.hid (stepB HB1.out hb2)
  have HS2 := Lib.hid hs
  have HF := Lib.hid hf
  have HLN := Lib.hid (show S.objs.length ≤ 40 by rw [hf.len]; exact hp.1.1)
  have HKP2 : Hid (Kept w2 G [(q, .cells #[.int .i64 a0, .int .i64 a1, .int .i64 a2] 49 (0, 0)), (q + 1, .cells #[.bool false] 4 (0, 0))]) := Lib.hid (by
    have k1 := (Array.getElem?_eq_some_iff.1 HOP1.out).1
    have k2 := (Array.getElem?_eq_some_iff.1 HRB1.out).1
    have htag : ∀ k, k < w1.heap.size → G.tag k = .no := fun k hk => Classical.byContradiction fun hn => by have := hs.low k hn; omega
    intro p hp
    rcases List.mem_cons.1 hp with rfl | hp
    · exact ⟨(hb2.block _ k1).trans HOP1.out, htag _ k1⟩
    · obtain rfl := List.mem_singleton.1 hp
      exact ⟨(hb2.block _ k2).trans HRB1.out, htag _ k2⟩)
  have HLO := Lib.hid (show w.heap.size ≤ lo from Nat.le_trans HB1.out.size hlo)
  have HFAR := Lib.hid (show ∀ k, G.tag k ≠ .no → w.heap.size ≤ k from fun k hk => Nat.le_trans (Nat.le_trans HB1.out.size hlo) (hs.low k hk))
  clear hs hf hlo hle hb2 HMD hp
  -- the box of s
  have hb3 := below_new w2 (.cells #[.pointer (some ⟨b, 0, none⟩)] 25)
  have HS3 := Lib.hid (HS2.out.later hb3)
  have HK3 := Lib.hid ((HKP2.out.later hb3).cons (heap_alloc_new w2 (.cells #[.pointer (some ⟨b, 0, none⟩)] 25)) (HS2.out.high _ (Nat.le_refl _)))
  have HB3 := Lib.hid (stepB HB2.out hb3)
  clear hb3
  obtain ⟨w3, hw3⟩ : ∃ w3, w2.alloc (.cells #[.pointer (some ⟨b, 0, none⟩)] 25) = w3 := ⟨_, rfl⟩
  obtain ⟨q7, hq7⟩ : ∃ q7, w2.heap.size = q7 := ⟨_, rfl⟩
  rw [hw3] at HS3 HK3 HB3
  rw [hq7] at HK3
  have c7 : w3.cell? ⟨q7, 0, none⟩ = some (.pointer (some ⟨b, 0, none⟩)) := HK3.out.c0 0
  have ca : w3.cell? ⟨q, 0, none⟩ = some (.int .i64 a0) := HK3.out.c1 0
  have cb : w3.cell? ⟨q, 1, none⟩ = some (.int .i64 a1) := HK3.out.c1 1
  dsimp only
  go_upto_region 6 with fail
  clear hw3 hq7 HKP2 HS2 HB2
  go_region
  go_upto_region 7 with fail
  obtain ⟨w4, hw4⟩ : ∃ w4, w3.drew = w4 := ⟨_, rfl⟩
  have hd4 : Below w3.heap.size w3 w4 := hw4 ▸ (Below.refl _ _).drew
  rw [hw4]
  have HS4 := Lib.hid (HS3.out.later hd4)
  have HK4 := Lib.hid (HK3.out.later hd4)
  have HB4 := Lib.hid (stepB HB3.out hd4)
  clear ca cb c7 hw4 hd4 HS3 HK3 HB3
  have c7 : w4.cell? ⟨q7, 0, none⟩ = some (.pointer (some ⟨b, 0, none⟩)) := HK4.out.c0 0
  have HSH := Lib.hid (HF.out.wf.short (by have := HLN.out; omega))
  have HCP := Lib.hid (copyS_any HS4.out HSH.out)
  go_wp2_with fail
  refine HCP.out.mono ?_
  rintro e w5 ⟨tb, H, rfl, ht5, hb5⟩
  have HAP := Lib.hid (apart_copyO HS4.out ht5)
  have HT5 := Lib.hid ht5
  have HS5 := Lib.hid (HS4.out.later hb5)
  have HK5 := Lib.hid (HK4.out.later hb5)
  have HB5 := Lib.hid (stepB HB4.out hb5)
  have HLOW := Lib.hid (show ∀ k, H.tag k ≠ .no → w.heap.size ≤ k from fun k hk => Nat.le_trans HB4.out.size (ht5.low k hk))
  obtain ⟨lt, hlt⟩ : ∃ lt, w4.heap.size = lt := ⟨_, rfl⟩
  rw [hlt] at HT5
  have HKH := Lib.hid (show Kept w5 H [(q7, .cells #[.pointer (some ⟨b, 0, none⟩)] 25 (0, 0)), (q, .cells #[.int .i64 a0, .int .i64 a1, .int .i64 a2] 49 (0, 0)), (q + 1, .cells #[.bool false] 4 (0, 0))] from fun p hp => ⟨(HK5.out p hp).1, Classical.byContradiction fun hn => by have h1 := ht5.low _ hn; have h2 := HK4.out.lt hp; omega⟩)
  clear hlt ht5 hb5 HS4 HK4 HB4 HCP c7
  have c7 : w5.cell? ⟨q7, 0, none⟩ = some (.pointer (some ⟨b, 0, none⟩)) := HK5.out.c0 0
  dsimp only
  by_cases hin : hasS S a0
  case neg =>
    have HE := Lib.hid (show creE S a0 = 7 by unfold creE; rw [if_neg hin])
    have HGE := Lib.hid (get_out HS5.out (by have := HLN.out; omega) a0 (by unfold hasS at hin; omega))
    unfold RetGet oagg zeroO at HGE
    dsimp only at HGE
    clear hin
    go_wp2_with fail
    refine HGE.out.mono ?_
    rintro e w55 ⟨rfl, hb6⟩
    have hb7 := below_alloc2 hb6 (.cells #[.int .i64 0, .int .i64 0, .int .i64 0, .int .i64 0, .bool false, .bool false, .int .i64 0, .int .i64 0, .int .i64 0, .int .i64 0, .bool false] 36)
    have HS6 := Lib.hid (HS5.out.later hb7)
    have HT6 := Lib.hid (HT5.out.later hb7)
    have HK6 := Lib.hid (HK5.out.later hb7)
    have HB6 := Lib.hid (stepB HB5.out hb7)
    have HR6 := Lib.hid (heap_alloc_new w55 (.cells #[.int .i64 0, .int .i64 0, .int .i64 0, .int .i64 0, .bool false, .bool false, .int .i64 0, .int .i64 0, .int .i64 0, .int .i64 0, .bool false] 36))
    have HG6 := Lib.hid (show G.tag w55.heap.size = .no ∧ H.tag w55.heap.size = .no from ⟨HS5.out.high _ hb6.size, HT5.out.high _ hb6.size⟩)
    have HNE := Lib.hid (fun (p : Nat × Obj) hp => Nat.lt_of_lt_of_le (HK5.out.lt (p := p) hp) hb6.size)
    have HQ11 := Lib.hid (show w.heap.size ≤ w55.heap.size from Nat.le_trans HB5.out.size hb6.size)
    clear hb6 hb7 HS5 HT5 HK5 HB5 HGE c7
    dsimp only
    go_upto_region 9 with fail
    obtain ⟨w6, hw6⟩ : ∃ w6, w55.alloc (.cells #[.int .i64 0, .int .i64 0, .int .i64 0, .int .i64 0, .bool false, .bool false, .int .i64 0, .int .i64 0, .int .i64 0, .int .i64 0, .bool false] 36) = w6 := ⟨_, rfl⟩
    obtain ⟨q11, hq11⟩ : ∃ q, w55.heap.size = q := ⟨_, rfl⟩
    rw [hw6] at HS6 HT6 HK6 HB6 HR6
    rw [hq11] at HR6 HG6 HQ11 HNE
    have c7 : w6.cell? ⟨q7, 0, none⟩ = some (.pointer (some ⟨b, 0, none⟩)) := HK6.out.c0 0
    have ca : w6.cell? ⟨q, 2, none⟩ = some (.int .i64 a2) := HK6.out.c1 2
    rw [hw6, hq11]
    clear hw6 hq11
    go_upto_block 0 with fail
    obtain ⟨mm, hmm⟩ : ∃ mm, bits .and .i64 a2 3 = mm := ⟨_, rfl⟩
    rw [hmm]
    have HMM := Lib.hid hmm
    clear hmm
    go_cut [13] from 41 to 56 (fun s13 wx => ∃ G' : Ghost, s13 = .int .i64 (creE S a0) ∧ Hid (StoreAt wx lo b G' (chgS mm S a0 a1)) ∧ Hid (Turned w6 wx G G'))
    case first =>
      by_cases h0 : mm = 0
      · subst h0
        have HC := Lib.hid (hurt_any HS6.out HF.out.wf (by have := HLN.out; omega) a0 a1)
        rw [show hurtS S a0 a1 = chgS 0 S a0 a1 from rfl] at HC
        go_wp2_with fail
        refine HC.out.mono ?_
        rintro e w7 ⟨rfl, G7, hs7, ht7⟩
        have HS7 := Lib.hid hs7
        have HT7 := Lib.hid ht7
        clear hs7 ht7 HC
        dsimp only
        go_wp2_with fail
        go_meet
        case rel => exact ⟨G7, rfl, HS7, HT7⟩
      · have n0 : (mm == 0) = false := beq_eq_false_iff_ne.2 h0
        by_cases h1 : mm = 1
        · subst h1
          have HC := Lib.hid (count_any HS6.out HF.out.wf (by have := HLN.out; omega) a0 a1)
          rw [show countS S a0 a1 = chgS 1 S a0 a1 from rfl] at HC
          clear h0
          go_wp2_with fail
          refine HC.out.mono ?_
          rintro e w7 ⟨rfl, G7, hs7, ht7⟩
          have HS7 := Lib.hid hs7
          have HT7 := Lib.hid ht7
          clear hs7 ht7 HC
          dsimp only
          go_wp2_with fail
          go_meet
          case rel => exact ⟨G7, rfl, HS7, HT7⟩
        · have n1 : (mm == 1) = false := beq_eq_false_iff_ne.2 h1
          have HC := Lib.hid (boost_any HS6.out HF.out.wf (by have := HLN.out; omega) a0 a1)
          rw [show boostS S a0 a1 = chgS mm S a0 a1 by unfold chgS; rw [if_neg h0, if_neg h1]] at HC
          clear h0 h1
          go_wp2_with fail
          refine HC.out.mono ?_
          rintro e w7 ⟨rfl, G7, hs7, ht7⟩
          have HS7 := Lib.hid hs7
          have HT7 := Lib.hid ht7
          clear hs7 ht7 HC
          dsimp only
          go_wp2_with fail
          go_meet
          case rel => exact ⟨G7, rfl, HS7, HT7⟩
    case rest =>
      obtain ⟨G7, rfl, HS7, HTU7⟩ := hcut
      obtain ⟨w7, hw7⟩ : ∃ w7, wc = w7 := ⟨_, rfl⟩
      rw [hw7] at HS7 HTU7 ⊢
      clear hw7 wc c7 ca
      have hfr := HT6.out.far HAP.out HTU7.out
      have HT7 := Lib.hid hfr.1
      have HAP7 := Lib.hid hfr.2
      have HK7 := Lib.hid (HK6.out.turn HTU7.out)
      have HB7 := Lib.hid (HTU7.out.below HB6.out HFAR.out)
      have HR7 := Lib.hid ((HTU7.out.chg.block q11 (Array.getElem?_eq_some_iff.1 HR6.out).1 (.inl HG6.out.1)).trans HR6.out)
      have HG7 := Lib.hid (show G7.tag q11 = .no from (HTU7.out.tag q11 (Array.getElem?_eq_some_iff.1 HR6.out).1).trans HG6.out.1)
      have c7 : w7.cell? ⟨q7, 0, none⟩ = some (.pointer (some ⟨b, 0, none⟩)) := HK7.out.c0 0
      clear hfr
      rw [HE.out]
      have hcs := chgS_not (S := S) (i := a0) mm a1 (by rw [HE.out]; decide)
      rw [hcs] at HS7
      have HSM := Lib.hid (same_true HS7.out HT7.out HSH.out)
      clear hcs
      go_wp2_with fail
      refine HSM.out.mono ?_
      rintro e w8 ⟨rfl, hb8⟩
      have HB8 := Lib.hid hb8
      clear hb8 HSM c7
      have HKL := Lib.hid (HK7.out.later HB8.out)
      have HR8 := Lib.hid HKL.out.h2
      have HB9 := Lib.hid (stepB HB7.out HB8.out)
      have HRR := Lib.hid (HR8.out.set (.bool true))
      have HBR := Lib.hid (HB9.out.setCell (p := ⟨q + 1, 0, none⟩) (by show w.heap.size ≤ q + 1; have := HQ.out; omega) (.bool true))
      have cr := HR8.out.cell
      have fr := HR8.out.frozen
      clear HR8
      dsimp only
      go_wp2
      exact ⟨_, results_b6 rfl rfl HRR.out, rfl, HBR.out⟩
  obtain ⟨k, rfl⟩ : ∃ k : Nat, a0 = (k : Int) + 1 := ⟨(a0 - 1).toNat, by unfold hasS at hin; omega⟩
  have hk : k < S.objs.length := by unfold hasS at hin; omega
  have hge := get_in HS5.out (by have := HLN.out; omega) k hk
  have hid := (HF.out.wf.ids k hk).1
  have HO := Lib.hid (objOf_at hk)
  obtain ⟨X, hX⟩ : ∃ X, S.objs[k] = X := ⟨_, rfl⟩
  have HKL := Lib.hid hk
  have HXX := Lib.hid hX
  have hcre : creE S ((k : Int) + 1) = if liveO S X then 0 else 10 := by unfold creE; rw [if_pos hin, objOf_at hk, hX]
  rw [hX] at hge hid HO
  obtain ⟨x0, x1, x2, x3, x4, x5, x6, x7, x8, x9, x10⟩ := X
  dsimp only at hid
  subst hid
  have HGE := Lib.hid hge
  unfold RetGet oagg at HGE
  dsimp only at HGE
  clear hge hX hin
  by_cases hlv : liveO S ⟨(k : Int) + 1, x1, x2, x3, x4, x5, x6, x7, x8, x9, x10⟩ = true
  case neg =>
    have HE := Lib.hid (hcre.trans (if_neg hlv))
    clear hcre hlv
    go_wp2_with fail
    refine HGE.out.mono ?_
    rintro e w55 ⟨rfl, hb6⟩
    have hb7 := below_alloc2 hb6 (.cells #[.int .i64 ((k : Int) + 1), .int .i64 x1, .int .i64 x2, .int .i64 x3, .bool x4, .bool x5, .int .i64 x6, .int .i64 x7, .int .i64 x8, .int .i64 x9, .bool x10] 36)
    have HS6 := Lib.hid (HS5.out.later hb7)
    have HT6 := Lib.hid (HT5.out.later hb7)
    have HK6 := Lib.hid (HK5.out.later hb7)
    have HB6 := Lib.hid (stepB HB5.out hb7)
    have HR6 := Lib.hid (heap_alloc_new w55 (.cells #[.int .i64 ((k : Int) + 1), .int .i64 x1, .int .i64 x2, .int .i64 x3, .bool x4, .bool x5, .int .i64 x6, .int .i64 x7, .int .i64 x8, .int .i64 x9, .bool x10] 36))
    have HG6 := Lib.hid (show G.tag w55.heap.size = .no ∧ H.tag w55.heap.size = .no from ⟨HS5.out.high _ hb6.size, HT5.out.high _ hb6.size⟩)
    have HNE := Lib.hid (fun (p : Nat × Obj) hp => Nat.lt_of_lt_of_le (HK5.out.lt (p := p) hp) hb6.size)
    have HQ11 := Lib.hid (show w.heap.size ≤ w55.heap.size from Nat.le_trans HB5.out.size hb6.size)
    clear hb6 hb7 HS5 HT5 HK5 HB5 HGE c7
    dsimp only
    go_upto_region 9 with fail
    obtain ⟨w6, hw6⟩ : ∃ w6, w55.alloc (.cells #[.int .i64 ((k : Int) + 1), .int .i64 x1, .int .i64 x2, .int .i64 x3, .bool x4, .bool x5, .int .i64 x6, .int .i64 x7, .int .i64 x8, .int .i64 x9, .bool x10] 36) = w6 := ⟨_, rfl⟩
    obtain ⟨q11, hq11⟩ : ∃ q, w55.heap.size = q := ⟨_, rfl⟩
    rw [hw6] at HS6 HT6 HK6 HB6 HR6
    rw [hq11] at HR6 HG6 HQ11 HNE
    have c7 : w6.cell? ⟨q7, 0, none⟩ = some (.pointer (some ⟨b, 0, none⟩)) := HK6.out.c0 0
    have ca : w6.cell? ⟨q, 2, none⟩ = some (.int .i64 a2) := HK6.out.c1 2
    rw [hw6, hq11]
    clear hw6 hq11
    go_upto_block 0 with fail
    obtain ⟨mm, hmm⟩ : ∃ mm, bits .and .i64 a2 3 = mm := ⟨_, rfl⟩
    rw [hmm]
    have HMM := Lib.hid hmm
    clear hmm
    go_cut [13] from 41 to 56 (fun s13 wx => ∃ G' : Ghost, s13 = .int .i64 (creE S ((k : Int) + 1)) ∧ Hid (StoreAt wx lo b G' (chgS mm S ((k : Int) + 1) a1)) ∧ Hid (Turned w6 wx G G'))
    case first =>
      by_cases h0 : mm = 0
      · subst h0
        have HC := Lib.hid (hurt_any HS6.out HF.out.wf (by have := HLN.out; omega) ((k : Int) + 1) a1)
        rw [show hurtS S ((k : Int) + 1) a1 = chgS 0 S ((k : Int) + 1) a1 from rfl] at HC
        go_wp2_with fail
        refine HC.out.mono ?_
        rintro e w7 ⟨rfl, G7, hs7, ht7⟩
        have HS7 := Lib.hid hs7
        have HT7 := Lib.hid ht7
        clear hs7 ht7 HC
        dsimp only
        go_wp2_with fail
        go_meet
        case rel => exact ⟨G7, rfl, HS7, HT7⟩
      · have n0 : (mm == 0) = false := beq_eq_false_iff_ne.2 h0
        by_cases h1 : mm = 1
        · subst h1
          have HC := Lib.hid (count_any HS6.out HF.out.wf (by have := HLN.out; omega) ((k : Int) + 1) a1)
          rw [show countS S ((k : Int) + 1) a1 = chgS 1 S ((k : Int) + 1) a1 from rfl] at HC
          clear h0
          go_wp2_with fail
          refine HC.out.mono ?_
          rintro e w7 ⟨rfl, G7, hs7, ht7⟩
          have HS7 := Lib.hid hs7
          have HT7 := Lib.hid ht7
          clear hs7 ht7 HC
          dsimp only
          go_wp2_with fail
          go_meet
          case rel => exact ⟨G7, rfl, HS7, HT7⟩
        · have n1 : (mm == 1) = false := beq_eq_false_iff_ne.2 h1
          have HC := Lib.hid (boost_any HS6.out HF.out.wf (by have := HLN.out; omega) ((k : Int) + 1) a1)
          rw [show boostS S ((k : Int) + 1) a1 = chgS mm S ((k : Int) + 1) a1 by unfold chgS; rw [if_neg h0, if_neg h1]] at HC
          clear h0 h1
          go_wp2_with fail
          refine HC.out.mono ?_
          rintro e w7 ⟨rfl, G7, hs7, ht7⟩
          have HS7 := Lib.hid hs7
          have HT7 := Lib.hid ht7
          clear hs7 ht7 HC
          dsimp only
          go_wp2_with fail
          go_meet
          case rel => exact ⟨G7, rfl, HS7, HT7⟩
    case rest =>
      obtain ⟨G7, rfl, HS7, HTU7⟩ := hcut
      obtain ⟨w7, hw7⟩ : ∃ w7, wc = w7 := ⟨_, rfl⟩
      rw [hw7] at HS7 HTU7 ⊢
      clear hw7 wc c7 ca
      have hfr := HT6.out.far HAP.out HTU7.out
      have HT7 := Lib.hid hfr.1
      have HAP7 := Lib.hid hfr.2
      have HK7 := Lib.hid (HK6.out.turn HTU7.out)
      have HB7 := Lib.hid (HTU7.out.below HB6.out HFAR.out)
      have HR7 := Lib.hid ((HTU7.out.chg.block q11 (Array.getElem?_eq_some_iff.1 HR6.out).1 (.inl HG6.out.1)).trans HR6.out)
      have HG7 := Lib.hid (show G7.tag q11 = .no from (HTU7.out.tag q11 (Array.getElem?_eq_some_iff.1 HR6.out).1).trans HG6.out.1)
      have c7 : w7.cell? ⟨q7, 0, none⟩ = some (.pointer (some ⟨b, 0, none⟩)) := HK7.out.c0 0
      clear hfr
      rw [HE.out]
      have hcs := chgS_not (S := S) (i := ((k : Int) + 1)) mm a1 (by rw [HE.out]; decide)
      rw [hcs] at HS7
      have HLV := Lib.hid (live_any HT7.out HF.out.wf (by have := HLN.out; omega) ((k : Int) + 1))
      rw [HE.out] at HLV
      clear hcs
      go_wp2_with fail
      refine HLV.out.mono ?_
      rintro e w75 ⟨rfl, hb75⟩
      have HB75 := Lib.hid hb75
      have HSM := Lib.hid (same_true (HS7.out.later hb75) (HT7.out.later hb75) HSH.out)
      have c7' := cell_stays hb75 c7
      clear hb75 HLV c7
      dsimp only
      go_wp2_with fail
      refine HSM.out.mono ?_
      rintro e w8 ⟨rfl, hb8⟩
      have HB8 := Lib.hid (stepB HB75.out hb8)
      clear hb8 HSM c7'
      have HKL := Lib.hid (HK7.out.later HB8.out)
      have HR8 := Lib.hid HKL.out.h2
      have HB9 := Lib.hid (stepB HB7.out HB8.out)
      have HRR := Lib.hid (HR8.out.set (.bool true))
      have HBR := Lib.hid (HB9.out.setCell (p := ⟨q + 1, 0, none⟩) (by show w.heap.size ≤ q + 1; have := HQ.out; omega) (.bool true))
      have cr := HR8.out.cell
      have fr := HR8.out.frozen
      clear HR8
      dsimp only
      go_wp2
      exact ⟨_, results_b6 rfl rfl HRR.out, rfl, HBR.out⟩
  have HE := Lib.hid (hcre.trans (if_pos hlv))
  clear hcre hlv
  go_wp2_with fail
  refine HGE.out.mono ?_
  rintro e w55 ⟨rfl, hb6⟩
  have hb7 := below_alloc2 hb6 (.cells #[.int .i64 ((k : Int) + 1), .int .i64 x1, .int .i64 x2, .int .i64 x3, .bool x4, .bool x5, .int .i64 x6, .int .i64 x7, .int .i64 x8, .int .i64 x9, .bool x10] 36)
  have HS6 := Lib.hid (HS5.out.later hb7)
  have HT6 := Lib.hid (HT5.out.later hb7)
  have HK6 := Lib.hid (HK5.out.later hb7)
  have HB6 := Lib.hid (stepB HB5.out hb7)
  have HR6 := Lib.hid (heap_alloc_new w55 (.cells #[.int .i64 ((k : Int) + 1), .int .i64 x1, .int .i64 x2, .int .i64 x3, .bool x4, .bool x5, .int .i64 x6, .int .i64 x7, .int .i64 x8, .int .i64 x9, .bool x10] 36))
  have HG6 := Lib.hid (show G.tag w55.heap.size = .no ∧ H.tag w55.heap.size = .no from ⟨HS5.out.high _ hb6.size, HT5.out.high _ hb6.size⟩)
  have HNE := Lib.hid (fun (p : Nat × Obj) hp => Nat.lt_of_lt_of_le (HK5.out.lt (p := p) hp) hb6.size)
  have HQ11 := Lib.hid (show w.heap.size ≤ w55.heap.size from Nat.le_trans HB5.out.size hb6.size)
  clear hb6 hb7 HS5 HT5 HK5 HB5 HGE c7
  dsimp only
  go_upto_region 9 with fail
  obtain ⟨w6, hw6⟩ : ∃ w6, w55.alloc (.cells #[.int .i64 ((k : Int) + 1), .int .i64 x1, .int .i64 x2, .int .i64 x3, .bool x4, .bool x5, .int .i64 x6, .int .i64 x7, .int .i64 x8, .int .i64 x9, .bool x10] 36) = w6 := ⟨_, rfl⟩
  obtain ⟨q11, hq11⟩ : ∃ q, w55.heap.size = q := ⟨_, rfl⟩
  rw [hw6] at HS6 HT6 HK6 HB6 HR6
  rw [hq11] at HR6 HG6 HQ11 HNE
  have c7 : w6.cell? ⟨q7, 0, none⟩ = some (.pointer (some ⟨b, 0, none⟩)) := HK6.out.c0 0
  have ca : w6.cell? ⟨q, 2, none⟩ = some (.int .i64 a2) := HK6.out.c1 2
  rw [hw6, hq11]
  clear hw6 hq11
  go_upto_block 0 with fail
  obtain ⟨mm, hmm⟩ : ∃ mm, bits .and .i64 a2 3 = mm := ⟨_, rfl⟩
  rw [hmm]
  have HMM := Lib.hid hmm
  clear hmm
  go_cut [13] from 41 to 56 (fun s13 wx => ∃ G' : Ghost, s13 = .int .i64 (creE S ((k : Int) + 1)) ∧ Hid (StoreAt wx lo b G' (chgS mm S ((k : Int) + 1) a1)) ∧ Hid (Turned w6 wx G G'))
  case first =>
    by_cases h0 : mm = 0
    · subst h0
      have HC := Lib.hid (hurt_any HS6.out HF.out.wf (by have := HLN.out; omega) ((k : Int) + 1) a1)
      rw [show hurtS S ((k : Int) + 1) a1 = chgS 0 S ((k : Int) + 1) a1 from rfl] at HC
      go_wp2_with fail
      refine HC.out.mono ?_
      rintro e w7 ⟨rfl, G7, hs7, ht7⟩
      have HS7 := Lib.hid hs7
      have HT7 := Lib.hid ht7
      clear hs7 ht7 HC
      dsimp only
      go_wp2_with fail
      go_meet
      case rel => exact ⟨G7, rfl, HS7, HT7⟩
    · have n0 : (mm == 0) = false := beq_eq_false_iff_ne.2 h0
      by_cases h1 : mm = 1
      · subst h1
        have HC := Lib.hid (count_any HS6.out HF.out.wf (by have := HLN.out; omega) ((k : Int) + 1) a1)
        rw [show countS S ((k : Int) + 1) a1 = chgS 1 S ((k : Int) + 1) a1 from rfl] at HC
        clear h0
        go_wp2_with fail
        refine HC.out.mono ?_
        rintro e w7 ⟨rfl, G7, hs7, ht7⟩
        have HS7 := Lib.hid hs7
        have HT7 := Lib.hid ht7
        clear hs7 ht7 HC
        dsimp only
        go_wp2_with fail
        go_meet
        case rel => exact ⟨G7, rfl, HS7, HT7⟩
      · have n1 : (mm == 1) = false := beq_eq_false_iff_ne.2 h1
        have HC := Lib.hid (boost_any HS6.out HF.out.wf (by have := HLN.out; omega) ((k : Int) + 1) a1)
        rw [show boostS S ((k : Int) + 1) a1 = chgS mm S ((k : Int) + 1) a1 by unfold chgS; rw [if_neg h0, if_neg h1]] at HC
        clear h0 h1
        go_wp2_with fail
        refine HC.out.mono ?_
        rintro e w7 ⟨rfl, G7, hs7, ht7⟩
        have HS7 := Lib.hid hs7
        have HT7 := Lib.hid ht7
        clear hs7 ht7 HC
        dsimp only
        go_wp2_with fail
        go_meet
        case rel => exact ⟨G7, rfl, HS7, HT7⟩
  case rest =>
    obtain ⟨G7, rfl, HS7, HTU7⟩ := hcut
    obtain ⟨w7, hw7⟩ : ∃ w7, wc = w7 := ⟨_, rfl⟩
    rw [hw7] at HS7 HTU7 ⊢
    clear hw7 wc c7 ca
    have hfr := HT6.out.far HAP.out HTU7.out
    have HT7 := Lib.hid hfr.1
    have HAP7 := Lib.hid hfr.2
    have HK7 := Lib.hid (HK6.out.turn HTU7.out)
    have HB7 := Lib.hid (HTU7.out.below HB6.out HFAR.out)
    have HR7 := Lib.hid ((HTU7.out.chg.block q11 (Array.getElem?_eq_some_iff.1 HR6.out).1 (.inl HG6.out.1)).trans HR6.out)
    have HG7 := Lib.hid (show G7.tag q11 = .no from (HTU7.out.tag q11 (Array.getElem?_eq_some_iff.1 HR6.out).1).trans HG6.out.1)
    have c7 : w7.cell? ⟨q7, 0, none⟩ = some (.pointer (some ⟨b, 0, none⟩)) := HK7.out.c0 0
    clear hfr
    rw [HE.out]
    have hcs := chgS_at (S := S) (k := k) mm a1 HE.out
    rw [HO.out] at hcs
    rw [hcs] at HS7
    have HW1 := Lib.hid (hcs ▸ chgS_wf HF.out.wf mm ((k : Int) + 1) a1)
    have HL1 := Lib.hid (show (setL S k (chgO mm ⟨(k : Int) + 1, x1, x2, x3, x4, x5, x6, x7, x8, x9, x10⟩ a1)).objs.length ≤ 1000 by rw [← hcs, chgS_len]; have := HLN.out; omega)
    have hsm := chgO_same mm ⟨(k : Int) + 1, x1, x2, x3, x4, x5, x6, x7, x8, x9, x10⟩ a1
    have HKH7 := Lib.hid (HK7.out.to HKH.out)
    have HLV := Lib.hid (live_any HT7.out HF.out.wf (by have := HLN.out; omega) ((k : Int) + 1))
    rw [HE.out] at HLV
    clear hcs
    go_wp2_with fail
    refine HLV.out.mono ?_
    rintro e w8 ⟨rfl, hb8⟩
    have HS8 := Lib.hid (HS7.out.later hb8)
    have HT8 := Lib.hid (HT7.out.later hb8)
    have HK8 := Lib.hid (HK7.out.later hb8)
    have HKH8 := Lib.hid (HKH7.out.later hb8)
    have HB8 := Lib.hid (stepB HB7.out hb8)
    have HR8 := Lib.hid ((hb8.block q11 (Array.getElem?_eq_some_iff.1 HR7.out).1).trans HR7.out)
    clear hb8 HLV c7 HS7 HT7 HK7 HKH7 HB7 HR7 HS6 HT6 HK6 HB6 HTU7
    have ca : w8.cell? ⟨q, 2, none⟩ = some (.int .i64 a2) := HK8.out.c1 2
    obtain ⟨Y, hY⟩ : ∃ Y, chgO mm ⟨(k : Int) + 1, x1, x2, x3, x4, x5, x6, x7, x8, x9, x10⟩ a1 = Y := ⟨_, rfl⟩
    rw [hY] at HS8 HW1 HL1 hsm
    have HSM := Lib.hid hsm
    have HY := Lib.hid hY
    clear hsm hY
    dsimp only
    go_upto_block 2 with fail
    rw [HMM.out]
    clear ca
    go_cut [13] from 83 to 102 (fun s13 wx => s13 = .int .i64 0 ∧ Hid (wx.heap[q11]? = some (.cells (ocs Y) 36 (0, 0))) ∧ Hid (∃ (j : Nat) (uu : Value), wx = w8.setCell ⟨q11, j, none⟩ uu))
    case first =>
      by_cases h0 : mm = 0
      · subst h0
        have cz : w8.cell? ⟨q11, 6, none⟩ = some (.int .i64 x6) := (obj_of_row (x := ⟨(k : Int) + 1, x1, x2, x3, x4, x5, x6, x7, x8, x9, x10⟩) HR8.out).2.2.2.2.2.2.1
        have fz := frozen_of_row w8 q11 6 _ _ HR8.out
        have HAD := Lib.hid (refAdd_any x6 a1 w8)
        go_wp2_with fail
        refine HAD.out.mono ?_
        rintro e w9 ⟨rfl, rfl⟩
        have HY9 := Lib.hid (show (w9.setCell ⟨q11, 6, none⟩ (.int .i64 (raiseZ x6 a1))).heap[q11]? = some (.cells (ocs Y) 36 (0, 0)) by
          rw [heap_setCell_same w9 q11 6 _ _ _ HR8.out, ← HY.out]
          rfl)
        clear HAD
        dsimp only
        go_wp2_with fail
        go_meet
        case rel => exact ⟨rfl, HY9, Lib.hid ⟨6, _, rfl⟩⟩
      · have n0 : (mm == 0) = false := beq_eq_false_iff_ne.2 h0
        by_cases h1 : mm = 1
        · subst h1
          clear h0
          have cz : w8.cell? ⟨q11, 7, none⟩ = some (.int .i64 x7) := (obj_of_row (x := ⟨(k : Int) + 1, x1, x2, x3, x4, x5, x6, x7, x8, x9, x10⟩) HR8.out).2.2.2.2.2.2.2.1
          have fz := frozen_of_row w8 q11 7 _ _ HR8.out
          have HAD := Lib.hid (refAdd_any x7 a1 w8)
          go_wp2_with fail
          refine HAD.out.mono ?_
          rintro e w9 ⟨rfl, rfl⟩
          have HY9 := Lib.hid (show (w9.setCell ⟨q11, 7, none⟩ (.int .i64 (addZ x7 a1))).heap[q11]? = some (.cells (ocs Y) 36 (0, 0)) by
            rw [heap_setCell_same w9 q11 7 _ _ _ HR8.out, ← HY.out]
            rfl)
          clear HAD
          dsimp only
          go_wp2_with fail
          go_meet
          case rel => exact ⟨rfl, HY9, Lib.hid ⟨7, _, rfl⟩⟩
        · have n1 : (mm == 1) = false := beq_eq_false_iff_ne.2 h1
          have hq : chgO mm ⟨(k : Int) + 1, x1, x2, x3, x4, x5, x6, x7, x8, x9, x10⟩ a1 = boostO ⟨(k : Int) + 1, x1, x2, x3, x4, x5, x6, x7, x8, x9, x10⟩ a1 := by unfold chgO; rw [if_neg h0, if_neg h1]
          have HY := Lib.hid (hq.symm.trans HY.out)
          clear h0 h1 hq
          have cz : w8.cell? ⟨q11, 8, none⟩ = some (.int .i64 x8) := (obj_of_row (x := ⟨(k : Int) + 1, x1, x2, x3, x4, x5, x6, x7, x8, x9, x10⟩) HR8.out).2.2.2.2.2.2.2.2.1
          have fz := frozen_of_row w8 q11 8 _ _ HR8.out
          have HAD := Lib.hid (refAdd_any x8 a1 w8)
          go_wp2_with fail
          refine HAD.out.mono ?_
          rintro e w9 ⟨rfl, rfl⟩
          have HY9 := Lib.hid (show (w9.setCell ⟨q11, 8, none⟩ (.int .i64 (addZ x8 a1))).heap[q11]? = some (.cells (ocs Y) 36 (0, 0)) by
            rw [heap_setCell_same w9 q11 8 _ _ _ HR8.out, ← HY.out]
            rfl)
          clear HAD
          dsimp only
          go_wp2_with fail
          go_meet
          case rel => exact ⟨rfl, HY9, Lib.hid ⟨8, _, rfl⟩⟩
    case rest =>
      obtain ⟨rfl, HR9, HSET⟩ := hcut
      obtain ⟨w9, hw9⟩ : ∃ w9, wc = w9 := ⟨_, rfl⟩
      rw [hw9] at HR9 HSET ⊢
      clear hw9 wc
      obtain ⟨j9, u9, hset⟩ := HSET.out
      have HS9 := Lib.hid (show StoreAt w9 lo b G7 (setL S k Y) by rw [hset]; exact store_setN HS8.out HG7.out u9)
      have HT9 := Lib.hid (show StoreAt w9 lt tb H S by rw [hset]; exact store_setN HT8.out HG6.out.2 u9)
      have HK9 := Lib.hid (show Kept w9 G7 [(q7, .cells #[.pointer (some ⟨b, 0, none⟩)] 25 (0, 0)), (q, .cells #[.int .i64 ((k : Int) + 1), .int .i64 a1, .int .i64 a2] 49 (0, 0)), (q + 1, .cells #[.bool false] 4 (0, 0))] by rw [hset]; exact HK8.out.setN HNE.out)
      have HKH9 := Lib.hid (HK9.out.to HKH8.out)
      have HB9 := Lib.hid (show Below w.heap.size w w9 by rw [hset]; exact HB8.out.setCell (by exact HQ11.out) u9)
      clear hset HSET HS8 HT8 HK8 HKH8 HB8 HR8 HR6
      obtain ⟨y0, y1, y2, y3, y4, y5, y6, y7, y8, y9, y10⟩ := Y
      obtain ⟨e0, e1, e2, e3⟩ := HSM.out
      dsimp only at e0 e1 e2 e3
      subst e0 e1 e2 e3
      have hset := set_any HT9.out (by have := HLN.out; omega) k hk ⟨(k : Int) + 1, y1, y2, y3, y4, y5, y6, y7, y8, y9, y10⟩ rfl (by rw [HXX.out]) (by rw [HXX.out]) (by rw [HXX.out])
      have HSE := Lib.hid (show Calls Try.prog 26 #[.pointer (some ⟨tb, 0, none⟩), oagg ⟨(k : Int) + 1, y1, y2, y3, y4, y5, y6, y7, y8, y9, y10⟩] w9 (RetS w9 lt tb H (setL S k ⟨(k : Int) + 1, y1, y2, y3, y4, y5, y6, y7, y8, y9, y10⟩) (.int .i64 0)) from hset)
      unfold oagg at HSE
      dsimp only at HSE
      obtain ⟨o0, o1, o2, o3, o4, o5, o6, o7, o8, o9, o10⟩ := obj_of_row (x := ⟨(k : Int) + 1, y1, y2, y3, y4, y5, y6, y7, y8, y9, y10⟩) HR9.out
      simp only [Nat.zero_add] at o1 o2 o3 o4 o5 o6 o7 o8 o9 o10
      dsimp only at o0 o1 o2 o3 o4 o5 o6 o7 o8 o9 o10
      obtain ⟨S1, hS1⟩ : ∃ S1, setL S k ⟨(k : Int) + 1, y1, y2, y3, y4, y5, y6, y7, y8, y9, y10⟩ = S1 := ⟨_, rfl⟩
      rw [hS1] at HSE HS9 HW1 HL1
      have HSH1 := Lib.hid (HW1.out.short HL1.out)
      clear hset hS1 HY HSM
      go_wp2_with fail
      refine HSE.out.mono ?_
      rintro e w10 ⟨rfl, H10, ht10, htu⟩
      have hfr := HS9.out.far HAP7.out.flip htu
      have HS10 := Lib.hid hfr.1
      have HAP21 := Lib.hid hfr.2.flip
      have HFAR7 := Lib.hid (show ∀ q, G7.tag q ≠ .no → w.heap.size ≤ q from fun q hq => Nat.le_trans HLO.out (HS9.out.low q hq))
      have HT10 := Lib.hid ht10
      have HKH10 := Lib.hid (HKH9.out.turn htu)
      have HK10 := Lib.hid (HKH10.out.to HK9.out)
      have HB10 := Lib.hid (htu.below HB9.out HLOW.out)
      clear hfr ht10 htu o0 o1 o2 o3 o4 o5 o6 o7 o8 o9 o10 HSE HS9 HT9 HR9
      have c7 : w10.cell? ⟨q7, 0, none⟩ = some (.pointer (some ⟨b, 0, none⟩)) := HK10.out.c0 0
      have HSM := Lib.hid (same_true HS10.out HT10.out HSH1.out)
      dsimp only
      go_wp2_with fail
      refine HSM.out.mono ?_
      rintro e w11 ⟨rfl, hb11⟩
      have HS11 := Lib.hid (HS10.out.later hb11)
      have HT11 := Lib.hid (HT10.out.later hb11)
      have HK11 := Lib.hid (HK10.out.later hb11)
      have HKH11 := Lib.hid (HKH10.out.later hb11)
      have HB11 := Lib.hid (stepB HB10.out hb11)
      clear hb11 HSM c7 HS10 HT10 HK10 HKH10 HB10 HKH9 HK9 HB9
      dsimp only
      go_upto_region 29 with fail
      have hb12 := below_new w11 (.cells #[.int .i64 0] 3)
      have hn0 := HdAt.new w11 (.int .i64 0) 3
      have HFA := Lib.hid (field_any (some ⟨tb, 0, none⟩) ((nil_ints w11).later hb12) (by decide))
      have HN0 := Lib.hid hn0
      have HB12 := Lib.hid hb12
      clear hb12 hn0
      go_wp2_with fail
      refine HFA.out.mono ?_
      rintro e w13 ⟨rfl, hf1, ⟨uu, hf2, hu⟩, hb13⟩
      obtain ⟨q14, hq14⟩ : ∃ q14, w11.heap.size = q14 := ⟨_, rfl⟩
      have HQ14 := Lib.hid hq14
      have HN13 := Lib.hid (HN0.out.later hb13)
      have HB13 := Lib.hid (stepB HB12.out hb13)
      simp only [World.size_alloc, hq14] at hf1 hf2
      rw [hq14] at HN13
      have HSEQ := Lib.hid (field_seq 8 (by omega) (w := w13) (fun k => k = q14) (fun _ => False) (fun k e => by subst e; exact HN13.out.lt) hf1 hf2 (HT11.out.later HB13.out) HW1.out HL1.out hu (by decide) (fun c hc => hc.elim))
      have hCI : CntI q14 w11 w13 [] w13 := ⟨HN13.out, KpP.refl _ _ _, HB13.out, Nat.zero_le _⟩
      have HFL := Lib.hid (fieldL_len HW1.out HL1.out HS11.out.n1 [])
      clear hf1 hf2 hu hb13 HFA HN0 HB12
      dsimp only
      go_wp2_with fail
      refine (wpIn_wide (n := 9)).1 ?_
      simp only [World.size_alloc, hq14]
      clear hq14
      refine range_world3 rfl (by omega) (I := CntI q14 w11 w13) (Ix := fun _ _ _ => False) (gf := 53) (lb := _) rfl trivial (fun _ _ => by kernel_rfl) HSEQ.out KpP.trans (fun W' o o' ho hc _ => KpP.put o' (.inr rfl) ho hc) (fun W W' hb => KpP.of_below _ _ hb) (Below.refl _ _) (fun _ => rfl)
        (cntI_own HB13.out.size (Nat.le_refl _)) (fun c s A B row hs hg hr => hs) (fun s A B row hs hg hr => hs) (fun s A B row hs hg hr => hs) hCI ?round ?done ?stop
      case stop =>
        rintro D c pre W hD hS hI hK
        exact hI.elim
      case round =>
        rintro pre x W K hI hT hsz hK
        have htl := hT.length_le
        have HK := Lib.hid hK
        have HTL := Lib.hid (show pre.length + 1 ≤ 1000 from by have := HFL.out; simp at htl; omega)
        have hct := fade_cnt pre x
        have hcl : (pre.filter woundO).length ≤ 1000 := Nat.le_trans (List.length_filter_le _ _) (by have := HTL.out; omega)
        obtain ⟨z0, z1, z2, z3, z4, z5, z6, z7, z8, z9, z10⟩ := x
        have HCT := Lib.hid hct
        clear hK hT hI htl hct hCI
        simp only [encO, ocs]
        simp
        gi_wp2
        refine HK.out _ _ (below_new W _) ?_
        clear HK
        intro Wb hsz2 hrest hkw ⟨hn, hkp, hbw, hlm⟩
        have hqz := (hrest W.heap.size (by omega)).trans (heap_alloc_new W (.cells #[.int .i64 z0, .int .i64 z1, .int .i64 z2, .int .i64 z3, .bool z4, .bool z5, .int .i64 z6, .int .i64 z7, .int .i64 z8, .int .i64 z9, .bool z10] 36))
        have HKW := Lib.hid hkw
        have HKP := Lib.hid hkp
        have HNB := Lib.hid hn
        have HBW := Lib.hid hbw
        obtain ⟨qz, hqz0⟩ : ∃ qz, W.heap.size = qz := ⟨_, rfl⟩
        rw [hqz0] at hqz ⊢
        obtain ⟨o0, o1, o2, o3, o4, o5, o6, o7, o8, o9, o10⟩ := obj_of_row (x := ⟨z0, z1, z2, z3, z4, z5, z6, z7, z8, z9, z10⟩) hqz
        simp only [Nat.zero_add] at o1 o2 o3 o4 o5 o6 o7 o8 o9 o10
        dsimp only at o0 o1 o2 o3 o4 o5 o6 o7 o8 o9 o10
        have c14 := hn.cell
        have f14 := hn.frozen
        obtain ⟨M, hM⟩ : ∃ M, (pre.filter woundO).length = M := ⟨_, rfl⟩
        rw [hM] at c14 hcl HNB HCT
        clear hqz0 hqz hrest hkw hkp hbw hn hsz2 hlm hM
        by_cases hw : woundO ⟨z0, z1, z2, z3, z4, z5, z6, z7, z8, z9, z10⟩ = true
        · have hcc := HCT.out
          rw [if_pos hw] at hcc
          have HNC := Lib.hid (HNB.out.set (.int .i64 ((M : Int) + 1)))
          have HCC := Lib.hid (show (M : Int) + 1 = (((pre ++ [(⟨z0, z1, z2, z3, z4, z5, z6, z7, z8, z9, z10⟩ : ObjL)]).filter woundO).length : Int) by rw [hcc]; omega)
          have HBC := Lib.hid (HBW.out.setCell (p := ⟨q14, 0, none⟩) (show w11.heap.size ≤ q14 by rw [HQ14.out]; exact Nat.le_refl _) (.int .i64 ((M : Int) + 1)))
          clear hcc HCT
          have fin : ∀ We : World, We = Wb.setCell ⟨q14, 0, none⟩ (.int .i64 ((M : Int) + 1)) → KeepsFrom w13.heap.size Wb We ∧ KpP (fun k => k = q14 ∨ k = _) (fun _ => False) W We ∧ CntI q14 w11 w13 (pre ++ [⟨z0, z1, z2, z3, z4, z5, z6, z7, z8, z9, z10⟩]) We := fun We hWe => by
            subst hWe
            have kw : KpP (fun k => k = q14) (fun _ => False) Wb _ := kpP_setE (.int .i64 ((M : Int) + 1))
            exact ⟨kw.from (fun k e => by subst e; exact HN13.out.lt), HKW.out.trans (kw.mono (fun k e => .inl e)), by rw [← HCC.out]; exact HNC.out, HKP.out.trans kw, HBC.out, by rw [List.length_append]; exact HTL.out⟩
          have HFIN := Lib.hid fin
          clear fin
          by_cases h6 : z6 = 0
          · subst h6
            have h8 : (z8 != 0) = true := by simpa [woundO] using hw
            have h66 : ((0 : Int) != 0) = false := rfl
            clear hw
            gi_wp2
            exact HFIN.out _ rfl
          · have h66 : (z6 != 0) = true := bne_iff_ne.2 h6
            clear hw h6
            gi_wp2
            exact HFIN.out _ rfl
        · have hcc := HCT.out
          rw [if_neg hw] at hcc
          have HNC := Lib.hid (show HdAt Wb q14 (.int .i64 ((pre ++ [(⟨z0, z1, z2, z3, z4, z5, z6, z7, z8, z9, z10⟩ : ObjL)]).filter woundO).length) by rw [hcc, Nat.add_zero]; exact HNB.out)
          obtain ⟨rfl, rfl⟩ : z6 = 0 ∧ z8 = 0 := by simpa [woundO] using hw
          clear hcc hw HCT
          gi_wp2
          exact ⟨(KpP.refl (fun _ => False) (fun _ => False) _).from (fun k e => e.elim), HKW.out, HNC.out, HKP.out, HBW.out, by rw [List.length_append]; exact HTL.out⟩
      case done =>
        rintro D ys W hD hS ⟨hn, hkp, hbw, hlm⟩ hK
        subst hS
        have hfn := fadeN_eq HW1.out HS11.out.n1
        rw [hfn] at hn
        have HSD := Lib.hid (HS11.out.later hbw)
        have HTD := Lib.hid (HT11.out.later hbw)
        have HBD := Lib.hid (stepB HB11.out hbw)
        have HTG := Lib.hid (show ∀ k, q14 ≤ k → G7.tag k = .no ∧ H10.tag k = .no from fun k hk => ⟨HS11.out.high k (by have := HQ14.out; omega), HT11.out.high k (by have := HQ14.out; omega)⟩)
        have HDK := Lib.hid hK
        have HDL := Lib.hid (show w13.heap.size ≤ D from hD)
        obtain ⟨tn, hn'⟩ := hn
        have HKD := Lib.hid (((HK11.out.later hbw).cons hn' (HTG.out q14 (Nat.le_refl _)).1).cons hK (HTG.out D (by have h1 := HN13.out.lt; have h2 : w13.heap.size ≤ D := hD; omega)).1)
        have hfl : (fadeN S1 : Int) ≤ 1000 := by
          rw [← hfn]
          have := Nat.le_trans (List.length_filter_le woundO (fieldL S1 [])) HFL.out
          omega
        have HW2 := Lib.hid (fadeL_wf HW1.out)
        have HL2 := Lib.hid (show (fadeL S1).objs.length ≤ 1000 by rw [fadeL_len]; exact HL1.out)
        have HF2 := Lib.hid (And.intro (fadeL_fade S1) (fadeN_fade S1))
        obtain ⟨NN, hNN⟩ : ∃ NN, fadeN S1 = NN := ⟨_, rfl⟩
        rw [hNN] at HKD hfl
        have HNN := Lib.hid hNN
        have HB11S := Lib.hid HB11.out.size
        clear hbw hkp hn' hfn hlm hCI hK hNN HS11 HT11 HK11 HB11
        go_upto_region 33 with fail
        go_cut [138] from 130 to 138 (fun s138 wx => s138 = .bool false ∧ ∃ G' : Ghost, Hid (StoreAt wx lo b G' (fadeL S1)) ∧ Hid (Turned W wx G7 G'))
        case first =>
          have HNNI := Lib.hid (show ((NN : Int) != (NN : Int)) = false from bne_self_eq_false _)
          have nni := HNNI.out
          have HP0 : Hid (StoreAt W.drew lo b G7 S1 ∧ W.drew.cell? ⟨q7, 0, none⟩ = some (.pointer (some ⟨b, 0, none⟩)) ∧ W.drew.cell? ⟨q14, 0, none⟩ = some (.int .i64 NN)) := Lib.hid ⟨HSD.out.later (Below.refl _ _).drew, (HKD.out.later (Below.refl _ _).drew).c2 0, (HKD.out.later (Below.refl _ _).drew).c1 0⟩
          go_region_held3 (fun w' => w'.cell? ⟨q7, 0, none⟩ = some (.pointer (some ⟨b, 0, none⟩)) ∧ w'.cell? ⟨q14, 0, none⟩ = some (.int .i64 NN))
            (first | assumption | exact HP0.out.2)
            (first
            | (go_at_call 19; refine (fade_any HP0.out.1 HW1.out HL1.out).mono ?_; rintro e w20 ⟨rfl, G20, hs20, ht20⟩; rw [HNN.out]; have HS20 := Lib.hid hs20; have HT20 := Lib.hid ((Turned.of_below (G := G7) (Below.refl W.heap.size W).drew).trans ht20); have HK20 := Lib.hid (HKD.out.turn HT20.out); have hc20 := And.intro (HK20.out.c2 0) (HK20.out.c1 0); clear hs20 ht20)
            | (go_at_call 19; refine (fade_any HS20.out HW2.out HL2.out).mono ?_; rintro e w21 ⟨rfl, G21, hs21, ht21⟩; rw [HF2.out.1] at hs21; rw [HF2.out.2]; have HS21 := Lib.hid hs21; have HT21 := Lib.hid (HT20.out.trans ht21); have HK21 := Lib.hid (HKD.out.turn HT21.out); have hc21 := And.intro (HK21.out.c2 0) (HK21.out.c1 0); clear hs21 ht21))
          all_goals
            go_wp2_with fail
            go_meet
            case rel => exact ⟨by first | rfl | simp, G21, HS21, HT21⟩
        case rest =>
          obtain ⟨rfl, G21, HS21, HTU21⟩ := hcut
          obtain ⟨w21, hw21⟩ : ∃ w21, wc = w21 := ⟨_, rfl⟩
          rw [hw21] at HS21 HTU21 ⊢
          clear hw21 wc
          have hfr := HTD.out.far HAP21.out HTU21.out
          have HT21 := Lib.hid hfr.1
          have HK21 := Lib.hid (HKD.out.turn HTU21.out)
          have HB21 := Lib.hid (HTU21.out.below HBD.out HFAR7.out)
          clear hfr HSD HTD HKD HBD HTU21
          have HAL := Lib.hid (objAll_any (some ⟨tb, 0, none⟩) w21)
          go_wp2_with fail
          refine HAL.out.mono ?_
          rintro e w22 ⟨rfl, hbx22, hb22⟩
          have HS22 := Lib.hid (HS21.out.later hb22)
          have HT22 := Lib.hid (HT21.out.later hb22)
          have HK22 := Lib.hid (HK21.out.later hb22)
          have HB22 := Lib.hid (stepB HB21.out hb22)
          have HBX := Lib.hid hbx22
          obtain ⟨qc, hqc⟩ : ∃ qc, w21.heap.size = qc := ⟨_, rfl⟩
          rw [hqc] at HBX ⊢
          clear hbx22 hb22 HS21 HT21 HK21 HB21 hqc HAL
          dsimp only
          go_wp2_with fail
          refine (wpIn_wide (n := 9)).1 ?_
          have HSEQ2 := Lib.hid (objs_seq 8 (by omega) (w := w22) (fun _ => False) (fun _ => False) (fun _ e => e.elim) HBX.out HT22.out HL1.out (fun c hc => hc.elim))
          refine range_world3 rfl (by omega) (I := fun (_ : List ObjL) W => Below w22.heap.size w22 W) (Ix := fun _ _ _ => False) (gf := 56) (lb := _) rfl trivial (fun _ _ => by kernel_rfl) HSEQ2.out KpP.trans (fun W' o o' ho hc _ => KpP.put o' (.inr rfl) ho hc) (fun W W' hb => KpP.of_below _ _ hb) (Below.refl _ _) (fun _ => rfl)
            (fun s A B row hs hg hr => ownFrom_below (β := Unit) (Nat.le_refl _) (Nat.le_refl _) () A B row hs hg hr) (fun c s A B row hs hg hr => hs) (fun s A B row hs hg hr => hs) (fun s A B row hs hg hr => hs) (Below.refl _ _) ?round2 ?done2 ?stop2
          case stop2 =>
            rintro D2 c pre W2 hD2 hS hI hK
            exact hI.elim
          case round2 =>
            rintro pre x W2 K hI hT hsz hK
            have hk2 : pre.length < S1.objs.length := by have := hT.length_le; simp at this; omega
            have hxk : S1.objs[pre.length] = x := by
              obtain ⟨r, hr⟩ := hT
              have h : ∀ (L : List ObjL) (hL : pre ++ [x] ++ r = L) (hh : pre.length < L.length), L[pre.length] = x := by
                rintro L rfl hh
                simp
              exact h _ hr hk2
            obtain ⟨kk, hkk⟩ : ∃ k, pre.length = k := ⟨_, rfl⟩
            have hk' : kk < S1.objs.length := by rw [← hkk]; exact hk2
            have hxk' : S1.objs[kk] = x := by subst hkk; exact hxk
            have HID := Lib.hid ((HW1.out.ids kk hk').1)
            rw [hxk'] at HID
            have hk2' : kk < (fadeL S1).objs.length := by rw [fadeL_len]; exact hk'
            have hfx : (fadeL S1).objs[kk] = if onF x then fadeO x else x := by
              have e : ∀ (L : List ObjL) (hL : L = S1.objs.map fun o => if onF o then fadeO o else o) (hh : kk < L.length), L[kk] = if onF x then fadeO x else x := fun L hL hh => by
                subst hL
                rw [List.getElem_map, hxk']
              exact e _ rfl hk2'
            obtain ⟨z0, z1, z2, z3, z4, z5, z6, z7, z8, z9, z10⟩ := x
            obtain rfl : z0 = (kk : Int) + 1 := HID.out
            have HK := Lib.hid hK
            have HFX := Lib.hid hfx
            clear hK hT hI hxk hkk hk2 hxk' HID hfx
            simp only [encO, ocs]
            simp
            gi_wp2
            refine HK.out _ _ (below_new W2 _) ?_
            clear HK
            intro Wb hsz2 hrest hkw hbW
            have hqz := (hrest W2.heap.size (by omega)).trans (heap_alloc_new W2 (.cells #[.int .i64 ((kk : Int) + 1), .int .i64 z1, .int .i64 z2, .int .i64 z3, .bool z4, .bool z5, .int .i64 z6, .int .i64 z7, .int .i64 z8, .int .i64 z9, .bool z10] 36))
            have HBW := Lib.hid hbW
            have HKW := Lib.hid hkw
            have HSB := Lib.hid (HS22.out.later hbW)
            have HKB := Lib.hid (HK22.out.later hbW)
            have hge := get_in HSB.out HL2.out kk hk2'
            obtain ⟨qz, hqz0⟩ : ∃ qz, W2.heap.size = qz := ⟨_, rfl⟩
            rw [hqz0] at hqz ⊢
            have HQ0 := Lib.hid hqz0
            have HQS := Lib.hid (show w22.heap.size ≤ qz by rw [← hqz0]; omega)
            have HZL := Lib.hid (show qz < Wb.heap.size from (Array.getElem?_eq_some_iff.1 hqz).1)
            have c7 : Wb.cell? ⟨q7, 0, none⟩ = some (.pointer (some ⟨b, 0, none⟩)) := HKB.out.c2 0
            have cz : Wb.cell? ⟨qz, 0, none⟩ = some (.int .i64 ((kk : Int) + 1)) := (obj_of_row (x := ⟨(kk : Int) + 1, z1, z2, z3, z4, z5, z6, z7, z8, z9, z10⟩) hqz).1
            have HQZ := Lib.hid hqz
            clear hqz0 hqz hrest hkw hbW hsz2 hsz
            rw [HFX.out] at hge
            by_cases h3 : z3 = 3
            · subst h3
              have HGE := Lib.hid (show Calls Try.prog 10 #[.pointer (some ⟨b, 0, none⟩), .int .i64 ((kk : Int) + 1)] Wb (RetGet Wb ⟨(kk : Int) + 1, z1, z2, 3, z4, z5, 0, z7, 0, z9, z10⟩ 0) from hge)
              unfold RetGet oagg at HGE
              dsimp only at HGE
              clear hge HFX
              gi_wp2_with fail
              refine ⟨trivial, (callsIn_wide.2 HGE.out).mono ?_⟩
              rintro e w32 ⟨rfl, hb32⟩
              have HB32 := Lib.hid (below_alloc2 hb32 (.cells #[.int .i64 ((kk : Int) + 1), .int .i64 z1, .int .i64 z2, .int .i64 3, .bool z4, .bool z5, .int .i64 0, .int .i64 z7, .int .i64 0, .int .i64 z9, .bool z10] 36))
              have hrow := (HB32.out.block qz HZL.out).trans HQZ.out
              have HROW := Lib.hid hrow
              have hnew := heap_alloc_new w32 (.cells #[.int .i64 ((kk : Int) + 1), .int .i64 z1, .int .i64 z2, .int .i64 3, .bool z4, .bool z5, .int .i64 0, .int .i64 z7, .int .i64 0, .int .i64 z9, .bool z10] 36)
              have n1 : ¬ qz = w32.heap.size := by have := HZL.out; have := hb32.size; omega
              have n2 : ¬ w32.heap.size = qz := fun e => n1 e.symm
              have p3 : (w32.alloc (.cells #[.int .i64 ((kk : Int) + 1), .int .i64 z1, .int .i64 z2, .int .i64 3, .bool z4, .bool z5, .int .i64 0, .int .i64 z7, .int .i64 0, .int .i64 z9, .bool z10] 36)).cell? ⟨qz, 3, none⟩ = some (.int .i64 3) := (obj_of_row (x := ⟨(kk : Int) + 1, z1, z2, 3, z4, z5, z6, z7, z8, z9, z10⟩) hrow).2.2.2.1
              have p6 : (w32.alloc (.cells #[.int .i64 ((kk : Int) + 1), .int .i64 z1, .int .i64 z2, .int .i64 3, .bool z4, .bool z5, .int .i64 0, .int .i64 z7, .int .i64 0, .int .i64 z9, .bool z10] 36)).cell? ⟨qz, 6, none⟩ = some (.int .i64 z6) := (obj_of_row (x := ⟨(kk : Int) + 1, z1, z2, 3, z4, z5, z6, z7, z8, z9, z10⟩) hrow).2.2.2.2.2.2.1
              have p8 : (w32.alloc (.cells #[.int .i64 ((kk : Int) + 1), .int .i64 z1, .int .i64 z2, .int .i64 3, .bool z4, .bool z5, .int .i64 0, .int .i64 z7, .int .i64 0, .int .i64 z9, .bool z10] 36)).cell? ⟨qz, 8, none⟩ = some (.int .i64 z8) := (obj_of_row (x := ⟨(kk : Int) + 1, z1, z2, 3, z4, z5, z6, z7, z8, z9, z10⟩) hrow).2.2.2.2.2.2.2.2.1
              have f6 := frozen_of_row (w32.alloc (.cells #[.int .i64 ((kk : Int) + 1), .int .i64 z1, .int .i64 z2, .int .i64 3, .bool z4, .bool z5, .int .i64 0, .int .i64 z7, .int .i64 0, .int .i64 z9, .bool z10] 36)) qz 6 _ _ hrow
              have f8 := frozen_of_row (w32.alloc (.cells #[.int .i64 ((kk : Int) + 1), .int .i64 z1, .int .i64 z2, .int .i64 3, .bool z4, .bool z5, .int .i64 0, .int .i64 z7, .int .i64 0, .int .i64 z9, .bool z10] 36)) qz 8 _ _ hrow
              have hr2 : (((w32.alloc (.cells #[.int .i64 ((kk : Int) + 1), .int .i64 z1, .int .i64 z2, .int .i64 3, .bool z4, .bool z5, .int .i64 0, .int .i64 z7, .int .i64 0, .int .i64 z9, .bool z10] 36)).setCell ⟨qz, 6, none⟩ (.int .i64 0)).setCell ⟨qz, 8, none⟩ (.int .i64 0)).heap[qz]? = some (.cells #[.int .i64 ((kk : Int) + 1), .int .i64 z1, .int .i64 z2, .int .i64 3, .bool z4, .bool z5, .int .i64 0, .int .i64 z7, .int .i64 0, .int .i64 z9, .bool z10] 36 (0, 0)) := by
                rw [heap_setCell_same _ qz 8 _ _ _ (heap_setCell_same _ qz 6 _ _ _ hrow)]
                rfl
              have ho2 : ∀ j, j ≠ qz → (((w32.alloc (.cells #[.int .i64 ((kk : Int) + 1), .int .i64 z1, .int .i64 z2, .int .i64 3, .bool z4, .bool z5, .int .i64 0, .int .i64 z7, .int .i64 0, .int .i64 z9, .bool z10] 36)).setCell ⟨qz, 6, none⟩ (.int .i64 0)).setCell ⟨qz, 8, none⟩ (.int .i64 0)).heap[j]? = (w32.alloc (.cells #[.int .i64 ((kk : Int) + 1), .int .i64 z1, .int .i64 z2, .int .i64 3, .bool z4, .bool z5, .int .i64 0, .int .i64 z7, .int .i64 0, .int .i64 z9, .bool z10] 36)).heap[j]? := fun j hj => (heap_setCell_other _ ⟨qz, 8, none⟩ j _ hj).trans (heap_setCell_other _ ⟨qz, 6, none⟩ j _ hj)
              have HO2 := Lib.hid ho2
              have HN2 := Lib.hid ((ho2 w32.heap.size n2).trans hnew)
              have HR2 := Lib.hid hr2
              have HBS := Lib.hid (((stepB HBW.out HB32.out).setCell (p := ⟨qz, 6, none⟩) (by exact HQS.out) (.int .i64 0)).setCell (p := ⟨qz, 8, none⟩) (by exact HQS.out) (.int .i64 0))
              obtain ⟨s0, s1, s2, s3, s4, s5, s6, s7, s8, s9, s10⟩ := obj_of_row (x := ⟨(kk : Int) + 1, z1, z2, 3, z4, z5, 0, z7, 0, z9, z10⟩) hr2
              obtain ⟨t0, t1, t2, t3, t4, t5, t6, t7, t8, t9, t10⟩ := obj_of_row (x := ⟨(kk : Int) + 1, z1, z2, 3, z4, z5, 0, z7, 0, z9, z10⟩) HN2.out
              simp only [Nat.zero_add] at s1 s2 s3 s4 s5 s6 s7 s8 s9 s10 t1 t2 t3 t4 t5 t6 t7 t8 t9 t10
              dsimp only at s0 s1 s2 s3 s4 s5 s6 s7 s8 s9 s10 t0 t1 t2 t3 t4 t5 t6 t7 t8 t9 t10
              have hE : ∀ W, (binOp .neq 36 (.agg #[.int .i64 ((kk : Int) + 1), .int .i64 z1, .int .i64 z2, .int .i64 3, .bool z4, .bool z5, .int .i64 0, .int .i64 z7, .int .i64 0, .int .i64 z9, .bool z10]) (.agg #[.int .i64 ((kk : Int) + 1), .int .i64 z1, .int .i64 z2, .int .i64 3, .bool z4, .bool z5, .int .i64 0, .int .i64 z7, .int .i64 0, .int .i64 z9, .bool z10])).run Try.prog W = .ok (.bool false) W := fun W => by rw [neqObj]; simp
              have hN := @neqgO
              clear hb32 HGE c7 cz hrow hnew hr2 ho2
              dsimp only
              gi_wp2
              have hsz32 := Nat.le_trans HB32.out.size (show (w32.alloc (.cells #[.int .i64 ((kk : Int) + 1), .int .i64 z1, .int .i64 z2, .int .i64 3, .bool z4, .bool z5, .int .i64 0, .int .i64 z7, .int .i64 0, .int .i64 z9, .bool z10] 36)).heap.size ≤ (((w32.alloc (.cells #[.int .i64 ((kk : Int) + 1), .int .i64 z1, .int .i64 z2, .int .i64 3, .bool z4, .bool z5, .int .i64 0, .int .i64 z7, .int .i64 0, .int .i64 z9, .bool z10] 36)).setCell ⟨qz, 6, none⟩ (.int .i64 0)).setCell ⟨qz, 8, none⟩ (.int .i64 0)).heap.size by simp)
              have hkk : ∀ j, j < Wb.heap.size → j ≠ qz → (((w32.alloc (.cells #[.int .i64 ((kk : Int) + 1), .int .i64 z1, .int .i64 z2, .int .i64 3, .bool z4, .bool z5, .int .i64 0, .int .i64 z7, .int .i64 0, .int .i64 z9, .bool z10] 36)).setCell ⟨qz, 6, none⟩ (.int .i64 0)).setCell ⟨qz, 8, none⟩ (.int .i64 0)).heap[j]? = Wb.heap[j]? := fun j hj hne => (HO2.out j hne).trans (HB32.out.block j hj)
              exact ⟨keeps_new hsz32 hkk HQZ.out, kp_new HQ0.out HKW.out hsz32 hkk, HBS.out⟩
            · have hof : onF ⟨(kk : Int) + 1, z1, z2, z3, z4, z5, z6, z7, z8, z9, z10⟩ = false := beq_eq_false_iff_ne.2 h3
              rw [hof] at hge
              have HGE := Lib.hid (show Calls Try.prog 10 #[.pointer (some ⟨b, 0, none⟩), .int .i64 ((kk : Int) + 1)] Wb (RetGet Wb ⟨(kk : Int) + 1, z1, z2, z3, z4, z5, z6, z7, z8, z9, z10⟩ 0) from hge)
              unfold RetGet oagg at HGE
              dsimp only at HGE
              have e3 : (z3 == 3) = false := beq_eq_false_iff_ne.2 h3
              clear hge HFX hof h3
              gi_wp2_with fail
              refine ⟨trivial, (callsIn_wide.2 HGE.out).mono ?_⟩
              rintro e w32 ⟨rfl, hb32⟩
              have HB32 := Lib.hid (below_alloc2 hb32 (.cells #[.int .i64 ((kk : Int) + 1), .int .i64 z1, .int .i64 z2, .int .i64 z3, .bool z4, .bool z5, .int .i64 z6, .int .i64 z7, .int .i64 z8, .int .i64 z9, .bool z10] 36))
              obtain ⟨s0, s1, s2, s3, s4, s5, s6, s7, s8, s9, s10⟩ := obj_of_row (x := ⟨(kk : Int) + 1, z1, z2, z3, z4, z5, z6, z7, z8, z9, z10⟩) ((HB32.out.block qz HZL.out).trans HQZ.out)
              obtain ⟨t0, t1, t2, t3, t4, t5, t6, t7, t8, t9, t10⟩ := obj_of_row (x := ⟨(kk : Int) + 1, z1, z2, z3, z4, z5, z6, z7, z8, z9, z10⟩) (heap_alloc_new w32 (.cells #[.int .i64 ((kk : Int) + 1), .int .i64 z1, .int .i64 z2, .int .i64 z3, .bool z4, .bool z5, .int .i64 z6, .int .i64 z7, .int .i64 z8, .int .i64 z9, .bool z10] 36))
              simp only [Nat.zero_add] at s1 s2 s3 s4 s5 s6 s7 s8 s9 s10 t1 t2 t3 t4 t5 t6 t7 t8 t9 t10
              dsimp only at s0 s1 s2 s3 s4 s5 s6 s7 s8 s9 s10 t0 t1 t2 t3 t4 t5 t6 t7 t8 t9 t10
              have hE : ∀ W, (binOp .neq 36 (.agg #[.int .i64 ((kk : Int) + 1), .int .i64 z1, .int .i64 z2, .int .i64 z3, .bool z4, .bool z5, .int .i64 z6, .int .i64 z7, .int .i64 z8, .int .i64 z9, .bool z10]) (.agg #[.int .i64 ((kk : Int) + 1), .int .i64 z1, .int .i64 z2, .int .i64 z3, .bool z4, .bool z5, .int .i64 z6, .int .i64 z7, .int .i64 z8, .int .i64 z9, .bool z10])).run Try.prog W = .ok (.bool false) W := fun W => by rw [neqObj]; simp
              have hN := @neqgO
              clear hb32 HGE c7 cz
              dsimp only
              gi_wp2
              have kw := KpP.of_below (fun _ => False) (fun _ => False) HB32.out
              exact ⟨kw.from (fun k e => e.elim), HKW.out.trans (kw.mono (fun k e => e.elim)), stepB HBW.out HB32.out⟩
          case done2 =>
            rintro D2 ys W2 hD2 hS2 hbW2 hK2
            have HKE := Lib.hid (HK22.out.later hbW2)
            have HBE := Lib.hid (stepB HB22.out hbW2)
            have HD2K := Lib.hid hK2
            have HD2L := Lib.hid (show w22.heap.size ≤ D2 from hD2)
            have HHU := Lib.hid (fun W => hurt_nil 1 1 W)
            have HCO := Lib.hid (fun W => count_nil 1 1 W)
            have HBO := Lib.hid (fun W => boost_nil 1 1 W)
            clear hbW2 hK2 hD2 hS2
            go_wp2_with fail
            refine (HHU.out _).mono ?_
            rintro e w40 ⟨rfl, hb40⟩
            have HB40 := Lib.hid hb40
            clear hb40
            dsimp only
            go_wp2_with fail
            refine (HCO.out _).mono ?_
            rintro e w41 ⟨rfl, hb41⟩
            have HB41 := Lib.hid (stepB HB40.out hb41)
            clear hb41
            dsimp only
            go_wp2_with fail
            refine (HBO.out _).mono ?_
            rintro e w42 ⟨rfl, hb42⟩
            have HB42 := Lib.hid (stepB HB41.out hb42)
            clear hb42
            have HKF := Lib.hid (HKE.out.later HB42.out)
            have hr := (HKF.out (q + 1, .cells #[.bool false] 4 (0, 0)) (by simp)).1
            have HR := Lib.hid (show HdAt w42 (q + 1) (.bool false) from ⟨_, hr⟩)
            have cr := HR.out.cell
            have fr := HR.out.frozen
            have HRR := Lib.hid (HR.out.set (.bool true))
            have HBF := Lib.hid ((stepB HBE.out HB42.out).setCell (p := ⟨q + 1, 0, none⟩) (by show w.heap.size ≤ q + 1; have := HQ.out; omega) (.bool true))
            have hdm := (HKF.out (D, .deferred (some [])) (by simp)).1
            have hdm2 := (HB42.out.block D2 (Array.getElem?_eq_some_iff.1 HD2K.out).1).trans HD2K.out
            have HMF := Lib.hid (show MarksO (w42.setCell ⟨q + 1, 0, none⟩ (.bool true)) [D2, D] from MarksO.others (W := w42) (fun D' hD' => by
              simp only [List.mem_cons, List.not_mem_nil, or_false] at hD'
              rcases hD' with rfl | rfl
              · exact hdm2
              · exact hdm) (KeepsOthers.setCell w42 ⟨q + 1, 0, none⟩ (.bool true)))
            have HDD := Lib.hid (show w.heap.size ≤ D ∧ D < D2 from ⟨by have h1 := HDL.out; have h2 := HB13.out.size; have h3 := HB11S.out; omega, by have h1 := HD2L.out; have h2 := HK22.out.lt (p := (D, .deferred (some []))) (by simp); simp at h2; omega⟩)
            clear HR hr hdm hdm2
            dsimp only
            go_wp2
            refine leaves_marksO (B := w.heap.size) [D2, D] _ (by have := HDD.out; simp; omega) (fun D' hD' => by have := HDD.out; simp at hD'; omega) HMF.out (fun W' hb hc => ?_)
            obtain ⟨tr, hr⟩ := HRR.out
            exact ⟨_, results_b6 rfl rfl ⟨tr, hc _ _ hr rfl⟩, rfl, HBF.out.trans hb⟩
end Go.Proofs.Ytbbbkpadadeolaa
