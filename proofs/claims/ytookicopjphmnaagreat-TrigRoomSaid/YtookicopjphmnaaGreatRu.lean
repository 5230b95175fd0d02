/- TrigRoom: the walk (layer 13). -/
import Derived.Test.YtookicopjphmnaaGreatRl
import Derived.Test.YtookicopjphmnaaGreatRv
import Derived.Test.YtookicopjphmnaaGreatFs
namespace Go.Proofs.YtookicopjphmnaaGreat
open Go.RowKit Go.Maps
attribute [local go_sem] Oper.semAt_some

theorem rev_at {L : List EntL} {pre : List EntL} {x : EntL} (h : pre ++ [x] <+: L.reverse) : pre.length < L.length ∧ ∃ hj : L.length - 1 - pre.length < L.length, L[L.length - 1 - pre.length] = x := by
  have hl := h.length_le
  simp at hl
  refine ⟨hl, by omega, ?_⟩
  obtain ⟨r, hr⟩ := h
  have h1 : L.reverse[pre.length]? = some x := by rw [← hr]; simp
  rw [List.getElem?_reverse (by omega)] at h1
  rw [List.getElem?_eq_getElem (by omega)] at h1
  injection h1
/-- A box with a number, in a range: its round's store. -/
theorem KpP.box {E H : Nat → Prop} {W : World} {b : Nat} {v u : Value} (hb : HdAt W b v) (hv : v.ownBlock = none) (hu : u.ownBlock = none) (hH : ∀ c, H c → c = b) (hbH : H b) : KpP E H W (W.setCell ⟨b, 0, none⟩ u) := by
  refine ⟨by simp, fun k o ho _ hc => ?_, fun c v0 hc hv0 => ?_⟩
  · refine (heap_setCell_other W ⟨b, 0, none⟩ k u (fun e => ?_)).trans ho
    have e : k = b := e
    subst e
    obtain ⟨t, hb⟩ := hb
    rw [hb] at ho
    injection ho with ho
    exact (hc (by rw [← ho]; rfl)).1 hbH
  · obtain rfl := hH c hc
    refine ⟨u, hb.set u, .inl ?_⟩
    rw [hv0.one hb, hv, hu]
theorem grown_own {B q : Nat} {W0 A A' : World} {row : Option Nat} (h : W0.grownBy A (some q)) (hg : A.grownBy A' row) (hB : W0.heap.size ≤ B) (hr : ∀ r, row = some r → B ≤ r) : W0.grownBy A' (some q) :=
  ⟨hg.os.trans h.os, hg.tape.trans h.tape, hg.output.trans h.output, Nat.le_trans h.size hg.size, fun k hk hn => (hg.block k (Nat.lt_of_lt_of_le hk h.size) (fun e => by have := hr k e.symm; omega)).trans (h.block k hk hn)⟩
theorem room_results {W : World} {q : Nat} {t : Bool} {T : TypeId} {tmps : Array Value} (e6 : tmps.getD 6 undef = .pointer (some ⟨q, 0, none⟩)) (h2 : W.heap[q]? = some (.cells #[.bool t] T (0, 0))) :
    (results Tryz.f6 tmps).run Tryz.prog W = .ok (.bool t) W := by
  have hc := cell_of_row W q 0 _ _ _ h2
  simp only [Array.getD_eq_getD_getElem?] at e6
  simp [results, Tryz.results6, go_sem, e6, hc]
def upR (k : Nat) : List Int := (List.range k).map fun (i : Nat) => (i : Int) + 1
theorem upR_succ (k : Nat) : upR (k + 1) = upR k ++ [(k : Int) + 1] := by simp [upR, List.range_succ]
theorem upR_len (k : Nat) : (upR k).length = k := by simp [upR]
def e999 : EntL := ⟨0, 999, 0, false⟩
set_option maxRecDepth 100000 in
set_option maxHeartbeats 16000000 in
theorem trigRoom_walk {w : World} {v : Value} {l : List TriL} {n m : Nat} (hv : TrisAt w v l) (hw : ∀ x ∈ l, Wf x.y ∧ Wf x.z) (hlen : l.length ≤ 9223372036854775807) (hn : n < 256) (hm : m < 256) :
    Calls Tryz.prog 6 #[v, .int .u8 n, .int .u8 m] w (RetV w (.bool true)) := by
  have HAW := Lib.hid (fun (w' : World) => awake13_any w')
  have HBO := Lib.hid (fun (w' : World) (hb : Below w.heap.size w w') => board13_any (hv.later hb) hw hlen n hn)
  have HNK := Lib.hid (fun (w' : World) => new_stk (w := w') (v := .slice none 0 0) (l := []) (.inl ⟨none, 0, rfl, rfl⟩) (by decide))
  obtain ⟨va, vc, rfl⟩ := hv.form
  have hb0 := below_new w (.cells #[.bool false] 4)
  have h4 := heap_alloc_new w (.cells #[.bool false] 4)
  obtain ⟨W0, hW0⟩ : ∃ W0, w.alloc (.cells #[.bool false] 4) = W0 := ⟨_, rfl⟩
  obtain ⟨q6, hq6⟩ : ∃ q6, w.heap.size = q6 := ⟨_, rfl⟩
  rw [hW0] at hb0 h4
  rw [hq6] at h4
  have HW0 := Lib.hid hW0
  have HQ6 := Lib.hid hq6
  have HB0 := Lib.hid hb0
  have HR0 := Lib.hid h4
  clear hv hw hb0 h4 hW0 hq6
  refine (callsIn_wide (n := 9)).1 ?_
  refine callsIn_of_wp_marks Tryz.func6 rfl trivial ?_ rfl
  simp only [Tryz.ntmps6, List.size_toArray, List.length_cons, List.length_nil, Nat.reduceAdd, Nat.reduceSub, Array.replicate_succ, Array.replicate_zero, List.push_toArray, List.append_toArray, List.nil_append, List.cons_append]
  refine wpIn_wide.2 ?_
  go_wp2_with fail
  rw [HW0.out]
  simp only [HQ6.out]
  refine (HAW.out W0).mono ?_
  rintro e w1 ⟨rfl, hb1⟩
  have HB1 := Lib.hid hb1
  clear hb1 HAW
  dsimp only
  go_wp2_with fail
  refine (HBO.out _ (stepB HB0.out HB1.out)).mono ?_
  rintro e w2 (⟨hp, lo, g, rfl, hb, hlo, hb2⟩ | ⟨_, rfl, hb2⟩)
  case inr =>
    have hrow := ((stepB HB1.out hb2).block q6 (Crd.lt_of_row HR0.out)).trans HR0.out
    have m6 : w2.cell? ⟨q6, 0, none⟩ = some (.bool false) := cell_of_row w2 _ 0 _ _ _ hrow
    have f6 := fun j => frozen_of_row w2 q6 j _ _ hrow
    have hset : (w2.setCell ⟨q6, 0, none⟩ (.bool true)).heap[q6]? = some (.cells #[.bool true] 4 (0, 0)) := by
      rw [heap_setCell_same _ q6 0 (#[.bool false]) 4 (.bool true) hrow]
      rfl
    have HSET := Lib.hid hset
    have HBW := Lib.hid ((stepB HB0.out (stepB HB1.out hb2)).setCell (p := ⟨q6, 0, none⟩) (show w.heap.size ≤ q6 by have := HQ6.out; omega) (.bool true))
    clear hset hrow hb2
    dsimp only
    go_wp2
    exact ⟨_, room_results rfl HSET.out, rfl, HBW.out⟩
  have h40 : l.length ≤ 40 := hp.1
  have HOK := Lib.hid hp.2
  have HBD := Lib.hid hb
  have HLO := Lib.hid (show W0.heap.size ≤ lo from Nat.le_trans HB1.out.size hlo)
  have HB2 := Lib.hid (stepB HB1.out hb2)
  clear hb hp hlo hb2 HBO
  obtain ⟨q, sb, tb, s0, r0, G⟩ := g
  dsimp only
  go_wp2
  go_loopw [30, 8] (fun i i8 wr => ∃ (k : Nat) (ya : Option Addr) (yc : Nat), k ≤ l.length ∧ i = .int .i64 k ∧ i8 = .slice ya (upR k).length yc ∧ Hid (wr.ownsRow w2.heap.size 3 1 (.slice ya (upR k).length yc) (upR k).length (intsV (upR k))) ∧ Hid (Below w2.heap.size w2 wr)) (fun i _ _ => l.length - (intOf i).toNat)
  case atStart => exact ⟨0, none, 0, Nat.zero_le _, rfl, rfl, Lib.hid ⟨by simp [intsV, upR], .inl ⟨rfl, rfl⟩⟩, Lib.hid (Below.refl _ _)⟩
  case round =>
    obtain ⟨k, ya, yc, hk, rfl, rfl, HO, HR⟩ := hrel
    by_cases hlt : k < l.length
    · have hul : (upR k).length ≤ 900 := by rw [upR_len]; omega
      have HUS := Lib.hid (upR_succ k)
      obtain ⟨M, hM⟩ : ∃ M, upR k = M := ⟨_, rfl⟩
      rw [hM] at HO HUS hul ⊢
      clear hM
      go_wp2_with (at_builtin; refine wpList_push (A := w2) rfl _ _ rfl rfl (.slice ya M.length yc) M ((k : Int) + 1) rfl HO.out HR.out rfl hul ?f)
      case f =>
        intro v' w' hown hb'
        have HO' := Lib.hid hown
        have HB' := Lib.hid hb'
        obtain ⟨za, zc, rfl⟩ := (own_ints hown).form
        clear hown hb'
        go_wp2
        go_roundw
        case rel => exact ⟨k + 1, za, zc, by omega, by go_num, by rw [HUS.out], Lib.hid (by rw [HUS.out]; have h := HO'.out; simp only [List.length_append, List.length_cons, List.length_nil, Nat.zero_add] at h ⊢; exact h), HB'⟩
        case measure => simp [intOf]; omega
    · obtain rfl : k = l.length := by omega
      obtain ⟨B, hB⟩ : ∃ B, board13 l n = B := ⟨_, rfl⟩
      obtain ⟨I, hI⟩ : ∃ I, upR l.length = I := ⟨_, rfl⟩
      have hI40 : I.length ≤ 40 := by rw [← hI, upR_len]; exact h40
      have hBR := HBD.out.later HR.out
      have HBWR := Lib.hid (stepB HB2.out HR.out)
      have hO1 : ∀ x ∈ orderL B 0 I, hasS (made13 l) x := fun x hx => by
        have h := ((order_mem B 0 I x).1 hx).2
        rw [← hB] at h
        exact h
      rw [hB] at hBR
      rw [hI] at HO ⊢
      have HBB := Lib.hid hB
      have HHS := Lib.hid hO1
      have HBR := Lib.hid hBR
      have HII := Lib.hid (own_ints HO.out)
      clear hB hI hBR hO1 HBD
      go_wp2_with fail
      refine (HNK.out _).mono ?_
      rintro e w3 ⟨b1, gk1, rfl, hs3, hb3⟩
      rw [show List.take 8 ([] : List EntL) = [] from rfl] at hs3
      have hf := fire_any (HBR.out.later hb3) hs3 (fun k h1 h2 => by have h3 := HBR.out.ownLt h1; have h4 := hs3.ownLo h2; omega) (by decide) 0 2 (HII.out.later hb3) (by omega)
      have hroom := fire_room HOK.out n (orderL B 0 I) HHS.out [] (by decide)
      rw [HBB.out] at hroom
      rw [hroom] at hf
      obtain ⟨D, hD⟩ : ∃ D, diesL B (orderL B 0 I) = D := ⟨_, rfl⟩
      have hD40 : D.length ≤ 40 := by
        rw [← hD]
        have h1 := List.length_filter_le (fun i => wouldT B.S i 2) (orderL B 0 I)
        have h2 := orderL_len B 0 I
        unfold diesL
        omega
      rw [hD] at hf
      obtain ⟨m1, hm1⟩ : ∃ m1, min D.length (8 - ([] : List EntL).length) = m1 := ⟨_, rfl⟩
      rw [hm1] at hf
      have hmin1 : min (D.length : Int) 8 = (m1 : Int) := by have : ([] : List EntL).length = 0 := rfl; omega
      have HM1 := Lib.hid hmin1
      unfold RetFire at hf
      dsimp only at hf
      have HDD := Lib.hid hD
      have HF := Lib.hid hf
      have HKL := Lib.hid (show ∀ k, ownK b1 gk1 k → wr.heap.size ≤ k from fun k hk => hs3.ownLo hk)
      have HB3 := Lib.hid hb3
      clear hs3 hb3 hf hroom hD hm1 hmin1
      dsimp only
      go_wp2_with fail
      refine HF.out.mono ?_
      rintro e w4 ⟨rfl, g4, hs4, ht4⟩
      have hb4 : Below wr.heap.size wr w4 := ht4.below HB3.out HKL.out
      have hbx := heap_alloc_new w4 (.cells #[.slice none 0 0] 24)
      have hb5 := stepB hb4 (below_new w4 (.cells #[.slice none 0 0] 24))
      have hsz5 : (w4.alloc (.cells #[.slice none 0 0] 24)).heap.size = w4.heap.size + 1 := World.size_alloc _ _
      clear hs4 ht4 HF HB3 HKL
      go_upto_region 15 with fail
      obtain ⟨w5, hw5⟩ : ∃ w5, w4.alloc (.cells #[.slice none 0 0] 24) = w5 := ⟨_, rfl⟩
      obtain ⟨q12, hq12⟩ : ∃ q12, w4.heap.size = q12 := ⟨_, rfl⟩
      rw [hw5] at hbx hb5 hsz5 ⊢
      rw [hq12] at hbx hsz5 ⊢
      have hqr : wr.heap.size ≤ q12 := by rw [← hq12]; exact hb4.size
      have HOR := Lib.hid (order_any (HBR.out.later hb5) 0 (HII.out.later hb5) (by omega))
      have HBX5 := Lib.hid hbx
      have HB5 := Lib.hid hb5
      have HS5 := Lib.hid (And.intro hsz5 hqr)
      clear hbx hb4 hb5 hsz5 hw5 hq12 hqr
      go_wp2_with fail
      refine HOR.out.mono ?_
      rintro e w9 ⟨u9, rfl, ho9, hb9⟩
      obtain ⟨ua, uc, rfl⟩ := (own_ints ho9).form
      have HO9 := Lib.hid ho9
      have HB9 := Lib.hid hb9
      have HBX9 := Lib.hid ((hb9.block q12 (Crd.lt_of_row HBX5.out)).trans HBX5.out)
      have HBD9 := Lib.hid (HBR.out.later (stepB HB5.out hb9))
      have HLT := Lib.hid (show ∀ k, (∃ g : GhostB, g = ⟨q, sb, tb, s0, r0, G⟩ ∧ g.own k) → k < q12 from fun k ⟨g, hg, hk⟩ => by
        subst hg
        have h1 := HBR.out.ownLt hk
        have h2 := HS5.out.2
        omega)
      have HIO := Lib.hid (And.intro (own_later HO.out (stepB HB5.out hb9)) (show ∀ k, (Value.slice ya I.length yc).ownBlock = some k → k < q12 from fun k hk => by have h1 := (World.ownsRow.lt HO.out k hk).2; have h2 := HS5.out.2; omega))
      have HQ9 := Lib.hid (show q12 < w9.heap.size from by have h1 := hb9.size; have h2 := HS5.out.1; omega)
      obtain ⟨O, hO⟩ : ∃ O, orderL B 0 I = O := ⟨_, rfl⟩
      have hOl : O.length ≤ 40 := by rw [← hO]; exact Nat.le_trans (orderL_len B 0 I) hI40
      have HOO := Lib.hid hO
      rw [hO] at HO9 HDD HHS ⊢
      clear ho9 hb9 hO HOR
      dsimp only
      go_wp2
      go_loopw [48] (fun i wr' => ∃ (k : Nat) (ya : Option Addr) (yc : Nat), k ≤ O.length ∧ i = .int .i64 k ∧ Hid (wr'.heap[q12]? = some (.cells #[.slice ya (diesL B (O.take k)).length yc] 24 (0, 0))) ∧ Hid (wr'.ownsRow w9.heap.size 3 1 (.slice ya (diesL B (O.take k)).length yc) (diesL B (O.take k)).length (intsV (diesL B (O.take k)))) ∧ Hid (w9.grownBy wr' (some q12))) (fun i _ => O.length - (intOf i).toNat)
      case atStart => exact ⟨0, none, 0, Nat.zero_le _, rfl, HBX9, Lib.hid ⟨by simp [intsV, diesL], .inl ⟨rfl, rfl⟩⟩, Lib.hid (World.grownBy.refl _ _)⟩
      case round =>
        obtain ⟨k2, za, zc, hk2, rfl, HXR, HOR2, HGR⟩ := hrel
        by_cases hlt2 : k2 < O.length
        · have hi := own_ints (own_keepS HO9.out (fun q hq => HGR.out.block q (World.ownsRow.lt HO9.out q hq).2 (fun e => by
            have h1 := (World.ownsRow.lt HO9.out q hq).1
            have h2 := HS5.out.1
            have e := Option.some.inj e
            omega)))
          obtain ⟨ub, uo, rfl, _, c5⟩ := hi.at k2 hlt2
          have htk := take_last O k2 hlt2
          obtain ⟨x, hx⟩ : ∃ x, O[k2] = x := ⟨_, rfl⟩
          rw [hx] at c5 htk
          have hbd := HBD9.out.kept HGR.out.size (fun k hk => HGR.out.block k (HBD9.out.ownLt hk) (fun e => by
            have e := Option.some.inj e
            have h1 := HLT.out k ⟨_, rfl, hk⟩
            omega))
          have HWO := Lib.hid (would_any hbd x 2)
          have cx : wr.cell? ⟨q12, 0, none⟩ = some (.slice za (diesL B (O.take k2)).length zc) := cell_of_row wr q12 0 _ _ _ HXR.out
          have hDl : (diesL B (O.take k2)).length ≤ 40 := by
            have h1 := List.length_filter_le (fun i => wouldT B.S i 2) (O.take k2)
            rw [List.length_take] at h1
            unfold diesL
            omega
          have hyes : wouldT B.S x 2 = true → diesL B (O.take (k2 + 1)) = diesL B (O.take k2) ++ [x] := fun h => by
            rw [htk]; unfold diesL; rw [List.filter_append]; simp [h]
          have hno : wouldT B.S x 2 = false → diesL B (O.take (k2 + 1)) = diesL B (O.take k2) := fun h => by
            rw [htk]; unfold diesL; rw [List.filter_append]; simp [h]
          obtain ⟨wb, hwb⟩ : ∃ wb, wouldT B.S x 2 = wb := ⟨_, rfl⟩
          rw [hwb] at HWO hyes hno
          obtain ⟨E, hE⟩ : ∃ E, diesL B (O.take k2) = E := ⟨_, rfl⟩
          rw [hE] at HXR HOR2 cx hDl hyes hno
          clear hi htk hx hbd hwb hE
          cases wb with
          | false =>
            have HNO := Lib.hid (hno rfl)
            clear hyes hno
            go_wp2_with fail
            refine HWO.out.mono ?_
            rintro e wa ⟨rfl, hba⟩
            have HBA := Lib.hid hba
            clear hba c5 cx
            dsimp only
            go_wp2
            go_roundw
            case rel => exact ⟨k2 + 1, za, zc, by omega, by go_num, Lib.hid (by rw [HNO.out]; exact (HBA.out.block q12 (Crd.lt_of_row HXR.out)).trans HXR.out), Lib.hid (by rw [HNO.out]; exact own_later HOR2.out HBA.out), Lib.hid (grown_trans HGR.out (grown_below HBA.out))⟩
            case measure => simp [intOf]; omega
          | true =>
            have HYES := Lib.hid (hyes rfl)
            clear hyes hno
            go_wp2_with fail
            refine HWO.out.mono ?_
            rintro e wa ⟨rfl, hba⟩
            have HBA := Lib.hid hba
            have cx := cell_stays hba cx
            have hown := own_later HOR2.out hba
            have hxa := (hba.block q12 (Crd.lt_of_row HXR.out)).trans HXR.out
            have HOA := Lib.hid hown
            have HXA := Lib.hid hxa
            have hsa : w9.heap.size ≤ (wa.alloc (.cells #[.int .i64 x] 3)).heap.size := by have h1 := HGR.out.size; have h2 := hba.size; simp; omega
            clear hba c5 hown hxa
            dsimp only
            go_wp2_with (at_builtin; refine wpList_append_ints rfl _ _ rfl rfl w9.heap.size (.slice za E.length zc) E.length (intsV E) rfl (HOA.out.alloc _) _ 1 1 [x] rfl rfl ((RowAt.new wa 3 (intsV [x])).vals 1) (by simp; omega) hsa ?f)
            case f =>
              intro v' w' hown hgrow _
              have hxw : w'.heap[q12]? = some (.cells #[.slice za E.length zc] 24 (0, 0)) := (hgrow.block q12 (by have := Crd.lt_of_row HXA.out; simp; omega) (fun e => by
                have h1 := (World.ownsRow.lt HOA.out q12 e.symm).1
                have h2 := HQ9.out
                omega)).trans (((below_new wa _).block q12 (Crd.lt_of_row HXA.out)).trans HXA.out)
              have cxw : w'.cell? ⟨q12, 0, none⟩ = some (.slice za E.length zc) := cell_of_row w' q12 0 _ _ _ hxw
              have fxw := fun j => frozen_of_row w' q12 j _ _ hxw
              have hown2 : w'.ownsRow w9.heap.size 3 1 v' (E.length + 1) (intsV (E ++ [x])) := by
                have e : intsV (E ++ [x]) = intsV E ++ intsV [x] := by simp [intsV]
                rw [e]
                exact hown
              obtain ⟨ya2, yc2, hv2⟩ := (own_ints hown2).form
              rw [List.length_append, List.length_singleton] at hv2
              subst hv2
              have hset : (w'.setCell ⟨q12, 0, none⟩ (.slice ya2 (E.length + 1) yc2)).heap[q12]? = some (.cells #[.slice ya2 (E.length + 1) yc2] 24 (0, 0)) := by
                rw [heap_setCell_same _ q12 0 _ _ _ hxw]
                rfl
              have HSET := Lib.hid hset
              have HOS := Lib.hid (own_keepS hown2 (fun q hq => heap_setCell_other w' ⟨q12, 0, none⟩ q (.slice ya2 (E.length + 1) yc2) (fun e => by
                have h1 := (World.ownsRow.lt hown2 q hq).1
                have h2 := HQ9.out
                have e : q = q12 := e
                omega)))
              have HGS := Lib.hid (show w9.grownBy (w'.setCell ⟨q12, 0, none⟩ (.slice ya2 (E.length + 1) yc2)) (some q12) from by
                have hg1 := grown_trans HGR.out (grown_below (HBA.out))
                have hg2 : w9.grownBy (wa.alloc (.cells #[.int .i64 x] 3)) (some q12) := grown_trans hg1 (grown_below (below_new wa _))
                have hg3 : w9.grownBy w' (some q12) := ⟨hgrow.os.trans hg2.os, hgrow.tape.trans hg2.tape, hgrow.output.trans hg2.output, Nat.le_trans hg2.size hgrow.size, fun k hk hne => (hgrow.block k (Nat.lt_of_lt_of_le hk hg2.size) (fun e => by
                  have h1 := (World.ownsRow.lt HOA.out k e.symm).1
                  omega)).trans (hg2.block k hk hne)⟩
                exact grown_trans hg3 (grown_set w' q12 0 _))
              clear hown hgrow hxw hown2 hset cx
              go_wp2
              go_roundw
              case rel => exact ⟨k2 + 1, ya2, yc2, by omega, by go_num, Lib.hid (by rw [HYES.out, List.length_append]; exact HSET.out), Lib.hid (by rw [HYES.out, List.length_append]; exact HOS.out), HGS⟩
              case measure => simp [intOf]; omega
        · obtain rfl : k2 = O.length := by omega
          have hxr := HXR.out
          have hor := HOR2.out
          rw [List.take_length, HDD.out] at hxr hor
          have hbA := HBD9.out.kept HGR.out.size (fun k hk => HGR.out.block k (HBD9.out.ownLt hk) (fun e => by
            have e := Option.some.inj e
            have h1 := HLT.out k ⟨_, rfl, hk⟩
            omega))
          have hiA := own_ints (own_keepS HIO.out.1 (fun q hq => HGR.out.block q (World.ownsRow.lt HIO.out.1 q hq).2 (fun e => by
            have e := Option.some.inj e
            have h1 := HIO.out.2 q hq
            omega)))
          have HBWA := Lib.hid (show Below W0.heap.size W0 wr from by
            have h1 := stepB HBWR.out (stepB HB5.out HB9.out)
            exact h1.trans ⟨HGR.out.os, HGR.out.tape, HGR.out.output, HGR.out.size, fun k hk => HGR.out.block k (Nat.lt_of_lt_of_le hk h1.size) (fun e => by
              have e := Option.some.inj e
              have h2 := HBWR.out.size
              have h3 := HS5.out.2
              omega)⟩)
          obtain ⟨wA, hwA⟩ : ∃ wA, wr = wA := ⟨_, rfl⟩
          rw [hwA] at hxr hor hbA hiA HBWA ⊢
          have HXA := Lib.hid hxr
          have HOA := Lib.hid hor
          have HBA := Lib.hid hbA
          have HIA := Lib.hid hiA
          have cx : wA.cell? ⟨q12, 0, none⟩ = some (.slice za D.length zc) := cell_of_row wA q12 0 _ _ _ hxr
          have hmin1 := HM1.out
          have hne1 : ((m1 : Int) != (m1 : Int)) = false := bne_self_eq_false _
          obtain ⟨k9, hk9⟩ : ∃ k9, m % 9 = k9 := ⟨_, rfl⟩
          have hk8 : k9 ≤ 8 := by omega
          have hk9i : ((m : Int) % 9) = (k9 : Int) := by omega
          have hcv : IntKind.i64.wrap (m : Int) = (m : Int) := by rw [IntKind.wrap_i64]; omega
          have HK9 := Lib.hid hk9
          clear hxr hor hbA hiA hwA hk9 HXR HOR2 HGR
          go_wp2_with fail
          refine (HNK.out _).mono ?_
          rintro e w10 ⟨b2, gk2, rfl, hs10, hb10⟩
          rw [show List.take 8 ([] : List EntL) = [] from rfl] at hs10
          have HS10 := Lib.hid hs10
          have HB10 := Lib.hid hb10
          clear hs10 hb10 cx hmin1 hne1
          dsimp only
          go_wp2
          simp only [hk9i]
          clear hk9i hcv
          go_loopw [17] (fun i wr => ∃ (k : Nat) (g : Option Nat), k ≤ k9 ∧ i = .int .i64 k ∧ Hid (StackAt wr wA.heap.size b2 g (List.replicate k e999)) ∧ Hid (Below wA.heap.size wA wr)) (fun i _ => k9 - (intOf i).toNat)
          case atStart => exact ⟨0, gk2, Nat.zero_le _, rfl, HS10, HB10⟩
          case round =>
            obtain ⟨k3, g3, hk3, rfl, HS11, HB11⟩ := hrel
            by_cases hlt3 : k3 < k9
            · have hpu := push_ok e999 HS11.out (by rw [List.length_replicate]; omega)
              unfold e999 entV RetStk at hpu
              dsimp only at hpu
              have HPU := Lib.hid hpu
              clear hpu
              go_wp2_with fail
              refine HPU.out.mono ?_
              rintro e w11 ⟨g4, rfl, hs11, hc11, hn11⟩
              have HB12 := Lib.hid ((chg_o hc11 hn11).below HB11.out (fun k hk => HS11.out.ownLo hk))
              have HS12 := Lib.hid (show StackAt w11 wA.heap.size b2 g4 (List.replicate (k3 + 1) e999) from by rw [List.replicate_succ']; exact hs11)
              clear hs11 hc11 hn11
              dsimp only
              go_wp2
              go_roundw
              case rel => exact ⟨k3 + 1, g4, by omega, by go_num, HS12, HB12⟩
              case measure => simp [intOf]; omega
            · obtain rfl : k3 = k9 := by omega
              have hf := fire_any (HBA.out.later HB11.out) HS11.out (fun k h1 h2 => by have h3 := HBA.out.ownLt h1; have h4 := HS11.out.ownLo h2; omega) (by rw [List.length_replicate]; exact hk8) 0 2 (HIA.out.later HB11.out) (by omega)
              have hroom := fire_room HOK.out n (orderL B 0 I) (by rw [HOO.out]; exact HHS.out) (List.replicate k3 e999) (by rw [List.length_replicate]; exact hk8)
              rw [HBB.out, HOO.out, HDD.out] at hroom
              rw [HOO.out, hroom, List.length_replicate] at hf
              obtain ⟨n2, hn2⟩ : ∃ n2, min D.length (8 - k3) = n2 := ⟨_, rfl⟩
              rw [hn2] at hf
              have hFl : ((D.take (8 - k3)).map (entT B)).length = n2 := by rw [List.length_map, List.length_take]; omega
              obtain ⟨F, hF⟩ : ∃ F, (D.take (8 - k3)).map (entT B) = F := ⟨_, rfl⟩
              rw [hF] at hf hFl
              unfold RetFire at hf
              dsimp only at hf
              have HF := Lib.hid hf
              have HFF := Lib.hid (And.intro hF hFl)
              have HKL := Lib.hid (show ∀ k, ownK b2 g3 k → wA.heap.size ≤ k from fun k hk => HS11.out.ownLo hk)
              have hmin2 : min (D.length : Int) (8 - (k3 : Int)) = (n2 : Int) := by omega
              have hn8 : k3 + n2 ≤ 8 := by omega
              have HN2 := Lib.hid hn2
              clear hf hroom hF hFl hn2
              go_wp2_with fail
              refine HF.out.mono ?_
              rintro e w12 ⟨rfl, g5, hs12, ht12⟩
              have HB12 := Lib.hid (ht12.below HB11.out HKL.out)
              have HS12 := Lib.hid hs12
              have hxa := (HB12.out.block q12 (Crd.lt_of_row HXA.out)).trans HXA.out
              have cx : w12.cell? ⟨q12, 0, none⟩ = some (.slice za D.length zc) := cell_of_row w12 q12 0 _ _ _ hxa
              have HLS := Lib.hid (len_stk hs12)
              rw [List.length_append, List.length_replicate, HFF.out.2] at HLS
              have hne2 : ((n2 : Int) != (n2 : Int)) = false := bne_self_eq_false _
              have hne3 : (((k3 + n2 : Nat) : Int) != (k3 : Int) + (n2 : Int)) = false := by rw [bne_eq_false_iff_eq]; omega
              have hw8 : IntKind.i64.wrap (8 - (k3 : Int)) = 8 - (k3 : Int) := by rw [IntKind.wrap_i64]; omega
              have hwk : IntKind.i64.wrap ((k3 : Int) + (n2 : Int)) = (k3 : Int) + (n2 : Int) := by rw [IntKind.wrap_i64]; omega
              clear hs12 ht12 hxa
              dsimp only
              go_wp2_with fail
              refine HLS.out.mono ?_
              rintro e w13 ⟨rfl, hw13⟩
              subst hw13
              dsimp only
              go_upto_region 33 with fail
              have hbn := below_new w13 (.cells #[.int .i64 (n2 : Int)] 3)
              have hbox := HdAt.new w13 (.int .i64 (n2 : Int)) 3
              have hsz14 : (w13.alloc (.cells #[.int .i64 (n2 : Int)] 3)).heap.size = w13.heap.size + 1 := World.size_alloc _ _
              obtain ⟨W14, hW14⟩ : ∃ W14, w13.alloc (.cells #[.int .i64 (n2 : Int)] 3) = W14 := ⟨_, rfl⟩
              obtain ⟨q19, hq19⟩ : ∃ q19, w13.heap.size = q19 := ⟨_, rfl⟩
              rw [hW14] at hbox hbn hsz14 ⊢
              rw [hq19] at hbox hsz14 ⊢
              have hLL : (List.replicate k3 e999 ++ F).length = k3 + n2 := by rw [List.length_append, List.length_replicate, HFF.out.2]
              have hAL := allK_any (HS12.out.later hbn) (by omega)
              have HAL := Lib.hid hAL
              clear hW14 cx hne2 hne3 hw8 hwk hmin2 hAL
              go_wp2_with fail
              refine HAL.out.mono ?_
              rintro e w15 ⟨c, b3, g6, rfl, hc, hcs, hs15, hb15⟩
              have hbox2 := hbox.later hb15
              have HSEQ := Lib.hid (allK_seq 8 (by omega) (w := w15) (fun _ => False) (fun k => k = q19) (fun _ h => h.elim) hc hs15 (by omega) (fun k hk => by
                subst hk
                exact ⟨_, hbox2, fun k hk => by simp [Value.ownBlock] at hk⟩) (fun k hk => ⟨fun h => h, fun e => by have := hs15.row k hk; omega, fun q hq => by
                subst hq
                exact ⟨_, hbox2, by simp [Value.ownBlock]⟩⟩))
              have HBX := Lib.hid hbox2
              have HB15 := Lib.hid (stepB HB12.out (stepB hbn hb15))
              have HSZ := Lib.hid (show wA.heap.size ≤ q19 ∧ q19 + 1 ≤ w15.heap.size ∧ q12 < wA.heap.size from ⟨by have := HB12.out.size; omega, by have := hb15.size; omega, Crd.lt_of_row HXA.out⟩)
              have HLLn := Lib.hid hLL
              clear hc hcs hs15 hb15 hbox hbox2 hbn hsz14 hq19 hLL
              dsimp only
              go_wp2_with fail
              refine (wpIn_wide (n := 9)).1 ?_
              refine range_world3 rfl (by omega) (I := fun pre W' => pre.length ≤ n2 ∧ HdAt W' q19 (.int .i64 ((n2 : Int) - (pre.length : Int))) ∧ w15.grownBy W' (some q19)) (Ix := fun c pre W' => c = .exit 6 ∧ w15.grownBy W' (some q19)) (gf := 60) (lb := _) rfl trivial (fun _ _ => by kernel_rfl) HSEQ.out KpP.trans (fun W' o o' ho hc _ => KpP.put o' (.inr rfl) ho hc) (fun W W' hb => KpP.of_below _ _ hb) (Below.refl _ _) (fun _ => rfl)
                (fun s A B row hs hg hr => ⟨hs.1, hs.2.1.grown hg (fun r e => (hr r e).2), grown_own hs.2.2 hg (Nat.le_refl _) (fun r e => (hr r e).1)⟩) (fun c s A B row hs hg hr => ⟨hs.1, grown_own hs.2 hg (Nat.le_refl _) (fun r e => (hr r e).1)⟩) (fun s A B row hs hg hr => hs) (fun s A B row hs hg hr => hs) ⟨Nat.zero_le _, by simpa using HBX.out, World.grownBy.refl _ _⟩ ?rnd ?done ?stop
              case rnd =>
                rintro pre ⟨x0, x1, x2, x3⟩ Wr K ⟨hpl, hbox, hgr⟩ hT hsz hK
                have HRA := Lib.hid (rev_at hT)
                have HK := Lib.hid hK
                have HSR := Lib.hid hsz
                clear hK hT hsz hpl hbox hgr
                simp only [encX, entV]
                gi_wp2
                refine HK.out _ _ (below_new Wr _) ?_
                clear HK
                intro Wb hsz2 hrest hkw ⟨hpl, hbox, hgr⟩
                have hrow : Wb.heap[Wr.heap.size]? = some (.cells #[.int .i64 x0, .int .i64 x1, .int .i64 x2, .bool x3] 49 (0, 0)) := by
                  rw [hrest Wr.heap.size (by have := HSR.out; omega)]
                  exact heap_alloc_new Wr _
                obtain ⟨q20, hq20⟩ : ∃ q20, Wr.heap.size = q20 := ⟨_, rfl⟩
                rw [hq20] at hrow ⊢
                have hkp : ∀ k, k < w15.heap.size → k ≠ q19 → Wb.heap[k]? = w15.heap[k]? := fun k h1 h2 => hgr.block k h1 (by simpa using h2)
                have hq20n : q20 ≠ q19 := by have := HSZ.out; have := HSR.out; omega
                have kc := hbox.cell
                have kf := hbox.frozen
                by_cases hp2 : pre.length = n2
                · have hi0 : (n2 : Int) - (pre.length : Int) = 0 := by omega
                  rw [hi0] at kc
                  obtain ⟨Wc, hWc⟩ : ∃ Wc, Wb.setCell ⟨q19, 0, none⟩ (.int .i64 (-1)) = Wc := ⟨_, rfl⟩
                  have hbc : HdAt Wc q19 (.int .i64 (-1)) := by rw [← hWc]; exact hbox.set _
                  have k2c := hbc.cell
                  have kp := KpP.box (E := fun _ => False) (H := fun k => k = q19) (u := .int .i64 (-1)) hbox rfl rfl (fun _ h => h) rfl
                  rw [hWc] at kp
                  have HP := Lib.hid (show KeepsFrom w15.heap.size Wb Wc ∧ KpP (fun k => False ∨ k = w15.heap.size + 1) (fun k => k = q19) Wr Wc ∧ w15.grownBy Wc (some q19) from ⟨kp.from (fun _ h => h.elim), hkw.trans (kp.mono (fun _ h => h.elim)), by
                    have h := grown_trans hgr (grown_set Wb q19 0 (.int .i64 (-1)))
                    rw [hWc] at h
                    exact h⟩)
                  clear hsz2 hrest hkw hpl hgr hrow hq20 hkp hp2 hi0 hbc kp hbox
                  gi_wp2
                  exact ⟨HP.out.1, HP.out.2.1, rfl, HP.out.2.2⟩
                · obtain ⟨j, hj⟩ : ∃ j, n2 - 1 - pre.length = j := ⟨_, rfl⟩
                  obtain ⟨hpl1, hjl, hjx⟩ := HRA.out
                  have hnD : n2 ≤ D.length := by have := HN2.out; omega
                  have hjD : j < D.length := by omega
                  have hx13 : x1 = D[j] ∧ x3 = true := by
                    have h1 := HLLn.out
                    have e1 : (List.replicate k3 e999 ++ F).length - 1 - pre.length = k3 + j := by omega
                    have e2 : (List.replicate k3 e999 ++ F)[k3 + j]? = some ⟨x0, x1, x2, x3⟩ := by rw [← e1, List.getElem?_eq_getElem hjl, hjx]
                    rw [List.getElem?_append_right (by rw [List.length_replicate]; omega), List.length_replicate, show k3 + j - k3 = j by omega, ← HFF.out.1, List.getElem?_map, List.getElem?_take_of_lt (by have := HN2.out; omega), List.getElem?_eq_getElem hjD] at e2
                    have e3 : entT B D[j] = ⟨x0, x1, x2, x3⟩ := Option.some.inj e2
                    unfold entT at e3
                    injection e3 with _ h2 _ h4
                    exact ⟨h2.symm, h4.symm⟩
                  obtain ⟨hx1, rfl⟩ := hx13
                  have hxA := (HB15.out.block q12 (Crd.lt_of_row HXA.out)).trans HXA.out
                  have hxb := (hkp q12 (Crd.lt_of_row hxA) (fun e => by have := HSZ.out; omega)).trans hxA
                  obtain ⟨gv, go, hza, hgv, cD⟩ := (own_ints HOA.out).at j hjD
                  rw [← hx1] at cD
                  have hrowlt := World.ownsRow.lt HOA.out gv (by rw [hza]; rfl)
                  subst hza
                  have hgA : ∀ i, Wb.cell? ⟨gv, i, none⟩ = wA.cell? ⟨gv, i, none⟩ := fun i => (World.cell?_of_block (a := ⟨gv, i, none⟩) (hkp gv (Nat.lt_of_lt_of_le hrowlt.2 HB15.out.size) (fun e => by have := HSZ.out; omega))).trans (World.cell?_of_block (a := ⟨gv, i, none⟩) (HB15.out.block gv hrowlt.2))
                  have a0 := (hgA _).trans cD
                  have z12 : Wb.cell? ⟨q12, 0, none⟩ = some (.slice (some ⟨gv, go, none⟩) D.length zc) := cell_of_row Wb q12 0 _ _ _ hxb
                  have hjj : (n2 : Int) - (pre.length : Int) - 1 = (j : Int) := by omega
                  have hj0 : decide ((j : Int) < 0) = false := decide_eq_false (by omega)
                  have e1 := cell_of_row Wb q20 1 _ _ _ hrow
                  have e3 := cell_of_row Wb q20 3 _ _ _ hrow
                  obtain ⟨Wc, hWc⟩ : ∃ Wc, Wb.setCell ⟨q19, 0, none⟩ (.int .i64 (j : Int)) = Wc := ⟨_, rfl⟩
                  have hoth : ∀ b i, b ≠ q19 → Wc.cell? ⟨b, i, none⟩ = Wb.cell? ⟨b, i, none⟩ := fun b i hb => by
                    rw [← hWc]
                    exact World.cell?_of_block (a := ⟨b, i, none⟩) (heap_setCell_other Wb ⟨q19, 0, none⟩ b _ hb)
                  have hgq : gv ≠ q19 := fun e => by have := HSZ.out; omega
                  have hq12q : q12 ≠ q19 := fun e => by have := HSZ.out; omega
                  have hbc : HdAt Wc q19 (.int .i64 (j : Int)) := by rw [← hWc]; exact hbox.set _
                  have k2c := hbc.cell
                  have HC := Lib.hid (show Wc.drew.cell? ⟨q19, 0, none⟩ = some (.int .i64 (j : Int)) ∧ Wc.drew.cell? ⟨q20, 1, none⟩ = some (.int .i64 x1) ∧ Wc.drew.cell? ⟨q20, 3, none⟩ = some (.bool true) ∧ Wc.drew.cell? ⟨q12, 0, none⟩ = some (.slice (some ⟨gv, go, none⟩) D.length zc) ∧ Wc.drew.cell? ⟨gv, go + j, none⟩ = some (.int .i64 x1) from
                    ⟨hbc.cell, (hoth q20 1 hq20n).trans e1, (hoth q20 3 hq20n).trans e3, (hoth q12 0 hq12q).trans z12, (hoth gv _ hgq).trans a0⟩)
                  have kp := KpP.box (E := fun _ => False) (H := fun k => k = q19) (u := .int .i64 (j : Int)) hbox rfl rfl (fun _ h => h) rfl
                  rw [hWc] at kp
                  have kpd := kp.trans (KpP.of_below (fun _ => False) (fun k => k = q19) ((Below.refl Wc.heap.size Wc).drew))
                  have HP := Lib.hid (show KeepsFrom w15.heap.size Wb Wc.drew ∧ KpP (fun k => False ∨ k = w15.heap.size + 1) (fun k => k = q19) Wr Wc.drew ∧ (pre ++ [(⟨x0, x1, x2, true⟩ : EntL)]).length ≤ n2 ∧ HdAt Wc.drew q19 (.int .i64 ((n2 : Int) - ((pre ++ [(⟨x0, x1, x2, true⟩ : EntL)]).length : Int))) ∧ w15.grownBy Wc.drew (some q19) from
                    ⟨kpd.from (fun _ h => h.elim), hkw.trans (kpd.mono (fun _ h => h.elim)), by rw [List.length_append, List.length_singleton]; omega, by
                      rw [show (n2 : Int) - ((pre ++ [(⟨x0, x1, x2, true⟩ : EntL)]).length : Int) = (j : Int) by rw [List.length_append, List.length_singleton]; omega]
                      exact hbc.later ((Below.refl Wc.heap.size Wc).drew), by
                      have h := grown_trans hgr (grown_set Wb q19 0 (.int .i64 (j : Int)))
                      rw [hWc] at h
                      exact ⟨h.os, h.tape, h.output, h.size, h.block⟩⟩)
                  have hbne : (x1 != x1) = false := bne_self_eq_false _
                  have hjD2 : (j : Int) < (D.length : Int) := by omega
                  have hjD3 : (0 : Int) ≤ (j : Int) := by omega
                  have HWC := Lib.hid hWc
                  clear hsz2 hrest hkw hpl hgr hrow hq20 hkp hpl1 hjl hjx hp2 hx1 hxA hxb hgv cD hrowlt hgA a0 z12 e1 e3 hoth hgq hq12q hbc kp kpd hbox hj hnD hWc
                  gi_wp2_with fail
                  rw [HWC.out]
                  refine wpIn_region_any (by kernel_rfl) ?_
                  change wpAnyIn _ _ _ _ _ _ _ _ _ (World.drew _)
                  refine anyS.any (S := (fun w' => w'.cell? ⟨q19, 0, none⟩ = some (.int .i64 (j : Int)) ∧ w'.cell? ⟨q20, 1, none⟩ = some (.int .i64 x1) ∧ w'.cell? ⟨q20, 3, none⟩ = some (.bool true) ∧ w'.cell? ⟨q12, 0, none⟩ = some (.slice (some ⟨gv, go, none⟩) D.length zc) ∧ w'.cell? ⟨gv, go + j, none⟩ = some (.int .i64 x1))) ?_
                  refine anyS_take (i := 0) (v := ?_) (by kernel_rfl) rfl (by kernel_rfl) (by kernel_rfl) (by kernel_rfl) (fun _ _ _ h => h) (by kernel_rfl) (fun _ => by kernel_rfl) ?_ ?_
                  rotate_left
                  · intro w' hS
                    obtain ⟨s0, s1, s2, s3, s4⟩ := hS
                    go_simp
                    try with_reducible rfl
                  refine anyS_take (i := 1) (v := ?_) (by kernel_rfl) rfl (by kernel_rfl) (by kernel_rfl) (by kernel_rfl) (fun _ _ _ h => h) (by kernel_rfl) (fun _ => by kernel_rfl) ?_ ?_
                  rotate_left
                  · intro w' hS
                    obtain ⟨s0, s1, s2, s3, s4⟩ := hS
                    go_simp
                    try with_reducible rfl
                  refine anyS_take (i := 2) (v := ?_) (by kernel_rfl) rfl (by kernel_rfl) (by kernel_rfl) (by kernel_rfl) (fun _ _ _ h => h) (by kernel_rfl) (fun _ => by kernel_rfl) ?_ ?_
                  rotate_left
                  · intro w' hS
                    obtain ⟨s0, s1, s2, s3, s4⟩ := hS
                    go_simp
                    try with_reducible rfl
                  refine anyS_take (i := 3) (v := ?_) (by kernel_rfl) rfl (by kernel_rfl) (by kernel_rfl) (by kernel_rfl) (fun _ _ _ h => h) (by kernel_rfl) (fun _ => by kernel_rfl) ?_ ?_
                  rotate_left
                  · intro w' hS
                    obtain ⟨s0, s1, s2, s3, s4⟩ := hS
                    go_simp
                    try with_reducible rfl
                  refine anyS_take (i := 4) (v := ?_) (by kernel_rfl) rfl (by kernel_rfl) (by kernel_rfl) (by kernel_rfl) (fun _ _ _ h => h) (by kernel_rfl) (fun _ => by kernel_rfl) ?_ ?_
                  rotate_left
                  · intro w' hS
                    obtain ⟨s0, s1, s2, s3, s4⟩ := hS
                    go_simp
                    try with_reducible rfl
                  refine anyS_take (i := 5) (v := ?_) (by kernel_rfl) rfl (by kernel_rfl) (by kernel_rfl) (by kernel_rfl) (fun _ _ _ h => h) (by kernel_rfl) (fun _ => by kernel_rfl) ?_ ?_
                  rotate_left
                  · intro w' hS
                    obtain ⟨s0, s1, s2, s3, s4⟩ := hS
                    go_simp
                    try with_reducible rfl
                  have hc3 : Wc.cell? ⟨q20, 3, none⟩ = some (.bool true) := HC.out.2.2.1
                  refine anyS_one (i := 6) (by kernel_rfl) rfl (HC.out) (fun K hK => ?_)
                  go_simp
                  refine hK _ _ ?_
                  clear hK K
                  refine anyS_one (i := 7) (by kernel_rfl) rfl (HC.out) (fun K hK => ?_)
                  go_simp
                  refine hK _ _ ?_
                  clear hK K
                  refine anyS_one (i := 8) (by kernel_rfl) rfl (HC.out) (fun K hK => ?_)
                  go_simp
                  refine hK _ _ ?_
                  clear hK K
                  refine anyS_one (i := 9) (by kernel_rfl) rfl (HC.out) (fun K hK => ?_)
                  go_simp
                  refine hK _ _ ?_
                  clear hK K
                  refine anyS_one (i := 10) (by kernel_rfl) rfl (HC.out) (fun K hK => ?_)
                  go_simp
                  refine hK _ _ ?_
                  clear hK K
                  refine anyS_one (i := 11) (by kernel_rfl) rfl (HC.out) (fun K hK => ?_)
                  go_simp
                  refine hK _ _ ?_
                  clear hK K
                  refine anyS_done (by kernel_rfl) (HC.out) ?_ _
                  gi_wp2
                  exact HP.out
              case done =>
                rintro D1 xs W' hD hS ⟨_, _, hgr⟩ hK
                have hsz1 := HB15.out.size
                have hW' : Below w.heap.size w W' := by
                  have h1 := stepB HB0.out (stepB HBWA.out HB15.out)
                  have h0 := HB0.out.size
                  have h2 := HBWA.out.size
                  exact h1.trans ⟨hgr.os, hgr.tape, hgr.output, hgr.size, fun k hk => hgr.block k (Nat.lt_of_lt_of_le hk h1.size) (fun e => by
                    have e := Option.some.inj e
                    have h3 := HSZ.out.1
                    omega)⟩
                have h6 : W'.heap[q6]? = some (.cells #[.bool false] 4 (0, 0)) := by
                  have h1 := ((stepB HBWA.out HB15.out).block q6 (Crd.lt_of_row HR0.out)).trans HR0.out
                  exact (hgr.block q6 (Crd.lt_of_row h1) (fun e => by
                    have e := Option.some.inj e
                    have h3 := HSZ.out.1
                    have h4 := Crd.lt_of_row HR0.out
                    have h5 := HBWA.out.size
                    omega)).trans h1
                have m6 : W'.cell? ⟨q6, 0, none⟩ = some (.bool false) := cell_of_row W' _ 0 _ _ _ h6
                have f6 := fun j => frozen_of_row W' q6 j _ _ h6
                have hset : (W'.setCell ⟨q6, 0, none⟩ (.bool true)).heap[q6]? = some (.cells #[.bool true] 4 (0, 0)) := by
                  rw [heap_setCell_same _ q6 0 (#[.bool false]) 4 (.bool true) h6]
                  rfl
                have hq6D : q6 < D1 := by
                  have h4 := Crd.lt_of_row HR0.out
                  have h5 := HBWA.out.size
                  omega
                have hsD : (W'.setCell ⟨q6, 0, none⟩ (.bool true)).heap[D1]? = some (.deferred (some [])) := by
                  rw [heap_setCell_other _ ⟨q6, 0, none⟩ D1 _ (by show D1 ≠ q6; omega)]
                  exact hK
                have HF6 := Lib.hid (And.intro hset (And.intro hsD hq6D))
                have HBW := Lib.hid (hW'.setCell (p := ⟨q6, 0, none⟩) (show w.heap.size ≤ q6 by have := HQ6.out; omega) (.bool true))
                have HWD := Lib.hid (show w.heap.size ≤ D1 by have := HQ6.out; omega)
                clear hsz1 hW' h6 hset hq6D hsD hK hgr hD hS
                go_wp2
                refine ⟨by simp, .inl ⟨_, _, rfl, run_takeDeferred HF6.out.2.1, ?_⟩⟩
                exact ⟨_, room_results rfl ((World.putObj_heap_other (by have := HF6.out.2.2; omega)).trans HF6.out.1), rfl, below_putD HBW.out HWD.out HF6.out.2.1 _⟩
              case stop =>
                rintro D1 c pre W' hD hS ⟨rfl, hgr⟩ hK
                refine wpIn_wide.2 ?_
                have hsz1 := HB15.out.size
                have hW' : Below w.heap.size w W' := by
                  have h1 := stepB HB0.out (stepB HBWA.out HB15.out)
                  have h0 := HB0.out.size
                  have h2 := HBWA.out.size
                  exact h1.trans ⟨hgr.os, hgr.tape, hgr.output, hgr.size, fun k hk => hgr.block k (Nat.lt_of_lt_of_le hk h1.size) (fun e => by
                    have e := Option.some.inj e
                    have h3 := HSZ.out.1
                    omega)⟩
                have h6 : W'.heap[q6]? = some (.cells #[.bool false] 4 (0, 0)) := by
                  have h1 := ((stepB HBWA.out HB15.out).block q6 (Crd.lt_of_row HR0.out)).trans HR0.out
                  exact (hgr.block q6 (Crd.lt_of_row h1) (fun e => by
                    have e := Option.some.inj e
                    have h3 := HSZ.out.1
                    have h4 := Crd.lt_of_row HR0.out
                    have h5 := HBWA.out.size
                    omega)).trans h1
                have m6 : W'.cell? ⟨q6, 0, none⟩ = some (.bool false) := cell_of_row W' _ 0 _ _ _ h6
                have f6 := fun j => frozen_of_row W' q6 j _ _ h6
                have hset : (W'.setCell ⟨q6, 0, none⟩ (.bool true)).heap[q6]? = some (.cells #[.bool true] 4 (0, 0)) := by
                  rw [heap_setCell_same _ q6 0 (#[.bool false]) 4 (.bool true) h6]
                  rfl
                have hq6D : q6 < D1 := by
                  have h4 := Crd.lt_of_row HR0.out
                  have h5 := HBWA.out.size
                  omega
                have hsD : (W'.setCell ⟨q6, 0, none⟩ (.bool true)).heap[D1]? = some (.deferred (some [])) := by
                  rw [heap_setCell_other _ ⟨q6, 0, none⟩ D1 _ (by show D1 ≠ q6; omega)]
                  exact hK
                have HF6 := Lib.hid (And.intro hset (And.intro hsD hq6D))
                have HBW := Lib.hid (hW'.setCell (p := ⟨q6, 0, none⟩) (show w.heap.size ≤ q6 by have := HQ6.out; omega) (.bool true))
                have HWD := Lib.hid (show w.heap.size ≤ D1 by have := HQ6.out; omega)
                clear hsz1 hW' h6 hset hq6D hsD hK hgr hD hS
                go_wp2
                refine ⟨by simp, .inl ⟨_, _, rfl, run_takeDeferred HF6.out.2.1, ?_⟩⟩
                exact ⟨_, room_results rfl ((World.putObj_heap_other (by have := HF6.out.2.2; omega)).trans HF6.out.1), rfl, below_putD HBW.out HWD.out HF6.out.2.1 _⟩
end Go.Proofs.YtookicopjphmnaaGreat
