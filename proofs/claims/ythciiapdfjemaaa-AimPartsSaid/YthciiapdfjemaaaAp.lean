/- The law AimParts (layer 10), walked: for every list of things and every numbers it returns true, and only new memory is made. -/
import Derived.Test.YthciiapdfjemaaaAg
import Derived.Test.YthciiapdfjemaaaAq
namespace Go.Proofs.Ythciiapdfjemaaa
open Go.RowKit Go.Maps
attribute [local go_sem] Oper.semAt_some

theorem results_c6' {fn : Func} {tmps : Array Value} {W W2 : World} {b : Nat} {v : Bool} (h : fn.results = #[.cell 6 4]) (ht : tmps.getD 6 undef = .pointer (some ⟨b, 0, none⟩)) (hb : HdAt W b (.bool v)) (hc : ∀ (j : Nat) (o : Obj), W.heap[j]? = some o → o.isCells = true → W2.heap[j]? = some o) : (results fn tmps).run Try.prog W2 = .ok (.bool v) W2 :=
  results_c6 h ht (by obtain ⟨t, h⟩ := hb; exact ⟨t, hc _ _ h rfl⟩)
theorem may_1 (T : TeamL) (S : StoreL) (seat x : Int) : mayT T S seat 1 x = (creE S x == 0) := by unfold mayT; rw [if_pos rfl]
theorem may_2 (T : TeamL) (S : StoreL) (seat x : Int) : mayT T S seat 2 x = ((creE S x == 0) && !ownT T S seat x) := by unfold mayT; rw [if_neg (by decide), if_pos rfl]
theorem may_3 (T : TeamL) (S : StoreL) (seat x : Int) : mayT T S seat 3 x = ((creE S x == 0) && ownT T S seat x) := by unfold mayT; rw [if_neg (by decide), if_neg (by decide), if_pos rfl]
theorem may_4 (T : TeamL) (S : StoreL) (seat x : Int) : mayT T S seat 4 x = ((x != ofT T seat) && !lostT T x) := by unfold mayT; rw [if_neg (by decide), if_neg (by decide), if_neg (by decide), if_pos rfl]
theorem chk_val {T : TeamL} {S : StoreL} {seat on : Int} (h : ¬(ofT T seat < 0 ∨ on < 0 ∨ 4 < on)) (x : Int) : chkT T S seat on x = if mayT T S seat on x then 0 else 12 := if_neg h
theorem parts10 {T : TeamL} {S : StoreL} {seat : Int} (hv : 0 ≤ ofT T seat) (x : Int) :
    (chkT T S seat 1 x = 12 ∧ chkT T S seat 2 x = 12 ∧ chkT T S seat 3 x = 12) ∨ (chkT T S seat 1 x = 0 ∧ chkT T S seat 2 x = 0 ∧ chkT T S seat 3 x = 12) ∨ (chkT T S seat 1 x = 0 ∧ chkT T S seat 2 x = 12 ∧ chkT T S seat 3 x = 0) := by
  rw [chk_val (on := 1) (by omega), chk_val (on := 2) (by omega), chk_val (on := 3) (by omega), may_1, may_2, may_3]
  cases (creE S x == 0) <;> cases ownT T S seat x <;> simp
theorem lose_lost (T : TeamL) (k : Int) : lostT (loseT T k) k = true := by
  unfold loseT
  cases hi : inT T k with
  | false =>
    rw [if_neg (by decide)]
    unfold lostT
    rw [hi]
    rfl
  | true =>
    rw [if_pos rfl]
    obtain ⟨n, rfl, hn⟩ := in_nat hi
    have h2 : inT (putT T n ⟨(shAt T n).life, (shAt T n).poison, true⟩) n = true := by simp [inT, putT]; omega
    simp only [Int.toNat_natCast] at *
    unfold lostT
    rw [h2, if_pos rfl]
    simp [putT, List.getD, hn]
theorem lose_sides (T : TeamL) (k : Int) : (loseT T k).sides = T.sides := by unfold loseT; split <;> rfl
theorem lose_of (T : TeamL) (k x : Int) : ofT (loseT T k) x = ofT T x := by unfold ofT; rw [lose_sides]
theorem lost_chk {T : TeamL} {S : StoreL} {seat k : Int} (hv : 0 ≤ ofT T seat) (h : lostT T k = true) : chkT T S seat 4 k = 12 := by
  rw [chk_val (by omega), may_4, h]
  simp
theorem StoreAt.grown10 {w w' : World} {lo b g : Nat} {G : Ghost} {S : StoreL} (h : StoreAt w lo b G S) (hg : w.grownBy w' (some g)) (hr : G.tag g = .no) : StoreAt w' lo b G S :=
  h.kept hg.size (fun k hk => hg.block k (h.tagLt hk) (fun e => hk (by injection e with e; rw [e]; exact hr)))
theorem HdAt.grownT {w w' : World} {q g : Nat} {v : Value} (h : HdAt w q v) (hg : w.grownBy w' (some g)) (hne : q ≠ g) : HdAt w' q v := h.of (hg.block q h.lt (fun e => hne (by injection e)))
set_option maxRecDepth 100000 in
set_option maxHeartbeats 32000000 in
theorem aimParts_walk {v : Value} {l : List ThingL} {n : Nat} (a0 a1 : Int) {w : World} (hv : ThingsAt w v l) (hw : ∀ x ∈ l, Wf x.owner ∧ Wf x.zone) (hlen : l.length ≤ 9223372036854775807) (hn : n < 256) :
    Calls Try.prog 4 #[v, .int .u8 n, .agg #[.int .i64 a0, .int .i64 a1]] w (RetV w (.bool true)) := by
  have HV := Lib.hid hv
  have HW := Lib.hid hw
  obtain ⟨va, vc, rfl⟩ := hv.form
  clear hv hw
  refine (callsIn_wide (n := 9)).1 ?_
  refine callsIn_of_wp_marks Try.func4 rfl trivial ?_ rfl
  simp only [Try.ntmps4, List.size_toArray, List.length_cons, List.length_nil, Nat.reduceAdd, Nat.reduceSub, Array.replicate_succ, Array.replicate_zero, List.push_toArray, List.append_toArray, List.nil_append, List.cons_append]
  refine wpIn_wide.2 ?_
  have hx2 := below_alloc2 (below_new w (.cells #[.int .i64 a0, .int .i64 a1] 51)) (.cells #[.bool false] 4)
  have HX2 := Lib.hid hx2
  have HC2 := Lib.hid (show ((w.alloc (.cells #[.int .i64 a0, .int .i64 a1] 51)).alloc (.cells #[.bool false] 4)).heap[w.heap.size]? = some (.cells #[.int .i64 a0, .int .i64 a1] 51 (0, 0)) from (below_new _ _).block _ (by simp) |>.trans (heap_alloc_new w _))
  have HQ2 := Lib.hid (show HdAt ((w.alloc (.cells #[.int .i64 a0, .int .i64 a1] 51)).alloc (.cells #[.bool false] 4)) (w.heap.size + 1) (.bool false) from HdAt.next (by simp))
  clear hx2
  go_wp2_with fail
  obtain ⟨W2, hW2⟩ : ∃ W2, (w.alloc (.cells #[.int .i64 a0, .int .i64 a1] 51)).alloc (.cells #[.bool false] 4) = W2 := ⟨_, rfl⟩
  have HSZ2 := Lib.hid (show W2.heap.size = w.heap.size + 2 by rw [← hW2]; simp)
  rw [hW2] at HX2 HC2 HQ2 ⊢
  clear hW2
  refine (awake10_any _).mono ?_
  rintro e w1 ⟨rfl, hb1⟩
  have HX3 := Lib.hid (stepB HX2.out hb1)
  have HC3 := Lib.hid ((hb1.block _ (Array.getElem?_eq_some_iff.1 HC2.out).1).trans HC2.out)
  have HQ3 := Lib.hid (HQ2.out.later hb1)
  have HZ3 := Lib.hid (show w.heap.size + 2 ≤ w1.heap.size by have := hb1.size; have := HSZ2.out; omega)
  clear hb1 HX2 HC2 HQ2
  have HMA := Lib.hid (made_any (HV.out.later HX3.out) HW.out hlen)
  go_wp2_with fail
  refine HMA.out.mono ?_
  rintro e w2 (⟨hplay, b, lo, G, S, rfl, hs, hm, hlo, _, hb2⟩ | ⟨hplay, rfl, hb2⟩)
  case inr =>
    have HQ4 := Lib.hid (HQ3.out.later hb2)
    have HX4 := Lib.hid (stepB HX3.out hb2)
    clear hb2
    go_wp2_with fail
    refine (sides_any hn _).mono ?_
    rintro e w3 ⟨tlo, tb, s, r, rfl, _, _, hb3⟩
    have HQ5 := Lib.hid (HQ4.out.later hb3)
    have HX5 := Lib.hid (stepB HX4.out hb3)
    clear hb3
    have cq := HQ5.out.cell
    have fq := HQ5.out.frozen
    have HQ6 := Lib.hid (HQ5.out.set (.bool true))
    have HX6 := Lib.hid (HX5.out.setCell (Nat.le_succ _) (.bool true) (p := ⟨w.heap.size + 1, 0, none⟩))
    go_wp2
    exact ⟨_, results_c6 rfl rfl HQ6.out, rfl, HX6.out⟩
  have HQ4 := Lib.hid (HQ3.out.later hb2)
  have HX4 := Lib.hid (stepB HX3.out hb2)
  have HC4 := Lib.hid ((hb2.block _ (Array.getElem?_eq_some_iff.1 HC3.out).1).trans HC3.out)
  have HS4 := Lib.hid hs
  have HM := Lib.hid hm
  have HL := Lib.hid (show S.objs.length ≤ 1000 by rw [hm.len]; have := hplay.1; omega)
  have HLL := Lib.hid hplay.1
  have HZ4 := Lib.hid (show w1.heap.size ≤ w2.heap.size from hb2.size)
  clear hs hm hplay hlo hb2 HX3 HC3 HQ3 HMA HV HW
  go_wp2_with fail
  refine (sides_any hn _).mono ?_
  rintro e w3 ⟨tlo, tb, s, r, rfl, ht, htlo, hb3⟩
  have HQ5 := Lib.hid (HQ4.out.later hb3)
  have HX5 := Lib.hid (stepB HX4.out hb3)
  have HC5 := Lib.hid ((hb3.block _ (Array.getElem?_eq_some_iff.1 HC4.out).1).trans HC4.out)
  have HS5 := Lib.hid (HS4.out.later hb3)
  have HT5 := Lib.hid ht
  have HRT := Lib.hid (show G.tag r = .no ∧ w.heap.size + 2 ≤ r from ⟨HS4.out.high r (by have := ht.lr; omega), by have := ht.lr; have := HZ3.out; have := HZ4.out; omega⟩)
  clear ht htlo hb3 HQ4 HX4 HC4 HS4
  obtain ⟨T, hT⟩ : ∃ T, sidesT n = T := ⟨_, rfl⟩
  have HSI := Lib.hid hT
  rw [hT] at HT5
  clear hT
  have c0 : w3.cell? ⟨w.heap.size, 0, none⟩ = some (.int .i64 a0) := cell_of_row w3 _ 0 _ _ (0, 0) HC5.out
  have c1 : w3.cell? ⟨w.heap.size, 1, none⟩ = some (.int .i64 a1) := cell_of_row w3 _ 1 _ _ (0, 0) HC5.out
  obtain ⟨seat, hs4, hse⟩ := and3 a0
  obtain ⟨k4, hk4, hke⟩ := and3 a1
  have HVD := Lib.hid (show 0 ≤ ofT T seat by rw [← HSI.out]; exact sides_of n (by omega))
  have HCK := Lib.hid (fun (w' : World) (hb : Below w3.heap.size w3 w') (on x : Int) => aimCheck_any (HS5.out.later hb) HM.out.wf HL.out (HT5.out.later hb) seat on x)
  go_wp2
  go_loopw [10] (fun i wr => ∃ k : Nat, k ≤ l.length + 2 ∧ i = .int .i64 k ∧ Hid (Below w3.heap.size w3 wr)) (fun i _ => l.length + 2 - (intOf i).toNat)
  case atStart => exact ⟨0, Nat.zero_le _, rfl, Lib.hid (Below.refl _ _)⟩
  case round =>
    obtain ⟨k, hk, rfl, HBR⟩ := hrel
    have hl40 := HLL.out
    by_cases hlt : k < l.length + 2
    · have d0 : decide ((k : Int) ≤ l.length + 1) = true := decide_eq_true (by omega)
      have C1 := Lib.hid (fun (w' : World) (hb : Below w3.heap.size w3 w') => HCK.out w' hb 1 k)
      have C2 := Lib.hid (fun (w' : World) (hb : Below w3.heap.size w3 w') => HCK.out w' hb 2 k)
      have C3 := Lib.hid (fun (w' : World) (hb : Below w3.heap.size w3 w') => HCK.out w' hb 3 k)
      rcases parts10 (S := S) HVD.out k with ⟨e1, e2, e3⟩ | ⟨e1, e2, e3⟩ | ⟨e1, e2, e3⟩
      all_goals
        rw [e1] at C1
        rw [e2] at C2
        rw [e3] at C3
        clear e1 e2 e3
        go_wp2_with fail
        refine (C1.out wr HBR.out).mono ?_
        rintro e u1 ⟨rfl, hu1⟩
        have U1 := Lib.hid (stepB HBR.out hu1)
        clear hu1
        go_wp2_with fail
        refine (C2.out u1 U1.out).mono ?_
        rintro e u2 ⟨rfl, hu2⟩
        have U2 := Lib.hid (stepB U1.out hu2)
        clear hu2
        go_wp2_with fail
        refine (C3.out u2 U2.out).mono ?_
        rintro e u3 ⟨rfl, hu3⟩
        have U3 := Lib.hid (stepB U2.out hu3)
        clear hu3
        go_wp2
        go_roundw
        case rel => exact ⟨k + 1, by omega, by go_num, U3⟩
        case measure => simp [intOf]; omega
    · obtain rfl : k = l.length + 2 := by omega
      have d0 : decide ((l.length : Int) + 2 ≤ l.length + 1) = false := decide_eq_false (by omega)
      have HX6 := Lib.hid (stepB HX5.out HBR.out)
      have HQ6 := Lib.hid (HQ5.out.later HBR.out)
      have HC6 := Lib.hid ((HBR.out.block _ (Array.getElem?_eq_some_iff.1 HC5.out).1).trans HC5.out)
      have HS6 := Lib.hid (HS5.out.later HBR.out)
      have HT6 := Lib.hid (HT5.out.later HBR.out)
      obtain ⟨wA, rfl⟩ : ∃ wA, wA = wr := ⟨_, rfl⟩
      have HK6 := Lib.hid (fun (w' : World) (hb : Below wA.heap.size wA w') => aimCheck_any (HS6.out.later hb) HM.out.wf HL.out (HT6.out.later hb) seat 4 (k4 : Int))
      have c1 : wA.cell? ⟨w.heap.size, 1, none⟩ = some (.int .i64 a1) := cell_of_row wA _ 1 _ _ (0, 0) HC6.out
      clear hlt hk HCK HS5 HT5 HQ5 HC5 HX5 HBR c0
      obtain ⟨wasE, hwasE⟩ : ∃ wasE, chkT T S seat 4 (k4 : Int) = wasE := ⟨_, rfl⟩
      have HWE := Lib.hid hwasE
      rw [hwasE] at HK6
      clear hwasE
      go_wp2_with fail
      refine (HK6.out wA (Below.refl _ _)).mono ?_
      rintro e w4 ⟨rfl, hb4⟩
      have HX7 := Lib.hid (stepB HX6.out hb4)
      have HQ7 := Lib.hid (HQ6.out.later hb4)
      have HS7 := Lib.hid (HS6.out.later hb4)
      have HT7 := Lib.hid (HT6.out.later hb4)
      clear hb4 HK6 HS6 HT6 HX6 HQ6 c1 HC6
      go_wp2_with fail
      refine (tlose_any HT7.out (k4 : Int)).mono ?_
      rintro e w5 ⟨rfl, ht5, hg5⟩
      obtain ⟨lz, hlz⟩ : ∃ lz, (!lostT T (k4 : Int)) = lz := ⟨_, rfl⟩
      rw [hlz]
      have HX8 := Lib.hid (grown_to HX7.out hg5 (by have := HRT.out; omega))
      have HQ8 := Lib.hid (HQ7.out.grownT hg5 (by have := HRT.out; omega))
      have HS8 := Lib.hid (HS7.out.grown10 hg5 HRT.out.1)
      have HT8 := Lib.hid ht5
      have HLN := Lib.hid (tlen_any ht5)
      have HCL := Lib.hid (show chkT (loseT T (k4 : Int)) S seat 4 (k4 : Int) = 12 from lost_chk (by rw [lose_of]; exact HVD.out) (lose_lost _ _))
      have HSH := Lib.hid (show (loseT T (k4 : Int)).sh.length = T.sh.length from by unfold loseT; split <;> simp [putT])
      clear ht5 hg5 hlz HX7 HQ7 HS7 HT7
      have HK8 := Lib.hid (aimCheck_any HS8.out HM.out.wf HL.out HT8.out seat 4 (k4 : Int))
      rw [HCL.out] at HK8
      rw [HSH.out] at HLN
      obtain ⟨N, hN⟩ : ∃ N, T.sh.length = N := ⟨_, rfl⟩
      rw [hN] at HLN
      have HNN := Lib.hid hN
      clear HCL HSH hN
      go_upto_region 16 with fail
      go_cut [96] from 81 to 96 (fun s96 wx => s96 = .bool false ∧ Hid (Below w5.heap.size w5 wx))
      case first =>
        by_cases hNk : (N : Int) ≤ k4
        · have dN : decide (N ≤ k4) = true := decide_eq_true (by omega)
          have hw12 : wasE = 12 := by
            rw [← HWE.out]
            refine lost_chk HVD.out ?_
            unfold lostT
            have : inT T (k4 : Int) = false := by unfold inT; rw [HNN.out]; simp; omega
            rw [this]
            rfl
          have ew : (wasE == 0) = false := by rw [hw12]; rfl
          clear hNk hw12
          go_wp2_with fail
          refine HK8.out.mono ?_
          rintro e w6 ⟨rfl, hb6⟩
          have HB6 := Lib.hid hb6
          have HLN6 := Lib.hid (show Calls Try.prog 13 #[.pointer (some ⟨tb, 0, none⟩)] w6 (Same w6 (.int .i64 N)) from by have h := tlen_any (HT8.out.later hb6); rwa [show (loseT T (k4 : Int)).sh.length = N by rw [← HNN.out]; unfold loseT; split <;> simp [putT]] at h)
          clear hb6
          go_wp2_with fail
          refine HLN6.out.mono ?_
          rintro e w7 ⟨rfl, rfl⟩
          go_wp2
          go_meet
          case rel => exact ⟨rfl, HB6⟩
        · have dN : decide (N ≤ k4) = false := decide_eq_false (by omega)
          clear hNk
          go_wp2_with fail
          refine HK8.out.mono ?_
          rintro e w6 ⟨rfl, hb6⟩
          have HB6 := Lib.hid hb6
          have HLN6 := Lib.hid (show Calls Try.prog 13 #[.pointer (some ⟨tb, 0, none⟩)] w6 (Same w6 (.int .i64 N)) from by have h := tlen_any (HT8.out.later hb6); rwa [show (loseT T (k4 : Int)).sh.length = N by rw [← HNN.out]; unfold loseT; split <;> simp [putT]] at h)
          clear hb6
          go_wp2_with fail
          refine HLN6.out.mono ?_
          rintro e w7 ⟨rfl, rfl⟩
          go_wp2
          go_meet
          case rel => exact ⟨rfl, HB6⟩
      case rest =>
      obtain ⟨rfl, HBC⟩ := hcut
      have HX9 := Lib.hid (stepB HX8.out HBC.out)
      have HQ9 := Lib.hid (HQ8.out.later HBC.out)
      clear HBC HK8 HLN HNN HX8 HQ8 HT8 HS8 HWE
      go_wp2_with fail
      refine (aimAll_any none (some ⟨tb, 0, none⟩) (seat : Int) 1 wc).mono ?_
      rintro e w6 ⟨rfl, hd1, hd2, hd3, hd4, hb6, _⟩
      have HSEQ := Lib.hid (aimNilS_seq 8 (by omega) (fun _ => False) (fun _ => False) (fun k hk => hk.elim) (fun c hc => hc.elim) (fun c hc => ⟨fun e => e, off_none _ _⟩) hd1 hd2 hd3 hd4)
      unfold TellsF at HSEQ
      have HX10 := Lib.hid (stepB HX9.out hb6)
      have HQ10 := Lib.hid (HQ9.out.later hb6)
      clear hd1 hd2 hd3 hd4 hb6 HX9 HQ9
      go_wp2_with fail
      refine (wpIn_wide (n := 9)).1 ?_
      refine range_world3 rfl (by omega) (I := fun (_ : List Int) W => Below w6.heap.size w6 W) (Ix := fun _ _ _ => False) (gf := 27) (lb := _) rfl trivial (fun _ _ => by kernel_rfl) HSEQ.out KpP.trans (fun W' o o' ho hc _ => KpP.put o' (.inr rfl) ho hc) (fun W W' hb => KpP.of_below _ _ hb) (Below.refl _ _) (fun _ => rfl)
        (ownFrom_below (Nat.le_refl _) (Nat.le_refl _)) (fun c s A B row hs hg hr => hs) (fun s A B row hs hg hr => hs) (fun s A B row hs hg hr => hs) (Below.refl _ _) ?_ ?_ ?_
      · rintro pre x W K hI hT
        exact absurd hT (by simp)
      · rintro D1 xs W7 hD1 hS hI hK1
        have HX11 := Lib.hid (stepB HX10.out hI)
        have HQ11 := Lib.hid (HQ10.out.later hI)
        have HD1 := Lib.hid (show w.heap.size ≤ D1 ∧ D1 < W7.heap.size ∧ W7.heap[D1]? = some (.deferred (some [])) from ⟨by have := HX10.out.size; omega, (Array.getElem?_eq_some_iff.1 hK1).1, hK1⟩)
        clear hI hK1 hS hD1 HSEQ HX10 HQ10
        go_wp2_with fail
        refine (aimAll_any (some ⟨b, 0, none⟩) none (seat : Int) 0 W7).mono ?_
        rintro e w8 ⟨rfl, hd1, hd2, hd3, hd4, hb8, _⟩
        have HSEQ := Lib.hid (aimNilT_seq 8 (by omega) (fun _ => False) (fun _ => False) (fun k hk => hk.elim) (fun c hc => hc.elim) (fun c hc => ⟨fun e => e, off_none _ _⟩) hd1 hd2 hd3 hd4)
        unfold TellsF at HSEQ
        have HX12 := Lib.hid (stepB HX11.out hb8)
        have HQ12 := Lib.hid (HQ11.out.later hb8)
        have HD2 := Lib.hid (show w.heap.size ≤ D1 ∧ D1 < w8.heap.size ∧ w8.heap[D1]? = some (.deferred (some [])) from ⟨HD1.out.1, Nat.lt_of_lt_of_le HD1.out.2.1 hb8.size, (hb8.block _ HD1.out.2.1).trans HD1.out.2.2⟩)
        clear hd1 hd2 hd3 hd4 hb8 HX11 HQ11 HD1
        go_wp2_with fail
        refine (wpIn_wide (n := 9)).1 ?_
        refine range_world3 rfl (by omega) (I := fun (_ : List Int) W => Below w8.heap.size w8 W) (Ix := fun _ _ _ => False) (gf := 27) (lb := _) rfl trivial (fun _ _ => by kernel_rfl) HSEQ.out KpP.trans (fun W' o o' ho hc _ => KpP.put o' (.inr rfl) ho hc) (fun W W' hb => KpP.of_below _ _ hb) (Below.refl _ _) (fun _ => rfl)
          (ownFrom_below (Nat.le_refl _) (Nat.le_refl _)) (fun c s A B row hs hg hr => hs) (fun s A B row hs hg hr => hs) (fun s A B row hs hg hr => hs) (Below.refl _ _) ?_ ?_ ?_
        · rintro pre x W K hI hT
          exact absurd hT (by simp)
        · rintro D2 xs W9 hD2 hS hI hK2
          have HX13 := Lib.hid (stepB HX12.out hI)
          have HQ13 := Lib.hid (HQ12.out.later hI)
          have HD3 := Lib.hid (show w.heap.size ≤ D1 ∧ W9.heap[D1]? = some (.deferred (some [])) ∧ W9.heap[D2]? = some (.deferred (some [])) ∧ D1 < D2 from ⟨HD2.out.1, (hI.block _ HD2.out.2.1).trans HD2.out.2.2, hK2, by have := HD2.out.2.1; omega⟩)
          clear hI hK2 hS hD2 HSEQ HX12 HQ12 HD2
          go_wp2_with fail
          refine (aimCheck_nilS (some ⟨tb, 0, none⟩) (seat : Int) 0 0 W9).mono ?_
          rintro e w10 ⟨rfl, hb10⟩
          have HX14 := Lib.hid (stepB HX13.out hb10)
          have HQ14 := Lib.hid (HQ13.out.later hb10)
          have HD4 := Lib.hid (show w10.heap[D1]? = some (.deferred (some [])) ∧ w10.heap[D2]? = some (.deferred (some [])) from ⟨(hb10.block _ (Array.getElem?_eq_some_iff.1 HD3.out.2.1).1).trans HD3.out.2.1, (hb10.block _ (Array.getElem?_eq_some_iff.1 HD3.out.2.2.1).1).trans HD3.out.2.2.1⟩)
          clear hb10 HX13 HQ13
          go_wp2_with fail
          refine (aimCheck_nilT b (seat : Int) 0 0 w10).mono ?_
          rintro e w11 ⟨rfl, hb11⟩
          have HX15 := Lib.hid (stepB HX14.out hb11)
          have HQ15 := Lib.hid (HQ14.out.later hb11)
          have cq := HQ15.out.cell
          have fq := HQ15.out.frozen
          have HQ16 := Lib.hid (HQ15.out.set (.bool true))
          have HX16 := Lib.hid (HX15.out.setCell (Nat.le_succ _) (.bool true) (p := ⟨w.heap.size + 1, 0, none⟩))
          have far : ∀ D, w11.heap[D]? = some (Obj.deferred (some [])) → (w11.setCell ⟨w.heap.size + 1, 0, none⟩ (.bool true)).heap[D]? = some (Obj.deferred (some [])) := fun D hD => (heap_setCell_other w11 ⟨w.heap.size + 1, 0, none⟩ D _ (by
            rintro rfl
            obtain ⟨t, h⟩ := HQ15.out
            rw [h] at hD
            cases hD)).trans hD
          have HD5 := Lib.hid (And.intro (far D1 ((hb11.block _ (Array.getElem?_eq_some_iff.1 HD4.out.1).1).trans HD4.out.1)) (far D2 ((hb11.block _ (Array.getElem?_eq_some_iff.1 HD4.out.2).1).trans HD4.out.2)))
          clear hb11 HX14 HQ14 HD4 HQ15 HX15 far
          go_wp2
          refine leaves_marksO (B := w.heap.size) [D2, D1] _ (by have := HD3.out.2.2.2; simp; omega) (fun D' hD' => by have := HD3.out.1; have := HD3.out.2.2.2; simp at hD'; omega) (fun D' hD' => by simp at hD'; rcases hD' with rfl | rfl; exact HD5.out.2; exact HD5.out.1) (fun W2 hb hc => ?_)
          exact ⟨_, results_c6' rfl rfl HQ16.out hc, rfl, HX16.out.trans hb⟩
        · rintro D c pre W hD hS hI hK
          exact hI.elim
      · rintro D c pre W hD hS hI hK
        exact hI.elim
end Go.Proofs.Ythciiapdfjemaaa
