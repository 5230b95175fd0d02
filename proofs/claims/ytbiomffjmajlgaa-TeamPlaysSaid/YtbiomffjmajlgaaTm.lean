/- The law TeamRounds (layer 9), walked. -/
import Derived.Test.YtbiomffjmajlgaaTn
import Derived.Test.YtbiomffjmajlgaaTo
import Derived.IntWalk
import Derived.Deep.CutRange
namespace Go.Proofs.Ytbiomffjmajlgaa
open Go.RowKit
attribute [local go_sem] Oper.semAt_some

theorem may_lits (N : Nat) (h : 1 ≤ N ∧ N ≤ 4) : MayP (([0, 1, 2, 3] : List Int).take N) (([9, 9, 9, 9] : List Int).take N) := by
  obtain rfl | rfl | rfl | rfl : N = 1 ∨ N = 2 ∨ N = 3 ∨ N = 4 := by omega
  all_goals
    unfold MayP FitP
    decide
theorem lits2 (w : World) (o1 o2 : Obj) : ((w.alloc o1).alloc o2).drew.heap[w.heap.size]? = some o1 ∧ ((w.alloc o1).alloc o2).drew.heap[w.heap.size + 1]? = some o2 ∧ Below w.heap.size w ((w.alloc o1).alloc o2).drew := by
  have h1 := heap_alloc_new w o1
  have h2 := heap_alloc_new (w.alloc o1) o2
  rw [World.size_alloc] at h2
  have hb := below_new (w.alloc o1) o2
  exact ⟨(hb.block _ (by simp)).trans h1, h2, (below_alloc2 (below_new w o1) o2).drew⟩
theorem keep1 {A w w' : World} {a1 : Addr} {v1 : Value} (hb : Below w.heap.size w w') (h : Below A.heap.size A w ∧ w.cell? a1 = some v1) : Below A.heap.size A w' ∧ w'.cell? a1 = some v1 := ⟨stepB h.1 hb, cell_stays hb h.2⟩
/-- Teams that are as they were made, but for who has lost. -/
def LikeR (N : Nat) (T : TeamL) : Prop := T.sh.length = N
set_option maxRecDepth 100000 in
set_option maxHeartbeats 32000000 in
theorem teamRounds_walk {n : Nat} {v : Value} {l : List Int} {w : World} (hn : n < 256) (hv : ValsAt w v (u8sV l)) (hl : l.length ≤ 9223372036854775807) (hw : ∀ x ∈ l, 0 ≤ x ∧ x < 256) :
    Calls Try.prog 6 #[.int .u8 n, v] w (RetV w (.bool true)) := by
  have hvl : (u8sV l).length = l.length := by simp [u8sV]
  obtain ⟨va, vc, rfl⟩ := hv.form
  rw [hvl] at hv ⊢
  have HV := Lib.hid hv
  have HW := Lib.hid hw
  obtain ⟨N, hN⟩ : ∃ N, 1 + n % 4 = N := ⟨_, rfl⟩
  have hN4 : 1 ≤ N ∧ N ≤ 4 := by omega
  have hNI : 1 + (n : Int) % 4 = N := by omega
  have HN4 := Lib.hid hN4
  clear hv hw
  refine (callsIn_wide (n := 9)).1 ?_
  refine callsIn_of_wp_marks Try.func6 rfl trivial ?_ rfl
  simp only [Try.ntmps6, List.size_toArray, List.length_cons, List.length_nil, Nat.reduceAdd, Nat.reduceSub, Array.replicate_succ, Array.replicate_zero, List.push_toArray, List.append_toArray, List.nil_append, List.cons_append]
  refine wpIn_wide.2 ?_
  go_wp2_with fail
  refine (awake9_any _).mono ?_
  rintro e w1 ⟨rfl, hb1⟩
  have HB1 := Lib.hid hb1
  clear hb1
  go_upto_region 4 with fail
  go_cut [6, 7] from 22 to 28 (fun s6 s7 wx => ∃ g1 g2 : Nat, s6 = .slice (some ⟨g1, 0, none⟩) N 4 ∧ s7 = .slice (some ⟨g2, 0, none⟩) N 4 ∧ Hid (wx.heap[g1]? = some (.cells (intsV [0, 1, 2, 3]).toArray 3 (0, 0)) ∧ wx.heap[g2]? = some (.cells (intsV [9, 9, 9, 9]).toArray 3 (0, 0)) ∧ Below w.heap.size w wx))
  case first =>
    go_wp2
    --FAST
    go_region
    · go_wp2
      go_meet
      case rel => exact ⟨_, _, rfl, rfl, Lib.hid ⟨(lits2 w1 _ _).1, (lits2 w1 _ _).2.1, stepB HB1.out (lits2 w1 _ _).2.2⟩⟩
    · go_wp2
      go_meet
      case rel => exact ⟨_, _, rfl, rfl, Lib.hid ⟨(lits2 w1 _ _).2.1, (lits2 w1 _ _).1, stepB HB1.out (lits2 w1 _ _).2.2⟩⟩
    --END
  case rest =>
    obtain ⟨g1, g2, rfl, rfl, HX⟩ := hcut
    have HNEW := Lib.hid (new9_any (z := true) (lits_take wc g1 [0, 1, 2, 3] N hN4.2 HX.out.1 4) (lits_take wc g2 [9, 9, 9, 9] N hN4.2 HX.out.2.1 4) (by simp; omega) (by simp; omega) ⟨fun _ => may_lits N hN4, fun _ => rfl⟩)
    have HBC := Lib.hid HX.out.2.2
    clear HX
    go_wp2_with fail
    refine HNEW.out.mono ?_
    rintro e w2 ⟨hyes, _, hb2⟩
    obtain ⟨b, s, r, rfl, ht⟩ := hyes rfl
    have HT2 := Lib.hid ht
    have HL2 := Lib.hid (show LikeR N (newT (([0, 1, 2, 3] : List Int).take N) (([9, 9, 9, 9] : List Int).take N)) from by simp [LikeR, newT]; omega)
    have HB2 := Lib.hid (stepB HBC.out hb2)
    have HLO := Lib.hid HBC.out.size
    obtain ⟨T0, hT0⟩ : ∃ T0, newT (([0, 1, 2, 3] : List Int).take N) (([9, 9, 9, 9] : List Int).take N) = T0 := ⟨_, rfl⟩
    rw [hT0] at HT2 HL2
    clear hyes ht hb2 HNEW hT0 HBC
    by_cases hlong : l.length ≤ 10
    case neg =>
      have d0 : decide ((10 : Int) < l.length) = true := decide_eq_true (by omega)
      try dsimp only
      go_wp2
      exact ⟨_, results_tmp rfl _ _ _, rfl, HB2.out⟩
    have d0 : decide ((10 : Int) < l.length) = false := decide_eq_false (by omega)
    try dsimp only
    go_wp2
    go_loopw [45] (fun i wr => ∃ (k : Nat) (T : TeamL), k ≤ l.length ∧ i = .int .i64 k ∧ Hid (TeamAt wr wc.heap.size b s r T) ∧ Hid (LikeR N T) ∧ Hid (Below w.heap.size w wr)) (fun i _ => l.length - (intOf i).toNat)
    case atStart => exact ⟨0, T0, Nat.zero_le _, rfl, HT2, HL2, HB2⟩
    case round =>
      obtain ⟨k, T, hk, rfl, HT, HLK, HBR⟩ := hrel
      by_cases hlt : k < l.length
      · obtain ⟨b1, o1, rfl, hb1, x0⟩ : ∃ b1 o1, va = some ⟨b1, o1, none⟩ ∧ b1 < w.heap.size ∧ w.cell? ⟨b1, o1 + k, none⟩ = some (.int .u8 l[k]) := by
          have hv' := HV.out
          rw [← hvl] at hv'
          obtain ⟨b1, o1, h1, h2, h3⟩ := hv'.at k (by rw [hvl]; exact hlt)
          exact ⟨b1, o1, h1, h2, by rw [h3]; simp [u8sV]⟩
        have x1 := HBR.out.cell (p := ⟨b1, o1 + k, none⟩) hb1
        rw [x0] at x1
        have hxr := HW.out l[k] (List.getElem_mem hlt)
        obtain ⟨x, hx⟩ : ∃ x, l[k] = x := ⟨_, rfl⟩
        rw [hx] at x1 hxr
        have e0 : (0 : Int) ≤ k := by omega
        have e1 : (k : Int) < l.length := by omega
        have hnz : (N : Int) ≠ 0 := by omega
        clear hx x0 hb1
        go_wp2_with fail
        refine (tlose_any HT.out _).mono ?_
        rintro e w4 ⟨rfl, ht4, hg4⟩
        have HT4 := Lib.hid ht4
        have HL4 := Lib.hid (show LikeR N (loseT T (x % N)) from by unfold LikeR loseT; split; · simp [putT]; exact HLK.out
                                                                    · exact HLK.out)
        have HB4 := Lib.hid (own_to HBR.out HLO.out HT.out hg4)
        clear ht4 hg4 HT HLK HBR x1
        go_wp2
        go_roundw
        case rel => exact ⟨k + 1, _, by omega, by go_num, HT4, HL4, HB4⟩
        case measure => simp [intOf]; omega
      · obtain rfl : k = l.length := by omega
        clear hlt hk HV HW
        obtain ⟨wA, rfl⟩ : ∃ wA, wA = wr := ⟨_, rfl⟩
        have hx4 := below_new wA (.cells #[.slice none 0 0] 22)
        have HTX := Lib.hid (HT.out.later hx4)
        have HBX := Lib.hid hx4
        have hlx := list_newO wA wA.heap.size
        have hN := HLK.out
        have HLX := Lib.hid hlx
        clear hx4 hlx
        go_wp2_with fail
        refine (foes_any (some ⟨b, 0, none⟩) (-1) _).mono ?_
        rintro e w5 ⟨rfl, hd1, hd2, hb5, hs5⟩
        have HT5 := Lib.hid (HTX.out.later hb5)
        have HB5 := Lib.hid (HBX.out.trans (hb5.mono HBX.out.size))
        have HL5 := Lib.hid (HLX.out.later hb5)
        have hsz : w5.heap.size = wA.heap.size + 3 := by rw [hs5]; simp
        simp only [World.size_alloc] at hd1 hd2
        have hoff : ∀ x, x = b ∨ x = s ∨ x = r ∨ x = wA.heap.size + 1 ∨ x = wA.heap.size + 1 + 1 → ¬False ∧ Off (fun k => k = wA.heap.size) w5 x := fun x hx => by
          have h1 := HT.out.lt
          have h2 := HT.out.sd.1
          have h3 := HT.out.ltr
          exact ⟨fun e => e, off_lO HL5.out (by rcases hx with h | h | h | h | h <;> omega) (by intro e; cases e)⟩
        have HSEQ := Lib.hid (foes_seq 8 (by omega) (fun _ => False) (fun k => k = wA.heap.size) hd1 hd2 HT5.out hoff)
        have HI0 : IntsI wA.heap.size wA w5 [] w5 := ⟨.slice none 0 0, HL5.out, KpP.refl _ _ _, HB5.out, Nat.zero_le _⟩
        have HSZ := Lib.hid hsz
        clear hd1 hd2 hb5 hs5 hoff hsz HTX HBX HLX
        try dsimp only
        go_wp2_with fail
        refine (wpIn_wide (n := 9)).1 ?_
        simp only [World.size_alloc]
        refine range_world3 rfl (by omega) (I := IntsI wA.heap.size wA w5) (Ix := fun _ _ _ => False) (gf := 42) (lb := _) rfl trivial (fun _ _ => by kernel_rfl) HSEQ.out KpP.trans (fun W' o o' ho hc _ => KpP.put o' (.inr rfl) ho hc) (fun W W' hb => KpP.of_below _ _ hb) (Below.refl _ _) (fun _ => rfl)
          (intsI_own HB5.out.size (Nat.le_refl _)) (fun c s A B row hs hg hr => hs) (fun s A B row hs hg hr => hs) (fun s A B row hs hg hr => hs) HI0 ?_ ?_ ?_
        · rintro pre x W K hI hT hsz hK
          have HPL := Lib.hid (show pre.length + 1 ≤ 1000 from by
            have h1 := hT.length_le
            have h2 := upTo_len (foeB T (-1)) T.sh.length
            have h3 := HT.out.n2
            unfold foesT at h1
            simp at h1
            omega)
          have HK := Lib.hid hK
          clear hK hT hI
          simp only [encF]
          simp
          gi_wp2
          refine HK.out _ _ (Below.refl _ _) ?_
          clear HK
          intro Wb hsz2 hrest hkw ⟨v1, l0, k0, b0, hl1⟩
          have cl := l0.head.cell
          have fl := l0.head.frozen
          obtain ⟨xa1, xc1, rfl⟩ := own_form l0.own
          have HL1 := Lib.hid l0
          have HK1 := Lib.hid k0
          have HB1 := Lib.hid b0
          have HKB := Lib.hid hkw
          clear hsz2 hrest hkw l0 k0 b0 hl1
          have hlen : pre.length + [x].length ≤ 1000 := by have := HPL.out; simpa using this
          have hlo : wA.heap.size ≤ (Wb.alloc (.cells #[.int .i64 x] 3)).heap.size := by have := HB1.out.size; simp; omega
          gi_wp2_with (gi_at_builtin; refine wpListIn_append_ints rfl _ _ rfl rfl wA.heap.size _ pre.length (intsV pre) rfl (own_later HL1.out.own (below_new Wb _)) _ 1 1 [x] rfl rfl ((RowAt.new _ 3 (intsV [x])).vals 1) hlen hlo ?_)
          intro v' w6 hown hgrow hnew
          have hsep : ∀ c, c = wA.heap.size → (Value.slice xa1 pre.length xc1).ownBlock ≠ some c := fun c hc e => by subst hc; exact (HL1.out.row _ e).2.2 rfl
          obtain ⟨l7, k7, h6⟩ := ListIn.snoc (E := fun _ => False) (H := fun k => k = wA.heap.size) HL1.out rfl hgrow hown (by rw [World.size_alloc]; exact hnew) hsep
          have c6 := h6.cell
          have f6 := h6.frozen
          have HB7 := Lib.hid (show Below wA.heap.size wA (w6.setCell ⟨wA.heap.size, 0, none⟩ v') from ((HB1.out.alloc HB1.out.size _).grown hgrow (by have := HB1.out.size; simp; omega) (fun c e => by have := (HL1.out.row c e).1; omega)).setCell (Nat.le_refl _) v')
          obtain ⟨xa7, xc7, rfl⟩ := own_form hown
          have HL7 := Lib.hid l7
          have HK7 := Lib.hid k7
          clear hown hgrow hnew hsep l7 k7 h6 hlen hlo cl fl
          gi_wp2
          exact ⟨HK7.out.from (fun k e => e.elim), HKB.out.trans (HK7.out.mono (fun k e => e.elim)), _, HL7.out, HK1.out.trans HK7.out, HB7.out, by rw [List.length_append]; exact HPL.out⟩
        · rintro D ys W2 hD hS ⟨v2, l2, k2, b2, hl2⟩ hK
          subst hS
          rw [foesT_none] at l2 hl2
          have HT2 := Lib.hid (HT.out.later b2)
          have HB2 := Lib.hid (HBR.out.trans (b2.mono HBR.out.size))
          have hh := l2.head
          have hv2 := own_ints l2.own
          have HRI := Lib.hid (ring_next HT2.out.n2)
          have hov : overT T = decide ((leftT T).length < 2) := rfl
          have hwi : winnerT T = if (leftT T).length = 1 then (leftT T).getD 0 0 else -1 := rfl
          have HOV := Lib.hid (fun (w' : World) (hb : Below W2.heap.size W2 w') => tover_any (HT2.out.later hb))
          have HWI := Lib.hid (fun (w' : World) (hb : Below W2.heap.size W2 w') => twinner_any (HT2.out.later hb))
          have HNX := Lib.hid (fun (w' : World) (hb : Below W2.heap.size W2 w') (x : Int) => tnext_any (HT2.out.later hb) x)
          have hl4 : (leftT T).length ≤ 4 := leftT_len HT2.out
          obtain ⟨L, hL⟩ : ∃ L, leftT T = L := ⟨_, rfl⟩
          rw [hL] at l2 hl2 hv2 HRI hov hwi hl4
          obtain ⟨xa, xc, rfl⟩ := own_form l2.own
          have HHD := Lib.hid hh
          have HV2 := Lib.hid hv2
          have HDD := Lib.hid (show w.heap.size ≤ D ∧ W2.heap[D]? = some (.deferred (some [])) from ⟨by have := HBR.out.size; have := HSZ.out; omega, hK⟩)
          have HFIN : Hid (∀ (W3 : World) (fn : Func) (tmps : Array Value), Below W2.heap.size W2 W3 → (∀ W', (results fn tmps).run Try.prog W' = .ok (.bool true) W') → LeavesInM Fence.wide 9 Try.prog fn tmps (RetV w (.bool true)) [{ target := .collected D, args := #[] }] .returning W3) := Lib.hid fun W3 fn tmps hb hr =>
            leaves_marksO (B := w.heap.size) [D] _ (by simp) (fun D' hD' => by simp at hD'; subst hD'; exact HDD.out.1) (fun D' hD' => by
              obtain rfl := List.mem_singleton.1 hD'
              exact (hb.block _ (Array.getElem?_eq_some_iff.1 HDD.out.2).1).trans HDD.out.2) (fun W' hb' hc => ⟨_, hr W', rfl, (HB2.out.trans (hb.mono HB2.out.size)).trans hb'⟩)
          have cb := hh.cell
          clear HSEQ HI0 k2 b2 hK hL hh hv2 l2 HT HLK HBR HT5 HB5 HL5
          by_cases h0 : L.length = 0
          · have e0 : overT T = true := by rw [hov, h0]; rfl
            have e1 : winnerT T = -1 := by rw [hwi, if_neg (by omega)]
            rw [e0] at HOV
            rw [e1] at HWI
            clear hov hwi e0 e1 hl4
            go_wp2_with fail
            refine (HOV.out W2 (Below.refl _ _)).mono ?_
            rintro e w7 ⟨rfl, hb7⟩
            have HB7 := Lib.hid hb7
            clear hb7
            go_wp2_with fail
            refine (HWI.out w7 HB7.out).mono ?_
            rintro e w8 ⟨rfl, hb8⟩
            have HB8 := Lib.hid (stepB HB7.out hb8)
            clear hb8
            go_wp2
            exact HFIN.out _ _ _ HB8.out (fun W' => by rw [results_tmp (t := 4) rfl]; rfl)
          · obtain ⟨b0, off, rfl, _, x0⟩ := HV2.out.at 0 (by omega)
            obtain ⟨y0, hy0⟩ : ∃ y0, L[0] = y0 := ⟨_, rfl⟩
            rw [hy0, Nat.add_zero] at x0
            have HY0 := Lib.hid (show L.getD (0 % L.length) 0 = y0 by rw [Nat.zero_mod]; simp [List.getD, hy0, show 0 < L.length by omega])
            have hpos : (0 : Int) < L.length := by omega
            have hne0 : ((L.length : Int) == 0) = false := beq_eq_false_iff_ne.2 (by omega)
            have hov2 : overT T = ((L.length : Int) == 1) := by
              rw [hov]
              by_cases h1 : L.length = 1
              · rw [h1]; rfl
              · rw [show ((L.length : Int) == 1) = false from beq_eq_false_iff_ne.2 (by omega)]
                exact decide_eq_false (by omega)
            rw [hov2] at HOV
            clear hov hwi hy0 hov2 HWI
            go_wp2
            go_loopw [14, 15] (fun a i wr => ∃ k : Nat, k ≤ L.length ∧ i = .int .i64 ((k : Int) + 1) ∧ a = .int .i64 (L.getD (k % L.length) 0) ∧ Hid (Below W2.heap.size W2 wr)) (fun _ i _ => L.length + 1 - (intOf i).toNat)
            case atStart => exact ⟨0, Nat.zero_le _, rfl, by rw [HY0.out], Lib.hid (Below.refl _ _)⟩
            case round =>
              obtain ⟨k, hk, rfl, rfl, HBZ⟩ := hrel
              by_cases hlt : k < L.length
              · have hn := HRI.out (k % L.length) (Nat.mod_lt _ (by omega))
                rw [show (k % L.length + 1) % L.length = (k + 1) % L.length by rw [Nat.mod_add_mod]] at hn
                have HN := Lib.hid (HNX.out wr HBZ.out (L.getD (k % L.length) 0))
                rw [hn] at HN
                obtain ⟨j, hj⟩ : ∃ j, (k + 1) % L.length = j := ⟨_, rfl⟩
                have hjl : j < L.length := by rw [← hj]; exact Nat.mod_lt _ (by omega)
                have hji : ((k : Int) + 1) % (L.length : Int) = j := by rw [← hj]; push_cast; rfl
                obtain ⟨b1, off1, e1, hb1, x1⟩ := HV2.out.at j hjl
                injection e1 with e1
                injection e1 with e1 e2
                subst e1 e2
                have x2 := HBZ.out.cell (p := ⟨b0, off + j, none⟩) hb1
                rw [x1] at x2
                have hgj : L.getD j 0 = L[j] := by simp [List.getD, hjl]
                rw [hj, hgj] at HN
                obtain ⟨y, hy⟩ : ∃ y, L[j] = y := ⟨_, rfl⟩
                rw [hy] at HN x2
                have HYY := Lib.hid (show L.getD ((k + 1) % L.length) 0 = y by rw [hj, hgj, hy])
                have cz := (HHD.out.later HBZ.out).cell
                have d1 : decide ((k : Int) + 1 ≤ L.length) = true := decide_eq_true (by omega)
                have j0 : (0 : Int) ≤ j := by omega
                have j1 : (j : Int) < L.length := by omega
                have hlz : (L.length : Int) ≠ 0 := by omega
                have hyy : (y != y) = false := bne_self_eq_false _
                clear hn hj hy hgj x0 x1 cb
                go_wp2_with fail
                refine HN.out.mono ?_
                rintro e w7 ⟨rfl, rfl⟩
                go_wp2
                go_region
                all_goals
                  go_wp2
                  go_roundw
                case rel => exact ⟨k + 1, by omega, by go_num, by rw [HYY.out], Lib.hid (stepB HBZ.out (Below.drew (Below.refl _ _)))⟩
                case measure => simp [intOf]; omega
              · obtain rfl : k = L.length := by omega
                have d1 : decide ((L.length : Int) + 1 ≤ L.length) = false := decide_eq_false (by omega)
                have cz := (HHD.out.later HBZ.out).cell
                have HOW := Lib.hid (fun (w' : World) (hb : Below wr.heap.size wr w') => HOV.out w' (stepB HBZ.out hb))
                obtain ⟨ob, hob⟩ : ∃ ob, ((L.length : Int) == 1) = ob := ⟨_, rfl⟩
                rw [hob] at HOW
                obtain ⟨wz, rfl⟩ : ∃ wz, wz = wr := ⟨_, rfl⟩
                have HI : Hid (Below wz.heap.size wz wz ∧ wz.cell? ⟨wA.heap.size, 0, none⟩ = some (.slice (some ⟨b0, off, none⟩) L.length xc)) := Lib.hid ⟨Below.refl _ _, cz⟩
                clear x0 cb HOV
                go_upto_region 26 with fail
                clear cz
                go_region_held3 (fun w' => Below wz.heap.size wz w' ∧ w'.cell? ⟨wA.heap.size, 0, none⟩ = some (.slice (some ⟨b0, off, none⟩) L.length xc))
                  (first | assumption | (with_reducible exact HI.out) | exact keep1 ((Below.refl _ _).drew) HI.out | exact keep1 (by assumption) (by assumption))
                  ((go_at_call 25; refine (HOW.out _ (And.left (by assumption))).mono ?_; rintro e w9 ⟨rfl, hb9⟩))
                have hB : Below wz.heap.size wz w9 := And.left (by assumption)
                have HB9 := Lib.hid (stepB HBZ.out hB)
                clear hB
                go_wp2
                exact HFIN.out _ _ _ HB9.out (fun W' => by rw [results_tmp (t := 4) rfl]; rfl)
        · rintro D c pre W hD hS hI hK
          exact hI.elim
end Go.Proofs.Ytbiomffjmajlgaa
