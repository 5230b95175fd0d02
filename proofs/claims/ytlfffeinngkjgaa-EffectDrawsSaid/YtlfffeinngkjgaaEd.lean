/- The law EffectDraws, walked (layer 11). -/
import Derived.Test.YtlfffeinngkjgaaEw
import Derived.Deep.RegionHeld3
import Derived.Deep.Cut
import Derived.Deep.DeepCutAuto
namespace Go.Proofs.Ytlfffeinngkjgaa
open Go.RowKit Go.Maps
attribute [local go_sem] Oper.semAt_some

theorem keepB1 {A w w' : World} {a0 : Addr} {v0 : Value} (hb : Below w.heap.size w w') (h : Below A.heap.size A w ∧ w.cell? a0 = some v0) : Below A.heap.size A w' ∧ w'.cell? a0 = some v0 := ⟨stepB h.1 hb, cell_stays hb h.2⟩
theorem drew_belowE {w : World} {v : Value} {e : Ending} {w' : World} (h : Drew w v e w') : RetV w v e w' := by
  obtain ⟨rfl, n, rfl⟩ := h
  exact ⟨rfl, below_drewN (Below.refl _ _) n⟩
theorem lib_short {S : StoreL} (h : WfS S) (hl : S.objs.length ≤ 40) {s z : Nat} (ok : okK S.seats s z) : (S.pl s z).length ≤ 40 :=
  Nat.le_trans (nodup_len S.objs.length _ (h.nodup s z ok) fun x hx => by
    obtain ⟨k, hk, rfl, _⟩ := (h.mem s z ok x).1 hx
    omega) hl
set_option maxRecDepth 100000 in
set_option maxHeartbeats 16000000 in
theorem effectDraws_walk {v : Value} {l : List ThingL} (seat n : Int) (ws : Wf seat) {w : World} (hv : ThingsAt w v l) (hw : ∀ x ∈ l, Wf x.owner ∧ Wf x.zone) (hlen : l.length ≤ 9223372036854775807) :
    Calls Try.prog 3 #[v, .int .i64 seat, .int .i64 n] w (RetV w (.bool true)) := by
  have HBO := Lib.hid (fun (w' : World) (hb : Below w.heap.size w w') => board_any (hv.later hb) hw hlen 0 (by decide))
  obtain ⟨va, vc, rfl⟩ := hv.form
  clear hv hw
  go_enter Try.func3, Try.ntmps3
  go_wp2_with fail
  refine (awake11_any w).mono ?_
  rintro e w1 ⟨rfl, hb1⟩
  have HB1 := Lib.hid hb1
  clear hb1
  go_wp2_with fail
  refine (HBO.out w1 HB1.out).mono ?_
  rintro e w2 (⟨hp, hm, lo, g, rfl, hbd, hlo, hb2⟩ | ⟨hn, rfl, hb2⟩)
  case inr =>
    have HB2 := Lib.hid (stepB HB1.out hb2)
    clear hb2 HBO
    dsimp only
    go_wp2
    go_ret
    exact ⟨rfl, HB2.out⟩
  have HM := Lib.hid hm
  have HL40 := Lib.hid (show (madeF l).objs.length ≤ 40 by rw [hm.len]; exact hp.1)
  have HBD := Lib.hid hbd
  have HB2 := Lib.hid (stepB HB1.out hb2)
  have HOL := Lib.hid (show ∀ k, g.own k → w.heap.size ≤ k from fun k hk => Nat.le_trans (Nat.le_trans HB1.out.size hlo) (hbd.ownLo hk))
  have HOW := Lib.hid (show ∀ k, g.own k → k < w2.heap.size from fun k hk => hbd.ownLt hk)
  have HIN := Lib.hid (fun (z : Int) (hz : Wf z) (w' : World) (hb : Below w2.heap.size w2 w') => in_any (hbd.st.later hb) (hbd.wf.short (by have := hbd.len; omega)) ws hz)
  have HHT := Lib.hid (hasT_board l hm 0 seat)
  obtain ⟨c0, -⟩ := hbd.cells
  have HI := Lib.hid (And.intro (Below.refl w2.heap.size w2) c0)
  clear hp hm hlo hbd hb2 HBO
  dsimp only
  go_upto_region 6 with fail
  go_region_held3 (fun w' => Below w2.heap.size w2 w' ∧ w'.cell? ⟨g.q, 0, none⟩ = some (.pointer (some ⟨g.b, 0, none⟩)))
    (first | assumption | (with_reducible exact HI.out) | exact keepB1 ((Below.refl _ _).drew) HI.out | exact keepB1 (by assumption) (by assumption))
    (first
      | (go_at_call 6; refine (HIN.out _ ⟨by decide, by decide⟩ _ (And.left (by assumption))).mono ?_; rintro e w3 ⟨v3, rfl, ho3, hb3⟩; obtain ⟨xa3, xc3, rfl⟩ := own_form ho3))
  rename_i wL hbL xaL xcL hoL hHeld
  have esz : w2.drew.heap.size = w2.heap.size := rfl
  rw [esz] at hoL
  have HB3 := Lib.hid hHeld.1
  have HC3 := Lib.hid hHeld.2
  have hb33 : Below wL.heap.size wL w3 := hb3
  have hoL3 := own_later hoL hb33
  have hoH3 := own_mono ho3 (show w2.heap.size ≤ wL.heap.size from by have := hbL.size; rw [esz] at this; exact this)
  clear hHeld hb3 hb33 hoL ho3 hbL esz HI
  obtain ⟨L, hLL⟩ : ∃ L, inL (boardL l 0).S seat 1 = L := ⟨_, rfl⟩
  obtain ⟨H, hHH⟩ : ∃ H, inL (boardL l 0).S seat 2 = H := ⟨_, rfl⟩
  rw [hLL] at hoL3 ⊢
  rw [hHH] at hoH3 ⊢
  have HLL := Lib.hid hLL
  have HHH := Lib.hid hHH
  have HOL3 := Lib.hid hoL3
  have HOH3 := Lib.hid hoH3
  have HBD3 := Lib.hid (HBD.out.later HB3.out)
  have HB3W := Lib.hid (stepB HB2.out HB3.out)
  clear hLL hHH hoL3 hoH3
  by_cases hk : 0 ≤ seat ∧ seat < 4
  case neg =>
    have hh : hasT (boardL l 0) seat = false := by rw [HHT.out]; exact decide_eq_false hk
    have HDO := Lib.hid (draw_out HBD3.out seat n hh)
    have HDR := Lib.hid (show Calls Try.prog 8 #[.pointer (some ⟨g.q, 0, none⟩), .int .i64 seat] w3 (Same w3 (.bool false)) from by
      have := dry_any HBD3.out seat
      rwa [show dryT (boardL l 0) seat = false from by unfold dryT; rw [hh, Bool.false_and]] at this)
    have hor : decide (seat < 0) = true ∨ (decide (seat < 0) = false ∧ decide (3 < seat) = true) := by
      by_cases h : seat < 0
      · exact .inl (decide_eq_true h)
      · exact .inr ⟨decide_eq_false h, decide_eq_true (by omega)⟩
    clear hk hh
    go_wp2_with fail
    refine HDO.out.mono ?_
    rintro e w4 ⟨rfl, rfl⟩
    rcases hor with d1 | ⟨d1, d2⟩
    · go_wp2_with fail
      refine HDR.out.mono ?_
      rintro e w5 ⟨rfl, rfl⟩
      go_wp2
      go_ret
      exact ⟨rfl, HB3W.out⟩
    · go_wp2_with fail
      refine HDR.out.mono ?_
      rintro e w5 ⟨rfl, rfl⟩
      go_wp2
      go_ret
      exact ⟨rfl, HB3W.out⟩
  obtain ⟨k, rfl⟩ : ∃ k : Nat, seat = k := ⟨seat.toNat, by omega⟩
  have hk4 : k < 4 := by omega
  have d1 : decide ((k : Int) < 0) = false := decide_eq_false (by omega)
  have d2 : decide ((3 : Int) < k) = false := decide_eq_false (by omega)
  have hks : k < (boardL l 0).S.seats := by show k < (madeF l).seats; rw [HM.out.seats]; exact hk4
  have hpl1 : ∀ S' : StoreL, S'.seats = 4 → inL S' (k : Int) 1 = S'.pl k 1 ∧ inL S' (k : Int) 2 = S'.pl k 2 := fun S' hs => by
    unfold inL
    rw [show canS (k : Int) 1 = k by unfold canS; rw [if_neg (by decide)], show canS (k : Int) 2 = k by unfold canS; rw [if_neg (by decide)], if_pos (by rw [hs]; exact okI_nat.2 (okK_lib hk4)), if_pos (by rw [hs]; exact okI_nat.2 (okK_hand hk4))]
    exact ⟨rfl, rfl⟩
  have hL : (boardL l 0).S.pl k 1 = L := by rw [← HLL.out]; exact (hpl1 _ HM.out.seats).1.symm
  have hH : (boardL l 0).S.pl k 2 = H := by rw [← HHH.out]; exact (hpl1 _ HM.out.seats).2.symm
  have hL40 : L.length ≤ 40 := by
    rw [← hL]
    exact lib_short HM.out.wf HL40.out (okK_lib hks)
  obtain ⟨c, hc⟩ : ∃ c, drawnN (boardL l 0).S k n = c := ⟨_, rfl⟩
  have hc2 : c = min (askN n) L.length := by rw [← hc]; unfold drawnN; rw [hL]
  have HMM := Lib.hid (show min (max n 0) (L.length : Int) = (c : Int) from by unfold askN at hc2; omega)
  have hcl : c ≤ L.length := by omega
  have hdw := drawS_wf HM.out.wf (k := k) (by rw [HM.out.seats]; exact hk4) c (by rw [show (madeF l).pl k 1 = L from hL]; exact hcl)
  have HDW := Lib.hid (show (drawS (madeF l) k c).seats = 4 ∧ inL (drawS (madeF l) k c) (k : Int) 1 = L.drop c ∧ inL (drawS (madeF l) k c) (k : Int) 2 = (L.take c).reverse ++ H from by
    have e := hpl1 (drawS (madeF l) k c) (hdw.seats.trans HM.out.seats)
    refine ⟨hdw.seats.trans HM.out.seats, ?_, ?_⟩
    · rw [e.1, hdw.lib]; exact congrArg _ hL
    · rw [e.2, hdw.hand, show (madeF l).pl k 1 = L from hL, show (madeF l).pl k 2 = H from hH])
  obtain ⟨z, hz⟩ : ∃ z, decide ((L.length : Int) < n) = z := ⟨_, rfl⟩
  have hdr := draw_any HBD3.out k hks n
  unfold drawB at hdr
  rw [hc] at hdr
  have hdz : (if ((boardL l 0).S.pl k 1).length < askN n then (boardL l 0).D.put (k : Int) else (boardL l 0).D).get k = z := by
    rw [hL, ← hz]
    have hg : ((dry0.put (k : Int)).get k = true) ∧ dry0.get k = false := by
      rcases (show k = 0 ∨ k = 1 ∨ k = 2 ∨ k = 3 by omega) with rfl | rfl | rfl | rfl <;> exact ⟨by decide, by decide⟩
    by_cases h : (L.length : Int) < n
    · rw [if_pos (by unfold askN; omega), decide_eq_true h]; exact hg.1
    · rw [if_neg (by unfold askN; omega), decide_eq_false h]; exact hg.2
  obtain ⟨D4, hD4⟩ : ∃ D4, (if ((boardL l 0).S.pl k 1).length < askN n then (boardL l 0).D.put (k : Int) else (boardL l 0).D) = D4 := ⟨_, rfl⟩
  rw [hD4] at hdr hdz
  have HDR := Lib.hid hdr
  have HDZ := Lib.hid hdz
  have HCL := Lib.hid hcl
  clear hdr hdz hD4 hdw hc hc2 hL hH hpl1 hk
  go_wp2_with fail
  refine HDR.out.mono ?_
  rintro e w4 ⟨rfl, g4, hb4, ht4, hq4⟩
  have HB4 := Lib.hid hb4
  have HT4 := Lib.hid ht4
  have HB4W := Lib.hid (ht4.below HB3W.out HOL.out)
  have HOL4 := Lib.hid (own_turn HOL3.out ht4 HOW.out)
  have HOH4 := Lib.hid (own_turn HOH3.out ht4 HOW.out)
  have hdy : Calls Try.prog 8 #[.pointer (some ⟨g.q, 0, none⟩), .int .i64 k] w4 (Same w4 (.bool z)) := by
    have := dry_any hb4 (k : Int)
    rw [hq4] at this
    rwa [show dryT ⟨drawS (boardL l 0).S k c, (boardL l 0).T, D4⟩ (k : Int) = z from by
      unfold dryT
      rw [show hasT ⟨drawS (boardL l 0).S k c, (boardL l 0).T, D4⟩ (k : Int) = true from decide_eq_true ⟨by omega, by show (k : Int) < (drawS (madeF l) k c).seats; rw [HDW.out.1]; omega⟩, Bool.true_and]
      exact HDZ.out] at this
  have HDY := Lib.hid (fun (w' : World) (hb : Below w4.heap.size w4 w') => (show Calls Try.prog 8 #[.pointer (some ⟨g.q, 0, none⟩), .int .i64 k] w' (Same w' (.bool z)) from by
    have := dry_any (hb4.later hb) (k : Int)
    rw [hq4] at this
    rwa [show dryT ⟨drawS (boardL l 0).S k c, (boardL l 0).T, D4⟩ (k : Int) = z from by
      unfold dryT
      rw [show hasT ⟨drawS (boardL l 0).S k c, (boardL l 0).T, D4⟩ (k : Int) = true from decide_eq_true ⟨by omega, by show (k : Int) < (drawS (madeF l) k c).seats; rw [HDW.out.1]; omega⟩, Bool.true_and]
      exact HDZ.out] at this))
  have HIN4 := Lib.hid (fun (z : Int) (hz : Wf z) (w' : World) (hb : Below w4.heap.size w4 w') => in_any (hb4.st.later hb) (hb4.wf.short (by have := hb4.len; omega)) ws hz)
  obtain ⟨c4, -⟩ := hb4.cells
  rw [hq4] at c4
  have HI4 := Lib.hid (And.intro (Below.refl w4.heap.size w4) c4)
  have HQ4 := Lib.hid hq4
  have ecc : ((c : Int) != (c : Int)) = false := bne_self_eq_false _
  clear hb4 ht4 hq4 hdy HDR HDZ HBD HBD3 HOL3 HOH3
  dsimp only
  go_upto_region 11 with fail
  rw [HMM.out]
  have hrc := fun W => run_cut xaL L.length xcL c HCL.out W
  have HCU := Lib.hid (ints_cut HOL4.out rfl HCL.out)
  have HIA := Lib.hid (show ∀ w' : World, Below w4.heap.size w4 w' → Calls Try.prog 6 #[.pointer (some ⟨g4.b, 0, none⟩), .int .i64 k, .int .i64 1] w' (RetList w' (L.drop c)) from fun w' hb => by
    have := HIN4.out 1 ⟨by decide, by decide⟩ w' hb
    rwa [show inL (drawS (boardL l 0).S k c) (k : Int) 1 = L.drop c from HDW.out.2.1] at this)
  have HDL := Lib.hid (show (L.drop c).length ≤ 1000 by rw [List.length_drop]; omega)
  obtain ⟨ya, hya⟩ : ∃ ya, cutA xaL xcL c = ya := ⟨_, rfl⟩
  rw [hya] at HCU
  simp only [hya] at hrc
  have HBZ : Hid (∃ wz : World, True) := Lib.hid ⟨w4, trivial⟩
  clear hya HBZ
  go_cut [80] from 55 to 80 (fun s80 wx => s80 = .bool false ∧ Hid (Below w4.heap.size w4 wx))
  case first =>
    cases z
    all_goals
      go_region_held3 (fun w' => Below w4.heap.size w4 w' ∧ w'.cell? ⟨g.q, 0, none⟩ = some (.pointer (some ⟨g4.b, 0, none⟩)))
        (first | assumption | (with_reducible exact HI4.out) | exact keepB1 ((Below.refl _ _).drew) HI4.out | exact keepB1 (by assumption) (by assumption))
        (first
          | (go_at_call 8; refine (HDY.out _ (And.left (by assumption))).mono ?_; rintro e w5 ⟨rfl, rfl⟩)
          | (go_at_call 6; refine (HIA.out _ (And.left (by assumption))).mono ?_; rintro e w5 ⟨v5, rfl, ho5, hb5⟩; obtain ⟨xa5, xc5, rfl⟩ := own_form ho5; rw [List.length_drop] at ho5)
          | (go_at_call 9; refine (ints_same (own_ints (by assumption)) (HCU.out.later (And.left (by assumption))) HDL.out).mono ?_; rintro e w6 hd6; obtain ⟨rfl, hb6⟩ := drew_belowE hd6))
      have HBL := Lib.hid (show Below w4.heap.size w4 w6 from And.left (by assumption))
      go_wp2
      go_meet
      case rel => exact ⟨rfl, HBL⟩
  case rest =>
  obtain ⟨rfl, HBC⟩ := hcut
  have c5 := cell_stays HBC.out c4
  have hH40 : H.length ≤ 40 := by
    rw [← HHH.out]
    unfold inL
    split
    · rename_i ok
      rw [show canS (k : Int) 2 = k by unfold canS; rw [if_neg (by decide)]] at ok ⊢
      exact lib_short HM.out.wf HL40.out (okK_hand hks)
    · simp
  have HIB := Lib.hid (show Calls Try.prog 6 #[.pointer (some ⟨g4.b, 0, none⟩), .int .i64 k, .int .i64 2] wc (RetList wc ((L.take c).reverse ++ H)) from by
    have := HIN4.out 2 ⟨by decide, by decide⟩ wc HBC.out
    rwa [show inL (drawS (boardL l 0).S k c) (k : Int) 2 = (L.take c).reverse ++ H from HDW.out.2.2] at this)
  obtain ⟨N, hN⟩ : ∃ N, (L.take c).reverse ++ H = N := ⟨_, rfl⟩
  rw [hN] at HIB
  obtain ⟨n7, hn7⟩ : ∃ n7, c + H.length = n7 := ⟨_, rfl⟩
  have hNl : N.length = n7 := by rw [← hN, List.length_append, List.length_reverse, List.length_take, ← hn7]; have := HCL.out; omega
  have HN := Lib.hid hN
  have HNL := Lib.hid hNl
  have HN7 := Lib.hid hn7
  clear hN hNl hn7 hrc HIA HCU c4
  go_wp2_with fail
  refine HIB.out.mono ?_
  rintro e w7 ⟨v7, rfl, ho7, hb7⟩
  obtain ⟨xa7, xc7, rfl⟩ := own_form ho7
  rw [HNL.out] at ho7 ⊢
  have hcn : c ≤ n7 := by have := HN7.out; omega
  have hrc2 : ∀ W, (Instr.slice 26 (.slice xa7 n7 xc7) (some (.int .i64 (c : Int))) none none).run Try.prog W = .ok (.slice (cutA xa7 xc7 c) H.length (xc7 - c)) W := fun W => by
    have := run_cut xa7 n7 xc7 c hcn W
    rwa [show n7 - c = H.length by have := HN7.out; omega] at this
  have hcu2 := ints_cut ho7 HNL.out hcn
  rw [show n7 - c = H.length by have := HN7.out; omega, show N.drop c = H by rw [← HN.out, List.drop_append_of_le_length (by rw [List.length_reverse, List.length_take]; have := HCL.out; omega), List.drop_eq_nil_of_le (by rw [List.length_reverse, List.length_take]; omega), List.nil_append]] at hcu2
  obtain ⟨yb, hyb⟩ : ∃ yb, cutA xa7 xc7 c = yb := ⟨_, rfl⟩
  rw [hyb] at hcu2
  simp only [hyb] at hrc2
  have HBC7 := Lib.hid (stepB HBC.out hb7)
  have HIH := Lib.hid (ints_same hcu2 ((own_ints HOH4.out).later HBC7.out) (by omega))
  have HOB := Lib.hid ho7
  have e1 : ((n7 : Int) != (c : Int) + (H.length : Int)) = false := by rw [← HN7.out]; push_cast; exact bne_self_eq_false _
  clear hyb hcu2 ho7 hb7 HIB
  dsimp only
  go_wp2_with fail
  refine HIH.out.mono ?_
  rintro e w8 hd8
  obtain ⟨rfl, hb8⟩ := drew_belowE hd8
  have HB78 := Lib.hid hb8
  have HB8 := Lib.hid (stepB HBC7.out hb8)
  clear hd8 hb8 e1 hrc2 HIH c5 HIN4 HDY HI4
  go_wp2
  go_loopw [13] (fun d wr => ∃ i : Nat, i ≤ c ∧ d = .int .i64 (i : Int) ∧ Hid (Below w8.heap.size w8 wr)) (fun d _ => c - (intOf d).toNat)
  case atStart => exact ⟨0, Nat.zero_le _, rfl, Lib.hid (Below.refl _ _)⟩
  case round =>
    obtain ⟨i, hi, rfl, HBR⟩ := hrel
    by_cases hlt : i < c
    · have d0 : decide ((i : Int) < c) = true := decide_eq_true (by omega)
      have hiL := (own_ints HOL4.out).later (stepB HB8.out HBR.out)
      have hiN := (own_ints (show w7.ownsRow wc.heap.size 3 1 (.slice xa7 n7 xc7) N.length (intsV N) from by rw [HNL.out]; exact HOB.out)).later (stepB HB78.out HBR.out)
      have hlL : i < L.length := by have := HCL.out; omega
      obtain ⟨j, hj⟩ : ∃ j : Nat, c - 1 - i = j := ⟨_, rfl⟩
      have hji : (c : Int) - 1 - (i : Int) = (j : Int) := by omega
      have hjN : j < N.length := by rw [HNL.out]; omega
      obtain ⟨bL, oL, rfl, _, hcL⟩ := IntsAt.at hiL i hlL
      obtain ⟨bN, oN, rfl, _, hcN⟩ := IntsAt.at (by rw [← HNL.out] at hiN; exact hiN) j hjN
      have hval : N[j] = L[i] := by
        have e2 : j < (L.take c).reverse.length := by rw [List.length_reverse, List.length_take]; have := HCL.out; omega
        have e3 : N[j] = ((L.take c).reverse ++ H)[j]'(by rw [HN.out]; exact hjN) := by simp only [HN.out]
        rw [e3, List.getElem_append_left e2, List.getElem_reverse, List.getElem_take]
        congr 1
        rw [List.length_take]
        have := HCL.out
        omega
      rw [hval] at hcN
      obtain ⟨x, hx⟩ : ∃ x, L[i] = x := ⟨_, rfl⟩
      rw [hx] at hcN hcL
      have ex : ((x : Int) != x) = false := bne_self_eq_false _
      have hj7 : j < n7 := by have := HN7.out; omega
      clear hval hx hiL hiN hjN hj
      go_upto_region 19 with fail
      go_region
      have HBX := Lib.hid (stepB HBR.out (Below.refl wr.heap.size wr).drew)
      clear hcN hcL
      go_wp2
      go_roundw
      case rel => exact ⟨i + 1, by omega, by go_num, HBX⟩
      case measure => simp [intOf]; omega
    · obtain rfl : i = c := by omega
      have d0 : decide ((i : Int) < i) = false := decide_eq_false (by omega)
      have HBZ := Lib.hid (stepB HB8.out HBR.out)
      have HBE := Lib.hid (HB4.out.later HBZ.out)
      have hwt := wet_any HBE.out
      rw [HQ4.out] at hwt
      have HWT := Lib.hid hwt
      have HBR4 := Lib.hid (stepB HB4W.out HBZ.out)
      have HOL9 := Lib.hid (show ∀ k, g4.own k → w.heap.size ≤ k from fun k hk => by
        by_cases hk2 : k < w3.heap.size
        · exact HOL.out k (HT4.out.own k hk2 hk)
        · have := HB3W.out.size; omega)
      clear hwt
      go_wp2_with fail
      refine HWT.out.mono ?_
      rintro e w9 ⟨rfl, g9, hb9, ht9, hq9⟩
      have hdy := dry_any hb9 (k : Int)
      rw [hq9, HQ4.out, show dryT ⟨drawS (boardL l 0).S k i, (boardL l 0).T, dry0⟩ (k : Int) = false from by
        unfold dryT
        rw [show dry0.get (k : Int) = false from by rcases (show k = 0 ∨ k = 1 ∨ k = 2 ∨ k = 3 by omega) with rfl | rfl | rfl | rfl <;> decide, Bool.and_false]] at hdy
      have HDY := Lib.hid hdy
      have HB9 := Lib.hid (ht9.below HBR4.out HOL9.out)
      clear hdy hb9 ht9 hq9
      dsimp only
      go_wp2_with fail
      refine HDY.out.mono ?_
      rintro e w10 ⟨rfl, rfl⟩
      go_wp2
      go_ret
      exact ⟨rfl, HB9.out⟩
end Go.Proofs.Ytlfffeinngkjgaa
