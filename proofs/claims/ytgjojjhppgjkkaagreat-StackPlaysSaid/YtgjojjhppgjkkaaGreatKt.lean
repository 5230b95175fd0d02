/- The law StackPlays, walked (layer 12). -/
import Derived.Test.YtgjojjhppgjkkaaGreatKs
import Derived.Deep.Cut
import Derived.Deep.DeepCutAuto
namespace Go.Proofs.YtgjojjhppgjkkaaGreat
open Go.RowKit Go.Maps
attribute [local go_sem] Oper.semAt_some

/-- What a call makes of the list. -/
def stepK (L : List EntL) (c : OpK) : List EntL := if c.k = 0 then (if L.length < 8 then L ++ [c.x] else L) else if c.k = 1 then L.dropLast else L
theorem stepK_len {L : List EntL} (h : L.length ≤ 8) (c : OpK) : (stepK L c).length ≤ 8 := by
  unfold stepK
  split
  · split
    · simp; omega
    · exact h
  · split
    · rw [List.length_dropLast]; omega
    · exact h
set_option maxRecDepth 100000 in
set_option maxHeartbeats 32000000 in
theorem stackPlays_walk {v0 : Value} {l : List OpK} {w : World} (hv : OpsAtK w v0 l) (hlen : l.length ≤ 9223372036854775807) :
    Calls Tryz.prog 4 #[v0] w (RetV w (.bool true)) := by
  have hb0 := below_new w (.cells #[.bool false] 4)
  have h2 := heap_alloc_new w (.cells #[.bool false] 4)
  have HSZ := Lib.hid (show (w.alloc (.cells #[.bool false] 4)).heap.size = w.heap.size + 1 from World.size_alloc _ _)
  obtain ⟨W0, hW0⟩ : ∃ W0, w.alloc (.cells #[.bool false] 4) = W0 := ⟨_, rfl⟩
  obtain ⟨q2, hq2⟩ : ∃ q2, w.heap.size = q2 := ⟨_, rfl⟩
  rw [hW0] at hb0 h2 HSZ
  rw [hq2] at h2
  have HW0 := Lib.hid hW0
  have HQ2 := Lib.hid hq2
  have HB0 := Lib.hid hb0
  have HR := Lib.hid h2
  have HV := Lib.hid hv
  obtain ⟨xa, xc, rfl⟩ := hv.form
  clear hb0 h2 hW0 hq2
  clear hv
  refine (callsIn_wide (n := 9)).1 ?_
  refine callsIn_of_wp_marks Tryz.func4 rfl trivial ?_ rfl
  simp only [Tryz.ntmps4, List.size_toArray, List.length_cons, List.length_nil, Nat.reduceAdd, Nat.reduceSub, Array.replicate_succ, Array.replicate_zero, List.push_toArray, List.append_toArray, List.nil_append, List.cons_append]
  refine wpIn_wide.2 ?_
  go_wp2_with fail
  rw [HW0.out]
  simp only [HQ2.out]
  refine (awake12_any W0).mono ?_
  rintro e w1 ⟨rfl, hb1⟩
  have HB1 := Lib.hid hb1
  have hrow1 := (hb1.block q2 (Crd.lt_of_row HR.out)).trans HR.out
  have HRW1 := Lib.hid hrow1
  by_cases h100 : 100 < l.length
  · have d0 : decide ((100 : Int) < l.length) = true := decide_eq_true (by omega)
    have m2 : w1.cell? ⟨q2, 0, none⟩ = some (.bool false) := cell_of_row w1 _ 0 _ _ _ hrow1
    have f2 := fun j => frozen_of_row w1 q2 j _ _ hrow1
    have hset : (w1.setCell ⟨q2, 0, none⟩ (.bool true)).heap[q2]? = some (.cells #[.bool true] 4 (0, 0)) := by
      rw [heap_setCell_same _ q2 0 (#[.bool false]) 4 (.bool true) hrow1]
      rfl
    have HSET := Lib.hid hset
    have HBW := Lib.hid ((stepB HB0.out HB1.out).setCell (p := ⟨q2, 0, none⟩) (show w.heap.size ≤ q2 by have := HQ2.out; omega) (.bool true))
    clear hset hb1 hrow1
    go_wp2
    exact ⟨_, plays_results rfl HSET.out, rfl, HBW.out⟩
  have d100 : decide ((100 : Int) < l.length) = false := decide_eq_false (by omega)
  have hl100 : l.length ≤ 100 := by omega
  have HNW := Lib.hid (new_stk (w := w1) (v := .slice none 0 0) (l := []) (.inl ⟨none, 0, rfl, rfl⟩) (by simp))
  clear h100 hb1 hrow1
  go_wp2_with fail
  refine HNW.out.mono ?_
  rintro e w2 ⟨b, gk, rfl, hs2, hb2⟩
  have hb3 := below_new w2 (.cells #[.slice none 0 0] 57)
  have h4 := heap_alloc_new w2 (.cells #[.slice none 0 0] 57)
  have hbw3 : Below w.heap.size w (w2.alloc (.cells #[.slice none 0 0] 57)) := stepB (stepB HB0.out (stepB HB1.out hb2)) hb3
  have hq2l : q2 < w1.heap.size := Crd.lt_of_row HRW1.out
  have hI0 : PlI w q2 w2.heap.size b w1.heap.size [] (w2.alloc (.cells #[.slice none 0 0] 57)) gk (.slice none 0 0) [] [] :=
    ⟨((stepB hb2 hb3).block q2 hq2l).trans HRW1.out, hs2.later hb3, h4, World.ownsRow_nil _ _ _ _, fun h => by have := hs2.ownLo h; omega, fun h => by have := hs2.ownLt h; omega, fun k hk => by simp [Value.ownBlock] at hk,
      by have := hb2.size; omega, (stepB HB0.out HB1.out).size, by have := HQ2.out; omega, hbw3, ⟨[], rfl, List.nodup_nil, (fun D h => by cases h), (fun D h => by cases h)⟩⟩
  obtain ⟨w3, hw3⟩ : ∃ w3, w2.alloc (.cells #[.slice none 0 0] 57) = w3 := ⟨_, rfl⟩
  obtain ⟨q4, hq4⟩ : ∃ q4, w2.heap.size = q4 := ⟨_, rfl⟩
  obtain ⟨lo, hlo⟩ : ∃ lo, w1.heap.size = lo := ⟨_, rfl⟩
  rw [hw3, hq4, hlo] at hI0
  have HW3 := Lib.hid hw3
  have HQ4 := Lib.hid hq4
  have HI0 := Lib.hid hI0
  clear hs2 hb2 hb3 h4 hbw3 hq2l hI0 hw3 hq4 hlo HNW
  dsimp only
  go_upto_region 7 with fail
  rw [HW3.out]
  simp only [HQ4.out]
  go_wp2
  refine wp_loop (fun a W => a.tmps.size = 167 ∧ a.tmps.getD 2 undef = .pointer (some ⟨q2, 0, none⟩) ∧ a.tmps.getD 3 undef = .pointer (some ⟨b, 0, none⟩) ∧ a.tmps.getD 4 undef = .pointer (some ⟨q4, 0, none⟩) ∧ a.tmps.getD 20 undef = .slice xa l.length xc ∧ a.tmps.getD 21 undef = .int .i64 l.length ∧
      ∃ (k : Nat) (gk' : Option Nat) (v : Value) (L : List EntL), k ≤ l.length ∧ a.tmps.getD 22 undef = .int .i64 k ∧ Hid (L.length ≤ 8) ∧ Hid (PlI w q2 q4 b lo a.defers W gk' v L L))
    (fun a _ => l.length - (intOf (a.tmps.getD 22 undef)).toNat) ?start ?round
  case start => exact ⟨rfl, rfl, rfl, rfl, rfl, rfl, 0, gk, _, [], Nat.zero_le _, rfl, Lib.hid (by simp), HI0⟩
  case round =>
    clear HI0
    rintro ⟨t, df⟩ wr ⟨hsz, h2, h3, h4, h20, h21, k, gk, v, L, hk, h22, HL8, HI⟩
    dsimp only at hsz h2 h3 h4 h20 h21 h22 HI
    rw [arr167 t hsz]
    simp only [h2, h3, h4, h20, h21, h22]
    clear hsz h2 h3 h4 h20 h21 h22
    obtain ⟨fr, hfr⟩ : ∃ fr : Nat → Value, fr = fun i => t.getD i undef := ⟨_, rfl⟩
    have hfr2 : ∀ i, t.getD i undef = fr i := fun i => by rw [hfr]
    simp only [hfr2]
    clear hfr hfr2
    by_cases hlt : k < l.length
    case neg =>
      obtain rfl : k = l.length := by omega
      have m2 : wr.cell? ⟨q2, 0, none⟩ = some (.bool false) := cell_of_row wr _ 0 _ _ _ HI.out.res
      have f2 := fun j => frozen_of_row wr q2 j _ _ HI.out.res
      have hset : (wr.setCell ⟨q2, 0, none⟩ (.bool true)).heap[q2]? = some (.cells #[.bool true] 4 (0, 0)) := by
        rw [heap_setCell_same _ q2 0 (#[.bool false]) 4 (.bool true) HI.out.res]
        rfl
      have HSET := Lib.hid hset
      have HBW := Lib.hid (HI.out.bw.setCell (p := ⟨q2, 0, none⟩) HI.out.lw (.bool true))
      have HMK := Lib.hid (HI.out.mks.keep (KeepsNC.cell (j := 0) HI.out.res (.bool true)))
      clear hset
      go_wp2
      exact HMK.out.leave HBW.out HSET.out (fun W' h => plays_results rfl h)
    have d0 : decide ((k : Int) < l.length) = true := decide_eq_true (by omega)
    obtain ⟨ob, oo, rfl, c0, c1, c2, c3, c4⟩ := (HV.out.later HI.out.bw).at k hlt
    obtain ⟨o, ho⟩ : ∃ o, l[k] = o := ⟨_, rfl⟩
    rw [ho] at c0 c1 c2 c3 c4
    obtain ⟨ok, ⟨x0, x1, x2, x3⟩⟩ := o
    dsimp only at c0 c1 c2 c3 c4
    have c2 : wr.cell? ⟨ob, oo + k * 5 + 2, none⟩ = some (.int .i64 x1) := c2
    have c3 : wr.cell? ⟨ob, oo + k * 5 + 3, none⟩ = some (.int .i64 x2) := c3
    have c4 : wr.cell? ⟨ob, oo + k * 5 + 4, none⟩ = some (.bool x3) := c4
    have p0 : (0 : Int) ≤ k := by omega
    have p1 : (k : Int) < l.length := by omega
    have hbn := below_new wr (.cells #[.int .i64 ok, .int .i64 x0, .int .i64 x1, .int .i64 x2, .bool x3] 61)
    have h6 := heap_alloc_new wr (.cells #[.int .i64 ok, .int .i64 x0, .int .i64 x1, .int .i64 x2, .bool x3] 61)
    have hI6 := HI.out.later hbn
    have hq6 : ¬ownK b gk wr.heap.size := fun h => by have := HI.out.st.ownLt h; omega
    have hq64 : q4 < wr.heap.size := Crd.lt_of_row HI.out.bx
    have hv6 : v.ownBlock ≠ some wr.heap.size := fun e => by have := World.ownsRow.lt HI.out.ow _ e; omega
    obtain ⟨W6, hW6⟩ : ∃ W6, wr.alloc (.cells #[.int .i64 ok, .int .i64 x0, .int .i64 x1, .int .i64 x2, .bool x3] 61) = W6 := ⟨_, rfl⟩
    obtain ⟨q6, hqq⟩ : ∃ q6, wr.heap.size = q6 := ⟨_, rfl⟩
    rw [hW6] at h6 hI6
    rw [hqq] at h6 hq6 hq64 hv6
    have HW6 := Lib.hid hW6
    have HQ6 := Lib.hid hqq
    have HR6 := Lib.hid h6
    have HI6 := Lib.hid hI6
    have HN6 := Lib.hid (And.intro hq6 (And.intro hq64 hv6))
    clear ho hbn h6 hI6 hq6 hq64 hv6 hW6 hqq
    go_upto_region 10 with fail
    rw [HW6.out]
    simp only [HQ6.out]
    clear c0 c1 c2 c3 c4
    have k0 := cell_of_row W6 q6 0 _ _ _ HR6.out
    have k1 := cell_of_row W6 q6 1 _ _ _ HR6.out
    have k2 := cell_of_row W6 q6 2 _ _ _ HR6.out
    have k3 := cell_of_row W6 q6 3 _ _ _ HR6.out
    have k4 := cell_of_row W6 q6 4 _ _ _ HR6.out
    go_upto_block 2 with fail
    go_cut [7, 8, 9] from 28 to 94 (fun _ _ _ wx => ∃ gk' v', Hid (PlI w q2 q4 b lo df wx gk' v' (stepK L ⟨ok, ⟨x0, x1, x2, x3⟩⟩) (stepK L ⟨ok, ⟨x0, x1, x2, x3⟩⟩)))
    case first =>
      have z4 := cell_of_row W6 q4 0 _ _ _ HI6.out.bx
      have f4 := fun j => frozen_of_row W6 q4 j _ _ HI6.out.bx
      rw [show #[v][0]? = some v from rfl] at z4
      have hlv := HI6.out.ow
      obtain ⟨ya, yc, rfl⟩ := own_form hlv
      clear hlv
      by_cases e0 : ok = 0
      · subst e0
        by_cases h8 : L.length < 8
        · have HSTEP := Lib.hid (show stepK L ⟨0, ⟨x0, x1, x2, x3⟩⟩ = L ++ [⟨x0, x1, x2, x3⟩] by simp [stepK, h8])
          have d8 : decide ((L.length : Int) < 8) = true := decide_eq_true (by omega)
          have HP := Lib.hid (push_ok ⟨x0, x1, x2, x3⟩ HI6.out.st h8)
          unfold entV at HP
          dsimp only at HP
          go_wp2_with fail
          refine HP.out.mono ?_
          rintro e w7 ⟨gk7, rfl, hs7, hc7, hn7⟩
          have ht7 := chg_o hc7 hn7
          have hI7 := HI6.out.stk hs7 hc7 hn7
          have hr7 := (ht7.block q6 (Crd.lt_of_row HR6.out) HN6.out.1).trans HR6.out
          have HI7 := Lib.hid hI7
          have z7 := cell_of_row w7 q4 0 _ _ _ hI7.bx
          rw [show #[Value.slice ya L.length yc][0]? = some (.slice ya L.length yc) from rfl] at z7
          have j1 := cell_of_row w7 q6 1 _ _ _ hr7
          have j2 := cell_of_row w7 q6 2 _ _ _ hr7
          have j3 := cell_of_row w7 q6 3 _ _ _ hr7
          have j4 := cell_of_row w7 q6 4 _ _ _ hr7
          have hq47 : q4 < w7.heap.size := Crd.lt_of_row hI7.bx
          have HB8 := Lib.hid (below_new w7 (.cells #[.int .i64 x0, .int .i64 x1, .int .i64 x2, .bool x3] 59))
          clear ht7 hs7 hc7 hn7 hI7 hr7 z4 f4 k0 k1 k2 k3 k4
          go_wp2_with (at_builtin; refine wpList_push_ent rfl _ _ rfl (q4 + 1) (.slice ya L.length yc) L ⟨x0, x1, x2, x3⟩ rfl w7.heap.size (HI7.out.later HB8.out).ow rfl (heap_alloc_new w7 _) (by omega) (by simp; omega) ?f)
          case f =>
            intro g cap w8 hown hgrow hat hlt8
            have hI8 := HI7.out.later HB8.out
            have hne : (Value.slice ya L.length yc).ownBlock ≠ some q4 := fun e => by have := (World.ownsRow.lt hI8.ow _ e).1; omega
            have hbx8 := (hgrow.block q4 (Crd.lt_of_row hI8.bx) (fun e => hne e.symm)).trans hI8.bx
            have y4 := cell_of_row w8 q4 0 _ _ _ hbx8
            rw [show #[Value.slice ya L.length yc][0]? = some (.slice ya L.length yc) from rfl] at y4
            have f8 := fun j => frozen_of_row w8 q4 j _ _ hbx8
            have HI9 := Lib.hid (hI8.lst (v' := .slice (some ⟨g, 0, none⟩) (L.length + 1) cap) (Ll' := L ++ [⟨x0, x1, x2, x3⟩]) hgrow (by simpa using hown) (fun k hk => by
              have e : g = k := by simpa [Value.ownBlock] using hk
              subst e
              rcases hat with h | h
              · exact .inl h
              · exact .inr (by rw [World.size_alloc]; omega)))
            clear hown hgrow hat hlt8 hI8 hne hbx8 z7 j1 j2 j3 j4
            go_wp2
            go_meet
            case rel => exact ⟨gk7, _, Lib.hid (by rw [HSTEP.out]; exact HI9.out)⟩
        · have HSTEP := Lib.hid (show stepK L ⟨0, ⟨x0, x1, x2, x3⟩⟩ = L by simp [stepK, h8])
          have d8 : decide ((L.length : Int) < 8) = false := decide_eq_false (by omega)
          have HP := Lib.hid (push_full ⟨x0, x1, x2, x3⟩ HI6.out.st (by have := HL8.out; omega))
          unfold entV at HP
          dsimp only at HP
          go_wp2_with fail
          refine HP.out.mono ?_
          rintro e w7 ⟨rfl, hb7⟩
          have HI7 := Lib.hid (HI6.out.later hb7)
          have z7 := cell_of_row w7 q4 0 _ _ _ HI7.out.bx
          rw [show #[Value.slice ya L.length yc][0]? = some (.slice ya L.length yc) from rfl] at z7
          clear hb7 z4 f4 k0 k1 k2 k3 k4
          go_wp2
          go_meet
          case rel => exact ⟨gk, _, Lib.hid (by rw [HSTEP.out]; exact HI7.out)⟩
      · have e00 : (ok == 0) = false := beq_eq_false_iff_ne.2 e0
        by_cases e1 : ok = 1
        · subst e1
          have HSTEP := Lib.hid (show stepK L ⟨1, ⟨x0, x1, x2, x3⟩⟩ = L.dropLast by simp [stepK])
          rcases List.eq_nil_or_concat L with rfl | ⟨M, y, hLM⟩
          · have HP := Lib.hid (pop_empty HI6.out.st)
            unfold entV zeroE at HP
            dsimp only at HP
            have hE : ((0 : Int) == 0 && ((0 : Int) == 0 && ((0 : Int) == 0 && (false == false)))) = true := by decide
            have h3 := fun W => neqEnt 0 0 0 0 0 0 false false W
            rw [hE] at h3
            have h2 := @neqgE
            clear hE
            go_wp2_with fail
            refine HP.out.mono ?_
            rintro e w7 ⟨rfl, hb7⟩
            have hb8 := stepB hb7 (below_new w7 (.cells #[.int .i64 0, .int .i64 0, .int .i64 0, .bool false] 59))
            have h8 := heap_alloc_new w7 (.cells #[.int .i64 0, .int .i64 0, .int .i64 0, .bool false] 59)
            obtain ⟨W8, hW8⟩ : ∃ W8, w7.alloc (.cells #[.int .i64 0, .int .i64 0, .int .i64 0, .bool false] 59) = W8 := ⟨_, rfl⟩
            obtain ⟨q8, hq8⟩ : ∃ q8, w7.heap.size = q8 := ⟨_, rfl⟩
            rw [hW8] at h8 hb8
            rw [hq8] at h8
            have HW8 := Lib.hid hW8
            have HQ8 := Lib.hid hq8
            have HI8 := Lib.hid (HI6.out.later hb8)
            have z8 := cell_of_row W8 q4 0 _ _ _ HI8.out.bx
            rw [show #[Value.slice ya ([] : List EntL).length yc][0]? = some (.slice ya ([] : List EntL).length yc) from rfl] at z8
            have r0 := cell_of_row W8 q8 0 _ _ _ h8
            have r1 := cell_of_row W8 q8 1 _ _ _ h8
            have r2 := cell_of_row W8 q8 2 _ _ _ h8
            have r3 := cell_of_row W8 q8 3 _ _ _ h8
            clear hb7 hb8 h8 hW8 hq8 z4 f4 k0 k1 k2 k3 k4
            dsimp only
            go_upto_region 19 with fail
            rw [HW8.out]
            simp only [HQ8.out]
            go_quiet (fail)
            have HI9 := Lib.hid (HI8.out.later (below_drewN (Below.refl _ _) nq))
            go_wp2
            go_meet
            case rel => exact ⟨gk, _, Lib.hid (by rw [HSTEP.out]; exact HI9.out)⟩
          · rw [List.concat_eq_append] at hLM
            subst hLM
            have hML : M.length + 1 ≤ 8 := by have := HL8.out; simpa using this
            have HP := Lib.hid (pop_ok y HI6.out.st (by omega))
            have HDL := Lib.hid (show (M ++ [y]).dropLast = M from List.dropLast_concat)
            obtain ⟨y0, y1, y2, y3⟩ := y
            unfold entV at HP
            dsimp only at HP
            have hE : (y0 == y0 && (y1 == y1 && (y2 == y2 && (y3 == y3)))) = true := by simp
            have h3 := fun W => neqEnt y0 y0 y1 y1 y2 y2 y3 y3 W
            rw [hE] at h3
            have h2 := @neqgE
            clear hE
            rw [List.length_append, List.length_singleton] at z4
            obtain ⟨n, hn⟩ : ∃ n, M.length = n := ⟨_, rfl⟩
            have HN := Lib.hid hn
            rw [hn] at z4 hML
            clear hn z4 f4 k0 k1 k2 k3 k4
            go_wp2_with fail
            refine HP.out.mono ?_
            rintro e w7 ⟨gk7, rfl, hs7, hc7, hn7⟩
            have hb8 := below_new w7 (.cells #[.int .i64 y0, .int .i64 y1, .int .i64 y2, .bool y3] 59)
            have hI8 := (HI6.out.stk hs7 hc7 hn7).later hb8
            have h8 := heap_alloc_new w7 (.cells #[.int .i64 y0, .int .i64 y1, .int .i64 y2, .bool y3] 59)
            obtain ⟨W8, hW8⟩ : ∃ W8, w7.alloc (.cells #[.int .i64 y0, .int .i64 y1, .int .i64 y2, .bool y3] 59) = W8 := ⟨_, rfl⟩
            obtain ⟨q8, hq8⟩ : ∃ q8, w7.heap.size = q8 := ⟨_, rfl⟩
            rw [hW8] at h8 hI8
            rw [hq8] at h8
            have HW8 := Lib.hid hW8
            have HQ8 := Lib.hid hq8
            have HI8 := Lib.hid hI8
            have HLN := Lib.hid (show (M ++ [(⟨y0, y1, y2, y3⟩ : EntL)]).length = n + 1 by rw [List.length_append, List.length_singleton, HN.out])
            have z8 : W8.cell? ⟨q4, 0, none⟩ = some (.slice ya (n + 1) yc) := by
              have h := cell_of_row W8 q4 0 _ _ _ hI8.bx
              rw [HLN.out] at h
              exact h
            obtain ⟨gv, cap, hgv, ⟨v0', v1', v2', v3'⟩, -⟩ := own_ent hI8.ow M.length (by simp)
            injection hgv with hya _ hyc
            subst hya hyc
            rw [List.getElem_concat_length (by rfl)] at v0' v1' v2' v3'
            dsimp only at v0' v1' v2' v3'
            rw [HN.out] at v0' v1' v2' v3'
            have hcap : n + 1 ≤ yc := by
              rcases hI8.ow.2 with ⟨e, _⟩ | ⟨g', cap, cur, e, _, _, hnc, _⟩
              · cases e
              · injection e with _ e2 e3
                subst e3
                have : (M ++ [(⟨y0, y1, y2, y3⟩ : EntL)]).length ≤ yc := hnc
                rw [List.length_append, List.length_singleton, HN.out] at this
                exact this
            have r0 := cell_of_row W8 q8 0 _ _ _ h8
            have r1 := cell_of_row W8 q8 1 _ _ _ h8
            have r2 := cell_of_row W8 q8 2 _ _ _ h8
            have r3 := cell_of_row W8 q8 3 _ _ _ h8
            have hi1 : ((n + 1 : Nat) : Int) - 1 = (n : Int) := by omega
            have hi2 : (n : Int) + 1 - 1 = (n : Int) := by omega
            clear hb8 h8 hW8 hq8 hs7 hc7 hn7 hI8
            dsimp only
            go_upto_region 19 with fail
            rw [HW8.out]
            simp only [HQ8.out]
            go_quiet (fail)
            have hb9 : Below W8.heap.size W8 (W8.drewN nq) := below_drewN (Below.refl _ _) nq
            obtain ⟨w9, hw9⟩ : ∃ w9, W8.drewN nq = w9 := ⟨_, rfl⟩
            rw [hw9] at hb9 ⊢
            have hI9 := HI8.out.later hb9
            have HI9 := Lib.hid hI9
            have z9 : w9.cell? ⟨q4, 0, none⟩ = some (.slice (some ⟨gv, 0, none⟩) (n + 1) yc) := cell_stays hb9 z8
            have f9 := fun j => frozen_of_row w9 q4 j _ _ hI9.bx
            have hown : w9.ownsRow (q4 + 1) 59 4 (.slice (some ⟨gv, 0, none⟩) n yc) M.length (entsV M) := by
              have h := hI9.ow
              rw [List.length_append, List.length_singleton] at h
              rw [← HN.out]
              exact own_lastE h
            have HI10 := Lib.hid (hI9.lst (World.grownBy.refl w9 _) hown (fun k hk => .inl hk))
            clear hw9 hb9 hI9 hown z8 v0' v1' v2' v3' r0 r1 r2 r3 h3 h2
            go_wp2
            go_meet
            case rel => exact ⟨gk7, _, Lib.hid (by rw [HSTEP.out, HDL.out]; exact HI10.out)⟩
        · have e11 : (ok == 1) = false := beq_eq_false_iff_ne.2 e1
          have HSTEP := Lib.hid (show stepK L ⟨ok, ⟨x0, x1, x2, x3⟩⟩ = L by simp [stepK, e0, e1])
          clear e0 e1
          go_wp2
          go_meet
          case rel => exact ⟨gk, _, Lib.hid (by rw [HSTEP.out]; exact HI6.out)⟩
    case rest =>
    obtain ⟨gk1, v1, HI10⟩ := hcut
    obtain ⟨w10, rfl⟩ : ∃ w10, w10 = wc := ⟨_, rfl⟩
    have hl1 := stepK_len HL8.out ⟨ok, ⟨x0, x1, x2, x3⟩⟩
    obtain ⟨L1, hL1⟩ : ∃ L1, stepK L ⟨ok, ⟨x0, x1, x2, x3⟩⟩ = L1 := ⟨_, rfl⟩
    rw [hL1] at HI10 hl1
    have HL1 := Lib.hid hl1
    obtain ⟨ya, yc, rfl⟩ := own_form HI10.out.ow
    have htp := top_stk HI10.out.st (by omega)
    obtain ⟨y, hy⟩ : ∃ y, topE L1 = y := ⟨_, rfl⟩
    obtain ⟨n1, hn1⟩ : ∃ n1, L1.length = n1 := ⟨_, rfl⟩
    have HTY := Lib.hid hy
    have HN1 := Lib.hid hn1
    rw [hy, hn1] at htp
    obtain ⟨y0, y1, y2, y3⟩ := y
    unfold entV at htp
    dsimp only at htp
    have HTP := Lib.hid htp
    rw [hn1] at hl1
    clear hL1 hy htp hn1 HI6 HR6 HN6 HI HL8 k0 k1 k2 k3 k4
    go_wp2_with fail
    refine HTP.out.mono ?_
    rintro e w11 ⟨rfl, hb11⟩
    have hb12 := stepB hb11 (below_new w11 (.cells #[.int .i64 y0, .int .i64 y1, .int .i64 y2, .bool y3] 59))
    have h10 := heap_alloc_new w11 (.cells #[.int .i64 y0, .int .i64 y1, .int .i64 y2, .bool y3] 59)
    obtain ⟨W11, hW11⟩ : ∃ W11, w11.alloc (.cells #[.int .i64 y0, .int .i64 y1, .int .i64 y2, .bool y3] 59) = W11 := ⟨_, rfl⟩
    obtain ⟨q10, hq10⟩ : ∃ q10, w11.heap.size = q10 := ⟨_, rfl⟩
    rw [hW11] at hb12 h10
    rw [hq10] at h10
    have HW11 := Lib.hid hW11
    have HQ10 := Lib.hid hq10
    have HR10 := Lib.hid h10
    have HI11 := Lib.hid (HI10.out.later hb12)
    clear hb11 hb12 h10 hW11 hq10 HI10 HTP
    go_upto_region 24 with fail
    rw [HW11.out]
    simp only [HQ10.out]
    go_cut [132] from 100 to 132 (fun s132 wx => s132 = .bool false ∧ Hid (Below W11.heap.size W11 wx))
    case first =>
      have z4 : W11.cell? ⟨q4, 0, none⟩ = some (.slice ya n1 yc) := by
        have h := cell_of_row W11 q4 0 _ _ _ HI11.out.bx
        rw [HN1.out] at h
        exact h
      have hlnk := len_stk (HI11.out.st.later ((Below.refl W11.heap.size W11).drew))
      have hrmk := room_stk (HI11.out.st.later ((Below.refl W11.heap.size W11).drew)) (by have := HL1.out; omega)
      rw [HN1.out] at hlnk hrmk
      have HQL := Lib.hid hlnk
      have HQR := Lib.hid hrmk
      clear hlnk hrmk
      have f1 : ((n1 : Int) != (n1 : Int)) = false := bne_self_eq_false _
      have f2 : ((8 - (n1 : Int)) != (8 - (n1 : Int))) = false := bne_self_eq_false _
      by_cases h0 : 0 < n1
      · have d1 : decide (0 < n1) = true := decide_eq_true h0
        have d2 : decide ((0 : Int) < n1) = true := decide_eq_true (by omega)
        have hE : (y0 == y0 && (y1 == y1 && (y2 == y2 && (y3 == y3)))) = true := by simp
        have h3 := fun W => neqEnt y0 y0 y1 y1 y2 y2 y3 y3 W
        rw [hE] at h3
        have h2 := @neqgE
        have hlast : ∃ gv, ya = some ⟨gv, 0, none⟩ ∧ EntCells W11 gv ((n1 - 1) * 4) ⟨y0, y1, y2, y3⟩ := by
          obtain ⟨gv, cap, e, hc, -⟩ := own_ent HI11.out.ow (n1 - 1) (by rw [HN1.out]; omega)
          injection e with e _ _
          refine ⟨gv, e, ?_⟩
          have hx : L1[n1 - 1]'(by rw [HN1.out]; omega) = ⟨y0, y1, y2, y3⟩ := by
            have hne : L1 ≠ [] := fun e => by have h := HN1.out; rw [e] at h; simp at h; omega
            have hs : L1.getLast? = some (L1.getLast hne) := List.getLast?_eq_some_getLast hne
            have hty := HTY.out
            unfold topE at hty
            rw [hs] at hty
            have hg := List.getLast_eq_getElem hne
            rw [Option.getD_some, hg] at hty
            rw [← hty]
            congr 1
            have h := HN1.out
            omega
          rw [hx] at hc
          exact hc
        obtain ⟨gv, rfl, v0', v1', v2', v3'⟩ := hlast
        dsimp only at v0' v1' v2' v3'
        obtain ⟨n, rfl⟩ : ∃ n, n1 = n + 1 := ⟨n1 - 1, by omega⟩
        simp only [Nat.add_sub_cancel] at v0' v1' v2' v3'
        have r0 := cell_of_row W11 q10 0 _ _ _ HR10.out
        have r1 := cell_of_row W11 q10 1 _ _ _ HR10.out
        have r2 := cell_of_row W11 q10 2 _ _ _ HR10.out
        have r3 := cell_of_row W11 q10 3 _ _ _ HR10.out
        have hi1 : ((n + 1 : Nat) : Int) - 1 = (n : Int) := by omega
        have hi2 : (n : Int) + 1 - 1 = (n : Int) := by omega
        clear hE h0
        have b0n : (0 : Int) ≤ (n : Int) := by omega
        have b1n : (n : Int) < (n : Int) + 1 := by omega
        have hwr9 : IntKind.i64.wrap (n : Int) = (n : Int) := IntWalk.i64_in _ (by omega)
        have hwr8 : IntKind.i64.wrap (8 - ((n : Int) + 1)) = 8 - ((n : Int) + 1) := IntWalk.i64_in _ (by omega)
        have HS24 := Lib.hid (show W11.drew.cell? ⟨q4, 0, none⟩ = some (.slice (some ⟨gv, 0, none⟩) (n + 1) yc) ∧ W11.drew.cell? ⟨q10, 0, none⟩ = some (.int .i64 y0) ∧ W11.drew.cell? ⟨q10, 1, none⟩ = some (.int .i64 y1) ∧ W11.drew.cell? ⟨q10, 2, none⟩ = some (.int .i64 y2) ∧ W11.drew.cell? ⟨q10, 3, none⟩ = some (.bool y3) ∧ W11.drew.cell? ⟨gv, n * 4, none⟩ = some (.int .i64 y0) ∧ W11.drew.cell? ⟨gv, n * 4 + 1, none⟩ = some (.int .i64 y1) ∧ W11.drew.cell? ⟨gv, n * 4 + 2, none⟩ = some (.int .i64 y2) ∧ W11.drew.cell? ⟨gv, n * 4 + 3, none⟩ = some (.bool y3) from ⟨z4, r0, r1, r2, r3, v0', v1', v2', v3'⟩)
        refine wp_region_noPanic ?_
        refine (wpIn_wide (n := 9)).1 ?_
        refine wpIn_region_any (by kernel_rfl) ?_
        change wpAnyIn _ _ _ _ _ _ _ _ _ (World.drew _)
        refine anyS.any (S := (fun w' => w'.cell? ⟨q4, 0, none⟩ = some (.slice (some ⟨gv, 0, none⟩) (n + 1) yc) ∧ w'.cell? ⟨q10, 0, none⟩ = some (.int .i64 y0) ∧ w'.cell? ⟨q10, 1, none⟩ = some (.int .i64 y1) ∧ w'.cell? ⟨q10, 2, none⟩ = some (.int .i64 y2) ∧ w'.cell? ⟨q10, 3, none⟩ = some (.bool y3) ∧ w'.cell? ⟨gv, n * 4, none⟩ = some (.int .i64 y0) ∧ w'.cell? ⟨gv, n * 4 + 1, none⟩ = some (.int .i64 y1) ∧ w'.cell? ⟨gv, n * 4 + 2, none⟩ = some (.int .i64 y2) ∧ w'.cell? ⟨gv, n * 4 + 3, none⟩ = some (.bool y3))) ?_
        refine anyS_take (i := 0) (v := ?_) (by kernel_rfl) rfl (by kernel_rfl) (by kernel_rfl) (by kernel_rfl) (fun _ _ _ h => h) (by kernel_rfl) (fun _ => by kernel_rfl) ?_ ?_
        rotate_left
        · intro w' hS
          obtain ⟨s0, s1, s2, s3, s4, s5, s6, s7, s8⟩ := hS
          go_simp
          try with_reducible rfl
        refine anyS_take (i := 2) (v := ?_) (by kernel_rfl) rfl (by kernel_rfl) (by kernel_rfl) (by kernel_rfl) (fun _ _ _ h => h) (by kernel_rfl) (fun _ => by kernel_rfl) ?_ ?_
        rotate_left
        · intro w' hS
          obtain ⟨s0, s1, s2, s3, s4, s5, s6, s7, s8⟩ := hS
          go_simp
          try with_reducible rfl
        refine anyS_take (i := 3) (v := ?_) (by kernel_rfl) rfl (by kernel_rfl) (by kernel_rfl) (by kernel_rfl) (fun _ _ _ h => h) (by kernel_rfl) (fun _ => by kernel_rfl) ?_ ?_
        rotate_left
        · intro w' hS
          obtain ⟨s0, s1, s2, s3, s4, s5, s6, s7, s8⟩ := hS
          go_simp
          try with_reducible rfl
        refine anyS_one (i := 1) (by kernel_rfl) rfl (HS24.out) (fun K hK => ?_)
        go_simp
        gi_wp2_with ((refine ⟨trivial, ?_⟩; gi_at_call 25; refine CallsIn.mono (F := Fence.wide) (callsIn_wide.2 HQL.out) ?_; rintro e w9 ⟨rfl, rfl⟩; dsimp only))
        refine anyS_one (i := 4) (by kernel_rfl) rfl (HS24.out) (fun K hK => ?_)
        go_simp
        refine hK _ _ ?_
        clear hK K
        refine anyS_one (i := 5) (by kernel_rfl) rfl (HS24.out) (fun K hK => ?_)
        go_simp
        refine hK _ _ ?_
        clear hK K
        refine anyS_take (i := 6) (v := ?_) (by kernel_rfl) rfl (by kernel_rfl) (by kernel_rfl) (by kernel_rfl) (fun _ _ _ h => h) (by kernel_rfl) (fun _ => by kernel_rfl) ?_ ?_
        rotate_left
        · intro w' hS
          obtain ⟨s0, s1, s2, s3, s4, s5, s6, s7, s8⟩ := hS
          go_simp
          try with_reducible rfl
        refine anyS_take (i := 8) (v := ?_) (by kernel_rfl) rfl (by kernel_rfl) (by kernel_rfl) (by kernel_rfl) (fun _ _ _ h => h) (by kernel_rfl) (fun _ => by kernel_rfl) ?_ ?_
        rotate_left
        · intro w' hS
          obtain ⟨s0, s1, s2, s3, s4, s5, s6, s7, s8⟩ := hS
          go_simp
          try with_reducible rfl
        refine anyS_take (i := 9) (v := ?_) (by kernel_rfl) rfl (by kernel_rfl) (by kernel_rfl) (by kernel_rfl) (fun _ _ _ h => h) (by kernel_rfl) (fun _ => by kernel_rfl) ?_ ?_
        rotate_left
        · intro w' hS
          obtain ⟨s0, s1, s2, s3, s4, s5, s6, s7, s8⟩ := hS
          go_simp
          try with_reducible rfl
        refine anyS_take (i := 10) (v := ?_) (by kernel_rfl) rfl (by kernel_rfl) (by kernel_rfl) (by kernel_rfl) (fun _ _ _ h => h) (by kernel_rfl) (fun _ => by kernel_rfl) ?_ ?_
        rotate_left
        · intro w' hS
          obtain ⟨s0, s1, s2, s3, s4, s5, s6, s7, s8⟩ := hS
          go_simp
          try with_reducible rfl
        refine anyS_one (i := 7) (by kernel_rfl) rfl (HS24.out) (fun K hK => ?_)
        go_simp
        gi_wp2_with ((refine ⟨trivial, ?_⟩; gi_at_call 26; refine CallsIn.mono (F := Fence.wide) (callsIn_wide.2 HQR.out) ?_; rintro e w9 ⟨rfl, rfl⟩; dsimp only))
        refine anyS_one (i := 11) (by kernel_rfl) rfl (HS24.out) (fun K hK => ?_)
        go_simp
        refine hK _ _ ?_
        clear hK K
        refine anyS_one (i := 12) (by kernel_rfl) rfl (HS24.out) (fun K hK => ?_)
        go_simp
        refine hK _ _ ?_
        clear hK K
        refine anyS_one (i := 13) (by kernel_rfl) rfl (HS24.out) (fun K hK => ?_)
        go_simp
        refine hK _ _ ?_
        clear hK K
        refine anyS_take (i := 14) (v := ?_) (by kernel_rfl) rfl (by kernel_rfl) (by kernel_rfl) (by kernel_rfl) (fun _ _ _ h => h) (by kernel_rfl) (fun _ => by kernel_rfl) ?_ ?_
        rotate_left
        · intro w' hS
          obtain ⟨s0, s1, s2, s3, s4, s5, s6, s7, s8⟩ := hS
          go_simp
          try with_reducible rfl
        refine anyS_take (i := 15) (v := ?_) (by kernel_rfl) rfl (by kernel_rfl) (by kernel_rfl) (by kernel_rfl) (fun _ _ _ h => h) (by kernel_rfl) (fun _ => by kernel_rfl) ?_ ?_
        rotate_left
        · intro w' hS
          obtain ⟨s0, s1, s2, s3, s4, s5, s6, s7, s8⟩ := hS
          go_simp
          try with_reducible rfl
        refine anyS_take (i := 16) (v := ?_) (by kernel_rfl) rfl (by kernel_rfl) (by kernel_rfl) (by kernel_rfl) (fun _ _ _ h => h) (by kernel_rfl) (fun _ => by kernel_rfl) ?_ ?_
        rotate_left
        · intro w' hS
          obtain ⟨s0, s1, s2, s3, s4, s5, s6, s7, s8⟩ := hS
          go_simp
          try with_reducible rfl
        refine anyS_take (i := 17) (v := ?_) (by kernel_rfl) rfl (by kernel_rfl) (by kernel_rfl) (by kernel_rfl) (fun _ _ _ h => h) (by kernel_rfl) (fun _ => by kernel_rfl) ?_ ?_
        rotate_left
        · intro w' hS
          obtain ⟨s0, s1, s2, s3, s4, s5, s6, s7, s8⟩ := hS
          go_simp
          try with_reducible rfl
        refine anyS_one (i := 18) (by kernel_rfl) rfl (HS24.out) (fun K hK => ?_)
        go_simp
        refine hK _ _ ?_
        clear hK K
        refine anyS_one (i := 19) (by kernel_rfl) rfl (HS24.out) (fun K hK => ?_)
        go_simp
        refine hK _ _ ?_
        clear hK K
        refine anyS_one (i := 20) (by kernel_rfl) rfl (HS24.out) (fun K hK => ?_)
        go_simp
        refine hK _ _ ?_
        clear hK K
        refine anyS_one (i := 21) (by kernel_rfl) rfl (HS24.out) (fun K hK => ?_)
        go_simp
        refine hK _ _ ?_
        clear hK K
        refine anyS_one (i := 22) (by kernel_rfl) rfl (HS24.out) (fun K hK => ?_)
        go_simp
        refine hK _ _ ?_
        clear hK K
        refine anyS_take (i := 23) (v := ?_) (by kernel_rfl) rfl (by kernel_rfl) (by kernel_rfl) (by kernel_rfl) (fun _ _ _ h => h) (by kernel_rfl) (fun _ => by kernel_rfl) ?_ ?_
        rotate_left
        · intro w' hS
          obtain ⟨s0, s1, s2, s3, s4, s5, s6, s7, s8⟩ := hS
          go_simp
          try with_reducible rfl
        refine anyS_take (i := 24) (v := ?_) (by kernel_rfl) rfl (by kernel_rfl) (by kernel_rfl) (by kernel_rfl) (fun _ _ _ h => h) (by kernel_rfl) (fun _ => by kernel_rfl) ?_ ?_
        rotate_left
        · intro w' hS
          obtain ⟨s0, s1, s2, s3, s4, s5, s6, s7, s8⟩ := hS
          go_simp
          try with_reducible rfl
        refine anyS_take (i := 25) (v := ?_) (by kernel_rfl) rfl (by kernel_rfl) (by kernel_rfl) (by kernel_rfl) (fun _ _ _ h => h) (by kernel_rfl) (fun _ => by kernel_rfl) ?_ ?_
        rotate_left
        · intro w' hS
          obtain ⟨s0, s1, s2, s3, s4, s5, s6, s7, s8⟩ := hS
          go_simp
          try with_reducible rfl
        refine anyS_take (i := 26) (v := ?_) (by kernel_rfl) rfl (by kernel_rfl) (by kernel_rfl) (by kernel_rfl) (fun _ _ _ h => h) (by kernel_rfl) (fun _ => by kernel_rfl) ?_ ?_
        rotate_left
        · intro w' hS
          obtain ⟨s0, s1, s2, s3, s4, s5, s6, s7, s8⟩ := hS
          go_simp
          try with_reducible rfl
        refine anyS_take (i := 27) (v := ?_) (by kernel_rfl) rfl (by kernel_rfl) (by kernel_rfl) (by kernel_rfl) (fun _ _ _ h => h) (by kernel_rfl) (fun _ => by kernel_rfl) ?_ ?_
        rotate_left
        · intro w' hS
          obtain ⟨s0, s1, s2, s3, s4, s5, s6, s7, s8⟩ := hS
          go_simp
          try with_reducible rfl
        refine anyS_take (i := 28) (v := ?_) (by kernel_rfl) rfl (by kernel_rfl) (by kernel_rfl) (by kernel_rfl) (fun _ _ _ h => h) (by kernel_rfl) (fun _ => by kernel_rfl) ?_ ?_
        rotate_left
        · intro w' hS
          obtain ⟨s0, s1, s2, s3, s4, s5, s6, s7, s8⟩ := hS
          go_simp
          try with_reducible rfl
        refine anyS_take (i := 29) (v := ?_) (by kernel_rfl) rfl (by kernel_rfl) (by kernel_rfl) (by kernel_rfl) (fun _ _ _ h => h) (by kernel_rfl) (fun _ => by kernel_rfl) ?_ ?_
        rotate_left
        · intro w' hS
          obtain ⟨s0, s1, s2, s3, s4, s5, s6, s7, s8⟩ := hS
          go_simp
          try with_reducible rfl
        refine anyS_one (i := 30) (by kernel_rfl) rfl (HS24.out) (fun K hK => ?_)
        go_simp
        refine hK _ _ ?_
        clear hK K
        refine anyS_one (i := 31) (by kernel_rfl) rfl (HS24.out) (fun K hK => ?_)
        go_simp
        refine hK _ _ ?_
        clear hK K
        refine anyS_one (i := 32) (by kernel_rfl) rfl (HS24.out) (fun K hK => ?_)
        go_simp
        refine hK _ _ ?_
        clear hK K
        refine anyS_done (by kernel_rfl) (HS24.out) ?_ _
        refine NoPanic.normal ?_
        go_wp2
        go_meet
        case rel => exact ⟨rfl, Lib.hid ((Below.refl _ _).drew)⟩
      · obtain rfl : n1 = 0 := by omega
        clear h0
        have HS24 := Lib.hid (show W11.drew.cell? ⟨q4, 0, none⟩ = some (.slice ya 0 yc) from z4)
        refine wp_region_noPanic ?_
        refine (wpIn_wide (n := 9)).1 ?_
        refine wpIn_region_any (by kernel_rfl) ?_
        change wpAnyIn _ _ _ _ _ _ _ _ _ (World.drew _)
        refine anyS.any (S := (fun w' => w'.cell? ⟨q4, 0, none⟩ = some (.slice ya 0 yc))) ?_
        refine anyS_take (i := 0) (v := ?_) (by kernel_rfl) rfl (by kernel_rfl) (by kernel_rfl) (by kernel_rfl) (fun _ _ _ h => h) (by kernel_rfl) (fun _ => by kernel_rfl) ?_ ?_
        rotate_left
        · intro w' hS
          have s0 := hS
          go_simp
          try with_reducible rfl
        refine anyS_take (i := 2) (v := ?_) (by kernel_rfl) rfl (by kernel_rfl) (by kernel_rfl) (by kernel_rfl) (fun _ _ _ h => h) (by kernel_rfl) (fun _ => by kernel_rfl) ?_ ?_
        rotate_left
        · intro w' hS
          have s0 := hS
          go_simp
          try with_reducible rfl
        refine anyS_take (i := 3) (v := ?_) (by kernel_rfl) rfl (by kernel_rfl) (by kernel_rfl) (by kernel_rfl) (fun _ _ _ h => h) (by kernel_rfl) (fun _ => by kernel_rfl) ?_ ?_
        rotate_left
        · intro w' hS
          have s0 := hS
          go_simp
          try with_reducible rfl
        refine anyS_one (i := 1) (by kernel_rfl) rfl (HS24.out) (fun K hK => ?_)
        go_simp
        gi_wp2_with ((refine ⟨trivial, ?_⟩; gi_at_call 25; refine CallsIn.mono (F := Fence.wide) (callsIn_wide.2 HQL.out) ?_; rintro e w9 ⟨rfl, rfl⟩; dsimp only))
        refine anyS_one (i := 4) (by kernel_rfl) rfl (HS24.out) (fun K hK => ?_)
        go_simp
        refine hK _ _ ?_
        clear hK K
        refine anyS_one (i := 5) (by kernel_rfl) rfl (HS24.out) (fun K hK => ?_)
        go_simp
        refine hK _ _ ?_
        clear hK K
        refine anyS_take (i := 6) (v := ?_) (by kernel_rfl) rfl (by kernel_rfl) (by kernel_rfl) (by kernel_rfl) (fun _ _ _ h => h) (by kernel_rfl) (fun _ => by kernel_rfl) ?_ ?_
        rotate_left
        · intro w' hS
          have s0 := hS
          go_simp
          try with_reducible rfl
        refine anyS_take (i := 8) (v := ?_) (by kernel_rfl) rfl (by kernel_rfl) (by kernel_rfl) (by kernel_rfl) (fun _ _ _ h => h) (by kernel_rfl) (fun _ => by kernel_rfl) ?_ ?_
        rotate_left
        · intro w' hS
          have s0 := hS
          go_simp
          try with_reducible rfl
        refine anyS_take (i := 9) (v := ?_) (by kernel_rfl) rfl (by kernel_rfl) (by kernel_rfl) (by kernel_rfl) (fun _ _ _ h => h) (by kernel_rfl) (fun _ => by kernel_rfl) ?_ ?_
        rotate_left
        · intro w' hS
          have s0 := hS
          go_simp
          try with_reducible rfl
        refine anyS_take (i := 10) (v := ?_) (by kernel_rfl) rfl (by kernel_rfl) (by kernel_rfl) (by kernel_rfl) (fun _ _ _ h => h) (by kernel_rfl) (fun _ => by kernel_rfl) ?_ ?_
        rotate_left
        · intro w' hS
          have s0 := hS
          go_simp
          try with_reducible rfl
        refine anyS_one (i := 7) (by kernel_rfl) rfl (HS24.out) (fun K hK => ?_)
        go_simp
        gi_wp2_with ((refine ⟨trivial, ?_⟩; gi_at_call 26; refine CallsIn.mono (F := Fence.wide) (callsIn_wide.2 HQR.out) ?_; rintro e w9 ⟨rfl, rfl⟩; dsimp only))
        refine anyS_one (i := 11) (by kernel_rfl) rfl (HS24.out) (fun K hK => ?_)
        go_simp
        refine hK _ _ ?_
        clear hK K
        refine anyS_one (i := 12) (by kernel_rfl) rfl (HS24.out) (fun K hK => ?_)
        go_simp
        refine hK _ _ ?_
        clear hK K
        refine anyS_one (i := 13) (by kernel_rfl) rfl (HS24.out) (fun K hK => ?_)
        go_simp
        refine hK _ _ ?_
        clear hK K
        refine anyS_take (i := 14) (v := ?_) (by kernel_rfl) rfl (by kernel_rfl) (by kernel_rfl) (by kernel_rfl) (fun _ _ _ h => h) (by kernel_rfl) (fun _ => by kernel_rfl) ?_ ?_
        rotate_left
        · intro w' hS
          have s0 := hS
          go_simp
          try with_reducible rfl
        refine anyS_take (i := 15) (v := ?_) (by kernel_rfl) rfl (by kernel_rfl) (by kernel_rfl) (by kernel_rfl) (fun _ _ _ h => h) (by kernel_rfl) (fun _ => by kernel_rfl) ?_ ?_
        rotate_left
        · intro w' hS
          have s0 := hS
          go_simp
          try with_reducible rfl
        refine anyS_take (i := 16) (v := ?_) (by kernel_rfl) rfl (by kernel_rfl) (by kernel_rfl) (by kernel_rfl) (fun _ _ _ h => h) (by kernel_rfl) (fun _ => by kernel_rfl) ?_ ?_
        rotate_left
        · intro w' hS
          have s0 := hS
          go_simp
          try with_reducible rfl
        refine anyS_take (i := 17) (v := ?_) (by kernel_rfl) rfl (by kernel_rfl) (by kernel_rfl) (by kernel_rfl) (fun _ _ _ h => h) (by kernel_rfl) (fun _ => by kernel_rfl) ?_ ?_
        rotate_left
        · intro w' hS
          have s0 := hS
          go_simp
          try with_reducible rfl
        refine anyS_one (i := 18) (by kernel_rfl) rfl (HS24.out) (fun K hK => ?_)
        go_simp
        refine hK _ _ ?_
        clear hK K
        refine anyS_one (i := 19) (by kernel_rfl) rfl (HS24.out) (fun K hK => ?_)
        go_simp
        refine hK _ _ ?_
        clear hK K
        refine anyS_one (i := 20) (by kernel_rfl) rfl (HS24.out) (fun K hK => ?_)
        go_simp
        refine hK _ _ ?_
        clear hK K
        refine anyS_one (i := 21) (by kernel_rfl) rfl (HS24.out) (fun K hK => ?_)
        go_simp
        refine hK _ _ ?_
        clear hK K
        refine anyS_one (i := 22) (by kernel_rfl) rfl (HS24.out) (fun K hK => ?_)
        go_simp
        refine hK _ _ ?_
        clear hK K
        refine anyS_skip (i := 23) (by kernel_rfl) rfl (by kernel_rfl) (by kernel_rfl) (by kernel_rfl) (fun _ _ _ h => h) (by kernel_rfl) (fun _ => by kernel_rfl) ?_
        refine anyS_skip (i := 24) (by kernel_rfl) rfl (by kernel_rfl) (by kernel_rfl) (by kernel_rfl) (fun _ _ _ h => h) (by kernel_rfl) (fun _ => by kernel_rfl) ?_
        refine anyS_skip (i := 25) (by kernel_rfl) rfl (by kernel_rfl) (by kernel_rfl) (by kernel_rfl) (fun _ _ _ h => h) (by kernel_rfl) (fun _ => by kernel_rfl) ?_
        refine anyS_skip (i := 26) (by kernel_rfl) rfl (by kernel_rfl) (by kernel_rfl) (by kernel_rfl) (fun _ _ _ h => h) (by kernel_rfl) (fun _ => by kernel_rfl) ?_
        refine anyS_skip (i := 27) (by kernel_rfl) rfl (by kernel_rfl) (by kernel_rfl) (by kernel_rfl) (fun _ _ _ h => h) (by kernel_rfl) (fun _ => by kernel_rfl) ?_
        refine anyS_skip (i := 28) (by kernel_rfl) rfl (by kernel_rfl) (by kernel_rfl) (by kernel_rfl) (fun _ _ _ h => h) (by kernel_rfl) (fun _ => by kernel_rfl) ?_
        refine anyS_skip (i := 29) (by kernel_rfl) rfl (by kernel_rfl) (by kernel_rfl) (by kernel_rfl) (fun _ _ _ h => h) (by kernel_rfl) (fun _ => by kernel_rfl) ?_
        refine anyS_skip (i := 30) (by kernel_rfl) rfl (by kernel_rfl) (by kernel_rfl) (by kernel_rfl) (fun _ _ _ h => h) (by kernel_rfl) (fun _ => by kernel_rfl) ?_
        refine anyS_one (i := 31) (by kernel_rfl) rfl (HS24.out) (fun K hK => ?_)
        go_simp
        refine hK _ _ ?_
        clear hK K
        refine anyS_one (i := 32) (by kernel_rfl) rfl (HS24.out) (fun K hK => ?_)
        go_simp
        refine hK _ _ ?_
        clear hK K
        refine anyS_done (by kernel_rfl) (HS24.out) ?_ _
        refine NoPanic.normal ?_
        go_wp2
        go_meet
        case rel => exact ⟨rfl, Lib.hid ((Below.refl _ _).drew)⟩
    case rest =>
    obtain ⟨rfl, HB12⟩ := hcut
    obtain ⟨w12, rfl⟩ : ∃ w12, w12 = wc := ⟨_, rfl⟩
    have HI12 := Lib.hid (HI11.out.later HB12.out)
    have z4 : w12.cell? ⟨q4, 0, none⟩ = some (.slice ya n1 yc) := by
      have h := cell_of_row w12 q4 0 _ _ _ HI12.out.bx
      rw [HN1.out] at h
      exact h
    have hbn := below_new w12 (.cells #[.int .i64 (n1 : Int)] 3)
    have hI13 := HI12.out.later hbn
    have hbox := HdAt.new w12 (.int .i64 (n1 : Int)) 3
    have hsz13 : (w12.alloc (.cells #[.int .i64 (n1 : Int)] 3)).heap.size = w12.heap.size + 1 := World.size_alloc _ _
    obtain ⟨W13, hW13⟩ : ∃ W13, w12.alloc (.cells #[.int .i64 (n1 : Int)] 3) = W13 := ⟨_, rfl⟩
    rw [hW13] at hI13 hbox hbn hsz13
    have HA := Lib.hid (allK_any hI13.st (by have := HL1.out; omega))
    have HW13 := Lib.hid hW13
    have HI13 := Lib.hid hI13
    clear HI11 HR10 HB12
    go_upto_region 27 with fail
    try rw [HW13.out]
    go_wp2_with fail
    refine HA.out.mono ?_
    rintro e w27 ⟨c, b2, g2, rfl, hc, hcs, hs2, hb27⟩
    obtain ⟨q12, hq12⟩ : ∃ q12, w12.heap.size = q12 := ⟨_, rfl⟩
    have HQ12 := Lib.hid hq12
    rw [hq12] at hbox hsz13
    have hbox2 := hbox.later hb27
    have HSEQ := Lib.hid (allK_seq 8 (by omega) (w := w27) (fun _ => False) (fun k => k = q12) (fun _ h => h.elim) hc hs2 (by have := HL1.out; omega) (fun k hk => by
      subst hk
      exact ⟨_, hbox2, fun k hk => by simp [Value.ownBlock] at hk⟩) (fun k hk => ⟨fun h => h, fun e => by have := hs2.row k hk; omega, fun q hq => by
      subst hq
      exact ⟨_, hbox2, by simp [Value.ownBlock]⟩⟩))
    have HBX := Lib.hid hbox2
    have HSZ := Lib.hid (show q12 < w12.heap.size + 1 ∧ q12 + 1 ≤ w27.heap.size from ⟨by omega, by have := hb27.size; omega⟩)
    have HB27 := Lib.hid (stepB hbn hb27)
    have HI27 := Lib.hid (HI13.out.later hb27)
    clear hc hcs hs2 hb27 hbox hbox2 hI13 hbn hW13 hsz13 hq12 z4
    dsimp only
    simp only [HQ12.out]
    go_wp2_with fail
    refine (wpIn_wide (n := 9)).1 ?_
    refine range_world3 rfl (by omega) (I := fun pre W' => pre <+: L1.reverse ∧ HdAt W' q12 (.int .i64 ((n1 : Int) - (pre.length : Int))) ∧ w27.grownBy W' (some q12)) (Ix := fun _ _ _ => False) (gf := 53) (lb := _) rfl trivial (fun _ _ => by kernel_rfl) HSEQ.out KpP.trans (fun W' o o' ho hc _ => KpP.put o' (.inr rfl) ho hc) (fun W W' hb => KpP.of_below _ _ hb) (Below.refl _ _) (fun _ => rfl)
      (fun s A B row hs hg hr => ⟨hs.1, hs.2.1.grown hg (fun r e => (hr r e).2), grown_own hs.2.2 hg (Nat.le_refl _) (fun r e => (hr r e).1)⟩) (fun c s A B row hs hg hr => hs) (fun s A B row hs hg hr => hs) (fun s A B row hs hg hr => hs) ⟨List.nil_prefix, by simpa using HBX.out, World.grownBy.refl _ _⟩ ?rnd ?done ?stop
    case stop =>
      rintro D c pre W hD hS hI hK
      exact hI.elim
    case rnd =>
      rintro pre ⟨x0, x1, x2, x3⟩ Wr K ⟨hpre, hbox, hgr⟩ hT hsz hK
      have HRA := Lib.hid (rev_at hT)
      have HT := Lib.hid hT
      have HK := Lib.hid hK
      have HSR := Lib.hid hsz
      clear hK hT hsz hpre hbox hgr
      simp only [encX, entV]
      gi_wp2
      refine HK.out _ _ (below_new Wr _) ?_
      clear HK
      intro Wb hsz2 hrest hkw ⟨hpre, hbox, hgr⟩
      have hrow : Wb.heap[Wr.heap.size]? = some (.cells #[.int .i64 x0, .int .i64 x1, .int .i64 x2, .bool x3] 59 (0, 0)) := by
        rw [hrest Wr.heap.size (by have := HSR.out; omega)]
        exact heap_alloc_new Wr _
      obtain ⟨q13, hq13⟩ : ∃ q13, Wr.heap.size = q13 := ⟨_, rfl⟩
      rw [hq13] at hrow ⊢
      obtain ⟨j, hj⟩ : ∃ j, L1.length - 1 - pre.length = j := ⟨_, rfl⟩
      obtain ⟨hpl, hjl, hjx⟩ := HRA.out
      have hkp : ∀ k, k < w27.heap.size → k ≠ q12 → Wb.heap[k]? = w27.heap[k]? := fun k h1 h2 => hgr.block k h1 (by simpa using h2)
      have hbx4 := (hkp q4 (Crd.lt_of_row HI27.out.bx) (fun e => by have := Crd.lt_of_row HI12.out.bx; have := HSZ.out; have := HQ12.out; omega)).trans HI27.out.bx
      have hne : q13 ≠ q12 := by have := HSZ.out; have := HSR.out; omega
      obtain ⟨gv, cap, hgv, ⟨v0', v1', v2', v3'⟩, -⟩ := own_ent HI27.out.ow j (by omega)
      have hgr2 := World.ownsRow.lt HI12.out.ow gv (by rw [show Value.slice ya L1.length yc = _ from hgv]; rfl)
      injection hgv with hya _ _
      subst hya
      have hgc : ∀ i, Wb.cell? ⟨gv, i, none⟩ = w27.cell? ⟨gv, i, none⟩ := fun i => World.cell?_of_block (a := ⟨gv, i, none⟩) (hkp gv (World.ownsRow.lt HI27.out.ow gv rfl).2 (fun e => by have := HQ12.out; omega))
      have hxj : L1[j]'(by omega) = ⟨x0, x1, x2, x3⟩ := by
        subst hj
        exact hjx
      rw [hxj] at v0' v1' v2' v3'
      dsimp only at v0' v1' v2' v3'
      have a0 := (hgc _).trans v0'
      have a1 := (hgc _).trans v1'
      have a2 := (hgc _).trans v2'
      have a3 := (hgc _).trans v3'
      have z4 : Wb.cell? ⟨q4, 0, none⟩ = some (.slice (some ⟨gv, 0, none⟩) n1 yc) := by
        have h := cell_of_row Wb q4 0 _ _ _ hbx4
        rw [HN1.out] at h
        exact h
      have hn1' := HN1.out
      have hjj : (n1 : Int) - (pre.length : Int) - 1 = (j : Int) := by omega
      have hj0 : decide ((j : Int) < 0) = false := decide_eq_false (by omega)
      have hj1 : (0 : Int) ≤ j := by omega
      have hj2 : (j : Int) < n1 := by omega
      have e0 := cell_of_row Wb q13 0 _ _ _ hrow
      have e1 := cell_of_row Wb q13 1 _ _ _ hrow
      have e2 := cell_of_row Wb q13 2 _ _ _ hrow
      have e3 := cell_of_row Wb q13 3 _ _ _ hrow
      have kc := hbox.cell
      have kf := hbox.frozen
      obtain ⟨Wc, hWc⟩ : ∃ Wc, Wb.setCell ⟨q12, 0, none⟩ (.int .i64 (j : Int)) = Wc := ⟨_, rfl⟩
      have hoth : ∀ b i, b ≠ q12 → Wc.cell? ⟨b, i, none⟩ = Wb.cell? ⟨b, i, none⟩ := fun b i hb => by
        rw [← hWc]
        exact World.cell?_of_block (a := ⟨b, i, none⟩) (heap_setCell_other Wb ⟨q12, 0, none⟩ b _ hb)
      have hgq : gv ≠ q12 := fun e => by have := HQ12.out; omega
      have hq4q : q4 ≠ q12 := fun e => by have := Crd.lt_of_row HI12.out.bx; have := HQ12.out; omega
      have hbc : HdAt Wc q12 (.int .i64 (j : Int)) := by rw [← hWc]; exact hbox.set _
      have HC := Lib.hid (show Wc.drew.cell? ⟨q12, 0, none⟩ = some (.int .i64 (j : Int)) ∧ Wc.drew.cell? ⟨q13, 0, none⟩ = some (.int .i64 x0) ∧ Wc.drew.cell? ⟨q13, 1, none⟩ = some (.int .i64 x1) ∧ Wc.drew.cell? ⟨q13, 2, none⟩ = some (.int .i64 x2) ∧ Wc.drew.cell? ⟨q13, 3, none⟩ = some (.bool x3) ∧ Wc.drew.cell? ⟨q4, 0, none⟩ = some (.slice (some ⟨gv, 0, none⟩) n1 yc) ∧ Wc.drew.cell? ⟨gv, j * 4, none⟩ = some (.int .i64 x0) ∧ Wc.drew.cell? ⟨gv, j * 4 + 1, none⟩ = some (.int .i64 x1) ∧ Wc.drew.cell? ⟨gv, j * 4 + 2, none⟩ = some (.int .i64 x2) ∧ Wc.drew.cell? ⟨gv, j * 4 + 3, none⟩ = some (.bool x3) from
        ⟨hbc.cell, (hoth q13 0 hne).trans e0, (hoth q13 1 hne).trans e1, (hoth q13 2 hne).trans e2, (hoth q13 3 hne).trans e3, (hoth q4 0 hq4q).trans z4, (hoth gv _ hgq).trans a0, (hoth gv _ hgq).trans a1, (hoth gv _ hgq).trans a2, (hoth gv _ hgq).trans a3⟩)
      have kp := KpP.box (E := fun _ => False) (H := fun k => k = q12) (u := .int .i64 (j : Int)) hbox rfl rfl (fun _ h => h) rfl
      rw [hWc] at kp
      have kpd := kp.trans (KpP.of_below (fun _ => False) (fun k => k = q12) ((Below.refl Wc.heap.size Wc).drew))
      have HP : Hid (KeepsFrom w27.heap.size Wb Wc.drew ∧ KpP (fun k => False ∨ k = w27.heap.size + 1) (fun k => k = q12) Wr Wc.drew ∧ (pre ++ [(⟨x0, x1, x2, x3⟩ : EntL)]) <+: L1.reverse ∧ HdAt Wc.drew q12 (.int .i64 ((n1 : Int) - ((pre ++ [(⟨x0, x1, x2, x3⟩ : EntL)]).length : Int))) ∧ w27.grownBy Wc.drew (some q12)) := Lib.hid
        ⟨kpd.from (fun _ h => h.elim), hkw.trans (kpd.mono (fun _ h => h.elim)), HT.out, by
          rw [show (n1 : Int) - ((pre ++ [(⟨x0, x1, x2, x3⟩ : EntL)]).length : Int) = (j : Int) by rw [List.length_append, List.length_singleton]; omega]
          exact hbc.later ((Below.refl Wc.heap.size Wc).drew), by
          have h := grown_trans hgr (grown_set Wb q12 0 (.int .i64 (j : Int)))
          rw [hWc] at h
          exact ⟨h.os, h.tape, h.output, h.size, h.block⟩⟩
      have hE : (x0 == x0 && (x1 == x1 && (x2 == x2 && (x3 == x3)))) = true := by simp
      have h3 := fun W => neqEnt x0 x0 x1 x1 x2 x2 x3 x3 W
      rw [hE] at h3
      have h2 := @neqgE
      have HWC := Lib.hid hWc
      have HJJ := Lib.hid hjj
      clear hsz2 hrest hkw hpre hgr hrow hq13 hpl hjl hjx hkp hbx4 hgr2 hgc hxj v0' v1' v2' v3' a0 a1 a2 a3 z4 hn1' e0 e1 e2 e3 hoth hgq hq4q hbc kp kpd hE hWc hj hbox
      gi_wp2_with fail
      rw [HWC.out]
      clear hjj
      refine wpIn_region_any (by kernel_rfl) ?_
      change wpAnyIn _ _ _ _ _ _ _ _ _ (World.drew _)
      refine anyS.any (S := (fun w' => w'.cell? ⟨q12, 0, none⟩ = some (.int .i64 (j : Int)) ∧ w'.cell? ⟨q13, 0, none⟩ = some (.int .i64 x0) ∧ w'.cell? ⟨q13, 1, none⟩ = some (.int .i64 x1) ∧ w'.cell? ⟨q13, 2, none⟩ = some (.int .i64 x2) ∧ w'.cell? ⟨q13, 3, none⟩ = some (.bool x3) ∧ w'.cell? ⟨q4, 0, none⟩ = some (.slice (some ⟨gv, 0, none⟩) n1 yc) ∧ w'.cell? ⟨gv, j * 4, none⟩ = some (.int .i64 x0) ∧ w'.cell? ⟨gv, j * 4 + 1, none⟩ = some (.int .i64 x1) ∧ w'.cell? ⟨gv, j * 4 + 2, none⟩ = some (.int .i64 x2) ∧ w'.cell? ⟨gv, j * 4 + 3, none⟩ = some (.bool x3))) ?_
      refine anyS_take (i := 0) (v := ?_) (by kernel_rfl) rfl (by kernel_rfl) (by kernel_rfl) (by kernel_rfl) (fun _ _ _ h => h) (by kernel_rfl) (fun _ => by kernel_rfl) ?_ ?_
      rotate_left
      · intro w' hS
        obtain ⟨s0, s1, s2, s3, s4, s5, s6, s7, s8, s9⟩ := hS
        go_simp
        try with_reducible rfl
      refine anyS_take (i := 1) (v := ?_) (by kernel_rfl) rfl (by kernel_rfl) (by kernel_rfl) (by kernel_rfl) (fun _ _ _ h => h) (by kernel_rfl) (fun _ => by kernel_rfl) ?_ ?_
      rotate_left
      · intro w' hS
        obtain ⟨s0, s1, s2, s3, s4, s5, s6, s7, s8, s9⟩ := hS
        go_simp
        try with_reducible rfl
      refine anyS_take (i := 2) (v := ?_) (by kernel_rfl) rfl (by kernel_rfl) (by kernel_rfl) (by kernel_rfl) (fun _ _ _ h => h) (by kernel_rfl) (fun _ => by kernel_rfl) ?_ ?_
      rotate_left
      · intro w' hS
        obtain ⟨s0, s1, s2, s3, s4, s5, s6, s7, s8, s9⟩ := hS
        go_simp
        try with_reducible rfl
      refine anyS_take (i := 3) (v := ?_) (by kernel_rfl) rfl (by kernel_rfl) (by kernel_rfl) (by kernel_rfl) (fun _ _ _ h => h) (by kernel_rfl) (fun _ => by kernel_rfl) ?_ ?_
      rotate_left
      · intro w' hS
        obtain ⟨s0, s1, s2, s3, s4, s5, s6, s7, s8, s9⟩ := hS
        go_simp
        try with_reducible rfl
      refine anyS_take (i := 4) (v := ?_) (by kernel_rfl) rfl (by kernel_rfl) (by kernel_rfl) (by kernel_rfl) (fun _ _ _ h => h) (by kernel_rfl) (fun _ => by kernel_rfl) ?_ ?_
      rotate_left
      · intro w' hS
        obtain ⟨s0, s1, s2, s3, s4, s5, s6, s7, s8, s9⟩ := hS
        go_simp
        try with_reducible rfl
      refine anyS_take (i := 5) (v := ?_) (by kernel_rfl) rfl (by kernel_rfl) (by kernel_rfl) (by kernel_rfl) (fun _ _ _ h => h) (by kernel_rfl) (fun _ => by kernel_rfl) ?_ ?_
      rotate_left
      · intro w' hS
        obtain ⟨s0, s1, s2, s3, s4, s5, s6, s7, s8, s9⟩ := hS
        go_simp
        try with_reducible rfl
      refine anyS_take (i := 6) (v := ?_) (by kernel_rfl) rfl (by kernel_rfl) (by kernel_rfl) (by kernel_rfl) (fun _ _ _ h => h) (by kernel_rfl) (fun _ => by kernel_rfl) ?_ ?_
      rotate_left
      · intro w' hS
        obtain ⟨s0, s1, s2, s3, s4, s5, s6, s7, s8, s9⟩ := hS
        go_simp
        try with_reducible rfl
      refine anyS_take (i := 7) (v := ?_) (by kernel_rfl) rfl (by kernel_rfl) (by kernel_rfl) (by kernel_rfl) (fun _ _ _ h => h) (by kernel_rfl) (fun _ => by kernel_rfl) ?_ ?_
      rotate_left
      · intro w' hS
        obtain ⟨s0, s1, s2, s3, s4, s5, s6, s7, s8, s9⟩ := hS
        go_simp
        try with_reducible rfl
      refine anyS_one (i := 8) (by kernel_rfl) rfl (HC.out) (fun K hK => ?_)
      go_simp
      refine hK _ _ ?_
      clear hK K
      refine anyS_one (i := 9) (by kernel_rfl) rfl (HC.out) (fun K hK => ?_)
      go_simp
      refine hK _ _ ?_
      clear hK K
      refine anyS_done (by kernel_rfl) (HC.out) ?_ _
      clear h3 h2
      gi_wp2
      exact HP.out
    case done =>
      rintro D xs W' hD hS ⟨_, hbox, hgr⟩ hK
      subst hS
      have hbw : Below w12.heap.size w12 W' := ⟨hgr.os.trans HB27.out.os, hgr.tape.trans HB27.out.tape, hgr.output.trans HB27.out.output, Nat.le_trans HB27.out.size hgr.size, fun k hk => (hgr.block k (Nat.lt_of_lt_of_le hk HB27.out.size) (by have := HQ12.out; intro e; injection e with e; omega)).trans (HB27.out.block k hk)⟩
      have HI28 := Lib.hid (HI12.out.cons hbw hK (Nat.le_trans HB27.out.size hD))
      have hn1' := HN1.out
      rw [List.length_reverse, show (n1 : Int) - (L1.length : Int) = 0 by omega] at hbox
      have kc := hbox.cell
      have z4 : W'.cell? ⟨q4, 0, none⟩ = some (.slice ya n1 yc) := by
        have h := cell_of_row W' q4 0 _ _ _ HI28.out.bx
        rw [HN1.out] at h
        exact h
      have hnw := new_stk (own_ents HI28.out.ow) (by have := HL1.out; omega)
      rw [List.take_of_length_le HL1.out, HN1.out] at hnw
      have HNW := Lib.hid hnw
      have HLK := Lib.hid (show L1.length ≤ 1000 by have := HL1.out; omega)
      clear hgr hK hD hbox hbw hnw hn1'
      go_wp2_with fail
      refine HNW.out.mono ?_
      rintro e w29 ⟨b3, g3, rfl, hs3, hb29⟩
      have HI29 := Lib.hid (HI28.out.later hb29)
      have hsm := same_stk HI29.out.st hs3 HLK.out
      rw [decide_eq_true rfl] at hsm
      have HSM := Lib.hid hsm
      clear hs3 hb29 hsm kc z4
      dsimp only
      go_wp2_with fail
      refine HSM.out.mono ?_
      rintro e w30 ⟨rfl, n30, rfl⟩
      have HI30 := Lib.hid (HI29.out.later (below_drewN (Below.refl _ _) n30))
      obtain ⟨w30, hw30⟩ : ∃ w30, w29.drewN n30 = w30 := ⟨_, rfl⟩
      rw [hw30] at HI30 ⊢
      clear hw30 HI29
      go_wp2_with fail
      refine (copy_stk HI30.out.st HLK.out).mono ?_
      rintro e w31 ⟨b4, g4, rfl, hs4, hb31⟩
      have HI31 := Lib.hid (HI30.out.later hb31)
      have hsm := same_stk hs4 HI31.out.st HLK.out
      rw [decide_eq_true rfl] at hsm
      have HSM2 := Lib.hid hsm
      clear hs4 hb31 hsm HI30
      dsimp only
      go_wp2_with fail
      refine HSM2.out.mono ?_
      rintro e w32 ⟨rfl, n32, rfl⟩
      have HI32 := Lib.hid (HI31.out.later (below_drewN (Below.refl _ _) n32))
      go_wp2
      refine ⟨⟨rfl, rfl, rfl, rfl, rfl, rfl, k + 1, gk1, _, L1, by omega, by go_num, HL1, HI32⟩, ?_⟩
      simp [intOf]
      omega
end Go.Proofs.YtgjojjhppgjkkaaGreat
