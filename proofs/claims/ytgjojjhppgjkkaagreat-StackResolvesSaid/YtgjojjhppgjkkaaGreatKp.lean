/- The law StackOrder, walked (layer 12). -/
import Derived.Test.YtgjojjhppgjkkaaGreatKh
namespace Go.Proofs.YtgjojjhppgjkkaaGreat
open Go.RowKit Go.Maps
attribute [local go_sem] Oper.semAt_some

theorem objI_move {S : StoreL} {i : Int} (h : hasS S i) (z : Nat) : (objI (moveI S i z) i).zone = (z : Int) := by
  obtain ⟨j, rfl⟩ : ∃ j : Nat, i = (j : Int) + 1 := ⟨(i - 1).toNat, by have := h.1; omega⟩
  have hj : j < S.objs.length := by have := h.2; omega
  have hk := (keeps_move S ((j : Int) + 1) z).has h
  unfold objI
  rw [if_pos hk]
  have hj2 : j < (moveI S ((j : Int) + 1) z).objs.length := by rw [(keeps_move S _ z).len]; exact hj
  rw [objOf_at hj2]
  simp only [moveI_at hj, moveL, List.getElem_set_self]
  rfl
/-- What was resolved is on the stack no more. -/
theorem work_off (B : BoardL) (x : EntL) (ht : x.trig = false) : (objI (workE B x).1.S x.obj).zone ≠ 4 := by
  unfold workE
  rw [ht, if_neg (by decide)]
  by_cases hz : (objI B.S x.obj).zone = 4
  · have hh := objI_has hz
    rw [if_pos hz]
    split
    · dsimp only
      rw [objI_move hh]
      decide
    · dsimp only
      rw [objI_move ((keeps_all B x.seat x.pos _).has hh)]
      decide
  · rw [if_neg hz]
    exact hz
theorem errI_cases (S : StoreL) (i : Int) : errI S i = 0 ∨ errI S i = 7 := by
  unfold errI
  split
  · exact .inl rfl
  · exact .inr rfl
set_option maxRecDepth 100000 in
set_option maxHeartbeats 32000000 in
theorem stackOrder_walk {v1 v2 : Value} {l : List ThingL} {es : List EntL} {w : World} (hv : ThingsAt w v1 l) (hw : ∀ x ∈ l, Wf x.owner ∧ Wf x.zone) (hlen : l.length ≤ 9223372036854775807) (he : EntsAt w v2 es) (hle : es.length ≤ 9223372036854775807) :
    Calls Tryz.prog 7 #[v1, v2] w (RetV w (.bool true)) := by
  obtain ⟨ya, yc, rfl⟩ := he.form
  have HBO := Lib.hid (fun (w' : World) (hb : Below w.heap.size w w') => board_any (hv.later hb) hw hlen 0 (by decide))
  obtain ⟨va, vc, rfl⟩ := hv.form
  have HE := Lib.hid he
  have HAW := Lib.hid (awake12_any w)
  clear hv hw he
  go_enter Tryz.func7, Tryz.ntmps7
  go_wp2_with fail
  refine HAW.out.mono ?_
  rintro e w1 ⟨rfl, hb1⟩
  have HB1 := Lib.hid hb1
  clear hb1 HAW
  go_wp2_with fail
  refine (HBO.out w1 HB1.out).mono ?_
  rintro e w2 (⟨_, hm, lo, g, rfl, hbd, hlo, hb2⟩ | ⟨_, rfl, hb2⟩)
  case inr =>
    have HB2 := Lib.hid (stepB HB1.out hb2)
    clear hb2 HBO
    dsimp only
    go_wp2
    go_ret
    exact ⟨rfl, HB2.out⟩
  have HBD := Lib.hid hbd
  have HB2 := Lib.hid (stepB HB1.out hb2)
  have HLO := Lib.hid (show ∀ k, g.own k → w.heap.size ≤ k from fun k hk => Nat.le_trans (Nat.le_trans HB1.out.size hlo) (hbd.ownLo hk))
  clear hm hbd hlo hb2 HBO
  have hptr := fun W => (by kernel_rfl : (binOp .eql 28 (.pointer (some ⟨g.q, 0, none⟩)) (.pointer none)).run Tryz.prog W = .ok (.bool false) W)
  dsimp only
  by_cases h20 : 20 < es.length
  · have d0 : decide ((20 : Int) < es.length) = true := decide_eq_true (by omega)
    clear h20
    go_wp2
    go_ret
    exact ⟨rfl, HB2.out⟩
  have d20 : decide ((20 : Int) < es.length) = false := decide_eq_false (by omega)
  have hl20 : es.length ≤ 20 := by omega
  have HNW := Lib.hid (new_stk (w := w2) (v := .slice none 0 0) (l := []) (.inl ⟨none, 0, rfl, rfl⟩) (by simp))
  clear h20
  go_wp2_with fail
  refine HNW.out.mono ?_
  rintro e w3 ⟨b, gk, rfl, hs3, hb3⟩
  have HBD3 := Lib.hid (HBD.out.later hb3)
  have HB3 := Lib.hid (stepB HB2.out hb3)
  have HS3 : Hid (StackAt w3 w2.heap.size b gk ((es.take 0).take 8)) := Lib.hid hs3
  have HOWN := Lib.hid (show ∀ k, g.own k → k < w2.heap.size from fun k hk => HBD.out.ownLt hk)
  clear hs3 hb3 HNW HBD
  dsimp only
  go_upto_block 0 with fail
  go_cut [30] from 31 to 42 (fun _ wx => ∃ gk', Hid (StackAt wx w2.heap.size b gk' (es.take 8)) ∧ Hid (BoardAt wx lo g (boardL l 0)) ∧ Hid (Below w.heap.size w wx))
  case first =>
    go_wp2_with fail
    go_loopw [30] (fun i wr => ∃ (k : Nat) (gk' : Option Nat), k ≤ es.length ∧ i = .int .i64 k ∧ Hid (StackAt wr w2.heap.size b gk' ((es.take k).take 8)) ∧ Hid (BoardAt wr lo g (boardL l 0)) ∧ Hid (Below w.heap.size w wr)) (fun i _ => es.length - (intOf i).toNat)
    case atStart => exact ⟨0, gk, Nat.zero_le _, rfl, HS3, HBD3, HB3⟩
    case round =>
      obtain ⟨k, gk', hk, rfl, HS, HBR, HB⟩ := hrel
      by_cases hlt : k < es.length
      · have d0 : decide ((k : Int) < es.length) = true := decide_eq_true (by omega)
        obtain ⟨bb, off, rfl, hbb, s0, s1, s2, s3⟩ := (HE.out.later HB.out).at k hlt
        have hlen8 : ((es.take k).take 8).length = min k 8 := by rw [List.length_take, List.length_take]; omega
        have HT8 := Lib.hid (And.intro (take8_lt (l := es) hlt) (take8_ge (l := es) (k := k)))
        obtain ⟨x, hx⟩ : ∃ x, es[k] = x := ⟨_, rfl⟩
        rw [hx] at s0 s1 s2 s3 HT8
        obtain ⟨x0, x1, x2, x3⟩ := x
        dsimp only at s0 s1 s2 s3
        have hb1 := below_new wr (.cells #[.int .i64 x0, .int .i64 x1, .int .i64 x2, .bool x3] 59)
        have HS1 := Lib.hid (HS.out.later hb1)
        have HBR1 := Lib.hid (HBR.out.later hb1)
        have HB1 := Lib.hid (stepB HB.out hb1)
        have HOS := Lib.hid (show ∀ q, g.own q → ¬ownK b gk' q from fun q h1 h2 => by have h3 := HOWN.out q h1; have h4 := HS1.out.ownLo h2; omega)
        have HWL := Lib.hid (show ∀ q, ownK b gk' q → w.heap.size ≤ q from fun q h2 => Nat.le_trans HB2.out.size (HS1.out.ownLo h2))
        have hk20 : k ≤ 20 := by omega
        by_cases h8 : k < 8
        · have d8 : decide ((k : Int) < 8) = true := decide_eq_true (by omega)
          have HP := Lib.hid (push_ok ⟨x0, x1, x2, x3⟩ HS1.out (by omega))
          have HN := Lib.hid (HT8.out.1 h8)
          unfold entV at HP
          dsimp only at HP
          clear hx hb1 hlen8 h8
          go_wp2_with fail
          refine HP.out.mono ?_
          rintro e w4 ⟨g', rfl, hs2, hc2, hn2⟩
          have HS2 := Lib.hid hs2
          have ht2 := chg_o hc2 hn2
          have HBR2 := Lib.hid (HBR1.out.farO ht2 (fun q h1 h2 => HOS.out q h2 h1))
          have HB2' := Lib.hid (ht2.below HB1.out HWL.out)
          clear hs2 hc2 hn2 ht2 HP s0 s1 s2 s3
          go_wp2
          go_roundw
          case rel => exact ⟨k + 1, g', by omega, by go_num, Lib.hid (by rw [HN.out]; exact HS2.out), HBR2, HB2'⟩
          case measure => simp [intOf]; omega
        · have d8 : decide ((k : Int) < 8) = false := decide_eq_false (by omega)
          have HP := Lib.hid (push_full ⟨x0, x1, x2, x3⟩ HS1.out (by omega))
          have HN := Lib.hid (HT8.out.2 (by omega))
          unfold entV at HP
          dsimp only at HP
          clear hx hb1 hlen8 h8
          go_wp2_with fail
          refine HP.out.mono ?_
          rintro e w4 ⟨rfl, hb4⟩
          have HS2 := Lib.hid (HS1.out.later hb4)
          have HBR2 := Lib.hid (HBR1.out.later hb4)
          have HB2' := Lib.hid (stepB HB1.out hb4)
          clear hb4 HP s0 s1 s2 s3
          go_wp2
          go_roundw
          case rel => exact ⟨k + 1, gk', by omega, by go_num, Lib.hid (by rw [HN.out]; exact HS2.out), HBR2, HB2'⟩
          case measure => simp [intOf]; omega
      · obtain rfl : k = es.length := by omega
        have HS' := Lib.hid (show StackAt wr w2.heap.size b gk' (es.take 8) from by have h := HS.out; rwa [List.take_length] at h)
        go_wp2
        go_meet
        case rel => exact ⟨gk', HS', HBR, HB⟩
  case rest =>
  obtain ⟨gk1, HS4, HBD4, HB4⟩ := hcut
  obtain ⟨w4, rfl⟩ : ∃ w4, w4 = wc := ⟨_, rfl⟩
  obtain ⟨n, hn⟩ : ∃ n, min es.length 8 = n := ⟨_, rfl⟩
  have hn2 : min (es.length : Int) 8 = (n : Int) := by omega
  have hn8 : n ≤ 8 := by omega
  have HNL := Lib.hid (show n ≤ es.length by omega)
  have htk : es.take 8 = es.take n := by
    rw [← hn]
    by_cases h : es.length ≤ 8
    · rw [show min es.length 8 = es.length by omega, List.take_length, List.take_of_length_le h]
    · rw [show min es.length 8 = 8 by omega]
  have HS5 := Lib.hid (show StackAt w4 w2.heap.size b gk1 (es.take n) from by have h := HS4.out; rwa [htk] at h)
  clear hn htk HS3 HBD3 HB3 HS4
  go_wp2_with fail
  go_loopw [10] (fun i wr => ∃ (j : Nat) (z : Int) (gk' : Option Nat) (g' : GhostB) (B' : BoardL), j ≤ n ∧ i = .int .i64 z ∧ Hid (z = (j : Int) - 1) ∧ Hid (StackAt wr w2.heap.size b gk' (es.take j)) ∧ Hid (BoardAt wr lo g' B') ∧ Hid (∀ k, g'.own k → ¬ownK b gk' k) ∧ Hid (∀ k, (g'.own k ∨ ownK b gk' k) → w.heap.size ≤ k) ∧ Hid (Below w.heap.size w wr) ∧ Hid (g'.q = g.q)) (fun i _ => (intOf i + 1).toNat)
  case atStart =>
    exact ⟨n, (n : Int) - 1, gk1, g, _, Nat.le_refl _, rfl, Lib.hid rfl, HS5, HBD4, Lib.hid (fun q h1 h2 => by have h3 := HOWN.out q h1; have h4 := HS5.out.ownLo h2; omega), Lib.hid (fun q h => by
      rcases h with h | h
      · exact HLO.out q h
      · exact Nat.le_trans HB2.out.size (HS5.out.ownLo h)), HB4, Lib.hid rfl⟩
  case round =>
    obtain ⟨j, z, gk', g', B', hj, rfl, HZ, HS, HBR, HAP, HOL, HB, HQ⟩ := hrel
    cases j with
    | zero =>
      obtain rfl : z = -1 := by have := HZ.out; omega
      have HL0 := Lib.hid (len_stk HS.out)
      have HR0 := Lib.hid (room_stk HS.out (by simp))
      rw [List.take_zero] at HL0 HR0
      go_wp2_with fail
      refine HL0.out.mono ?_
      rintro e w5 ⟨rfl, rfl⟩
      go_wp2_with fail
      refine HR0.out.mono ?_
      rintro e w6 ⟨rfl, rfl⟩
      go_wp2
      go_ret
      exact ⟨rfl, HB.out⟩
    | succ i =>
      obtain rfl : z = (i : Int) := by have := HZ.out; omega
      have hie : i < es.length := by have := HNL.out; omega
      have d0 : decide ((0 : Int) ≤ i) = true := decide_eq_true (by omega)
      have HTK := Lib.hid (take_last es i hie)
      obtain ⟨bb, off, hya, hbb, s0', s1', s2', s3'⟩ := (HE.out.later HB.out).at i hie
      obtain ⟨x, hx⟩ : ∃ x, es[i] = x := ⟨_, rfl⟩
      rw [hx] at HTK
      have hres := resolve_ok x HBR.out (by have h := HS.out; rw [HTK.out] at h; exact h) HAP.out (by rw [List.length_take]; omega)
      rw [HQ.out] at hres
      have HRS := Lib.hid hres
      have HX := Lib.hid hx
      clear hres s0' s1' s2' s3'
      go_wp2_with fail
      refine HRS.out.mono ?_
      rintro e w5 ⟨rfl, g5, gk5, hb5, hq5, hs5, ha5, ht5⟩
      obtain ⟨x0, x1, x2, x3⟩ := x
      simp only [entV]
      have hB5 := ht5.below HB.out HOL.out
      have hn5 := below_new w5 (.cells #[.int .i64 x0, .int .i64 x1, .int .i64 x2, .bool x3] 59)
      have h11 := heap_alloc_new w5 (.cells #[.int .i64 x0, .int .i64 x1, .int .i64 x2, .bool x3] 59)
      obtain ⟨W5, hW5⟩ : ∃ W5, w5.alloc (.cells #[.int .i64 x0, .int .i64 x1, .int .i64 x2, .bool x3] 59) = W5 := ⟨_, rfl⟩
      obtain ⟨q11, hq11⟩ : ∃ q11, w5.heap.size = q11 := ⟨_, rfl⟩
      rw [hW5] at hn5 h11
      rw [hq11] at h11
      have HW5 := Lib.hid hW5
      have HQ11 := Lib.hid hq11
      have HB5 := Lib.hid (stepB hB5 hn5)
      have HBD5 := Lib.hid (hb5.later hn5)
      have HS5' := Lib.hid (hs5.later hn5)
      have HAP5 := Lib.hid ha5
      have HQ5 := Lib.hid (hq5.trans HQ.out)
      have HOL5 := Lib.hid (show ∀ k, (g5.own k ∨ ownK b gk5 k) → w.heap.size ≤ k from fun k hk => by
        by_cases hlt : k < wr.heap.size
        · exact HOL.out k (ht5.own k hlt hk)
        · have := HB.out.size; omega)
      have HR11 := Lib.hid h11
      have HOFF := Lib.hid (work_off B' ⟨x0, x1, x2, x3⟩)
      obtain ⟨bb', off', hya', -, s0, s1, s2, s3⟩ := (HE.out.later HB5.out).at i hie
      rw [hya] at hya'
      injection hya' with hya'
      injection hya' with e1 e2 _
      subst e1 e2
      rw [HX.out] at s0 s1 s2 s3
      dsimp only at s0 s1 s2 s3
      subst hya
      have m0 := cell_of_row W5 q11 0 _ _ _ h11
      have m1 := cell_of_row W5 q11 1 _ _ _ h11
      have m2 := cell_of_row W5 q11 2 _ _ _ h11
      have m3 := cell_of_row W5 q11 3 _ _ _ h11
      have hE : (x0 == x0 && (x1 == x1 && (x2 == x2 && x3 == x3))) = true := by simp
      have h3 := fun W => neqEnt x0 x0 x1 x1 x2 x2 x3 x3 W
      rw [hE] at h3
      have h2 := @neqgE
      have d1 : (i : Int) < es.length := by omega
      have d2 : (0 : Int) ≤ i := by omega
      clear hb5 hq5 hs5 ha5 ht5 hB5 hn5 h11 hW5 hq11 hE HRS
      go_upto_region 18 with fail
      rw [HW5.out]
      simp only [HQ11.out]
      go_quiet (fail)
      obtain ⟨w6, hw6⟩ : ∃ w6, W5.drewN nq = w6 := ⟨_, rfl⟩
      have hb6 : Below W5.heap.size W5 w6 := hw6 ▸ below_drewN (Below.refl _ _) nq
      have HB6 := Lib.hid (stepB HB5.out hb6)
      have HBD6 := Lib.hid (HBD5.out.later hb6)
      have HS6 := Lib.hid (HS5'.out.later hb6)
      have HR6 := Lib.hid ((hb6.block q11 (Crd.lt_of_row HR11.out)).trans HR11.out)
      rw [hw6]
      clear s0 s1 s2 s3 m0 m1 m2 m3 hw6 hb6 h3 h2 HBD5 HS5' HB5 HR11
      obtain ⟨o, ho⟩ : ∃ o, objI (workE B' ⟨x0, x1, x2, x3⟩).1.S x1 = o := ⟨_, rfl⟩
      obtain ⟨er, her⟩ : ∃ er, errI (workE B' ⟨x0, x1, x2, x3⟩).1.S x1 = er := ⟨_, rfl⟩
      have HER := Lib.hid (show er = 0 ∨ er = 7 from her ▸ errI_cases _ _)
      have HGE := Lib.hid (fun (w' : World) (hb : Below w6.heap.size w6 w') => show Calls Tryz.prog 13 #[.pointer (some ⟨g5.b, 0, none⟩), .int .i64 x1] w' (RetGet w' o er) from by have := getI_any (HBD6.out.later hb) x1; rw [ho, her] at this; exact this)
      have HZN := Lib.hid (show x3 = false → o.zone ≠ 4 from fun h => by have := HOFF.out h; dsimp only at this; rwa [ho] at this)
      obtain ⟨y0, y1, y2, y3, y4, y5, y6, y7, y8, y9, y10⟩ := o
      unfold RetGet oagg at HGE
      dsimp only at HGE HZN
      have m1 := cell_of_row w6 q11 1 _ _ _ HR6.out
      obtain ⟨cw, -⟩ := HBD6.out.cells
      rw [HQ5.out] at cw
      have hgl : g.q < w6.heap.size := by rw [← HQ5.out]; exact HBD6.out.lt
      have hql : q11 < w6.heap.size := Crd.lt_of_row HR6.out
      have mk : (w6.alloc (.cells #[.int .i64 0, .int .i64 0, .int .i64 0, .int .i64 0, .bool false, .bool false, .int .i64 0, .int .i64 0, .int .i64 0, .int .i64 0, .bool false] 35)).cell? ⟨q11, 1, none⟩ = some (.int .i64 x1) := by rw [(below_new w6 _).cell (p := ⟨q11, 1, none⟩) hql]; exact m1
      have mw : (w6.alloc (.cells #[.int .i64 0, .int .i64 0, .int .i64 0, .int .i64 0, .bool false, .bool false, .int .i64 0, .int .i64 0, .int .i64 0, .int .i64 0, .bool false] 35)).cell? ⟨g.q, 0, none⟩ = some (.pointer (some ⟨g5.b, 0, none⟩)) := by rw [(below_new w6 _).cell (p := ⟨g.q, 0, none⟩) hgl]; exact cw
      clear ho her
      go_upto_region 20 with fail
      go_cut [14, 15] from 69 to 78 (fun s14 s15 wx => ∃ q14, s14 = .pointer (some ⟨q14, 0, none⟩) ∧ s15 = .int .i64 er ∧ Hid (wx.cell? ⟨q14, 3, none⟩ = some (.int .i64 y3)) ∧ Hid (Below w6.heap.size w6 wx))
      case first =>
          (go_region_with ((go_at_call 13; first
              | (refine (HGE.out _ (Below.refl _ _).drew).mono ?_
                 rintro e w5 ⟨rfl, hb5⟩
                 have HB5 := Lib.hid (stepB (Below.refl w6.heap.size w6).drew hb5)
                 clear hb5
                 dsimp only)
              | (refine (HGE.out _ (below_alloc2 (Below.refl _ _).drew _)).mono ?_
                 rintro e w5 ⟨rfl, hb5⟩
                 have hrw : w5.heap[w6.heap.size]? = some (.cells #[.int .i64 0, .int .i64 0, .int .i64 0, .int .i64 0, .bool false, .bool false, .int .i64 0, .int .i64 0, .int .i64 0, .int .i64 0, .bool false] 35 (0, 0)) := (hb5.block w6.heap.size (by simp)).trans (heap_alloc_new _ _)
                 have hC := fun k => hb5.cell (p := ⟨w6.heap.size, k, none⟩) (by simp)
                 have hF := fun k => hb5.frozen (p := ⟨w6.heap.size, k, none⟩) (by simp)
                 have c0 : w5.cell? ⟨w6.heap.size, 0, none⟩ = some (.int .i64 0) := by rw [hC]; simp [go_sem]
                 have c1 : w5.cell? ⟨w6.heap.size, 1, none⟩ = some (.int .i64 0) := by rw [hC]; simp [go_sem]
                 have c2 : w5.cell? ⟨w6.heap.size, 2, none⟩ = some (.int .i64 0) := by rw [hC]; simp [go_sem]
                 have c3 : w5.cell? ⟨w6.heap.size, 3, none⟩ = some (.int .i64 0) := by rw [hC]; simp [go_sem]
                 have c4 : w5.cell? ⟨w6.heap.size, 4, none⟩ = some (.bool false) := by rw [hC]; simp [go_sem]
                 have c5 : w5.cell? ⟨w6.heap.size, 5, none⟩ = some (.bool false) := by rw [hC]; simp [go_sem]
                 have c6 : w5.cell? ⟨w6.heap.size, 6, none⟩ = some (.int .i64 0) := by rw [hC]; simp [go_sem]
                 have c7 : w5.cell? ⟨w6.heap.size, 7, none⟩ = some (.int .i64 0) := by rw [hC]; simp [go_sem]
                 have c8 : w5.cell? ⟨w6.heap.size, 8, none⟩ = some (.int .i64 0) := by rw [hC]; simp [go_sem]
                 have c9 : w5.cell? ⟨w6.heap.size, 9, none⟩ = some (.int .i64 0) := by rw [hC]; simp [go_sem]
                 have c10 : w5.cell? ⟨w6.heap.size, 10, none⟩ = some (.bool false) := by rw [hC]; simp [go_sem]
                 have f0 : w5.frozen? ⟨w6.heap.size, 0, none⟩ = false := by rw [hF]; simp [go_sem]
                 have f1 : w5.frozen? ⟨w6.heap.size, 1, none⟩ = false := by rw [hF]; simp [go_sem]
                 have f2 : w5.frozen? ⟨w6.heap.size, 2, none⟩ = false := by rw [hF]; simp [go_sem]
                 have f3 : w5.frozen? ⟨w6.heap.size, 3, none⟩ = false := by rw [hF]; simp [go_sem]
                 have f4 : w5.frozen? ⟨w6.heap.size, 4, none⟩ = false := by rw [hF]; simp [go_sem]
                 have f5 : w5.frozen? ⟨w6.heap.size, 5, none⟩ = false := by rw [hF]; simp [go_sem]
                 have f6 : w5.frozen? ⟨w6.heap.size, 6, none⟩ = false := by rw [hF]; simp [go_sem]
                 have f7 : w5.frozen? ⟨w6.heap.size, 7, none⟩ = false := by rw [hF]; simp [go_sem]
                 have f8 : w5.frozen? ⟨w6.heap.size, 8, none⟩ = false := by rw [hF]; simp [go_sem]
                 have f9 : w5.frozen? ⟨w6.heap.size, 9, none⟩ = false := by rw [hF]; simp [go_sem]
                 have f10 : w5.frozen? ⟨w6.heap.size, 10, none⟩ = false := by rw [hF]; simp [go_sem]
                 have HB5 := Lib.hid (stepB (below_alloc2 (Below.refl w6.heap.size w6).drew _) hb5)
                 clear hC hF hb5
                 dsimp only)))) <;> (
            go_wp2
            go_meet
            case rel => first
              | (have hmine := c1; exact ⟨w6.heap.size, rfl, rfl, Lib.hid (cell_of_row _ _ 3 _ _ _ (set11row _ _ _ _ _ _ _ _ _ _ _ hrw rfl)), Lib.hid (((((((((((HB5.out.setCell (Nat.le_refl _) _).setCell (Nat.le_refl _) _).setCell (Nat.le_refl _) _).setCell (Nat.le_refl _) _).setCell (Nat.le_refl _) _).setCell (Nat.le_refl _) _).setCell (Nat.le_refl _) _).setCell (Nat.le_refl _) _).setCell (Nat.le_refl _) _).setCell (Nat.le_refl _) _).setCell (Nat.le_refl _) _)⟩)
              | exact ⟨_, rfl, rfl, Lib.hid (cell_of_row _ _ 3 _ _ _ (heap_alloc_new _ _)), Lib.hid (below_alloc2 HB5.out _)⟩)
      case rest =>
        obtain ⟨q14, rfl, rfl, HZC, HBX⟩ := hcut
        obtain ⟨w7, rfl⟩ : ∃ w7, w7 = wc := ⟨_, rfl⟩
        have z3 := HZC.out
        have m3 := cell_of_row w7 q11 3 _ _ _ ((HBX.out.block q11 (Crd.lt_of_row HR6.out)).trans HR6.out)
        have HB7 := Lib.hid (stepB HB6.out HBX.out)
        have HBD7 := Lib.hid (HBD6.out.later HBX.out)
        have HS7 := Lib.hid (HS6.out.later HBX.out)
        clear cw hgl hql mk mw m1
        have hrel : Hid (∃ (j : Nat) (gk' : Option Nat) (g' : GhostB) (B' : BoardL), j ≤ n ∧ ((i : Int) - 1 = (j : Int) - 1) ∧ StackAt w7 w2.heap.size b gk' (es.take j) ∧ BoardAt w7 lo g' B' ∧ (∀ k, g'.own k → ¬ownK b gk' k) ∧ (∀ k, (g'.own k ∨ ownK b gk' k) → w.heap.size ≤ k) ∧ g'.q = g.q) := Lib.hid ⟨i, gk5, g5, _, by omega, rfl, HS7.out, HBD7.out, HAP5.out, HOL5.out, HQ5.out⟩
        rcases HER.out with rfl | rfl
        · cases x3 with
          | true =>
            go_wp2
            go_roundw
            case rel =>
              obtain ⟨j, gk', g', B', h1, h2, h3, h4, h5, h6, h7⟩ := hrel.out
              exact ⟨j, (i : Int) - 1, gk', g', B', h1, by go_num, Lib.hid h2, Lib.hid h3, Lib.hid h4, Lib.hid h5, Lib.hid h6, HB7, Lib.hid h7⟩
            case measure => simp [intOf]
          | false =>
            have ez : (y3 == 4) = false := beq_eq_false_iff_ne.2 (HZN.out rfl)
            go_wp2
            go_roundw
            case rel =>
              obtain ⟨j, gk', g', B', h1, h2, h3, h4, h5, h6, h7⟩ := hrel.out
              exact ⟨j, (i : Int) - 1, gk', g', B', h1, by go_num, Lib.hid h2, Lib.hid h3, Lib.hid h4, Lib.hid h5, Lib.hid h6, HB7, Lib.hid h7⟩
            case measure => simp [intOf]
        · go_wp2
          go_roundw
          case rel =>
            obtain ⟨j, gk', g', B', h1, h2, h3, h4, h5, h6, h7⟩ := hrel.out
            exact ⟨j, (i : Int) - 1, gk', g', B', h1, by go_num, Lib.hid h2, Lib.hid h3, Lib.hid h4, Lib.hid h5, Lib.hid h6, HB7, Lib.hid h7⟩
          case measure => simp [intOf]
end Go.Proofs.YtgjojjhppgjkkaaGreat
