/- hydralaw17's Board: creatures on the Field of a table made for them, on sides (layer 17). -/
import Derived.Test.YtjgjhfeopmakaaaGreatQk
namespace Go.Proofs.YtjgjhfeopmakaaaGreat
open Go.RowKit Go.Maps
attribute [local go_sem] Oper.semAt_some

theorem TeamAt.stays {w w' : World} {lo b s r : Nat} {T : TeamL} (h : TeamAt w lo b s r T) (hs : w.heap.size ≤ w'.heap.size) (h1 : w'.heap[b]? = w.heap[b]?) (h2 : w'.heap[s]? = w.heap[s]?) (h3 : w'.heap[r]? = w.heap[r]?) : TeamAt w' lo b s r T := by
  obtain ⟨c1, c2, h0⟩ := h.hd
  obtain ⟨cur, hr, ht⟩ := h.rw
  exact ⟨⟨c1, c2, h1.trans h0⟩, ⟨Nat.lt_of_lt_of_le h.sd.1 hs, fun k hkk => (World.cell?_of_block h2).trans (h.sd.2 k hkk)⟩, ⟨cur, h3.trans hr, ht⟩, h.lb, h.ls, h.lr, h.br, h.sr, h.n1, h.n2, h.nd⟩
theorem table17 {l : List ManL} (hl : l.length ≤ 20) : Crd.tableE (l.map cardM) = if (l.map cardM).all Crd.mayB then 0 else 8 := by
  unfold Crd.tableE
  rw [if_neg (by rw [List.length_map]; omega)]
theorem small17 (l : List ManL) : Crd.SmallC (l.map cardM) := fun c hc => by
  obtain ⟨m, _, rfl⟩ := List.mem_map.1 hc
  simp [cardM]
theorem keepM {W : World} {qm qo j : Nat} {u v4 v5 v6 v7 v8 : Value} (hne : qm ≠ qo) (h : W.cell? ⟨qm, 4, none⟩ = some v4 ∧ W.cell? ⟨qm, 5, none⟩ = some v5 ∧ W.cell? ⟨qm, 6, none⟩ = some v6 ∧ W.cell? ⟨qm, 7, none⟩ = some v7 ∧ W.cell? ⟨qm, 8, none⟩ = some v8) :
    (W.setCell ⟨qo, j, none⟩ u).cell? ⟨qm, 4, none⟩ = some v4 ∧ (W.setCell ⟨qo, j, none⟩ u).cell? ⟨qm, 5, none⟩ = some v5 ∧ (W.setCell ⟨qo, j, none⟩ u).cell? ⟨qm, 6, none⟩ = some v6 ∧ (W.setCell ⟨qo, j, none⟩ u).cell? ⟨qm, 7, none⟩ = some v7 ∧ (W.setCell ⟨qo, j, none⟩ u).cell? ⟨qm, 8, none⟩ = some v8 := by
  have e : ∀ i, (W.setCell ⟨qo, j, none⟩ u).cell? ⟨qm, i, none⟩ = W.cell? ⟨qm, i, none⟩ := fun i => World.cell?_of_block (w := W) (a := ⟨qm, i, none⟩) (heap_setCell_other W ⟨qo, j, none⟩ qm u hne)
  simp only [e]
  exact h
set_option maxRecDepth 100000 in
set_option maxHeartbeats 16000000 in
theorem board17_any {w : World} {v : Value} {l : List ManL} (hv : MansAt w v l) (hw : ∀ x ∈ l, Wf x.owner) (hlen : l.length ≤ 9223372036854775807) (n : Nat) (hn : n < 256) :
    Calls Tryz.prog 7 #[v, .int .u8 n] w (RetB17 w l n) := by
  have HV := Lib.hid hv
  have HW := Lib.hid hw
  have HSD := Lib.hid (fun (w' : World) => sides_any hn w')
  have HN4 := Lib.hid (sides_len n)
  obtain ⟨va, vc, rfl⟩ := hv.form
  clear hv hw
  by_cases h20 : 20 < l.length
  · have d0 : decide ((20 : Int) < l.length) = true := decide_eq_true (by omega)
    have d0' : decide (20 < l.length) = true := decide_eq_true (by omega)
    have HN := Lib.hid (show ¬play17 l from fun h => by have := h.1; omega)
    go_enter Tryz.func7, Tryz.ntmps7
    go_wp2
    go_ret
    exact .inr ⟨HN.out, rfl, Below.refl _ _⟩
  have d0 : decide ((20 : Int) < l.length) = false := decide_eq_false (by omega)
  have d0' : decide (20 < l.length) = false := decide_eq_false (by omega)
  have hl20 : l.length ≤ 20 := by omega
  go_enter Tryz.func7, Tryz.ntmps7
  go_wp2
  go_loopw [5, 23] (fun a b wr => ∃ (k : Nat) (xa : Option Addr) (xc : Nat), k ≤ l.length ∧ a = .slice xa k xc ∧ b = .int .i64 k ∧ Hid (wr.ownsRow w.heap.size 65 7 (.slice xa k xc) k (crdV (l.take k))) ∧ Hid (Below w.heap.size w wr)) (fun _ b _ => l.length - (intOf b).toNat)
  case atStart => exact ⟨0, none, 0, Nat.zero_le _, rfl, rfl, Lib.hid (World.ownsRow_nil _ _ _ _), Lib.hid (Below.refl _ _)⟩
  case round =>
    obtain ⟨k, xa, xc, hk, rfl, rfl, HO, HB⟩ := hrel
    by_cases hlt : k < l.length
    · obtain ⟨ab, off, rfl, t0, t1, t2, t3, t4, t5, t6, t7, t8⟩ := (HV.out.later HB.out).at k hlt
      have htk := take_last l k hlt
      have HTL := Lib.hid (show (l.take k).length = k from by rw [List.length_take]; omega)
      obtain ⟨x, hx⟩ : ∃ x, l[k] = x := ⟨_, rfl⟩
      rw [hx] at t0 t1 t2 t3 t4 t5 t6 t7 t8 htk
      have HTK := Lib.hid htk
      have dk : decide ((k : Int) < l.length) = true := decide_eq_true (by omega)
      have hbm := below_new wr (.cells #[.int .i64 x.power, .int .i64 x.tough, .int .i64 x.keys, .int .i64 x.owner, .int .i64 x.hurt, .int .i64 x.block, .bool x.tapped, .bool x.sick, .bool x.attacks] 42)
      have HO1 := Lib.hid (crd_later HO.out hbm)
      have HB1 := Lib.hid (stepB HB.out hbm)
      obtain ⟨L0, hL0⟩ : ∃ L0, l.take k = L0 := ⟨_, rfl⟩
      rw [hL0] at HO1 HTL HTK
      obtain rfl : k = L0.length := HTL.out.symm
      obtain ⟨y0, y1, y2, y3, y4, y5, y6, y7, y8⟩ := x
      dsimp only at t0 t1 t2 t3 t4 t5 t6 t7 t8 HO1 HB1
      have r0 := heap_alloc_new wr (.cells #[.int .i64 y0, .int .i64 y1, .int .i64 y2, .int .i64 y3, .int .i64 y4, .int .i64 y5, .bool y6, .bool y7, .bool y8] 42)
      obtain ⟨WM, hWM⟩ : ∃ WM, wr.alloc (.cells #[.int .i64 y0, .int .i64 y1, .int .i64 y2, .int .i64 y3, .int .i64 y4, .int .i64 y5, .bool y6, .bool y7, .bool y8] 42) = WM := ⟨_, rfl⟩
      rw [hWM] at HO1 HB1 r0
      have q0 := cell_of_row WM wr.heap.size 0 _ _ _ r0
      have q1 := cell_of_row WM wr.heap.size 1 _ _ _ r0
      have q2 := cell_of_row WM wr.heap.size 2 _ _ _ r0
      simp only [List.getElem?_toArray, List.getElem?_cons_succ, List.getElem?_cons_zero] at q0 q1 q2
      have HR9 := Lib.hid (show (WM.alloc (.cells #[.int .i64 2, .int .i64 0, .int .i64 y0, .int .i64 y1, .int .i64 y2, .int .i64 0, .slice none 0 0] 65)).ownsRow w.heap.size 65 7 (.slice xa L0.length xc) L0.length (crdV L0) from crd_later HO1.out (below_new WM _))
      have hlen9 : L0.length ≤ 1000 := by have := HTL.out; omega
      have hlo9 : w.heap.size ≤ (WM.alloc (.cells #[.int .i64 2, .int .i64 0, .int .i64 y0, .int .i64 y1, .int .i64 y2, .int .i64 0, .slice none 0 0] 65)).heap.size := by have := HB1.out.size; simp; omega
      clear hx htk hbm hL0 r0
      go_wp2_with (at_builtin; refine wpList_push_card rfl _ _ rfl w.heap.size (.slice xa L0.length xc) L0 ⟨y0, y1, y2, y3, y4, y5, y6, y7, y8⟩ rfl WM.heap.size HR9.out rfl (heap_alloc_new WM _) hlen9 hlo9 ?f)
      case f =>
        intro ga cap w8 hown hgrow hat hlt8
        rw [← HTK.out] at hown
        have HO8 := Lib.hid hown
        have HB8 := Lib.hid (show Below w.heap.size w w8 from grown_of (HB1.out.alloc HB1.out.size _) hgrow (fun k e => (World.ownsRow.lt HR9.out k e).1))
        clear hown hgrow hat hlt8 hlen9 hlo9
        go_wp2
        go_roundw
        case rel => exact ⟨L0.length + 1, some ⟨ga, 0, none⟩, cap, by omega, rfl, by go_num, HO8, HB8⟩
        case measure => simp [intOf]; omega
    · obtain rfl : k = l.length := by omega
      have dk : decide ((l.length : Int) < l.length) = false := decide_eq_false (by omega)
      have hown := HO.out
      rw [List.take_length] at hown
      have hcs := crd_cards hown
      have HCS := Lib.hid hcs
      obtain ⟨wC, hwC⟩ : ∃ wC, wr = wC := ⟨_, rfl⟩
      subst hwC
      have HBC := HB
      clear hown HO HB
      by_cases hmay : (l.map cardM).all Crd.mayB = true
      · have hte : Crd.tableE (l.map cardM) = 0 := by rw [table17 hl20, if_pos hmay]
        have HNW := Lib.hid (newS_ok hcs hte 4 (by decide) (by decide))
        clear hcs
        go_wp2_with fail
        refine HNW.out.mono ?_
        rintro e w2 ⟨b, G, rfl, hst, hb2⟩
        have HB2 := Lib.hid (stepB HBC.out hb2)
        have HS2 := Lib.hid hst
        have HL2 := Lib.hid (And.intro HBC.out.size hb2.size)
        obtain ⟨lo, hlo⟩ : ∃ lo, wr.heap.size = lo := ⟨_, rfl⟩
        rw [hlo] at HS2 HL2
        clear hst hb2 hlo HNW
        dsimp only
        go_wp2_with fail
        refine (HSD.out _).mono ?_
        rintro e w3 ⟨lo2, tb, s, r, rfl, ht2, hlo2, hb3⟩
        have HT3 := Lib.hid ht2
        have HB3 := Lib.hid (stepB HB2.out hb3)
        have HS3 := Lib.hid (HS2.out.later hb3)
        have HL3 := Lib.hid (show lo ≤ w3.heap.size from Nat.le_trans HL2.out.2 hb3.size)
        have HTF := Lib.hid (show ∀ q, G.tag q ≠ .no → q < w2.heap.size from fun q hq => Nat.lt_of_not_le fun h => hq (HS2.out.high q h))
        have HTL := Lib.hid hlo2
        clear ht2 hb3 hlo2 HS2 HB2
        dsimp only
        go_wp2
        go_loopw [57] (fun i wr => ∃ (k : Nat) (G : Ghost) (S : StoreL), k ≤ l.length ∧ i = .int .i64 k ∧ Hid (StoreAt wr lo b G S) ∧ Hid (Made17 (l.map cardM) S (l.take k)) ∧ Hid (Below w.heap.size w wr) ∧ Hid (lo ≤ wr.heap.size) ∧ Hid ((l.take k).all okM = true) ∧ Hid (TeamAt wr lo2 tb s r (sidesT n) ∧ G.tag tb = .no ∧ G.tag s = .no ∧ G.tag r = .no)) (fun i _ => l.length - (intOf i).toNat)
        case atStart =>
          have hno : ∀ q, lo2 ≤ q → G.tag q = .no := fun q hq => Classical.byContradiction fun h => by have := HTF.out q h; have := HTL.out; omega
          exact ⟨0, G, _, Nat.zero_le _, rfl, HS3, Lib.hid (by rw [List.take_zero]; exact made17_none _), HB3, HL3, Lib.hid rfl, Lib.hid ⟨HT3.out, hno _ HT3.out.lb, hno _ HT3.out.ls, hno _ HT3.out.lr⟩⟩
        case round =>
          obtain ⟨k, G3, S3, hk, rfl, H3, HM3, HB3, HL3, HOK, HTT⟩ := hrel
          by_cases hlt : k < l.length
          · obtain ⟨ab, off, rfl, t0, t1, t2, t3, t4, t5, t6, t7, t8⟩ := (HV.out.later HB3.out).at k hlt
            have htk := take_last l k hlt
            have hwx := HW.out l[k] (List.getElem_mem hlt)
            have hall : okM l[k] = false → l.all okM = false := Crd.allB_not hlt
            have htl : (l.take k).length = k := by rw [List.length_take]; omega
            have hkT : k < (l.map cardM).length := by rw [List.length_map]; exact hlt
            have dk : decide ((k : Int) < l.length) = true := decide_eq_true (by omega)
            obtain ⟨x, hx⟩ : ∃ x, l[k] = x := ⟨_, rfl⟩
            rw [hx] at t0 t1 t2 t3 t4 t5 t6 t7 t8 htk hwx hall
            have HTK := Lib.hid htk
            have hlen3 : S3.objs.length = k := by rw [HM3.out.len]; exact htl
            clear hx htk
            by_cases hok : okM x = true
            · have hm4 := HM3.out.step x hok (by rw [htl]; exact hkT)
              have hok2 := hok
              simp only [okM, decide_eq_true_eq] at hok2
              obtain ⟨y0, y1, y2, y3, y4, y5, y6, y7, y8⟩ := x
              dsimp only at hok2 t0 t1 t2 t3 t4 t5 t6 t7 t8
              obtain ⟨ow, rfl⟩ : ∃ n : Nat, y3 = n := ⟨y3.toNat, by omega⟩
              have hb0 := below_new wr (.cells #[.int .i64 y0, .int .i64 y1, .int .i64 y2, .int .i64 ow, .int .i64 y4, .int .i64 y5, .bool y6, .bool y7, .bool y8] 42)
              have hrM := heap_alloc_new wr (.cells #[.int .i64 y0, .int .i64 y1, .int .i64 y2, .int .i64 ow, .int .i64 y4, .int .i64 y5, .bool y6, .bool y7, .bool y8] 42)
              have HAD := Lib.hid (add_ok (H3.out.later hb0) (by have := HL3.out; simp; omega) (HM3.out.wf.short (by omega)) k ow 3 (by rw [HM3.out.tab]; exact hkT) (by rw [HM3.out.seats]; omega) (by omega) (by omega))
              rw [hlen3] at HAD
              have HM4 := Lib.hid (show Made17 (l.map cardM) (setL (addL S3 k ow 3) k (manO k ⟨y0, y1, y2, ow, y4, y5, y6, y7, y8⟩)) (l.take (k + 1)) by rw [HTK.out]; have h := hm4; unfold step17 at h; rw [hlen3] at h; exact h)
              have HBW := Lib.hid (show ∀ q, G3.tag q ≠ .no → w.heap.size ≤ q from fun q hq => Nat.le_trans (by have := HL2.out.1; omega) (H3.out.low q hq))
              have HOK4 := Lib.hid (show (l.take (k + 1)).all okM = true by rw [HTK.out, List.all_append, HOK.out, Bool.true_and]; simp [hok])
              have hG3 : G3.tag wr.heap.size = .no := H3.out.high _ (Nat.le_refl _)
              have HG3 := Lib.hid hG3
              have HRM := Lib.hid hrM
              have HB0 := Lib.hid hb0
              have HWA := Lib.hid (show WfS (addL S3 k ow 3) from HM3.out.wf.add (by rw [HM3.out.tab]; exact hkT) (by rw [HM3.out.seats]; omega) (by omega) (by omega))
              have hlA : (addL S3 k ow 3).objs.length = k + 1 := by show (S3.objs ++ [_]).length = _; simp [hlen3]
              have hkA : k < (addL S3 k ow 3).objs.length := by omega
              have hatA : (addL S3 k ow 3).objs[k]'hkA = freshO S3.T ((k : Int) + 1) k ow (3 : Nat) := by
                have e : (S3.objs ++ [freshO S3.T ((S3.objs.length : Int) + 1) k ow (3 : Nat)])[k]'(by simp [hlen3]) = freshO S3.T ((k : Int) + 1) k ow (3 : Nat) := by
                  rw [List.getElem_append_right (by omega)]
                  simp [hlen3]
                exact e
              have HLA := Lib.hid (And.intro hlA (show ∃ h : k < (addL S3 k ow 3).objs.length, (addL S3 k ow 3).objs[k]'h = freshO S3.T ((k : Int) + 1) k ow (3 : Nat) from ⟨hkA, hatA⟩))
              clear hok hok2 hwx hall hb0 hm4 hlen3 hrM hG3 hlA hkA hatA htl
              go_wp2_with fail
              refine HAD.out.mono ?_
              rintro e w4 ⟨rfl, G4, hst4, ht4⟩
              have HT4 := Lib.hid ((Turned.of_below (G := G3) HB0.out).trans ht4)
              have HL4 := Lib.hid (Nat.le_trans HL3.out HT4.out.chg.size)
              have HR4 := Lib.hid (show w4.heap[wr.heap.size]? = _ from (ht4.chg.block _ (by simp) (.inl HG3.out)).trans HRM.out)
              have HST4 := Lib.hid hst4
              obtain ⟨hlA, hkA, hatA⟩ := HLA.out
              have hg := get_in hst4 (by omega) k hkA
              rw [hatA] at hg
              unfold RetGet oagg freshO at hg
              dsimp only at hg
              obtain ⟨sb, hsb⟩ : ∃ sb, (Option.map (fun c => sickB c ((3 : Nat) : Int)) S3.T[(k : Int).toNat]?).getD false = sb := ⟨_, rfl⟩
              rw [hsb] at hg
              have HG := Lib.hid hg
              clear hst4 ht4 t0 t1 t2 t3 t4 t5 t6 t7 t8 hg hsb hlA hkA hatA
              obtain ⟨qm, hqm⟩ : ∃ qm, wr.heap.size = qm := ⟨_, rfl⟩
              dsimp only
              go_wp2_with fail
              refine HG.out.mono ?_
              rintro e w5 ⟨rfl, hb5⟩
              have hb6 := below_alloc2 hb5 (.cells #[.int .i64 ((k : Int) + 1), .int .i64 k, .int .i64 ow, .int .i64 3, .bool false, .bool sb, .int .i64 0, .int .i64 0, .int .i64 0, .int .i64 0, .bool false] 30)
              have hrO := heap_alloc_new w5 (.cells #[.int .i64 ((k : Int) + 1), .int .i64 k, .int .i64 ow, .int .i64 3, .bool false, .bool sb, .int .i64 0, .int .i64 0, .int .i64 0, .int .i64 0, .bool false] 30)
              have hqq : qm < w4.heap.size := by rw [← hqm]; exact Crd.lt_of_row HR4.out
              have hr6 := (hb6.block _ (by rw [hqm]; exact hqq)).trans HR4.out
              rw [hqm] at hr6
              dsimp only
              go_upto_region 20 with fail
              obtain ⟨W5, hW5⟩ : ∃ W5, w5.alloc (.cells #[.int .i64 ((k : Int) + 1), .int .i64 k, .int .i64 ow, .int .i64 3, .bool false, .bool sb, .int .i64 0, .int .i64 0, .int .i64 0, .int .i64 0, .bool false] 30) = W5 := ⟨_, rfl⟩
              obtain ⟨qo, hqo⟩ : ∃ qo, w5.heap.size = qo := ⟨_, rfl⟩
              rw [hW5] at hb6 hr6 hrO ⊢
              rw [hqo] at hrO ⊢
              have HQO := Lib.hid (show w4.heap.size ≤ qo from by have := hb5.size; omega)
              have hne : qm ≠ qo := by have := HQO.out; omega
              have HB6 := Lib.hid hb6
              have HR6 := Lib.hid hrO
              have HS := Lib.hid (show W5.drew.cell? ⟨qm, 4, none⟩ = some (.int .i64 y4) ∧ W5.drew.cell? ⟨qm, 5, none⟩ = some (.int .i64 y5) ∧ W5.drew.cell? ⟨qm, 6, none⟩ = some (.bool y6) ∧ W5.drew.cell? ⟨qm, 7, none⟩ = some (.bool y7) ∧ W5.drew.cell? ⟨qm, 8, none⟩ = some (.bool y8) from
                ⟨cell_of_row W5 qm 4 _ _ _ hr6, cell_of_row W5 qm 5 _ _ _ hr6, cell_of_row W5 qm 6 _ _ _ hr6, cell_of_row W5 qm 7 _ _ _ hr6, cell_of_row W5 qm 8 _ _ _ hr6⟩)
              have rD : W5.drew.heap[qo]? = _ := hrO
              clear hb5 hb6 hrO hqq hr6 hW5 hqo
              obtain ⟨WD, hWD⟩ : ∃ WD, W5.drew = WD := ⟨_, rfl⟩
              have HBD := Lib.hid (show Below w4.heap.size w4 WD from by rw [← hWD]; exact HB6.out.drew)
              rw [hWD] at HS rD
              refine wp_region_noPanic ?_
              refine (wpIn_wide (n := 9)).1 ?_
              refine wpIn_region_any (by kernel_rfl) ?_
              change wpAnyIn _ _ _ _ _ _ _ _ _ (World.drew _)
              rw [hWD]
              refine anyS.any (S := fun w' => w'.cell? ⟨qm, 4, none⟩ = some (.int .i64 y4) ∧ w'.cell? ⟨qm, 5, none⟩ = some (.int .i64 y5) ∧ w'.cell? ⟨qm, 6, none⟩ = some (.bool y6) ∧ w'.cell? ⟨qm, 7, none⟩ = some (.bool y7) ∧ w'.cell? ⟨qm, 8, none⟩ = some (.bool y8)) ?_
              refine anyS_take (i := 0) (v := ?_) (by kernel_rfl) rfl (by kernel_rfl) (by kernel_rfl) (by kernel_rfl) (fun _ _ _ h => h) (by kernel_rfl) (fun _ => rfl) ?_ ?_
              rotate_left
              · intro w' hS
                obtain ⟨s1, s2, s3, s4, s5⟩ := hS
                go_simp
                try with_reducible rfl
              refine anyS_take (i := 1) (v := ?_) (by kernel_rfl) rfl (by kernel_rfl) (by kernel_rfl) (by kernel_rfl) (fun _ _ _ h => h) (by kernel_rfl) (fun _ => rfl) ?_ ?_
              rotate_left
              · intro w' hS
                obtain ⟨s1, s2, s3, s4, s5⟩ := hS
                go_simp
                try with_reducible rfl
              refine anyS_take (i := 2) (v := ?_) (by kernel_rfl) rfl (by kernel_rfl) (by kernel_rfl) (by kernel_rfl) (fun _ _ _ h => h) (by kernel_rfl) (fun _ => rfl) ?_ ?_
              rotate_left
              · intro w' hS
                obtain ⟨s1, s2, s3, s4, s5⟩ := hS
                go_simp
                try with_reducible rfl
              refine anyS_take (i := 3) (v := ?_) (by kernel_rfl) rfl (by kernel_rfl) (by kernel_rfl) (by kernel_rfl) (fun _ _ _ h => h) (by kernel_rfl) (fun _ => rfl) ?_ ?_
              rotate_left
              · intro w' hS
                obtain ⟨s1, s2, s3, s4, s5⟩ := hS
                go_simp
                try with_reducible rfl
              refine anyS_take (i := 4) (v := ?_) (by kernel_rfl) rfl (by kernel_rfl) (by kernel_rfl) (by kernel_rfl) (fun _ _ _ h => h) (by kernel_rfl) (fun _ => rfl) ?_ ?_
              rotate_left
              · intro w' hS
                obtain ⟨s1, s2, s3, s4, s5⟩ := hS
                go_simp
                try with_reducible rfl
              refine anyS_take (i := 5) (v := ?_) (by kernel_rfl) rfl (by kernel_rfl) (by kernel_rfl) (by kernel_rfl) (fun _ _ _ h => h) (by kernel_rfl) (fun _ => rfl) ?_ ?_
              rotate_left
              · intro w' hS
                obtain ⟨s1, s2, s3, s4, s5⟩ := hS
                go_simp
                try with_reducible rfl
              refine anyS_take (i := 6) (v := ?_) (by kernel_rfl) rfl (by kernel_rfl) (by kernel_rfl) (by kernel_rfl) (fun _ _ _ h => h) (by kernel_rfl) (fun _ => rfl) ?_ ?_
              rotate_left
              · intro w' hS
                obtain ⟨s1, s2, s3, s4, s5⟩ := hS
                go_simp
                try with_reducible rfl
              refine anyS_take (i := 7) (v := ?_) (by kernel_rfl) rfl (by kernel_rfl) (by kernel_rfl) (by kernel_rfl) (fun _ _ _ h => h) (by kernel_rfl) (fun _ => rfl) ?_ ?_
              rotate_left
              · intro w' hS
                obtain ⟨s1, s2, s3, s4, s5⟩ := hS
                go_simp
                try with_reducible rfl
              refine anyS_take (i := 8) (v := ?_) (by kernel_rfl) rfl (by kernel_rfl) (by kernel_rfl) (by kernel_rfl) (fun _ _ _ h => h) (by kernel_rfl) (fun _ => rfl) ?_ ?_
              rotate_left
              · intro w' hS
                obtain ⟨s1, s2, s3, s4, s5⟩ := hS
                go_simp
                try with_reducible rfl
              refine anyS_take (i := 9) (v := ?_) (by kernel_rfl) rfl (by kernel_rfl) (by kernel_rfl) (by kernel_rfl) (fun _ _ _ h => h) (by kernel_rfl) (fun _ => rfl) ?_ ?_
              rotate_left
              · intro w' hS
                obtain ⟨s1, s2, s3, s4, s5⟩ := hS
                go_simp
                try with_reducible rfl
              refine anyS_one (i := 10) (by kernel_rfl) rfl HS.out (fun K hK => ?_)
              go_simp
              refine hK _ _ ?_
              clear hK K
              refine anyS_one (i := 11) (by kernel_rfl) rfl HS.out (fun K hK => ?_)
              have zc := cell_of_row WD qo 6 _ _ _ rD
              have zf := frozen_of_row WD qo 6 _ _ rD
              simp only [List.getElem?_toArray, List.getElem?_cons_succ, List.getElem?_cons_zero] at zc
              go_simp
              refine hK _ _ ?_
              clear hK K zc zf
              have SQ1 := Lib.hid (keepM (j := 6) (u := .int .i64 y4) hne HS.out)
              have rr1 : (WD.setCell ⟨qo, 6, none⟩ (.int .i64 y4)).heap[qo]? = some (.cells #[.int .i64 ((k : Int) + 1), .int .i64 k, .int .i64 ow, .int .i64 3, .bool false, .bool sb, .int .i64 y4, .int .i64 0, .int .i64 0, .int .i64 0, .bool false] 30 (0, 0)) := heap_setCell_same WD qo 6 _ _ (.int .i64 y4) rD
              obtain ⟨W6, hE1⟩ : ∃ W, WD.setCell ⟨qo, 6, none⟩ (.int .i64 y4) = W := ⟨_, rfl⟩
              have EQ1 := Lib.hid hE1
              rw [hE1] at SQ1 rr1 ⊢
              clear hE1 rD
              refine anyS_one (i := 12) (by kernel_rfl) rfl SQ1.out (fun K hK => ?_)
              go_simp
              refine hK _ _ ?_
              clear hK K
              refine anyS_one (i := 13) (by kernel_rfl) rfl SQ1.out (fun K hK => ?_)
              have zc := cell_of_row W6 qo 9 _ _ _ rr1
              have zf := frozen_of_row W6 qo 9 _ _ rr1
              simp only [List.getElem?_toArray, List.getElem?_cons_succ, List.getElem?_cons_zero] at zc
              go_simp
              refine hK _ _ ?_
              clear hK K zc zf
              have SQ2 := Lib.hid (keepM (j := 9) (u := .int .i64 y5) hne SQ1.out)
              have rr2 : (W6.setCell ⟨qo, 9, none⟩ (.int .i64 y5)).heap[qo]? = some (.cells #[.int .i64 ((k : Int) + 1), .int .i64 k, .int .i64 ow, .int .i64 3, .bool false, .bool sb, .int .i64 y4, .int .i64 0, .int .i64 0, .int .i64 y5, .bool false] 30 (0, 0)) := heap_setCell_same W6 qo 9 _ _ (.int .i64 y5) rr1
              obtain ⟨W7, hE2⟩ : ∃ W, W6.setCell ⟨qo, 9, none⟩ (.int .i64 y5) = W := ⟨_, rfl⟩
              have EQ2 := Lib.hid hE2
              rw [hE2] at SQ2 rr2 ⊢
              clear hE2 rr1
              refine anyS_one (i := 14) (by kernel_rfl) rfl SQ2.out (fun K hK => ?_)
              go_simp
              refine hK _ _ ?_
              clear hK K
              refine anyS_one (i := 15) (by kernel_rfl) rfl SQ2.out (fun K hK => ?_)
              have zc := cell_of_row W7 qo 4 _ _ _ rr2
              have zf := frozen_of_row W7 qo 4 _ _ rr2
              simp only [List.getElem?_toArray, List.getElem?_cons_succ, List.getElem?_cons_zero] at zc
              go_simp
              refine hK _ _ ?_
              clear hK K zc zf
              have SQ3 := Lib.hid (keepM (j := 4) (u := .bool y6) hne SQ2.out)
              have rr3 : (W7.setCell ⟨qo, 4, none⟩ (.bool y6)).heap[qo]? = some (.cells #[.int .i64 ((k : Int) + 1), .int .i64 k, .int .i64 ow, .int .i64 3, .bool y6, .bool sb, .int .i64 y4, .int .i64 0, .int .i64 0, .int .i64 y5, .bool false] 30 (0, 0)) := heap_setCell_same W7 qo 4 _ _ (.bool y6) rr2
              obtain ⟨W8, hE3⟩ : ∃ W, W7.setCell ⟨qo, 4, none⟩ (.bool y6) = W := ⟨_, rfl⟩
              have EQ3 := Lib.hid hE3
              rw [hE3] at SQ3 rr3 ⊢
              clear hE3 rr2
              refine anyS_one (i := 16) (by kernel_rfl) rfl SQ3.out (fun K hK => ?_)
              go_simp
              refine hK _ _ ?_
              clear hK K
              refine anyS_one (i := 17) (by kernel_rfl) rfl SQ3.out (fun K hK => ?_)
              have zc := cell_of_row W8 qo 5 _ _ _ rr3
              have zf := frozen_of_row W8 qo 5 _ _ rr3
              simp only [List.getElem?_toArray, List.getElem?_cons_succ, List.getElem?_cons_zero] at zc
              go_simp
              refine hK _ _ ?_
              clear hK K zc zf
              have SQ4 := Lib.hid (keepM (j := 5) (u := .bool y7) hne SQ3.out)
              have rr4 : (W8.setCell ⟨qo, 5, none⟩ (.bool y7)).heap[qo]? = some (.cells #[.int .i64 ((k : Int) + 1), .int .i64 k, .int .i64 ow, .int .i64 3, .bool y6, .bool y7, .int .i64 y4, .int .i64 0, .int .i64 0, .int .i64 y5, .bool false] 30 (0, 0)) := heap_setCell_same W8 qo 5 _ _ (.bool y7) rr3
              obtain ⟨W9, hE4⟩ : ∃ W, W8.setCell ⟨qo, 5, none⟩ (.bool y7) = W := ⟨_, rfl⟩
              have EQ4 := Lib.hid hE4
              rw [hE4] at SQ4 rr4 ⊢
              clear hE4 rr3
              refine anyS_one (i := 18) (by kernel_rfl) rfl SQ4.out (fun K hK => ?_)
              go_simp
              refine hK _ _ ?_
              clear hK K
              refine anyS_one (i := 19) (by kernel_rfl) rfl SQ4.out (fun K hK => ?_)
              have zc := cell_of_row W9 qo 10 _ _ _ rr4
              have zf := frozen_of_row W9 qo 10 _ _ rr4
              simp only [List.getElem?_toArray, List.getElem?_cons_succ, List.getElem?_cons_zero] at zc
              go_simp
              refine hK _ _ ?_
              clear hK K zc zf
              have SQ5 := Lib.hid (keepM (j := 10) (u := .bool y8) hne SQ4.out)
              have rr5 : (W9.setCell ⟨qo, 10, none⟩ (.bool y8)).heap[qo]? = some (.cells #[.int .i64 ((k : Int) + 1), .int .i64 k, .int .i64 ow, .int .i64 3, .bool y6, .bool y7, .int .i64 y4, .int .i64 0, .int .i64 0, .int .i64 y5, .bool y8] 30 (0, 0)) := heap_setCell_same W9 qo 10 _ _ (.bool y8) rr4
              obtain ⟨W10, hE5⟩ : ∃ W, W9.setCell ⟨qo, 10, none⟩ (.bool y8) = W := ⟨_, rfl⟩
              have EQ5 := Lib.hid hE5
              rw [hE5] at SQ5 rr5 ⊢
              clear hE5 rr4
              have R5 := Lib.hid (show W10.heap[qo]? = some (.cells #[.int .i64 ((k : Int) + 1), .int .i64 k, .int .i64 ow, .int .i64 3, .bool y6, .bool y7, .int .i64 y4, .int .i64 0, .int .i64 0, .int .i64 y5, .bool y8] 30 (0, 0)) from rr5)
              clear rr5
              refine anyS_done (by kernel_rfl) SQ5.out ?_ _
              refine NoPanic.normal ?_
              have r9 := R5.out
              have HB9 := Lib.hid (show Below w4.heap.size w4 W10 from by
                have h := ((((HBD.out.setCell (p := ⟨qo, 6, none⟩) HQO.out (.int .i64 y4)).setCell (p := ⟨qo, 9, none⟩) HQO.out (.int .i64 y5)).setCell (p := ⟨qo, 4, none⟩) HQO.out (.bool y6)).setCell (p := ⟨qo, 5, none⟩) HQO.out (.bool y7)).setCell (p := ⟨qo, 10, none⟩) HQO.out (.bool y8)
                rw [EQ1.out, EQ2.out, EQ3.out, EQ4.out, EQ5.out] at h
                exact h)
              have p0 := cell_of_row W10 qo 0 _ _ _ r9
              have p1 := cell_of_row W10 qo 1 _ _ _ r9
              have p2 := cell_of_row W10 qo 2 _ _ _ r9
              have p3 := cell_of_row W10 qo 3 _ _ _ r9
              have p4 := cell_of_row W10 qo 4 _ _ _ r9
              have p5 := cell_of_row W10 qo 5 _ _ _ r9
              have p6 := cell_of_row W10 qo 6 _ _ _ r9
              have p7 := cell_of_row W10 qo 7 _ _ _ r9
              have p8 := cell_of_row W10 qo 8 _ _ _ r9
              have p9 := cell_of_row W10 qo 9 _ _ _ r9
              have p10 := cell_of_row W10 qo 10 _ _ _ r9
              simp only [List.getElem?_toArray, List.getElem?_cons_succ, List.getElem?_cons_zero] at p0 p1 p2 p3 p4 p5 p6 p7 p8 p9 p10
              obtain ⟨hlA, hkA, hatA⟩ := HLA.out
              have HSE := Lib.hid (set_any (HST4.out.later HB9.out) (by omega) k hkA (manO k ⟨y0, y1, y2, ow, y4, y5, y6, y7, y8⟩) rfl (by rw [hatA]; rfl) (by rw [hatA]; rfl) (by rw [hatA]; rfl))
              unfold oagg manO at HSE
              dsimp only at HSE
              clear r9 hlA hkA hatA
              go_wp2_with fail
              refine HSE.out.mono ?_
              rintro e w7 ⟨rfl, G7, hst7, ht7⟩
              have HT7 := Lib.hid ((HT4.out.trans (Turned.of_below HB9.out)).trans ht7)
              have HB7 := Lib.hid (HT7.out.below HB3.out HBW.out)
              have HL7 := Lib.hid (Nat.le_trans HL3.out HT7.out.chg.size)
              have H7 := Lib.hid (show StoreAt w7 lo b G7 (setL (addL S3 k ow 3) k (manO k ⟨y0, y1, y2, ow, y4, y5, y6, y7, y8⟩)) from hst7)
              have HTT7 := Lib.hid (show TeamAt w7 lo2 tb s r (sidesT n) ∧ G7.tag tb = .no ∧ G7.tag s = .no ∧ G7.tag r = .no from by
                obtain ⟨h1, h2, h3, h4⟩ := HTT.out
                have l2 := h1.sd.1
                have ht := HT7.out
                exact ⟨h1.stays ht.chg.size (ht.chg.block _ h1.lt (.inl h2)) (ht.chg.block _ l2 (.inl h3)) (ht.chg.block _ h1.ltr (.inl h4)), (ht.tag _ h1.lt).trans h2, (ht.tag _ l2).trans h3, (ht.tag _ h1.ltr).trans h4⟩)
              clear hst7 ht7 p0 p1 p2 p3 p4 p5 p6 p7 p8 p9 p10
              dsimp only
              go_wp2
              go_roundw
              case rel => exact ⟨k + 1, G7, _, by omega, by go_num, H7, HM4, HB7, HL7, HOK4, HTT7⟩
              case measure => simp [intOf]; omega
            · obtain ⟨y0, y1, y2, y3, y4, y5, y6, y7, y8⟩ := x
              dsimp only at hwx t0 t1 t2 t3 t4 t5 t6 t7 t8
              have hb0 := below_new wr (.cells #[.int .i64 y0, .int .i64 y1, .int .i64 y2, .int .i64 y3, .int .i64 y4, .int .i64 y5, .bool y6, .bool y7, .bool y8] 42)
              have hno : ¬addB S3 k y3 3 := fun h => hok (by
                obtain ⟨_, _, h3, h4, _⟩ := h
                rw [HM3.out.seats] at h4
                exact decide_eq_true ⟨h3, by omega⟩)
              have HAD := Lib.hid (add_bad (H3.out.later hb0) k y3 3 hwx (by unfold Wf; omega) hno)
              have HNP := Lib.hid (show ¬play17 l from fun h => by have := h.2.2; rw [hall (by simpa using hok)] at this; cases this)
              have HB0 := Lib.hid (stepB HB3.out hb0)
              clear hwx hno hok hall hb0
              go_wp2_with fail
              refine HAD.out.mono ?_
              rintro e w4 ⟨rfl, hb4⟩
              have HB4 := Lib.hid (stepB HB0.out hb4)
              clear hb4
              dsimp only
              go_wp2
              go_ret
              exact .inr ⟨HNP.out, rfl, HB4.out⟩
          · obtain rfl : k = l.length := by omega
            have dk : decide ((l.length : Int) < l.length) = false := decide_eq_false (by omega)
            have hm := HM3.out
            have ho := HOK.out
            rw [List.take_length] at hm ho
            have HP := Lib.hid (show play17 l from ⟨by omega, hmay, ho⟩)
            have hnew := bnew_any H3.out hm.wf (by rw [hm.len]; omega) HTT.out.1
            rw [show decide (S3.seats = (sidesT n).sides.length) = true from decide_eq_true (by rw [hm.seats, HN4.out.1])] at hnew
            have HNW := Lib.hid hnew
            have HFN := Lib.hid hm.fn
            clear hm ho hnew
            go_wp2_with fail
            refine HNW.out.mono ?_
            rintro e w5 ⟨hy, _, hb5⟩
            obtain ⟨g, rfl, hg⟩ := hy rfl
            have HG := Lib.hid hg
            have HB5 := Lib.hid (stepB HB3.out hb5)
            have HLO := Lib.hid HB3.out.size
            clear hy hg hb5
            dsimp only
            go_wp2
            go_ret
            refine .inl ⟨HP.out, wr.heap.size, g, rfl, ?_, HLO.out, HB5.out⟩
            unfold board17
            rw [← HFN.out]
            exact HG.out
      · have hte : Crd.tableE (l.map cardM) = 8 := by rw [table17 hl20, if_neg hmay]
        have hnb := newS_bad hcs (by rw [List.length_map]; omega) (small17 l) (by rw [hte]; decide)
        rw [hte] at hnb
        have HNW := Lib.hid hnb
        have HN := Lib.hid (show ¬play17 l from fun h => hmay h.2.1)
        clear hcs hnb
        go_wp2_with fail
        refine HNW.out.mono ?_
        rintro e w2 ⟨rfl, hb2⟩
        have HB2 := Lib.hid (stepB HBC.out hb2)
        clear hb2 HNW
        dsimp only
        go_wp2_with fail
        refine (HSD.out _).mono ?_
        rintro e w3 ⟨lo2, tb, s, r, rfl, ht2, hlo2, hb3⟩
        have HB3 := Lib.hid (stepB HB2.out hb3)
        clear ht2 hlo2 hb3
        dsimp only
        go_wp2
        go_ret
        exact .inr ⟨HN.out, rfl, HB3.out⟩
end Go.Proofs.YtjgjhfeopmakaaaGreat
