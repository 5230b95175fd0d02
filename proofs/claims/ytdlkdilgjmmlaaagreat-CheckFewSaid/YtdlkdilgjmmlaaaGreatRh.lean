/- The order in which triggers fire: trig.Order (layer 13). -/
import Derived.Test.YtdlkdilgjmmlaaaGreatRg
import Derived.Test.YtdlkdilgjmmlaaaGreatJx
import Derived.Deep.RegionLaw
namespace Go.Proofs.YtdlkdilgjmmlaaaGreat
open Go.RowKit Go.Maps
attribute [local go_sem] Oper.semAt_some

def keyT (B : BoardL) (active i : Int) : TriL := ⟨aheadT B.T active (objOf B.S i).owner, (objOf B.S i).owner, i⟩
def keysT (B : BoardL) (active : Int) (ids : List Int) : List TriL := (ids.filter fun i => decide (hasS B.S i)).map (keyT B active)
theorem keysT_len (B : BoardL) (active : Int) (ids : List Int) : (keysT B active ids).length ≤ ids.length := by
  unfold keysT; rw [List.length_map]; exact List.length_filter_le _ _
theorem keysT_yes (B : BoardL) (active : Int) (ids : List Int) (x : Int) (h : hasS B.S x) : keysT B active (ids ++ [x]) = keysT B active ids ++ [keyT B active x] := by
  simp [keysT, h]
theorem keysT_no (B : BoardL) (active : Int) (ids : List Int) (x : Int) (h : ¬hasS B.S x) : keysT B active (ids ++ [x]) = keysT B active ids := by
  simp [keysT, h]
def orderL (B : BoardL) (active : Int) (ids : List Int) : List Int := (compact3 (sort3 (keysT B active ids))).map (·.z)
def RetInts (w : World) (l : List Int) (e : Ending) (w' : World) : Prop := ∃ u, e = .returned u ∧ w'.ownsRow w.heap.size 3 1 u l.length (intsV l) ∧ Below w.heap.size w w'
set_option maxRecDepth 100000 in
set_option maxHeartbeats 8000000 in
theorem order_any {w : World} {lo : Nat} {g : GhostB} {B : BoardL} (h : BoardAt w lo g B) (active : Int) {v : Value} {ids : List Int} (hv : IntsAt w v ids) (hl : ids.length ≤ 800) :
    Calls Tryz.prog 54 #[.pointer (some ⟨g.q, 0, none⟩), .int .i64 active, v] w (RetInts w (orderL B active ids)) := by
  have HG := Lib.hid (fun (w' : World) (hb : Below w.heap.size w w') (i : Int) => getI_any (h.later hb) i)
  have HA := Lib.hid (fun (w' : World) (hb : Below w.heap.size w w') (s : Int) => ahead_any (h.later hb) active s)
  have HC := Lib.hid (fun (w' : World) (hb : Below w.heap.size w w') => (h.later hb).cells.1)
  have HV := Lib.hid (fun (w' : World) (hb : Below w.heap.size w w') => hv.later hb)
  obtain ⟨va, vc, rfl⟩ := hv.form
  obtain ⟨n, hn⟩ : ∃ n, ids.length = n := ⟨_, rfl⟩
  have HVA := Lib.hid (fun (w' : World) (hb : Below w.heap.size w w') k (hk : k < ids.length) => (HV.out w' hb).at k hk)
  have HN := Lib.hid hn
  rw [hn] at hl ⊢
  clear h hv hn HV
  go_enter Tryz.func54, Tryz.ntmps54
  go_wp2
  go_loopw [19, 7] (fun i i7 wr => ∃ (k : Nat) (L : List TriL) (xa : Option Addr) (xc : Nat), k ≤ n ∧ i = .int .i64 k ∧ i7 = .slice xa L.length xc ∧ Hid (L = keysT B active (ids.take k)) ∧ Hid (wr.ownsRow w.heap.size 64 3 (.slice xa L.length xc) L.length (trisV L)) ∧ Hid (Below w.heap.size w wr)) (fun i _ _ => n - (intOf i).toNat)
  case atStart => exact ⟨0, [], none, 0, Nat.zero_le _, rfl, rfl, Lib.hid (by simp [keysT]), Lib.hid ⟨by simp [trisV], .inl ⟨rfl, rfl⟩⟩, Lib.hid (Below.refl _ _)⟩
  case round =>
    obtain ⟨k, L, xa, xc, hk, rfl, rfl, HL, HO, HB⟩ := hrel
    have hL0 : L.length ≤ 800 := by
      have h1 := keysT_len B active (ids.take k)
      rw [← HL.out, List.length_take] at h1
      omega
    have hL1 : L.length ≤ 1000 := by omega
    by_cases hlt : k < n
    · obtain ⟨r, off, rfl, _, c0⟩ := HVA.out wr HB.out k (by have := HN.out; omega)
      have htk := take_last ids k (by have := HN.out; omega)
      obtain ⟨x, hx⟩ : ∃ x, ids[k]'(by have := HN.out; omega) = x := ⟨_, rfl⟩
      rw [hx] at c0 htk
      have HTK := Lib.hid htk
      have cq := HC.out wr HB.out
      have HG1 := Lib.hid (HG.out wr HB.out x)
      have HE := Lib.hid (show (hasS B.S x → errI B.S x = 0) ∧ (¬hasS B.S x → errI B.S x = 7) from ⟨fun hh => if_pos hh, fun hh => if_neg hh⟩)
      clear hx htk
      by_cases hh : hasS B.S x
      · rw [HE.out.1 hh, show objI B.S x = objOf B.S x from if_pos hh] at HG1
        have HKY := Lib.hid (show keysT B active (ids.take (k + 1)) = keysT B active (ids.take k) ++ [⟨aheadT B.T active (objOf B.S x).owner, (objOf B.S x).owner, x⟩] from by rw [HTK.out]; exact keysT_yes B active _ x hh)
        obtain ⟨o, ho⟩ : ∃ o, objOf B.S x = o := ⟨_, rfl⟩
        rw [ho] at HG1 HKY
        unfold RetGet oagg at HG1
        clear hh HE ho
        go_wp2_with fail
        refine HG1.out.mono ?_
        rintro e w4 ⟨rfl, hb4⟩
        have HB4 := Lib.hid hb4
        clear hb4 cq c0
        dsimp only
        go_wp2
        have c5 : (w4.alloc (.cells #[.int .i64 o.id, .int .i64 o.card, .int .i64 o.owner, .int .i64 o.zone, .bool o.tapped, .bool o.sick, .int .i64 o.hurt, .int .i64 o.count, .int .i64 o.boost, .int .i64 o.block, .bool o.attacks] 39)).cell? ⟨w4.heap.size, 2, none⟩ = some (.int .i64 o.owner) := cell_of_row _ w4.heap.size 2 _ _ _ (heap_alloc_new w4 _)
        have hb5 : Below wr.heap.size wr (w4.alloc (.cells #[.int .i64 o.id, .int .i64 o.card, .int .i64 o.owner, .int .i64 o.zone, .bool o.tapped, .bool o.sick, .int .i64 o.hurt, .int .i64 o.count, .int .i64 o.boost, .int .i64 o.block, .bool o.attacks] 39)) := stepB HB4.out (below_new w4 _)
        obtain ⟨W5, hW5⟩ : ∃ W5, w4.alloc (.cells #[.int .i64 o.id, .int .i64 o.card, .int .i64 o.owner, .int .i64 o.zone, .bool o.tapped, .bool o.sick, .int .i64 o.hurt, .int .i64 o.count, .int .i64 o.boost, .int .i64 o.block, .bool o.attacks] 39) = W5 := ⟨_, rfl⟩
        rw [hW5] at c5 hb5 ⊢
        have HB5 := Lib.hid hb5
        have HBW := Lib.hid (stepB HB.out hb5)
        obtain ⟨q5, hq5⟩ : ∃ q5, w4.heap.size = q5 := ⟨_, rfl⟩
        rw [hq5] at c5 ⊢
        obtain ⟨ow, how⟩ : ∃ ow, o.owner = ow := ⟨_, rfl⟩
        rw [how] at c5 HKY ⊢
        have HA5 := Lib.hid (fun (w' : World) (hb : Below W5.heap.size W5 w') => HA.out w' (stepB HBW.out hb) ow)
        obtain ⟨av, hav⟩ : ∃ av, aheadT B.T active ow = av := ⟨_, rfl⟩
        rw [hav] at HA5 HKY
        clear hW5 hb5 hq5 how hav
        go_region_law ((first
          | (go_simp; go_at_call 94; refine (HA5.out _ (below_drewN (Below.refl _ _) _)).mono ?_; rintro e w6 ⟨rfl, hb6⟩; have hb6' := stepB (below_drewN (Below.refl W5.heap.size W5) _) hb6; have c6 := cell_stays hb6' c5; dsimp only)
          | (refine step_append_tri rfl _ _ rfl w.heap.size (.slice xa L.length xc) L ⟨av, ow, x⟩ rfl w6.heap.size (own_keepS HO.out (fun k hk => (stepB HB5.out (stepB hb6' (below_new w6 (.cells (tcells ⟨av, ow, x⟩).toArray 64)))).block k (World.ownsRow.lt HO.out k hk).2)) rfl (heap_alloc_new w6 _) hL1 (by have h1 := HBW.out.size; have h2 := hb6'.size; simp; omega) ?_; intro g7 cap7 w7 hown hgrow hat hlt7)
          | (trace_state; fail "arm")))
        all_goals
          have hb7 := (stepB HBW.out (stepB hb6' (below_new w6 (.cells (tcells ⟨av, ow, x⟩).toArray 64)))).grown hgrow (by have h1 := HBW.out.size; have h2 := hb6'.size; simp; omega) (fun q hq => (World.ownsRow.lt HO.out q hq).1)
          have HB7 := Lib.hid hb7
          have HO7 := Lib.hid hown
          have HL7 := Lib.hid (show L ++ [⟨av, ow, x⟩] = keysT B active (ids.take (k + 1)) from by rw [HKY.out, HL.out])
          clear hb7 hown hgrow hat hlt7 hb6' hb6 c6
          go_wp2
          go_roundw
          case rel => exact ⟨k + 1, L ++ [⟨av, ow, x⟩], some ⟨g7, 0, none⟩, cap7, by omega, by go_num, by rw [List.length_append]; rfl, HL7, Lib.hid (by rw [List.length_append]; exact HO7.out), Lib.hid (by first | exact HB7.out | exact HB7.out.drew)⟩
          case measure => simp [intOf]; omega
      · rw [HE.out.2 hh, show objI B.S x = zeroO from if_neg hh] at HG1
        have HKY := Lib.hid (show L = keysT B active (ids.take (k + 1)) from by rw [HTK.out, keysT_no B active _ x hh]; exact HL.out)
        unfold RetGet oagg zeroO at HG1
        dsimp only at HG1
        clear hh HE
        go_wp2_with fail
        refine HG1.out.mono ?_
        rintro e w4 ⟨rfl, hb4⟩
        have HB4 := Lib.hid (stepB hb4 (below_new w4 (.cells #[.int .i64 0, .int .i64 0, .int .i64 0, .int .i64 0, .bool false, .bool false, .int .i64 0, .int .i64 0, .int .i64 0, .int .i64 0, .bool false] 39)))
        clear hb4 cq c0
        dsimp only
        go_wp2
        go_roundw
        case rel => exact ⟨k + 1, L, xa, xc, by omega, by go_num, rfl, HKY, Lib.hid (own_keepS HO.out (fun q hq => HB4.out.block q (World.ownsRow.lt HO.out q hq).2)), Lib.hid (stepB HB.out HB4.out)⟩
        case measure => simp [intOf]; omega
    · obtain rfl : k = n := by omega
      have hl2 := HL.out
      rw [List.take_of_length_le (by rw [HN.out]; exact Nat.le_refl _)] at hl2
      have HL2 := Lib.hid hl2
      have HS := Lib.hid (sortRow_any HO.out hL1)
      clear hl2
      go_wp2_with fail
      refine HS.out.mono ?_
      rintro e w8 ⟨rfl, ho8, hg8⟩
      have HB8 := Lib.hid (HB.out.grown hg8 HB.out.size (fun q hq => (World.ownsRow.lt HO.out q hq).1))
      have e8 := sort3_len L
      rw [← e8] at ho8
      have HC8 := Lib.hid (compactRow_any ho8 (by rw [e8]; exact hL1))
      have HOW := Lib.hid (fun q hq => (World.ownsRow.lt ho8 q hq).1)
      rw [e8] at HC8 HOW
      clear ho8 hg8 e8 HS
      dsimp only
      go_wp2_with fail
      refine HC8.out.mono ?_
      rintro e w9 ⟨u, rfl, ht9, hg9⟩
      have hb9 := HB8.out.grown hg9 HB8.out.size HOW.out
      have HB9 := Lib.hid hb9
      have HT9 := Lib.hid ht9
      obtain ⟨ua, uc, rfl⟩ := ht9.form
      have HRES := Lib.hid (show orderL B active ids = (compact3 (sort3 L)).map (·.z) from by unfold orderL; rw [HL2.out])
      obtain ⟨C, hC⟩ : ∃ C, compact3 (sort3 L) = C := ⟨_, rfl⟩
      have hCl : C.length ≤ 800 := by
        rw [← hC]
        unfold compact3
        have h1 := List.length_filter_le (Lib.keeps (sort3 L).toArray) (List.range (sort3 L).length)
        rw [List.length_range, sort3_len] at h1
        unfold Lib.compactUpTo
        rw [List.length_map, sort3_len]
        omega
      rw [hC] at HT9 HRES ⊢
      clear ht9 hg9 hb9 hC HC8 HOW
      dsimp only
      go_wp2
      go_loopw [52, 12] (fun i i12 wr => ∃ (j : Nat) (M : List Int) (ya : Option Addr) (yc : Nat), j ≤ C.length ∧ i = .int .i64 j ∧ i12 = .slice ya M.length yc ∧ Hid (M = (C.take j).map (·.z)) ∧ Hid (wr.ownsRow w9.heap.size 3 1 (.slice ya M.length yc) M.length (intsV M)) ∧ Hid (Below w9.heap.size w9 wr)) (fun i _ _ => C.length - (intOf i).toNat)
      case atStart => exact ⟨0, [], none, 0, Nat.zero_le _, rfl, rfl, Lib.hid (by simp), Lib.hid ⟨by simp [intsV], .inl ⟨rfl, rfl⟩⟩, Lib.hid (Below.refl _ _)⟩
      case round =>
        obtain ⟨j, M, ya, yc, hj, rfl, rfl, HM, HOM, HBM⟩ := hrel
        have HTM := Lib.hid (HT9.out.later HBM.out)
        have hM1 : M.length ≤ 900 := by
          rw [HM.out, List.length_map, List.length_take]
          omega
        by_cases hjl : j < C.length
        · obtain ⟨ub, uo, rfl, t0, t1, t2⟩ := HTM.out.at j hjl
          have htk := take_last C j hjl
          obtain ⟨t, ht⟩ : ∃ t, C[j] = t := ⟨_, rfl⟩
          rw [ht] at t0 t1 t2 htk
          have HM2 := Lib.hid (show M ++ [t.z] = (C.take (j + 1)).map (·.z) from by rw [htk, List.map_append, HM.out]; rfl)
          have c9 : (wr.alloc (.cells #[.int .i64 t.x, .int .i64 t.y, .int .i64 t.z] 64)).cell? ⟨wr.heap.size, 2, none⟩ = some (.int .i64 t.z) := cell_of_row _ wr.heap.size 2 _ _ _ (heap_alloc_new wr _)
          have hbn := below_new wr (.cells #[.int .i64 t.x, .int .i64 t.y, .int .i64 t.z] 64)
          have HBN := Lib.hid (And.intro (stepB HBM.out hbn) (own_keepS HOM.out (fun q hq => hbn.block q (World.ownsRow.lt HOM.out q hq).2)))
          clear htk ht hbn
          go_upto_region 16 with fail
          obtain ⟨W10, hW10⟩ : ∃ W10, wr.alloc (.cells #[.int .i64 t.x, .int .i64 t.y, .int .i64 t.z] 64) = W10 := ⟨_, rfl⟩
          rw [hW10] at c9 HBN ⊢
          clear hW10 t0 t1 t2
          go_wp2_with (at_builtin; refine wpList_push (A := w9) rfl _ _ rfl rfl (.slice ya M.length yc) M t.z rfl HBN.out.2 HBN.out.1 rfl hM1 ?f)
          case f =>
            intro v' w' hown hb'
            have HO' := Lib.hid hown
            have HB' := Lib.hid hb'
            obtain ⟨za, zc, rfl⟩ := (own_ints hown).form
            clear hown hb'
            go_wp2
            go_roundw
            case rel => exact ⟨j + 1, M ++ [t.z], za, zc, by omega, by go_num, by first | rfl | simp, HM2, Lib.hid (by have h := HO'.out; simp only [List.length_append, List.length_cons, List.length_nil, Nat.zero_add] at h ⊢; exact h), HB'⟩
            case measure => simp [intOf]; omega
        · obtain rfl : j = C.length := by omega
          have hm := HM.out
          rw [List.take_length, ← HRES.out] at hm
          have HR := Lib.hid (show RetInts w (orderL B active ids) (.returned (.slice ya M.length yc)) wr from ⟨_, rfl, by rw [← hm]; exact own_mono HOM.out HB9.out.size, stepB HB9.out HBM.out⟩)
          clear hm
          go_wp2
          go_ret
          exact HR.out
end Go.Proofs.YtdlkdilgjmmlaaaGreat
