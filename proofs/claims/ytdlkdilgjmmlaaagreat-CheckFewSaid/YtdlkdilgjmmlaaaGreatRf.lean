/- slices.Compact of a row of triples (layer 13). -/
import Derived.Test.YtdlkdilgjmmlaaaGreatRe
import Derived.Laws.IdiomCopy
namespace Go.Proofs.YtdlkdilgjmmlaaaGreat
open Go.RowKit Go.Maps
attribute [local go_sem] Oper.semAt_some

theorem clear3 (w : World) (g o n c : Nat) (hn : 0 < n) (hc : ∀ j, j < n * 3 → (w.cell? ⟨g, o + j, none⟩).isSome = true) (hf : ∀ j, j < n * 3 → w.frozen? ⟨g, o + j, none⟩ = false) :
    ∃ zs : List Value, zs.length = n * 3 ∧ ∀ ty, (Builtin.clear_ #[22] ty #[.slice (some ⟨g, o, none⟩) n c]).run Tryz.prog w = .ok (.tuple #[]) (w.setCells g o zs) := by
  have hz : ∀ w', (zeroValue 64).run Tryz.prog w' = .ok (.agg #[.int .i64 0, .int .i64 0, .int .i64 0]) w' := Tryz.zeroValue64
  obtain ⟨Z, hZ⟩ : ∃ Z, Builtin.zeroCells (Value.agg #[.int .i64 0, .int .i64 0, .int .i64 0]).cells n = Z := ⟨_, rfl⟩
  have hlen : Z.toList.length = n * 3 := by rw [← hZ]; simp [Builtin.zeroCells, Value.cells]
  have h1 : ∀ v ∈ Z.toList, v.oneCell' = true := by
    intro v hv
    rw [← hZ] at hv
    simp only [Builtin.zeroCells, Value.cells, Array.toList_map, List.mem_map] at hv
    obtain ⟨i, _, rfl⟩ := hv
    have : i % 3 = 0 ∨ i % 3 = 1 ∨ i % 3 = 2 := by omega
    rcases this with e | e | e <;> simp [e] <;> rfl
  refine ⟨Z.toList, hlen, fun ty => ?_⟩
  have hst := run_storeCells_cells (P := Tryz.prog) g o Z.toList 0 w (by rw [hlen]; simpa using hc) (by rw [hlen]; simpa using hf) h1
  simp only [Nat.add_zero] at hst
  obtain ⟨m, rfl⟩ : ∃ m, n = m + 1 := ⟨n - 1, by omega⟩
  simp [Builtin.clear_, run_underlying Tryz.underlying22, hz, hZ, hst]
def compact3 (l : List TriL) : List TriL := Lib.compactUpTo l.toArray l.length
def RetComp (w : World) (v : Value) (l : List TriL) (e : Ending) (w' : World) : Prop := ∃ u, e = .returned u ∧ TrisAt w' u (compact3 l) ∧ w.grownBy w' v.ownBlock
theorem compact3_all {l : List TriL} (h : ∀ j, j < l.length → Lib.keeps l.toArray j = true) : compact3 l = l := by
  unfold compact3
  rw [Lib.compactUpTo_all _ _ h]
  have := Lib.range_map_get l.toArray
  simpa using this
theorem tri_at! (l : List TriL) (k : Nat) (h : k < l.length) : l.toArray[k]! = l[k] := by simp [h]
set_option maxRecDepth 100000 in
set_option maxHeartbeats 8000000 in
theorem compactRow_any {w : World} {lo : Nat} {v : Value} {l : List TriL} (h : w.ownsRow lo 64 3 v l.length (trisV l)) (hl : l.length ≤ 1000) :
    Calls Tryz.prog 98 #[v] w (RetComp w v l) := by
  have HT := Lib.hid (own_tris h)
  by_cases h2 : l.length < 2
  · have HR := Lib.hid (show RetComp w v l (.returned v) w from ⟨v, rfl, by rw [compact3_all (fun j hj => Lib.keeps_lt_one l.toArray j (by omega))]; exact HT.out, World.grownBy.refl _ _⟩)
    obtain ⟨xa, xc, rfl⟩ := HT.out.form
    have d0 : decide ((l.length : Int) < 2) = true := decide_eq_true (by omega)
    clear h
    go_enter Tryz.func98, Tryz.ntmps98
    go_wp2
    go_ret
    exact HR.out
  obtain ⟨g, cap, hv, _, _, hglt, hlo⟩ := own_tri h 0 (by omega)
  subst hv
  have hcap : l.length ≤ cap := by
    rcases h.2 with ⟨e, _⟩ | ⟨g', cap', cur, e, _, _, hn, _⟩
    · cases e
    · injection e with _ _ e3; omega
  have d0 : decide ((l.length : Int) < 2) = false := decide_eq_false (by omega)
  have HH := Lib.hid h
  obtain ⟨n, hn⟩ : ∃ n, l.length = n := ⟨_, rfl⟩
  have HN := Lib.hid hn
  have E0 := fun (x y : TriL) (W : World) => eql3 x y W
  rw [hn] at h2 hcap hl d0 ⊢
  clear h hn
  go_enter Tryz.func98, Tryz.ntmps98
  go_wp2
  go_loopw [3] (fun i wr => ∃ (k : Nat), 1 ≤ k ∧ k ≤ n ∧ i = .int .i64 k ∧ Hid (∃ q, wr = w.drewN q) ∧ Hid (∀ j, j < k → Lib.keeps l.toArray j = true)) (fun i _ => n - (intOf i).toNat)
  case atStart => exact ⟨1, Nat.le_refl _, by omega, rfl, Lib.hid ⟨0, rfl⟩, Lib.hid (Lib.keeps_lt_one l.toArray)⟩
  case round =>
    obtain ⟨k, hk1, hk, rfl, HQ, HK⟩ := hrel
    by_cases hlt : k < n
    · have hb : Below w.heap.size w wr := by obtain ⟨q, e⟩ := HQ.out; rw [e]; exact below_drewN (Below.refl _ _) q
      have HB := Lib.hid hb
      have k1 : k < l.length := by have := HN.out; omega
      have k2 : k - 1 < l.length := by omega
      have HC := Lib.hid (fun (j : Nat) (hj : j < l.length) => show TriCells wr g (j * 3) l[j] from by
        obtain ⟨g', cap', e, hc, _⟩ := own_tri HH.out j hj
        injection e with e1 _ _
        injection e1 with e1
        injection e1 with e1 _ _
        subst e1
        exact hc.later hb)
      obtain ⟨c0, c1, c2⟩ := HC.out k k1
      obtain ⟨b0, b1, b2⟩ := HC.out (k - 1) k2
      obtain ⟨x, hx⟩ : ∃ x, l[k] = x := ⟨_, rfl⟩
      obtain ⟨y, hy⟩ : ∃ y, l[k - 1] = y := ⟨_, rfl⟩
      rw [hx] at c0 c1 c2
      rw [hy] at b0 b1 b2
      have HXY := Lib.hid (And.intro hx hy)
      clear hx hy hb
      have he : ∀ W, (binOp .eql 64 (.agg #[.int .i64 x.x, .int .i64 x.y, .int .i64 x.z]) (.agg #[.int .i64 y.x, .int .i64 y.y, .int .i64 y.z])).run Tryz.prog W = .ok (.bool (decide (x = y))) W := fun W => eql3 x y W
      have hge := eqlg3
      have dk : decide ((k : Int) < (n : Int)) = true := decide_eq_true (by omega)
      have dk' : decide (k < n) = true := decide_eq_true (by omega)
      have kk1 : (k : Int) - 1 = ((k - 1 : Nat) : Int) := by omega
      obtain ⟨k', hk'⟩ : ∃ k', k - 1 = k' := ⟨_, rfl⟩
      rw [hk'] at kk1 b0 b1 b2
      have HKK := Lib.hid hk'
      have hkn : k' < n := by omega
      have hw1 : IntKind.i64.wrap ((k : Int) - 1) = (k' : Int) := by rw [kk1, IntKind.wrap_i64]; omega
      clear hk' E0
      by_cases hdup : x = y
      · subst hdup
        rw [decide_eq_true rfl] at he
        go_wp2
        go_region
        have HBD := Lib.hid (show Below w.heap.size w wr.drew from HB.out.drew)
        have HS := Lib.hid (show Lib.CompInv l.toArray (k + 1) k l.toArray from Lib.CompInv.start HK.out (Lib.keeps_neg (by omega) (by rw [tri_at! l k k1, tri_at! l (k - 1) k2]; exact HXY.out.1.trans HXY.out.2.symm)))
        have HO := Lib.hid (show wr.drew.ownsRow lo 64 3 (.slice (some ⟨g, 0, none⟩) n cap) n (trisV l) from by
          have h := HH.out
          rw [HN.out] at h
          obtain ⟨q, e⟩ := HQ.out
          rw [e]
          exact h)
        have HG := Lib.hid (show w.grownBy wr.drew (some g) from ⟨HBD.out.os, HBD.out.tape, HBD.out.output, HBD.out.size, fun q hq _ => HBD.out.block q hq⟩)
        obtain ⟨w1, hw1⟩ : ∃ w1, wr.drew = w1 := ⟨_, rfl⟩
        rw [hw1] at HO HG ⊢
        clear c0 c1 c2 b0 b1 b2 he HBD HB HQ HK HC HXY HKK kk1 hkn hw1 dk dk'
        go_wp2
        go_loopw [3, 5] (fun i i5 wr => ∃ (kk k2 : Nat) (L : List TriL), i = .int .i64 kk ∧ i5 = .int .i64 k2 ∧ 1 ≤ k2 ∧ k + k2 ≤ n ∧ Hid (L.length = n ∧ wr.ownsRow lo 64 3 (.slice (some ⟨g, 0, none⟩) n cap) n (trisV L)) ∧ Hid (w.grownBy wr (some g)) ∧ Hid (Lib.CompInv l.toArray (k + k2) kk L.toArray)) (fun i i5 _ => n - (intOf i5).toNat)
        case atStart => exact ⟨k, 1, l, rfl, rfl, Nat.le_refl _, by omega, Lib.hid ⟨HN.out, HO.out⟩, HG, HS⟩
        case round =>
          obtain ⟨kk, k2, L, rfl, rfl, h1, hle, HLO, HG2, HI⟩ := hrel
          have hkk := HI.out.lt
          have hds := HI.out.size
          have HLL := HLO.out.1
          by_cases hlt2 : k + k2 < n
          · have HC := Lib.hid (fun (j : Nat) (hj : j < L.length) => show TriCells wr g (j * 3) L[j] ∧ (∀ q, wr.frozen? ⟨g, q, none⟩ = false) from by
              have ho := HLO.out.2
              rw [← HLO.out.1] at ho
              obtain ⟨g', cap', e, hc, hf, _⟩ := own_tri ho j hj
              injection e with e1 _ _
              injection e1 with e1
              injection e1 with e1 _ _
              subst e1
              exact ⟨hc, hf⟩)
            obtain ⟨⟨c0, c1, c2⟩, _⟩ := HC.out (k + k2) (by omega)
            obtain ⟨⟨b0, b1, b2⟩, _⟩ := HC.out (k + k2 - 1) (by omega)
            obtain ⟨⟨a0, a1, a2⟩, hfz⟩ := HC.out kk (by omega)
            have f0 := hfz (kk * 3)
            have f1 := hfz (kk * 3 + 1)
            have f2 := hfz (kk * 3 + 2)
            have hlx : L[k + k2]'(by omega) = l[k + k2]'(by have := HN.out; omega) := by
              have := HI.out.high (k + k2) (by omega)
              rwa [tri_at! L _ (by omega), tri_at! l _ (by have := HN.out; omega)] at this
            have hly : L[k + k2 - 1]'(by omega) = l[k + k2 - 1]'(by have := HN.out; omega) := by
              have := HI.out.high (k + k2 - 1) (by omega)
              rwa [tri_at! L _ (by omega), tri_at! l _ (by have := HN.out; omega)] at this
            rw [hlx] at c0 c1 c2
            rw [hly] at b0 b1 b2
            obtain ⟨x, hx⟩ : ∃ x, l[k + k2]'(by have := HN.out; omega) = x := ⟨_, rfl⟩
            obtain ⟨y, hy⟩ : ∃ y, l[k + k2 - 1]'(by have := HN.out; omega) = y := ⟨_, rfl⟩
            obtain ⟨z, hz⟩ : ∃ z, L[kk]'(by omega) = z := ⟨_, rfl⟩
            rw [hx] at c0 c1 c2
            rw [hy] at b0 b1 b2
            rw [hz] at a0 a1 a2
            have HXY := Lib.hid (show l.toArray[k + k2]! = x ∧ l.toArray[k + k2 - 1]! = y from ⟨by rw [tri_at! l _ (by have := HN.out; omega)]; exact hx, by rw [tri_at! l _ (by have := HN.out; omega)]; exact hy⟩)
            obtain ⟨k3, hk3⟩ : ∃ k3, k2 - 1 = k3 := ⟨_, rfl⟩
            rw [show (k + k2) * 3 = k * 3 + k2 * 3 by omega] at c0 c1 c2
            rw [show (k + k2 - 1) * 3 = k * 3 + k3 * 3 by omega] at b0 b1 b2
            have hw1 : IntKind.i64.wrap ((k2 : Int) - 1) = (k3 : Int) := by rw [IntKind.wrap_i64]; omega
            have hk3n : k3 < n - k := by omega
            have hk2n : k2 < n - k := by omega
            have dk : decide ((k2 : Int) < ((n - k : Nat) : Int)) = true := decide_eq_true (by omega)
            have dk' : decide (k2 < n - k) = true := decide_eq_true hk2n
            have he : ∀ W, (binOp .neq 64 (.agg #[.int .i64 x.x, .int .i64 x.y, .int .i64 x.z]) (.agg #[.int .i64 y.x, .int .i64 y.y, .int .i64 y.z])).run Tryz.prog W = .ok (.bool (!decide (x = y))) W := fun W => neq3 x y W
            have hge := neqg3
            clear hx hy hz hlx hly hk3 hfz hds
            by_cases hdup : x = y
            · subst hdup
              rw [decide_eq_true rfl] at he
              go_wp2
              go_region
              go_wp2
              go_roundw
              case rel => exact ⟨kk, k2 + 1, L, by go_num, by go_num, by omega, by omega, Lib.hid ⟨HLO.out.1, HLO.out.2⟩, Lib.hid ⟨HG2.out.os, HG2.out.tape, HG2.out.output, HG2.out.size, fun q hq e => HG2.out.block q hq e⟩, Lib.hid (HI.out.skip (Lib.keeps_neg (by omega) (HXY.out.1.trans HXY.out.2.symm)))⟩
              case measure => simp [intOf]; omega
            · rw [decide_eq_false hdup] at he
              have hkkn : kk < n := by omega
              go_wp2
              go_region
              go_wp2
              go_roundw
              case rel => exact ⟨kk + 1, k2 + 1, L.set kk x, by go_num, by go_num, by omega, by omega, Lib.hid ⟨by rw [List.length_set]; exact HLO.out.1, by
                  have ho := HLO.out.2
                  rw [← HLO.out.1] at ho
                  have h3 := own_setTri (k := kk) (l := L) ho (by have := HLO.out.1; omega) rfl x
                  rw [setCells_tri, List.length_set, HLO.out.1] at h3
                  exact h3⟩, Lib.hid (grown_trans HG2.out (by
                  have h3 := grown_setCells g (tcells x) (kk * 3) wr
                  rw [setCells_tri] at h3
                  exact ⟨h3.os, h3.tape, h3.output, h3.size, fun q hq e => h3.block q hq e⟩)), Lib.hid (by
                  have h3 := HI.out.keep (by simp [HN.out]; omega) (Lib.keeps_pos (by rw [HXY.out.1, HXY.out.2]; exact hdup))
                  rw [HXY.out.1] at h3
                  rw [show k + (k2 + 1) = k + k2 + 1 by omega]
                  simpa using h3)⟩
              case measure => simp [intOf]; omega
          · have hend : k + k2 = n := by omega
            obtain ⟨zs, hzl, hcl⟩ := clear3 wr g (kk * 3) (n - kk) (cap - kk) (by omega) (fun j hj => by
                have ho := HLO.out.2
                rcases ho.2 with ⟨e, _⟩ | ⟨g', cap', cur, e, _, hgg, hn1, hm1, hs1, _⟩
                · cases e
                · injection e with e1 _ e3
                  injection e1 with e1
                  injection e1 with e1 _ _
                  subst e1 e3
                  rw [cell_of_row wr g _ _ _ (0, 0) hgg, Array.getElem?_eq_getElem (by omega)]
                  rfl) (fun j hj => by
                have ho := HLO.out.2
                rcases ho.2 with ⟨e, _⟩ | ⟨g', cap', cur, e, _, hgg, hn1, hm1, hs1, _⟩
                · cases e
                · injection e with e1 _ e3
                  injection e1 with e1
                  injection e1 with e1 _ _
                  subst e1 e3
                  exact frozen_of_row wr g _ _ _ hgg)
            have HZ := Lib.hid hzl
            have dk : decide ((k2 : Int) < ((n - k : Nat) : Int)) = false := decide_eq_false (by omega)
            have dk' : decide (k2 < n - k) = false := decide_eq_false (by omega)
            have HR := Lib.hid (show RetComp w (.slice (some ⟨g, 0, none⟩) n cap) l (.returned (.slice (some ⟨g, 0, none⟩) kk cap)) (wr.setCells g (kk * 3) zs) from by
              have hi := HI.out
              rw [hend] at hi
              have hcl2 : (compact3 l).length = kk := by unfold compact3; rw [HN.out]; exact hi.len
              refine ⟨_, rfl, ?_, grown_trans HG2.out (grown_setCells g zs (kk * 3) wr)⟩
              refine .inr ⟨g, 0, cap, by rw [hcl2], ?_, fun i hi2 => ?_⟩
              · exact Nat.lt_of_lt_of_le hglt (Nat.le_trans HG2.out.size (grown_setCells g zs (kk * 3) wr).size)
              · have hik : i < kk := by omega
                have hlow := hi.low i hik
                have e1 : (compact3 l)[i] = L[i]'(by omega) := by
                  have e2 : (compact3 l)[i]? = some L.toArray[i]! := by unfold compact3; rw [HN.out]; exact hlow
                  rw [List.getElem?_eq_getElem hi2, tri_at! L i (by omega)] at e2
                  exact Option.some.inj e2
                rw [e1]
                have ho := HLO.out.2
                rw [← HLO.out.1] at ho
                obtain ⟨g', cap', e, ⟨q0, q1, q2⟩, _⟩ := own_tri (l := L) ho i (by have := HLO.out.1; omega)
                injection e with e3 _ _
                injection e3 with e3
                injection e3 with e3 _ _
                subst e3
                rw [Nat.zero_add]
                refine ⟨?_, ?_, ?_⟩
                · rw [World.cell?_setCells_out g zs _ wr _ (fun _ _ => .inl (by show i * 3 < _; omega))]; exact q0
                · rw [World.cell?_setCells_out g zs _ wr _ (fun _ _ => .inl (by show i * 3 + 1 < _; omega))]; exact q1
                · rw [World.cell?_setCells_out g zs _ wr _ (fun _ _ => .inl (by show i * 3 + 2 < _; omega))]; exact q2)
            clear hzl hds HLL
            have hkkn : kk < n := by omega
            go_wp2
            go_ret
            exact HR.out
      · rw [decide_eq_false hdup] at he
        go_wp2
        go_region
        go_wp2
        go_roundw
        case rel => exact ⟨k + 1, by omega, by omega, by go_num, Lib.hid (by obtain ⟨q, e⟩ := HQ.out; exact ⟨q + 1, by rw [e]; rfl⟩), Lib.hid (fun j hj => by
          by_cases e : j = k
          · subst e
            exact Lib.keeps_pos (by rw [tri_at! l j k1, tri_at! l (j - 1) k2, HXY.out.1, HXY.out.2]; exact hdup)
          · exact HK.out j (by omega))⟩
        case measure => simp [intOf]; omega
    · obtain rfl : k = n := by omega
      have HR := Lib.hid (show RetComp w (.slice (some ⟨g, 0, none⟩) k cap) l (.returned (.slice (some ⟨g, 0, none⟩) k cap)) wr from by
        obtain ⟨q, e⟩ := HQ.out
        have ht := HT.out
        rw [HN.out] at ht
        have hb : Below w.heap.size w wr := by rw [e]; exact below_drewN (Below.refl _ _) q
        exact ⟨_, rfl, by rw [compact3_all (fun j hj => HK.out j (by rw [← HN.out]; exact hj))]; exact ht.later hb, hb.os, hb.tape, hb.output, hb.size, fun j hj _ => hb.block j hj⟩)
      go_wp2
      go_ret
      exact HR.out
end Go.Proofs.YtdlkdilgjmmlaaaGreat
