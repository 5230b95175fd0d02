/- The library's slices.IndexFunc and slices.DeleteFunc at the hits of 0 (layer 17). -/
import Derived.Test.YtjgjhfeopmakaaaGreatQe
import Derived.Laws.IdiomCopy
namespace Go.Proofs.YtjgjhfeopmakaaaGreat
open Go.RowKit Go.Maps
attribute [local go_sem] Oper.semAt_some

def nzB (x : HitL) : Bool := !decide (x.z = 0)
def zeroFn : Value := .func (.func 38) #[] #[]
def RetIdxH (w : World) (L : List HitL) (e : Ending) (w' : World) : Prop := ∃ n : Int, e = .returned (.int .i64 n) ∧ Below w.heap.size w w' ∧ ((n = -1 ∧ ∀ j (hj : j < L.length), nzB L[j] = true) ∨ (∃ k, ∃ hk : k < L.length, n = k ∧ nzB L[k] = false ∧ ∀ j (hj : j < L.length), j < k → nzB L[j] = true))
set_option maxRecDepth 100000 in
set_option maxHeartbeats 4000000 in
theorem indexH_any {w : World} {v : Value} {L : List HitL} (hv : HitsAt w v L) (hL : L.length ≤ 1000000) :
    Calls Tryz.prog 75 #[v, zeroFn] w (RetIdxH w L) := by
  unfold zeroFn
  have HV := Lib.hid hv
  have HP := Lib.hid (fun (x : HitL) (w' : World) => plan1_any x w')
  obtain ⟨va, vc, rfl⟩ := hv.form
  clear hv
  go_enter Tryz.func75, Tryz.ntmps75
  go_wp2
  go_loopw [8] (fun i wr => ∃ k : Nat, k ≤ L.length ∧ i = .int .i64 k ∧ Hid (Below w.heap.size w wr) ∧ Hid (∀ j (hj : j < L.length), j < k → nzB L[j] = true)) (fun i _ => L.length - (intOf i).toNat)
  case atStart => exact ⟨0, Nat.zero_le _, rfl, Lib.hid (Below.refl _ _), Lib.hid fun j _ hj => absurd hj (by omega)⟩
  case round =>
    obtain ⟨k, hk, rfl, HB, HJ⟩ := hrel
    by_cases hlt : k < L.length
    · have d0 : decide ((k : Int) < L.length) = true := decide_eq_true (by omega)
      have d1 : (k : Int) < L.length := by omega
      have d2 : (0 : Int) ≤ k := by omega
      obtain ⟨b0, off, rfl, x0, x1, x2⟩ := (HV.out.later HB.out).at k hlt
      have HX := Lib.hid (show ∀ z : Bool, decide (L[k].z = 0) = z → z = true → RetIdxH w L (.returned (.int .i64 k)) wr → True from fun _ _ _ _ => trivial)
      have HN := Lib.hid (show nzB L[k] = !decide (L[k].z = 0) from rfl)
      have HPX := Lib.hid (HP.out L[k] wr)
      obtain ⟨x, hx⟩ : ∃ x, L[k] = x := ⟨_, rfl⟩
      rw [hx] at x0 x1 x2 HPX HN
      have HXK := Lib.hid hx
      obtain ⟨z, hz⟩ : ∃ z, decide (x.z = 0) = z := ⟨_, rfl⟩
      rw [hz] at HPX HN
      obtain ⟨a, b, c⟩ := x
      unfold hitV at HPX
      dsimp only at HPX x0 x1 x2
      clear hx hz HX
      go_wp2_with fail
      refine HPX.out.mono ?_
      rintro e w2 ⟨rfl, hb2⟩
      have HB2 := Lib.hid (stepB HB.out hb2)
      clear hb2 x0 x1 x2 HPX
      dsimp only
      cases z with
      | true =>
        have HR := Lib.hid (show RetIdxH w L (.returned (.int .i64 k)) w2 from ⟨k, rfl, HB2.out, .inr ⟨k, hlt, rfl, by rw [HXK.out, HN.out]; rfl, HJ.out⟩⟩)
        go_wp2
        go_ret
        exact HR.out
      | false =>
        have HJ2 := Lib.hid (show ∀ j (hj : j < L.length), j < k + 1 → nzB L[j] = true from fun j hj hjk => by
          rcases Nat.lt_succ_iff_lt_or_eq.1 hjk with h | h
          · exact HJ.out j hj h
          · subst h
            rw [HXK.out, HN.out]
            rfl)
        go_wp2
        go_roundw
        case rel => exact ⟨k + 1, by omega, by go_num, HB2, HJ2⟩
        case measure => simp [intOf]; omega
    · have d0 : decide ((k : Int) < L.length) = false := decide_eq_false (by omega)
      have HR := Lib.hid (show RetIdxH w L (.returned (.int .i64 (-1))) wr from ⟨-1, rfl, HB.out, .inl ⟨rfl, fun j hj => HJ.out j hj (by omega)⟩⟩)
      go_wp2
      go_ret
      exact HR.out
def RetDel (w : World) (v : Value) (L : List HitL) (e : Ending) (w' : World) : Prop := ∃ u, e = .returned u ∧ HitsAt w' u (L.filter nzB) ∧ w.grownBy w' v.ownBlock ∧ u.ownBlock = v.ownBlock
theorem filter_all {L : List HitL} (h : ∀ j (hj : j < L.length), nzB L[j] = true) : L.filter nzB = L := List.filter_eq_self.2 fun x hx => by
  obtain ⟨j, hj, rfl⟩ := List.getElem_of_mem hx
  exact h j hj
theorem take_filter {L : List HitL} {k : Nat} (h : ∀ j (hj : j < L.length), j < k → nzB L[j] = true) : (L.take k).filter nzB = L.take k := List.filter_eq_self.2 fun x hx => by
  obtain ⟨j, hj, rfl⟩ := List.getElem_of_mem hx
  rw [List.length_take] at hj
  rw [List.getElem_take]
  exact h j (by omega) (by omega)
/-- What the loop of DeleteFunc holds: what stays stands in front, what is not yet looked at is as it was. -/
structure DelI (L M : List HitL) (i j : Nat) : Prop where
  len : M.length = L.length
  lt : i < j
  le : j ≤ L.length
  low : M.take i = (L.take j).filter nzB
  high : M.drop j = L.drop j
theorem DelI.start {L : List HitL} {k : Nat} (hk : k < L.length) (h0 : nzB L[k] = false) (h : ∀ j (hj : j < L.length), j < k → nzB L[j] = true) : DelI L L k (k + 1) := by
  refine ⟨rfl, by omega, by omega, ?_, rfl⟩
  rw [List.take_succ_eq_append_getElem hk, List.filter_append, take_filter h]
  simp [h0]
theorem DelI.skip {L M : List HitL} {i j : Nat} (h : DelI L M i j) (hj : j < L.length) (h0 : nzB L[j] = false) : DelI L M i (j + 1) := by
  refine ⟨h.len, by have := h.lt; omega, by omega, ?_, ?_⟩
  · rw [List.take_succ_eq_append_getElem hj, List.filter_append, h.low]
    simp [h0]
  · have e := h.high
    rw [← List.drop_drop, e, List.drop_drop]
theorem DelI.at {L M : List HitL} {i j : Nat} (h : DelI L M i j) (hj : j < L.length) : M[j]'(by have := h.len; omega) = L[j] := by
  have h2 := h.high
  have hl := h.len
  have e1 := List.getElem_drop (xs := M) (i := j) (j := 0) (h := by rw [List.length_drop]; omega)
  have e2 := List.getElem_drop (xs := L) (i := j) (j := 0) (h := by rw [List.length_drop]; omega)
  simp only [Nat.add_zero] at e1 e2
  rw [← e1, ← e2]
  simp only [h2]
theorem DelI.keep {L M : List HitL} {i j : Nat} (h : DelI L M i j) (hj : j < L.length) (h0 : nzB L[j] = true) : DelI L (M.set i L[j]) (i + 1) (j + 1) := by
  have hl := h.len
  have hlt := h.lt
  refine ⟨by rw [List.length_set]; exact hl, by omega, by omega, ?_, ?_⟩
  · rw [List.take_succ_eq_append_getElem hj, List.filter_append, ← h.low, List.take_succ_eq_append_getElem (by rw [List.length_set]; omega)]
    simp [h0, List.take_set]
    exact List.set_eq_of_length_le (by rw [List.length_take]; omega)
  · rw [List.drop_set_of_lt (by omega), ← List.drop_drop, h.high, List.drop_drop]
set_option maxRecDepth 100000 in
set_option maxHeartbeats 8000000 in
theorem delH_any {w : World} {lo : Nat} {v : Value} {L : List HitL} (h : w.ownsRow lo 52 3 v L.length (hitsV L)) (hl : L.length ≤ 1000000) :
    Calls Tryz.prog 37 #[v, zeroFn] w (RetDel w v L) := by
  have HT := Lib.hid (own_hits h)
  have HIX := Lib.hid (indexH_any (own_hits h) hl)
  have HPF := Lib.hid (fun (x : HitL) (w' : World) => plan1_any x w')
  have HH := Lib.hid h
  obtain ⟨va, vc, rfl⟩ := hits_form h
  unfold zeroFn at HIX ⊢
  clear h
  go_enter Tryz.func37, Tryz.ntmps37
  go_wp2_with fail
  refine HIX.out.mono ?_
  rintro e w1 ⟨nn, rfl, hb1, ⟨rfl, hall⟩ | ⟨k, hk, rfl, hz, hbef⟩⟩
  · have HR := Lib.hid (show RetDel w (.slice va L.length vc) L (.returned (.slice va L.length vc)) w1 from ⟨_, rfl, by rw [filter_all hall]; exact HT.out.later hb1, ⟨hb1.os, hb1.tape, hb1.output, hb1.size, fun q hq _ => hb1.block q hq⟩, rfl⟩)
    clear hb1 hall
    go_wp2
    go_ret
    exact HR.out
  · have HS := Lib.hid (DelI.start hk hz hbef)
    have HB1 := Lib.hid hb1
    have HO1 := Lib.hid (hits_later HH.out hb1)
    have HG1 := Lib.hid (show w.grownBy w1 (Value.slice va L.length vc).ownBlock from ⟨hb1.os, hb1.tape, hb1.output, hb1.size, fun q hq _ => hb1.block q hq⟩)
    obtain ⟨g, cap, hv, hcc0, hff0, hglt, hlo⟩ := own_hit HH.out k hk
    injection hv with hv1 _ hv2
    subst hv1 hv2
    have HGL := Lib.hid hglt
    have hcap : L.length ≤ vc := by
      rcases HH.out.2 with ⟨e, _⟩ | ⟨g', cap', cur, e, _, _, hn, _⟩
      · cases e
      · injection e with _ _ e3; omega
    obtain ⟨n, hn⟩ : ∃ n, L.length = n := ⟨_, rfl⟩
    have HN := Lib.hid hn
    have HKN := Lib.hid (show k < n from by rw [← hn]; exact hk)
    rw [hn] at HO1 HG1 hcap hl ⊢
    have dk : decide ((k : Int) = -1) = false := decide_eq_false (by omega)
    have dk2 : ((k : Int) == -1) = false := by simp
    have kn0 : ¬((k : Int) = -1) := by omega
    have hk1 : k < 1000000 := by have := HKN.out; omega
    clear hb1 hcc0 hff0 hz hbef hlo hglt hn hk HIX
    dsimp only
    go_wp2
    go_loopw [5, 6] (fun a b wr => ∃ (i j : Nat) (M : List HitL), i < j ∧ j ≤ n ∧ a = .int .i64 i ∧ b = .int .i64 j ∧ Hid (DelI L M i j) ∧ Hid (wr.ownsRow lo 52 3 (.slice (some ⟨g, 0, none⟩) n vc) n (hitsV M)) ∧ Hid (w.grownBy wr (some g))) (fun _ b _ => n - (intOf b).toNat)
    case atStart => exact ⟨k, k + 1, L, by omega, by have := HKN.out; omega, by first | rfl | go_num, by go_num, HS, HO1, HG1⟩
    case round =>
      obtain ⟨i, j, M, hij, hjn, rfl, rfl, HI, HO, HG⟩ := hrel
      have HML := Lib.hid (show M.length = n from by rw [HI.out.len]; exact HN.out)
      have HOM := Lib.hid (show wr.ownsRow lo 52 3 (.slice (some ⟨g, 0, none⟩) n vc) M.length (hitsV M) from by rw [HML.out]; exact HO.out)
      have HC := Lib.hid (fun (q : Nat) (hq : q < M.length) => show HitCells wr g (q * 3) M[q] ∧ (∀ q, wr.frozen? ⟨g, q, none⟩ = false) from by
        have ho := HOM.out
        rw [show (Value.slice (some (⟨g, 0, none⟩ : Addr)) n vc) = .slice (some ⟨g, 0, none⟩) M.length vc by rw [HML.out]] at ho
        obtain ⟨g', cap', e, hc, hf, _⟩ := own_hit ho q hq
        injection e with e1 _ _
        injection e1 with e1
        injection e1 with e1 _ _
        subst e1
        exact ⟨hc, hf⟩)
      by_cases hlt : j < n
      · have djn : decide ((j : Int) < n) = true := decide_eq_true (by omega)
        have djn' : decide (j < n) = true := decide_eq_true hlt
        have hjL : j < L.length := by have := HN.out; omega
        obtain ⟨⟨c0, c1, c2⟩, hfz⟩ := HC.out j (by have := HML.out; omega)
        have hatj := HI.out.at hjL
        rw [hatj] at c0 c1 c2
        obtain ⟨x, hx⟩ : ∃ x, L[j] = x := ⟨_, rfl⟩
        rw [hx] at c0 c1 c2
        have HXJ := Lib.hid hx
        have HNZ := Lib.hid (show nzB x = !decide (x.z = 0) from rfl)
        obtain ⟨x0, x1, x2⟩ := x
        dsimp only at c0 c1 c2
        have hba := below_new wr (.cells #[.int .i64 x0, .int .i64 x1, .int .i64 x2] 52)
        have HBA := Lib.hid hba
        have HPX := Lib.hid (HPF.out ⟨x0, x1, x2⟩ (wr.alloc (.cells #[.int .i64 x0, .int .i64 x1, .int .i64 x2] 52)))
        obtain ⟨z, hz⟩ : ∃ z, decide (x2 = 0) = z := ⟨_, rfl⟩
        unfold hitV at HPX
        dsimp only at HPX HNZ
        rw [hz] at HPX HNZ
        have r0 := heap_alloc_new wr (.cells #[.int .i64 x0, .int .i64 x1, .int .i64 x2] 52)
        have HQR := Lib.hid r0
        have hin : i < n := by omega
        obtain ⟨⟨a0, a1, a2⟩, _⟩ := HC.out i (by have := HML.out; omega)
        obtain ⟨y, hy⟩ : ∃ y, M[i]'(by have := HML.out; omega) = y := ⟨_, rfl⟩
        rw [hy] at a0 a1 a2
        clear hx hz hatj hba r0 hy
        go_wp2_with fail
        refine HPX.out.mono ?_
        rintro e w5 ⟨rfl, hb5⟩
        have HB5 := Lib.hid (stepB HBA.out hb5)
        have HO5 := Lib.hid (hits_later HOM.out HB5.out)
        have HG5 := Lib.hid (show w.grownBy w5 (some g) from grown_trans HG.out ⟨HB5.out.os, HB5.out.tape, HB5.out.output, HB5.out.size, fun q hq _ => HB5.out.block q hq⟩)
        have r5 : w5.heap[wr.heap.size]? = some (.cells #[.int .i64 x0, .int .i64 x1, .int .i64 x2] 52 (0, 0)) := (hb5.block _ (by simp)).trans HQR.out
        have y0 := cell_of_row w5 wr.heap.size 0 _ _ _ r5
        have y1 := cell_of_row w5 wr.heap.size 1 _ _ _ r5
        have y2 := cell_of_row w5 wr.heap.size 2 _ _ _ r5
        simp only [List.getElem?_toArray, List.getElem?_cons_succ, List.getElem?_cons_zero] at y0 y1 y2
        have hgl : g < wr.heap.size := by have := HGL.out; have := HG.out.size; omega
        have HF5 := Lib.hid (show ∀ q, w5.frozen? ⟨g, q, none⟩ = false from fun q => by
          have ho := HO5.out
          rw [show (Value.slice (some (⟨g, 0, none⟩ : Addr)) n vc) = .slice (some ⟨g, 0, none⟩) M.length vc by rw [HML.out]] at ho
          obtain ⟨g', cap', e, _, hf, _⟩ := own_hit ho i (by have := HML.out; omega)
          injection e with e1 _ _
          injection e1 with e1
          injection e1 with e1 _ _
          subst e1
          exact hf q)
        have b0 := cell_stays HB5.out a0
        have b1 := cell_stays HB5.out a1
        have b2 := cell_stays HB5.out a2
        obtain ⟨qx, hqx⟩ : ∃ qx, wr.heap.size = qx := ⟨_, rfl⟩
        rw [hqx] at y0 y1 y2
        clear hb5 c0 c1 c2 a0 a1 a2 r5 hfz HPX HQR HBA hgl
        dsimp only
        cases z with
        | true =>
          have HI2 := Lib.hid (HI.out.skip (by have := HN.out; omega) (by rw [HXJ.out, HNZ.out]; rfl))
          go_wp2
          go_roundw
          case rel => exact ⟨i, j + 1, M, by omega, by omega, rfl, by go_num, HI2, Lib.hid (by rw [← HML.out]; have := HO5.out; rw [← HML.out] at this; exact this), HG5⟩
          case measure => simp [intOf]; omega
        | false =>
          have HI2 := Lib.hid (show DelI L (M.set i ⟨x0, x1, x2⟩) (i + 1) (j + 1) from by
            have h2 := HI.out.keep (by have := HN.out; omega) (by rw [HXJ.out, HNZ.out]; rfl)
            rwa [HXJ.out] at h2)
          have f0 := HF5.out (i * 3)
          have f1 := HF5.out (i * 3 + 1)
          have f2 := HF5.out (i * 3 + 2)
          go_wp2
          go_roundw
          case rel => exact ⟨i + 1, j + 1, M.set i ⟨x0, x1, x2⟩, by omega, by omega, by go_num, by go_num, HI2, Lib.hid (by
              have ho := HO5.out
              rw [show (Value.slice (some (⟨g, 0, none⟩ : Addr)) n vc) = .slice (some ⟨g, 0, none⟩) M.length vc by rw [HML.out]] at ho
              have h3 := own_setHit (k := i) (l := M) ho (by have := HML.out; omega) rfl ⟨x0, x1, x2⟩
              rw [setCells_hit, List.length_set, HML.out] at h3
              exact h3), Lib.hid (grown_trans HG5.out (by
              have h3 := grown_setCells g (hcells ⟨x0, x1, x2⟩) (i * 3) w5
              rw [setCells_hit] at h3
              exact ⟨h3.os, h3.tape, h3.output, h3.size, fun q hq e => h3.block q hq e⟩))⟩
          case measure => simp [intOf]; omega
      · have hend : j = n := by omega
        obtain ⟨zs, hzl, hcl⟩ := clearH wr g (i * 3) (n - i) (vc - i) (by omega) (fun q hq => by
            have ho := HO.out
            rcases ho.2 with ⟨e, _⟩ | ⟨g', cap', cur, e, _, hgg, hn1, hm1, hs1, _⟩
            · cases e
            · injection e with e1 _ e3
              injection e1 with e1
              injection e1 with e1 _ _
              subst e1 e3
              rw [cell_of_row wr g _ _ _ (0, 0) hgg, Array.getElem?_eq_getElem (by omega)]
              rfl) (fun q hq => by
            have ho := HO.out
            rcases ho.2 with ⟨e, _⟩ | ⟨g', cap', cur, e, _, hgg, hn1, hm1, hs1, _⟩
            · cases e
            · injection e with e1 _ e3
              injection e1 with e1
              injection e1 with e1 _ _
              subst e1 e3
              exact frozen_of_row wr g _ _ _ hgg)
        have djn : decide ((j : Int) < n) = false := decide_eq_false (by omega)
        have djn' : decide (j < n) = false := decide_eq_false (by omega)
        have HR := Lib.hid (show RetDel w (.slice (some ⟨g, 0, none⟩) n vc) L (.returned (.slice (some ⟨g, 0, none⟩) i vc)) (wr.setCells g (i * 3) zs) from by
          have hi := HI.out
          rw [hend] at hi
          have hlow := hi.low
          rw [show L.take n = L by rw [← HN.out]; exact List.take_length] at hlow
          have hil : (L.filter nzB).length = i := by rw [← hlow, List.length_take]; have := HML.out; omega
          refine ⟨_, rfl, ?_, grown_trans HG.out (grown_setCells g zs (i * 3) wr), rfl⟩
          refine .inr ⟨g, 0, vc, by rw [hil], ?_, fun q hq => ?_⟩
          · exact Nat.lt_of_lt_of_le HGL.out (Nat.le_trans HG.out.size (grown_setCells g zs (i * 3) wr).size)
          · have hqi : q < i := by omega
            have e1 : (L.filter nzB)[q] = M[q]'(by have := HML.out; omega) := by
              have : (L.filter nzB)[q]? = (M.take i)[q]? := by rw [hlow]
              rw [List.getElem?_eq_getElem hq, List.getElem?_take_of_lt hqi, List.getElem?_eq_getElem (by have := HML.out; omega)] at this
              exact Option.some.inj this
            rw [e1]
            obtain ⟨⟨q0, q1, q2⟩, _⟩ := HC.out q (by have := HML.out; omega)
            rw [Nat.zero_add]
            refine ⟨?_, ?_, ?_⟩
            · rw [World.cell?_setCells_out g zs _ wr _ (fun _ _ => .inl (by show q * 3 < _; omega))]; exact q0
            · rw [World.cell?_setCells_out g zs _ wr _ (fun _ _ => .inl (by show q * 3 + 1 < _; omega))]; exact q1
            · rw [World.cell?_setCells_out g zs _ wr _ (fun _ _ => .inl (by show q * 3 + 2 < _; omega))]; exact q2)
        have hin : i < n := by omega
        clear hzl
        go_wp2
        go_ret
        exact HR.out
end Go.Proofs.YtjgjhfeopmakaaaGreat
