/- The contract of deck.Worth (layer 3): what the cards of a deck cost. -/
import Derived.Test.YtcbjekdbkhibbaaDs
import Derived.RangeFuncBox
import Derived.RangeFuncNested
import Derived.RangeFuncCalls
import Derived.IntWalk
namespace Go.Proofs.Ytcbjekdbkhibbaa
open Go.RowKit
attribute [local go_sem] Oper.semAt_some

theorem inT_nat2 {m : Nat} {x : Int} (h : inT m x = true) : ∃ k : Nat, x = (k : Int) ∧ k < m := by
  simp only [inT, Bool.and_eq_true, decide_eq_true_eq] at h
  exact ⟨x.toNat, by omega, by omega⟩
theorem nums4_at {w : World} {a b c d : Int} {q : Nat} (e : q = w.heap.size) : NumsAt (w.alloc (.cells #[.int .i64 a, .int .i64 b, .int .i64 c, .int .i64 d] 3)) (.slice (some ⟨q, 0, none⟩) 4 4) [a, b, c, d] := by
  subst e
  exact .inr ⟨_, _, _, rfl, by simp, fun i hi => by
    have h : i = 0 ∨ i = 1 ∨ i = 2 ∨ i = 3 := by simp at hi; omega
    rcases h with rfl | rfl | rfl | rfl <;> simp [go_sem]⟩
def costAt (t : List CardL) (n : Int) : Int := (t[n.toNat]?.map fun c => c.cost).getD 0
theorem costAt_of {t : List CardL} {m : Nat} (h : m < t.length) : costAt t (m : Int) = t[m].cost := by simp [costAt, h]
/-- No card costs more than 1000, nor less than -1000. -/
def CostOk (t : List CardL) : Prop := ∀ c ∈ t, -1000 ≤ c.cost ∧ c.cost ≤ 1000
theorem costAt_bd {t : List CardL} (h : CostOk t) (n : Int) : -1000 ≤ costAt t n ∧ costAt t n ≤ 1000 := by
  unfold costAt
  cases hc : t[n.toNat]? with
  | none => simp
  | some c => exact h c (List.mem_of_getElem? hc)
def sumC (t : List CardL) (l : List Int) : Int := (l.map (costAt t)).sum
theorem sumC_bd {t : List CardL} (h : CostOk t) : ∀ l : List Int, -1000 * (l.length : Int) ≤ sumC t l ∧ sumC t l ≤ 1000 * (l.length : Int)
  | [] => by simp [sumC]
  | x :: l => by
    have h1 := costAt_bd h x
    have h2 := sumC_bd h l
    unfold sumC at h2 ⊢
    simp only [List.map_cons, List.sum_cons, List.length_cons]
    omega
theorem sumC_snoc (t : List CardL) (l : List Int) (x : Int) : sumC t (l ++ [x]) = sumC t l + costAt t x := by simp [sumC]
def worthL (t : List CardL) (l : List Int) : Int := sumC t (ofL t [1, 2, 3, 4] l)

/-- The numbers that are told, each with the word that it is one of the table's. -/
def tagL (t : List CardL) (ks l : List Int) : List {x : Int // ofB t ks x = true} := (ofL t ks l).attachWith _ (fun _ hx => (List.mem_filter.1 hx).2)
theorem tagL_map (t : List CardL) (ks l : List Int) : (tagL t ks l).map (·.1) = ofL t ks l := by
  unfold tagL
  exact List.attachWith_map_subtype_val _
theorem tagL_len (t : List CardL) (ks l : List Int) : (tagL t ks l).length = (ofL t ks l).length := by simp [tagL]

set_option maxRecDepth 100000 in
set_option maxHeartbeats 4000000 in
theorem worth_any {v u : Value} {t : List CardL} {l : List Int} {w : World} (h : CardsAt w v t) (hu : IntsAt w u l) (hl : l.length ≤ 1000) (hc : CostOk t) :
    Calls Try.prog 63 #[v, u] w (fun e w' => e = .returned (.int .i64 (worthL t l)) ∧ Below w.heap.size w w') := by
  obtain ⟨xa, xc, rfl⟩ := h.form
  obtain ⟨ya, yc, rfl⟩ := hu.form
  have HL := Lib.hid h
  have HU := Lib.hid hu
  have HLL := Lib.hid hl
  have HCO := Lib.hid hc
  clear h hu hl hc
  refine (callsIn_wide (n := 5)).1 ?_
  refine callsIn_of_wp_marks Try.func63 rfl trivial ?_ rfl
  simp only [Try.ntmps63, List.size_toArray, List.length_cons, List.length_nil, Nat.reduceAdd, Nat.reduceSub, Array.replicate_succ, Array.replicate_zero, List.push_toArray, List.append_toArray, List.nil_append, List.cons_append]
  gi_wp2_with fail
  obtain ⟨w0, hw0⟩ : ∃ w0, (((w.alloc (.cells #[.slice xa t.length xc] 85)).alloc (.cells #[.int .i64 0] 3)).alloc (.cells #[.int .i64 1, .int .i64 2, .int .i64 3, .int .i64 4] 3)) = w0 := ⟨_, rfl⟩
  have HNM := Lib.hid (show NumsAt w0 (.slice (some ⟨w.heap.size + 1 + 1, 0, none⟩) 4 4) [1, 2, 3, 4] from by rw [← hw0]; exact nums4_at (by simp))
  have HB0 := Lib.hid (show Below w.heap.size w w0 from by rw [← hw0]; exact below_alloc2 (below_alloc2 (below_new w _) _) _)
  have HBX := Lib.hid (show Boxed w0 w.heap.size 85 (.slice xa t.length xc) from by rw [← hw0]; exact ((Boxed.new w _ _).alloc _).alloc _)
  have HSM := Lib.hid (show Boxed w0 (w.heap.size + 1) 3 (.int .i64 0) from by
    rw [← hw0]
    have := (Boxed.new (w.alloc (.cells #[.slice xa t.length xc] 85)) 3 (.int .i64 0)).alloc (.cells #[.int .i64 1, .int .i64 2, .int .i64 3, .int .i64 4] 3)
    simpa using this)
  have HZ0 := Lib.hid (show w.heap.size + 3 = w0.heap.size from by rw [← hw0]; simp)
  rw [hw0]
  clear hw0
  refine ⟨trivial, (callsIn_wide.2 (of_any (HL.out.later HB0.out) (HU.out.later HB0.out) HNM.out HLL.out (by decide))).mono ?_⟩
  rintro e w1 ⟨q, rfl, hv, hq, hb1⟩
  have hseq := of_stops2 Fence.wide 4 trivial rfl (by decide) q (w.heap.size + 1) w1.heap.size (tagL t [1, 2, 3, 4] l) (by rw [tagL_len]; exact Nat.le_trans (List.length_filter_le _ _) HLL.out) w1 (by rw [tagL_map]; exact hv) (by have := HZ0.out; omega) rfl
  have HSEQ := Lib.hid hseq
  have HB1 := Lib.hid (stepB HB0.out hb1)
  have HBX1 := Lib.hid (show Boxed w1 w.heap.size 85 (.slice xa t.length xc) from (hb1.block _ HBX.out.lt).trans HBX.out)
  have HSM1 := Lib.hid (show Boxed w1 (w.heap.size + 1) 3 (.int .i64 0) from (hb1.block _ HSM.out.lt).trans HSM.out)
  have hlen := tagL_len t [1, 2, 3, 4] l
  have hfl : (ofL t [1, 2, 3, 4] l).length ≤ 1000 := Nat.le_trans (List.length_filter_le _ _) HLL.out
  have HTL := Lib.hid (show (tagL t [1, 2, 3, 4] l).length ≤ 1000 by omega)
  clear hv hq hb1 hseq hlen hfl
  gi_wp2
  refine wpIn_rangeFunc_ownF rfl (by decide) (gf := 128) (lb := #[.pointer (some ⟨q, 0, none⟩)]) rfl trivial (fun _ _ => by kernel_rfl) HSEQ.out (fun h k => h.trans k) (KeptBut.put (Nat.le_refl _)) (Below.refl _ _) (fun _ => rfl)
    (fun pre W => (Boxed W (w.heap.size + 1) 3 (.int .i64 (sumC t (pre.map (·.1)))) ∧ Boxed W w.heap.size 85 (.slice xa t.length xc)) ∧ Below w.heap.size w W)
    (fun _ _ _ => False)
    (OwnFrom.and (OwnFrom.and (Own.from (boxed_own (w.heap.size + 1) 3 (fun pre : List {x : Int // ofB t [1, 2, 3, 4] x = true} => .int .i64 (sumC t (pre.map (·.1))))) _) (Own.from (boxed_own w.heap.size 85 (fun _ => .slice xa t.length xc)) _)) (ownFrom_below (Nat.le_refl _) HB1.out.size))
    (fun _ _ _ _ _ hs _ _ => hs)
    ⟨⟨HSM1.out, HBX1.out⟩, HB1.out⟩ ?a1 ?assign ?body ?done ?stop
  case assign =>
    intro l x W K hK
    gi_wp2
    exact hK
  case body =>
    rintro l pre ⟨x, hx⟩ W ⟨⟨hs, hbx⟩, hB⟩ hlen
    obtain ⟨S, hS⟩ : ∃ S, sumC t (pre.map (·.1)) = S := ⟨_, rfl⟩
    have hbd := sumC_bd HCO.out (pre.map (·.1))
    rw [List.length_map, hS] at hbd
    rw [hS] at hs
    have HSS := Lib.hid hS
    clear hS
    have HSs := Lib.hid hs
    have HBb := Lib.hid hbx
    have HB := Lib.hid hB
    have hcs := hs.cell
    have hfs := hs.frozen
    have hcb := hbx.cell
    unfold ofB at hx
    simp only [Bool.and_eq_true] at hx
    obtain ⟨m, rfl, hmt⟩ := inT_nat2 hx.1
    obtain ⟨b2, off2, rfl, hcell⟩ := (HL.out.later HB.out).at m hmt
    have hka := costAt_of hmt
    obtain ⟨c, hcc⟩ : ∃ c, t[m] = c := ⟨_, rfl⟩
    rw [hcc] at hcell hka
    obtain ⟨za, zc, k0, k1, k2, k3, k4, k5, k6, ht⟩ := hcell
    have hcb2 := costAt_bd HCO.out (m : Int)
    rw [hka] at hcb2
    have htl := HTL.out
    have hwr : IntKind.i64.wrap (S + c.cost) = S + c.cost := IntWalk.i64_in _ (by omega)
    have HKA := Lib.hid hka
    have m0 : (0 : Int) ≤ m := by omega
    have m1 : (m : Int) < t.length := by omega
    clear ht hcc hka hs hbx hB k0 k2 k3 k4 k5 k6
    gi_wp2
    gi_region
    all_goals
      gi_wp2
      refine ⟨(KeepsOthers.setCell W _ _).trans (KeepsOthers.drew _), ⟨by simp, fun k _ hks => Below.heap_setCell W ⟨w.heap.size + 1, 0, none⟩ _ k hks⟩, ⟨?_, HBb.out.other (by omega) _⟩, (HB.out.setCell (p := ⟨w.heap.size + 1, 0, none⟩) (by simp) _).drew⟩
      have hfin := HSs.out.set (.int .i64 (S + c.cost))
      rw [List.map_append, List.map_cons, List.map_nil, sumC_snoc, HSS.out, HKA.out]
      exact hfin
  case done =>
    rintro D xs W hD hS ⟨⟨hs, hbx⟩, hB⟩ hK
    subst hS
    rw [tagL_map] at hs
    have HWL := Lib.hid (show sumC t (ofL t [1, 2, 3, 4] l) = worthL t l from rfl)
    rw [HWL.out] at hs
    have hc := hs.cell
    have HB := Lib.hid hB
    clear hs hbx hB
    gi_wp2
    refine ⟨by simp, .inl ⟨_, _, rfl, run_takeDeferred hK, ?_⟩⟩
    refine ⟨_, results_tmp rfl _ _ _, ?_, HB.out.trans (belowK_b (w := w) (Nat.le_refl _) W D _ _ (by have := HB1.out.size; omega) hK rfl rfl)⟩
    rfl
  case stop =>
    rintro D c pre W _ _ h _
    exact h.elim
end Go.Proofs.Ytcbjekdbkhibbaa
