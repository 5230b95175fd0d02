/- A stack that isn't there: Top, Pop (layer 12). -/
import Derived.Test.YtgjojjhppgjkkaaGreatKd
namespace Go.Proofs.YtgjojjhppgjkkaaGreat
open Go.RowKit Go.Maps
attribute [local go_sem] Oper.semAt_some

set_option maxRecDepth 100000 in
set_option maxHeartbeats 4000000 in
theorem top_stk0 (w : World) : Calls Tryz.prog 24 #[.pointer none] w (RetV w (.tuple #[entV zeroE, .bool false])) := by
  have hb2 := below_alloc2 (below_new w (.cells #[.int .i64 0, .int .i64 0, .int .i64 0, .bool false] 59)) (.cells #[.bool false] 4)
  have HA := Lib.hid (allK0_any ((w.alloc (.cells #[.int .i64 0, .int .i64 0, .int .i64 0, .bool false] 59)).alloc (.cells #[.bool false] 4)))
  have h2 : ((w.alloc (.cells #[.int .i64 0, .int .i64 0, .int .i64 0, .bool false] 59)).alloc (.cells #[.bool false] 4)).heap[w.heap.size]? = some (.cells #[.int .i64 0, .int .i64 0, .int .i64 0, .bool false] 59 (0, 0)) := (Below.heap_alloc _ _ _ (by simp)).trans (heap_alloc_new w _)
  have h3 : ((w.alloc (.cells #[.int .i64 0, .int .i64 0, .int .i64 0, .bool false] 59)).alloc (.cells #[.bool false] 4)).heap[w.heap.size + 1]? = some (.cells #[.bool false] 4 (0, 0)) := by
    have := heap_alloc_new (w.alloc (.cells #[.int .i64 0, .int .i64 0, .int .i64 0, .bool false] 59)) (.cells #[.bool false] 4)
    rwa [World.size_alloc] at this
  have hsz : ((w.alloc (.cells #[.int .i64 0, .int .i64 0, .int .i64 0, .bool false] 59)).alloc (.cells #[.bool false] 4)).heap.size = w.heap.size + 1 + 1 := by simp
  obtain ⟨W0, hW0⟩ : ∃ W0, (w.alloc (.cells #[.int .i64 0, .int .i64 0, .int .i64 0, .bool false] 59)).alloc (.cells #[.bool false] 4) = W0 := ⟨_, rfl⟩
  rw [hW0] at hb2 HA h2 h3 hsz
  have HW0 := Lib.hid hW0
  have HR2 := Lib.hid (And.intro h2 h3)
  have HSZ := Lib.hid hsz
  have HB2 := Lib.hid hb2
  clear h2 h3 hsz hb2 hW0
  refine (callsIn_wide (n := 9)).1 ?_
  refine callsIn_of_wp_marks Tryz.func24 rfl trivial ?_ rfl
  simp only [Tryz.ntmps24, List.size_toArray, List.length_cons, List.length_nil, Nat.reduceAdd, Nat.reduceSub, Array.replicate_succ, Array.replicate_zero, List.push_toArray, List.append_toArray, List.nil_append, List.cons_append]
  refine wpIn_wide.2 ?_
  go_wp2_with fail
  rw [HW0.out]
  obtain ⟨q2, hq2⟩ : ∃ q2, w.heap.size = q2 := ⟨_, rfl⟩
  have HQ2 := Lib.hid hq2
  try simp only [World.size_alloc]
  rw [hq2] at HR2 HSZ ⊢
  clear hq2
  refine HA.out.mono ?_
  rintro e w1 ⟨rfl, hc, hb1⟩
  have HB1 := Lib.hid hb1
  have HSZ1 := Lib.hid (show q2 + 1 < w1.heap.size by have := HSZ.out; have := hb1.size; omega)
  have HSEQ := Lib.hid (allK0_seq 8 (w := w1) (fun l => KpP (fun k => (k = q2 ∨ k = q2 + 1) ∨ k = l) (fun _ => False)) hc)
  have HR3 := Lib.hid (And.intro ((hb1.block q2 (by have := HSZ.out; omega)).trans HR2.out.1) ((hb1.block (q2 + 1) (by have := HSZ.out; omega)).trans HR2.out.2))
  have HBW := Lib.hid (stepB HB2.out hb1)
  clear hc hb1 HA
  dsimp only
  go_wp2_with fail
  refine (wpIn_wide (n := 9)).1 ?_
  refine range_world3 rfl (by omega) (I := fun pre W' => pre = [] ∧ Below w1.heap.size w1 W') (Ix := fun _ _ _ => False) (gf := 53) (lb := _) rfl trivial (fun _ _ => by kernel_rfl) HSEQ.out KpP.trans (fun W' o o' ho hc _ => KpP.put o' (.inr rfl) ho hc) (fun W W' hb => KpP.of_below _ _ hb) (Below.refl _ _) (fun _ => rfl)
    (fun s A B row hs hg hr => ⟨hs.1, ownFrom_below (β := Unit) (Nat.le_refl _) (Nat.le_refl _) () A B row hs.2 hg hr⟩)
    (fun c s A B row hs hg hr => hs)
    (fun s A B row hs hg hr => hs) (fun s A B row hs hg hr => hs) ⟨rfl, Below.refl _ _⟩ ?round ?done ?stop
  case round =>
    rintro pre x Wr K hI hT hsz hK
    exact hT.elim
  case done =>
    rintro D xs W' hD hS ⟨hpre, hb⟩ hK
    subst hpre
    have hr2 := (hb.block q2 (by have := HSZ1.out; omega)).trans HR3.out.1
    have hr3 := (hb.block (q2 + 1) (by have := HSZ1.out; omega)).trans HR3.out.2
    have f2 := fun j => frozen_of_row W' q2 j _ _ hr2
    have f3 := fun j => frozen_of_row W' (q2 + 1) j _ _ hr3
    have m0 : W'.cell? ⟨q2, 0, none⟩ = some (.int .i64 0) := cell_of_row W' q2 0 _ _ _ hr2
    have m1 : W'.cell? ⟨q2, 1, none⟩ = some (.int .i64 0) := cell_of_row W' q2 1 _ _ _ hr2
    have m2 : W'.cell? ⟨q2, 2, none⟩ = some (.int .i64 0) := cell_of_row W' q2 2 _ _ _ hr2
    have m3 : W'.cell? ⟨q2, 3, none⟩ = some (.bool false) := cell_of_row W' q2 3 _ _ _ hr2
    have n0 : W'.cell? ⟨q2 + 1, 0, none⟩ = some (.bool false) := cell_of_row W' (q2 + 1) 0 _ _ _ hr3
    have HBB := Lib.hid hb
    have HK := Lib.hid hK
    have HD := Lib.hid (show w1.heap.size ≤ D from hD)
    have HRR := Lib.hid (And.intro hr2 hr3)
    clear hS hb hK hD hr2 hr3
    go_wp2
    have hD' : q2 + 1 < D := by have := HD.out; have := HSZ1.out; omega
    have hDK : (((((W'.setCell ⟨q2, 0, none⟩ (.int .i64 0)).setCell ⟨q2, 1, none⟩ (.int .i64 0)).setCell ⟨q2, 2, none⟩ (.int .i64 0)).setCell ⟨q2, 3, none⟩ (.bool false)).setCell ⟨q2 + 1, 0, none⟩ (.bool false)).heap[D]? = some (.deferred (some [])) := by
      rw [heap_setCell_other _ ⟨q2 + 1, 0, none⟩ D _ (by show D ≠ q2 + 1; omega), heap_setCell_other _ ⟨q2, 3, none⟩ D _ (by show D ≠ q2; omega), heap_setCell_other _ ⟨q2, 2, none⟩ D _ (by show D ≠ q2; omega), heap_setCell_other _ ⟨q2, 1, none⟩ D _ (by show D ≠ q2; omega), heap_setCell_other _ ⟨q2, 0, none⟩ D _ (by show D ≠ q2; omega)]
      exact HK.out
    refine ⟨by simp, .inl ⟨_, _, rfl, run_takeDeferred hDK, ?_⟩⟩
    have g2 : (((((W'.setCell ⟨q2, 0, none⟩ (.int .i64 0)).setCell ⟨q2, 1, none⟩ (.int .i64 0)).setCell ⟨q2, 2, none⟩ (.int .i64 0)).setCell ⟨q2, 3, none⟩ (.bool false)).setCell ⟨q2 + 1, 0, none⟩ (.bool false)).heap[q2]? = some (.cells #[.int .i64 0, .int .i64 0, .int .i64 0, .bool false] 59 (0, 0)) := by
      rw [heap_setCell_other _ ⟨q2 + 1, 0, none⟩ q2 _ (by simp)]
      exact set4E 0 0 0 false HRR.out.1 rfl
    have g3 : (((((W'.setCell ⟨q2, 0, none⟩ (.int .i64 0)).setCell ⟨q2, 1, none⟩ (.int .i64 0)).setCell ⟨q2, 2, none⟩ (.int .i64 0)).setCell ⟨q2, 3, none⟩ (.bool false)).setCell ⟨q2 + 1, 0, none⟩ (.bool false)).heap[q2 + 1]? = some (.cells #[.bool false] 4 (0, 0)) := by
      rw [heap_setCell_same _ (q2 + 1) 0 (#[.bool false]) 4 (.bool false) (by
        rw [heap_setCell_other _ ⟨q2, 3, none⟩ (q2 + 1) _ (by simp), heap_setCell_other _ ⟨q2, 2, none⟩ (q2 + 1) _ (by simp), heap_setCell_other _ ⟨q2, 1, none⟩ (q2 + 1) _ (by simp), heap_setCell_other _ ⟨q2, 0, none⟩ (q2 + 1) _ (by simp)]
        exact HRR.out.2)]
      rfl
    have hle : w.heap.size ≤ q2 := Nat.le_of_eq HQ2.out
    refine ⟨_, top_results _ _ _ _ _ _ _ _ ((World.putObj_heap_other (by omega)).trans g2) ((World.putObj_heap_other (by omega)).trans g3), rfl, ?_⟩
    exact below_putD ((((((stepB HBW.out HBB.out).setCell hle _).setCell hle _).setCell hle _).setCell hle _).setCell (Nat.le_succ_of_le hle) _) (by omega) hDK _
  case stop =>
    rintro D c' pre W' hD hS hI hK
    exact hI.elim
theorem pop_stk0 (w : World) : Calls Tryz.prog 23 #[.pointer none] w (RetV w (.tuple #[entV zeroE, .bool false])) :=
  pop_none fun w' _ => top_stk0 w'
end Go.Proofs.YtgjojjhppgjkkaaGreat
