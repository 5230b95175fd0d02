/- A stack's Top and Pop (layer 12). -/
import Derived.Test.YtgjojjhppgjkkaaGreatKc
import Derived.Test.YtgjojjhppgjkkaaGreatOt
namespace Go.Proofs.YtgjojjhppgjkkaaGreat
open Go.RowKit Go.Maps
attribute [local go_sem] Oper.semAt_some

theorem KpP.cell {E H : Nat → Prop} {W : World} {b j : Nat} (u : Value) (hE : E b) (hH : ∀ c, H c → c ≠ b) : KpP E H W (W.setCell ⟨b, j, none⟩ u) :=
  ⟨by simp, fun k o ho hn _ => (heap_setCell_other W ⟨b, j, none⟩ k u (fun e => hn (by rw [e]; exact hE))).trans ho, fun c v hc hv => ⟨v, hv.of (heap_setCell_other W ⟨b, j, none⟩ c u (hH c hc)), .inl rfl⟩⟩
theorem KeepsFrom.cell {B : Nat} {W : World} {b j : Nat} (u : Value) (hb : b < B) : KeepsFrom B W (W.setCell ⟨b, j, none⟩ u) :=
  (KpP.cell (E := fun k => k = b) (H := fun _ => False) u rfl (fun _ h => h.elim)).from (fun k e => by rw [e]; exact hb)
def topE (L : List EntL) : EntL := L.getLast?.getD zeroE
theorem topE_snoc (L : List EntL) (x : EntL) : topE (L ++ [x]) = x := by simp [topE]
def oneE (x : EntL) : Array Value := #[.int .i64 x.seat, .int .i64 x.obj, .int .i64 x.pos, .bool x.trig]
theorem set4E {W : World} {b : Nat} {xs : Array Value} {T : TypeId} (x0 x1 x2 : Int) (x3 : Bool) (h : W.heap[b]? = some (.cells xs T (0, 0))) (hx : xs.size = 4) :
    ((((W.setCell ⟨b, 0, none⟩ (.int .i64 x0)).setCell ⟨b, 1, none⟩ (.int .i64 x1)).setCell ⟨b, 2, none⟩ (.int .i64 x2)).setCell ⟨b, 3, none⟩ (.bool x3)).heap[b]? = some (.cells #[.int .i64 x0, .int .i64 x1, .int .i64 x2, .bool x3] T (0, 0)) := by
  obtain ⟨l⟩ := xs
  match l, hx with
  | [a, b1, c, d], _ =>
    have h1 := heap_setCell_same W b 0 _ _ (.int .i64 x0) h
    have h2 := heap_setCell_same _ b 1 _ _ (.int .i64 x1) h1
    have h3 := heap_setCell_same _ b 2 _ _ (.int .i64 x2) h2
    have h4 := heap_setCell_same _ b 3 _ _ (.bool x3) h3
    rw [h4]
    simp
theorem below_putD {A W : World} {D : Nat} {o : Obj} (h : Below A.heap.size A W) (hD : A.heap.size ≤ D) (_ : W.heap[D]? = some o) (o' : Obj) : Below A.heap.size A (W.putObj D o') :=
  ⟨h.os, h.tape, h.output, by simpa using h.size, fun k hk => (World.putObj_heap_other (by omega)).trans (h.block k hk)⟩
theorem top_results {W : World} {q : Nat} {x0 x1 x2 : Int} {x3 t : Bool} {T U : TypeId} (a0 a1 a4 a5 a6 a7 a8 a9 : Value) (h2 : W.heap[q]? = some (.cells #[.int .i64 x0, .int .i64 x1, .int .i64 x2, .bool x3] T (0, 0))) (h3 : W.heap[q + 1]? = some (.cells #[.bool t] U (0, 0))) :
    (results Tryz.f24 #[a0, a1, .pointer (some ⟨q, 0, none⟩), .pointer (some ⟨q + 1, 0, none⟩), a4, a5, a6, a7, a8, a9]).run Tryz.prog W = .ok (.tuple #[.agg #[.int .i64 x0, .int .i64 x1, .int .i64 x2, .bool x3], .bool t]) W := by
  have m0 : W.cell? ⟨q, 0, none⟩ = some (.int .i64 x0) := cell_of_row W q 0 _ _ _ h2
  have m1 : W.cell? ⟨q, 1, none⟩ = some (.int .i64 x1) := cell_of_row W q 1 _ _ _ h2
  have m2 : W.cell? ⟨q, 2, none⟩ = some (.int .i64 x2) := cell_of_row W q 2 _ _ _ h2
  have m3 : W.cell? ⟨q, 3, none⟩ = some (.bool x3) := cell_of_row W q 3 _ _ _ h2
  have n0 : W.cell? ⟨q + 1, 0, none⟩ = some (.bool t) := cell_of_row W (q + 1) 0 _ _ _ h3
  simp [results, Tryz.results24, go_sem, m0, m1, m2, m3, n0]
set_option maxRecDepth 100000 in
set_option maxHeartbeats 4000000 in
theorem top_stk {w : World} {lo b : Nat} {g : Option Nat} {L : List EntL} (h : StackAt w lo b g L) (hL : L.length ≤ 1000) : Calls Tryz.prog 24 #[.pointer (some ⟨b, 0, none⟩)] w (RetV w (.tuple #[entV (topE L), .bool (decide (0 < L.length))])) := by
  have hb2 := below_alloc2 (below_new w (.cells #[.int .i64 0, .int .i64 0, .int .i64 0, .bool false] 59)) (.cells #[.bool false] 4)
  have HA := Lib.hid (allK_any (h.later hb2) hL)
  have h2 : ((w.alloc (.cells #[.int .i64 0, .int .i64 0, .int .i64 0, .bool false] 59)).alloc (.cells #[.bool false] 4)).heap[w.heap.size]? = some (.cells #[.int .i64 0, .int .i64 0, .int .i64 0, .bool false] 59 (0, 0)) := (Below.heap_alloc _ _ _ (by simp)).trans (heap_alloc_new w _)
  have h3 : ((w.alloc (.cells #[.int .i64 0, .int .i64 0, .int .i64 0, .bool false] 59)).alloc (.cells #[.bool false] 4)).heap[w.heap.size + 1]? = some (.cells #[.bool false] 4 (0, 0)) := by
    have := heap_alloc_new (w.alloc (.cells #[.int .i64 0, .int .i64 0, .int .i64 0, .bool false] 59)) (.cells #[.bool false] 4)
    rwa [World.size_alloc] at this
  have hsz : ((w.alloc (.cells #[.int .i64 0, .int .i64 0, .int .i64 0, .bool false] 59)).alloc (.cells #[.bool false] 4)).heap.size = w.heap.size + 1 + 1 := by simp
  obtain ⟨W0, hW0⟩ : ∃ W0, (w.alloc (.cells #[.int .i64 0, .int .i64 0, .int .i64 0, .bool false] 59)).alloc (.cells #[.bool false] 4) = W0 := ⟨_, rfl⟩
  rw [hW0] at hb2 HA h2 h3 hsz
  have HW0 := Lib.hid hW0
  have HR2 := Lib.hid (And.intro h2 h3)
  have HSZ := Lib.hid hsz
  have HB2 := Lib.hid hb2
  have HL := Lib.hid hL
  clear h h2 h3 hsz hb2 hW0 hL
  refine (callsIn_wide (n := 9)).1 ?_
  refine callsIn_of_wp_marks Tryz.func24 rfl trivial ?_ rfl
  simp only [Tryz.ntmps24, List.size_toArray, List.length_cons, List.length_nil, Nat.reduceAdd, Nat.reduceSub, Array.replicate_succ, Array.replicate_zero, List.push_toArray, List.append_toArray, List.nil_append, List.cons_append]
  refine wpIn_wide.2 ?_
  go_wp2_with fail
  rw [HW0.out]
  obtain ⟨q2, hq2⟩ : ∃ q2, w.heap.size = q2 := ⟨_, rfl⟩
  have HQ2 := Lib.hid hq2
  try simp only [World.size_alloc]
  rw [hq2] at HR2 HSZ ⊢
  clear hq2
  refine HA.out.mono ?_
  rintro e w1 ⟨c, b2, g2, rfl, hc, hcs, hs, hb1⟩
  have HB1 := Lib.hid hb1
  have HSZ1 := Lib.hid (show q2 + 1 < w1.heap.size by have := HSZ.out; have := hb1.size; omega)
  have HSEQ := Lib.hid (allK_seq 8 (by omega) (w := w1) (fun k => k = q2 ∨ k = q2 + 1) (fun _ => False) (fun k hk => by have := HSZ1.out; omega) hc hs HL.out (fun _ h => h.elim) (fun k hk => by
    have hr := hs.row k hk
    have := HSZ.out
    exact ⟨by omega, fun e => e, fun _ e => e.elim⟩))
  have HR3 := Lib.hid (And.intro ((hb1.block q2 (by have := HSZ.out; omega)).trans HR2.out.1) ((hb1.block (q2 + 1) (by have := HSZ.out; omega)).trans HR2.out.2))
  have HBW := Lib.hid (stepB HB2.out hb1)
  clear hc hcs hs hb1 HA
  dsimp only
  go_wp2_with fail
  refine (wpIn_wide (n := 9)).1 ?_
  refine range_world3 rfl (by omega) (I := fun pre W' => pre = [] ∧ Below w1.heap.size w1 W') (Ix := fun c pre W' => c = .ret ∧ ∃ x, pre = [x] ∧ W'.heap[q2]? = some (.cells (oneE x) 59 (0, 0)) ∧ W'.heap[q2 + 1]? = some (.cells #[.bool true] 4 (0, 0)) ∧ Below w.heap.size w W') (gf := 53) (lb := _) rfl trivial (fun _ _ => by kernel_rfl) HSEQ.out KpP.trans (fun W' o o' ho hc _ => KpP.put o' (.inr rfl) ho hc) (fun W W' hb => KpP.of_below _ _ hb) (Below.refl _ _) (fun _ => rfl)
    (fun s A B row hs hg hr => ⟨hs.1, ownFrom_below (β := Unit) (Nat.le_refl _) (Nat.le_refl _) () A B row hs.2 hg hr⟩)
    (fun c s A B row hs hg hr => by
      obtain ⟨h1, x, h2, h3, h4, h5⟩ := hs
      have hr2 : ∀ r, row = some r → ∃ o : Obj, A.heap[r]? = some o ∧ o.isCells = false := fun r e => (hr r e).2
      exact ⟨h1, x, h2, (grownBy_keeps_cells hg hr2 h3 rfl).trans h3, (grownBy_keeps_cells hg hr2 h4 rfl).trans h4, h5.grown hg h5.size (fun k e => by have := (hr k e).1; have := HSZ1.out; have := HQ2.out; omega)⟩)
    (fun s A B row hs hg hr => hs) (fun s A B row hs hg hr => hs) ⟨rfl, Below.refl _ _⟩ ?round ?done ?stop
  case round =>
    rintro pre ⟨x0, x1, x2, x3⟩ Wr K ⟨hpre, hbr⟩ hT hsz hK
    subst hpre
    have HK := Lib.hid hK
    have HSR := Lib.hid hsz
    clear hK hT hsz hbr
    simp only [encX, entV]
    gi_wp2
    refine HK.out _ _ (below_new Wr _) ?_
    clear HK
    intro Wb hsz2 hrest hkw ⟨_, hb⟩
    have hrow : Wb.heap[Wr.heap.size]? = some (.cells #[.int .i64 x0, .int .i64 x1, .int .i64 x2, .bool x3] 59 (0, 0)) := by
      rw [hrest Wr.heap.size (by have := HSR.out; omega)]
      exact heap_alloc_new Wr _
    have e0 := cell_of_row Wb Wr.heap.size 0 _ _ _ hrow
    have e1 := cell_of_row Wb Wr.heap.size 1 _ _ _ hrow
    have e2 := cell_of_row Wb Wr.heap.size 2 _ _ _ hrow
    have e3 := cell_of_row Wb Wr.heap.size 3 _ _ _ hrow
    have hr2 := (hb.block q2 (by have := HSZ1.out; omega)).trans HR3.out.1
    have hr3 := (hb.block (q2 + 1) (by have := HSZ1.out; omega)).trans HR3.out.2
    have f2 := fun j => frozen_of_row Wb q2 j _ _ hr2
    have f3 := fun j => frozen_of_row Wb (q2 + 1) j _ _ hr3
    have m0 : Wb.cell? ⟨q2, 0, none⟩ = some (.int .i64 0) := cell_of_row Wb q2 0 _ _ _ hr2
    have m1 : Wb.cell? ⟨q2, 1, none⟩ = some (.int .i64 0) := cell_of_row Wb q2 1 _ _ _ hr2
    have m2 : Wb.cell? ⟨q2, 2, none⟩ = some (.int .i64 0) := cell_of_row Wb q2 2 _ _ _ hr2
    have m3 : Wb.cell? ⟨q2, 3, none⟩ = some (.bool false) := cell_of_row Wb q2 3 _ _ _ hr2
    have n0 : Wb.cell? ⟨q2 + 1, 0, none⟩ = some (.bool false) := cell_of_row Wb (q2 + 1) 0 _ _ _ hr3
    have HKW := Lib.hid hkw
    have HBB := Lib.hid hb
    have HRR := Lib.hid (And.intro hr2 hr3)
    clear hsz2 hrest hkw hb hrow hr2 hr3
    gi_wp2
    have kp : KpP (fun k => k = q2 ∨ k = q2 + 1) (fun _ => False) Wb (((((Wb.setCell ⟨q2, 0, none⟩ (.int .i64 x0)).setCell ⟨q2, 1, none⟩ (.int .i64 x1)).setCell ⟨q2, 2, none⟩ (.int .i64 x2)).setCell ⟨q2, 3, none⟩ (.bool x3)).setCell ⟨q2 + 1, 0, none⟩ (.bool true)) :=
      ((((KpP.cell _ (.inl rfl) (fun _ h => h.elim)).trans (KpP.cell _ (.inl rfl) (fun _ h => h.elim))).trans (KpP.cell _ (.inl rfl) (fun _ h => h.elim))).trans (KpP.cell _ (.inl rfl) (fun _ h => h.elim))).trans (KpP.cell _ (.inr rfl) (fun _ h => h.elim))
    have hle : w.heap.size ≤ q2 := Nat.le_of_eq HQ2.out
    refine ⟨kp.from (fun k hk => by have := HSZ1.out; omega), HKW.out.trans (kp.mono (fun k hk => .inl hk)), rfl, ⟨x0, x1, x2, x3⟩, rfl, ?_, ?_, ?_⟩
    · rw [heap_setCell_other _ ⟨q2 + 1, 0, none⟩ q2 _ (by simp)]
      exact set4E x0 x1 x2 x3 HRR.out.1 rfl
    · rw [heap_setCell_same _ (q2 + 1) 0 (#[.bool false]) 4 (.bool true) (by
        rw [heap_setCell_other _ ⟨q2, 3, none⟩ (q2 + 1) _ (by simp), heap_setCell_other _ ⟨q2, 2, none⟩ (q2 + 1) _ (by simp), heap_setCell_other _ ⟨q2, 1, none⟩ (q2 + 1) _ (by simp), heap_setCell_other _ ⟨q2, 0, none⟩ (q2 + 1) _ (by simp)]
        exact HRR.out.2)]
      rfl
    · exact (((((stepB HBW.out HBB.out).setCell hle _).setCell hle _).setCell hle _).setCell hle _).setCell (Nat.le_succ_of_le hle) _
  case done =>
    rintro D xs W' hD hS ⟨hpre, hb⟩ hK
    subst hpre
    have hL0 : L = [] := by simpa using hS.symm
    have hr2 := (hb.block q2 (by have := HSZ1.out; omega)).trans HR3.out.1
    have hr3 := (hb.block (q2 + 1) (by have := HSZ1.out; omega)).trans HR3.out.2
    have f2 := fun j => frozen_of_row W' q2 j _ _ hr2
    have f3 := fun j => frozen_of_row W' (q2 + 1) j _ _ hr3
    have m0 : W'.cell? ⟨q2, 0, none⟩ = some (.int .i64 0) := cell_of_row W' q2 0 _ _ _ hr2
    have m1 : W'.cell? ⟨q2, 1, none⟩ = some (.int .i64 0) := cell_of_row W' q2 1 _ _ _ hr2
    have m2 : W'.cell? ⟨q2, 2, none⟩ = some (.int .i64 0) := cell_of_row W' q2 2 _ _ _ hr2
    have m3 : W'.cell? ⟨q2, 3, none⟩ = some (.bool false) := cell_of_row W' q2 3 _ _ _ hr2
    have n0 : W'.cell? ⟨q2 + 1, 0, none⟩ = some (.bool false) := cell_of_row W' (q2 + 1) 0 _ _ _ hr3
    have HBB := Lib.hid hb
    have HK := Lib.hid hK
    have HD := Lib.hid (show w1.heap.size ≤ D from hD)
    have HL0 := Lib.hid hL0
    have HRR := Lib.hid (And.intro hr2 hr3)
    clear hS hb hK hD hr2 hr3 hL0
    go_wp2
    have hD' : q2 + 1 < D := by have := HD.out; have := HSZ1.out; omega
    have hDK : (((((W'.setCell ⟨q2, 0, none⟩ (.int .i64 0)).setCell ⟨q2, 1, none⟩ (.int .i64 0)).setCell ⟨q2, 2, none⟩ (.int .i64 0)).setCell ⟨q2, 3, none⟩ (.bool false)).setCell ⟨q2 + 1, 0, none⟩ (.bool false)).heap[D]? = some (.deferred (some [])) := by
      rw [heap_setCell_other _ ⟨q2 + 1, 0, none⟩ D _ (by show D ≠ q2 + 1; omega), heap_setCell_other _ ⟨q2, 3, none⟩ D _ (by show D ≠ q2; omega), heap_setCell_other _ ⟨q2, 2, none⟩ D _ (by show D ≠ q2; omega), heap_setCell_other _ ⟨q2, 1, none⟩ D _ (by show D ≠ q2; omega), heap_setCell_other _ ⟨q2, 0, none⟩ D _ (by show D ≠ q2; omega)]
      exact HK.out
    refine ⟨by simp, .inl ⟨_, _, rfl, run_takeDeferred hDK, ?_⟩⟩
    have g2 : (((((W'.setCell ⟨q2, 0, none⟩ (.int .i64 0)).setCell ⟨q2, 1, none⟩ (.int .i64 0)).setCell ⟨q2, 2, none⟩ (.int .i64 0)).setCell ⟨q2, 3, none⟩ (.bool false)).setCell ⟨q2 + 1, 0, none⟩ (.bool false)).heap[q2]? = some (.cells #[.int .i64 0, .int .i64 0, .int .i64 0, .bool false] 59 (0, 0)) := by
      rw [heap_setCell_other _ ⟨q2 + 1, 0, none⟩ q2 _ (by simp)]
      exact set4E 0 0 0 false HRR.out.1 rfl
    have g3 : (((((W'.setCell ⟨q2, 0, none⟩ (.int .i64 0)).setCell ⟨q2, 1, none⟩ (.int .i64 0)).setCell ⟨q2, 2, none⟩ (.int .i64 0)).setCell ⟨q2, 3, none⟩ (.bool false)).setCell ⟨q2 + 1, 0, none⟩ (.bool false)).heap[q2 + 1]? = some (.cells #[.bool false] 4 (0, 0)) := by
      rw [heap_setCell_same _ (q2 + 1) 0 (#[.bool false]) 4 (.bool false) (by
        rw [heap_setCell_other _ ⟨q2, 3, none⟩ (q2 + 1) _ (by simp), heap_setCell_other _ ⟨q2, 2, none⟩ (q2 + 1) _ (by simp), heap_setCell_other _ ⟨q2, 1, none⟩ (q2 + 1) _ (by simp), heap_setCell_other _ ⟨q2, 0, none⟩ (q2 + 1) _ (by simp)]
        exact HRR.out.2)]
      rfl
    have hle : w.heap.size ≤ q2 := Nat.le_of_eq HQ2.out
    have HL1 := HL0.out
    subst HL1
    refine ⟨_, top_results _ _ _ _ _ _ _ _ ((World.putObj_heap_other (by omega)).trans g2) ((World.putObj_heap_other (by omega)).trans g3), rfl, ?_⟩
    exact below_putD ((((((stepB HBW.out HBB.out).setCell hle _).setCell hle _).setCell hle _).setCell hle _).setCell (Nat.le_succ_of_le hle) _) (by omega) hDK _
  case stop =>
    rintro D c' pre W' hD hS ⟨rfl, x, rfl, h2, h3, hb⟩ hK
    have hx : topE L = x ∧ 0 < L.length := by
      obtain ⟨r, hr⟩ := hS
      have h := congrArg List.reverse hr
      simp at h
      rw [← h]
      exact ⟨topE_snoc _ _, by simp⟩
    obtain ⟨x0, x1, x2, x3⟩ := x
    have m0 : W'.cell? ⟨q2, 0, none⟩ = some (.int .i64 x0) := cell_of_row W' q2 0 _ _ _ h2
    have m1 : W'.cell? ⟨q2, 1, none⟩ = some (.int .i64 x1) := cell_of_row W' q2 1 _ _ _ h2
    have m2 : W'.cell? ⟨q2, 2, none⟩ = some (.int .i64 x2) := cell_of_row W' q2 2 _ _ _ h2
    have m3 : W'.cell? ⟨q2, 3, none⟩ = some (.bool x3) := cell_of_row W' q2 3 _ _ _ h2
    have n0 : W'.cell? ⟨q2 + 1, 0, none⟩ = some (.bool true) := cell_of_row W' (q2 + 1) 0 _ _ _ h3
    have HBB := Lib.hid hb
    have HK := Lib.hid hK
    have HD := Lib.hid (show w1.heap.size ≤ D from hD)
    have HX := Lib.hid hx
    have HRS := Lib.hid (And.intro h2 h3)
    clear hS hb hK hD h2 h3 hx
    gi_wp2
    refine ⟨by simp, .inl ⟨_, _, rfl, run_takeDeferred HK.out, ?_⟩⟩
    have hDq : q2 + 1 < D := by have := HD.out; have := HSZ1.out; omega
    have hle : w.heap.size ≤ q2 := Nat.le_of_eq HQ2.out
    refine ⟨_, top_results _ _ _ _ _ _ _ _ ((World.putObj_heap_other (by omega)).trans HRS.out.1) ((World.putObj_heap_other (by omega)).trans HRS.out.2), ?_, ?_⟩
    · rw [HX.out.1, decide_eq_true HX.out.2]
      rfl
    · exact below_putD HBB.out (by omega) HK.out _
theorem other4E {W : World} {b k : Nat} (v0 v1 v2 v3 : Value) (h : k ≠ b) : ((((W.setCell ⟨b, 0, none⟩ v0).setCell ⟨b, 1, none⟩ v1).setCell ⟨b, 2, none⟩ v2).setCell ⟨b, 3, none⟩ v3).heap[k]? = W.heap[k]? := by
  rw [heap_setCell_other _ ⟨b, 3, none⟩ k _ h, heap_setCell_other _ ⟨b, 2, none⟩ k _ h, heap_setCell_other _ ⟨b, 1, none⟩ k _ h, heap_setCell_other _ ⟨b, 0, none⟩ k _ h]
theorem pop_results {W : World} {q : Nat} {x0 x1 x2 : Int} {x3 t : Bool} {T : TypeId} {tmps : Array Value} (e2 : tmps.getD 2 undef = .pointer (some ⟨q, 0, none⟩)) (e3 : tmps.getD 3 undef = .bool t) (h2 : W.heap[q]? = some (.cells #[.int .i64 x0, .int .i64 x1, .int .i64 x2, .bool x3] T (0, 0))) :
    (results Tryz.f23 tmps).run Tryz.prog W = .ok (.tuple #[.agg #[.int .i64 x0, .int .i64 x1, .int .i64 x2, .bool x3], .bool t]) W := by
  have m0 : W.cell? ⟨q, 0, none⟩ = some (.int .i64 x0) := cell_of_row W q 0 _ _ _ h2
  have m1 : W.cell? ⟨q, 1, none⟩ = some (.int .i64 x1) := cell_of_row W q 1 _ _ _ h2
  have m2 : W.cell? ⟨q, 2, none⟩ = some (.int .i64 x2) := cell_of_row W q 2 _ _ _ h2
  have m3 : W.cell? ⟨q, 3, none⟩ = some (.bool x3) := cell_of_row W q 3 _ _ _ h2
  simp only [Array.getD_eq_getD_getElem?] at e2 e3
  simp [results, Tryz.results23, go_sem, e2, e3, m0, m1, m2, m3]
set_option maxRecDepth 100000 in
set_option maxHeartbeats 4000000 in
theorem pop_ok {w : World} {lo b : Nat} {g : Option Nat} {L : List EntL} (x : EntL) (h : StackAt w lo b g (L ++ [x])) (hL : L.length ≤ 999) : Calls Tryz.prog 23 #[.pointer (some ⟨b, 0, none⟩)] w (RetStk w lo b g (.tuple #[entV x, .bool true]) L) := by
  have hb0 := below_new w (.cells #[.int .i64 0, .int .i64 0, .int .i64 0, .bool false] 59)
  have ht := top_stk (h.later hb0) (by simp; omega)
  rw [topE_snoc, show decide (0 < (L ++ [x]).length) = true from decide_eq_true (by simp)] at ht
  obtain ⟨x0, x1, x2, x3⟩ := x
  unfold entV at ht ⊢
  dsimp only at ht ⊢
  have h2 := heap_alloc_new w (.cells #[.int .i64 0, .int .i64 0, .int .i64 0, .bool false] 59)
  have HSZ := Lib.hid (show (w.alloc (.cells #[.int .i64 0, .int .i64 0, .int .i64 0, .bool false] 59)).heap.size = w.heap.size + 1 from World.size_alloc _ _)
  obtain ⟨W0, hW0⟩ : ∃ W0, w.alloc (.cells #[.int .i64 0, .int .i64 0, .int .i64 0, .bool false] 59) = W0 := ⟨_, rfl⟩
  rw [hW0] at ht hb0 h2 HSZ
  have HT := Lib.hid ht
  have HW0 := Lib.hid hW0
  have HB0 := Lib.hid hb0
  have HR0 := Lib.hid h2
  have HH := Lib.hid h
  have HLT := Lib.hid (And.intro h.lt h.row)
  have HLL := Lib.hid hL
  clear ht hW0 hb0 h2 h hL
  go_enter Tryz.func23, Tryz.ntmps23
  go_wp2_with fail
  rw [HW0.out]
  refine HT.out.mono ?_
  rintro e w1 ⟨rfl, hb1⟩
  have hbW := stepB HB0.out hb1
  have hb2 := below_new w1 (.cells #[.int .i64 x0, .int .i64 x1, .int .i64 x2, .bool x3] 59)
  have HB2 := Lib.hid (stepB hbW hb2)
  obtain ⟨xa, xc, f0, hown, ho⟩ := (HH.out.later HB2.out).field
  have hfz := (HH.out.later HB2.out).free 0
  have HROW := Lib.hid ho
  have HOWN := Lib.hid hown
  have HR2 := Lib.hid ((hb2.block w.heap.size (by have := HSZ.out; have := hb1.size; omega)).trans ((hb1.block w.heap.size (by have := HSZ.out; omega)).trans HR0.out))
  have HR4 := Lib.hid (heap_alloc_new w1 (.cells #[.int .i64 x0, .int .i64 x1, .int .i64 x2, .bool x3] 59))
  have HSW := Lib.hid (show w.heap.size < w1.heap.size by have := HSZ.out; have := hb1.size; omega)
  have hcap : L.length + 1 ≤ xc := by
    rcases ho.2 with ⟨e, e2⟩ | ⟨g', cap, cur, e, _, _, hn, _⟩
    · simp at e2
    · injection e with _ e1 e2
      subst e2
      simpa using hn
  obtain ⟨W2, hW2⟩ : ∃ W2, w1.alloc (.cells #[.int .i64 x0, .int .i64 x1, .int .i64 x2, .bool x3] 59) = W2 := ⟨_, rfl⟩
  rw [hW2] at f0 hfz HROW HR2 HR4 HB2
  have HW2 := Lib.hid hW2
  rw [List.length_append, List.length_singleton] at f0 HROW HOWN
  obtain ⟨n, hn⟩ : ∃ n, L.length = n := ⟨_, rfl⟩
  have HN := Lib.hid hn
  have hn9 : n ≤ 999 := by rw [← hn]; exact HLL.out
  rw [hn] at f0 hcap
  have hi1 : ((n + 1 : Nat) : Int) - 1 = (n : Int) := by omega
  clear hbW hb1 hb2 ho hown hW2 hn HT
  dsimp only
  go_upto_region 3 with fail
  rw [HW2.out]
  obtain ⟨q4, hq4⟩ : ∃ q4, w1.heap.size = q4 := ⟨_, rfl⟩
  try simp only [hq4]
  rw [hq4] at HR4 HSW
  go_region
  obtain ⟨W3, hW3⟩ : ∃ W3, (W2.setCell ⟨b, 0, none⟩ (.slice xa n xc)).drew = W3 := ⟨_, rfl⟩
  have hbq : b < w.heap.size := HLT.out.1
  have h32 : W3.heap[w.heap.size]? = some (.cells #[.int .i64 0, .int .i64 0, .int .i64 0, .bool false] 59 (0, 0)) := by
    rw [← hW3]
    exact (heap_setCell_other W2 ⟨b, 0, none⟩ w.heap.size _ (by show w.heap.size ≠ b; omega)).trans HR2.out
  have h34 : W3.heap[q4]? = some (.cells #[.int .i64 x0, .int .i64 x1, .int .i64 x2, .bool x3] 59 (0, 0)) := by
    rw [← hW3]
    exact (heap_setCell_other W2 ⟨b, 0, none⟩ q4 _ (by show q4 ≠ b; have := HSW.out; omega)).trans HR4.out
  have hlast : W2.ownsRow lo 59 4 (.slice xa n xc) L.length (entsV L) := by
    have h := HROW.out
    have e := HN.out
    rw [← e]
    exact own_lastE h
  have hst := (HH.out.later HB2.out)
  obtain ⟨v, hv1, hv2, hv3, -⟩ := hst
  have hput := stack_put (w := w) (w1 := W2) (w2 := W2) (v' := .slice xa n xc) (L := L) hv1 hv3 HB2.out (World.grownBy.refl W2 g) (fun e => (HLT.out.2 b e).2.2 rfl) hlast (fun e => by
    have h1 : (Value.slice xa (L.length + 1) xc).ownBlock = some b := (by cases xa <;> rfl : (Value.slice xa (L.length + 1) xc).ownBlock = (Value.slice xa n xc).ownBlock).trans e
    rw [HOWN.out] at h1
    exact (HLT.out.2 b h1).2.2 rfl)
  have hs3 : StackAt W3 lo b g L ∧ Chg w W3 b g := by
    rw [← hW3]
    have e : (Value.slice xa n xc).ownBlock = g := (by cases xa <;> rfl : (Value.slice xa n xc).ownBlock = (Value.slice xa (L.length + 1) xc).ownBlock).trans HOWN.out
    rw [e] at hput
    exact ⟨hput.1.later ((Below.refl _ _).drew), hput.2.then ((Below.refl _ _).drew)⟩
  have HS3 := Lib.hid hs3
  have HR3 := Lib.hid h32
  rw [hW3]
  have f2 := fun j => frozen_of_row W3 w.heap.size j _ _ h32
  have m0 : W3.cell? ⟨w.heap.size, 0, none⟩ = some (.int .i64 0) := cell_of_row W3 _ 0 _ _ _ h32
  have m1 : W3.cell? ⟨w.heap.size, 1, none⟩ = some (.int .i64 0) := cell_of_row W3 _ 1 _ _ _ h32
  have m2 : W3.cell? ⟨w.heap.size, 2, none⟩ = some (.int .i64 0) := cell_of_row W3 _ 2 _ _ _ h32
  have m3 : W3.cell? ⟨w.heap.size, 3, none⟩ = some (.bool false) := cell_of_row W3 _ 3 _ _ _ h32
  have e0 : W3.cell? ⟨q4, 0, none⟩ = some (.int .i64 x0) := cell_of_row W3 _ 0 _ _ _ h34
  have e1 : W3.cell? ⟨q4, 1, none⟩ = some (.int .i64 x1) := cell_of_row W3 _ 1 _ _ _ h34
  have e2 : W3.cell? ⟨q4, 2, none⟩ = some (.int .i64 x2) := cell_of_row W3 _ 2 _ _ _ h34
  have e3 : W3.cell? ⟨q4, 3, none⟩ = some (.bool x3) := cell_of_row W3 _ 3 _ _ _ h34
  clear hW3 hbq h32 h34 hlast hv1 hv2 hv3 hput hs3 f0 hfz hcap hi1
  go_wp2
  refine bodyPost_ret (pop_results rfl rfl (set4E x0 x1 x2 x3 HR3.out rfl)) rfl ?_
  refine ⟨g, rfl, HS3.out.1.kept (other4E _ _ _ _ (Nat.ne_of_lt HLT.out.1)) (fun k hk => other4E _ _ _ _ (Nat.ne_of_lt (HLT.out.2 k hk).2.1)), ?_, .inl rfl⟩
  exact ⟨HS3.out.2.os, HS3.out.2.tape, HS3.out.2.output, by simpa using HS3.out.2.size, fun k hk h1 h2 => (other4E _ _ _ _ (Nat.ne_of_lt hk)).trans (HS3.out.2.block k hk h1 h2)⟩
set_option maxRecDepth 100000 in
set_option maxHeartbeats 4000000 in
theorem pop_none {w : World} {p : Option Addr} (ht : ∀ w' : World, Below w.heap.size w w' → Calls Tryz.prog 24 #[.pointer p] w' (RetV w' (.tuple #[entV zeroE, .bool false]))) : Calls Tryz.prog 23 #[.pointer p] w (RetV w (.tuple #[entV zeroE, .bool false])) := by
  have hb0 := below_new w (.cells #[.int .i64 0, .int .i64 0, .int .i64 0, .bool false] 59)
  have ht := ht _ hb0
  unfold entV zeroE at ht ⊢
  dsimp only at ht ⊢
  have h2 := heap_alloc_new w (.cells #[.int .i64 0, .int .i64 0, .int .i64 0, .bool false] 59)
  have HSZ := Lib.hid (show (w.alloc (.cells #[.int .i64 0, .int .i64 0, .int .i64 0, .bool false] 59)).heap.size = w.heap.size + 1 from World.size_alloc _ _)
  obtain ⟨W0, hW0⟩ : ∃ W0, w.alloc (.cells #[.int .i64 0, .int .i64 0, .int .i64 0, .bool false] 59) = W0 := ⟨_, rfl⟩
  rw [hW0] at ht hb0 h2 HSZ
  have HT := Lib.hid ht
  have HW0 := Lib.hid hW0
  have HB0 := Lib.hid hb0
  have HR0 := Lib.hid h2
  clear ht hW0 hb0 h2
  go_enter Tryz.func23, Tryz.ntmps23
  go_wp2_with fail
  rw [HW0.out]
  refine HT.out.mono ?_
  rintro e w1 ⟨rfl, hb1⟩
  have hbW := stepB HB0.out hb1
  have hb2 := below_new w1 (.cells #[.int .i64 0, .int .i64 0, .int .i64 0, .bool false] 59)
  have HB2 := Lib.hid (stepB hbW hb2)
  have h32 := ((hb2.block w.heap.size (by have := HSZ.out; have := hb1.size; omega)).trans ((hb1.block w.heap.size (by have := HSZ.out; omega)).trans HR0.out))
  have h34 := (heap_alloc_new w1 (.cells #[.int .i64 0, .int .i64 0, .int .i64 0, .bool false] 59))
  obtain ⟨W3, hW2⟩ : ∃ W2, w1.alloc (.cells #[.int .i64 0, .int .i64 0, .int .i64 0, .bool false] 59) = W2 := ⟨_, rfl⟩
  rw [hW2] at h32 h34 HB2
  have HW2 := Lib.hid hW2
  have HR3 := Lib.hid h32
  obtain ⟨q4, hq4⟩ : ∃ q4, w1.heap.size = q4 := ⟨_, rfl⟩
  have HQ4 := Lib.hid hq4
  rw [hq4] at h34
  have f2 := fun j => frozen_of_row W3 w.heap.size j _ _ h32
  have m0 : W3.cell? ⟨w.heap.size, 0, none⟩ = some (.int .i64 0) := cell_of_row W3 _ 0 _ _ _ h32
  have m1 : W3.cell? ⟨w.heap.size, 1, none⟩ = some (.int .i64 0) := cell_of_row W3 _ 1 _ _ _ h32
  have m2 : W3.cell? ⟨w.heap.size, 2, none⟩ = some (.int .i64 0) := cell_of_row W3 _ 2 _ _ _ h32
  have m3 : W3.cell? ⟨w.heap.size, 3, none⟩ = some (.bool false) := cell_of_row W3 _ 3 _ _ _ h32
  have e0 : W3.cell? ⟨q4, 0, none⟩ = some (.int .i64 0) := cell_of_row W3 _ 0 _ _ _ h34
  have e1 : W3.cell? ⟨q4, 1, none⟩ = some (.int .i64 0) := cell_of_row W3 _ 1 _ _ _ h34
  have e2 : W3.cell? ⟨q4, 2, none⟩ = some (.int .i64 0) := cell_of_row W3 _ 2 _ _ _ h34
  have e3 : W3.cell? ⟨q4, 3, none⟩ = some (.bool false) := cell_of_row W3 _ 3 _ _ _ h34
  clear hbW hb1 hb2 hW2 hq4 h32 h34 HT
  dsimp only
  go_upto_region 2 with fail
  rw [HW2.out]
  try simp only [HQ4.out]
  go_wp2
  refine bodyPost_ret (pop_results rfl rfl (set4E 0 0 0 false HR3.out rfl)) rfl ?_
  exact ⟨rfl, ((((HB2.out).setCell (Nat.le_refl _) _).setCell (Nat.le_refl _) _).setCell (Nat.le_refl _) _).setCell (Nat.le_refl _) _⟩
theorem pop_empty {w : World} {lo b : Nat} {g : Option Nat} (h : StackAt w lo b g []) : Calls Tryz.prog 23 #[.pointer (some ⟨b, 0, none⟩)] w (RetV w (.tuple #[entV zeroE, .bool false])) :=
  pop_none fun w' hb => top_stk (h.later hb) (by simp)
end Go.Proofs.YtgjojjhppgjkkaaGreat
