/- A creature on the Field, and how strong it is (layer 8): creature, Power, Tough, Keys, Live, Dead. -/
import Derived.Test.YtgjojjhppgjkkaaGreatJa
import Derived.Test.YtgjojjhppgjkkaaGreatSa
namespace Go.Proofs.YtgjojjhppgjkkaaGreat
open Go.RowKit Go.Maps

def zeroC : Crd.CardL := ⟨0, 0, 0, 0, 0, 0, []⟩
def RetCre (w : World) (o : ObjL) (c : Crd.CardL) (n : Int) (e : Ending) (w' : World) : Prop := ∃ xa xc, e = .returned (.tuple #[oagg o, Crd.cagg c (.slice xa c.terms.length xc), .int .i64 n]) ∧ Below w.heap.size w w'
set_option maxRecDepth 100000 in
set_option maxHeartbeats 4000000 in
theorem creature_out {w : World} {p : Option Addr} {i n : Int} (hn : n ≠ 0) (h : ∀ w' : World, Below w.heap.size w w' → Calls Tryz.prog 13 #[.pointer p, .int .i64 i] w' (RetGet w' zeroO n)) :
    Calls Tryz.prog 129 #[.pointer p, .int .i64 i] w (RetCre w zeroO zeroC n) := by
  have HG := Lib.hid h
  have e0 : (n != 0) = true := bne_iff_ne.2 hn
  unfold RetGet oagg zeroO at HG
  dsimp only at HG
  clear h hn
  go_enter Tryz.func129, Tryz.ntmps129
  go_wp2_with fail
  refine (HG.out _ (below_alloc2 (below_new w _) _)).mono ?_
  rintro e w1 ⟨rfl, hb1⟩
  have HB := Lib.hid (below_alloc2 (stepB (below_alloc2 (below_new w _) _) hb1) (.cells #[.int .i64 0, .int .i64 0, .int .i64 0, .int .i64 0, .bool false, .bool false, .int .i64 0, .int .i64 0, .int .i64 0, .int .i64 0, .bool false] 35))
  have hbx := below_alloc2 hb1 (.cells #[.int .i64 0, .int .i64 0, .int .i64 0, .int .i64 0, .bool false, .bool false, .int .i64 0, .int .i64 0, .int .i64 0, .int .i64 0, .bool false] 35)
  obtain ⟨W, hW⟩ : ∃ W, w1.alloc (.cells #[.int .i64 0, .int .i64 0, .int .i64 0, .int .i64 0, .bool false, .bool false, .int .i64 0, .int .i64 0, .int .i64 0, .int .i64 0, .bool false] 35) = W := ⟨_, rfl⟩
  rw [hW] at hbx HB
  obtain ⟨hcW, hfW⟩ := Crd.bcell hbx
  have fo : ∀ j, W.frozen? ⟨w.heap.size, j, none⟩ = false := fun j => by rw [hfW _ _ (by simp; try omega)]; simp [go_sem]
  have fc : ∀ j, W.frozen? ⟨w.heap.size + 1, j, none⟩ = false := fun j => by rw [hfW _ _ (by simp; try omega)]; simp [go_sem]
  have z0 : W.cell? ⟨w.heap.size, 0, none⟩ = some (.int .i64 0) := by rw [hcW _ _ (by simp; try omega)]; simp [go_sem]
  have z1 : W.cell? ⟨w.heap.size, 1, none⟩ = some (.int .i64 0) := by rw [hcW _ _ (by simp; try omega)]; simp [go_sem]
  have z2 : W.cell? ⟨w.heap.size, 2, none⟩ = some (.int .i64 0) := by rw [hcW _ _ (by simp; try omega)]; simp [go_sem]
  have z3 : W.cell? ⟨w.heap.size, 3, none⟩ = some (.int .i64 0) := by rw [hcW _ _ (by simp; try omega)]; simp [go_sem]
  have z4 : W.cell? ⟨w.heap.size, 4, none⟩ = some (.bool false) := by rw [hcW _ _ (by simp; try omega)]; simp [go_sem]
  have z5 : W.cell? ⟨w.heap.size, 5, none⟩ = some (.bool false) := by rw [hcW _ _ (by simp; try omega)]; simp [go_sem]
  have z6 : W.cell? ⟨w.heap.size, 6, none⟩ = some (.int .i64 0) := by rw [hcW _ _ (by simp; try omega)]; simp [go_sem]
  have z7 : W.cell? ⟨w.heap.size, 7, none⟩ = some (.int .i64 0) := by rw [hcW _ _ (by simp; try omega)]; simp [go_sem]
  have z8 : W.cell? ⟨w.heap.size, 8, none⟩ = some (.int .i64 0) := by rw [hcW _ _ (by simp; try omega)]; simp [go_sem]
  have z9 : W.cell? ⟨w.heap.size, 9, none⟩ = some (.int .i64 0) := by rw [hcW _ _ (by simp; try omega)]; simp [go_sem]
  have z10 : W.cell? ⟨w.heap.size, 10, none⟩ = some (.bool false) := by rw [hcW _ _ (by simp; try omega)]; simp [go_sem]
  have u0 : W.cell? ⟨w.heap.size + 1, 0, none⟩ = some (.int .i64 0) := by rw [hcW _ _ (by simp; try omega)]; simp [go_sem]
  have u1 : W.cell? ⟨w.heap.size + 1, 1, none⟩ = some (.int .i64 0) := by rw [hcW _ _ (by simp; try omega)]; simp [go_sem]
  have u2 : W.cell? ⟨w.heap.size + 1, 2, none⟩ = some (.int .i64 0) := by rw [hcW _ _ (by simp; try omega)]; simp [go_sem]
  have u3 : W.cell? ⟨w.heap.size + 1, 3, none⟩ = some (.int .i64 0) := by rw [hcW _ _ (by simp; try omega)]; simp [go_sem]
  have u4 : W.cell? ⟨w.heap.size + 1, 4, none⟩ = some (.int .i64 0) := by rw [hcW _ _ (by simp; try omega)]; simp [go_sem]
  have u5 : W.cell? ⟨w.heap.size + 1, 5, none⟩ = some (.int .i64 0) := by rw [hcW _ _ (by simp; try omega)]; simp [go_sem]
  have u6 : W.cell? ⟨w.heap.size + 1, 6, none⟩ = some (.slice none 0 0) := by rw [hcW _ _ (by simp; try omega)]; simp [go_sem]
  have f0 := fo 0
  have f1 := fo 1
  have f2 := fo 2
  have f3 := fo 3
  have f4 := fo 4
  have f5 := fo 5
  have f6 := fo 6
  have f7 := fo 7
  have f8 := fo 8
  have f9 := fo 9
  have f10 := fo 10
  have g0 := fc 0
  have g1 := fc 1
  have g2 := fc 2
  have g3 := fc 3
  have g4 := fc 4
  have g5 := fc 5
  have g6 := fc 6
  clear hcW hfW fo fc
  clear hb1 hbx
  dsimp only
  subst hW
  go_wp2
  refine bodyPost_ret (by simp [results, Tryz.results129, go_sem, z0, z1, z2, z3, z4, z5, z6, z7, z8, z9, z10, u0, u1, u2, u3, u4, u5, u6, zeroO, zeroC]; try first | rfl | exact ⟨rfl, rfl⟩) rfl ⟨none, 0, rfl, ?_⟩
  have hb := HB.out
  repeat' apply Below.setCell
  all_goals first | exact hb | simp
set_option maxRecDepth 100000 in
set_option maxHeartbeats 4000000 in
theorem creature_in {w : World} {lo b : Nat} {G : Ghost} {S : StoreL} (h : StoreAt w lo b G S) (hS : S.objs.length ≤ 1000) (k n : Nat) (hk : k < S.objs.length) (hn : n < S.T.length) (hc : S.objs[k].card = n) :
    (S.objs[k].zone = 3 → S.T[n].kind = 2 → Calls Tryz.prog 129 #[.pointer (some ⟨b, 0, none⟩), .int .i64 ((k : Int) + 1)] w (RetCre w S.objs[k] S.T[n] 0)) ∧
    (¬(S.objs[k].zone = 3 ∧ S.T[n].kind = 2) → Calls Tryz.prog 129 #[.pointer (some ⟨b, 0, none⟩), .int .i64 ((k : Int) + 1)] w (RetCre w zeroO zeroC 10)) := by
  have HG := Lib.hid (fun (w' : World) (hb : Below w.heap.size w w') => get_in (h.later hb) hS k hk)
  have HC := Lib.hid (fun (w' : World) (hb : Below w.heap.size w w') => card_ok (h.later hb) hS k n hk hn hc)
  have HI := Lib.hid (fun (w' : World) (ya : Option Addr) (yn yc : Nat) (v : Value) (hv : Crd.NumsAt w' v [2]) => (Crd.is_any S.T[n] ya yn yc v [2] w' (by decide) hv))
  obtain ⟨x, hx⟩ : ∃ x, S.objs[k] = x := ⟨_, rfl⟩
  obtain ⟨c, hcq⟩ : ∃ c, S.T[n] = c := ⟨_, rfl⟩
  rw [hx] at HG ⊢
  rw [hcq] at HC HI ⊢
  clear h hx hcq hc hn hk hS
  obtain ⟨x0, x1, x2, x3, x4, x5, x6, x7, x8, x9, x10⟩ := x
  obtain ⟨d0, d1, d2, d3, d4, d5, dt⟩ := c
  unfold RetGet oagg at HG
  unfold RetCard Crd.cagg at HC
  unfold Crd.cagg at HI
  unfold RetCre Crd.cagg oagg
  dsimp only at HG HC HI ⊢
  refine ⟨fun hz hd => ?_, fun hno => ?_⟩
  · subst hz hd
    have hkind : ([2] : List Int).contains 2 = true := rfl
    go_enter Tryz.func129, Tryz.ntmps129
    go_wp2_with fail
    refine (HG.out _ (below_alloc2 (below_new w _) _)).mono ?_
    rintro e w1 ⟨rfl, hb1⟩
    have HB1 := Lib.hid (below_alloc2 (stepB (below_alloc2 (below_new w _) _) hb1) (.cells #[.int .i64 x0, .int .i64 x1, .int .i64 x2, .int .i64 3, .bool x4, .bool x5, .int .i64 x6, .int .i64 x7, .int .i64 x8, .int .i64 x9, .bool x10] 35))
    obtain ⟨W1, hW1⟩ : ∃ W, w1.alloc (.cells #[.int .i64 x0, .int .i64 x1, .int .i64 x2, .int .i64 3, .bool x4, .bool x5, .int .i64 x6, .int .i64 x7, .int .i64 x8, .int .i64 x9, .bool x10] 35) = W := ⟨_, rfl⟩
    have hbq1 := hW1 ▸ below_alloc2 hb1 (.cells #[.int .i64 x0, .int .i64 x1, .int .i64 x2, .int .i64 3, .bool x4, .bool x5, .int .i64 x6, .int .i64 x7, .int .i64 x8, .int .i64 x9, .bool x10] 35)
    rw [hW1] at HB1
    have HK1 := Lib.hid (show ∀ j, W1.cell? ⟨w1.heap.size, j, none⟩ = (#[.int .i64 x0, .int .i64 x1, .int .i64 x2, .int .i64 3, .bool x4, .bool x5, .int .i64 x6, .int .i64 x7, .int .i64 x8, .int .i64 x9, .bool x10] : Array Value)[j]? from fun j => by rw [← hW1]; exact cell_of_row _ _ j _ _ (0, 0) (heap_alloc_new w1 _))
    obtain ⟨q, hq⟩ : ∃ q, w1.heap.size = q := ⟨_, rfl⟩
    rw [hq] at HK1
    have HBQ := Lib.hid hbq1
    have HSZ0 := Lib.hid (show w.heap.size + 2 ≤ w1.heap.size by have := hb1.size; simpa using this)
    clear hb1 hbq1
    subst hW1 hq
    dsimp only
    go_wp2_with fail
    refine (HC.out _ HB1.out).mono ?_
    rintro e w2 ⟨xa, xc, rfl, _, hb2⟩
    have HB2 := Lib.hid (below_alloc2 (stepB HB1.out hb2) (.cells #[.int .i64 2, .int .i64 d1, .int .i64 d2, .int .i64 d3, .int .i64 d4, .int .i64 d5, .slice xa dt.length xc] 45))
    have HSZ := Lib.hid (show w.heap.size + 2 ≤ w1.heap.size ∧ w1.heap.size + 1 ≤ w2.heap.size from ⟨HSZ0.out, by have := hb2.size; simpa using this⟩)
    have hbx := below_alloc2 (stepB HBQ.out hb2) (.cells #[.int .i64 2, .int .i64 d1, .int .i64 d2, .int .i64 d3, .int .i64 d4, .int .i64 d5, .slice xa dt.length xc] 45)
    have hb22 := below_alloc2 hb2 (.cells #[.int .i64 2, .int .i64 d1, .int .i64 d2, .int .i64 d3, .int .i64 d4, .int .i64 d5, .slice xa dt.length xc] 45)
    obtain ⟨W, hW⟩ : ∃ W, w2.alloc (.cells #[.int .i64 2, .int .i64 d1, .int .i64 d2, .int .i64 d3, .int .i64 d4, .int .i64 d5, .slice xa dt.length xc] 45) = W := ⟨_, rfl⟩
    rw [hW] at hbx HB2 hb22
    have HK2 := Lib.hid (show ∀ j, W.cell? ⟨w2.heap.size, j, none⟩ = (#[.int .i64 2, .int .i64 d1, .int .i64 d2, .int .i64 d3, .int .i64 d4, .int .i64 d5, .slice xa dt.length xc] : Array Value)[j]? from fun j => by rw [← hW]; exact cell_of_row _ _ j _ _ (0, 0) (heap_alloc_new w2 _))
    obtain ⟨q2, hq2⟩ : ∃ q, w2.heap.size = q := ⟨_, rfl⟩
    rw [hq2] at HK2
    have p0 : W.cell? ⟨w1.heap.size, 0, none⟩ = some (.int .i64 x0) := cell_stays hb22 (HK1.out 0)
    have p1 : W.cell? ⟨w1.heap.size, 1, none⟩ = some (.int .i64 x1) := cell_stays hb22 (HK1.out 1)
    have p2 : W.cell? ⟨w1.heap.size, 2, none⟩ = some (.int .i64 x2) := cell_stays hb22 (HK1.out 2)
    have p3 : W.cell? ⟨w1.heap.size, 3, none⟩ = some (.int .i64 3) := cell_stays hb22 (HK1.out 3)
    have p4 : W.cell? ⟨w1.heap.size, 4, none⟩ = some (.bool x4) := cell_stays hb22 (HK1.out 4)
    have p5 : W.cell? ⟨w1.heap.size, 5, none⟩ = some (.bool x5) := cell_stays hb22 (HK1.out 5)
    have p6 : W.cell? ⟨w1.heap.size, 6, none⟩ = some (.int .i64 x6) := cell_stays hb22 (HK1.out 6)
    have p7 : W.cell? ⟨w1.heap.size, 7, none⟩ = some (.int .i64 x7) := cell_stays hb22 (HK1.out 7)
    have p8 : W.cell? ⟨w1.heap.size, 8, none⟩ = some (.int .i64 x8) := cell_stays hb22 (HK1.out 8)
    have p9 : W.cell? ⟨w1.heap.size, 9, none⟩ = some (.int .i64 x9) := cell_stays hb22 (HK1.out 9)
    have p10 : W.cell? ⟨w1.heap.size, 10, none⟩ = some (.bool x10) := cell_stays hb22 (HK1.out 10)
    have r0 : W.cell? ⟨q2, 0, none⟩ = some (.int .i64 2) := HK2.out 0
    have r1 : W.cell? ⟨q2, 1, none⟩ = some (.int .i64 d1) := HK2.out 1
    have r2 : W.cell? ⟨q2, 2, none⟩ = some (.int .i64 d2) := HK2.out 2
    have r3 : W.cell? ⟨q2, 3, none⟩ = some (.int .i64 d3) := HK2.out 3
    have r4 : W.cell? ⟨q2, 4, none⟩ = some (.int .i64 d4) := HK2.out 4
    have r5 : W.cell? ⟨q2, 5, none⟩ = some (.int .i64 d5) := HK2.out 5
    have r6 : W.cell? ⟨q2, 6, none⟩ = some (.slice xa dt.length xc) := HK2.out 6
    clear hb22
    have HBX := Lib.hid hbx
    clear hb2 hbx
    subst hW hq2
    dsimp only
    go_wp2_with fail
    refine (HI.out _ _ _ _ _ ?nn).mono ?_
    case nn =>
      refine .inr ⟨_, 0, 1, rfl, by simp, fun i hi => ?_⟩
      obtain rfl : i = 0 := by simp at hi; omega
      simp [go_sem]
    rintro e w4 ⟨rfl, hb4⟩
    have hbx := stepB (below_alloc2 HBX.out (.cells #[.int .i64 2] 3)) hb4
    have HB4 := Lib.hid (stepB (below_alloc2 HB2.out (.cells #[.int .i64 2] 3)) hb4)
    have hb44 := stepB (below_new _ (.cells #[.int .i64 2] 3)) hb4
    replace p0 := cell_stays hb44 p0
    replace p1 := cell_stays hb44 p1
    replace p2 := cell_stays hb44 p2
    replace p3 := cell_stays hb44 p3
    replace p4 := cell_stays hb44 p4
    replace p5 := cell_stays hb44 p5
    replace p6 := cell_stays hb44 p6
    replace p7 := cell_stays hb44 p7
    replace p8 := cell_stays hb44 p8
    replace p9 := cell_stays hb44 p9
    replace p10 := cell_stays hb44 p10
    replace r0 := cell_stays hb44 r0
    replace r1 := cell_stays hb44 r1
    replace r2 := cell_stays hb44 r2
    replace r3 := cell_stays hb44 r3
    replace r4 := cell_stays hb44 r4
    replace r5 := cell_stays hb44 r5
    replace r6 := cell_stays hb44 r6
    obtain ⟨hcW, hfW⟩ := Crd.bcell hbx
    have fo : ∀ j, w4.frozen? ⟨w.heap.size, j, none⟩ = false := fun j => by rw [hfW _ _ (by simp; try omega)]; simp [go_sem]
    have fc : ∀ j, w4.frozen? ⟨w.heap.size + 1, j, none⟩ = false := fun j => by rw [hfW _ _ (by simp; try omega)]; simp [go_sem]
    have z0 : w4.cell? ⟨w.heap.size, 0, none⟩ = some (.int .i64 0) := by rw [hcW _ _ (by simp; try omega)]; simp [go_sem]
    have z1 : w4.cell? ⟨w.heap.size, 1, none⟩ = some (.int .i64 0) := by rw [hcW _ _ (by simp; try omega)]; simp [go_sem]
    have z2 : w4.cell? ⟨w.heap.size, 2, none⟩ = some (.int .i64 0) := by rw [hcW _ _ (by simp; try omega)]; simp [go_sem]
    have z3 : w4.cell? ⟨w.heap.size, 3, none⟩ = some (.int .i64 0) := by rw [hcW _ _ (by simp; try omega)]; simp [go_sem]
    have z4 : w4.cell? ⟨w.heap.size, 4, none⟩ = some (.bool false) := by rw [hcW _ _ (by simp; try omega)]; simp [go_sem]
    have z5 : w4.cell? ⟨w.heap.size, 5, none⟩ = some (.bool false) := by rw [hcW _ _ (by simp; try omega)]; simp [go_sem]
    have z6 : w4.cell? ⟨w.heap.size, 6, none⟩ = some (.int .i64 0) := by rw [hcW _ _ (by simp; try omega)]; simp [go_sem]
    have z7 : w4.cell? ⟨w.heap.size, 7, none⟩ = some (.int .i64 0) := by rw [hcW _ _ (by simp; try omega)]; simp [go_sem]
    have z8 : w4.cell? ⟨w.heap.size, 8, none⟩ = some (.int .i64 0) := by rw [hcW _ _ (by simp; try omega)]; simp [go_sem]
    have z9 : w4.cell? ⟨w.heap.size, 9, none⟩ = some (.int .i64 0) := by rw [hcW _ _ (by simp; try omega)]; simp [go_sem]
    have z10 : w4.cell? ⟨w.heap.size, 10, none⟩ = some (.bool false) := by rw [hcW _ _ (by simp; try omega)]; simp [go_sem]
    have u0 : w4.cell? ⟨w.heap.size + 1, 0, none⟩ = some (.int .i64 0) := by rw [hcW _ _ (by simp; try omega)]; simp [go_sem]
    have u1 : w4.cell? ⟨w.heap.size + 1, 1, none⟩ = some (.int .i64 0) := by rw [hcW _ _ (by simp; try omega)]; simp [go_sem]
    have u2 : w4.cell? ⟨w.heap.size + 1, 2, none⟩ = some (.int .i64 0) := by rw [hcW _ _ (by simp; try omega)]; simp [go_sem]
    have u3 : w4.cell? ⟨w.heap.size + 1, 3, none⟩ = some (.int .i64 0) := by rw [hcW _ _ (by simp; try omega)]; simp [go_sem]
    have u4 : w4.cell? ⟨w.heap.size + 1, 4, none⟩ = some (.int .i64 0) := by rw [hcW _ _ (by simp; try omega)]; simp [go_sem]
    have u5 : w4.cell? ⟨w.heap.size + 1, 5, none⟩ = some (.int .i64 0) := by rw [hcW _ _ (by simp; try omega)]; simp [go_sem]
    have u6 : w4.cell? ⟨w.heap.size + 1, 6, none⟩ = some (.slice none 0 0) := by rw [hcW _ _ (by simp; try omega)]; simp [go_sem]
    have f0 := fo 0
    have f1 := fo 1
    have f2 := fo 2
    have f3 := fo 3
    have f4 := fo 4
    have f5 := fo 5
    have f6 := fo 6
    have f7 := fo 7
    have f8 := fo 8
    have f9 := fo 9
    have f10 := fo 10
    have g0 := fc 0
    have g1 := fc 1
    have g2 := fc 2
    have g3 := fc 3
    have g4 := fc 4
    have g5 := fc 5
    have g6 := fc 6
    clear hcW hfW fo fc
    clear hb4 hb44 hbx
    dsimp only
    rw [hkind]
    have n1 : ¬ w1.heap.size = w.heap.size := by have := HSZ.out; omega
    have n2 : ¬ w2.heap.size = w.heap.size := by have := HSZ.out; omega
    have n3 : ¬ w1.heap.size = w.heap.size + 1 := by have := HSZ.out; omega
    have n4 : ¬ w2.heap.size = w.heap.size + 1 := by have := HSZ.out; omega
    have n5 : ¬ w.heap.size = w1.heap.size := by have := HSZ.out; omega
    have n6 : ¬ w.heap.size = w2.heap.size := by have := HSZ.out; omega
    have n7 : ¬ w.heap.size + 1 = w1.heap.size := by have := HSZ.out; omega
    have n8 : ¬ w.heap.size + 1 = w2.heap.size := by have := HSZ.out; omega
    go_wp2
    go_region
    all_goals
      go_wp2
      refine bodyPost_ret (by simp [results, Tryz.results129, go_sem, z0, z1, z2, z3, z4, z5, z6, z7, z8, z9, z10, u0, u1, u2, u3, u4, u5, u6]; try first | rfl | exact ⟨rfl, rfl⟩) rfl ⟨xa, xc, rfl, ?_⟩
      exact ((((((((((((((((((HB4.out.setCell (Nat.le_refl _) _).setCell (Nat.le_refl _) _).setCell (Nat.le_refl _) _).setCell (Nat.le_refl _) _).setCell (Nat.le_refl _) _).setCell (Nat.le_refl _) _).setCell (Nat.le_refl _) _).setCell (Nat.le_refl _) _).setCell (Nat.le_refl _) _).setCell (Nat.le_refl _) _).setCell (Nat.le_refl _) _).setCell (Nat.le_succ _) _).setCell (Nat.le_succ _) _).setCell (Nat.le_succ _) _).setCell (Nat.le_succ _) _).setCell (Nat.le_succ _) _).setCell (Nat.le_succ _) _).setCell (Nat.le_succ _) _).drew
  · by_cases hz : x3 = 3
    · subst hz
      have hkind : ([2] : List Int).contains d0 = false := by
        have : d0 ≠ 2 := fun e => hno ⟨rfl, e⟩
        simp [this]
      clear hno
      go_enter Tryz.func129, Tryz.ntmps129
      go_wp2_with fail
      refine (HG.out _ (below_alloc2 (below_new w _) _)).mono ?_
      rintro e w1 ⟨rfl, hb1⟩
      have HB1 := Lib.hid (below_alloc2 (stepB (below_alloc2 (below_new w _) _) hb1) (.cells #[.int .i64 x0, .int .i64 x1, .int .i64 x2, .int .i64 3, .bool x4, .bool x5, .int .i64 x6, .int .i64 x7, .int .i64 x8, .int .i64 x9, .bool x10] 35))
      obtain ⟨W1, hW1⟩ : ∃ W, w1.alloc (.cells #[.int .i64 x0, .int .i64 x1, .int .i64 x2, .int .i64 3, .bool x4, .bool x5, .int .i64 x6, .int .i64 x7, .int .i64 x8, .int .i64 x9, .bool x10] 35) = W := ⟨_, rfl⟩
      have hbq1 := hW1 ▸ below_alloc2 hb1 (.cells #[.int .i64 x0, .int .i64 x1, .int .i64 x2, .int .i64 3, .bool x4, .bool x5, .int .i64 x6, .int .i64 x7, .int .i64 x8, .int .i64 x9, .bool x10] 35)
      rw [hW1] at HB1
      have HK1 := Lib.hid (show ∀ j, W1.cell? ⟨w1.heap.size, j, none⟩ = (#[.int .i64 x0, .int .i64 x1, .int .i64 x2, .int .i64 3, .bool x4, .bool x5, .int .i64 x6, .int .i64 x7, .int .i64 x8, .int .i64 x9, .bool x10] : Array Value)[j]? from fun j => by rw [← hW1]; exact cell_of_row _ _ j _ _ (0, 0) (heap_alloc_new w1 _))
      obtain ⟨q, hq⟩ : ∃ q, w1.heap.size = q := ⟨_, rfl⟩
      rw [hq] at HK1
      have HBQ := Lib.hid hbq1
      have HSZ0 := Lib.hid (show w.heap.size + 2 ≤ w1.heap.size by have := hb1.size; simpa using this)
      clear hb1 hbq1
      subst hW1 hq
      dsimp only
      go_wp2_with fail
      refine (HC.out _ HB1.out).mono ?_
      rintro e w2 ⟨xa, xc, rfl, _, hb2⟩
      have HB2 := Lib.hid (below_alloc2 (stepB HB1.out hb2) (.cells #[.int .i64 d0, .int .i64 d1, .int .i64 d2, .int .i64 d3, .int .i64 d4, .int .i64 d5, .slice xa dt.length xc] 45))
      have HSZ := Lib.hid (show w.heap.size + 2 ≤ w1.heap.size ∧ w1.heap.size + 1 ≤ w2.heap.size from ⟨HSZ0.out, by have := hb2.size; simpa using this⟩)
      have hbx := below_alloc2 (stepB HBQ.out hb2) (.cells #[.int .i64 d0, .int .i64 d1, .int .i64 d2, .int .i64 d3, .int .i64 d4, .int .i64 d5, .slice xa dt.length xc] 45)
      have hb22 := below_alloc2 hb2 (.cells #[.int .i64 d0, .int .i64 d1, .int .i64 d2, .int .i64 d3, .int .i64 d4, .int .i64 d5, .slice xa dt.length xc] 45)
      obtain ⟨W, hW⟩ : ∃ W, w2.alloc (.cells #[.int .i64 d0, .int .i64 d1, .int .i64 d2, .int .i64 d3, .int .i64 d4, .int .i64 d5, .slice xa dt.length xc] 45) = W := ⟨_, rfl⟩
      rw [hW] at hbx HB2 hb22
      have HK2 := Lib.hid (show ∀ j, W.cell? ⟨w2.heap.size, j, none⟩ = (#[.int .i64 d0, .int .i64 d1, .int .i64 d2, .int .i64 d3, .int .i64 d4, .int .i64 d5, .slice xa dt.length xc] : Array Value)[j]? from fun j => by rw [← hW]; exact cell_of_row _ _ j _ _ (0, 0) (heap_alloc_new w2 _))
      obtain ⟨q2, hq2⟩ : ∃ q, w2.heap.size = q := ⟨_, rfl⟩
      rw [hq2] at HK2
      have p0 : W.cell? ⟨w1.heap.size, 0, none⟩ = some (.int .i64 x0) := cell_stays hb22 (HK1.out 0)
      have p1 : W.cell? ⟨w1.heap.size, 1, none⟩ = some (.int .i64 x1) := cell_stays hb22 (HK1.out 1)
      have p2 : W.cell? ⟨w1.heap.size, 2, none⟩ = some (.int .i64 x2) := cell_stays hb22 (HK1.out 2)
      have p3 : W.cell? ⟨w1.heap.size, 3, none⟩ = some (.int .i64 3) := cell_stays hb22 (HK1.out 3)
      have p4 : W.cell? ⟨w1.heap.size, 4, none⟩ = some (.bool x4) := cell_stays hb22 (HK1.out 4)
      have p5 : W.cell? ⟨w1.heap.size, 5, none⟩ = some (.bool x5) := cell_stays hb22 (HK1.out 5)
      have p6 : W.cell? ⟨w1.heap.size, 6, none⟩ = some (.int .i64 x6) := cell_stays hb22 (HK1.out 6)
      have p7 : W.cell? ⟨w1.heap.size, 7, none⟩ = some (.int .i64 x7) := cell_stays hb22 (HK1.out 7)
      have p8 : W.cell? ⟨w1.heap.size, 8, none⟩ = some (.int .i64 x8) := cell_stays hb22 (HK1.out 8)
      have p9 : W.cell? ⟨w1.heap.size, 9, none⟩ = some (.int .i64 x9) := cell_stays hb22 (HK1.out 9)
      have p10 : W.cell? ⟨w1.heap.size, 10, none⟩ = some (.bool x10) := cell_stays hb22 (HK1.out 10)
      have r0 : W.cell? ⟨q2, 0, none⟩ = some (.int .i64 d0) := HK2.out 0
      have r1 : W.cell? ⟨q2, 1, none⟩ = some (.int .i64 d1) := HK2.out 1
      have r2 : W.cell? ⟨q2, 2, none⟩ = some (.int .i64 d2) := HK2.out 2
      have r3 : W.cell? ⟨q2, 3, none⟩ = some (.int .i64 d3) := HK2.out 3
      have r4 : W.cell? ⟨q2, 4, none⟩ = some (.int .i64 d4) := HK2.out 4
      have r5 : W.cell? ⟨q2, 5, none⟩ = some (.int .i64 d5) := HK2.out 5
      have r6 : W.cell? ⟨q2, 6, none⟩ = some (.slice xa dt.length xc) := HK2.out 6
      clear hb22
      have HBX := Lib.hid hbx
      clear hb2 hbx
      subst hW hq2
      dsimp only
      go_wp2_with fail
      refine (HI.out _ _ _ _ _ ?nn).mono ?_
      case nn =>
        refine .inr ⟨_, 0, 1, rfl, by simp, fun i hi => ?_⟩
        obtain rfl : i = 0 := by simp at hi; omega
        simp [go_sem]
      rintro e w4 ⟨rfl, hb4⟩
      have hbx := stepB (below_alloc2 HBX.out (.cells #[.int .i64 2] 3)) hb4
      have HB4 := Lib.hid (stepB (below_alloc2 HB2.out (.cells #[.int .i64 2] 3)) hb4)
      have hb44 := stepB (below_new _ (.cells #[.int .i64 2] 3)) hb4
      replace p0 := cell_stays hb44 p0
      replace p1 := cell_stays hb44 p1
      replace p2 := cell_stays hb44 p2
      replace p3 := cell_stays hb44 p3
      replace p4 := cell_stays hb44 p4
      replace p5 := cell_stays hb44 p5
      replace p6 := cell_stays hb44 p6
      replace p7 := cell_stays hb44 p7
      replace p8 := cell_stays hb44 p8
      replace p9 := cell_stays hb44 p9
      replace p10 := cell_stays hb44 p10
      replace r0 := cell_stays hb44 r0
      replace r1 := cell_stays hb44 r1
      replace r2 := cell_stays hb44 r2
      replace r3 := cell_stays hb44 r3
      replace r4 := cell_stays hb44 r4
      replace r5 := cell_stays hb44 r5
      replace r6 := cell_stays hb44 r6
      obtain ⟨hcW, hfW⟩ := Crd.bcell hbx
      have fo : ∀ j, w4.frozen? ⟨w.heap.size, j, none⟩ = false := fun j => by rw [hfW _ _ (by simp; try omega)]; simp [go_sem]
      have fc : ∀ j, w4.frozen? ⟨w.heap.size + 1, j, none⟩ = false := fun j => by rw [hfW _ _ (by simp; try omega)]; simp [go_sem]
      have z0 : w4.cell? ⟨w.heap.size, 0, none⟩ = some (.int .i64 0) := by rw [hcW _ _ (by simp; try omega)]; simp [go_sem]
      have z1 : w4.cell? ⟨w.heap.size, 1, none⟩ = some (.int .i64 0) := by rw [hcW _ _ (by simp; try omega)]; simp [go_sem]
      have z2 : w4.cell? ⟨w.heap.size, 2, none⟩ = some (.int .i64 0) := by rw [hcW _ _ (by simp; try omega)]; simp [go_sem]
      have z3 : w4.cell? ⟨w.heap.size, 3, none⟩ = some (.int .i64 0) := by rw [hcW _ _ (by simp; try omega)]; simp [go_sem]
      have z4 : w4.cell? ⟨w.heap.size, 4, none⟩ = some (.bool false) := by rw [hcW _ _ (by simp; try omega)]; simp [go_sem]
      have z5 : w4.cell? ⟨w.heap.size, 5, none⟩ = some (.bool false) := by rw [hcW _ _ (by simp; try omega)]; simp [go_sem]
      have z6 : w4.cell? ⟨w.heap.size, 6, none⟩ = some (.int .i64 0) := by rw [hcW _ _ (by simp; try omega)]; simp [go_sem]
      have z7 : w4.cell? ⟨w.heap.size, 7, none⟩ = some (.int .i64 0) := by rw [hcW _ _ (by simp; try omega)]; simp [go_sem]
      have z8 : w4.cell? ⟨w.heap.size, 8, none⟩ = some (.int .i64 0) := by rw [hcW _ _ (by simp; try omega)]; simp [go_sem]
      have z9 : w4.cell? ⟨w.heap.size, 9, none⟩ = some (.int .i64 0) := by rw [hcW _ _ (by simp; try omega)]; simp [go_sem]
      have z10 : w4.cell? ⟨w.heap.size, 10, none⟩ = some (.bool false) := by rw [hcW _ _ (by simp; try omega)]; simp [go_sem]
      have u0 : w4.cell? ⟨w.heap.size + 1, 0, none⟩ = some (.int .i64 0) := by rw [hcW _ _ (by simp; try omega)]; simp [go_sem]
      have u1 : w4.cell? ⟨w.heap.size + 1, 1, none⟩ = some (.int .i64 0) := by rw [hcW _ _ (by simp; try omega)]; simp [go_sem]
      have u2 : w4.cell? ⟨w.heap.size + 1, 2, none⟩ = some (.int .i64 0) := by rw [hcW _ _ (by simp; try omega)]; simp [go_sem]
      have u3 : w4.cell? ⟨w.heap.size + 1, 3, none⟩ = some (.int .i64 0) := by rw [hcW _ _ (by simp; try omega)]; simp [go_sem]
      have u4 : w4.cell? ⟨w.heap.size + 1, 4, none⟩ = some (.int .i64 0) := by rw [hcW _ _ (by simp; try omega)]; simp [go_sem]
      have u5 : w4.cell? ⟨w.heap.size + 1, 5, none⟩ = some (.int .i64 0) := by rw [hcW _ _ (by simp; try omega)]; simp [go_sem]
      have u6 : w4.cell? ⟨w.heap.size + 1, 6, none⟩ = some (.slice none 0 0) := by rw [hcW _ _ (by simp; try omega)]; simp [go_sem]
      have f0 := fo 0
      have f1 := fo 1
      have f2 := fo 2
      have f3 := fo 3
      have f4 := fo 4
      have f5 := fo 5
      have f6 := fo 6
      have f7 := fo 7
      have f8 := fo 8
      have f9 := fo 9
      have f10 := fo 10
      have g0 := fc 0
      have g1 := fc 1
      have g2 := fc 2
      have g3 := fc 3
      have g4 := fc 4
      have g5 := fc 5
      have g6 := fc 6
      clear hcW hfW fo fc
      clear hb4 hb44 hbx
      dsimp only
      rw [hkind]
      go_wp2
      refine bodyPost_ret (by simp [results, Tryz.results129, go_sem, z0, z1, z2, z3, z4, z5, z6, z7, z8, z9, z10, u0, u1, u2, u3, u4, u5, u6, zeroO, zeroC]; try first | rfl | exact ⟨rfl, rfl⟩) rfl ⟨none, 0, rfl, ?_⟩
      have hb := HB4.out
      repeat' apply Below.setCell
      all_goals first | exact hb | simp
    · have hz3 : (x3 != 3) = true := bne_iff_ne.2 hz
      clear hno hz
      go_enter Tryz.func129, Tryz.ntmps129
      go_wp2_with fail
      refine (HG.out _ (below_alloc2 (below_new w _) _)).mono ?_
      rintro e w1 ⟨rfl, hb1⟩
      have HB1 := Lib.hid (below_alloc2 (stepB (below_alloc2 (below_new w _) _) hb1) (.cells #[.int .i64 x0, .int .i64 x1, .int .i64 x2, .int .i64 x3, .bool x4, .bool x5, .int .i64 x6, .int .i64 x7, .int .i64 x8, .int .i64 x9, .bool x10] 35))
      obtain ⟨W1, hW1⟩ : ∃ W, w1.alloc (.cells #[.int .i64 x0, .int .i64 x1, .int .i64 x2, .int .i64 x3, .bool x4, .bool x5, .int .i64 x6, .int .i64 x7, .int .i64 x8, .int .i64 x9, .bool x10] 35) = W := ⟨_, rfl⟩
      have hbq1 := hW1 ▸ below_alloc2 hb1 (.cells #[.int .i64 x0, .int .i64 x1, .int .i64 x2, .int .i64 x3, .bool x4, .bool x5, .int .i64 x6, .int .i64 x7, .int .i64 x8, .int .i64 x9, .bool x10] 35)
      rw [hW1] at HB1
      have HK1 := Lib.hid (show ∀ j, W1.cell? ⟨w1.heap.size, j, none⟩ = (#[.int .i64 x0, .int .i64 x1, .int .i64 x2, .int .i64 x3, .bool x4, .bool x5, .int .i64 x6, .int .i64 x7, .int .i64 x8, .int .i64 x9, .bool x10] : Array Value)[j]? from fun j => by rw [← hW1]; exact cell_of_row _ _ j _ _ (0, 0) (heap_alloc_new w1 _))
      obtain ⟨q, hq⟩ : ∃ q, w1.heap.size = q := ⟨_, rfl⟩
      rw [hq] at HK1
      have HBQ := Lib.hid hbq1
      have HSZ0 := Lib.hid (show w.heap.size + 2 ≤ w1.heap.size by have := hb1.size; simpa using this)
      clear hb1 hbq1
      subst hW1 hq
      dsimp only
      go_wp2_with fail
      refine (HC.out _ HB1.out).mono ?_
      rintro e w2 ⟨xa, xc, rfl, _, hb2⟩
      have HB2 := Lib.hid (below_alloc2 (stepB HB1.out hb2) (.cells #[.int .i64 d0, .int .i64 d1, .int .i64 d2, .int .i64 d3, .int .i64 d4, .int .i64 d5, .slice xa dt.length xc] 45))
      have HSZ := Lib.hid (show w.heap.size + 2 ≤ w1.heap.size ∧ w1.heap.size + 1 ≤ w2.heap.size from ⟨HSZ0.out, by have := hb2.size; simpa using this⟩)
      have hbx := below_alloc2 (stepB HBQ.out hb2) (.cells #[.int .i64 d0, .int .i64 d1, .int .i64 d2, .int .i64 d3, .int .i64 d4, .int .i64 d5, .slice xa dt.length xc] 45)
      have hb22 := below_alloc2 hb2 (.cells #[.int .i64 d0, .int .i64 d1, .int .i64 d2, .int .i64 d3, .int .i64 d4, .int .i64 d5, .slice xa dt.length xc] 45)
      obtain ⟨W, hW⟩ : ∃ W, w2.alloc (.cells #[.int .i64 d0, .int .i64 d1, .int .i64 d2, .int .i64 d3, .int .i64 d4, .int .i64 d5, .slice xa dt.length xc] 45) = W := ⟨_, rfl⟩
      rw [hW] at hbx HB2 hb22
      have HK2 := Lib.hid (show ∀ j, W.cell? ⟨w2.heap.size, j, none⟩ = (#[.int .i64 d0, .int .i64 d1, .int .i64 d2, .int .i64 d3, .int .i64 d4, .int .i64 d5, .slice xa dt.length xc] : Array Value)[j]? from fun j => by rw [← hW]; exact cell_of_row _ _ j _ _ (0, 0) (heap_alloc_new w2 _))
      obtain ⟨q2, hq2⟩ : ∃ q, w2.heap.size = q := ⟨_, rfl⟩
      rw [hq2] at HK2
      have p0 : W.cell? ⟨w1.heap.size, 0, none⟩ = some (.int .i64 x0) := cell_stays hb22 (HK1.out 0)
      have p1 : W.cell? ⟨w1.heap.size, 1, none⟩ = some (.int .i64 x1) := cell_stays hb22 (HK1.out 1)
      have p2 : W.cell? ⟨w1.heap.size, 2, none⟩ = some (.int .i64 x2) := cell_stays hb22 (HK1.out 2)
      have p3 : W.cell? ⟨w1.heap.size, 3, none⟩ = some (.int .i64 x3) := cell_stays hb22 (HK1.out 3)
      have p4 : W.cell? ⟨w1.heap.size, 4, none⟩ = some (.bool x4) := cell_stays hb22 (HK1.out 4)
      have p5 : W.cell? ⟨w1.heap.size, 5, none⟩ = some (.bool x5) := cell_stays hb22 (HK1.out 5)
      have p6 : W.cell? ⟨w1.heap.size, 6, none⟩ = some (.int .i64 x6) := cell_stays hb22 (HK1.out 6)
      have p7 : W.cell? ⟨w1.heap.size, 7, none⟩ = some (.int .i64 x7) := cell_stays hb22 (HK1.out 7)
      have p8 : W.cell? ⟨w1.heap.size, 8, none⟩ = some (.int .i64 x8) := cell_stays hb22 (HK1.out 8)
      have p9 : W.cell? ⟨w1.heap.size, 9, none⟩ = some (.int .i64 x9) := cell_stays hb22 (HK1.out 9)
      have p10 : W.cell? ⟨w1.heap.size, 10, none⟩ = some (.bool x10) := cell_stays hb22 (HK1.out 10)
      have r0 : W.cell? ⟨q2, 0, none⟩ = some (.int .i64 d0) := HK2.out 0
      have r1 : W.cell? ⟨q2, 1, none⟩ = some (.int .i64 d1) := HK2.out 1
      have r2 : W.cell? ⟨q2, 2, none⟩ = some (.int .i64 d2) := HK2.out 2
      have r3 : W.cell? ⟨q2, 3, none⟩ = some (.int .i64 d3) := HK2.out 3
      have r4 : W.cell? ⟨q2, 4, none⟩ = some (.int .i64 d4) := HK2.out 4
      have r5 : W.cell? ⟨q2, 5, none⟩ = some (.int .i64 d5) := HK2.out 5
      have r6 : W.cell? ⟨q2, 6, none⟩ = some (.slice xa dt.length xc) := HK2.out 6
      clear hb22
      obtain ⟨hcW, hfW⟩ := Crd.bcell hbx
      have fo : ∀ j, W.frozen? ⟨w.heap.size, j, none⟩ = false := fun j => by rw [hfW _ _ (by simp; try omega)]; simp [go_sem]
      have fc : ∀ j, W.frozen? ⟨w.heap.size + 1, j, none⟩ = false := fun j => by rw [hfW _ _ (by simp; try omega)]; simp [go_sem]
      have z0 : W.cell? ⟨w.heap.size, 0, none⟩ = some (.int .i64 0) := by rw [hcW _ _ (by simp; try omega)]; simp [go_sem]
      have z1 : W.cell? ⟨w.heap.size, 1, none⟩ = some (.int .i64 0) := by rw [hcW _ _ (by simp; try omega)]; simp [go_sem]
      have z2 : W.cell? ⟨w.heap.size, 2, none⟩ = some (.int .i64 0) := by rw [hcW _ _ (by simp; try omega)]; simp [go_sem]
      have z3 : W.cell? ⟨w.heap.size, 3, none⟩ = some (.int .i64 0) := by rw [hcW _ _ (by simp; try omega)]; simp [go_sem]
      have z4 : W.cell? ⟨w.heap.size, 4, none⟩ = some (.bool false) := by rw [hcW _ _ (by simp; try omega)]; simp [go_sem]
      have z5 : W.cell? ⟨w.heap.size, 5, none⟩ = some (.bool false) := by rw [hcW _ _ (by simp; try omega)]; simp [go_sem]
      have z6 : W.cell? ⟨w.heap.size, 6, none⟩ = some (.int .i64 0) := by rw [hcW _ _ (by simp; try omega)]; simp [go_sem]
      have z7 : W.cell? ⟨w.heap.size, 7, none⟩ = some (.int .i64 0) := by rw [hcW _ _ (by simp; try omega)]; simp [go_sem]
      have z8 : W.cell? ⟨w.heap.size, 8, none⟩ = some (.int .i64 0) := by rw [hcW _ _ (by simp; try omega)]; simp [go_sem]
      have z9 : W.cell? ⟨w.heap.size, 9, none⟩ = some (.int .i64 0) := by rw [hcW _ _ (by simp; try omega)]; simp [go_sem]
      have z10 : W.cell? ⟨w.heap.size, 10, none⟩ = some (.bool false) := by rw [hcW _ _ (by simp; try omega)]; simp [go_sem]
      have u0 : W.cell? ⟨w.heap.size + 1, 0, none⟩ = some (.int .i64 0) := by rw [hcW _ _ (by simp; try omega)]; simp [go_sem]
      have u1 : W.cell? ⟨w.heap.size + 1, 1, none⟩ = some (.int .i64 0) := by rw [hcW _ _ (by simp; try omega)]; simp [go_sem]
      have u2 : W.cell? ⟨w.heap.size + 1, 2, none⟩ = some (.int .i64 0) := by rw [hcW _ _ (by simp; try omega)]; simp [go_sem]
      have u3 : W.cell? ⟨w.heap.size + 1, 3, none⟩ = some (.int .i64 0) := by rw [hcW _ _ (by simp; try omega)]; simp [go_sem]
      have u4 : W.cell? ⟨w.heap.size + 1, 4, none⟩ = some (.int .i64 0) := by rw [hcW _ _ (by simp; try omega)]; simp [go_sem]
      have u5 : W.cell? ⟨w.heap.size + 1, 5, none⟩ = some (.int .i64 0) := by rw [hcW _ _ (by simp; try omega)]; simp [go_sem]
      have u6 : W.cell? ⟨w.heap.size + 1, 6, none⟩ = some (.slice none 0 0) := by rw [hcW _ _ (by simp; try omega)]; simp [go_sem]
      have f0 := fo 0
      have f1 := fo 1
      have f2 := fo 2
      have f3 := fo 3
      have f4 := fo 4
      have f5 := fo 5
      have f6 := fo 6
      have f7 := fo 7
      have f8 := fo 8
      have f9 := fo 9
      have f10 := fo 10
      have g0 := fc 0
      have g1 := fc 1
      have g2 := fc 2
      have g3 := fc 3
      have g4 := fc 4
      have g5 := fc 5
      have g6 := fc 6
      clear hcW hfW fo fc
      clear hb2 hbx
      go_wp2
      refine bodyPost_ret (by simp [results, Tryz.results129, go_sem, z0, z1, z2, z3, z4, z5, z6, z7, z8, z9, z10, u0, u1, u2, u3, u4, u5, u6, zeroO, zeroC]; try first | rfl | exact ⟨rfl, rfl⟩) rfl ⟨none, 0, rfl, ?_⟩
      have hb := HB2.out
      repeat' apply Below.setCell
      all_goals first | exact hb | simp
set_option maxRecDepth 100000 in
set_option maxHeartbeats 4000000 in
theorem live_of {w : World} {p : Option Addr} {i n : Int} {o : ObjL} {c : Crd.CardL} (h : Calls Tryz.prog 129 #[.pointer p, .int .i64 i] w (RetCre w o c n)) :
    Calls Tryz.prog 110 #[.pointer p, .int .i64 i] w (RetV w (.bool (n == 0))) := by
  have H := Lib.hid h
  obtain ⟨x0, x1, x2, x3, x4, x5, x6, x7, x8, x9, x10⟩ := o
  obtain ⟨d0, d1, d2, d3, d4, d5, dt⟩ := c
  unfold RetCre Crd.cagg oagg at H
  dsimp only at H ⊢
  clear h
  go_enter Tryz.func110, Tryz.ntmps110
  go_wp2_with fail
  refine H.out.mono ?_
  rintro e w1 ⟨xa, xc, rfl, hb1⟩
  dsimp only
  go_wp2
  go_ret
  exact ⟨rfl, below_alloc2 (below_alloc2 hb1 _) _⟩
end Go.Proofs.YtgjojjhppgjkkaaGreat
