/- How strong creatures are (layer 8): sums held within bounds, layers. A creature on the Field, and how strong it is (layer 8): creature, Power, Tough, Keys, Live, Dead. What changes a creature (layer 8): Hurt, Count, Boost. How strong creatures of a store are, and what changes them, for any number (layer 8); of no store. -/
import Derived.Test.YtjgjhfeopmakaaaGreatHf
import Derived.Test.YtjgjhfeopmakaaaGreatJe
namespace Go.Proofs.YtjgjhfeopmakaaaGreat
open Go.RowKit Go.Maps

def holdZ (n : Int) : Int := min (max n (-999)) 999
def addZ (a b : Int) : Int := holdZ (holdZ a + holdZ b)
def raiseZ (a b : Int) : Int := max (addZ a b) 0
def layZ (x c b : Int) : Int := raiseZ (raiseZ x c) b
theorem holdZ_in (n : Int) : -999 ≤ holdZ n ∧ holdZ n ≤ 999 := by unfold holdZ; omega
theorem holdZ_id {n : Int} (h : -999 ≤ n ∧ n ≤ 999) : holdZ n = n := by unfold holdZ; omega
theorem addZ_in (a b : Int) : -999 ≤ addZ a b ∧ addZ a b ≤ 999 := holdZ_in _
theorem raiseZ_in (a b : Int) : 0 ≤ raiseZ a b ∧ raiseZ a b ≤ 999 := by have := addZ_in a b; unfold raiseZ; omega
theorem addZ_comm (a b : Int) : addZ a b = addZ b a := by unfold addZ; rw [Int.add_comm]
set_option maxRecDepth 100000 in
theorem hold_any (n : Int) (w : World) : Calls Tryz.prog 110 #[.int .i64 n] w (Same w (.int .i64 (holdZ n))) := by
  go_enter Tryz.func110, Tryz.ntmps110
  go_wp2
  go_ret
  exact ⟨rfl, rfl⟩
set_option maxRecDepth 100000 in
theorem add_any (a b : Int) (w : World) : Calls Tryz.prog 92 #[.int .i64 a, .int .i64 b] w (Same w (.int .i64 (addZ a b))) := by
  have h1 := holdZ_in a
  have h2 := holdZ_in b
  go_enter Tryz.func92, Tryz.ntmps92
  go_wp2_with fail
  refine (hold_any a w).mono ?_
  rintro e w1 ⟨rfl, rfl⟩
  go_wp2_with fail
  refine (hold_any b w1).mono ?_
  rintro e w2 ⟨rfl, rfl⟩
  unfold addZ
  obtain ⟨x, hx⟩ : ∃ x, holdZ a = x := ⟨_, rfl⟩
  obtain ⟨y, hy⟩ : ∃ y, holdZ b = y := ⟨_, rfl⟩
  rw [hx] at h1 ⊢
  rw [hy] at h2 ⊢
  go_wp2_with fail
  refine (hold_any (x + y) w2).mono ?_
  rintro e w3 ⟨rfl, rfl⟩
  go_wp2
  go_ret
  subst hx hy
  exact ⟨rfl, rfl⟩
set_option maxRecDepth 100000 in
theorem raise_any (a b : Int) (w : World) : Calls Tryz.prog 80 #[.int .i64 a, .int .i64 b] w (Same w (.int .i64 (raiseZ a b))) := by
  go_enter Tryz.func80, Tryz.ntmps80
  go_wp2_with fail
  refine (add_any a b w).mono ?_
  rintro e w1 ⟨rfl, rfl⟩
  go_wp2
  go_ret
  exact ⟨rfl, rfl⟩
def heldZ (n l m : Int) : Int := if n < l then l else if n > m then m else n
theorem heldZ_in (n l m : Int) (h : l ≤ m) : l ≤ heldZ n l m ∧ heldZ n l m ≤ m := by unfold heldZ; split <;> (try split) <;> omega
def refAddZ (a b : Int) : Int := heldZ (heldZ a (-999) 999 + heldZ b (-999) 999) (-999) 999
theorem held_hold (n : Int) : heldZ n (-999) 999 = holdZ n := by unfold heldZ holdZ; split <;> (try split) <;> omega
theorem refAdd_eq (a b : Int) : refAddZ a b = addZ a b := by unfold refAddZ addZ; rw [held_hold, held_hold, held_hold]
end Go.Proofs.YtjgjhfeopmakaaaGreat
namespace Go.Proofs.YtjgjhfeopmakaaaGreat
open Go.RowKit Go.Maps

def zeroC : Crd.CardL := ⟨0, 0, 0, 0, 0, 0, []⟩
def RetCre (w : World) (o : ObjL) (c : Crd.CardL) (n : Int) (e : Ending) (w' : World) : Prop := ∃ xa xc, e = .returned (.tuple #[oagg o, Crd.cagg c (.slice xa c.terms.length xc), .int .i64 n]) ∧ Below w.heap.size w w'
set_option maxRecDepth 100000 in
set_option maxHeartbeats 4000000 in
theorem creature_out {w : World} {p : Option Addr} {i n : Int} (hn : n ≠ 0) (h : ∀ w' : World, Below w.heap.size w w' → Calls Tryz.prog 9 #[.pointer p, .int .i64 i] w' (RetGet w' zeroO n)) :
    Calls Tryz.prog 43 #[.pointer p, .int .i64 i] w (RetCre w zeroO zeroC n) := by
  have HG := Lib.hid h
  have e0 : (n != 0) = true := bne_iff_ne.2 hn
  unfold RetGet oagg zeroO at HG
  dsimp only at HG
  clear h hn
  go_enter Tryz.func43, Tryz.ntmps43
  go_wp2_with fail
  refine (HG.out _ (below_alloc2 (below_new w _) _)).mono ?_
  rintro e w1 ⟨rfl, hb1⟩
  have HB := Lib.hid (below_alloc2 (stepB (below_alloc2 (below_new w _) _) hb1) (.cells #[.int .i64 0, .int .i64 0, .int .i64 0, .int .i64 0, .bool false, .bool false, .int .i64 0, .int .i64 0, .int .i64 0, .int .i64 0, .bool false] 30))
  have hbx := below_alloc2 hb1 (.cells #[.int .i64 0, .int .i64 0, .int .i64 0, .int .i64 0, .bool false, .bool false, .int .i64 0, .int .i64 0, .int .i64 0, .int .i64 0, .bool false] 30)
  obtain ⟨W, hW⟩ : ∃ W, w1.alloc (.cells #[.int .i64 0, .int .i64 0, .int .i64 0, .int .i64 0, .bool false, .bool false, .int .i64 0, .int .i64 0, .int .i64 0, .int .i64 0, .bool false] 30) = W := ⟨_, rfl⟩
  rw [hW] at hbx HB
  obtain ⟨hcW, hfW⟩ := Crd.bcell hbx
  have fo : ∀ j, W.frozen? ⟨w.heap.size, j, none⟩ = false := fun j => by rw [hfW _ _ (by simp; try omega)]; simp [go_sem]
  have fc : ∀ j, W.frozen? ⟨w.heap.size + 1, j, none⟩ = false := fun j => by rw [hfW _ _ (by simp; try omega)]; simp [go_sem]
  have z0 : W.cell? ⟨w.heap.size, 0, none⟩ = some (.int .i64 0) := by rw [hcW _ _ (by simp; try omega)]; simp [go_sem]
  have z1 : W.cell? ⟨w.heap.size, 1, none⟩ = some (.int .i64 0) := by rw [hcW _ _ (by simp; try omega)]; simp [go_sem]
  have z2 : W.cell? ⟨w.heap.size, 2, none⟩ = some (.int .i64 0) := by rw [hcW _ _ (by simp; try omega)]; simp [go_sem]
  have z3 : W.cell? ⟨w.heap.size, 3, none⟩ = some (.int .i64 0) := by rw [hcW _ _ (by simp; try omega)]; simp [go_sem]
  have z4 : W.cell? ⟨w.heap.size, 4, none⟩ = some (.bool false) := by rw [hcW _ _ (by simp; try omega)]; simp [go_sem]
  have z5 : W.cell? ⟨w.heap.size, 5, none⟩ = some (.bool false) := by rw [hcW _ _ (by simp; try omega)]; simp [go_sem]
  have z6 : W.cell? ⟨w.heap.size, 6, none⟩ = some (.int .i64 0) := by rw [hcW _ _ (by simp; try omega)]; simp [go_sem]
  have z7 : W.cell? ⟨w.heap.size, 7, none⟩ = some (.int .i64 0) := by rw [hcW _ _ (by simp; try omega)]; simp [go_sem]
  have z8 : W.cell? ⟨w.heap.size, 8, none⟩ = some (.int .i64 0) := by rw [hcW _ _ (by simp; try omega)]; simp [go_sem]
  have z9 : W.cell? ⟨w.heap.size, 9, none⟩ = some (.int .i64 0) := by rw [hcW _ _ (by simp; try omega)]; simp [go_sem]
  have z10 : W.cell? ⟨w.heap.size, 10, none⟩ = some (.bool false) := by rw [hcW _ _ (by simp; try omega)]; simp [go_sem]
  have u0 : W.cell? ⟨w.heap.size + 1, 0, none⟩ = some (.int .i64 0) := by rw [hcW _ _ (by simp; try omega)]; simp [go_sem]
  have u1 : W.cell? ⟨w.heap.size + 1, 1, none⟩ = some (.int .i64 0) := by rw [hcW _ _ (by simp; try omega)]; simp [go_sem]
  have u2 : W.cell? ⟨w.heap.size + 1, 2, none⟩ = some (.int .i64 0) := by rw [hcW _ _ (by simp; try omega)]; simp [go_sem]
  have u3 : W.cell? ⟨w.heap.size + 1, 3, none⟩ = some (.int .i64 0) := by rw [hcW _ _ (by simp; try omega)]; simp [go_sem]
  have u4 : W.cell? ⟨w.heap.size + 1, 4, none⟩ = some (.int .i64 0) := by rw [hcW _ _ (by simp; try omega)]; simp [go_sem]
  have u5 : W.cell? ⟨w.heap.size + 1, 5, none⟩ = some (.int .i64 0) := by rw [hcW _ _ (by simp; try omega)]; simp [go_sem]
  have u6 : W.cell? ⟨w.heap.size + 1, 6, none⟩ = some (.slice none 0 0) := by rw [hcW _ _ (by simp; try omega)]; simp [go_sem]
  have f0 := fo 0
  have f1 := fo 1
  have f2 := fo 2
  have f3 := fo 3
  have f4 := fo 4
  have f5 := fo 5
  have f6 := fo 6
  have f7 := fo 7
  have f8 := fo 8
  have f9 := fo 9
  have f10 := fo 10
  have g0 := fc 0
  have g1 := fc 1
  have g2 := fc 2
  have g3 := fc 3
  have g4 := fc 4
  have g5 := fc 5
  have g6 := fc 6
  clear hcW hfW fo fc
  clear hb1 hbx
  dsimp only
  subst hW
  go_wp2
  refine bodyPost_ret (by simp [results, Tryz.results43, go_sem, z0, z1, z2, z3, z4, z5, z6, z7, z8, z9, z10, u0, u1, u2, u3, u4, u5, u6, zeroO, zeroC]; try first | rfl | exact ⟨rfl, rfl⟩) rfl ⟨none, 0, rfl, ?_⟩
  have hb := HB.out
  repeat' apply Below.setCell
  all_goals first | exact hb | simp
set_option maxRecDepth 100000 in
set_option maxHeartbeats 4000000 in
theorem creature_in {w : World} {lo b : Nat} {G : Ghost} {S : StoreL} (h : StoreAt w lo b G S) (hS : S.objs.length ≤ 1000) (k n : Nat) (hk : k < S.objs.length) (hn : n < S.T.length) (hc : S.objs[k].card = n) :
    (S.objs[k].zone = 3 → S.T[n].kind = 2 → Calls Tryz.prog 43 #[.pointer (some ⟨b, 0, none⟩), .int .i64 ((k : Int) + 1)] w (RetCre w S.objs[k] S.T[n] 0)) ∧
    (¬(S.objs[k].zone = 3 ∧ S.T[n].kind = 2) → Calls Tryz.prog 43 #[.pointer (some ⟨b, 0, none⟩), .int .i64 ((k : Int) + 1)] w (RetCre w zeroO zeroC 10)) := by
  have HG := Lib.hid (fun (w' : World) (hb : Below w.heap.size w w') => get_in (h.later hb) hS k hk)
  have HC := Lib.hid (fun (w' : World) (hb : Below w.heap.size w w') => card_ok (h.later hb) hS k n hk hn hc)
  have HI := Lib.hid (fun (w' : World) (ya : Option Addr) (yn yc : Nat) (v : Value) (hv : Crd.NumsAt w' v [2]) => (Crd.is_any S.T[n] ya yn yc v [2] w' (by decide) hv))
  obtain ⟨x, hx⟩ : ∃ x, S.objs[k] = x := ⟨_, rfl⟩
  obtain ⟨c, hcq⟩ : ∃ c, S.T[n] = c := ⟨_, rfl⟩
  rw [hx] at HG ⊢
  rw [hcq] at HC HI ⊢
  clear h hx hcq hc hn hk hS
  obtain ⟨x0, x1, x2, x3, x4, x5, x6, x7, x8, x9, x10⟩ := x
  obtain ⟨d0, d1, d2, d3, d4, d5, dt⟩ := c
  unfold RetGet oagg at HG
  unfold RetCard Crd.cagg at HC
  unfold Crd.cagg at HI
  unfold RetCre Crd.cagg oagg
  dsimp only at HG HC HI ⊢
  refine ⟨fun hz hd => ?_, fun hno => ?_⟩
  · subst hz hd
    have hkind : ([2] : List Int).contains 2 = true := rfl
    go_enter Tryz.func43, Tryz.ntmps43
    go_wp2_with fail
    refine (HG.out _ (below_alloc2 (below_new w _) _)).mono ?_
    rintro e w1 ⟨rfl, hb1⟩
    have HB1 := Lib.hid (below_alloc2 (stepB (below_alloc2 (below_new w _) _) hb1) (.cells #[.int .i64 x0, .int .i64 x1, .int .i64 x2, .int .i64 3, .bool x4, .bool x5, .int .i64 x6, .int .i64 x7, .int .i64 x8, .int .i64 x9, .bool x10] 30))
    obtain ⟨W1, hW1⟩ : ∃ W, w1.alloc (.cells #[.int .i64 x0, .int .i64 x1, .int .i64 x2, .int .i64 3, .bool x4, .bool x5, .int .i64 x6, .int .i64 x7, .int .i64 x8, .int .i64 x9, .bool x10] 30) = W := ⟨_, rfl⟩
    have hbq1 := hW1 ▸ below_alloc2 hb1 (.cells #[.int .i64 x0, .int .i64 x1, .int .i64 x2, .int .i64 3, .bool x4, .bool x5, .int .i64 x6, .int .i64 x7, .int .i64 x8, .int .i64 x9, .bool x10] 30)
    rw [hW1] at HB1
    have HK1 := Lib.hid (show ∀ j, W1.cell? ⟨w1.heap.size, j, none⟩ = (#[.int .i64 x0, .int .i64 x1, .int .i64 x2, .int .i64 3, .bool x4, .bool x5, .int .i64 x6, .int .i64 x7, .int .i64 x8, .int .i64 x9, .bool x10] : Array Value)[j]? from fun j => by rw [← hW1]; exact cell_of_row _ _ j _ _ (0, 0) (heap_alloc_new w1 _))
    obtain ⟨q, hq⟩ : ∃ q, w1.heap.size = q := ⟨_, rfl⟩
    rw [hq] at HK1
    have HBQ := Lib.hid hbq1
    have HSZ0 := Lib.hid (show w.heap.size + 2 ≤ w1.heap.size by have := hb1.size; simpa using this)
    clear hb1 hbq1
    subst hW1 hq
    dsimp only
    go_wp2_with fail
    refine (HC.out _ HB1.out).mono ?_
    rintro e w2 ⟨xa, xc, rfl, _, hb2⟩
    have HB2 := Lib.hid (below_alloc2 (stepB HB1.out hb2) (.cells #[.int .i64 2, .int .i64 d1, .int .i64 d2, .int .i64 d3, .int .i64 d4, .int .i64 d5, .slice xa dt.length xc] 65))
    have HSZ := Lib.hid (show w.heap.size + 2 ≤ w1.heap.size ∧ w1.heap.size + 1 ≤ w2.heap.size from ⟨HSZ0.out, by have := hb2.size; simpa using this⟩)
    have hbx := below_alloc2 (stepB HBQ.out hb2) (.cells #[.int .i64 2, .int .i64 d1, .int .i64 d2, .int .i64 d3, .int .i64 d4, .int .i64 d5, .slice xa dt.length xc] 65)
    have hb22 := below_alloc2 hb2 (.cells #[.int .i64 2, .int .i64 d1, .int .i64 d2, .int .i64 d3, .int .i64 d4, .int .i64 d5, .slice xa dt.length xc] 65)
    obtain ⟨W, hW⟩ : ∃ W, w2.alloc (.cells #[.int .i64 2, .int .i64 d1, .int .i64 d2, .int .i64 d3, .int .i64 d4, .int .i64 d5, .slice xa dt.length xc] 65) = W := ⟨_, rfl⟩
    rw [hW] at hbx HB2 hb22
    have HK2 := Lib.hid (show ∀ j, W.cell? ⟨w2.heap.size, j, none⟩ = (#[.int .i64 2, .int .i64 d1, .int .i64 d2, .int .i64 d3, .int .i64 d4, .int .i64 d5, .slice xa dt.length xc] : Array Value)[j]? from fun j => by rw [← hW]; exact cell_of_row _ _ j _ _ (0, 0) (heap_alloc_new w2 _))
    obtain ⟨q2, hq2⟩ : ∃ q, w2.heap.size = q := ⟨_, rfl⟩
    rw [hq2] at HK2
    have p0 : W.cell? ⟨w1.heap.size, 0, none⟩ = some (.int .i64 x0) := cell_stays hb22 (HK1.out 0)
    have p1 : W.cell? ⟨w1.heap.size, 1, none⟩ = some (.int .i64 x1) := cell_stays hb22 (HK1.out 1)
    have p2 : W.cell? ⟨w1.heap.size, 2, none⟩ = some (.int .i64 x2) := cell_stays hb22 (HK1.out 2)
    have p3 : W.cell? ⟨w1.heap.size, 3, none⟩ = some (.int .i64 3) := cell_stays hb22 (HK1.out 3)
    have p4 : W.cell? ⟨w1.heap.size, 4, none⟩ = some (.bool x4) := cell_stays hb22 (HK1.out 4)
    have p5 : W.cell? ⟨w1.heap.size, 5, none⟩ = some (.bool x5) := cell_stays hb22 (HK1.out 5)
    have p6 : W.cell? ⟨w1.heap.size, 6, none⟩ = some (.int .i64 x6) := cell_stays hb22 (HK1.out 6)
    have p7 : W.cell? ⟨w1.heap.size, 7, none⟩ = some (.int .i64 x7) := cell_stays hb22 (HK1.out 7)
    have p8 : W.cell? ⟨w1.heap.size, 8, none⟩ = some (.int .i64 x8) := cell_stays hb22 (HK1.out 8)
    have p9 : W.cell? ⟨w1.heap.size, 9, none⟩ = some (.int .i64 x9) := cell_stays hb22 (HK1.out 9)
    have p10 : W.cell? ⟨w1.heap.size, 10, none⟩ = some (.bool x10) := cell_stays hb22 (HK1.out 10)
    have r0 : W.cell? ⟨q2, 0, none⟩ = some (.int .i64 2) := HK2.out 0
    have r1 : W.cell? ⟨q2, 1, none⟩ = some (.int .i64 d1) := HK2.out 1
    have r2 : W.cell? ⟨q2, 2, none⟩ = some (.int .i64 d2) := HK2.out 2
    have r3 : W.cell? ⟨q2, 3, none⟩ = some (.int .i64 d3) := HK2.out 3
    have r4 : W.cell? ⟨q2, 4, none⟩ = some (.int .i64 d4) := HK2.out 4
    have r5 : W.cell? ⟨q2, 5, none⟩ = some (.int .i64 d5) := HK2.out 5
    have r6 : W.cell? ⟨q2, 6, none⟩ = some (.slice xa dt.length xc) := HK2.out 6
    clear hb22
    have HBX := Lib.hid hbx
    clear hb2 hbx
    subst hW hq2
    dsimp only
    go_wp2_with fail
    refine (HI.out _ _ _ _ _ ?nn).mono ?_
    case nn =>
      refine .inr ⟨_, 0, 1, rfl, by simp, fun i hi => ?_⟩
      obtain rfl : i = 0 := by simp at hi; omega
      simp [go_sem]
    rintro e w4 ⟨rfl, hb4⟩
    have hbx := stepB (below_alloc2 HBX.out (.cells #[.int .i64 2] 3)) hb4
    have HB4 := Lib.hid (stepB (below_alloc2 HB2.out (.cells #[.int .i64 2] 3)) hb4)
    have hb44 := stepB (below_new _ (.cells #[.int .i64 2] 3)) hb4
    replace p0 := cell_stays hb44 p0
    replace p1 := cell_stays hb44 p1
    replace p2 := cell_stays hb44 p2
    replace p3 := cell_stays hb44 p3
    replace p4 := cell_stays hb44 p4
    replace p5 := cell_stays hb44 p5
    replace p6 := cell_stays hb44 p6
    replace p7 := cell_stays hb44 p7
    replace p8 := cell_stays hb44 p8
    replace p9 := cell_stays hb44 p9
    replace p10 := cell_stays hb44 p10
    replace r0 := cell_stays hb44 r0
    replace r1 := cell_stays hb44 r1
    replace r2 := cell_stays hb44 r2
    replace r3 := cell_stays hb44 r3
    replace r4 := cell_stays hb44 r4
    replace r5 := cell_stays hb44 r5
    replace r6 := cell_stays hb44 r6
    obtain ⟨hcW, hfW⟩ := Crd.bcell hbx
    have fo : ∀ j, w4.frozen? ⟨w.heap.size, j, none⟩ = false := fun j => by rw [hfW _ _ (by simp; try omega)]; simp [go_sem]
    have fc : ∀ j, w4.frozen? ⟨w.heap.size + 1, j, none⟩ = false := fun j => by rw [hfW _ _ (by simp; try omega)]; simp [go_sem]
    have z0 : w4.cell? ⟨w.heap.size, 0, none⟩ = some (.int .i64 0) := by rw [hcW _ _ (by simp; try omega)]; simp [go_sem]
    have z1 : w4.cell? ⟨w.heap.size, 1, none⟩ = some (.int .i64 0) := by rw [hcW _ _ (by simp; try omega)]; simp [go_sem]
    have z2 : w4.cell? ⟨w.heap.size, 2, none⟩ = some (.int .i64 0) := by rw [hcW _ _ (by simp; try omega)]; simp [go_sem]
    have z3 : w4.cell? ⟨w.heap.size, 3, none⟩ = some (.int .i64 0) := by rw [hcW _ _ (by simp; try omega)]; simp [go_sem]
    have z4 : w4.cell? ⟨w.heap.size, 4, none⟩ = some (.bool false) := by rw [hcW _ _ (by simp; try omega)]; simp [go_sem]
    have z5 : w4.cell? ⟨w.heap.size, 5, none⟩ = some (.bool false) := by rw [hcW _ _ (by simp; try omega)]; simp [go_sem]
    have z6 : w4.cell? ⟨w.heap.size, 6, none⟩ = some (.int .i64 0) := by rw [hcW _ _ (by simp; try omega)]; simp [go_sem]
    have z7 : w4.cell? ⟨w.heap.size, 7, none⟩ = some (.int .i64 0) := by rw [hcW _ _ (by simp; try omega)]; simp [go_sem]
    have z8 : w4.cell? ⟨w.heap.size, 8, none⟩ = some (.int .i64 0) := by rw [hcW _ _ (by simp; try omega)]; simp [go_sem]
    have z9 : w4.cell? ⟨w.heap.size, 9, none⟩ = some (.int .i64 0) := by rw [hcW _ _ (by simp; try omega)]; simp [go_sem]
    have z10 : w4.cell? ⟨w.heap.size, 10, none⟩ = some (.bool false) := by rw [hcW _ _ (by simp; try omega)]; simp [go_sem]
    have u0 : w4.cell? ⟨w.heap.size + 1, 0, none⟩ = some (.int .i64 0) := by rw [hcW _ _ (by simp; try omega)]; simp [go_sem]
    have u1 : w4.cell? ⟨w.heap.size + 1, 1, none⟩ = some (.int .i64 0) := by rw [hcW _ _ (by simp; try omega)]; simp [go_sem]
    have u2 : w4.cell? ⟨w.heap.size + 1, 2, none⟩ = some (.int .i64 0) := by rw [hcW _ _ (by simp; try omega)]; simp [go_sem]
    have u3 : w4.cell? ⟨w.heap.size + 1, 3, none⟩ = some (.int .i64 0) := by rw [hcW _ _ (by simp; try omega)]; simp [go_sem]
    have u4 : w4.cell? ⟨w.heap.size + 1, 4, none⟩ = some (.int .i64 0) := by rw [hcW _ _ (by simp; try omega)]; simp [go_sem]
    have u5 : w4.cell? ⟨w.heap.size + 1, 5, none⟩ = some (.int .i64 0) := by rw [hcW _ _ (by simp; try omega)]; simp [go_sem]
    have u6 : w4.cell? ⟨w.heap.size + 1, 6, none⟩ = some (.slice none 0 0) := by rw [hcW _ _ (by simp; try omega)]; simp [go_sem]
    have f0 := fo 0
    have f1 := fo 1
    have f2 := fo 2
    have f3 := fo 3
    have f4 := fo 4
    have f5 := fo 5
    have f6 := fo 6
    have f7 := fo 7
    have f8 := fo 8
    have f9 := fo 9
    have f10 := fo 10
    have g0 := fc 0
    have g1 := fc 1
    have g2 := fc 2
    have g3 := fc 3
    have g4 := fc 4
    have g5 := fc 5
    have g6 := fc 6
    clear hcW hfW fo fc
    clear hb4 hb44 hbx
    dsimp only
    rw [hkind]
    have n1 : ¬ w1.heap.size = w.heap.size := by have := HSZ.out; omega
    have n2 : ¬ w2.heap.size = w.heap.size := by have := HSZ.out; omega
    have n3 : ¬ w1.heap.size = w.heap.size + 1 := by have := HSZ.out; omega
    have n4 : ¬ w2.heap.size = w.heap.size + 1 := by have := HSZ.out; omega
    have n5 : ¬ w.heap.size = w1.heap.size := by have := HSZ.out; omega
    have n6 : ¬ w.heap.size = w2.heap.size := by have := HSZ.out; omega
    have n7 : ¬ w.heap.size + 1 = w1.heap.size := by have := HSZ.out; omega
    have n8 : ¬ w.heap.size + 1 = w2.heap.size := by have := HSZ.out; omega
    go_wp2
    go_region
    all_goals
      go_wp2
      refine bodyPost_ret (by simp [results, Tryz.results43, go_sem, z0, z1, z2, z3, z4, z5, z6, z7, z8, z9, z10, u0, u1, u2, u3, u4, u5, u6]; try first | rfl | exact ⟨rfl, rfl⟩) rfl ⟨xa, xc, rfl, ?_⟩
      exact ((((((((((((((((((HB4.out.setCell (Nat.le_refl _) _).setCell (Nat.le_refl _) _).setCell (Nat.le_refl _) _).setCell (Nat.le_refl _) _).setCell (Nat.le_refl _) _).setCell (Nat.le_refl _) _).setCell (Nat.le_refl _) _).setCell (Nat.le_refl _) _).setCell (Nat.le_refl _) _).setCell (Nat.le_refl _) _).setCell (Nat.le_refl _) _).setCell (Nat.le_succ _) _).setCell (Nat.le_succ _) _).setCell (Nat.le_succ _) _).setCell (Nat.le_succ _) _).setCell (Nat.le_succ _) _).setCell (Nat.le_succ _) _).setCell (Nat.le_succ _) _).drew
  · by_cases hz : x3 = 3
    · subst hz
      have hkind : ([2] : List Int).contains d0 = false := by
        have : d0 ≠ 2 := fun e => hno ⟨rfl, e⟩
        simp [this]
      clear hno
      go_enter Tryz.func43, Tryz.ntmps43
      go_wp2_with fail
      refine (HG.out _ (below_alloc2 (below_new w _) _)).mono ?_
      rintro e w1 ⟨rfl, hb1⟩
      have HB1 := Lib.hid (below_alloc2 (stepB (below_alloc2 (below_new w _) _) hb1) (.cells #[.int .i64 x0, .int .i64 x1, .int .i64 x2, .int .i64 3, .bool x4, .bool x5, .int .i64 x6, .int .i64 x7, .int .i64 x8, .int .i64 x9, .bool x10] 30))
      obtain ⟨W1, hW1⟩ : ∃ W, w1.alloc (.cells #[.int .i64 x0, .int .i64 x1, .int .i64 x2, .int .i64 3, .bool x4, .bool x5, .int .i64 x6, .int .i64 x7, .int .i64 x8, .int .i64 x9, .bool x10] 30) = W := ⟨_, rfl⟩
      have hbq1 := hW1 ▸ below_alloc2 hb1 (.cells #[.int .i64 x0, .int .i64 x1, .int .i64 x2, .int .i64 3, .bool x4, .bool x5, .int .i64 x6, .int .i64 x7, .int .i64 x8, .int .i64 x9, .bool x10] 30)
      rw [hW1] at HB1
      have HK1 := Lib.hid (show ∀ j, W1.cell? ⟨w1.heap.size, j, none⟩ = (#[.int .i64 x0, .int .i64 x1, .int .i64 x2, .int .i64 3, .bool x4, .bool x5, .int .i64 x6, .int .i64 x7, .int .i64 x8, .int .i64 x9, .bool x10] : Array Value)[j]? from fun j => by rw [← hW1]; exact cell_of_row _ _ j _ _ (0, 0) (heap_alloc_new w1 _))
      obtain ⟨q, hq⟩ : ∃ q, w1.heap.size = q := ⟨_, rfl⟩
      rw [hq] at HK1
      have HBQ := Lib.hid hbq1
      have HSZ0 := Lib.hid (show w.heap.size + 2 ≤ w1.heap.size by have := hb1.size; simpa using this)
      clear hb1 hbq1
      subst hW1 hq
      dsimp only
      go_wp2_with fail
      refine (HC.out _ HB1.out).mono ?_
      rintro e w2 ⟨xa, xc, rfl, _, hb2⟩
      have HB2 := Lib.hid (below_alloc2 (stepB HB1.out hb2) (.cells #[.int .i64 d0, .int .i64 d1, .int .i64 d2, .int .i64 d3, .int .i64 d4, .int .i64 d5, .slice xa dt.length xc] 65))
      have HSZ := Lib.hid (show w.heap.size + 2 ≤ w1.heap.size ∧ w1.heap.size + 1 ≤ w2.heap.size from ⟨HSZ0.out, by have := hb2.size; simpa using this⟩)
      have hbx := below_alloc2 (stepB HBQ.out hb2) (.cells #[.int .i64 d0, .int .i64 d1, .int .i64 d2, .int .i64 d3, .int .i64 d4, .int .i64 d5, .slice xa dt.length xc] 65)
      have hb22 := below_alloc2 hb2 (.cells #[.int .i64 d0, .int .i64 d1, .int .i64 d2, .int .i64 d3, .int .i64 d4, .int .i64 d5, .slice xa dt.length xc] 65)
      obtain ⟨W, hW⟩ : ∃ W, w2.alloc (.cells #[.int .i64 d0, .int .i64 d1, .int .i64 d2, .int .i64 d3, .int .i64 d4, .int .i64 d5, .slice xa dt.length xc] 65) = W := ⟨_, rfl⟩
      rw [hW] at hbx HB2 hb22
      have HK2 := Lib.hid (show ∀ j, W.cell? ⟨w2.heap.size, j, none⟩ = (#[.int .i64 d0, .int .i64 d1, .int .i64 d2, .int .i64 d3, .int .i64 d4, .int .i64 d5, .slice xa dt.length xc] : Array Value)[j]? from fun j => by rw [← hW]; exact cell_of_row _ _ j _ _ (0, 0) (heap_alloc_new w2 _))
      obtain ⟨q2, hq2⟩ : ∃ q, w2.heap.size = q := ⟨_, rfl⟩
      rw [hq2] at HK2
      have p0 : W.cell? ⟨w1.heap.size, 0, none⟩ = some (.int .i64 x0) := cell_stays hb22 (HK1.out 0)
      have p1 : W.cell? ⟨w1.heap.size, 1, none⟩ = some (.int .i64 x1) := cell_stays hb22 (HK1.out 1)
      have p2 : W.cell? ⟨w1.heap.size, 2, none⟩ = some (.int .i64 x2) := cell_stays hb22 (HK1.out 2)
      have p3 : W.cell? ⟨w1.heap.size, 3, none⟩ = some (.int .i64 3) := cell_stays hb22 (HK1.out 3)
      have p4 : W.cell? ⟨w1.heap.size, 4, none⟩ = some (.bool x4) := cell_stays hb22 (HK1.out 4)
      have p5 : W.cell? ⟨w1.heap.size, 5, none⟩ = some (.bool x5) := cell_stays hb22 (HK1.out 5)
      have p6 : W.cell? ⟨w1.heap.size, 6, none⟩ = some (.int .i64 x6) := cell_stays hb22 (HK1.out 6)
      have p7 : W.cell? ⟨w1.heap.size, 7, none⟩ = some (.int .i64 x7) := cell_stays hb22 (HK1.out 7)
      have p8 : W.cell? ⟨w1.heap.size, 8, none⟩ = some (.int .i64 x8) := cell_stays hb22 (HK1.out 8)
      have p9 : W.cell? ⟨w1.heap.size, 9, none⟩ = some (.int .i64 x9) := cell_stays hb22 (HK1.out 9)
      have p10 : W.cell? ⟨w1.heap.size, 10, none⟩ = some (.bool x10) := cell_stays hb22 (HK1.out 10)
      have r0 : W.cell? ⟨q2, 0, none⟩ = some (.int .i64 d0) := HK2.out 0
      have r1 : W.cell? ⟨q2, 1, none⟩ = some (.int .i64 d1) := HK2.out 1
      have r2 : W.cell? ⟨q2, 2, none⟩ = some (.int .i64 d2) := HK2.out 2
      have r3 : W.cell? ⟨q2, 3, none⟩ = some (.int .i64 d3) := HK2.out 3
      have r4 : W.cell? ⟨q2, 4, none⟩ = some (.int .i64 d4) := HK2.out 4
      have r5 : W.cell? ⟨q2, 5, none⟩ = some (.int .i64 d5) := HK2.out 5
      have r6 : W.cell? ⟨q2, 6, none⟩ = some (.slice xa dt.length xc) := HK2.out 6
      clear hb22
      have HBX := Lib.hid hbx
      clear hb2 hbx
      subst hW hq2
      dsimp only
      go_wp2_with fail
      refine (HI.out _ _ _ _ _ ?nn).mono ?_
      case nn =>
        refine .inr ⟨_, 0, 1, rfl, by simp, fun i hi => ?_⟩
        obtain rfl : i = 0 := by simp at hi; omega
        simp [go_sem]
      rintro e w4 ⟨rfl, hb4⟩
      have hbx := stepB (below_alloc2 HBX.out (.cells #[.int .i64 2] 3)) hb4
      have HB4 := Lib.hid (stepB (below_alloc2 HB2.out (.cells #[.int .i64 2] 3)) hb4)
      have hb44 := stepB (below_new _ (.cells #[.int .i64 2] 3)) hb4
      replace p0 := cell_stays hb44 p0
      replace p1 := cell_stays hb44 p1
      replace p2 := cell_stays hb44 p2
      replace p3 := cell_stays hb44 p3
      replace p4 := cell_stays hb44 p4
      replace p5 := cell_stays hb44 p5
      replace p6 := cell_stays hb44 p6
      replace p7 := cell_stays hb44 p7
      replace p8 := cell_stays hb44 p8
      replace p9 := cell_stays hb44 p9
      replace p10 := cell_stays hb44 p10
      replace r0 := cell_stays hb44 r0
      replace r1 := cell_stays hb44 r1
      replace r2 := cell_stays hb44 r2
      replace r3 := cell_stays hb44 r3
      replace r4 := cell_stays hb44 r4
      replace r5 := cell_stays hb44 r5
      replace r6 := cell_stays hb44 r6
      obtain ⟨hcW, hfW⟩ := Crd.bcell hbx
      have fo : ∀ j, w4.frozen? ⟨w.heap.size, j, none⟩ = false := fun j => by rw [hfW _ _ (by simp; try omega)]; simp [go_sem]
      have fc : ∀ j, w4.frozen? ⟨w.heap.size + 1, j, none⟩ = false := fun j => by rw [hfW _ _ (by simp; try omega)]; simp [go_sem]
      have z0 : w4.cell? ⟨w.heap.size, 0, none⟩ = some (.int .i64 0) := by rw [hcW _ _ (by simp; try omega)]; simp [go_sem]
      have z1 : w4.cell? ⟨w.heap.size, 1, none⟩ = some (.int .i64 0) := by rw [hcW _ _ (by simp; try omega)]; simp [go_sem]
      have z2 : w4.cell? ⟨w.heap.size, 2, none⟩ = some (.int .i64 0) := by rw [hcW _ _ (by simp; try omega)]; simp [go_sem]
      have z3 : w4.cell? ⟨w.heap.size, 3, none⟩ = some (.int .i64 0) := by rw [hcW _ _ (by simp; try omega)]; simp [go_sem]
      have z4 : w4.cell? ⟨w.heap.size, 4, none⟩ = some (.bool false) := by rw [hcW _ _ (by simp; try omega)]; simp [go_sem]
      have z5 : w4.cell? ⟨w.heap.size, 5, none⟩ = some (.bool false) := by rw [hcW _ _ (by simp; try omega)]; simp [go_sem]
      have z6 : w4.cell? ⟨w.heap.size, 6, none⟩ = some (.int .i64 0) := by rw [hcW _ _ (by simp; try omega)]; simp [go_sem]
      have z7 : w4.cell? ⟨w.heap.size, 7, none⟩ = some (.int .i64 0) := by rw [hcW _ _ (by simp; try omega)]; simp [go_sem]
      have z8 : w4.cell? ⟨w.heap.size, 8, none⟩ = some (.int .i64 0) := by rw [hcW _ _ (by simp; try omega)]; simp [go_sem]
      have z9 : w4.cell? ⟨w.heap.size, 9, none⟩ = some (.int .i64 0) := by rw [hcW _ _ (by simp; try omega)]; simp [go_sem]
      have z10 : w4.cell? ⟨w.heap.size, 10, none⟩ = some (.bool false) := by rw [hcW _ _ (by simp; try omega)]; simp [go_sem]
      have u0 : w4.cell? ⟨w.heap.size + 1, 0, none⟩ = some (.int .i64 0) := by rw [hcW _ _ (by simp; try omega)]; simp [go_sem]
      have u1 : w4.cell? ⟨w.heap.size + 1, 1, none⟩ = some (.int .i64 0) := by rw [hcW _ _ (by simp; try omega)]; simp [go_sem]
      have u2 : w4.cell? ⟨w.heap.size + 1, 2, none⟩ = some (.int .i64 0) := by rw [hcW _ _ (by simp; try omega)]; simp [go_sem]
      have u3 : w4.cell? ⟨w.heap.size + 1, 3, none⟩ = some (.int .i64 0) := by rw [hcW _ _ (by simp; try omega)]; simp [go_sem]
      have u4 : w4.cell? ⟨w.heap.size + 1, 4, none⟩ = some (.int .i64 0) := by rw [hcW _ _ (by simp; try omega)]; simp [go_sem]
      have u5 : w4.cell? ⟨w.heap.size + 1, 5, none⟩ = some (.int .i64 0) := by rw [hcW _ _ (by simp; try omega)]; simp [go_sem]
      have u6 : w4.cell? ⟨w.heap.size + 1, 6, none⟩ = some (.slice none 0 0) := by rw [hcW _ _ (by simp; try omega)]; simp [go_sem]
      have f0 := fo 0
      have f1 := fo 1
      have f2 := fo 2
      have f3 := fo 3
      have f4 := fo 4
      have f5 := fo 5
      have f6 := fo 6
      have f7 := fo 7
      have f8 := fo 8
      have f9 := fo 9
      have f10 := fo 10
      have g0 := fc 0
      have g1 := fc 1
      have g2 := fc 2
      have g3 := fc 3
      have g4 := fc 4
      have g5 := fc 5
      have g6 := fc 6
      clear hcW hfW fo fc
      clear hb4 hb44 hbx
      dsimp only
      rw [hkind]
      go_wp2
      refine bodyPost_ret (by simp [results, Tryz.results43, go_sem, z0, z1, z2, z3, z4, z5, z6, z7, z8, z9, z10, u0, u1, u2, u3, u4, u5, u6, zeroO, zeroC]; try first | rfl | exact ⟨rfl, rfl⟩) rfl ⟨none, 0, rfl, ?_⟩
      have hb := HB4.out
      repeat' apply Below.setCell
      all_goals first | exact hb | simp
    · have hz3 : (x3 != 3) = true := bne_iff_ne.2 hz
      clear hno hz
      go_enter Tryz.func43, Tryz.ntmps43
      go_wp2_with fail
      refine (HG.out _ (below_alloc2 (below_new w _) _)).mono ?_
      rintro e w1 ⟨rfl, hb1⟩
      have HB1 := Lib.hid (below_alloc2 (stepB (below_alloc2 (below_new w _) _) hb1) (.cells #[.int .i64 x0, .int .i64 x1, .int .i64 x2, .int .i64 x3, .bool x4, .bool x5, .int .i64 x6, .int .i64 x7, .int .i64 x8, .int .i64 x9, .bool x10] 30))
      obtain ⟨W1, hW1⟩ : ∃ W, w1.alloc (.cells #[.int .i64 x0, .int .i64 x1, .int .i64 x2, .int .i64 x3, .bool x4, .bool x5, .int .i64 x6, .int .i64 x7, .int .i64 x8, .int .i64 x9, .bool x10] 30) = W := ⟨_, rfl⟩
      have hbq1 := hW1 ▸ below_alloc2 hb1 (.cells #[.int .i64 x0, .int .i64 x1, .int .i64 x2, .int .i64 x3, .bool x4, .bool x5, .int .i64 x6, .int .i64 x7, .int .i64 x8, .int .i64 x9, .bool x10] 30)
      rw [hW1] at HB1
      have HK1 := Lib.hid (show ∀ j, W1.cell? ⟨w1.heap.size, j, none⟩ = (#[.int .i64 x0, .int .i64 x1, .int .i64 x2, .int .i64 x3, .bool x4, .bool x5, .int .i64 x6, .int .i64 x7, .int .i64 x8, .int .i64 x9, .bool x10] : Array Value)[j]? from fun j => by rw [← hW1]; exact cell_of_row _ _ j _ _ (0, 0) (heap_alloc_new w1 _))
      obtain ⟨q, hq⟩ : ∃ q, w1.heap.size = q := ⟨_, rfl⟩
      rw [hq] at HK1
      have HBQ := Lib.hid hbq1
      have HSZ0 := Lib.hid (show w.heap.size + 2 ≤ w1.heap.size by have := hb1.size; simpa using this)
      clear hb1 hbq1
      subst hW1 hq
      dsimp only
      go_wp2_with fail
      refine (HC.out _ HB1.out).mono ?_
      rintro e w2 ⟨xa, xc, rfl, _, hb2⟩
      have HB2 := Lib.hid (below_alloc2 (stepB HB1.out hb2) (.cells #[.int .i64 d0, .int .i64 d1, .int .i64 d2, .int .i64 d3, .int .i64 d4, .int .i64 d5, .slice xa dt.length xc] 65))
      have HSZ := Lib.hid (show w.heap.size + 2 ≤ w1.heap.size ∧ w1.heap.size + 1 ≤ w2.heap.size from ⟨HSZ0.out, by have := hb2.size; simpa using this⟩)
      have hbx := below_alloc2 (stepB HBQ.out hb2) (.cells #[.int .i64 d0, .int .i64 d1, .int .i64 d2, .int .i64 d3, .int .i64 d4, .int .i64 d5, .slice xa dt.length xc] 65)
      have hb22 := below_alloc2 hb2 (.cells #[.int .i64 d0, .int .i64 d1, .int .i64 d2, .int .i64 d3, .int .i64 d4, .int .i64 d5, .slice xa dt.length xc] 65)
      obtain ⟨W, hW⟩ : ∃ W, w2.alloc (.cells #[.int .i64 d0, .int .i64 d1, .int .i64 d2, .int .i64 d3, .int .i64 d4, .int .i64 d5, .slice xa dt.length xc] 65) = W := ⟨_, rfl⟩
      rw [hW] at hbx HB2 hb22
      have HK2 := Lib.hid (show ∀ j, W.cell? ⟨w2.heap.size, j, none⟩ = (#[.int .i64 d0, .int .i64 d1, .int .i64 d2, .int .i64 d3, .int .i64 d4, .int .i64 d5, .slice xa dt.length xc] : Array Value)[j]? from fun j => by rw [← hW]; exact cell_of_row _ _ j _ _ (0, 0) (heap_alloc_new w2 _))
      obtain ⟨q2, hq2⟩ : ∃ q, w2.heap.size = q := ⟨_, rfl⟩
      rw [hq2] at HK2
      have p0 : W.cell? ⟨w1.heap.size, 0, none⟩ = some (.int .i64 x0) := cell_stays hb22 (HK1.out 0)
      have p1 : W.cell? ⟨w1.heap.size, 1, none⟩ = some (.int .i64 x1) := cell_stays hb22 (HK1.out 1)
      have p2 : W.cell? ⟨w1.heap.size, 2, none⟩ = some (.int .i64 x2) := cell_stays hb22 (HK1.out 2)
      have p3 : W.cell? ⟨w1.heap.size, 3, none⟩ = some (.int .i64 x3) := cell_stays hb22 (HK1.out 3)
      have p4 : W.cell? ⟨w1.heap.size, 4, none⟩ = some (.bool x4) := cell_stays hb22 (HK1.out 4)
      have p5 : W.cell? ⟨w1.heap.size, 5, none⟩ = some (.bool x5) := cell_stays hb22 (HK1.out 5)
      have p6 : W.cell? ⟨w1.heap.size, 6, none⟩ = some (.int .i64 x6) := cell_stays hb22 (HK1.out 6)
      have p7 : W.cell? ⟨w1.heap.size, 7, none⟩ = some (.int .i64 x7) := cell_stays hb22 (HK1.out 7)
      have p8 : W.cell? ⟨w1.heap.size, 8, none⟩ = some (.int .i64 x8) := cell_stays hb22 (HK1.out 8)
      have p9 : W.cell? ⟨w1.heap.size, 9, none⟩ = some (.int .i64 x9) := cell_stays hb22 (HK1.out 9)
      have p10 : W.cell? ⟨w1.heap.size, 10, none⟩ = some (.bool x10) := cell_stays hb22 (HK1.out 10)
      have r0 : W.cell? ⟨q2, 0, none⟩ = some (.int .i64 d0) := HK2.out 0
      have r1 : W.cell? ⟨q2, 1, none⟩ = some (.int .i64 d1) := HK2.out 1
      have r2 : W.cell? ⟨q2, 2, none⟩ = some (.int .i64 d2) := HK2.out 2
      have r3 : W.cell? ⟨q2, 3, none⟩ = some (.int .i64 d3) := HK2.out 3
      have r4 : W.cell? ⟨q2, 4, none⟩ = some (.int .i64 d4) := HK2.out 4
      have r5 : W.cell? ⟨q2, 5, none⟩ = some (.int .i64 d5) := HK2.out 5
      have r6 : W.cell? ⟨q2, 6, none⟩ = some (.slice xa dt.length xc) := HK2.out 6
      clear hb22
      obtain ⟨hcW, hfW⟩ := Crd.bcell hbx
      have fo : ∀ j, W.frozen? ⟨w.heap.size, j, none⟩ = false := fun j => by rw [hfW _ _ (by simp; try omega)]; simp [go_sem]
      have fc : ∀ j, W.frozen? ⟨w.heap.size + 1, j, none⟩ = false := fun j => by rw [hfW _ _ (by simp; try omega)]; simp [go_sem]
      have z0 : W.cell? ⟨w.heap.size, 0, none⟩ = some (.int .i64 0) := by rw [hcW _ _ (by simp; try omega)]; simp [go_sem]
      have z1 : W.cell? ⟨w.heap.size, 1, none⟩ = some (.int .i64 0) := by rw [hcW _ _ (by simp; try omega)]; simp [go_sem]
      have z2 : W.cell? ⟨w.heap.size, 2, none⟩ = some (.int .i64 0) := by rw [hcW _ _ (by simp; try omega)]; simp [go_sem]
      have z3 : W.cell? ⟨w.heap.size, 3, none⟩ = some (.int .i64 0) := by rw [hcW _ _ (by simp; try omega)]; simp [go_sem]
      have z4 : W.cell? ⟨w.heap.size, 4, none⟩ = some (.bool false) := by rw [hcW _ _ (by simp; try omega)]; simp [go_sem]
      have z5 : W.cell? ⟨w.heap.size, 5, none⟩ = some (.bool false) := by rw [hcW _ _ (by simp; try omega)]; simp [go_sem]
      have z6 : W.cell? ⟨w.heap.size, 6, none⟩ = some (.int .i64 0) := by rw [hcW _ _ (by simp; try omega)]; simp [go_sem]
      have z7 : W.cell? ⟨w.heap.size, 7, none⟩ = some (.int .i64 0) := by rw [hcW _ _ (by simp; try omega)]; simp [go_sem]
      have z8 : W.cell? ⟨w.heap.size, 8, none⟩ = some (.int .i64 0) := by rw [hcW _ _ (by simp; try omega)]; simp [go_sem]
      have z9 : W.cell? ⟨w.heap.size, 9, none⟩ = some (.int .i64 0) := by rw [hcW _ _ (by simp; try omega)]; simp [go_sem]
      have z10 : W.cell? ⟨w.heap.size, 10, none⟩ = some (.bool false) := by rw [hcW _ _ (by simp; try omega)]; simp [go_sem]
      have u0 : W.cell? ⟨w.heap.size + 1, 0, none⟩ = some (.int .i64 0) := by rw [hcW _ _ (by simp; try omega)]; simp [go_sem]
      have u1 : W.cell? ⟨w.heap.size + 1, 1, none⟩ = some (.int .i64 0) := by rw [hcW _ _ (by simp; try omega)]; simp [go_sem]
      have u2 : W.cell? ⟨w.heap.size + 1, 2, none⟩ = some (.int .i64 0) := by rw [hcW _ _ (by simp; try omega)]; simp [go_sem]
      have u3 : W.cell? ⟨w.heap.size + 1, 3, none⟩ = some (.int .i64 0) := by rw [hcW _ _ (by simp; try omega)]; simp [go_sem]
      have u4 : W.cell? ⟨w.heap.size + 1, 4, none⟩ = some (.int .i64 0) := by rw [hcW _ _ (by simp; try omega)]; simp [go_sem]
      have u5 : W.cell? ⟨w.heap.size + 1, 5, none⟩ = some (.int .i64 0) := by rw [hcW _ _ (by simp; try omega)]; simp [go_sem]
      have u6 : W.cell? ⟨w.heap.size + 1, 6, none⟩ = some (.slice none 0 0) := by rw [hcW _ _ (by simp; try omega)]; simp [go_sem]
      have f0 := fo 0
      have f1 := fo 1
      have f2 := fo 2
      have f3 := fo 3
      have f4 := fo 4
      have f5 := fo 5
      have f6 := fo 6
      have f7 := fo 7
      have f8 := fo 8
      have f9 := fo 9
      have f10 := fo 10
      have g0 := fc 0
      have g1 := fc 1
      have g2 := fc 2
      have g3 := fc 3
      have g4 := fc 4
      have g5 := fc 5
      have g6 := fc 6
      clear hcW hfW fo fc
      clear hb2 hbx
      go_wp2
      refine bodyPost_ret (by simp [results, Tryz.results43, go_sem, z0, z1, z2, z3, z4, z5, z6, z7, z8, z9, z10, u0, u1, u2, u3, u4, u5, u6, zeroO, zeroC]; try first | rfl | exact ⟨rfl, rfl⟩) rfl ⟨none, 0, rfl, ?_⟩
      have hb := HB2.out
      repeat' apply Below.setCell
      all_goals first | exact hb | simp
set_option maxRecDepth 100000 in
set_option maxHeartbeats 4000000 in
theorem live_of {w : World} {p : Option Addr} {i n : Int} {o : ObjL} {c : Crd.CardL} (h : Calls Tryz.prog 43 #[.pointer p, .int .i64 i] w (RetCre w o c n)) :
    Calls Tryz.prog 62 #[.pointer p, .int .i64 i] w (RetV w (.bool (n == 0))) := by
  have H := Lib.hid h
  obtain ⟨x0, x1, x2, x3, x4, x5, x6, x7, x8, x9, x10⟩ := o
  obtain ⟨d0, d1, d2, d3, d4, d5, dt⟩ := c
  unfold RetCre Crd.cagg oagg at H
  dsimp only at H ⊢
  clear h
  go_enter Tryz.func62, Tryz.ntmps62
  go_wp2_with fail
  refine H.out.mono ?_
  rintro e w1 ⟨xa, xc, rfl, hb1⟩
  dsimp only
  go_wp2
  go_ret
  exact ⟨rfl, below_alloc2 (below_alloc2 hb1 _) _⟩
end Go.Proofs.YtjgjhfeopmakaaaGreat
namespace Go.Proofs.YtjgjhfeopmakaaaGreat
open Go.RowKit Go.Maps

def hurtO (o : ObjL) (n : Int) : ObjL := ⟨o.id, o.card, o.owner, o.zone, o.tapped, o.sick, raiseZ o.hurt n, o.count, o.boost, o.block, o.attacks⟩
def countO (o : ObjL) (n : Int) : ObjL := ⟨o.id, o.card, o.owner, o.zone, o.tapped, o.sick, o.hurt, addZ o.count n, o.boost, o.block, o.attacks⟩
def boostO (o : ObjL) (n : Int) : ObjL := ⟨o.id, o.card, o.owner, o.zone, o.tapped, o.sick, o.hurt, o.count, addZ o.boost n, o.block, o.attacks⟩
set_option maxRecDepth 100000 in
set_option maxHeartbeats 4000000 in
theorem hurtFn {w : World} {q g : Nat} {h n : Int} (hq : w.cell? ⟨q, 6, none⟩ = some (.int .i64 h)) (hf : w.frozen? ⟨q, 6, none⟩ = false) (hg : w.cell? ⟨g, 0, none⟩ = some (.int .i64 n)) :
    Calls Tryz.prog 109 #[.pointer (some ⟨q, 0, none⟩), .pointer (some ⟨g, 0, none⟩)] w (fun e w' => e = .returned (.tuple #[]) ∧ w' = (w.setCell ⟨q, 6, none⟩ (.int .i64 (raiseZ h n))).drew) := by
  have HC := Lib.hid (raise_any h n)
  go_enter Tryz.func109, Tryz.ntmps109
  go_wp2
  go_region_with ((go_at_call 80; refine (HC.out _).mono ?_; rintro e w1 ⟨rfl, rfl⟩; dsimp only))
  all_goals
    go_wp2
    exact bodyPost_end (v := .tuple #[]) (by simp [results, Tryz.results109, go_sem]) rfl ⟨rfl, rfl⟩
set_option maxRecDepth 100000 in
set_option maxHeartbeats 4000000 in
theorem change_out {w : World} {p : Option Addr} {i n : Int} {f : Value} (hn : n ≠ 0) (h : Calls Tryz.prog 43 #[.pointer p, .int .i64 i] w (RetCre w zeroO zeroC n)) :
    Calls Tryz.prog 108 #[.pointer p, .int .i64 i, f] w (RetV w (.int .i64 n)) := by
  have H := Lib.hid h
  have e0 : (n != 0) = true := bne_iff_ne.2 hn
  unfold RetCre Crd.cagg oagg zeroO zeroC at H
  dsimp only at H
  clear h hn
  go_enter Tryz.func108, Tryz.ntmps108
  go_wp2_with fail
  refine H.out.mono ?_
  rintro e w1 ⟨xa, xc, rfl, hb1⟩
  dsimp only
  go_wp2
  go_ret
  exact ⟨rfl, below_alloc2 (below_alloc2 hb1 _) _⟩
set_option maxRecDepth 100000 in
set_option maxHeartbeats 4000000 in
theorem change_hurt {w : World} {lo b : Nat} {G : Ghost} {S : StoreL} (h : StoreAt w lo b G S) (hS : S.objs.length ≤ 1000) (k m : Nat) (hk : k < S.objs.length) (hm : m < S.T.length) (hc : S.objs[k].card = m) (hz : S.objs[k].zone = 3) (hd : S.T[m].kind = 2)
    (hi : S.objs[k].id = (k : Int) + 1) (g : Nat) (n : Int) (hg : w.cell? ⟨g, 0, none⟩ = some (.int .i64 n)) :
    Calls Tryz.prog 108 #[.pointer (some ⟨b, 0, none⟩), .int .i64 ((k : Int) + 1), .func (.func 109) #[] #[.pointer (some ⟨g, 0, none⟩)]] w (RetS w lo b G (setL S k (hurtO S.objs[k] n)) (.int .i64 0)) := by
  have HC := Lib.hid ((creature_in h hS k m hk hm hc).1 hz hd)
  have HF := Lib.hid (fun (w' : World) (q : Nat) (x : Int) => @hurtFn w' q g x n)
  obtain ⟨x, hx⟩ : ∃ x, S.objs[k] = x := ⟨_, rfl⟩
  have HST := Lib.hid (fun (w' : World) (hb : Below w.heap.size w w') (y : ObjL) (h0 : y.id = (k : Int) + 1) (h1 : y.card = x.card) (h2 : y.owner = x.owner) (h3 : y.zone = x.zone) =>
    set_any (h.later hb) hS k hk y h0 (h1.trans (by rw [hx])) (h2.trans (by rw [hx])) (h3.trans (by rw [hx])))
  obtain ⟨c, hcq⟩ : ∃ c, S.T[m] = c := ⟨_, rfl⟩
  rw [hcq] at HC
  rw [hx] at HC hz hi ⊢
  obtain ⟨x0, x1, x2, x3, x4, x5, x6, x7, x8, x9, x10⟩ := x
  obtain ⟨d0, d1, d2, d3, d4, d5, dt⟩ := c
  dsimp only at hz hi
  subst hz hi
  unfold RetCre Crd.cagg oagg at HC
  unfold setL hurtO
  dsimp only at HC ⊢
  have HG := Lib.hid hg
  clear h hx hS hcq hc hd hm hg
  go_enter Tryz.func108, Tryz.ntmps108
  go_wp2_with fail
  refine HC.out.mono ?_
  rintro e w1 ⟨xa, xc, rfl, hb1⟩
  have HB1 := Lib.hid hb1
  have kg := cell_stays (stepB (stepB hb1 (below_new w1 (.cells #[.int .i64 ((k : Int) + 1), .int .i64 x1, .int .i64 x2, .int .i64 3, .bool x4, .bool x5, .int .i64 x6, .int .i64 x7, .int .i64 x8, .int .i64 x9, .bool x10] 30))) (below_new _ (.cells #[.int .i64 d0, .int .i64 d1, .int .i64 d2, .int .i64 d3, .int .i64 d4, .int .i64 d5, .slice xa dt.length xc] 65))) HG.out
  have p0 : ((w1.alloc (.cells #[.int .i64 ((k : Int) + 1), .int .i64 x1, .int .i64 x2, .int .i64 3, .bool x4, .bool x5, .int .i64 x6, .int .i64 x7, .int .i64 x8, .int .i64 x9, .bool x10] 30)).alloc (.cells #[.int .i64 d0, .int .i64 d1, .int .i64 d2, .int .i64 d3, .int .i64 d4, .int .i64 d5, .slice xa dt.length xc] 65)).cell? ⟨w1.heap.size, 0, none⟩ = some (.int .i64 ((k : Int) + 1)) := by simp [go_sem]
  have p1 : ((w1.alloc (.cells #[.int .i64 ((k : Int) + 1), .int .i64 x1, .int .i64 x2, .int .i64 3, .bool x4, .bool x5, .int .i64 x6, .int .i64 x7, .int .i64 x8, .int .i64 x9, .bool x10] 30)).alloc (.cells #[.int .i64 d0, .int .i64 d1, .int .i64 d2, .int .i64 d3, .int .i64 d4, .int .i64 d5, .slice xa dt.length xc] 65)).cell? ⟨w1.heap.size, 1, none⟩ = some (.int .i64 x1) := by simp [go_sem]
  have p2 : ((w1.alloc (.cells #[.int .i64 ((k : Int) + 1), .int .i64 x1, .int .i64 x2, .int .i64 3, .bool x4, .bool x5, .int .i64 x6, .int .i64 x7, .int .i64 x8, .int .i64 x9, .bool x10] 30)).alloc (.cells #[.int .i64 d0, .int .i64 d1, .int .i64 d2, .int .i64 d3, .int .i64 d4, .int .i64 d5, .slice xa dt.length xc] 65)).cell? ⟨w1.heap.size, 2, none⟩ = some (.int .i64 x2) := by simp [go_sem]
  have p3 : ((w1.alloc (.cells #[.int .i64 ((k : Int) + 1), .int .i64 x1, .int .i64 x2, .int .i64 3, .bool x4, .bool x5, .int .i64 x6, .int .i64 x7, .int .i64 x8, .int .i64 x9, .bool x10] 30)).alloc (.cells #[.int .i64 d0, .int .i64 d1, .int .i64 d2, .int .i64 d3, .int .i64 d4, .int .i64 d5, .slice xa dt.length xc] 65)).cell? ⟨w1.heap.size, 3, none⟩ = some (.int .i64 3) := by simp [go_sem]
  have p4 : ((w1.alloc (.cells #[.int .i64 ((k : Int) + 1), .int .i64 x1, .int .i64 x2, .int .i64 3, .bool x4, .bool x5, .int .i64 x6, .int .i64 x7, .int .i64 x8, .int .i64 x9, .bool x10] 30)).alloc (.cells #[.int .i64 d0, .int .i64 d1, .int .i64 d2, .int .i64 d3, .int .i64 d4, .int .i64 d5, .slice xa dt.length xc] 65)).cell? ⟨w1.heap.size, 4, none⟩ = some (.bool x4) := by simp [go_sem]
  have p5 : ((w1.alloc (.cells #[.int .i64 ((k : Int) + 1), .int .i64 x1, .int .i64 x2, .int .i64 3, .bool x4, .bool x5, .int .i64 x6, .int .i64 x7, .int .i64 x8, .int .i64 x9, .bool x10] 30)).alloc (.cells #[.int .i64 d0, .int .i64 d1, .int .i64 d2, .int .i64 d3, .int .i64 d4, .int .i64 d5, .slice xa dt.length xc] 65)).cell? ⟨w1.heap.size, 5, none⟩ = some (.bool x5) := by simp [go_sem]
  have p6 : ((w1.alloc (.cells #[.int .i64 ((k : Int) + 1), .int .i64 x1, .int .i64 x2, .int .i64 3, .bool x4, .bool x5, .int .i64 x6, .int .i64 x7, .int .i64 x8, .int .i64 x9, .bool x10] 30)).alloc (.cells #[.int .i64 d0, .int .i64 d1, .int .i64 d2, .int .i64 d3, .int .i64 d4, .int .i64 d5, .slice xa dt.length xc] 65)).cell? ⟨w1.heap.size, 6, none⟩ = some (.int .i64 x6) := by simp [go_sem]
  have p7 : ((w1.alloc (.cells #[.int .i64 ((k : Int) + 1), .int .i64 x1, .int .i64 x2, .int .i64 3, .bool x4, .bool x5, .int .i64 x6, .int .i64 x7, .int .i64 x8, .int .i64 x9, .bool x10] 30)).alloc (.cells #[.int .i64 d0, .int .i64 d1, .int .i64 d2, .int .i64 d3, .int .i64 d4, .int .i64 d5, .slice xa dt.length xc] 65)).cell? ⟨w1.heap.size, 7, none⟩ = some (.int .i64 x7) := by simp [go_sem]
  have p8 : ((w1.alloc (.cells #[.int .i64 ((k : Int) + 1), .int .i64 x1, .int .i64 x2, .int .i64 3, .bool x4, .bool x5, .int .i64 x6, .int .i64 x7, .int .i64 x8, .int .i64 x9, .bool x10] 30)).alloc (.cells #[.int .i64 d0, .int .i64 d1, .int .i64 d2, .int .i64 d3, .int .i64 d4, .int .i64 d5, .slice xa dt.length xc] 65)).cell? ⟨w1.heap.size, 8, none⟩ = some (.int .i64 x8) := by simp [go_sem]
  have p9 : ((w1.alloc (.cells #[.int .i64 ((k : Int) + 1), .int .i64 x1, .int .i64 x2, .int .i64 3, .bool x4, .bool x5, .int .i64 x6, .int .i64 x7, .int .i64 x8, .int .i64 x9, .bool x10] 30)).alloc (.cells #[.int .i64 d0, .int .i64 d1, .int .i64 d2, .int .i64 d3, .int .i64 d4, .int .i64 d5, .slice xa dt.length xc] 65)).cell? ⟨w1.heap.size, 9, none⟩ = some (.int .i64 x9) := by simp [go_sem]
  have p10 : ((w1.alloc (.cells #[.int .i64 ((k : Int) + 1), .int .i64 x1, .int .i64 x2, .int .i64 3, .bool x4, .bool x5, .int .i64 x6, .int .i64 x7, .int .i64 x8, .int .i64 x9, .bool x10] 30)).alloc (.cells #[.int .i64 d0, .int .i64 d1, .int .i64 d2, .int .i64 d3, .int .i64 d4, .int .i64 d5, .slice xa dt.length xc] 65)).cell? ⟨w1.heap.size, 10, none⟩ = some (.bool x10) := by simp [go_sem]
  have pf : ((w1.alloc (.cells #[.int .i64 ((k : Int) + 1), .int .i64 x1, .int .i64 x2, .int .i64 3, .bool x4, .bool x5, .int .i64 x6, .int .i64 x7, .int .i64 x8, .int .i64 x9, .bool x10] 30)).alloc (.cells #[.int .i64 d0, .int .i64 d1, .int .i64 d2, .int .i64 d3, .int .i64 d4, .int .i64 d5, .slice xa dt.length xc] 65)).frozen? ⟨w1.heap.size, 6, none⟩ = false := by simp [go_sem]
  clear hb1
  dsimp only
  go_wp2_with fail
  refine (HF.out _ _ _ p6 pf kg).mono ?_
  rintro e w2 ⟨rfl, rfl⟩
  have HB2 := Lib.hid ((below_alloc2 (below_alloc2 HB1.out (.cells #[.int .i64 ((k : Int) + 1), .int .i64 x1, .int .i64 x2, .int .i64 3, .bool x4, .bool x5, .int .i64 (raiseZ x6 n), .int .i64 x7, .int .i64 x8, .int .i64 x9, .bool x10] 30)) (.cells #[.int .i64 d0, .int .i64 d1, .int .i64 d2, .int .i64 d3, .int .i64 d4, .int .i64 d5, .slice xa dt.length xc] 65)).drew)
  dsimp only
  go_wp2_with fail
  refine (HST.out _ HB2.out ⟨(k : Int) + 1, x1, x2, 3, x4, x5, raiseZ x6 n, x7, x8, x9, x10⟩ rfl rfl rfl rfl).mono ?_
  rintro e w3 ⟨rfl, G', h1, h2⟩
  dsimp only
  go_wp2
  go_ret
  exact ⟨rfl, G', h1, (Turned.of_below HB2.out).trans h2⟩

set_option maxRecDepth 100000 in
set_option maxHeartbeats 4000000 in
theorem hurt_ok {w : World} {lo b : Nat} {G : Ghost} {S : StoreL} (h : StoreAt w lo b G S) (hS : S.objs.length ≤ 1000) (k m : Nat) (hk : k < S.objs.length) (hm : m < S.T.length) (hc : S.objs[k].card = m) (hz : S.objs[k].zone = 3) (hd : S.T[m].kind = 2)
    (hi : S.objs[k].id = (k : Int) + 1) (n : Int) :
    Calls Tryz.prog 88 #[.pointer (some ⟨b, 0, none⟩), .int .i64 ((k : Int) + 1), .int .i64 n] w (RetS w lo b G (setL S k (hurtO S.objs[k] n)) (.int .i64 0)) := by
  have HC := Lib.hid (change_hurt (h.later (below_new w (.cells #[.int .i64 n] 3))) hS k m hk hm hc hz hd hi w.heap.size n (by simp [go_sem]))
  have HB := Lib.hid (Turned.of_below (G := G) (below_new w (.cells #[.int .i64 n] 3)))
  have hmf := @mk_func
  clear h hm hc hz hd hi hS
  go_enter Tryz.func88, Tryz.ntmps88
  go_wp2_with fail
  refine HC.out.mono ?_
  rintro e w1 ⟨rfl, G', h1, h2⟩
  dsimp only
  go_wp2
  go_ret
  exact ⟨rfl, G', h1, HB.out.trans h2⟩
set_option maxRecDepth 100000 in
set_option maxHeartbeats 4000000 in
theorem hurt_out {w : World} {p : Option Addr} {i m n : Int} (hn : m ≠ 0) (h : ∀ w', Below w.heap.size w w' → Calls Tryz.prog 43 #[.pointer p, .int .i64 i] w' (RetCre w' zeroO zeroC m)) :
    Calls Tryz.prog 88 #[.pointer p, .int .i64 i, .int .i64 n] w (RetV w (.int .i64 m)) := by
  have HC := Lib.hid (fun f => change_out (f := f) hn (h _ (below_new w (.cells #[.int .i64 n] 3))))
  have hmf := @mk_func
  clear h hn
  go_enter Tryz.func88, Tryz.ntmps88
  go_wp2_with fail
  refine (HC.out _).mono ?_
  rintro e w1 ⟨rfl, hb1⟩
  dsimp only
  go_wp2
  go_ret
  exact ⟨rfl, stepB (below_new w _) hb1⟩
end Go.Proofs.YtjgjhfeopmakaaaGreat
namespace Go.Proofs.YtjgjhfeopmakaaaGreat
open Go.RowKit Go.Maps
/-- The objects of a list of numbers, of some owners (of all, if none is told). -/
def objOf (S : StoreL) (id : Int) : ObjL := S.objs.getD (id - 1).toNat zeroO

def hasS (S : StoreL) (i : Int) : Prop := 1 ≤ i ∧ i ≤ (S.objs.length : Int)
instance (S : StoreL) (i : Int) : Decidable (hasS S i) := by unfold hasS; infer_instance
def cardS (S : StoreL) (o : ObjL) : Crd.CardL := S.T.getD o.card.toNat zeroC
def liveO (S : StoreL) (o : ObjL) : Bool := o.zone == 3 && (cardS S o).kind == 2
def creE (S : StoreL) (i : Int) : Int := if hasS S i then (if liveO S (objOf S i) then 0 else 10) else 7
def creO (S : StoreL) (i : Int) : ObjL := if creE S i = 0 then objOf S i else zeroO
def creC (S : StoreL) (i : Int) : Crd.CardL := if creE S i = 0 then cardS S (objOf S i) else zeroC
theorem objOf_at {S : StoreL} {k : Nat} (hk : k < S.objs.length) : objOf S ((k : Int) + 1) = S.objs[k] := by
  unfold objOf
  rw [show ((k : Int) + 1 - 1).toNat = k by omega]
  simp [List.getD, hk]
theorem cardS_at {S : StoreL} {o : ObjL} {n : Nat} (hc : o.card = n) (hn : n < S.T.length) : cardS S o = S.T[n] := by
  unfold cardS
  rw [hc]
  simp [List.getD, hn]
theorem creE_live {S : StoreL} {i : Int} (h : creE S i = 0) : ∃ k, ∃ hk : k < S.objs.length, i = (k : Int) + 1 ∧ objOf S i = S.objs[k] ∧ liveO S S.objs[k] = true := by
  unfold creE at h
  split at h
  · rename_i hh
    unfold hasS at hh
    obtain ⟨k, hk⟩ : ∃ k : Nat, i = (k : Int) + 1 := ⟨(i - 1).toNat, by omega⟩
    subst hk
    have hk : k < S.objs.length := by omega
    split at h
    · rename_i hl
      rw [objOf_at hk] at hl
      exact ⟨k, hk, rfl, objOf_at hk, hl⟩
    · omega
  · omega
set_option maxRecDepth 100000 in
set_option maxHeartbeats 4000000 in
theorem cre_any {w : World} {lo b : Nat} {G : Ghost} {S : StoreL} (h : StoreAt w lo b G S) (hS : WfS S) (hl : S.objs.length ≤ 1000) (i : Int) :
    Calls Tryz.prog 43 #[.pointer (some ⟨b, 0, none⟩), .int .i64 i] w (RetCre w (creO S i) (creC S i) (creE S i)) := by
  by_cases hh : hasS S i
  · obtain ⟨k, rfl⟩ : ∃ k : Nat, i = (k : Int) + 1 := ⟨(i - 1).toNat, by unfold hasS at hh; omega⟩
    have hk : k < S.objs.length := by unfold hasS at hh; omega
    obtain ⟨e1, e2, e3, _⟩ := hS.ids k hk
    obtain ⟨n, hn⟩ : ∃ n : Nat, S.objs[k].card = n := ⟨S.objs[k].card.toNat, by omega⟩
    have hn4 : n < S.T.length := by omega
    have hcr := creature_in h hl k n hk hn4 hn
    have hcs := cardS_at (S := S) hn hn4
    by_cases hlv : liveO S S.objs[k] = true
    · have hE : creE S ((k : Int) + 1) = 0 := by unfold creE; rw [if_pos hh, objOf_at hk, if_pos hlv]
      unfold creO creC
      rw [hE, if_pos rfl, if_pos rfl, objOf_at hk, hcs]
      unfold liveO at hlv
      rw [Bool.and_eq_true, hcs] at hlv
      exact hcr.1 (by simpa using hlv.1) (by simpa using hlv.2)
    · have hE : creE S ((k : Int) + 1) = 10 := by unfold creE; rw [if_pos hh, objOf_at hk, if_neg hlv]
      unfold creO creC
      rw [hE, if_neg (by decide), if_neg (by decide)]
      refine hcr.2 (fun hno => hlv ?_)
      unfold liveO
      rw [hcs, hno.1, hno.2]
      rfl
  · have hE : creE S i = 7 := by unfold creE; rw [if_neg hh]
    unfold creO creC
    rw [hE, if_neg (by decide), if_neg (by decide)]
    exact creature_out (by decide) (fun w' hb => get_out (h.later hb) hl i (by unfold hasS at hh; omega))
theorem cre_nil (i : Int) (w : World) : Calls Tryz.prog 43 #[.pointer none, .int .i64 i] w (RetCre w zeroO zeroC 1) := creature_out (by decide) (fun w' _ => get_nil i w')
theorem live_any {w : World} {lo b : Nat} {G : Ghost} {S : StoreL} (h : StoreAt w lo b G S) (hS : WfS S) (hl : S.objs.length ≤ 1000) (i : Int) :
    Calls Tryz.prog 62 #[.pointer (some ⟨b, 0, none⟩), .int .i64 i] w (RetV w (.bool (creE S i == 0))) := live_of (cre_any h hS hl i)
theorem live_nil (i : Int) (w : World) : Calls Tryz.prog 62 #[.pointer none, .int .i64 i] w (RetV w (.bool false)) := live_of (cre_nil i w)
/-- Hurt of a store, for any number. -/
def hurtS (S : StoreL) (i n : Int) : StoreL := if creE S i = 0 then setL S (i - 1).toNat (hurtO (objOf S i) n) else S
theorem hurt_any {w : World} {lo b : Nat} {G : Ghost} {S : StoreL} (h : StoreAt w lo b G S) (hS : WfS S) (hl : S.objs.length ≤ 1000) (i n : Int) :
    Calls Tryz.prog 88 #[.pointer (some ⟨b, 0, none⟩), .int .i64 i, .int .i64 n] w (RetS w lo b G (hurtS S i n) (.int .i64 (creE S i))) := by
  by_cases hE : creE S i = 0
  · obtain ⟨k, hk, rfl, ho, hlv⟩ := creE_live hE
    obtain ⟨e1, e2, e3, _⟩ := hS.ids k hk
    obtain ⟨m, hm⟩ : ∃ n : Nat, S.objs[k].card = n := ⟨S.objs[k].card.toNat, by omega⟩
    have hm4 : m < S.T.length := by omega
    unfold liveO at hlv
    rw [Bool.and_eq_true, cardS_at (S := S) hm hm4] at hlv
    unfold hurtS
    rw [hE, if_pos rfl, ho, show ((k : Int) + 1 - 1).toNat = k by omega]
    exact hurt_ok h hl k m hk hm4 hm (by simpa using hlv.1) (by simpa using hlv.2) e1 n
  · have e0 : creO S i = zeroO := by unfold creO; rw [if_neg hE]
    have e1 : creC S i = zeroC := by unfold creC; rw [if_neg hE]
    unfold hurtS
    rw [if_neg hE]
    refine (hurt_out (n := n) hE (fun w' hb => ?_)).mono ?_
    · have := cre_any (h.later hb) hS hl i
      rw [e0, e1] at this
      exact this
    · rintro e w' ⟨rfl, hb⟩
      exact ⟨rfl, G, h.later hb, Turned.of_below hb⟩
theorem hurt_nil (i n : Int) (w : World) : Calls Tryz.prog 88 #[.pointer none, .int .i64 i, .int .i64 n] w (RetV w (.int .i64 1)) := hurt_out (by decide) (fun w' _ => cre_nil i w')
theorem hurtS_wf {S : StoreL} (h : WfS S) (i n : Int) : WfS (hurtS S i n) := by
  unfold hurtS
  split
  · rename_i hE
    obtain ⟨k, hk, rfl, ho, _⟩ := creE_live hE
    rw [ho, show ((k : Int) + 1 - 1).toNat = k by omega]
    exact h.set hk (h.ids k hk).1 rfl rfl rfl
  · exact h
theorem hurtS_len (S : StoreL) (i n : Int) : (hurtS S i n).objs.length = S.objs.length := by
  unfold hurtS
  split
  · exact List.length_set
  · rfl
theorem hurtS_at {S : StoreL} {k : Nat} (n : Int) (hE : creE S ((k : Int) + 1) = 0) : hurtS S ((k : Int) + 1) n = setL S k (hurtO (objOf S ((k : Int) + 1)) n) := by
  unfold hurtS
  rw [if_pos hE, show ((k : Int) + 1 - 1).toNat = k by omega]
/-- Count of a store, for any number. -/
def countS (S : StoreL) (i n : Int) : StoreL := if creE S i = 0 then setL S (i - 1).toNat (countO (objOf S i) n) else S
theorem countS_wf {S : StoreL} (h : WfS S) (i n : Int) : WfS (countS S i n) := by
  unfold countS
  split
  · rename_i hE
    obtain ⟨k, hk, rfl, ho, _⟩ := creE_live hE
    rw [ho, show ((k : Int) + 1 - 1).toNat = k by omega]
    exact h.set hk (h.ids k hk).1 rfl rfl rfl
  · exact h
theorem countS_len (S : StoreL) (i n : Int) : (countS S i n).objs.length = S.objs.length := by
  unfold countS
  split
  · exact List.length_set
  · rfl
theorem countS_at {S : StoreL} {k : Nat} (n : Int) (hE : creE S ((k : Int) + 1) = 0) : countS S ((k : Int) + 1) n = setL S k (countO (objOf S ((k : Int) + 1)) n) := by
  unfold countS
  rw [if_pos hE, show ((k : Int) + 1 - 1).toNat = k by omega]
/-- Boost of a store, for any number. -/
def boostS (S : StoreL) (i n : Int) : StoreL := if creE S i = 0 then setL S (i - 1).toNat (boostO (objOf S i) n) else S
theorem boostS_wf {S : StoreL} (h : WfS S) (i n : Int) : WfS (boostS S i n) := by
  unfold boostS
  split
  · rename_i hE
    obtain ⟨k, hk, rfl, ho, _⟩ := creE_live hE
    rw [ho, show ((k : Int) + 1 - 1).toNat = k by omega]
    exact h.set hk (h.ids k hk).1 rfl rfl rfl
  · exact h
theorem boostS_len (S : StoreL) (i n : Int) : (boostS S i n).objs.length = S.objs.length := by
  unfold boostS
  split
  · exact List.length_set
  · rfl
theorem boostS_at {S : StoreL} {k : Nat} (n : Int) (hE : creE S ((k : Int) + 1) = 0) : boostS S ((k : Int) + 1) n = setL S k (boostO (objOf S ((k : Int) + 1)) n) := by
  unfold boostS
  rw [if_pos hE, show ((k : Int) + 1 - 1).toNat = k by omega]
end Go.Proofs.YtjgjhfeopmakaaaGreat
