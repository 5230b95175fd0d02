/- What fight asks of a board, in single questions: whether a seat is of a team, whether a creature has a key, creature, mayAttack, lacks, what its closures answer (layer 17). -/
import Derived.Test.YtjgjhfeopmakaaaGreatFp
import Derived.Test.YtjgjhfeopmakaaaGreatFq
import Derived.Test.YtjgjhfeopmakaaaGreatGi
import Derived.Test.YtjgjhfeopmakaaaGreatQa
namespace Go.Proofs.YtjgjhfeopmakaaaGreat
open Go.RowKit Go.Maps
attribute [local go_sem] Oper.semAt_some

def isOfB (T : TeamL) (k team : Int) : Bool := decide (0 ≤ team) && decide (ofT T k = team)
set_option maxRecDepth 100000 in
set_option maxHeartbeats 4000000 in
theorem isOf_any {w : World} {lo : Nat} {g : GhostB} {B : BoardL} (h : BoardAt w lo g B) (k team : Int) : Calls Tryz.prog 63 #[.pointer (some ⟨g.q, 0, none⟩), .int .i64 k, .int .i64 team] w (Same w (.bool (isOfB B.T k team))) := by
  have HO := Lib.hid (tof_any h.tm k)
  obtain ⟨c0, c1, _⟩ := h.cells
  obtain ⟨z, hz⟩ : ∃ z, ofT B.T k = z := ⟨_, rfl⟩
  unfold isOfB
  rw [hz] at HO ⊢
  clear h hz
  by_cases h0 : 0 ≤ team
  · have d0 : decide (0 ≤ team) = true := decide_eq_true h0
    rw [d0, Bool.true_and]
    go_enter Tryz.func63, Tryz.ntmps63
    go_wp2_with fail
    refine HO.out.mono ?_
    rintro e w1 ⟨rfl, rfl⟩
    go_wp2
    go_ret
    exact ⟨rfl, rfl⟩
  · have d0 : decide (0 ≤ team) = false := decide_eq_false h0
    rw [d0, Bool.false_and]
    clear HO
    go_enter Tryz.func63, Tryz.ntmps63
    go_wp2
    go_ret
    exact ⟨rfl, rfl⟩
def hasK (S : StoreL) (i key : Int) : Bool := !(bits .and .i64 (creC S i).keys key == 0)
set_option maxRecDepth 100000 in
set_option maxHeartbeats 4000000 in
theorem hasK_any {w : World} {lo : Nat} {g : GhostB} {B : BoardL} (h : BoardAt w lo g B) (i key : Int) : Calls Tryz.prog 32 #[.pointer (some ⟨g.q, 0, none⟩), .int .i64 i, .int .i64 key] w (RetV w (.bool (hasK B.S i key))) := by
  have HO := Lib.hid (keys_any h.st h.wf (by have := h.len; omega) i)
  obtain ⟨c0, c1, _⟩ := h.cells
  obtain ⟨z, hz⟩ : ∃ z, (creC B.S i).keys = z := ⟨_, rfl⟩
  unfold hasK
  rw [hz] at HO ⊢
  clear h hz
  go_enter Tryz.func32, Tryz.ntmps32
  go_wp2_with fail
  refine HO.out.mono ?_
  rintro e w1 ⟨rfl, hb⟩
  have HB := Lib.hid hb
  clear hb
  go_wp2
  go_ret
  exact ⟨by simp [bne], HB.out⟩
set_option maxRecDepth 100000 in
theorem fcre_nil (i : Int) (w : World) : Calls Tryz.prog 30 #[.pointer none, .int .i64 i] w (RetGet w zeroO 1) := by
  go_enter Tryz.func30, Tryz.ntmps30
  go_wp2
  refine bodyPost_ret (by simp [results, Tryz.results30, go_sem]; rfl) rfl ⟨rfl, ?_⟩
  have hb := below_new w (.cells #[.int .i64 0, .int .i64 0, .int .i64 0, .int .i64 0, .bool false, .bool false, .int .i64 0, .int .i64 0, .int .i64 0, .int .i64 0, .bool false] 30)
  repeat' apply Below.setCell
  all_goals first | exact hb | simp
set_option maxRecDepth 100000 in
set_option maxHeartbeats 8000000 in
theorem fcre_any {w : World} {lo : Nat} {g : GhostB} {B : BoardL} (h : BoardAt w lo g B) (i : Int) : Calls Tryz.prog 30 #[.pointer (some ⟨g.q, 0, none⟩), .int .i64 i] w (RetGet w (creO B.S i) (creE B.S i)) := by
  have HG := Lib.hid (fun (w' : World) (hb : Below w.heap.size w w') => getI_any (h.later hb) i)
  have HL := Lib.hid (fun (w' : World) (hb : Below w.heap.size w w') => live_any (h.later hb).st h.wf (by have := h.len; omega) i)
  have HC := Lib.hid (fun (w' : World) (hb : Below w.heap.size w w') => (h.later hb).cells.1)
  have hE : (hasS B.S i ∧ objI B.S i = objOf B.S i ∧ errI B.S i = 0 ∧ ((creE B.S i = 0 ∧ creO B.S i = objOf B.S i) ∨ (creE B.S i = 10 ∧ creO B.S i = zeroO))) ∨ (objI B.S i = zeroO ∧ errI B.S i = 7 ∧ creE B.S i = 7 ∧ creO B.S i = zeroO) := by
    unfold objI errI creO creE
    by_cases hs : hasS B.S i
    · left
      rw [if_pos hs, if_pos hs, if_pos hs]
      refine ⟨hs, rfl, rfl, ?_⟩
      cases liveO B.S (objOf B.S i)
      · right; simp
      · left; simp
    · right
      rw [if_neg hs, if_neg hs, if_neg hs]
      simp
  have c0 := h.cells.1
  have c0a := (h.later (below_new w (.cells #[.int .i64 0, .int .i64 0, .int .i64 0, .int .i64 0, .bool false, .bool false, .int .i64 0, .int .i64 0, .int .i64 0, .int .i64 0, .bool false] 30))).cells.1
  obtain ⟨x, hx⟩ : ∃ x, objI B.S i = x := ⟨_, rfl⟩
  obtain ⟨n, hn⟩ : ∃ n, errI B.S i = n := ⟨_, rfl⟩
  obtain ⟨y, hy⟩ : ∃ y, creO B.S i = y := ⟨_, rfl⟩
  obtain ⟨m, hm⟩ : ∃ m, creE B.S i = m := ⟨_, rfl⟩
  rw [hx, hn, hm, hy] at hE
  rw [hx, hn] at HG
  rw [hm] at HL ⊢
  rw [hy]
  have HQ := Lib.hid (show n = 0 ∧ m = 0 ∧ x = y ∨ n = 0 ∧ m = 10 ∧ y = zeroO ∨ n = 7 ∧ m = 7 ∧ y = zeroO from by
    rcases hE with ⟨_, h1, h2, ⟨h3, h4⟩ | ⟨h3, h4⟩⟩ | ⟨h1, h2, h3, h4⟩
    · exact .inl ⟨h2, h3, by rw [h1, h4]⟩
    · exact .inr (.inl ⟨h2, h3, h4⟩)
    · exact .inr (.inr ⟨h2, h3, h4⟩))
  clear h hE hx hn hy hm
  obtain ⟨x0, x1, x2, x3, x4, x5, x6, x7, x8, x9, x10⟩ := x
  unfold RetGet oagg at HG
  dsimp only at HG
  go_enter Tryz.func30, Tryz.ntmps30
  go_wp2_with fail
  refine (HG.out _ (below_new w _)).mono ?_
  rintro e w1 ⟨rfl, hb1⟩
  have HB := Lib.hid (below_alloc2 (stepB (below_new w _) hb1) (.cells #[.int .i64 x0, .int .i64 x1, .int .i64 x2, .int .i64 x3, .bool x4, .bool x5, .int .i64 x6, .int .i64 x7, .int .i64 x8, .int .i64 x9, .bool x10] 30))
  have hbx := below_alloc2 hb1 (.cells #[.int .i64 x0, .int .i64 x1, .int .i64 x2, .int .i64 x3, .bool x4, .bool x5, .int .i64 x6, .int .i64 x7, .int .i64 x8, .int .i64 x9, .bool x10] 30)
  have HS1 := Lib.hid (show w.heap.size < w1.heap.size from by have := hb1.size; simp at this; omega)
  have HK1 := Lib.hid (show ∀ j, (w1.alloc (.cells #[.int .i64 x0, .int .i64 x1, .int .i64 x2, .int .i64 x3, .bool x4, .bool x5, .int .i64 x6, .int .i64 x7, .int .i64 x8, .int .i64 x9, .bool x10] 30)).cell? ⟨w1.heap.size, j, none⟩ = (#[.int .i64 x0, .int .i64 x1, .int .i64 x2, .int .i64 x3, .bool x4, .bool x5, .int .i64 x6, .int .i64 x7, .int .i64 x8, .int .i64 x9, .bool x10] : Array Value)[j]? from fun j => cell_of_row _ _ j _ _ (0, 0) (heap_alloc_new w1 _))
  obtain ⟨W, hW⟩ : ∃ W, w1.alloc (.cells #[.int .i64 x0, .int .i64 x1, .int .i64 x2, .int .i64 x3, .bool x4, .bool x5, .int .i64 x6, .int .i64 x7, .int .i64 x8, .int .i64 x9, .bool x10] 30) = W := ⟨_, rfl⟩
  rw [hW] at hbx HB HK1
  obtain ⟨hcW, hfW⟩ := Crd.bcell hbx
  have f0 : ∀ j, W.frozen? ⟨w.heap.size, j, none⟩ = false := fun j => by rw [hfW _ _ (by simp; try omega)]; simp [go_sem]
  have HZ := Lib.hid (show ∀ j, W.cell? ⟨w.heap.size, j, none⟩ = (#[.int .i64 0, .int .i64 0, .int .i64 0, .int .i64 0, .bool false, .bool false, .int .i64 0, .int .i64 0, .int .i64 0, .int .i64 0, .bool false] : Array Value)[j]? from fun j => by rw [hcW _ _ (by simp; try omega)]; exact cell_of_row _ _ j _ _ (0, 0) (heap_alloc_new w _))
  have cW := HC.out W HB.out
  clear hb1 hbx hcW hfW c0 c0a
  dsimp only
  subst hW
  rcases HQ.out with ⟨rfl, rfl, rfl⟩ | ⟨rfl, rfl, rfl⟩ | ⟨rfl, rfl, rfl⟩
  · have HLL := Lib.hid (HL.out _ HB.out)
    obtain ⟨W, hW⟩ : ∃ W, w1.alloc (.cells #[.int .i64 x0, .int .i64 x1, .int .i64 x2, .int .i64 x3, .bool x4, .bool x5, .int .i64 x6, .int .i64 x7, .int .i64 x8, .int .i64 x9, .bool x10] 30) = W := ⟨_, rfl⟩
    rw [hW] at HLL cW HB HZ f0
    obtain ⟨q1, hq1⟩ : ∃ q1, w1.heap.size = q1 := ⟨_, rfl⟩
    rw [hW, hq1] at HK1
    go_wp2_with fail
    clear cW HC
    refine HLL.out.mono ?_
    rintro e w2 ⟨rfl, hb2⟩
    have HB2 := Lib.hid (stepB HB.out hb2)
    have HSW := Lib.hid (show w.heap.size < W.heap.size ∧ w.heap.size < w2.heap.size from by have h1 := HS1.out; have h2 := hb2.size; rw [← hW] at h2 ⊢; simp at h2 ⊢; omega)
    obtain ⟨hc2, hf2⟩ := Crd.bcell hb2
    have g0 : ∀ j, w2.frozen? ⟨w.heap.size, j, none⟩ = false := fun j => by rw [hf2 _ _ HSW.out.1]; exact f0 j
    have p0 : w2.cell? ⟨q1, 0, none⟩ = some (.int .i64 x0) := cell_stays hb2 (HK1.out 0)
    have p1 : w2.cell? ⟨q1, 1, none⟩ = some (.int .i64 x1) := cell_stays hb2 (HK1.out 1)
    have p2 : w2.cell? ⟨q1, 2, none⟩ = some (.int .i64 x2) := cell_stays hb2 (HK1.out 2)
    have p3 : w2.cell? ⟨q1, 3, none⟩ = some (.int .i64 x3) := cell_stays hb2 (HK1.out 3)
    have p4 : w2.cell? ⟨q1, 4, none⟩ = some (.bool x4) := cell_stays hb2 (HK1.out 4)
    have p5 : w2.cell? ⟨q1, 5, none⟩ = some (.bool x5) := cell_stays hb2 (HK1.out 5)
    have p6 : w2.cell? ⟨q1, 6, none⟩ = some (.int .i64 x6) := cell_stays hb2 (HK1.out 6)
    have p7 : w2.cell? ⟨q1, 7, none⟩ = some (.int .i64 x7) := cell_stays hb2 (HK1.out 7)
    have p8 : w2.cell? ⟨q1, 8, none⟩ = some (.int .i64 x8) := cell_stays hb2 (HK1.out 8)
    have p9 : w2.cell? ⟨q1, 9, none⟩ = some (.int .i64 x9) := cell_stays hb2 (HK1.out 9)
    have p10 : w2.cell? ⟨q1, 10, none⟩ = some (.bool x10) := cell_stays hb2 (HK1.out 10)
    have z0 : w2.cell? ⟨w.heap.size, 0, none⟩ = some (.int .i64 0) := cell_stays hb2 (HZ.out 0)
    have z1 : w2.cell? ⟨w.heap.size, 1, none⟩ = some (.int .i64 0) := cell_stays hb2 (HZ.out 1)
    have z2 : w2.cell? ⟨w.heap.size, 2, none⟩ = some (.int .i64 0) := cell_stays hb2 (HZ.out 2)
    have z3 : w2.cell? ⟨w.heap.size, 3, none⟩ = some (.int .i64 0) := cell_stays hb2 (HZ.out 3)
    have z4 : w2.cell? ⟨w.heap.size, 4, none⟩ = some (.bool false) := cell_stays hb2 (HZ.out 4)
    have z5 : w2.cell? ⟨w.heap.size, 5, none⟩ = some (.bool false) := cell_stays hb2 (HZ.out 5)
    have z6 : w2.cell? ⟨w.heap.size, 6, none⟩ = some (.int .i64 0) := cell_stays hb2 (HZ.out 6)
    have z7 : w2.cell? ⟨w.heap.size, 7, none⟩ = some (.int .i64 0) := cell_stays hb2 (HZ.out 7)
    have z8 : w2.cell? ⟨w.heap.size, 8, none⟩ = some (.int .i64 0) := cell_stays hb2 (HZ.out 8)
    have z9 : w2.cell? ⟨w.heap.size, 9, none⟩ = some (.int .i64 0) := cell_stays hb2 (HZ.out 9)
    have z10 : w2.cell? ⟨w.heap.size, 10, none⟩ = some (.bool false) := cell_stays hb2 (HZ.out 10)
    clear hb2 hc2 hf2 f0
    dsimp only
    clear hW hq1
    go_wp2
    refine bodyPost_ret (by simp [results, Tryz.results30, go_sem, z0, z1, z2, z3, z4, z5, z6, z7, z8, z9, z10]; try first | rfl | exact ⟨rfl, rfl⟩) rfl ⟨rfl, ?_⟩
    have hb := HB2.out
    repeat' apply Below.setCell
    all_goals first | exact hb | simp
  · have HLL := Lib.hid (HL.out _ HB.out)
    obtain ⟨W, hW⟩ : ∃ W, w1.alloc (.cells #[.int .i64 x0, .int .i64 x1, .int .i64 x2, .int .i64 x3, .bool x4, .bool x5, .int .i64 x6, .int .i64 x7, .int .i64 x8, .int .i64 x9, .bool x10] 30) = W := ⟨_, rfl⟩
    rw [hW] at HLL cW HB HZ f0
    go_wp2_with fail
    clear cW HC HK1
    refine HLL.out.mono ?_
    rintro e w2 ⟨rfl, hb2⟩
    have HB2 := Lib.hid (stepB HB.out hb2)
    have HSW := Lib.hid (show w.heap.size < W.heap.size ∧ w.heap.size < w2.heap.size from by have h1 := HS1.out; have h2 := hb2.size; rw [← hW] at h2 ⊢; simp at h2 ⊢; omega)
    obtain ⟨hc2, hf2⟩ := Crd.bcell hb2
    have g0 : ∀ j, w2.frozen? ⟨w.heap.size, j, none⟩ = false := fun j => by rw [hf2 _ _ HSW.out.1]; exact f0 j
    have z0 : w2.cell? ⟨w.heap.size, 0, none⟩ = some (.int .i64 0) := cell_stays hb2 (HZ.out 0)
    have z1 : w2.cell? ⟨w.heap.size, 1, none⟩ = some (.int .i64 0) := cell_stays hb2 (HZ.out 1)
    have z2 : w2.cell? ⟨w.heap.size, 2, none⟩ = some (.int .i64 0) := cell_stays hb2 (HZ.out 2)
    have z3 : w2.cell? ⟨w.heap.size, 3, none⟩ = some (.int .i64 0) := cell_stays hb2 (HZ.out 3)
    have z4 : w2.cell? ⟨w.heap.size, 4, none⟩ = some (.bool false) := cell_stays hb2 (HZ.out 4)
    have z5 : w2.cell? ⟨w.heap.size, 5, none⟩ = some (.bool false) := cell_stays hb2 (HZ.out 5)
    have z6 : w2.cell? ⟨w.heap.size, 6, none⟩ = some (.int .i64 0) := cell_stays hb2 (HZ.out 6)
    have z7 : w2.cell? ⟨w.heap.size, 7, none⟩ = some (.int .i64 0) := cell_stays hb2 (HZ.out 7)
    have z8 : w2.cell? ⟨w.heap.size, 8, none⟩ = some (.int .i64 0) := cell_stays hb2 (HZ.out 8)
    have z9 : w2.cell? ⟨w.heap.size, 9, none⟩ = some (.int .i64 0) := cell_stays hb2 (HZ.out 9)
    have z10 : w2.cell? ⟨w.heap.size, 10, none⟩ = some (.bool false) := cell_stays hb2 (HZ.out 10)
    clear hb2 hc2 hf2 f0
    dsimp only
    clear hW
    go_wp2
    refine bodyPost_ret (by simp [results, Tryz.results30, go_sem, z0, z1, z2, z3, z4, z5, z6, z7, z8, z9, z10]; try first | rfl | exact ⟨rfl, rfl⟩) rfl ⟨rfl, ?_⟩
    have hb := HB2.out
    repeat' apply Below.setCell
    all_goals first | exact hb | simp
  · obtain ⟨W, hW⟩ : ∃ W, w1.alloc (.cells #[.int .i64 x0, .int .i64 x1, .int .i64 x2, .int .i64 x3, .bool x4, .bool x5, .int .i64 x6, .int .i64 x7, .int .i64 x8, .int .i64 x9, .bool x10] 30) = W := ⟨_, rfl⟩
    clear cW HC HK1 HL
    rw [hW] at HB HZ f0
    have g0 := f0
    have z0 : W.cell? ⟨w.heap.size, 0, none⟩ = some (.int .i64 0) := HZ.out 0
    have z1 : W.cell? ⟨w.heap.size, 1, none⟩ = some (.int .i64 0) := HZ.out 1
    have z2 : W.cell? ⟨w.heap.size, 2, none⟩ = some (.int .i64 0) := HZ.out 2
    have z3 : W.cell? ⟨w.heap.size, 3, none⟩ = some (.int .i64 0) := HZ.out 3
    have z4 : W.cell? ⟨w.heap.size, 4, none⟩ = some (.bool false) := HZ.out 4
    have z5 : W.cell? ⟨w.heap.size, 5, none⟩ = some (.bool false) := HZ.out 5
    have z6 : W.cell? ⟨w.heap.size, 6, none⟩ = some (.int .i64 0) := HZ.out 6
    have z7 : W.cell? ⟨w.heap.size, 7, none⟩ = some (.int .i64 0) := HZ.out 7
    have z8 : W.cell? ⟨w.heap.size, 8, none⟩ = some (.int .i64 0) := HZ.out 8
    have z9 : W.cell? ⟨w.heap.size, 9, none⟩ = some (.int .i64 0) := HZ.out 9
    have z10 : W.cell? ⟨w.heap.size, 10, none⟩ = some (.bool false) := HZ.out 10
    go_wp2
    refine bodyPost_ret (by simp [results, Tryz.results30, go_sem, z0, z1, z2, z3, z4, z5, z6, z7, z8, z9, z10]; try first | rfl | exact ⟨rfl, rfl⟩) rfl ⟨rfl, ?_⟩
    have hb := HB.out
    repeat' apply Below.setCell
    all_goals first | exact hb | simp
def mayAtk (T : TeamL) (team seat : Int) (o : ObjL) : Int := if ¬(o.owner = seat) ∨ isOfB T o.owner team = false then 14 else if o.attacks then 19 else if o.tapped then 15 else if o.sick then 16 else 0
set_option maxRecDepth 100000 in
set_option maxHeartbeats 4000000 in
theorem mayAtk_any {w : World} {lo : Nat} {g : GhostB} {B : BoardL} (h : BoardAt w lo g B) (team seat : Int) (o : ObjL) : Calls Tryz.prog 31 #[.pointer (some ⟨g.q, 0, none⟩), .int .i64 team, .int .i64 seat, oagg o] w (RetV w (.int .i64 (mayAtk B.T team seat o))) := by
  obtain ⟨x0, x1, x2, x3, x4, x5, x6, x7, x8, x9, x10⟩ := o
  unfold mayAtk oagg
  dsimp only
  have hb := below_new w (.cells #[.int .i64 x0, .int .i64 x1, .int .i64 x2, .int .i64 x3, .bool x4, .bool x5, .int .i64 x6, .int .i64 x7, .int .i64 x8, .int .i64 x9, .bool x10] 30)
  have HB := Lib.hid hb
  have HO := Lib.hid (isOf_any (h.later hb) x2 team)
  obtain ⟨z, hz⟩ : ∃ z, isOfB B.T x2 team = z := ⟨_, rfl⟩
  rw [hz] at HO ⊢
  clear h hz hb
  by_cases ho : x2 = seat
  · subst ho
    cases z
    · rw [if_pos (.inr rfl)]
      go_enter Tryz.func31, Tryz.ntmps31
      go_wp2_with fail
      refine HO.out.mono ?_
      rintro e w1 ⟨rfl, rfl⟩
      go_wp2
      go_ret
      exact ⟨rfl, HB.out⟩
    · rw [if_neg (by rintro (e | e); exact e rfl; cases e)]
      cases x10
      · rw [if_neg (by decide)]
        cases x4
        · rw [if_neg (by decide)]
          cases x5
          · rw [if_neg (by decide)]
            go_enter Tryz.func31, Tryz.ntmps31
            go_wp2_with fail
            refine HO.out.mono ?_
            rintro e w1 ⟨rfl, rfl⟩
            go_wp2
            go_ret
            exact ⟨rfl, HB.out⟩
          · rw [if_pos rfl]
            go_enter Tryz.func31, Tryz.ntmps31
            go_wp2_with fail
            refine HO.out.mono ?_
            rintro e w1 ⟨rfl, rfl⟩
            go_wp2
            go_ret
            exact ⟨rfl, HB.out⟩
        · rw [if_pos rfl]
          go_enter Tryz.func31, Tryz.ntmps31
          go_wp2_with fail
          refine HO.out.mono ?_
          rintro e w1 ⟨rfl, rfl⟩
          go_wp2
          go_ret
          exact ⟨rfl, HB.out⟩
      · rw [if_pos rfl]
        go_enter Tryz.func31, Tryz.ntmps31
        go_wp2_with fail
        refine HO.out.mono ?_
        rintro e w1 ⟨rfl, rfl⟩
        go_wp2
        go_ret
        exact ⟨rfl, HB.out⟩
  · have d0 : decide (x2 = seat) = false := decide_eq_false ho
    rw [if_pos (.inl ho)]
    clear HO
    go_enter Tryz.func31, Tryz.ntmps31
    go_wp2
    go_ret
    exact ⟨rfl, HB.out⟩
def placeT (t : Int) : Int := wrap64 (-1 - t)
set_option maxRecDepth 100000 in
theorem placeOf17_any (t : Int) (w : World) : Calls Tryz.prog 73 #[.int .i64 t] w (Same w (.int .i64 (placeT t))) := by
  go_enter Tryz.func73, Tryz.ntmps73
  go_wp2
  go_ret
  exact ⟨rfl, rfl⟩
/-- What the closure of attacking asks. -/
def atkB (T : TeamL) (team : Int) (o : ObjL) : Bool := o.attacks && isOfB T o.owner team
set_option maxRecDepth 100000 in
set_option maxHeartbeats 4000000 in
theorem atk1_any {w : World} {lo c1 c2 : Nat} {g : GhostB} {B : BoardL} (h : BoardAt w lo g B) (team : Int) (o : ObjL) (h1 : HdAt w c1 (.pointer (some ⟨g.q, 0, none⟩))) (h2 : HdAt w c2 (.int .i64 team)) : Calls Tryz.prog 77 #[oagg o, .pointer (some ⟨c1, 0, none⟩), .pointer (some ⟨c2, 0, none⟩)] w (RetV w (.bool (atkB B.T team o))) := by
  obtain ⟨x0, x1, x2, x3, x4, x5, x6, x7, x8, x9, x10⟩ := o
  unfold atkB oagg
  dsimp only
  have hb := below_new w (.cells #[.int .i64 x0, .int .i64 x1, .int .i64 x2, .int .i64 x3, .bool x4, .bool x5, .int .i64 x6, .int .i64 x7, .int .i64 x8, .int .i64 x9, .bool x10] 30)
  have HB := Lib.hid hb
  have HO := Lib.hid (isOf_any (h.later hb) x2 team)
  have c1c := (h1.later hb).cell
  have c2c := (h2.later hb).cell
  obtain ⟨z, hz⟩ : ∃ z, isOfB B.T x2 team = z := ⟨_, rfl⟩
  rw [hz] at HO ⊢
  clear h hz hb h1 h2
  cases x10
  · rw [Bool.false_and]
    clear HO
    go_enter Tryz.func77, Tryz.ntmps77
    go_wp2
    go_ret
    exact ⟨rfl, HB.out⟩
  · rw [Bool.true_and]
    go_enter Tryz.func77, Tryz.ntmps77
    go_wp2_with fail
    refine HO.out.mono ?_
    rintro e w1 ⟨rfl, rfl⟩
    go_wp2
    go_ret
    exact ⟨rfl, HB.out⟩
set_option maxRecDepth 100000 in
set_option maxHeartbeats 4000000 in
theorem blk1_any {w : World} {c1 : Nat} (i : Int) (o : ObjL) (h1 : HdAt w c1 (.int .i64 i)) : Calls Tryz.prog 89 #[oagg o, .pointer (some ⟨c1, 0, none⟩)] w (RetV w (.bool (decide (o.block = i)))) := by
  obtain ⟨x0, x1, x2, x3, x4, x5, x6, x7, x8, x9, x10⟩ := o
  unfold oagg
  dsimp only
  have hb := below_new w (.cells #[.int .i64 x0, .int .i64 x1, .int .i64 x2, .int .i64 x3, .bool x4, .bool x5, .int .i64 x6, .int .i64 x7, .int .i64 x8, .int .i64 x9, .bool x10] 30)
  have HB := Lib.hid hb
  have c1c := (h1.later hb).cell
  clear hb h1
  go_enter Tryz.func89, Tryz.ntmps89
  go_wp2
  go_ret
  exact ⟨rfl, HB.out⟩
set_option maxRecDepth 100000 in
theorem plan1_any (x : HitL) (w : World) : Calls Tryz.prog 38 #[hitV x] w (RetV w (.bool (decide (x.z = 0)))) := by
  obtain ⟨a, b, c⟩ := x
  unfold hitV
  have HB := Lib.hid (below_new w (.cells #[.int .i64 a, .int .i64 b, .int .i64 c] 52))
  go_enter Tryz.func38, Tryz.ntmps38
  go_wp2
  go_ret
  exact ⟨rfl, HB.out⟩
theorem keepL2 {A w1 w2 : World} {a b : Addr} {u v : Value} (hb : Below w1.heap.size w1 w2) (h : Below A.heap.size A w1 ∧ w1.cell? a = some u ∧ w1.cell? b = some v) : Below A.heap.size A w2 ∧ w2.cell? a = some u ∧ w2.cell? b = some v := ⟨stepB h.1 hb, cell_stays hb h.2.1, cell_stays hb h.2.2⟩
/-- What a creature lacks to its toughness. -/
def lackZ (S : StoreL) (i : Int) : Int := max (IntKind.i64.wrap (touS S i - max (objI S i).hurt (-999))) 0
set_option maxRecDepth 100000 in
set_option maxHeartbeats 4000000 in
theorem lacks_any {w : World} {lo : Nat} {g : GhostB} {B : BoardL} (h : BoardAt w lo g B) (i : Int) : Calls Tryz.prog 101 #[.pointer (some ⟨g.q, 0, none⟩), .int .i64 i] w (RetV w (.int .i64 (lackZ B.S i))) := by
  have HG := Lib.hid (getI_any h i)
  have HT := Lib.hid (fun (w' : World) (hb : Below w.heap.size w w') => tough_any (h.later hb).st h.wf (by have := h.len; omega) i)
  have HC := Lib.hid (fun (w' : World) (hb : Below w.heap.size w w') => (h.later hb).cells.1)
  have c0 := h.cells.1
  unfold lackZ
  obtain ⟨x, hx⟩ : ∃ x, objI B.S i = x := ⟨_, rfl⟩
  obtain ⟨t, ht⟩ : ∃ t, touS B.S i = t := ⟨_, rfl⟩
  obtain ⟨n, hn⟩ : ∃ n, errI B.S i = n := ⟨_, rfl⟩
  rw [hx, hn] at HG
  rw [ht] at HT
  rw [hx, ht]
  clear h hx ht hn
  obtain ⟨x0, x1, x2, x3, x4, x5, x6, x7, x8, x9, x10⟩ := x
  unfold RetGet oagg at HG
  dsimp only at HG ⊢
  go_enter Tryz.func101, Tryz.ntmps101
  go_wp2_with fail
  refine HG.out.mono ?_
  rintro e w1 ⟨rfl, hb1⟩
  have HB := Lib.hid (below_alloc2 hb1 (.cells #[.int .i64 x0, .int .i64 x1, .int .i64 x2, .int .i64 x3, .bool x4, .bool x5, .int .i64 x6, .int .i64 x7, .int .i64 x8, .int .i64 x9, .bool x10] 30))
  have HK1 := Lib.hid (show ∀ j, (w1.alloc (.cells #[.int .i64 x0, .int .i64 x1, .int .i64 x2, .int .i64 x3, .bool x4, .bool x5, .int .i64 x6, .int .i64 x7, .int .i64 x8, .int .i64 x9, .bool x10] 30)).cell? ⟨w1.heap.size, j, none⟩ = (#[.int .i64 x0, .int .i64 x1, .int .i64 x2, .int .i64 x3, .bool x4, .bool x5, .int .i64 x6, .int .i64 x7, .int .i64 x8, .int .i64 x9, .bool x10] : Array Value)[j]? from fun j => cell_of_row _ _ j _ _ (0, 0) (heap_alloc_new w1 _))
  have cW := HC.out _ HB.out
  have p6 := HK1.out 6
  simp only [List.getElem?_toArray, List.getElem?_cons_succ, List.getElem?_cons_zero] at p6
  clear hb1 c0 HG HK1
  obtain ⟨W, hW⟩ : ∃ W, w1.alloc (.cells #[.int .i64 x0, .int .i64 x1, .int .i64 x2, .int .i64 x3, .bool x4, .bool x5, .int .i64 x6, .int .i64 x7, .int .i64 x8, .int .i64 x9, .bool x10] 30) = W := ⟨_, rfl⟩
  rw [hW] at HB cW p6
  obtain ⟨qo, hqo⟩ : ∃ qo, w1.heap.size = qo := ⟨_, rfl⟩
  rw [hqo] at p6
  have HTT := Lib.hid (fun (w' : World) (hb : Below W.heap.size W w') => HT.out w' (stepB HB.out hb))
  have HI := Lib.hid (show Below W.heap.size W W ∧ _ ∧ _ from ⟨Below.refl _ _, cW, p6⟩)
  clear HT HC
  obtain ⟨q, b, tb, s, r0, G⟩ := g
  dsimp only at HI HTT ⊢
  go_upto_region 2 with fail
  clear hW hqo cW p6
  go_region_held3 (fun w' => Below W.heap.size W w' ∧ w'.cell? ⟨q, 0, none⟩ = some (.pointer (some ⟨b, 0, none⟩)) ∧ w'.cell? ⟨qo, 6, none⟩ = some (.int .i64 x6))
    (first | assumption | (with_reducible exact HI.out) | exact keepL2 ((Below.refl _ _).drew) HI.out | exact keepL2 (by assumption) (by assumption))
    ((go_at_call 114; refine (HTT.out _ (And.left (by assumption))).mono ?_; rintro e w2 ⟨rfl, hb2⟩))
  all_goals
    have hB : Below W.heap.size W _ := And.left (by assumption : _ ∧ _)
    have HB2 := Lib.hid (stepB HB.out hB)
    go_wp2
    go_ret
    exact ⟨rfl, HB2.out⟩
end Go.Proofs.YtjgjhfeopmakaaaGreat
