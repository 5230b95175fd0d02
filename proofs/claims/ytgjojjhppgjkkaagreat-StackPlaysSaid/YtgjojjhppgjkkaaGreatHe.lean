/- How an object comes (layer 6): card.Has, fresh. -/
import Derived.Test.YtgjojjhppgjkkaaGreatHd
namespace Go.Proofs.YtgjojjhppgjkkaaGreat
open Go.RowKit Go.Maps

def hasB (c : Crd.CardL) (key : Int) : Bool := decide (0 < key) && (bits .and .i64 c.keys key == key)
set_option maxRecDepth 100000 in
set_option maxHeartbeats 2000000 in
theorem cardHas_any (c : Crd.CardL) (v : Value) (key : Int) (w : World) : Calls Tryz.prog 103 #[Crd.cagg c v, .int .i64 key] w (RetV w (.bool (hasB c key))) := by
  unfold hasB
  cases hk : decide (0 < key)
  · unfold Crd.cagg
    go_enter Tryz.func103, Tryz.ntmps103
    go_wp2
    go_ret
    exact ⟨rfl, below_new w _⟩
  · have hk' := of_decide_eq_true hk
    unfold Crd.cagg
    go_enter Tryz.func103, Tryz.ntmps103
    go_wp2
    go_ret
    exact ⟨ret_bool (by simp), below_new w _⟩
/-- An object as it comes. -/
def sickB (c : Crd.CardL) (z : Int) : Bool := decide (z = 3) && (decide (c.kind = 2) && !hasB c 1)
def freshO (T : List Crd.CardL) (id n owner zone : Int) : ObjL := ⟨id, n, owner, zone, false, (T[n.toNat]?.map fun c => sickB c zone).getD false, 0, 0, 0, 0, false⟩
def RetO (w : World) (o : ObjL) (e : Ending) (w' : World) : Prop := e = .returned (oagg o) ∧ Below w.heap.size w w'
theorem two_nums (w : World) (x : Int) : Crd.NumsAt (w.alloc (.cells #[.int .i64 x] 3)) (.slice (some ⟨w.heap.size, 0, none⟩) 1 1) [x] :=
  .inr ⟨w.heap.size, 0, 1, rfl, by simp, fun i hi => by
    have : i = 0 := by simp at hi; omega
    subst this
    rw [cell_of_row _ _ _ _ _ _ (heap_alloc_new w _)]; rfl⟩
def ccs (c : Crd.CardL) (v : Value) : Array Value := #[.int .i64 c.kind, .int .i64 c.cost, .int .i64 c.power, .int .i64 c.tough, .int .i64 c.keys, .int .i64 c.whn, v]
theorem box_card (w : World) (c : Crd.CardL) (v : Value) : ∀ j, (w.alloc (.cells (ccs c v) 45)).cell? ⟨w.heap.size, j, none⟩ = (ccs c v)[j]? := fun j => cell_of_row _ _ j _ _ (0, 0) (heap_alloc_new w _)
set_option maxRecDepth 100000 in
set_option maxHeartbeats 4000000 in
theorem fresh_any {w : World} {lo b : Nat} {G : Ghost} {S : StoreL} (h : StoreAt w lo b G S) (id owner zone : Int) (n : Nat) (hn : n < S.T.length) :
    Calls Tryz.prog 63 #[.pointer (some ⟨b, 0, none⟩), .int .i64 id, .int .i64 n, .int .i64 owner, .int .i64 zone] w (RetO w (freshO S.T id n owner zone)) := by
  have hs : freshO S.T id n owner zone = ⟨id, n, owner, zone, false, sickB S.T[n] zone, 0, 0, 0, 0, false⟩ := by simp [freshO, hn]
  rw [hs]
  obtain ⟨W, hW⟩ : ∃ W, w.alloc (.cells #[.int .i64 0, .int .i64 0, .int .i64 0, .int .i64 0, .bool false, .bool false, .int .i64 0, .int .i64 0, .int .i64 0, .int .i64 0, .bool false] 35) = W := ⟨_, rfl⟩
  have hb : Below w.heap.size w W := hW ▸ below_new w _
  have hh := h.later hb
  have c0 : W.cell? ⟨b, 0, none⟩ = some G.tv := by rw [cell_of_row W b 0 _ _ _ hh.hd]; rfl
  have ht := hh.tab.is
  obtain ⟨xa, xc, hv⟩ := ht.form
  rw [hv] at ht c0
  obtain ⟨tb, off, rfl, hcc⟩ := ht.at n hn
  obtain ⟨c, hc⟩ : ∃ c, S.T[n] = c := ⟨_, rfl⟩
  rw [hc] at hcc ⊢
  obtain ⟨ya, yc, t0, t1, t2, t3, t4, t5, t6, _⟩ := hcc
  obtain ⟨p0, p1, p2, p3, p4, p5, p6, p7, p8, p9, p10⟩ : ObjCells W w.heap.size 0 zeroO := hW ▸ box_obj w zeroO
  simp only [Nat.zero_add, zeroO] at p0 p1 p2 p3 p4 p5 p6 p7 p8 p9 p10
  have HF := Lib.hid (fun j => frozen_of_row W w.heap.size j _ _ (hW ▸ heap_alloc_new w _))
  have HB := Lib.hid hb
  have d0 : (0 : Int) ≤ n := by omega
  have d1 : (n : Int) < S.T.length := by omega
  subst hW
  clear hh ht hv h hs hb hc
  go_enter Tryz.func63, Tryz.ntmps63
  by_cases hz : zone = 3
  · subst hz
    obtain ⟨kd, hkd⟩ : ∃ kd, decide (c.kind = 2) = kd := ⟨_, rfl⟩
    have HI := Lib.hid (fun (w' : World) (v : Value) (hv : Crd.NumsAt w' v [2]) => (Crd.is_any c ya c.terms.length yc v [2] w' (by decide) hv))
    have hcon : ([2] : List Int).contains c.kind = kd := by rw [← hkd]; by_cases e : c.kind = 2 <;> simp [e]
    rw [hcon] at HI
    unfold Crd.cagg at HI
    have HX := Lib.hid (fun (w' : World) => cardHas_any c (.slice ya c.terms.length yc) 1 w')
    unfold Crd.cagg at HX
    obtain ⟨hb1, hhb1⟩ : ∃ x, hasB c 1 = x := ⟨_, rfl⟩
    rw [hhb1] at HX
    have HSK := Lib.hid (show sickB c 3 = (kd && !hb1) by unfold sickB; rw [hkd, hhb1]; rfl)
    rw [HSK.out]
    clear hcon hkd hhb1
    go_wp2_with fail
    refine (HI.out _ _ ?nn).mono ?_
    case nn =>
      refine .inr ⟨_, 0, 1, rfl, by simp, fun i hi => ?_⟩
      obtain rfl : i = 0 := by simp at hi; omega
      simp [go_sem]
    rintro e w4 ⟨rfl, hb4⟩
    obtain ⟨hc4, hf4⟩ := Crd.bcell hb4
    have a0 : w4.cell? ⟨w.heap.size, 0, none⟩ = some (.int .i64 0) := by rw [hc4 _ _ (by simp; try omega)]; simp [go_sem]
    have a1 : w4.cell? ⟨w.heap.size, 1, none⟩ = some (.int .i64 0) := by rw [hc4 _ _ (by simp; try omega)]; simp [go_sem]
    have a2 : w4.cell? ⟨w.heap.size, 2, none⟩ = some (.int .i64 0) := by rw [hc4 _ _ (by simp; try omega)]; simp [go_sem]
    have a3 : w4.cell? ⟨w.heap.size, 3, none⟩ = some (.int .i64 0) := by rw [hc4 _ _ (by simp; try omega)]; simp [go_sem]
    have a4 : w4.cell? ⟨w.heap.size, 4, none⟩ = some (.bool false) := by rw [hc4 _ _ (by simp; try omega)]; simp [go_sem]
    have a5 : w4.cell? ⟨w.heap.size, 5, none⟩ = some (.bool false) := by rw [hc4 _ _ (by simp; try omega)]; simp [go_sem]
    have a6 : w4.cell? ⟨w.heap.size, 6, none⟩ = some (.int .i64 0) := by rw [hc4 _ _ (by simp; try omega)]; simp [go_sem]
    have a7 : w4.cell? ⟨w.heap.size, 7, none⟩ = some (.int .i64 0) := by rw [hc4 _ _ (by simp; try omega)]; simp [go_sem]
    have a8 : w4.cell? ⟨w.heap.size, 8, none⟩ = some (.int .i64 0) := by rw [hc4 _ _ (by simp; try omega)]; simp [go_sem]
    have a9 : w4.cell? ⟨w.heap.size, 9, none⟩ = some (.int .i64 0) := by rw [hc4 _ _ (by simp; try omega)]; simp [go_sem]
    have a10 : w4.cell? ⟨w.heap.size, 10, none⟩ = some (.bool false) := by rw [hc4 _ _ (by simp; try omega)]; simp [go_sem]
    have fa : ∀ j, w4.frozen? ⟨w.heap.size, j, none⟩ = false := fun j => by rw [hf4 _ _ (by simp; try omega)]; simp [go_sem]
    have e0 : w4.cell? ⟨w.heap.size + 1, 0, none⟩ = some (.int .i64 c.kind) := by rw [hc4 _ _ (by simp; try omega)]; simp [go_sem]
    have e1 : w4.cell? ⟨w.heap.size + 1, 1, none⟩ = some (.int .i64 c.cost) := by rw [hc4 _ _ (by simp; try omega)]; simp [go_sem]
    have e2 : w4.cell? ⟨w.heap.size + 1, 2, none⟩ = some (.int .i64 c.power) := by rw [hc4 _ _ (by simp; try omega)]; simp [go_sem]
    have e3 : w4.cell? ⟨w.heap.size + 1, 3, none⟩ = some (.int .i64 c.tough) := by rw [hc4 _ _ (by simp; try omega)]; simp [go_sem]
    have e4 : w4.cell? ⟨w.heap.size + 1, 4, none⟩ = some (.int .i64 c.keys) := by rw [hc4 _ _ (by simp; try omega)]; simp [go_sem]
    have e5 : w4.cell? ⟨w.heap.size + 1, 5, none⟩ = some (.int .i64 c.whn) := by rw [hc4 _ _ (by simp; try omega)]; simp [go_sem]
    have e6 : w4.cell? ⟨w.heap.size + 1, 6, none⟩ = some (.slice ya c.terms.length yc) := by rw [hc4 _ _ (by simp; try omega)]; simp [go_sem]
    have HB4 := Lib.hid (show Below w.heap.size w w4 from stepB (below_alloc2 (below_alloc2 (below_new w _) _) _) hb4)
    have hsz : w.heap.size < w4.heap.size := by have := hb4.size; simp at this; omega
    clear hc4 hf4 hb4
    dsimp only
    cases kd
    · go_wp2
      refine bodyPost_ret (by simp [results, Tryz.results63, go_sem, a0, a1, a2, a3, a4, a5, a6, a7, a8, a9, a10]; rfl) rfl ⟨rfl, ?_⟩
      exact (((((((((((HB4.out.setCell (by simp) _).setCell (by simp) _).setCell (by simp) _).setCell (by simp) _).setCell (by simp) _).setCell (by simp) _).setCell (by simp) _).setCell (by simp) _).setCell (by simp) _).setCell (by simp) _).setCell (by simp) _)
    · go_wp2_with fail
      refine (HX.out _).mono ?_
      rintro e w5 ⟨rfl, hb5⟩
      have g0 := cell_stays hb5 a0
      have g1 := cell_stays hb5 a1
      have g2 := cell_stays hb5 a2
      have g3 := cell_stays hb5 a3
      have g4 := cell_stays hb5 a4
      have g5 := cell_stays hb5 a5
      have g6 := cell_stays hb5 a6
      have g7 := cell_stays hb5 a7
      have g8 := cell_stays hb5 a8
      have g9 := cell_stays hb5 a9
      have g10 := cell_stays hb5 a10
      clear a0 a1 a2 a3 a4 a5 a6 a7 a8 a9 a10
      have fg : ∀ j, w5.frozen? ⟨w.heap.size, j, none⟩ = false := fun j => by rw [(Crd.bcell hb5).2 _ _ hsz]; exact fa j
      clear fa
      have HB5 := Lib.hid (stepB HB4.out hb5)
      dsimp only
      go_wp2
      refine bodyPost_ret (by simp [results, Tryz.results63, go_sem, g0, g1, g2, g3, g4, g5, g6, g7, g8, g9, g10]; rfl) rfl ⟨rfl, ?_⟩
      exact (((((((((((HB5.out.setCell (by simp) _).setCell (by simp) _).setCell (by simp) _).setCell (by simp) _).setCell (by simp) _).setCell (by simp) _).setCell (by simp) _).setCell (by simp) _).setCell (by simp) _).setCell (by simp) _).setCell (by simp) _)
  · have e3 : (zone == 3) = false := beq_eq_false_iff_ne.2 hz
    have hsk : sickB c zone = false := by unfold sickB; rw [decide_eq_false hz]; rfl
    rw [hsk]
    go_wp2
    refine bodyPost_ret (by simp [results, Tryz.results63, go_sem]; rfl) rfl ⟨rfl, ?_⟩
    exact below_alloc2 (below_new w _) _
end Go.Proofs.YtgjojjhppgjkkaaGreat
