/- A store's cards (layers 6, 7): Store.Card, isLand. Taps, and what no store has (layer 7). A seat's lands, in plain words (layer 7): which they are, and what is left when some are tapped. -/
import Derived.Test.YtjgjhfeopmakaaaGreatHf
import Derived.Test.YtjgjhfeopmakaaaGreatHl
namespace Go.Proofs.YtjgjhfeopmakaaaGreat
open Go.RowKit Go.Maps

def RetCard (w : World) (c : Crd.CardL) (n : Int) (e : Ending) (w' : World) : Prop := ∃ xa xc, e = .returned (.tuple #[Crd.cagg c (.slice xa c.terms.length xc), .int .i64 n]) ∧ Crd.TermsIs w' (.slice xa c.terms.length xc) c.terms ∧ Below w.heap.size w w'
theorem rows_form {B : Nat} {w : World} {v : Value} {l : List Crd.TermL} (h : Crd.RowsC B w v l) : ∃ xa xc, v = .slice xa l.length xc := by
  rcases h with ⟨rfl, rfl⟩ | ⟨g, cap, rfl, _⟩
  · exact ⟨none, 0, rfl⟩
  · exact ⟨_, cap, rfl⟩
theorem rowsC_set {B : Nat} {w : World} {v : Value} {l : List Crd.TermL} {p : Addr} {u : Value} (h : Crd.RowsC B w v l) (hp : p.block < B) : Crd.RowsC B (w.setCell p u) v l := by
  rcases h with h | ⟨g, cap, e, h0, hB, hg, hr⟩
  · exact .inl h
  · exact .inr ⟨g, cap, e, h0, hB, by simpa using hg, hr.far (by omega) u⟩
set_option maxRecDepth 100000 in
set_option maxHeartbeats 4000000 in
theorem card_ok {w : World} {lo b : Nat} {G : Ghost} {S : StoreL} (h : StoreAt w lo b G S) (hS : S.objs.length ≤ 1000) (k n : Nat) (hk : k < S.objs.length) (hn : n < S.T.length) (hc : S.objs[k].card = n) :
    Calls Tryz.prog 78 #[.pointer (some ⟨b, 0, none⟩), .int .i64 ((k : Int) + 1)] w (RetCard w S.T[n] 0) := by
  have HG := Lib.hid (fun (w' : World) (hb : Below w.heap.size w w') => get_in (h.later hb) hS k hk)
  obtain ⟨c, hcq⟩ : ∃ c, S.T[n] = c := ⟨_, rfl⟩
  have hmt0 := may_terms h.ok n hn
  rw [hcq] at hmt0 ⊢
  have HMT := Lib.hid hmt0
  have HC := Lib.hid hcq
  clear hcq hmt0
  obtain ⟨x, hx⟩ : ∃ x, S.objs[k] = x := ⟨_, rfl⟩
  rw [hx] at HG hc
  obtain ⟨x0, x1, x2, x3, x4, x5, x6, x7, x8, x9, x10⟩ := x
  dsimp only at hc
  subst hc
  unfold RetGet oagg at HG
  have HH := Lib.hid h
  have HN := Lib.hid hn
  clear h hx
  dsimp only at HG
  go_enter Tryz.func78, Tryz.ntmps78
  go_wp2_with fail
  refine (HG.out _ (below_new w _)).mono ?_
  rintro e w1 ⟨rfl, hb1⟩
  obtain ⟨W, hW⟩ : ∃ W, w1.alloc (.cells #[.int .i64 x0, .int .i64 n, .int .i64 x2, .int .i64 x3, .bool x4, .bool x5, .int .i64 x6, .int .i64 x7, .int .i64 x8, .int .i64 x9, .bool x10] 30) = W := ⟨_, rfl⟩
  have hbx := stepB hb1 (hW ▸ below_new w1 _)
  have hbw : Below w.heap.size w W := stepB (below_new w _) hbx
  have q1 : W.cell? ⟨w1.heap.size, 1, none⟩ = some (.int .i64 n) := by rw [← hW, cell_of_row _ _ 1 _ _ _ (heap_alloc_new w1 _)]; rfl
  have hh := HH.out.later hbw
  have c0 : W.cell? ⟨b, 0, none⟩ = some G.tv := by rw [cell_of_row W b 0 _ _ _ hh.hd]; rfl
  have ht := hh.tab.is
  obtain ⟨xa, xc, hv⟩ := ht.form
  rw [hv] at ht c0
  obtain ⟨tb, off, rfl, hcc⟩ := ht.at n HN.out
  have hmt := HMT.out
  rw [HC.out] at hcc
  obtain ⟨ya, yc, t0, t1, t2, t3, t4, t5, t6, tt⟩ := hcc
  have HCP := Lib.hid (fun (w' : World) (hb : Below W.heap.size W w') => Crd.copy_any (c := c) (xa := ya) (xc := yc) (tt.later hb) hmt)
  unfold Crd.cagg at HCP
  obtain ⟨hcW, hfW⟩ := Crd.bcell hbx
  have f0 : ∀ j, W.frozen? ⟨w.heap.size, j, none⟩ = false := fun j => by rw [hfW _ _ (by simp; try omega)]; simp [go_sem]
  have z0 : W.cell? ⟨w.heap.size, 0, none⟩ = some (.int .i64 0) := by rw [hcW _ _ (by simp; try omega)]; simp [go_sem]
  have z1 : W.cell? ⟨w.heap.size, 1, none⟩ = some (.int .i64 0) := by rw [hcW _ _ (by simp; try omega)]; simp [go_sem]
  have z2 : W.cell? ⟨w.heap.size, 2, none⟩ = some (.int .i64 0) := by rw [hcW _ _ (by simp; try omega)]; simp [go_sem]
  have z3 : W.cell? ⟨w.heap.size, 3, none⟩ = some (.int .i64 0) := by rw [hcW _ _ (by simp; try omega)]; simp [go_sem]
  have z4 : W.cell? ⟨w.heap.size, 4, none⟩ = some (.int .i64 0) := by rw [hcW _ _ (by simp; try omega)]; simp [go_sem]
  have z5 : W.cell? ⟨w.heap.size, 5, none⟩ = some (.int .i64 0) := by rw [hcW _ _ (by simp; try omega)]; simp [go_sem]
  have z6 : W.cell? ⟨w.heap.size, 6, none⟩ = some (.slice none 0 0) := by rw [hcW _ _ (by simp; try omega)]; simp [go_sem]
  have d0 : (0 : Int) ≤ n := by omega
  have d1 : (n : Int) < S.T.length := by have := HN.out; omega
  have HBW := Lib.hid hbw
  have HSZ := Lib.hid (show w.heap.size < W.heap.size by have := hbx.size; rw [World.size_alloc] at this; omega)
  subst hW
  clear hh ht hv hb1 hbx hbw tt hmt hcW hfW
  go_wp2
  go_region_with ((go_at_call 94; refine (HCP.out _ (Below.refl _ _).drew).mono ?_; rintro e w2 ⟨v, rfl, hr2, hb2⟩; have hb3 := stepB (Below.refl _ _).drew hb2; have hfz := fun j => (Crd.bcell hb3).2 w.heap.size j HSZ.out; have g0 := (hfz 0).trans (f0 0); have g1 := (hfz 1).trans (f0 1); have g2 := (hfz 2).trans (f0 2); have g3 := (hfz 3).trans (f0 3); have g4 := (hfz 4).trans (f0 4); have g5 := (hfz 5).trans (f0 5); have g6 := (hfz 6).trans (f0 6); have y0 := cell_stays hb3 z0; have y1 := cell_stays hb3 z1; have y2 := cell_stays hb3 z2; have y3 := cell_stays hb3 z3; have y4 := cell_stays hb3 z4; have y5 := cell_stays hb3 z5; have y6 := cell_stays hb3 z6; have HR2 := Lib.hid hr2; have HB3 := Lib.hid hb3; obtain ⟨va, vc, rfl⟩ := rows_form hr2; clear hr2 hb2 hb3 hfz; unfold Crd.cagg; dsimp only))
  all_goals
    go_wp2
    have hlt := HSZ.out
    refine bodyPost_ret (by simp [results, Tryz.results78, go_sem, y0, y1, y2, y3, y4, y5, y6]; rfl) rfl ⟨va, vc, rfl, ?_, ?_⟩
    · exact (rowsC_set (rowsC_set (rowsC_set (rowsC_set (rowsC_set (rowsC_set (rowsC_set HR2.out hlt) hlt) hlt) hlt) hlt) hlt) hlt).is
    · exact (((((((stepB HBW.out HB3.out).setCell (Nat.le_refl _) _).setCell (Nat.le_refl _) _).setCell (Nat.le_refl _) _).setCell (Nat.le_refl _) _).setCell (Nat.le_refl _) _).setCell (Nat.le_refl _) _).setCell (Nat.le_refl _) _
/-- Is it a Land? -/
def isLandB (T : List Crd.CardL) (n : Int) : Bool := (T[n.toNat]?.map fun c => decide (c.kind = 1)).getD false
end Go.Proofs.YtjgjhfeopmakaaaGreat
namespace Go.Proofs.YtjgjhfeopmakaaaGreat
open Go.RowKit Go.Maps
attribute [local go_sem] Oper.semAt_some

def tapO (o : ObjL) : ObjL := ⟨o.id, o.card, o.owner, o.zone, true, o.sick, o.hurt, o.count, o.boost, o.block, o.attacks⟩
def setL (S : StoreL) (k : Nat) (x : ObjL) : StoreL := { S with objs := S.objs.set k x }
theorem RetS.of {w w0 : World} {lo b : Nat} {G G0 : Ghost} {S : StoreL} {v : Value} {e : Ending} {w' : World} (h : RetS w lo b G S v e w') (ht : Turned w0 w G0 G) : RetS w0 lo b G0 S v e w' := by
  obtain ⟨rfl, G', h1, h2⟩ := h
  exact ⟨rfl, G', h1, ht.trans h2⟩
end Go.Proofs.YtjgjhfeopmakaaaGreat
namespace Go.Proofs.YtjgjhfeopmakaaaGreat
open Go.RowKit Go.Maps

theorem WfS.like {S : StoreL} (h : WfS S) {l' : List ObjL} (hlen : l'.length = S.objs.length) (hget : ∀ k (hk : k < S.objs.length) (hk' : k < l'.length), l'[k].id = S.objs[k].id ∧ l'[k].card = S.objs[k].card ∧ l'[k].owner = S.objs[k].owner ∧ l'[k].zone = S.objs[k].zone) : WfS { S with objs := l' } := by
  refine ⟨fun j hj => ?_, h.nodup, fun s z ok id => ?_⟩
  · have hj' : j < S.objs.length := hlen ▸ hj
    have := hget j hj' hj
    show l'[j].id = _ ∧ _
    rw [this.1, this.2.1, this.2.2.1, this.2.2.2]
    exact h.ids j hj'
  · rw [h.mem s z ok id]
    show _ ↔ ∃ j, ∃ hj : j < l'.length, _
    constructor
    · rintro ⟨j, hj, e1, e2, e3⟩
      have := hget j hj (hlen.symm ▸ hj)
      refine ⟨j, hlen.symm ▸ hj, e1, ?_, ?_⟩
      · rw [← e2]; unfold keyS; rw [this.2.2.1, this.2.2.2]
      · rw [← e3, this.2.2.2]
    · rintro ⟨j, hj, e1, e2, e3⟩
      have hj' : j < S.objs.length := hlen ▸ hj
      have := hget j hj' hj
      refine ⟨j, hj', e1, ?_, ?_⟩
      · rw [← e2]; unfold keyS; rw [this.2.2.1, this.2.2.2]
      · rw [← e3, this.2.2.2]
end Go.Proofs.YtjgjhfeopmakaaaGreat
