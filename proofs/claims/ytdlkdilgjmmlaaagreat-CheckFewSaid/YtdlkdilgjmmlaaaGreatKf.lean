/- A store's Card, with terms in a row of the call's own; what terms leave of a store (layer 12). What an entry does, and Resolve (layer 12). -/
import Derived.Test.YtdlkdilgjmmlaaaGreatBi
import Derived.Test.YtdlkdilgjmmlaaaGreatBj
import Derived.Test.YtdlkdilgjmmlaaaGreatKd
import Derived.Deep.Cut
import Derived.Deep.DeepCutAuto
namespace Go.Proofs.YtdlkdilgjmmlaaaGreat
open Go.RowKit Go.Maps
attribute [local go_sem] Oper.semAt_some

theorem rowsC_mono {B B' : Nat} {w : World} {v : Value} {l : List Crd.TermL} (h : Crd.RowsC B w v l) (hb : B' ≤ B) : Crd.RowsC B' w v l := by
  rcases h with h | ⟨g, cap, e, h0, hB, hg, hr⟩
  · exact .inl h
  · exact .inr ⟨g, cap, e, h0, Nat.le_trans hb hB, hg, hr⟩
def RetCardR (w : World) (c : Crd.CardL) (n : Int) (e : Ending) (w' : World) : Prop := ∃ v, e = .returned (.tuple #[Crd.cagg c v, .int .i64 n]) ∧ Crd.RowsC w.heap.size w' v c.terms ∧ Below w.heap.size w w'
set_option maxRecDepth 100000 in
set_option maxHeartbeats 4000000 in
theorem cardR_ok {w : World} {lo b : Nat} {G : Ghost} {S : StoreL} (h : StoreAt w lo b G S) (hS : S.objs.length ≤ 1000) (k n : Nat) (hk : k < S.objs.length) (hn : n < S.T.length) (hc : S.objs[k].card = n) :
    Calls Tryz.prog 84 #[.pointer (some ⟨b, 0, none⟩), .int .i64 ((k : Int) + 1)] w (RetCardR w S.T[n] 0) := by
  have HG := Lib.hid (fun (w' : World) (hb : Below w.heap.size w w') => get_in (h.later hb) hS k hk)
  obtain ⟨c, hcq⟩ : ∃ c, S.T[n] = c := ⟨_, rfl⟩
  have hmt0 := may_terms h.ok n hn
  rw [hcq] at hmt0 ⊢
  have HMT := Lib.hid hmt0
  have HC := Lib.hid hcq
  clear hcq hmt0
  obtain ⟨x, hx⟩ : ∃ x, S.objs[k] = x := ⟨_, rfl⟩
  rw [hx] at HG hc
  obtain ⟨x0, x1, x2, x3, x4, x5, x6, x7, x8, x9, x10⟩ := x
  dsimp only at hc
  subst hc
  unfold RetGet oagg at HG
  have HH := Lib.hid h
  have HN := Lib.hid hn
  clear h hx
  dsimp only at HG
  go_enter Tryz.func84, Tryz.ntmps84
  go_wp2_with fail
  refine (HG.out _ (below_new w _)).mono ?_
  rintro e w1 ⟨rfl, hb1⟩
  obtain ⟨W, hW⟩ : ∃ W, w1.alloc (.cells #[.int .i64 x0, .int .i64 n, .int .i64 x2, .int .i64 x3, .bool x4, .bool x5, .int .i64 x6, .int .i64 x7, .int .i64 x8, .int .i64 x9, .bool x10] 39) = W := ⟨_, rfl⟩
  have hbx := stepB hb1 (hW ▸ below_new w1 _)
  have hbw : Below w.heap.size w W := stepB (below_new w _) hbx
  have q1 : W.cell? ⟨w1.heap.size, 1, none⟩ = some (.int .i64 n) := by rw [← hW, cell_of_row _ _ 1 _ _ _ (heap_alloc_new w1 _)]; rfl
  have hh := HH.out.later hbw
  have c0 : W.cell? ⟨b, 0, none⟩ = some G.tv := by rw [cell_of_row W b 0 _ _ _ hh.hd]; rfl
  have ht := hh.tab.is
  obtain ⟨xa, xc, hv⟩ := ht.form
  rw [hv] at ht c0
  obtain ⟨tb, off, rfl, hcc⟩ := ht.at n HN.out
  have hmt := HMT.out
  rw [HC.out] at hcc
  obtain ⟨ya, yc, t0, t1, t2, t3, t4, t5, t6, tt⟩ := hcc
  have HCP := Lib.hid (fun (w' : World) (hb : Below W.heap.size W w') => Crd.copy_any (c := c) (xa := ya) (xc := yc) (tt.later hb) hmt)
  unfold Crd.cagg at HCP
  obtain ⟨hcW, hfW⟩ := Crd.bcell hbx
  have f0 : ∀ j, W.frozen? ⟨w.heap.size, j, none⟩ = false := fun j => by rw [hfW _ _ (by simp; try omega)]; simp [go_sem]
  have z0 : W.cell? ⟨w.heap.size, 0, none⟩ = some (.int .i64 0) := by rw [hcW _ _ (by simp; try omega)]; simp [go_sem]
  have z1 : W.cell? ⟨w.heap.size, 1, none⟩ = some (.int .i64 0) := by rw [hcW _ _ (by simp; try omega)]; simp [go_sem]
  have z2 : W.cell? ⟨w.heap.size, 2, none⟩ = some (.int .i64 0) := by rw [hcW _ _ (by simp; try omega)]; simp [go_sem]
  have z3 : W.cell? ⟨w.heap.size, 3, none⟩ = some (.int .i64 0) := by rw [hcW _ _ (by simp; try omega)]; simp [go_sem]
  have z4 : W.cell? ⟨w.heap.size, 4, none⟩ = some (.int .i64 0) := by rw [hcW _ _ (by simp; try omega)]; simp [go_sem]
  have z5 : W.cell? ⟨w.heap.size, 5, none⟩ = some (.int .i64 0) := by rw [hcW _ _ (by simp; try omega)]; simp [go_sem]
  have z6 : W.cell? ⟨w.heap.size, 6, none⟩ = some (.slice none 0 0) := by rw [hcW _ _ (by simp; try omega)]; simp [go_sem]
  have d0 : (0 : Int) ≤ n := by omega
  have d1 : (n : Int) < S.T.length := by have := HN.out; omega
  have HBW := Lib.hid hbw
  have HSZ := Lib.hid (show w.heap.size < W.heap.size by have := hbx.size; rw [World.size_alloc] at this; omega)
  subst hW
  clear hh ht hv hb1 hbx hbw tt hmt hcW hfW
  go_wp2
  go_region_with ((go_at_call 121; refine (HCP.out _ (Below.refl _ _).drew).mono ?_; rintro e w2 ⟨v, rfl, hr2, hb2⟩; have hb3 := stepB (Below.refl _ _).drew hb2; have hfz := fun j => (Crd.bcell hb3).2 w.heap.size j HSZ.out; have g0 := (hfz 0).trans (f0 0); have g1 := (hfz 1).trans (f0 1); have g2 := (hfz 2).trans (f0 2); have g3 := (hfz 3).trans (f0 3); have g4 := (hfz 4).trans (f0 4); have g5 := (hfz 5).trans (f0 5); have g6 := (hfz 6).trans (f0 6); have y0 := cell_stays hb3 z0; have y1 := cell_stays hb3 z1; have y2 := cell_stays hb3 z2; have y3 := cell_stays hb3 z3; have y4 := cell_stays hb3 z4; have y5 := cell_stays hb3 z5; have y6 := cell_stays hb3 z6; have HR2 := Lib.hid hr2; have HB3 := Lib.hid hb3; obtain ⟨va, vc, rfl⟩ := rows_form hr2; clear hr2 hb2 hb3 hfz; unfold Crd.cagg; dsimp only))
  all_goals
    go_wp2
    have hlt := HSZ.out
    refine bodyPost_ret (by simp [results, Tryz.results84, go_sem, y0, y1, y2, y3, y4, y5, y6]; rfl) rfl ⟨.slice va c.terms.length vc, rfl, ?_, ?_⟩
    · exact rowsC_mono (rowsC_set (rowsC_set (rowsC_set (rowsC_set (rowsC_set (rowsC_set (rowsC_set HR2.out hlt) hlt) hlt) hlt) hlt) hlt) hlt) (Nat.le_of_lt hlt)
    · exact (((((((stepB HBW.out HB3.out).setCell (Nat.le_refl _) _).setCell (Nat.le_refl _) _).setCell (Nat.le_refl _) _).setCell (Nat.le_refl _) _).setCell (Nat.le_refl _) _).setCell (Nat.le_refl _) _).setCell (Nat.le_refl _) _
set_option maxRecDepth 100000 in
set_option maxHeartbeats 4000000 in
theorem cardR_out {w : World} {p : Option Addr} {i n : Int} (hn : n ≠ 0) (h : ∀ w' : World, Below w.heap.size w w' → Calls Tryz.prog 10 #[.pointer p, .int .i64 i] w' (RetGet w' zeroO n)) :
    Calls Tryz.prog 84 #[.pointer p, .int .i64 i] w (RetCardR w zeroC n) := by
  have HG := Lib.hid h
  have e0 : (n != 0) = true := bne_iff_ne.2 hn
  unfold RetGet oagg zeroO at HG
  dsimp only at HG
  clear h hn
  go_enter Tryz.func84, Tryz.ntmps84
  go_wp2_with fail
  refine (HG.out _ (below_new w _)).mono ?_
  rintro e w1 ⟨rfl, hb1⟩
  have hbx := below_alloc2 hb1 (.cells #[.int .i64 0, .int .i64 0, .int .i64 0, .int .i64 0, .bool false, .bool false, .int .i64 0, .int .i64 0, .int .i64 0, .int .i64 0, .bool false] 39)
  have HB := Lib.hid (stepB (below_new w _) hbx)
  obtain ⟨W, hW⟩ : ∃ W, w1.alloc (.cells #[.int .i64 0, .int .i64 0, .int .i64 0, .int .i64 0, .bool false, .bool false, .int .i64 0, .int .i64 0, .int .i64 0, .int .i64 0, .bool false] 39) = W := ⟨_, rfl⟩
  have HW := Lib.hid hW
  rw [hW] at hbx HB
  obtain ⟨hcW, hfW⟩ := Crd.bcell hbx
  have f0 : ∀ j, W.frozen? ⟨w.heap.size, j, none⟩ = false := fun j => by rw [hfW _ _ (by simp; try omega)]; simp [go_sem]
  have z0 : W.cell? ⟨w.heap.size, 0, none⟩ = some (.int .i64 0) := by rw [hcW _ _ (by simp; try omega)]; simp [go_sem]
  have z1 : W.cell? ⟨w.heap.size, 1, none⟩ = some (.int .i64 0) := by rw [hcW _ _ (by simp; try omega)]; simp [go_sem]
  have z2 : W.cell? ⟨w.heap.size, 2, none⟩ = some (.int .i64 0) := by rw [hcW _ _ (by simp; try omega)]; simp [go_sem]
  have z3 : W.cell? ⟨w.heap.size, 3, none⟩ = some (.int .i64 0) := by rw [hcW _ _ (by simp; try omega)]; simp [go_sem]
  have z4 : W.cell? ⟨w.heap.size, 4, none⟩ = some (.int .i64 0) := by rw [hcW _ _ (by simp; try omega)]; simp [go_sem]
  have z5 : W.cell? ⟨w.heap.size, 5, none⟩ = some (.int .i64 0) := by rw [hcW _ _ (by simp; try omega)]; simp [go_sem]
  have z6 : W.cell? ⟨w.heap.size, 6, none⟩ = some (.slice none 0 0) := by rw [hcW _ _ (by simp; try omega)]; simp [go_sem]
  clear hb1 hbx hcW hfW hW
  go_upto_region 2 with fail
  rw [HW.out]
  go_wp2
  refine bodyPost_ret (by simp [results, Tryz.results84, go_sem, z0, z1, z2, z3, z4, z5, z6]; rfl) rfl ⟨.slice none 0 0, rfl, .inl ⟨rfl, rfl⟩, ?_⟩
  exact (((((((HB.out).setCell (Nat.le_refl _) _).setCell (Nat.le_refl _) _).setCell (Nat.le_refl _) _).setCell (Nat.le_refl _) _).setCell (Nat.le_refl _) _).setCell (Nat.le_refl _) _).setCell (Nat.le_refl _) _
/-- The card that Card tells. -/
def cardI (S : StoreL) (i : Int) : Crd.CardL := if hasS S i then cardS S (objOf S i) else zeroC
def errI (S : StoreL) (i : Int) : Int := if hasS S i then 0 else 7
def objI (S : StoreL) (i : Int) : ObjL := if hasS S i then objOf S i else zeroO
theorem getI_any {w : World} {lo : Nat} {g : GhostB} {B : BoardL} (h : BoardAt w lo g B) (i : Int) : Calls Tryz.prog 10 #[.pointer (some ⟨g.b, 0, none⟩), .int .i64 i] w (RetGet w (objI B.S i) (errI B.S i)) := by
  have hS := h.len
  unfold objI errI
  by_cases hh : hasS B.S i
  · rw [if_pos hh, if_pos hh]
    obtain ⟨j, rfl⟩ : ∃ j : Nat, i = (j : Int) + 1 := ⟨(i - 1).toNat, by have := hh.1; omega⟩
    have hj : j < B.S.objs.length := by have := hh.2; omega
    rw [objOf_at hj]
    exact get_in h.st (by omega) j hj
  · rw [if_neg hh, if_neg hh]
    exact get_out h.st (by omega) _ (by unfold hasS at hh; omega)
theorem cardI_any {w : World} {lo : Nat} {g : GhostB} {B : BoardL} (h : BoardAt w lo g B) (i : Int) : Calls Tryz.prog 84 #[.pointer (some ⟨g.b, 0, none⟩), .int .i64 i] w (RetCardR w (cardI B.S i) (errI B.S i)) := by
  have hS := h.len
  unfold cardI errI
  by_cases hh : hasS B.S i
  · rw [if_pos hh, if_pos hh]
    obtain ⟨j, rfl⟩ : ∃ j : Nat, i = (j : Int) + 1 := ⟨(i - 1).toNat, by have := hh.1; omega⟩
    have hj : j < B.S.objs.length := by have := hh.2; omega
    obtain ⟨_, h1, h2, _⟩ := h.wf.ids j hj
    obtain ⟨n, hn⟩ : ∃ n : Nat, B.S.objs[j].card = n := ⟨_, (Int.toNat_of_nonneg h1).symm⟩
    have hn2 : n < B.S.T.length := by rw [hn] at h2; omega
    rw [objOf_at hj, cardS_at hn hn2]
    exact cardR_ok h.st (by omega) j n hj hn2 hn
  · rw [if_neg hh, if_neg hh]
    refine cardR_out (by decide) fun w' hb => get_out (h.st.later hb) (by omega) _ (by unfold hasS at hh; omega)
/-- What a step keeps of a store: its table, its seats, how many objects there are, whose each is, of which card. -/
structure KeepsO (S S' : StoreL) : Prop where
  T : S'.T = S.T
  seats : S'.seats = S.seats
  len : S'.objs.length = S.objs.length
theorem KeepsO.refl (S : StoreL) : KeepsO S S := ⟨rfl, rfl, rfl⟩
theorem KeepsO.trans {A B C : StoreL} (h : KeepsO A B) (k : KeepsO B C) : KeepsO A C := ⟨k.T.trans h.T, k.seats.trans h.seats, k.len.trans h.len⟩
theorem keeps_move (S : StoreL) (i : Int) (z : Nat) : KeepsO S (moveI S i z) := ⟨rfl, rfl, by simp [moveI, moveL]⟩
theorem keeps_set (S : StoreL) (k : Nat) (x : ObjL) : KeepsO S (setL S k x) := ⟨rfl, rfl, by simp [setL]⟩
theorem keeps_draw (S : StoreL) (k : Nat) : ∀ n, KeepsO S (drawS S k n)
  | 0 => KeepsO.refl S
  | n + 1 => by
    refine (keeps_draw S k n).trans ?_
    show KeepsO (drawS S k n) (draw1 (drawS S k n) k)
    unfold draw1
    split
    · exact KeepsO.refl _
    · exact keeps_move _ _ _
theorem KeepsO.has {S S' : StoreL} (h : KeepsO S S') {i : Int} (hi : hasS S i) : hasS S' i := by
  unfold hasS at hi ⊢
  rw [h.len]
  exact hi
end Go.Proofs.YtdlkdilgjmmlaaaGreat
namespace Go.Proofs.YtdlkdilgjmmlaaaGreat
open Go.RowKit Go.Maps
attribute [local go_sem] Oper.semAt_some

theorem cardI_terms {S : StoreL} (h : Crd.tableE S.T = 0) (i : Int) : (cardI S i).terms.length ≤ 30 := by
  unfold cardI
  split
  · unfold cardS
    by_cases hk : (objOf S i).card.toNat < S.T.length
    · have e : S.T.getD (objOf S i).card.toNat zeroC = S.T[(objOf S i).card.toNat] := by simp [List.getD, hk]
      rw [e]
      exact may_terms h _ hk
    · have e : S.T.getD (objOf S i).card.toNat zeroC = zeroC := by simp [List.getD, hk]
      rw [e]
      decide
  · decide
end Go.Proofs.YtdlkdilgjmmlaaaGreat
