/- A store's Card, with terms in a row of the call's own; what terms leave of a store (layer 12). What an entry does, and Resolve (layer 12). -/
import Derived.Test.YtookicopjphmnaaGreatBi
import Derived.Test.YtookicopjphmnaaGreatBj
import Derived.Test.YtookicopjphmnaaGreatKd
import Derived.Deep.Cut
import Derived.Deep.DeepCutAuto
namespace Go.Proofs.YtookicopjphmnaaGreat
open Go.RowKit Go.Maps
attribute [local go_sem] Oper.semAt_some

theorem rowsC_mono {B B' : Nat} {w : World} {v : Value} {l : List Crd.TermL} (h : Crd.RowsC B w v l) (hb : B' ≤ B) : Crd.RowsC B' w v l := by
  rcases h with h | ⟨g, cap, e, h0, hB, hg, hr⟩
  · exact .inl h
  · exact .inr ⟨g, cap, e, h0, Nat.le_trans hb hB, hg, hr⟩
def RetCardR (w : World) (c : Crd.CardL) (n : Int) (e : Ending) (w' : World) : Prop := ∃ v, e = .returned (.tuple #[Crd.cagg c v, .int .i64 n]) ∧ Crd.RowsC w.heap.size w' v c.terms ∧ Below w.heap.size w w'
set_option maxRecDepth 100000 in
set_option maxHeartbeats 4000000 in
theorem cardR_ok {w : World} {lo b : Nat} {G : Ghost} {S : StoreL} (h : StoreAt w lo b G S) (hS : S.objs.length ≤ 1000) (k n : Nat) (hk : k < S.objs.length) (hn : n < S.T.length) (hc : S.objs[k].card = n) :
    Calls Tryz.prog 46 #[.pointer (some ⟨b, 0, none⟩), .int .i64 ((k : Int) + 1)] w (RetCardR w S.T[n] 0) := by
  have HG := Lib.hid (fun (w' : World) (hb : Below w.heap.size w w') => get_in (h.later hb) hS k hk)
  obtain ⟨c, hcq⟩ : ∃ c, S.T[n] = c := ⟨_, rfl⟩
  have hmt0 := may_terms h.ok n hn
  rw [hcq] at hmt0 ⊢
  have HMT := Lib.hid hmt0
  have HC := Lib.hid hcq
  clear hcq hmt0
  obtain ⟨x, hx⟩ : ∃ x, S.objs[k] = x := ⟨_, rfl⟩
  rw [hx] at HG hc
  obtain ⟨x0, x1, x2, x3, x4, x5, x6, x7, x8, x9, x10⟩ := x
  dsimp only at hc
  subst hc
  unfold RetGet oagg at HG
  have HH := Lib.hid h
  have HN := Lib.hid hn
  clear h hx
  dsimp only at HG
  go_enter Tryz.func46, Tryz.ntmps46
  go_wp2_with fail
  refine (HG.out _ (below_new w _)).mono ?_
  rintro e w1 ⟨rfl, hb1⟩
  obtain ⟨W, hW⟩ : ∃ W, w1.alloc (.cells #[.int .i64 x0, .int .i64 n, .int .i64 x2, .int .i64 x3, .bool x4, .bool x5, .int .i64 x6, .int .i64 x7, .int .i64 x8, .int .i64 x9, .bool x10] 85) = W := ⟨_, rfl⟩
  have hbx := stepB hb1 (hW ▸ below_new w1 _)
  have hbw : Below w.heap.size w W := stepB (below_new w _) hbx
  have q1 : W.cell? ⟨w1.heap.size, 1, none⟩ = some (.int .i64 n) := by rw [← hW, cell_of_row _ _ 1 _ _ _ (heap_alloc_new w1 _)]; rfl
  have hh := HH.out.later hbw
  have c0 : W.cell? ⟨b, 0, none⟩ = some G.tv := by rw [cell_of_row W b 0 _ _ _ hh.hd]; rfl
  have ht := hh.tab.is
  obtain ⟨xa, xc, hv⟩ := ht.form
  rw [hv] at ht c0
  obtain ⟨tb, off, rfl, hcc⟩ := ht.at n HN.out
  have hmt := HMT.out
  rw [HC.out] at hcc
  obtain ⟨ya, yc, t0, t1, t2, t3, t4, t5, t6, tt⟩ := hcc
  have HCP := Lib.hid (fun (w' : World) (hb : Below W.heap.size W w') => Crd.copy_any (c := c) (xa := ya) (xc := yc) (tt.later hb) hmt)
  unfold Crd.cagg at HCP
  obtain ⟨hcW, hfW⟩ := Crd.bcell hbx
  have f0 : ∀ j, W.frozen? ⟨w.heap.size, j, none⟩ = false := fun j => by rw [hfW _ _ (by simp; try omega)]; simp [go_sem]
  have z0 : W.cell? ⟨w.heap.size, 0, none⟩ = some (.int .i64 0) := by rw [hcW _ _ (by simp; try omega)]; simp [go_sem]
  have z1 : W.cell? ⟨w.heap.size, 1, none⟩ = some (.int .i64 0) := by rw [hcW _ _ (by simp; try omega)]; simp [go_sem]
  have z2 : W.cell? ⟨w.heap.size, 2, none⟩ = some (.int .i64 0) := by rw [hcW _ _ (by simp; try omega)]; simp [go_sem]
  have z3 : W.cell? ⟨w.heap.size, 3, none⟩ = some (.int .i64 0) := by rw [hcW _ _ (by simp; try omega)]; simp [go_sem]
  have z4 : W.cell? ⟨w.heap.size, 4, none⟩ = some (.int .i64 0) := by rw [hcW _ _ (by simp; try omega)]; simp [go_sem]
  have z5 : W.cell? ⟨w.heap.size, 5, none⟩ = some (.int .i64 0) := by rw [hcW _ _ (by simp; try omega)]; simp [go_sem]
  have z6 : W.cell? ⟨w.heap.size, 6, none⟩ = some (.slice none 0 0) := by rw [hcW _ _ (by simp; try omega)]; simp [go_sem]
  have d0 : (0 : Int) ≤ n := by omega
  have d1 : (n : Int) < S.T.length := by have := HN.out; omega
  have HBW := Lib.hid hbw
  have HSZ := Lib.hid (show w.heap.size < W.heap.size by have := hbx.size; rw [World.size_alloc] at this; omega)
  subst hW
  clear hh ht hv hb1 hbx hbw tt hmt hcW hfW
  go_wp2
  go_region_with ((go_at_call 74; refine (HCP.out _ (Below.refl _ _).drew).mono ?_; rintro e w2 ⟨v, rfl, hr2, hb2⟩; have hb3 := stepB (Below.refl _ _).drew hb2; have hfz := fun j => (Crd.bcell hb3).2 w.heap.size j HSZ.out; have g0 := (hfz 0).trans (f0 0); have g1 := (hfz 1).trans (f0 1); have g2 := (hfz 2).trans (f0 2); have g3 := (hfz 3).trans (f0 3); have g4 := (hfz 4).trans (f0 4); have g5 := (hfz 5).trans (f0 5); have g6 := (hfz 6).trans (f0 6); have y0 := cell_stays hb3 z0; have y1 := cell_stays hb3 z1; have y2 := cell_stays hb3 z2; have y3 := cell_stays hb3 z3; have y4 := cell_stays hb3 z4; have y5 := cell_stays hb3 z5; have y6 := cell_stays hb3 z6; have HR2 := Lib.hid hr2; have HB3 := Lib.hid hb3; obtain ⟨va, vc, rfl⟩ := rows_form hr2; clear hr2 hb2 hb3 hfz; unfold Crd.cagg; dsimp only))
  all_goals
    go_wp2
    have hlt := HSZ.out
    refine bodyPost_ret (by simp [results, Tryz.results46, go_sem, y0, y1, y2, y3, y4, y5, y6]; rfl) rfl ⟨.slice va c.terms.length vc, rfl, ?_, ?_⟩
    · exact rowsC_mono (rowsC_set (rowsC_set (rowsC_set (rowsC_set (rowsC_set (rowsC_set (rowsC_set HR2.out hlt) hlt) hlt) hlt) hlt) hlt) hlt) (Nat.le_of_lt hlt)
    · exact (((((((stepB HBW.out HB3.out).setCell (Nat.le_refl _) _).setCell (Nat.le_refl _) _).setCell (Nat.le_refl _) _).setCell (Nat.le_refl _) _).setCell (Nat.le_refl _) _).setCell (Nat.le_refl _) _).setCell (Nat.le_refl _) _
set_option maxRecDepth 100000 in
set_option maxHeartbeats 4000000 in
theorem cardR_out {w : World} {p : Option Addr} {i n : Int} (hn : n ≠ 0) (h : ∀ w' : World, Below w.heap.size w w' → Calls Tryz.prog 36 #[.pointer p, .int .i64 i] w' (RetGet w' zeroO n)) :
    Calls Tryz.prog 46 #[.pointer p, .int .i64 i] w (RetCardR w zeroC n) := by
  have HG := Lib.hid h
  have e0 : (n != 0) = true := bne_iff_ne.2 hn
  unfold RetGet oagg zeroO at HG
  dsimp only at HG
  clear h hn
  go_enter Tryz.func46, Tryz.ntmps46
  go_wp2_with fail
  refine (HG.out _ (below_new w _)).mono ?_
  rintro e w1 ⟨rfl, hb1⟩
  have hbx := below_alloc2 hb1 (.cells #[.int .i64 0, .int .i64 0, .int .i64 0, .int .i64 0, .bool false, .bool false, .int .i64 0, .int .i64 0, .int .i64 0, .int .i64 0, .bool false] 85)
  have HB := Lib.hid (stepB (below_new w _) hbx)
  obtain ⟨W, hW⟩ : ∃ W, w1.alloc (.cells #[.int .i64 0, .int .i64 0, .int .i64 0, .int .i64 0, .bool false, .bool false, .int .i64 0, .int .i64 0, .int .i64 0, .int .i64 0, .bool false] 85) = W := ⟨_, rfl⟩
  have HW := Lib.hid hW
  rw [hW] at hbx HB
  obtain ⟨hcW, hfW⟩ := Crd.bcell hbx
  have f0 : ∀ j, W.frozen? ⟨w.heap.size, j, none⟩ = false := fun j => by rw [hfW _ _ (by simp; try omega)]; simp [go_sem]
  have z0 : W.cell? ⟨w.heap.size, 0, none⟩ = some (.int .i64 0) := by rw [hcW _ _ (by simp; try omega)]; simp [go_sem]
  have z1 : W.cell? ⟨w.heap.size, 1, none⟩ = some (.int .i64 0) := by rw [hcW _ _ (by simp; try omega)]; simp [go_sem]
  have z2 : W.cell? ⟨w.heap.size, 2, none⟩ = some (.int .i64 0) := by rw [hcW _ _ (by simp; try omega)]; simp [go_sem]
  have z3 : W.cell? ⟨w.heap.size, 3, none⟩ = some (.int .i64 0) := by rw [hcW _ _ (by simp; try omega)]; simp [go_sem]
  have z4 : W.cell? ⟨w.heap.size, 4, none⟩ = some (.int .i64 0) := by rw [hcW _ _ (by simp; try omega)]; simp [go_sem]
  have z5 : W.cell? ⟨w.heap.size, 5, none⟩ = some (.int .i64 0) := by rw [hcW _ _ (by simp; try omega)]; simp [go_sem]
  have z6 : W.cell? ⟨w.heap.size, 6, none⟩ = some (.slice none 0 0) := by rw [hcW _ _ (by simp; try omega)]; simp [go_sem]
  clear hb1 hbx hcW hfW hW
  go_upto_region 2 with fail
  rw [HW.out]
  go_wp2
  refine bodyPost_ret (by simp [results, Tryz.results46, go_sem, z0, z1, z2, z3, z4, z5, z6]; rfl) rfl ⟨.slice none 0 0, rfl, .inl ⟨rfl, rfl⟩, ?_⟩
  exact (((((((HB.out).setCell (Nat.le_refl _) _).setCell (Nat.le_refl _) _).setCell (Nat.le_refl _) _).setCell (Nat.le_refl _) _).setCell (Nat.le_refl _) _).setCell (Nat.le_refl _) _).setCell (Nat.le_refl _) _
/-- The card that Card tells. -/
def cardI (S : StoreL) (i : Int) : Crd.CardL := if hasS S i then cardS S (objOf S i) else zeroC
def errI (S : StoreL) (i : Int) : Int := if hasS S i then 0 else 7
def objI (S : StoreL) (i : Int) : ObjL := if hasS S i then objOf S i else zeroO
theorem getI_any {w : World} {lo : Nat} {g : GhostB} {B : BoardL} (h : BoardAt w lo g B) (i : Int) : Calls Tryz.prog 36 #[.pointer (some ⟨g.b, 0, none⟩), .int .i64 i] w (RetGet w (objI B.S i) (errI B.S i)) := by
  have hS := h.len
  unfold objI errI
  by_cases hh : hasS B.S i
  · rw [if_pos hh, if_pos hh]
    obtain ⟨j, rfl⟩ : ∃ j : Nat, i = (j : Int) + 1 := ⟨(i - 1).toNat, by have := hh.1; omega⟩
    have hj : j < B.S.objs.length := by have := hh.2; omega
    rw [objOf_at hj]
    exact get_in h.st (by omega) j hj
  · rw [if_neg hh, if_neg hh]
    exact get_out h.st (by omega) _ (by unfold hasS at hh; omega)
theorem cardI_any {w : World} {lo : Nat} {g : GhostB} {B : BoardL} (h : BoardAt w lo g B) (i : Int) : Calls Tryz.prog 46 #[.pointer (some ⟨g.b, 0, none⟩), .int .i64 i] w (RetCardR w (cardI B.S i) (errI B.S i)) := by
  have hS := h.len
  unfold cardI errI
  by_cases hh : hasS B.S i
  · rw [if_pos hh, if_pos hh]
    obtain ⟨j, rfl⟩ : ∃ j : Nat, i = (j : Int) + 1 := ⟨(i - 1).toNat, by have := hh.1; omega⟩
    have hj : j < B.S.objs.length := by have := hh.2; omega
    obtain ⟨_, h1, h2, _⟩ := h.wf.ids j hj
    obtain ⟨n, hn⟩ : ∃ n : Nat, B.S.objs[j].card = n := ⟨_, (Int.toNat_of_nonneg h1).symm⟩
    have hn2 : n < B.S.T.length := by rw [hn] at h2; omega
    rw [objOf_at hj, cardS_at hn hn2]
    exact cardR_ok h.st (by omega) j n hj hn2 hn
  · rw [if_neg hh, if_neg hh]
    refine cardR_out (by decide) fun w' hb => get_out (h.st.later hb) (by omega) _ (by unfold hasS at hh; omega)
/-- What a step keeps of a store: its table, its seats, how many objects there are, whose each is, of which card. -/
structure KeepsO (S S' : StoreL) : Prop where
  T : S'.T = S.T
  seats : S'.seats = S.seats
  len : S'.objs.length = S.objs.length
theorem KeepsO.refl (S : StoreL) : KeepsO S S := ⟨rfl, rfl, rfl⟩
theorem KeepsO.trans {A B C : StoreL} (h : KeepsO A B) (k : KeepsO B C) : KeepsO A C := ⟨k.T.trans h.T, k.seats.trans h.seats, k.len.trans h.len⟩
theorem keeps_move (S : StoreL) (i : Int) (z : Nat) : KeepsO S (moveI S i z) := ⟨rfl, rfl, by simp [moveI, moveL]⟩
theorem keeps_set (S : StoreL) (k : Nat) (x : ObjL) : KeepsO S (setL S k x) := ⟨rfl, rfl, by simp [setL]⟩
theorem keeps_draw (S : StoreL) (k : Nat) : ∀ n, KeepsO S (drawS S k n)
  | 0 => KeepsO.refl S
  | n + 1 => by
    refine (keeps_draw S k n).trans ?_
    show KeepsO (drawS S k n) (draw1 (drawS S k n) k)
    unfold draw1
    split
    · exact KeepsO.refl _
    · exact keeps_move _ _ _
theorem keeps_work (B : BoardL) (seat : Int) (t : Crd.TermL) (i : Int) : KeepsO B.S (workB B seat t i).S := by
  unfold workB hurtB hurtS boostS countS tapI
  repeat' split
  all_goals first | exact KeepsO.refl _ | exact keeps_set _ _ _ | exact keeps_move _ _ _ | exact keeps_draw _ _ _
theorem keeps_do (B : BoardL) (seat : Int) (t : Crd.TermL) (i : Int) : KeepsO B.S (doB B seat t i).S := by
  unfold doB
  split
  · exact keeps_work _ _ _ _
  · exact KeepsO.refl _
theorem keeps_all (B : BoardL) (seat i : Int) (l : List Crd.TermL) : KeepsO B.S (runAll B seat i l).1.S := by
  have h : ∀ k, k ≤ l.length → KeepsO B.S (runAll B seat i (l.take k)).1.S := fun k => by
    induction k with
    | zero => intro _; exact KeepsO.refl _
    | succ k ih =>
      intro hk
      rw [take_snoc l k (by omega), runAll_snoc]
      exact (ih (by omega)).trans (keeps_do _ _ _ _)
  have := h l.length (Nat.le_refl _)
  rwa [List.take_length] at this
theorem KeepsO.has {S S' : StoreL} (h : KeepsO S S') {i : Int} (hi : hasS S i) : hasS S' i := by
  unfold hasS at hi ⊢
  rw [h.len]
  exact hi
end Go.Proofs.YtookicopjphmnaaGreat
namespace Go.Proofs.YtookicopjphmnaaGreat
open Go.RowKit Go.Maps
attribute [local go_sem] Oper.semAt_some

theorem set11row {W : World} {b : Nat} {xs : Array Value} {T : TypeId} (v0 v1 v2 v3 v4 v5 v6 v7 v8 v9 v10 : Value) (h : W.heap[b]? = some (.cells xs T (0, 0))) (hx : xs.size = 11) :
    (((((((((((W.setCell ⟨b, 0, none⟩ v0).setCell ⟨b, 1, none⟩ v1).setCell ⟨b, 2, none⟩ v2).setCell ⟨b, 3, none⟩ v3).setCell ⟨b, 4, none⟩ v4).setCell ⟨b, 5, none⟩ v5).setCell ⟨b, 6, none⟩ v6).setCell ⟨b, 7, none⟩ v7).setCell ⟨b, 8, none⟩ v8).setCell ⟨b, 9, none⟩ v9).setCell ⟨b, 10, none⟩ v10).heap[b]? = some (.cells #[v0, v1, v2, v3, v4, v5, v6, v7, v8, v9, v10] T (0, 0)) := by
  obtain ⟨l⟩ := xs
  match l, hx with
  | [u0, u1, u2, u3, u4, u5, u6, u7, u8, u9, u10], _ =>
    have h0 := heap_setCell_same _ b 0 _ _ v0 h
    have h1 := heap_setCell_same _ b 1 _ _ v1 h0
    have h2 := heap_setCell_same _ b 2 _ _ v2 h1
    have h3 := heap_setCell_same _ b 3 _ _ v3 h2
    have h4 := heap_setCell_same _ b 4 _ _ v4 h3
    have h5 := heap_setCell_same _ b 5 _ _ v5 h4
    have h6 := heap_setCell_same _ b 6 _ _ v6 h5
    have h7 := heap_setCell_same _ b 7 _ _ v7 h6
    have h8 := heap_setCell_same _ b 8 _ _ v8 h7
    have h9 := heap_setCell_same _ b 9 _ _ v9 h8
    have h10 := heap_setCell_same _ b 10 _ _ v10 h9
    rw [h10]
    simp
theorem set7row {W : World} {b : Nat} {xs : Array Value} {T : TypeId} (v0 v1 v2 v3 v4 v5 v6 : Value) (h : W.heap[b]? = some (.cells xs T (0, 0))) (hx : xs.size = 7) :
    (((((((W.setCell ⟨b, 0, none⟩ v0).setCell ⟨b, 1, none⟩ v1).setCell ⟨b, 2, none⟩ v2).setCell ⟨b, 3, none⟩ v3).setCell ⟨b, 4, none⟩ v4).setCell ⟨b, 5, none⟩ v5).setCell ⟨b, 6, none⟩ v6).heap[b]? = some (.cells #[v0, v1, v2, v3, v4, v5, v6] T (0, 0)) := by
  obtain ⟨l⟩ := xs
  match l, hx with
  | [u0, u1, u2, u3, u4, u5, u6], _ =>
    have h0 := heap_setCell_same _ b 0 _ _ v0 h
    have h1 := heap_setCell_same _ b 1 _ _ v1 h0
    have h2 := heap_setCell_same _ b 2 _ _ v2 h1
    have h3 := heap_setCell_same _ b 3 _ _ v3 h2
    have h4 := heap_setCell_same _ b 4 _ _ v4 h3
    have h5 := heap_setCell_same _ b 5 _ _ v5 h4
    have h6 := heap_setCell_same _ b 6 _ _ v6 h5
    rw [h6]
    simp
/-- What an entry makes of a board, and how many terms it does. -/
def workE (B : BoardL) (x : EntL) : BoardL × Nat :=
  if x.trig then runAll B x.seat x.pos (cardI B.S x.obj).terms
  else if (objI B.S x.obj).zone = 4 then
    (if (cardI B.S x.obj).kind = 2 ∨ (cardI B.S x.obj).kind = 1 then (⟨moveI B.S x.obj 3, B.T, B.D⟩, 0)
     else (⟨moveI (runAll B x.seat x.pos (cardI B.S x.obj).terms).1.S x.obj 5, (runAll B x.seat x.pos (cardI B.S x.obj).terms).1.T, (runAll B x.seat x.pos (cardI B.S x.obj).terms).1.D⟩, (runAll B x.seat x.pos (cardI B.S x.obj).terms).2))
  else (B, 0)
theorem rowsC_stays {B : Nat} {w w' : World} {v : Value} {l : List Crd.TermL} (h : Crd.RowsC B w v l) (hs : w.heap.size ≤ w'.heap.size) (hk : ∀ k, B ≤ k → k < w.heap.size → w'.heap[k]? = w.heap[k]?) : Crd.RowsC B w' v l := by
  rcases h with h | ⟨g, cap, e, h0, hB, hg, C, T, hC, hc⟩
  · exact .inl h
  · exact .inr ⟨g, cap, e, h0, hB, Nat.lt_of_lt_of_le hg hs, C, T, (hk g hB hg).trans hC, hc⟩
theorem cardI_terms {S : StoreL} (h : Crd.tableE S.T = 0) (i : Int) : (cardI S i).terms.length ≤ 30 := by
  unfold cardI
  split
  · unfold cardS
    by_cases hk : (objOf S i).card.toNat < S.T.length
    · have e : S.T.getD (objOf S i).card.toNat zeroC = S.T[(objOf S i).card.toNat] := by simp [List.getD, hk]
      rw [e]
      exact may_terms h _ hk
    · have e : S.T.getD (objOf S i).card.toNat zeroC = zeroC := by simp [List.getD, hk]
      rw [e]
      decide
  · decide
theorem objI_has {S : StoreL} {i : Int} (h : (objI S i).zone = 4) : hasS S i := by
  unfold objI at h
  split at h
  · assumption
  · cases h
theorem nums2_at (w : World) (n : Nat) (h : n = w.heap.size) : Crd.NumsAt (w.alloc (.cells #[.int .i64 2, .int .i64 1] 3)) (.slice (some ⟨n, 0, none⟩) 2 2) [2, 1] := by
  subst h
  refine .inr ⟨w.heap.size, 0, 2, rfl, by simp, fun i hi => ?_⟩
  match i, hi with
  | 0, _ => exact cell_of_row _ _ 0 _ _ _ (heap_alloc_new w _)
  | 1, _ => exact cell_of_row _ _ 1 _ _ _ (heap_alloc_new w _)
theorem kinds2 (k : Int) : ([2, 1] : List Int).contains k = decide (k = 2 ∨ k = 1) := by
  by_cases h2 : k = 2
  · subst h2; decide
  · by_cases h1 : k = 1
    · subst h1; decide
    · rw [decide_eq_false (by omega)]
      simp [h1, h2]
set_option maxRecDepth 100000 in
set_option maxHeartbeats 16000000 in
theorem work_entry {w : World} {lo : Nat} {g : GhostB} {B : BoardL} (h : BoardAt w lo g B) (x : EntL) : Calls Tryz.prog 59 #[.pointer (some ⟨g.q, 0, none⟩), entV x] w (RetBd w lo g (workE B x).1 (.int .i64 (workE B x).2)) := by
  obtain ⟨x0, x1, x2, x3⟩ := x
  unfold entV
  dsimp only
  have hb0 := below_new w (.cells #[.int .i64 x0, .int .i64 x1, .int .i64 x2, .bool x3] 49)
  have hrow := heap_alloc_new w (.cells #[.int .i64 x0, .int .i64 x1, .int .i64 x2, .bool x3] 49)
  have HSZ := Lib.hid (show (w.alloc (.cells #[.int .i64 x0, .int .i64 x1, .int .i64 x2, .bool x3] 49)).heap.size = w.heap.size + 1 from World.size_alloc _ _)
  obtain ⟨W0, hW0⟩ : ∃ W0, w.alloc (.cells #[.int .i64 x0, .int .i64 x1, .int .i64 x2, .bool x3] 49) = W0 := ⟨_, rfl⟩
  obtain ⟨q3, hq3⟩ : ∃ q3, w.heap.size = q3 := ⟨_, rfl⟩
  rw [hW0] at hb0 hrow HSZ
  rw [hq3] at hrow
  have HW0 := Lib.hid hW0
  have HQ3 := Lib.hid hq3
  have HB0 := Lib.hid hb0
  have HH := Lib.hid (h.later hb0)
  have HOL := Lib.hid (show ∀ k, g.own k → k < w.heap.size from fun k hk => h.ownLt hk)
  have HROW := Lib.hid hrow
  have k0 := cell_of_row W0 q3 0 _ _ _ hrow
  have k1 := cell_of_row W0 q3 1 _ _ _ hrow
  have k2 := cell_of_row W0 q3 2 _ _ _ hrow
  have k3 := cell_of_row W0 q3 3 _ _ _ hrow
  have HTM := Lib.hid (cardI_terms h.st.ok x1)
  obtain ⟨o, ho⟩ : ∃ o, objI B.S x1 = o := ⟨_, rfl⟩
  obtain ⟨er, her⟩ : ∃ er, errI B.S x1 = er := ⟨_, rfl⟩
  obtain ⟨cd, hcd⟩ : ∃ cd, cardI B.S x1 = cd := ⟨_, rfl⟩
  have HGE := Lib.hid (fun (w' : World) (hb : Below W0.heap.size W0 w') => show Calls Tryz.prog 36 #[.pointer (some ⟨g.b, 0, none⟩), .int .i64 x1] w' (RetGet w' o er) from by have := getI_any (HH.out.later hb) x1; rw [ho, her] at this; exact this)
  have HCE := Lib.hid (fun (w' : World) (hb : Below W0.heap.size W0 w') => show Calls Tryz.prog 46 #[.pointer (some ⟨g.b, 0, none⟩), .int .i64 x1] w' (RetCardR w' cd er) from by have := cardI_any (HH.out.later hb) x1; rw [hcd, her] at this; exact this)
  have HO := Lib.hid (show (objI B.S x1).zone = 4 → hasS B.S x1 from objI_has)
  have HWE : Hid (workE B ⟨x0, x1, x2, x3⟩ = if x3 = true then runAll B x0 x2 cd.terms else if o.zone = 4 then (if cd.kind = 2 ∨ cd.kind = 1 then (⟨moveI B.S x1 3, B.T, B.D⟩, 0) else (⟨moveI (runAll B x0 x2 cd.terms).1.S x1 5, (runAll B x0 x2 cd.terms).1.T, (runAll B x0 x2 cd.terms).1.D⟩, (runAll B x0 x2 cd.terms).2)) else (B, 0)) := Lib.hid (by
    rw [← hcd, ← ho]
    rfl)
  rw [ho] at HO
  rw [hcd] at HTM
  obtain ⟨y0, y1, y2, y3, y4, y5, y6, y7, y8, y9, y10⟩ := o
  unfold RetGet oagg at HGE
  dsimp only at HGE HO HWE
  obtain ⟨cw, -⟩ := HH.out.cells
  have hgl : g.q < W0.heap.size := HH.out.lt
  have hql : q3 < W0.heap.size := Crd.lt_of_row hrow
  have mk : (W0.alloc (.cells #[.int .i64 0, .int .i64 0, .int .i64 0, .int .i64 0, .bool false, .bool false, .int .i64 0, .int .i64 0, .int .i64 0, .int .i64 0, .bool false] 85)).cell? ⟨q3, 1, none⟩ = some (.int .i64 x1) := by rw [(below_new W0 _).cell (p := ⟨q3, 1, none⟩) hql]; exact k1
  have mw : (W0.alloc (.cells #[.int .i64 0, .int .i64 0, .int .i64 0, .int .i64 0, .bool false, .bool false, .int .i64 0, .int .i64 0, .int .i64 0, .int .i64 0, .bool false] 85)).cell? ⟨g.q, 0, none⟩ = some (.pointer (some ⟨g.b, 0, none⟩)) := by rw [(below_new W0 _).cell (p := ⟨g.q, 0, none⟩) hgl]; exact cw
  clear h hb0 hrow hW0 hq3 ho her hcd
  go_enter Tryz.func59, Tryz.ntmps59
  go_upto_region 1 with fail
  rw [HW0.out]
  simp only [HQ3.out]
  go_cut [5, 6] from 10 to 19 (fun s5 s6 wx => ∃ q5, s5 = .pointer (some ⟨q5, 0, none⟩) ∧ s6 = .int .i64 er ∧ Hid (wx.cell? ⟨q5, 3, none⟩ = some (.int .i64 y3)) ∧ Hid (Below W0.heap.size W0 wx))
  case first =>
    (go_region_with ((go_at_call 36; first
        | (refine (HGE.out _ (Below.refl _ _).drew).mono ?_
           rintro e w5 ⟨rfl, hb5⟩
           have HB5 := Lib.hid (stepB (Below.refl W0.heap.size W0).drew hb5)
           clear hb5
           dsimp only)
        | (refine (HGE.out _ (below_alloc2 (Below.refl _ _).drew _)).mono ?_
           rintro e w5 ⟨rfl, hb5⟩
           have hrw : w5.heap[W0.heap.size]? = some (.cells #[.int .i64 0, .int .i64 0, .int .i64 0, .int .i64 0, .bool false, .bool false, .int .i64 0, .int .i64 0, .int .i64 0, .int .i64 0, .bool false] 85 (0, 0)) := (hb5.block W0.heap.size (by simp)).trans (heap_alloc_new _ _)
           have hC := fun k => hb5.cell (p := ⟨W0.heap.size, k, none⟩) (by simp)
           have hF := fun k => hb5.frozen (p := ⟨W0.heap.size, k, none⟩) (by simp)
           have c0 : w5.cell? ⟨W0.heap.size, 0, none⟩ = some (.int .i64 0) := by rw [hC]; simp [go_sem]
           have c1 : w5.cell? ⟨W0.heap.size, 1, none⟩ = some (.int .i64 0) := by rw [hC]; simp [go_sem]
           have c2 : w5.cell? ⟨W0.heap.size, 2, none⟩ = some (.int .i64 0) := by rw [hC]; simp [go_sem]
           have c3 : w5.cell? ⟨W0.heap.size, 3, none⟩ = some (.int .i64 0) := by rw [hC]; simp [go_sem]
           have c4 : w5.cell? ⟨W0.heap.size, 4, none⟩ = some (.bool false) := by rw [hC]; simp [go_sem]
           have c5 : w5.cell? ⟨W0.heap.size, 5, none⟩ = some (.bool false) := by rw [hC]; simp [go_sem]
           have c6 : w5.cell? ⟨W0.heap.size, 6, none⟩ = some (.int .i64 0) := by rw [hC]; simp [go_sem]
           have c7 : w5.cell? ⟨W0.heap.size, 7, none⟩ = some (.int .i64 0) := by rw [hC]; simp [go_sem]
           have c8 : w5.cell? ⟨W0.heap.size, 8, none⟩ = some (.int .i64 0) := by rw [hC]; simp [go_sem]
           have c9 : w5.cell? ⟨W0.heap.size, 9, none⟩ = some (.int .i64 0) := by rw [hC]; simp [go_sem]
           have c10 : w5.cell? ⟨W0.heap.size, 10, none⟩ = some (.bool false) := by rw [hC]; simp [go_sem]
           have f0 : w5.frozen? ⟨W0.heap.size, 0, none⟩ = false := by rw [hF]; simp [go_sem]
           have f1 : w5.frozen? ⟨W0.heap.size, 1, none⟩ = false := by rw [hF]; simp [go_sem]
           have f2 : w5.frozen? ⟨W0.heap.size, 2, none⟩ = false := by rw [hF]; simp [go_sem]
           have f3 : w5.frozen? ⟨W0.heap.size, 3, none⟩ = false := by rw [hF]; simp [go_sem]
           have f4 : w5.frozen? ⟨W0.heap.size, 4, none⟩ = false := by rw [hF]; simp [go_sem]
           have f5 : w5.frozen? ⟨W0.heap.size, 5, none⟩ = false := by rw [hF]; simp [go_sem]
           have f6 : w5.frozen? ⟨W0.heap.size, 6, none⟩ = false := by rw [hF]; simp [go_sem]
           have f7 : w5.frozen? ⟨W0.heap.size, 7, none⟩ = false := by rw [hF]; simp [go_sem]
           have f8 : w5.frozen? ⟨W0.heap.size, 8, none⟩ = false := by rw [hF]; simp [go_sem]
           have f9 : w5.frozen? ⟨W0.heap.size, 9, none⟩ = false := by rw [hF]; simp [go_sem]
           have f10 : w5.frozen? ⟨W0.heap.size, 10, none⟩ = false := by rw [hF]; simp [go_sem]
           have HB5 := Lib.hid (stepB (below_alloc2 (Below.refl W0.heap.size W0).drew _) hb5)
           clear hC hF hb5
           dsimp only)))) <;> (
      go_wp2
      go_meet
      case rel => first
        | (have hmine := c1; exact ⟨W0.heap.size, rfl, rfl, Lib.hid (cell_of_row _ _ 3 _ _ _ (set11row _ _ _ _ _ _ _ _ _ _ _ hrw rfl)), Lib.hid (((((((((((HB5.out.setCell (Nat.le_refl _) _).setCell (Nat.le_refl _) _).setCell (Nat.le_refl _) _).setCell (Nat.le_refl _) _).setCell (Nat.le_refl _) _).setCell (Nat.le_refl _) _).setCell (Nat.le_refl _) _).setCell (Nat.le_refl _) _).setCell (Nat.le_refl _) _).setCell (Nat.le_refl _) _).setCell (Nat.le_refl _) _)⟩)
        | exact ⟨_, rfl, rfl, Lib.hid (cell_of_row _ _ 3 _ _ _ (heap_alloc_new _ _)), Lib.hid (below_alloc2 HB5.out _)⟩)
  case rest =>
  obtain ⟨q5, rfl, rfl, HZ, HB1⟩ := hcut
  obtain ⟨w1, rfl⟩ : ∃ w1, w1 = wc := ⟨_, rfl⟩
  have HH1 := Lib.hid (HH.out.later HB1.out)
  have HCE1 := Lib.hid (fun (w' : World) (hb : Below w1.heap.size w1 w') => HCE.out w' (stepB HB1.out hb))
  have HROW1 := Lib.hid ((HB1.out.block q3 (Crd.lt_of_row HROW.out)).trans HROW.out)
  have HLE1 := Lib.hid (show w.heap.size ≤ w1.heap.size by have := HB1.out.size; have := HSZ.out; omega)
  have k1 := cell_of_row w1 q3 1 _ _ _ HROW1.out
  obtain ⟨cw, -⟩ := HH1.out.cells
  have hgl : g.q < w1.heap.size := HH1.out.lt
  have hql : q3 < w1.heap.size := Crd.lt_of_row HROW1.out
  have mk : (w1.alloc (.cells #[.int .i64 0, .int .i64 0, .int .i64 0, .int .i64 0, .int .i64 0, .int .i64 0, .slice none 0 0] 53)).cell? ⟨q3, 1, none⟩ = some (.int .i64 x1) := by rw [(below_new w1 _).cell (p := ⟨q3, 1, none⟩) hql]; exact k1
  have mw : (w1.alloc (.cells #[.int .i64 0, .int .i64 0, .int .i64 0, .int .i64 0, .int .i64 0, .int .i64 0, .slice none 0 0] 53)).cell? ⟨g.q, 0, none⟩ = some (.pointer (some ⟨g.b, 0, none⟩)) := by rw [(below_new w1 _).cell (p := ⟨g.q, 0, none⟩) hgl]; exact cw
  clear HCE HGE k0 k2 k3
  obtain ⟨cd0, cd1, cd2, cd3, cd4, cd5, cd6⟩ := cd
  unfold RetCardR at HCE1
  dsimp only at HCE1 HTM HWE
  go_upto_region 2 with fail
  go_cut [7, 8] from 20 to 29 (fun s7 s8 wx => ∃ (q7 : Nat) (v : Value), s7 = .pointer (some ⟨q7, 0, none⟩) ∧ s8 = .int .i64 er ∧ Hid (wx.heap[q7]? = some (.cells #[.int .i64 cd0, .int .i64 cd1, .int .i64 cd2, .int .i64 cd3, .int .i64 cd4, .int .i64 cd5, v] 53 (0, 0))) ∧ Hid (Crd.RowsC w.heap.size wx v cd6) ∧ Hid (Below w1.heap.size w1 wx))
  case first =>
    (go_region_with ((go_at_call 46; first
        | (refine (HCE1.out _ (Below.refl _ _).drew).mono ?_
           rintro e w5 ⟨vv, rfl, hr5, hb5⟩
           have HB5 := Lib.hid (stepB (Below.refl w1.heap.size w1).drew hb5)
           have HR5 := Lib.hid hr5
           obtain ⟨va, vc, rfl⟩ := rows_form hr5
           unfold Crd.cagg
           clear hr5
           clear hb5
           dsimp only)
        | (refine (HCE1.out _ (below_alloc2 (Below.refl _ _).drew _)).mono ?_
           rintro e w5 ⟨vv, rfl, hr5, hb5⟩
           have hrw : w5.heap[w1.heap.size]? = some (.cells #[.int .i64 0, .int .i64 0, .int .i64 0, .int .i64 0, .int .i64 0, .int .i64 0, .slice none 0 0] 53 (0, 0)) := (hb5.block w1.heap.size (by simp)).trans (heap_alloc_new _ _)
           have hC := fun k => hb5.cell (p := ⟨w1.heap.size, k, none⟩) (by simp)
           have hF := fun k => hb5.frozen (p := ⟨w1.heap.size, k, none⟩) (by simp)
           have c0 : w5.cell? ⟨w1.heap.size, 0, none⟩ = some (.int .i64 0) := by rw [hC]; simp [go_sem]
           have c1 : w5.cell? ⟨w1.heap.size, 1, none⟩ = some (.int .i64 0) := by rw [hC]; simp [go_sem]
           have c2 : w5.cell? ⟨w1.heap.size, 2, none⟩ = some (.int .i64 0) := by rw [hC]; simp [go_sem]
           have c3 : w5.cell? ⟨w1.heap.size, 3, none⟩ = some (.int .i64 0) := by rw [hC]; simp [go_sem]
           have c4 : w5.cell? ⟨w1.heap.size, 4, none⟩ = some (.int .i64 0) := by rw [hC]; simp [go_sem]
           have c5 : w5.cell? ⟨w1.heap.size, 5, none⟩ = some (.int .i64 0) := by rw [hC]; simp [go_sem]
           have c6 : w5.cell? ⟨w1.heap.size, 6, none⟩ = some (.slice none 0 0) := by rw [hC]; simp [go_sem]
           have f0 : w5.frozen? ⟨w1.heap.size, 0, none⟩ = false := by rw [hF]; simp [go_sem]
           have f1 : w5.frozen? ⟨w1.heap.size, 1, none⟩ = false := by rw [hF]; simp [go_sem]
           have f2 : w5.frozen? ⟨w1.heap.size, 2, none⟩ = false := by rw [hF]; simp [go_sem]
           have f3 : w5.frozen? ⟨w1.heap.size, 3, none⟩ = false := by rw [hF]; simp [go_sem]
           have f4 : w5.frozen? ⟨w1.heap.size, 4, none⟩ = false := by rw [hF]; simp [go_sem]
           have f5 : w5.frozen? ⟨w1.heap.size, 5, none⟩ = false := by rw [hF]; simp [go_sem]
           have f6 : w5.frozen? ⟨w1.heap.size, 6, none⟩ = false := by rw [hF]; simp [go_sem]
           have HB5 := Lib.hid (stepB (below_alloc2 (Below.refl w1.heap.size w1).drew _) hb5)
           have HR5 := Lib.hid hr5
           obtain ⟨va, vc, rfl⟩ := rows_form hr5
           unfold Crd.cagg
           clear hr5
           clear hC hF hb5
           dsimp only)))) <;> (
      go_wp2
      go_meet
      case rel => first
        | (have hmine := c1; exact ⟨w1.heap.size, _, rfl, rfl, Lib.hid (set7row _ _ _ _ _ _ _ hrw rfl), Lib.hid (rowsC_mono (rowsC_set (rowsC_set (rowsC_set (rowsC_set (rowsC_set (rowsC_set (rowsC_set HR5.out (by simp)) (by simp)) (by simp)) (by simp)) (by simp)) (by simp)) (by simp)) (by have := HLE1.out; simp; omega)), Lib.hid (((((((HB5.out.setCell (Nat.le_refl _) _).setCell (Nat.le_refl _) _).setCell (Nat.le_refl _) _).setCell (Nat.le_refl _) _).setCell (Nat.le_refl _) _).setCell (Nat.le_refl _) _).setCell (Nat.le_refl _) _)⟩)
        | exact ⟨_, _, rfl, rfl, Lib.hid (heap_alloc_new _ _), Lib.hid (rowsC_mono (HR5.out.later (below_new _ _)) (by have := HLE1.out; simp; omega)), Lib.hid (below_alloc2 HB5.out _)⟩)
  case rest =>
  obtain ⟨q7, v, rfl, rfl, HCD, HRW, HB2⟩ := hcut
  obtain ⟨w2, rfl⟩ : ∃ w2, w2 = wc := ⟨_, rfl⟩
  obtain ⟨va, vc, rfl⟩ := rows_form HRW.out
  have HH2 := Lib.hid (HH1.out.later HB2.out)
  have HROW2 := Lib.hid ((HB2.out.block q3 (Crd.lt_of_row HROW1.out)).trans HROW1.out)
  have HBW2 := Lib.hid (stepB HB0.out (stepB HB1.out HB2.out))
  have HU := Lib.hid (fun (W : World) (hb : Below w2.heap.size w2 W) => show ∀ w' g', TurnedB W w' g g' → Crd.TermsIs w' (.slice va cd6.length vc) cd6 from fun w' g' ht => (rowsC_stays HRW.out (Nat.le_trans hb.size ht.size) (fun k hB hk => (ht.block k (Nat.lt_of_lt_of_le hk hb.size) (fun ho => by have := HOL.out k ho; omega)).trans (hb.block k hk))).is)
  have k0 := cell_of_row w2 q3 0 _ _ _ HROW2.out
  have k1 := cell_of_row w2 q3 1 _ _ _ HROW2.out
  have k2 := cell_of_row w2 q3 2 _ _ _ HROW2.out
  have k3 := cell_of_row w2 q3 3 _ _ _ HROW2.out
  have z3 := cell_stays HB2.out HZ.out
  have d0 := cell_of_row w2 q7 0 _ _ _ HCD.out
  have d1 := cell_of_row w2 q7 1 _ _ _ HCD.out
  have d2 := cell_of_row w2 q7 2 _ _ _ HCD.out
  have d3 := cell_of_row w2 q7 3 _ _ _ HCD.out
  have d4 := cell_of_row w2 q7 4 _ _ _ HCD.out
  have d5 := cell_of_row w2 q7 5 _ _ _ HCD.out
  have d6 := cell_of_row w2 q7 6 _ _ _ HCD.out
  clear cw hgl hql mk mw HCE1 HH HH1 HROW HROW1
  have hA := fun (W : World) (hb : Below w2.heap.size w2 W) => all11_any (HH2.out.later hb) (HU.out W hb) (by have := HTM.out; omega) ⟨va, vc, rfl⟩ x0 x2
  have HKO := Lib.hid (keeps_all B x0 x2 cd6)
  obtain ⟨R, hR⟩ : ∃ R, runAll B x0 x2 cd6 = R := ⟨_, rfl⟩
  rw [hR] at hA HWE HKO
  obtain ⟨RB, rn⟩ := R
  dsimp only at hA HWE HKO
  have HA := Lib.hid hA
  clear hA hR
  cases x3 with
  | true =>
    have HW2 := Lib.hid (show workE B ⟨x0, x1, x2, true⟩ = (RB, rn) by rw [HWE.out, if_pos rfl])
    go_wp2_with fail
    refine (HA.out _ (Below.refl _ _)).mono ?_
    rintro e w3 hr
    obtain ⟨rfl, hr2⟩ := RetBd.of hr (TurnedB.of_below HBW2.out) rfl
    have HR := Lib.hid hr2
    clear hr hr2
    go_wp2
    go_ret
    rw [HW2.out]
    exact ⟨rfl, HR.out⟩
  | false =>
    by_cases hz : y3 = 4
    case neg =>
      have HW2 := Lib.hid (show workE B ⟨x0, x1, x2, false⟩ = (B, 0) by rw [HWE.out, if_neg (by decide), if_neg hz])
      have e4 : (y3 != 4) = true := bne_iff_ne.2 hz
      have HR : Hid (∃ g', BoardAt w2 lo g' B ∧ TurnedB w w2 g g' ∧ g'.q = g.q) := Lib.hid ⟨g, HH2.out, TurnedB.of_below HBW2.out, rfl⟩
      clear hz
      go_wp2
      go_ret
      rw [HW2.out]
      exact ⟨rfl, HR.out⟩
    subst hz
    have HHS := Lib.hid (HO.out rfl)
    have HIS := Lib.hid (fun (w' : World) (v : Value) (hv : Crd.NumsAt w' v [2, 1]) => (Crd.is_any ⟨cd0, cd1, cd2, cd3, cd4, cd5, cd6⟩ va cd6.length vc v [2, 1] w' (by decide) hv))
    unfold Crd.cagg at HIS
    dsimp only at HIS
    obtain ⟨kb, hkb⟩ : ∃ kb, ([2, 1] : List Int).contains cd0 = kb := ⟨_, rfl⟩
    rw [hkb] at HIS
    rw [kinds2] at hkb
    have HKB := Lib.hid hkb
    clear hkb
    go_wp2_with fail
    refine (HIS.out _ _ (nums2_at w2 _ rfl)).mono ?_
    rintro e w3 ⟨rfl, hb3⟩
    have HB3 := Lib.hid (stepB (below_new w2 (.cells #[.int .i64 2, .int .i64 1] 3)) hb3)
    have HH3 := Lib.hid (HH2.out.later HB3.out)
    have HBW3 := Lib.hid (stepB HBW2.out HB3.out)
    have HROW3 := Lib.hid ((HB3.out.block q3 (Crd.lt_of_row HROW2.out)).trans HROW2.out)
    have k0 := cell_of_row w3 q3 0 _ _ _ HROW3.out
    have k1 := cell_of_row w3 q3 1 _ _ _ HROW3.out
    have k2 := cell_of_row w3 q3 2 _ _ _ HROW3.out
    have d6 := cell_stays HB3.out d6
    obtain ⟨cw, -⟩ := HH3.out.cells
    clear hb3 z3
    cases kb with
    | true =>
      have HW2 := Lib.hid (show workE B ⟨x0, x1, x2, false⟩ = (⟨moveI B.S x1 3, B.T, B.D⟩, 0) by rw [HWE.out, if_neg (by decide), if_pos trivial, if_pos (of_decide_eq_true HKB.out)])
      have HC := Lib.hid (move_bd (HH3.out.later ((Below.refl w3.heap.size w3).drew)) x1 HHS.out 3 (by decide) (by decide))
      have HTU := Lib.hid (show TurnedB w w3.drew g g from TurnedB.of_below (HBW3.out.drew))
      go_upto_region 8 with fail
      go_still_tail 6, (by kernel_rfl)
      change wpList _ _ _ _ _ (World.drew _)
      go_wp2_with fail
      refine HC.out.mono ?_
      rintro e w4 hr
      obtain ⟨rfl, hr2⟩ := RetBd.of hr HTU.out rfl
      have HR := Lib.hid hr2
      clear hr hr2
      go_wp2
      go_ret
      rw [HW2.out]
      exact ⟨rfl, HR.out⟩
    | false =>
      have HW2 := Lib.hid (show workE B ⟨x0, x1, x2, false⟩ = (⟨moveI RB.S x1 5, RB.T, RB.D⟩, rn) by rw [HWE.out, if_neg (by decide), if_pos trivial, if_neg (of_decide_eq_false HKB.out)])
      go_wp2_with fail
      refine (HA.out _ HB3.out).mono ?_
      rintro e w4 hr
      obtain ⟨rfl, g4, hr1, hr2, hr3⟩ := RetBd.of hr (TurnedB.of_below HBW3.out) rfl
      have HQ4 := Lib.hid hr3
      have HH4 := Lib.hid hr1
      have HT4 := Lib.hid hr2
      have hkeep : w4.heap[q3]? = w3.heap[q3]? := by
        obtain ⟨_, g5, _, h2, _⟩ := hr
        exact h2.block q3 (Crd.lt_of_row HROW3.out) (fun ho => by have := HOL.out q3 ho; have := HQ3.out; omega)
      have HROW4 := Lib.hid (hkeep.trans HROW3.out)
      have k1 := cell_of_row w4 q3 1 _ _ _ HROW4.out
      obtain ⟨cw, -⟩ := hr1.cells
      rw [hr3] at cw
      have HC := Lib.hid (move_bd (hr1.later ((Below.refl w4.heap.size w4).drew)) x1 (HKO.out.has HHS.out) 5 (by decide) (by decide))
      have HTU := Lib.hid (show TurnedB w w4.drew g g4 from hr2.trans (TurnedB.of_below ((Below.refl w4.heap.size w4).drew)))
      clear hr hr1 hr2 hr3 hkeep
      go_upto_region 11 with fail
      go_still_tail 6, (by kernel_rfl)
      change wpList _ _ _ _ _ (World.drew _)
      go_wp2_with fail
      refine HC.out.mono ?_
      rintro e w5 hr
      obtain ⟨rfl, hr2⟩ := RetBd.of hr HTU.out HQ4.out
      have HR := Lib.hid hr2
      clear hr hr2
      go_wp2
      go_ret
      rw [HW2.out]
      exact ⟨rfl, HR.out⟩
end Go.Proofs.YtookicopjphmnaaGreat
