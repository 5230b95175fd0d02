/- What Untap makes of a store, in plain words (layer 7); Set, with all that it leaves as it was. Untap (layer 7): what some seats own on the Field is tapped, and sick, no more. -/
import Derived.Test.YtbbbkpadadeolaaJe
namespace Go.Proofs.Ytbbbkpadadeolaa
open Go.RowKit Go.Maps

def freeO (o : ObjL) : ObjL := ⟨o.id, o.card, o.owner, o.zone, false, false, o.hurt, o.count, o.boost, o.block, o.attacks⟩
def awayO (o : ObjL) : Bool := o.tapped || o.sick
theorem freeO_well {o : ObjL} (h : awayO o = false) : freeO o = o := by
  obtain ⟨x0, x1, x2, x3, x4, x5, x6, x7, x8, x9, x10⟩ := o
  simp [awayO] at h
  obtain ⟨rfl, rfl⟩ := h
  rfl
def freeAll (S : StoreL) (X : List Int) : StoreL := { S with objs := S.objs.map fun o => if X.contains o.id then freeO o else o }
theorem freeAll_nil (S : StoreL) : freeAll S [] = S := by
  unfold freeAll
  have : (S.objs.map fun o => if ([] : List Int).contains o.id then freeO o else o) = S.objs := by simp
  rw [this]
theorem freeAll_len (S : StoreL) (X : List Int) : (freeAll S X).objs.length = S.objs.length := by simp [freeAll]
theorem freeAll_get {S : StoreL} (h : WfS S) (X : List Int) (k : Nat) (hk : k < S.objs.length) : (freeAll S X).objs[k]'(by rw [freeAll_len]; exact hk) = if X.contains ((k : Int) + 1) then freeO S.objs[k] else S.objs[k] := by
  simp only [freeAll, List.getElem_map]
  rw [(h.ids k hk).1]
theorem freeAll_wf {S : StoreL} (h : WfS S) (X : List Int) : WfS (freeAll S X) := by
  refine h.like (by simp) (fun k hk hk' => ?_)
  simp only [List.getElem_map]
  split <;> exact ⟨rfl, rfl, rfl, rfl⟩
theorem freeAll_snoc {S : StoreL} (h : WfS S) (X : List Int) (k : Nat) (hk : k < S.objs.length) : setL (freeAll S X) k (freeO S.objs[k]) = freeAll S (X ++ [(k : Int) + 1]) := by
  have e : (freeAll S X).objs.set k (freeO S.objs[k]) = (freeAll S (X ++ [(k : Int) + 1])).objs := by
    refine List.ext_getElem (by simp [freeAll]) (fun i h1 h2 => ?_)
    have hi : i < S.objs.length := by rw [freeAll_len] at h2; exact h2
    rw [List.getElem_set]
    by_cases e : k = i
    · subst e
      rw [if_pos rfl, freeAll_get h _ k hk, List.contains_append]
      have : ([(k : Int) + 1] : List Int).contains ((k : Int) + 1) = true := by simp
      rw [this, Bool.or_true, if_pos rfl]
    · rw [if_neg e, freeAll_get h X i hi, freeAll_get h _ i hi, List.contains_append]
      have : ([(k : Int) + 1] : List Int).contains ((i : Int) + 1) = false := by simp; omega
      rw [this, Bool.or_false]
  unfold setL
  rw [e]
  rfl
theorem freeAll_skip {S : StoreL} (h : WfS S) (X : List Int) (k : Nat) (hk : k < S.objs.length) (hw : awayO S.objs[k] = false) : freeAll S (X ++ [(k : Int) + 1]) = freeAll S X := by
  have e : (freeAll S (X ++ [(k : Int) + 1])).objs = (freeAll S X).objs := by
    refine List.ext_getElem (by simp [freeAll]) (fun i h1 h2 => ?_)
    have hi : i < S.objs.length := by rw [freeAll_len] at h2; exact h2
    rw [freeAll_get h X i hi, freeAll_get h _ i hi, List.contains_append]
    by_cases e : k = i
    · subst e
      rw [freeO_well hw]
      split <;> split <;> rfl
    · have : ([(k : Int) + 1] : List Int).contains ((i : Int) + 1) = false := by simp; omega
      rw [this, Bool.or_false]
  show ({ S with objs := (freeAll S (X ++ [(k : Int) + 1])).objs } : StoreL) = _
  rw [e]
  rfl
def onB (os : List Int) (o : ObjL) : Bool := o.zone == 3 && os.contains o.owner
def untapL (S : StoreL) (os : List Int) : StoreL := { S with objs := S.objs.map fun o => if onB os o then freeO o else o }
def untapN (S : StoreL) (os : List Int) : Nat := (S.objs.filter fun o => onB os o && awayO o).length
theorem untapL_none (S : StoreL) : untapL S [] = S := by
  unfold untapL onB
  have : (S.objs.map fun o => if (o.zone == 3 && ([] : List Int).contains o.owner) then freeO o else o) = S.objs := by simp
  rw [this]
theorem untapN_none (S : StoreL) : untapN S [] = 0 := by
  unfold untapN onB
  simp
theorem untapL_wf {S : StoreL} (h : WfS S) (os : List Int) : WfS (untapL S os) := by
  refine h.like (by simp) (fun k hk hk' => ?_)
  simp only [List.getElem_map]
  split <;> exact ⟨rfl, rfl, rfl, rfl⟩
theorem untapL_len (S : StoreL) (os : List Int) : (untapL S os).objs.length = S.objs.length := by simp [untapL]
theorem field_eq {S : StoreL} {os : List Int} : fieldL S os = ((S.pl 0 3).filter fun i => ownB os (objOf S i)).map (objOf S) := by
  unfold fieldL selO
  rw [List.filter_map]
  rfl
theorem field_perm {S : StoreL} (h : WfS S) (hn : 1 ≤ S.seats) {os : List Int} (ho : os ≠ []) : (fieldL S os).Perm (S.objs.filter (onB os)) := by
  have ok : okK S.seats 0 3 := ⟨by omega, by decide, by decide, fun _ => rfl⟩
  have hown : ∀ o, ownB os o = os.contains o.owner := fun o => by
    unfold ownB
    cases os with
    | nil => exact absurd rfl ho
    | cons a l => rfl
  have hself : ∀ k (hk : k < S.objs.length), objOf S ((k : Int) + 1) = S.objs[k] := fun k hk => by
    unfold objOf
    rw [show ((k : Int) + 1 - 1).toNat = k by omega]
    simp [List.getD, hk]
  have e2 : S.objs.filter (onB os) = ((S.objs.filter (onB os)).map (·.id)).map (objOf S) := by
    rw [List.map_map]
    conv => lhs; rw [← List.map_id (S.objs.filter (onB os))]
    refine List.map_congr_left (fun o hm => ?_)
    obtain ⟨k, hk, rfl⟩ := List.getElem_of_mem (List.mem_filter.1 hm).1
    show S.objs[k] = objOf S S.objs[k].id
    rw [(h.ids k hk).1, hself k hk]
  rw [field_eq, e2]
  refine List.Perm.map _ ?_
  have hnd : ((S.objs.filter (onB os)).map (·.id)).Nodup := by
    unfold List.Nodup
    rw [List.pairwise_map]
    refine List.Pairwise.filter _ ?_
    rw [List.pairwise_iff_getElem]
    intro i j hi hj hij
    rw [(h.ids i hi).1, (h.ids j hj).1]
    omega
  rw [List.perm_ext_iff_of_nodup ((h.nodup 0 3 ok).filter _) hnd]
  intro i
  rw [List.mem_filter, List.mem_map]
  constructor
  · rintro ⟨hi, hb⟩
    obtain ⟨k, hk, e, hoo, hz⟩ := h.onField hn hi
    rw [hoo, hown] at hb
    refine ⟨S.objs[k], List.mem_filter.2 ⟨List.getElem_mem hk, ?_⟩, by rw [(h.ids k hk).1, e]⟩
    unfold onB
    rw [hz, hb]
    rfl
  · rintro ⟨o, hm, rfl⟩
    obtain ⟨hm, hb⟩ := List.mem_filter.1 hm
    obtain ⟨k, hk, rfl⟩ := List.getElem_of_mem hm
    unfold onB at hb
    rw [Bool.and_eq_true] at hb
    have hz : S.objs[k].zone = 3 := by simpa using hb.1
    refine ⟨(h.mem 0 3 ok _).2 ⟨k, hk, (h.ids k hk).1, by unfold keyS canN; rw [hz]; rfl, by rw [hz]; rfl⟩, ?_⟩
    rw [(h.ids k hk).1, hself k hk, hown]
    exact hb.2
theorem untap_eq {S : StoreL} (h : WfS S) (hn : 1 ≤ S.seats) {os : List Int} (ho : os ≠ []) : freeAll S ((fieldL S os).map (·.id)) = untapL S os := by
  have hp := field_perm h hn ho
  have e : (freeAll S ((fieldL S os).map (·.id))).objs = (untapL S os).objs := by
    unfold freeAll untapL
    dsimp only
    refine List.map_congr_left (fun o hm => ?_)
    have : ((fieldL S os).map (·.id)).contains o.id = onB os o := by
      obtain ⟨k, hk, rfl⟩ := List.getElem_of_mem hm
      rw [Bool.eq_iff_iff, List.contains_iff_mem, List.mem_map]
      constructor
      · rintro ⟨y, hy, e⟩
        obtain ⟨hy1, hy2⟩ := List.mem_filter.1 (hp.subset hy)
        obtain ⟨j, hj, rfl⟩ := List.getElem_of_mem hy1
        rw [(h.ids j hj).1, (h.ids k hk).1] at e
        obtain rfl : j = k := by omega
        exact hy2
      · intro hb
        exact ⟨S.objs[k], hp.symm.subset (List.mem_filter.2 ⟨hm, hb⟩), rfl⟩
    rw [this]
  show ({ S with objs := (freeAll S ((fieldL S os).map (·.id))).objs } : StoreL) = _
  rw [e]
  rfl
theorem untapN_eq {S : StoreL} (h : WfS S) (hn : 1 ≤ S.seats) {os : List Int} (ho : os ≠ []) : ((fieldL S os).filter awayO).length = untapN S os := by
  rw [((field_perm h hn ho).filter awayO).length_eq, List.filter_filter]
  unfold untapN
  congr 1
  refine List.filter_congr (fun o _ => ?_)
  rw [Bool.and_comm]
theorem StoreAt.setObjG {w : World} {lo b k g cap : Nat} {G : Ghost} {S : StoreL} (h : StoreAt w lo b G S) (hk : k < S.objs.length) (hv : G.ov = .slice (some ⟨g, 0, none⟩) S.objs.length cap) (x : ObjL) :
    StoreAt (w.setCells g (k * 11) (ocells x)) lo b G (setL S k x) ∧ w.grownBy (w.setCells g (k * 11) (ocells x)) (some g) := by
  have hgr := grown_setCells g (ocells x) (k * 11) w
  have hob : G.ov.ownBlock = some g := by rw [hv]; rfl
  have hg := h.tr g hob
  have hkeep : ∀ k', G.tag k' ≠ .no → G.tag k' ≠ .row → (w.setCells g (k * 11) (ocells x)).heap[k']? = w.heap[k']? := fun k' h0 h1 =>
    hgr.block k' (h.tagLt h0) (fun e => h1 (by injection e with e; rw [e]; exact hg))
  refine ⟨⟨?_, ?_, ?_, ?_, fun s z ok => ?_, h.tb, h.tm, h.tr, h.tp, h.tg, h.low, fun k' hk' => h.high k' (Nat.le_trans hgr.size hk'), h.n1, h.n4, h.ok⟩, hgr⟩
  · exact (hkeep b (by rw [h.tb]; simp) (by rw [h.tb]; simp)).trans h.hd
  · exact h.tab.kept fun k' ht => ⟨hkeep k' (by rw [ht]; simp) (by rw [ht]; simp), ht⟩
  · exact own_setObj h.ob hk hv x
  · exact h.mp.kept (hkeep _ (by rw [h.tm]; simp) (by rw [h.tm]; simp))
  · exact pile_kept (h.pi s z ok) (hkeep _ (by rw [h.tp s z ok]; simp) (by rw [h.tp s z ok]; simp)) fun k' e => hkeep _ (by rw [h.tg s z k' ok e]; simp) (by rw [h.tg s z k' ok e]; simp)
theorem grown_row {w w' : World} (hb : Below w.heap.size w w') (row : Option Nat) : w.grownBy w' row := ⟨hb.os, hb.tape, hb.output, hb.size, fun k hk _ => hb.block k hk⟩
def RetG (w : World) (lo b : Nat) (G : Ghost) (S : StoreL) (v : Value) (e : Ending) (w' : World) : Prop := e = .returned v ∧ StoreAt w' lo b G S ∧ w.grownBy w' G.ov.ownBlock
set_option maxRecDepth 100000 in
set_option maxHeartbeats 4000000 in
theorem set_same {w : World} {lo b : Nat} {G : Ghost} {S : StoreL} (h : StoreAt w lo b G S) (hS : S.objs.length ≤ 1000) (k : Nat) (hk : k < S.objs.length) (x : ObjL)
    (h0 : x.id = (k : Int) + 1) (h1 : x.card = S.objs[k].card) (h2 : x.owner = S.objs[k].owner) (h3 : x.zone = S.objs[k].zone) :
    Calls Try.prog 26 #[.pointer (some ⟨b, 0, none⟩), oagg x] w (RetG w lo b G (setL S k x) (.int .i64 0)) := by
  have HG := Lib.hid (fun (w' : World) (hb : Below w.heap.size w w') => get_in (h.later hb) hS k hk)
  obtain ⟨x0, x1, x2, x3, x4, x5, x6, x7, x8, x9, x10⟩ := x
  dsimp only at h0 h1 h2 h3
  subst h0 h1 h2 h3
  have HH := Lib.hid h
  obtain ⟨y, hy⟩ : ∃ y, S.objs[k] = y := ⟨_, rfl⟩
  rw [hy] at HG ⊢
  unfold RetGet oagg at HG
  unfold oagg
  clear h
  dsimp only at HG ⊢
  have eq0 : ∀ z : Int, (z != z) = false := fun z => bne_self_eq_false z
  have E0 := eq0 y.card
  have E1 := eq0 y.owner
  have E2 := eq0 y.zone
  clear eq0
  obtain ⟨x, hx⟩ : ∃ x : ObjL, x = ⟨(k : Int) + 1, y.card, y.owner, y.zone, x4, x5, x6, x7, x8, x9, x10⟩ := ⟨_, rfl⟩
  have HX := Lib.hid (show ObjCells (w.alloc (.cells #[.int .i64 ((k : Int) + 1), .int .i64 y.card, .int .i64 y.owner, .int .i64 y.zone, .bool x4, .bool x5, .int .i64 x6, .int .i64 x7, .int .i64 x8, .int .i64 x9, .bool x10] 36)) w.heap.size 0 ⟨(k : Int) + 1, y.card, y.owner, y.zone, x4, x5, x6, x7, x8, x9, x10⟩ from box_obj w ⟨(k : Int) + 1, y.card, y.owner, y.zone, x4, x5, x6, x7, x8, x9, x10⟩)
  rw [← hx]
  have HXX := Lib.hid hx
  clear hx
  go_enter Try.func26, Try.ntmps26
  go_wp2_with fail
  refine (HG.out _ (below_new w _)).mono ?_
  rintro e w1 ⟨rfl, hb1⟩
  obtain ⟨W, hW⟩ : ∃ W, w1.alloc (.cells #[.int .i64 y.id, .int .i64 y.card, .int .i64 y.owner, .int .i64 y.zone, .bool y.tapped, .bool y.sick, .int .i64 y.hurt, .int .i64 y.count, .int .i64 y.boost, .int .i64 y.block, .bool y.attacks] 36) = W := ⟨_, rfl⟩
  have hbx : Below (w.alloc (.cells #[.int .i64 ((k : Int) + 1), .int .i64 y.card, .int .i64 y.owner, .int .i64 y.zone, .bool x4, .bool x5, .int .i64 x6, .int .i64 x7, .int .i64 x8, .int .i64 x9, .bool x10] 36)).heap.size (w.alloc (.cells #[.int .i64 ((k : Int) + 1), .int .i64 y.card, .int .i64 y.owner, .int .i64 y.zone, .bool x4, .bool x5, .int .i64 x6, .int .i64 x7, .int .i64 x8, .int .i64 x9, .bool x10] 36)) W := stepB hb1 (hW ▸ below_new w1 _)
  have hbw : Below w.heap.size w W := stepB (below_new w _) hbx
  obtain ⟨p0, p1, p2, p3, p4, p5, p6, p7, p8, p9, p10⟩ := HX.out.later hbx
  have HW := Lib.hid (HH.out.later hbw)
  have HBW := Lib.hid hbw
  have hrow := own_obj HW.out.ob k hk
  obtain ⟨g, cap, hv, ⟨o0, o1, o2, o3, o4, o5, o6, o7, o8, o9, o10⟩, hfr⟩ := hrow
  have c2 : W.cell? ⟨b, 2, none⟩ = some (.slice (some ⟨g, 0, none⟩) S.objs.length cap) := by rw [cell_of_row W b 2 _ _ _ HW.out.hd, ← hv]; rfl
  simp only [Nat.zero_add] at p1 p2 p3 p4 p5 p6 p7 p8 p9 p10
  have HV := Lib.hid hv
  have d2 : (k : Int) + 1 - 1 = k := by omega
  subst hW
  clear hb1 hbx hbw hv
  go_wp2
  go_region
  all_goals
    go_wp2
    refine bodyPost_ret (by simp [results, Try.results26, go_sem]) rfl ⟨rfl, ?_⟩
    obtain ⟨h1, h2⟩ := HW.out.setObjG hk HV.out x
    rw [setCells_obj] at h1 h2
    rw [HXX.out] at h1 h2 ⊢
    dsimp only at h1 h2
    have hob : G.ov.ownBlock = some g := by rw [HV.out]; rfl
    rw [hob]
    exact ⟨h1.later (Below.refl _ _).drew, ((grown_row HBW.out _).trans h2).trans (grown_row (Below.refl _ _).drew _)⟩

end Go.Proofs.Ytbbbkpadadeolaa
namespace Go.Proofs.Ytbbbkpadadeolaa
open Go.RowKit Go.Maps
attribute [local go_sem] Oper.semAt_some

def UntapI (S : StoreL) (q lo b : Nat) (G : Ghost) (A Wr : World) (pre : List ObjL) (W : World) : Prop :=
  StoreAt W lo b G (freeAll S (pre.map (·.id))) ∧ HdAt W (q + 1) (.int .i64 (pre.filter awayO).length) ∧ KpP (fun k => G.ov.ownBlock = some k ∨ k = q + 1) (fun _ => False) Wr W ∧ Turned A W G G ∧ pre.length ≤ 1000
theorem untapI_own {S : StoreL} {q lo b B : Nat} {G : Ghost} {A Wr : World} (hA : A.heap.size ≤ B) (hB : Wr.heap.size ≤ B) (hG : ∀ k, B ≤ k → G.tag k = .no) : OwnFrom B (UntapI S q lo b G A Wr) := by
  rintro s X Y row ⟨h1, h2, h3, h4, h5⟩ hg hr
  have hr' : ∀ r, row = some r → ∃ o : Obj, X.heap[r]? = some o ∧ o.isCells = false := fun r e => (hr r e).2
  refine ⟨h1.kept hg.size fun k hk => hg.block k (h1.tagLt hk) (fun e => hk (hG k (hr k e.symm).1)), h2.grown hg hr', kpP_own (β := Unit) hB () X Y row h3 hg hr, ⟨⟨hg.os.trans h4.chg.os, hg.tape.trans h4.chg.tape, hg.output.trans h4.chg.output, Nat.le_trans h4.chg.size hg.size, fun k hk ht => ?_⟩, fun _ _ => rfl⟩, h5⟩
  exact (hg.block k (Nat.lt_of_lt_of_le hk h4.chg.size) (fun e => by have := (hr k e.symm).1; omega)).trans (h4.chg.block k hk ht)
theorem store_setN {w : World} {lo b g j : Nat} {G : Ghost} {S : StoreL} (h : StoreAt w lo b G S) (hg : G.tag g = .no) (u : Value) : StoreAt (w.setCell ⟨g, j, none⟩ u) lo b G S :=
  h.kept (by simp) fun k hk => heap_setCell_other w ⟨g, j, none⟩ k u (fun e => hk (by rw [e]; exact hg))
theorem untap_id (pre : List ObjL) (x : ObjL) : (pre ++ [x]).map (·.id) = pre.map (·.id) ++ [x.id] := by simp
theorem untap_cnt (pre : List ObjL) (x : ObjL) : ((pre ++ [x]).filter awayO).length = (pre.filter awayO).length + (if awayO x then 1 else 0) := by
  rw [List.filter_append, List.length_append]
  by_cases h : awayO x = true
  · simp [h]
  · simp [h]
/-- A round that untaps: what it keeps. -/
theorem untap_step {S S' : StoreL} {q lo b l qo : Nat} {G : Ghost} {A Wr W Wb w5 : World} {pre : List ObjL} {u4 u5 : Value} (hI : UntapI S q lo b G A Wr pre Wb) (hq : A.heap.size = q) (hov : ∀ k, G.ov.ownBlock = some k → k < q ∧ G.tag k = .row) (htag : G.tag (q + 1) = .no)
    (hqo : W.heap.size = qo) (hwr : Wr.heap.size + 1 < qo) (hq4 : q + 4 ≤ Wr.heap.size) (hob : ∃ C t, Wb.heap[qo]? = some (.cells C t (0, 0))) (hkw : KpP (fun k => (G.ov.ownBlock = some k ∨ k = q + 1) ∨ k = l) (fun _ => False) W Wb)
    (hg : ((Wb.setCell ⟨qo, 4, none⟩ u4).setCell ⟨qo, 5, none⟩ u5).grownBy w5 G.ov.ownBlock) (hs : StoreAt w5 lo b G S') :
    HdAt w5 (q + 1) (.int .i64 (pre.filter awayO).length) ∧ ∀ u, KeepsFrom Wr.heap.size Wb (w5.setCell ⟨q + 1, 0, none⟩ u) ∧ KpP (fun k => (G.ov.ownBlock = some k ∨ k = q + 1) ∨ k = l) (fun _ => False) W (w5.setCell ⟨q + 1, 0, none⟩ u) ∧
      StoreAt (w5.setCell ⟨q + 1, 0, none⟩ u) lo b G S' ∧ HdAt (w5.setCell ⟨q + 1, 0, none⟩ u) (q + 1) u ∧ KpP (fun k => G.ov.ownBlock = some k ∨ k = q + 1) (fun _ => False) Wr (w5.setCell ⟨q + 1, 0, none⟩ u) ∧ Turned A (w5.setCell ⟨q + 1, 0, none⟩ u) G G := by
  obtain ⟨st0, hc0, kp0, td0, _⟩ := hI
  obtain ⟨C, t, hob⟩ := hob
  have hsz : Wb.heap.size ≤ w5.heap.size := by have := hg.size; simpa using this
  have keep : ∀ k, k < Wb.heap.size → k ≠ qo → G.ov.ownBlock ≠ some k → w5.heap[k]? = Wb.heap[k]? := fun k hk h1 h2 => by
    rw [hg.block k (by simpa using hk) (fun e => h2 e.symm), heap_setCell_other _ ⟨qo, 5, none⟩ k u5 h1, heap_setCell_other _ ⟨qo, 4, none⟩ k u4 h1]
  have hd5 : HdAt w5 (q + 1) (.int .i64 (pre.filter awayO).length) := hc0.of (keep _ hc0.lt (by omega) (fun e => by have := (hov _ e).1; omega))
  refine ⟨hd5, fun u => ?_⟩
  have keep6 : ∀ k, k < Wb.heap.size → k ≠ qo → G.ov.ownBlock ≠ some k → k ≠ q + 1 → (w5.setCell ⟨q + 1, 0, none⟩ u).heap[k]? = Wb.heap[k]? := fun k hk h1 h2 h3 =>
    (heap_setCell_other w5 ⟨q + 1, 0, none⟩ k u h3).trans (keep k hk h1 h2)
  have hlt : ∀ {X : World} {k : Nat} {o : Obj}, X.heap[k]? = some o → k < X.heap.size := fun h => (Array.getElem?_eq_some_iff.1 h).1
  refine ⟨⟨by simpa using hsz, fun k o hB ho hc => ?_⟩, ⟨by have := hkw.size; simp; omega, fun k o ho hE hO => ?_, fun _ _ e => e.elim⟩, store_setN hs htag u, hd5.set u, ⟨by have := kp0.size; simp; omega, fun k o ho hE hO => ?_, fun _ _ e => e.elim⟩, ⟨⟨?_, ?_, ?_, by have := td0.chg.size; simp; omega, fun k hk ht => ?_⟩, fun _ _ => rfl⟩⟩
  · refine (keep6 k (hlt ho) (fun e => ?_) (fun e => ?_) (by omega)).trans ho
    · rw [e, hob] at ho; injection ho with ho; rw [← ho] at hc; simp [Obj.isCells] at hc
    · have := (hov k e).1; omega
  · have h1 := hkw.rest k o ho hE (fun _ => ⟨fun e => e, fun _ e => e.elim⟩)
    have := hlt ho
    exact (keep6 k (hlt h1) (by omega) (fun e => hE (.inl (.inl e))) (fun e => hE (.inl (.inr e)))).trans h1
  · have h1 := kp0.rest k o ho hE (fun _ => ⟨fun e => e, fun _ e => e.elim⟩)
    have := hlt ho
    exact (keep6 k (hlt h1) (by omega) (fun e => hE (.inl e)) (fun e => hE (.inr e))).trans h1
  · exact (show w5.os = Wb.os from hg.os).trans td0.chg.os
  · exact (show w5.tape = Wb.tape from hg.tape).trans td0.chg.tape
  · exact (show w5.output = Wb.output from hg.output).trans td0.chg.output
  · have := kp0.size
    refine (keep6 k (by omega) (by omega) (fun e => ?_) (by omega)).trans (td0.chg.block k hk ht)
    rw [(hov k e).2] at ht
    simp at ht
end Go.Proofs.Ytbbbkpadadeolaa
