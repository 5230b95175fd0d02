/- Contracts of mana.Untap, stat.Fade and Teams.Next, cut out of earlier texts. -/
import Derived.Test.YtdlkdilgjmmlaaaDoorFx
import Derived.Test.YtdlkdilgjmmlaaaDoorFy
import Derived.Test.YtdlkdilgjmmlaaaDoorHs
import Derived.Test.YtdlkdilgjmmlaaaDoorRb
import Derived.Test.YtdlkdilgjmmlaaaDoorFs
namespace Go.Proofs.YtdlkdilgjmmlaaaDoor
open Go.RowKit Go.Maps
attribute [local go_sem] Oper.semAt_some
def freeO (o : ObjL) : ObjL := ⟨o.id, o.card, o.owner, o.zone, false, false, o.hurt, o.count, o.boost, o.block, o.attacks⟩
def awayO (o : ObjL) : Bool := o.tapped || o.sick
theorem freeO_well {o : ObjL} (h : awayO o = false) : freeO o = o := by
  obtain ⟨x0, x1, x2, x3, x4, x5, x6, x7, x8, x9, x10⟩ := o
  simp [awayO] at h
  obtain ⟨rfl, rfl⟩ := h
  rfl
def freeAll (S : StoreL) (X : List Int) : StoreL := { S with objs := S.objs.map fun o => if X.contains o.id then freeO o else o }
theorem freeAll_nil (S : StoreL) : freeAll S [] = S := by
  unfold freeAll
  have : (S.objs.map fun o => if ([] : List Int).contains o.id then freeO o else o) = S.objs := by simp
  rw [this]
theorem freeAll_len (S : StoreL) (X : List Int) : (freeAll S X).objs.length = S.objs.length := by simp [freeAll]
theorem freeAll_get {S : StoreL} (h : WfS S) (X : List Int) (k : Nat) (hk : k < S.objs.length) : (freeAll S X).objs[k]'(by rw [freeAll_len]; exact hk) = if X.contains ((k : Int) + 1) then freeO S.objs[k] else S.objs[k] := by
  simp only [freeAll, List.getElem_map]
  rw [(h.ids k hk).1]
theorem freeAll_snoc {S : StoreL} (h : WfS S) (X : List Int) (k : Nat) (hk : k < S.objs.length) : setL (freeAll S X) k (freeO S.objs[k]) = freeAll S (X ++ [(k : Int) + 1]) := by
  have e : (freeAll S X).objs.set k (freeO S.objs[k]) = (freeAll S (X ++ [(k : Int) + 1])).objs := by
    refine List.ext_getElem (by simp [freeAll]) (fun i h1 h2 => ?_)
    have hi : i < S.objs.length := by rw [freeAll_len] at h2; exact h2
    rw [List.getElem_set]
    by_cases e : k = i
    · subst e
      rw [if_pos rfl, freeAll_get h _ k hk, List.contains_append]
      have : ([(k : Int) + 1] : List Int).contains ((k : Int) + 1) = true := by simp
      rw [this, Bool.or_true, if_pos rfl]
    · rw [if_neg e, freeAll_get h X i hi, freeAll_get h _ i hi, List.contains_append]
      have : ([(k : Int) + 1] : List Int).contains ((i : Int) + 1) = false := by simp; omega
      rw [this, Bool.or_false]
  unfold setL
  rw [e]
  rfl
theorem freeAll_skip {S : StoreL} (h : WfS S) (X : List Int) (k : Nat) (hk : k < S.objs.length) (hw : awayO S.objs[k] = false) : freeAll S (X ++ [(k : Int) + 1]) = freeAll S X := by
  have e : (freeAll S (X ++ [(k : Int) + 1])).objs = (freeAll S X).objs := by
    refine List.ext_getElem (by simp [freeAll]) (fun i h1 h2 => ?_)
    have hi : i < S.objs.length := by rw [freeAll_len] at h2; exact h2
    rw [freeAll_get h X i hi, freeAll_get h _ i hi, List.contains_append]
    by_cases e : k = i
    · subst e
      rw [freeO_well hw]
      split <;> split <;> rfl
    · have : ([(k : Int) + 1] : List Int).contains ((i : Int) + 1) = false := by simp; omega
      rw [this, Bool.or_false]
  show ({ S with objs := (freeAll S (X ++ [(k : Int) + 1])).objs } : StoreL) = _
  rw [e]
  rfl
def onB (os : List Int) (o : ObjL) : Bool := o.zone == 3 && os.contains o.owner
def untapL (S : StoreL) (os : List Int) : StoreL := { S with objs := S.objs.map fun o => if onB os o then freeO o else o }
def untapN (S : StoreL) (os : List Int) : Nat := (S.objs.filter fun o => onB os o && awayO o).length
theorem untapL_none (S : StoreL) : untapL S [] = S := by
  unfold untapL onB
  have : (S.objs.map fun o => if (o.zone == 3 && ([] : List Int).contains o.owner) then freeO o else o) = S.objs := by simp
  rw [this]
theorem untapN_none (S : StoreL) : untapN S [] = 0 := by
  unfold untapN onB
  simp
theorem field_eq {S : StoreL} {os : List Int} : fieldL S os = ((S.pl 0 3).filter fun i => ownB os (objOf S i)).map (objOf S) := by
  unfold fieldL selO
  rw [List.filter_map]
  rfl
theorem field_perm {S : StoreL} (h : WfS S) (hn : 1 ≤ S.seats) {os : List Int} (ho : os ≠ []) : (fieldL S os).Perm (S.objs.filter (onB os)) := by
  have ok : okK S.seats 0 3 := ⟨by omega, by decide, by decide, fun _ => rfl⟩
  have hown : ∀ o, ownB os o = os.contains o.owner := fun o => by
    unfold ownB
    cases os with
    | nil => exact absurd rfl ho
    | cons a l => rfl
  have hself : ∀ k (hk : k < S.objs.length), objOf S ((k : Int) + 1) = S.objs[k] := fun k hk => by
    unfold objOf
    rw [show ((k : Int) + 1 - 1).toNat = k by omega]
    simp [List.getD, hk]
  have e2 : S.objs.filter (onB os) = ((S.objs.filter (onB os)).map (·.id)).map (objOf S) := by
    rw [List.map_map]
    conv => lhs; rw [← List.map_id (S.objs.filter (onB os))]
    refine List.map_congr_left (fun o hm => ?_)
    obtain ⟨k, hk, rfl⟩ := List.getElem_of_mem (List.mem_filter.1 hm).1
    show S.objs[k] = objOf S S.objs[k].id
    rw [(h.ids k hk).1, hself k hk]
  rw [field_eq, e2]
  refine List.Perm.map _ ?_
  have hnd : ((S.objs.filter (onB os)).map (·.id)).Nodup := by
    unfold List.Nodup
    rw [List.pairwise_map]
    refine List.Pairwise.filter _ ?_
    rw [List.pairwise_iff_getElem]
    intro i j hi hj hij
    rw [(h.ids i hi).1, (h.ids j hj).1]
    omega
  rw [List.perm_ext_iff_of_nodup ((h.nodup 0 3 ok).filter _) hnd]
  intro i
  rw [List.mem_filter, List.mem_map]
  constructor
  · rintro ⟨hi, hb⟩
    obtain ⟨k, hk, e, hoo, hz⟩ := h.onField hn hi
    rw [hoo, hown] at hb
    refine ⟨S.objs[k], List.mem_filter.2 ⟨List.getElem_mem hk, ?_⟩, by rw [(h.ids k hk).1, e]⟩
    unfold onB
    rw [hz, hb]
    rfl
  · rintro ⟨o, hm, rfl⟩
    obtain ⟨hm, hb⟩ := List.mem_filter.1 hm
    obtain ⟨k, hk, rfl⟩ := List.getElem_of_mem hm
    unfold onB at hb
    rw [Bool.and_eq_true] at hb
    have hz : S.objs[k].zone = 3 := by simpa using hb.1
    refine ⟨(h.mem 0 3 ok _).2 ⟨k, hk, (h.ids k hk).1, by unfold keyS canN; rw [hz]; rfl, by rw [hz]; rfl⟩, ?_⟩
    rw [(h.ids k hk).1, hself k hk, hown]
    exact hb.2
theorem untap_eq {S : StoreL} (h : WfS S) (hn : 1 ≤ S.seats) {os : List Int} (ho : os ≠ []) : freeAll S ((fieldL S os).map (·.id)) = untapL S os := by
  have hp := field_perm h hn ho
  have e : (freeAll S ((fieldL S os).map (·.id))).objs = (untapL S os).objs := by
    unfold freeAll untapL
    dsimp only
    refine List.map_congr_left (fun o hm => ?_)
    have : ((fieldL S os).map (·.id)).contains o.id = onB os o := by
      obtain ⟨k, hk, rfl⟩ := List.getElem_of_mem hm
      rw [Bool.eq_iff_iff, List.contains_iff_mem, List.mem_map]
      constructor
      · rintro ⟨y, hy, e⟩
        obtain ⟨hy1, hy2⟩ := List.mem_filter.1 (hp.subset hy)
        obtain ⟨j, hj, rfl⟩ := List.getElem_of_mem hy1
        rw [(h.ids j hj).1, (h.ids k hk).1] at e
        obtain rfl : j = k := by omega
        exact hy2
      · intro hb
        exact ⟨S.objs[k], hp.symm.subset (List.mem_filter.2 ⟨hm, hb⟩), rfl⟩
    rw [this]
  show ({ S with objs := (freeAll S ((fieldL S os).map (·.id))).objs } : StoreL) = _
  rw [e]
  rfl
theorem untapN_eq {S : StoreL} (h : WfS S) (hn : 1 ≤ S.seats) {os : List Int} (ho : os ≠ []) : ((fieldL S os).filter awayO).length = untapN S os := by
  rw [((field_perm h hn ho).filter awayO).length_eq, List.filter_filter]
  unfold untapN
  congr 1
  refine List.filter_congr (fun o _ => ?_)
  rw [Bool.and_comm]
theorem StoreAt.setObjG {w : World} {lo b k g cap : Nat} {G : Ghost} {S : StoreL} (h : StoreAt w lo b G S) (hk : k < S.objs.length) (hv : G.ov = .slice (some ⟨g, 0, none⟩) S.objs.length cap) (x : ObjL) :
    StoreAt (w.setCells g (k * 11) (ocells x)) lo b G (setL S k x) ∧ w.grownBy (w.setCells g (k * 11) (ocells x)) (some g) := by
  have hgr := grown_setCells g (ocells x) (k * 11) w
  have hob : G.ov.ownBlock = some g := by rw [hv]; rfl
  have hg := h.tr g hob
  have hkeep : ∀ k', G.tag k' ≠ .no → G.tag k' ≠ .row → (w.setCells g (k * 11) (ocells x)).heap[k']? = w.heap[k']? := fun k' h0 h1 =>
    hgr.block k' (h.tagLt h0) (fun e => h1 (by injection e with e; rw [e]; exact hg))
  refine ⟨⟨?_, ?_, ?_, ?_, fun s z ok => ?_, h.tb, h.tm, h.tr, h.tp, h.tg, h.low, fun k' hk' => h.high k' (Nat.le_trans hgr.size hk'), h.n1, h.n4, h.ok⟩, hgr⟩
  · exact (hkeep b (by rw [h.tb]; simp) (by rw [h.tb]; simp)).trans h.hd
  · exact h.tab.kept fun k' ht => ⟨hkeep k' (by rw [ht]; simp) (by rw [ht]; simp), ht⟩
  · exact own_setObj h.ob hk hv x
  · exact h.mp.kept (hkeep _ (by rw [h.tm]; simp) (by rw [h.tm]; simp))
  · exact pile_kept (h.pi s z ok) (hkeep _ (by rw [h.tp s z ok]; simp) (by rw [h.tp s z ok]; simp)) fun k' e => hkeep _ (by rw [h.tg s z k' ok e]; simp) (by rw [h.tg s z k' ok e]; simp)
def RetG (w : World) (lo b : Nat) (G : Ghost) (S : StoreL) (v : Value) (e : Ending) (w' : World) : Prop := e = .returned v ∧ StoreAt w' lo b G S ∧ w.grownBy w' G.ov.ownBlock
set_option maxRecDepth 100000 in
set_option maxHeartbeats 4000000 in
theorem set_same {w : World} {lo b : Nat} {G : Ghost} {S : StoreL} (h : StoreAt w lo b G S) (hS : S.objs.length ≤ 1000) (k : Nat) (hk : k < S.objs.length) (x : ObjL)
    (h0 : x.id = (k : Int) + 1) (h1 : x.card = S.objs[k].card) (h2 : x.owner = S.objs[k].owner) (h3 : x.zone = S.objs[k].zone) :
    Calls Tryd.prog 43 #[.pointer (some ⟨b, 0, none⟩), oagg x] w (RetG w lo b G (setL S k x) (.int .i64 0)) := by
  have HG := Lib.hid (fun (w' : World) (hb : Below w.heap.size w w') => get_in (h.later hb) hS k hk)
  obtain ⟨x0, x1, x2, x3, x4, x5, x6, x7, x8, x9, x10⟩ := x
  dsimp only at h0 h1 h2 h3
  subst h0 h1 h2 h3
  have HH := Lib.hid h
  obtain ⟨y, hy⟩ : ∃ y, S.objs[k] = y := ⟨_, rfl⟩
  rw [hy] at HG ⊢
  unfold RetGet oagg at HG
  unfold oagg
  clear h
  dsimp only at HG ⊢
  have eq0 : ∀ z : Int, (z != z) = false := fun z => bne_self_eq_false z
  have E0 := eq0 y.card
  have E1 := eq0 y.owner
  have E2 := eq0 y.zone
  clear eq0
  obtain ⟨x, hx⟩ : ∃ x : ObjL, x = ⟨(k : Int) + 1, y.card, y.owner, y.zone, x4, x5, x6, x7, x8, x9, x10⟩ := ⟨_, rfl⟩
  have HX := Lib.hid (show ObjCells (w.alloc (.cells #[.int .i64 ((k : Int) + 1), .int .i64 y.card, .int .i64 y.owner, .int .i64 y.zone, .bool x4, .bool x5, .int .i64 x6, .int .i64 x7, .int .i64 x8, .int .i64 x9, .bool x10] 78)) w.heap.size 0 ⟨(k : Int) + 1, y.card, y.owner, y.zone, x4, x5, x6, x7, x8, x9, x10⟩ from box_obj w ⟨(k : Int) + 1, y.card, y.owner, y.zone, x4, x5, x6, x7, x8, x9, x10⟩)
  rw [← hx]
  have HXX := Lib.hid hx
  clear hx
  go_enter Tryd.func43, Tryd.ntmps43
  go_wp2_with fail
  refine (HG.out _ (below_new w _)).mono ?_
  rintro e w1 ⟨rfl, hb1⟩
  obtain ⟨W, hW⟩ : ∃ W, w1.alloc (.cells #[.int .i64 y.id, .int .i64 y.card, .int .i64 y.owner, .int .i64 y.zone, .bool y.tapped, .bool y.sick, .int .i64 y.hurt, .int .i64 y.count, .int .i64 y.boost, .int .i64 y.block, .bool y.attacks] 78) = W := ⟨_, rfl⟩
  have hbx : Below (w.alloc (.cells #[.int .i64 ((k : Int) + 1), .int .i64 y.card, .int .i64 y.owner, .int .i64 y.zone, .bool x4, .bool x5, .int .i64 x6, .int .i64 x7, .int .i64 x8, .int .i64 x9, .bool x10] 78)).heap.size (w.alloc (.cells #[.int .i64 ((k : Int) + 1), .int .i64 y.card, .int .i64 y.owner, .int .i64 y.zone, .bool x4, .bool x5, .int .i64 x6, .int .i64 x7, .int .i64 x8, .int .i64 x9, .bool x10] 78)) W := stepB hb1 (hW ▸ below_new w1 _)
  have hbw : Below w.heap.size w W := stepB (below_new w _) hbx
  obtain ⟨p0, p1, p2, p3, p4, p5, p6, p7, p8, p9, p10⟩ := HX.out.later hbx
  have HW := Lib.hid (HH.out.later hbw)
  have HBW := Lib.hid hbw
  have hrow := own_obj HW.out.ob k hk
  obtain ⟨g, cap, hv, ⟨o0, o1, o2, o3, o4, o5, o6, o7, o8, o9, o10⟩, hfr⟩ := hrow
  have c2 : W.cell? ⟨b, 2, none⟩ = some (.slice (some ⟨g, 0, none⟩) S.objs.length cap) := by rw [cell_of_row W b 2 _ _ _ HW.out.hd, ← hv]; rfl
  simp only [Nat.zero_add] at p1 p2 p3 p4 p5 p6 p7 p8 p9 p10
  have HV := Lib.hid hv
  have d2 : (k : Int) + 1 - 1 = k := by omega
  subst hW
  clear hb1 hbx hbw hv
  go_wp2
  go_region
  all_goals
    go_wp2
    refine bodyPost_ret (by simp [results, Tryd.results43, go_sem]) rfl ⟨rfl, ?_⟩
    obtain ⟨h1, h2⟩ := HW.out.setObjG hk HV.out x
    rw [setCells_obj] at h1 h2
    rw [HXX.out] at h1 h2 ⊢
    dsimp only at h1 h2
    have hob : G.ov.ownBlock = some g := by rw [HV.out]; rfl
    rw [hob]
    exact ⟨h1.later (Below.refl _ _).drew, ((grown_row HBW.out _).trans h2).trans (grown_row (Below.refl _ _).drew _)⟩

def UntapI (S : StoreL) (q lo b : Nat) (G : Ghost) (A Wr : World) (pre : List ObjL) (W : World) : Prop :=
  StoreAt W lo b G (freeAll S (pre.map (·.id))) ∧ HdAt W (q + 1) (.int .i64 (pre.filter awayO).length) ∧ KpP (fun k => G.ov.ownBlock = some k ∨ k = q + 1) (fun _ => False) Wr W ∧ Turned A W G G ∧ pre.length ≤ 1000
theorem untapI_own {S : StoreL} {q lo b B : Nat} {G : Ghost} {A Wr : World} (hA : A.heap.size ≤ B) (hB : Wr.heap.size ≤ B) (hG : ∀ k, B ≤ k → G.tag k = .no) : OwnFrom B (UntapI S q lo b G A Wr) := by
  rintro s X Y row ⟨h1, h2, h3, h4, h5⟩ hg hr
  have hr' : ∀ r, row = some r → ∃ o : Obj, X.heap[r]? = some o ∧ o.isCells = false := fun r e => (hr r e).2
  refine ⟨h1.kept hg.size fun k hk => hg.block k (h1.tagLt hk) (fun e => hk (hG k (hr k e.symm).1)), h2.grown hg hr', kpP_own (β := Unit) hB () X Y row h3 hg hr, ⟨⟨hg.os.trans h4.chg.os, hg.tape.trans h4.chg.tape, hg.output.trans h4.chg.output, Nat.le_trans h4.chg.size hg.size, fun k hk ht => ?_⟩, fun _ _ => rfl⟩, h5⟩
  exact (hg.block k (Nat.lt_of_lt_of_le hk h4.chg.size) (fun e => by have := (hr k e.symm).1; omega)).trans (h4.chg.block k hk ht)
theorem store_setN {w : World} {lo b g j : Nat} {G : Ghost} {S : StoreL} (h : StoreAt w lo b G S) (hg : G.tag g = .no) (u : Value) : StoreAt (w.setCell ⟨g, j, none⟩ u) lo b G S :=
  h.kept (by simp) fun k hk => heap_setCell_other w ⟨g, j, none⟩ k u (fun e => hk (by rw [e]; exact hg))
theorem untap_id (pre : List ObjL) (x : ObjL) : (pre ++ [x]).map (·.id) = pre.map (·.id) ++ [x.id] := by simp
theorem untap_cnt (pre : List ObjL) (x : ObjL) : ((pre ++ [x]).filter awayO).length = (pre.filter awayO).length + (if awayO x then 1 else 0) := by
  rw [List.filter_append, List.length_append]
  by_cases h : awayO x = true
  · simp [h]
  · simp [h]
/-- A round that untaps: what it keeps. -/
theorem untap_step {S S' : StoreL} {q lo b l qo : Nat} {G : Ghost} {A Wr W Wb w5 : World} {pre : List ObjL} {u4 u5 : Value} (hI : UntapI S q lo b G A Wr pre Wb) (hq : A.heap.size = q) (hov : ∀ k, G.ov.ownBlock = some k → k < q ∧ G.tag k = .row) (htag : G.tag (q + 1) = .no)
    (hqo : W.heap.size = qo) (hwr : Wr.heap.size + 1 < qo) (hq4 : q + 4 ≤ Wr.heap.size) (hob : ∃ C t, Wb.heap[qo]? = some (.cells C t (0, 0))) (hkw : KpP (fun k => (G.ov.ownBlock = some k ∨ k = q + 1) ∨ k = l) (fun _ => False) W Wb)
    (hg : ((Wb.setCell ⟨qo, 4, none⟩ u4).setCell ⟨qo, 5, none⟩ u5).grownBy w5 G.ov.ownBlock) (hs : StoreAt w5 lo b G S') :
    HdAt w5 (q + 1) (.int .i64 (pre.filter awayO).length) ∧ ∀ u, KeepsFrom Wr.heap.size Wb (w5.setCell ⟨q + 1, 0, none⟩ u) ∧ KpP (fun k => (G.ov.ownBlock = some k ∨ k = q + 1) ∨ k = l) (fun _ => False) W (w5.setCell ⟨q + 1, 0, none⟩ u) ∧
      StoreAt (w5.setCell ⟨q + 1, 0, none⟩ u) lo b G S' ∧ HdAt (w5.setCell ⟨q + 1, 0, none⟩ u) (q + 1) u ∧ KpP (fun k => G.ov.ownBlock = some k ∨ k = q + 1) (fun _ => False) Wr (w5.setCell ⟨q + 1, 0, none⟩ u) ∧ Turned A (w5.setCell ⟨q + 1, 0, none⟩ u) G G := by
  obtain ⟨st0, hc0, kp0, td0, _⟩ := hI
  obtain ⟨C, t, hob⟩ := hob
  have hsz : Wb.heap.size ≤ w5.heap.size := by have := hg.size; simpa using this
  have keep : ∀ k, k < Wb.heap.size → k ≠ qo → G.ov.ownBlock ≠ some k → w5.heap[k]? = Wb.heap[k]? := fun k hk h1 h2 => by
    rw [hg.block k (by simpa using hk) (fun e => h2 e.symm), heap_setCell_other _ ⟨qo, 5, none⟩ k u5 h1, heap_setCell_other _ ⟨qo, 4, none⟩ k u4 h1]
  have hd5 : HdAt w5 (q + 1) (.int .i64 (pre.filter awayO).length) := hc0.of (keep _ hc0.lt (by omega) (fun e => by have := (hov _ e).1; omega))
  refine ⟨hd5, fun u => ?_⟩
  have keep6 : ∀ k, k < Wb.heap.size → k ≠ qo → G.ov.ownBlock ≠ some k → k ≠ q + 1 → (w5.setCell ⟨q + 1, 0, none⟩ u).heap[k]? = Wb.heap[k]? := fun k hk h1 h2 h3 =>
    (heap_setCell_other w5 ⟨q + 1, 0, none⟩ k u h3).trans (keep k hk h1 h2)
  have hlt : ∀ {X : World} {k : Nat} {o : Obj}, X.heap[k]? = some o → k < X.heap.size := fun h => (Array.getElem?_eq_some_iff.1 h).1
  refine ⟨⟨by simpa using hsz, fun k o hB ho hc => ?_⟩, ⟨by have := hkw.size; simp; omega, fun k o ho hE hO => ?_, fun _ _ e => e.elim⟩, store_setN hs htag u, hd5.set u, ⟨by have := kp0.size; simp; omega, fun k o ho hE hO => ?_, fun _ _ e => e.elim⟩, ⟨⟨?_, ?_, ?_, by have := td0.chg.size; simp; omega, fun k hk ht => ?_⟩, fun _ _ => rfl⟩⟩
  · refine (keep6 k (hlt ho) (fun e => ?_) (fun e => ?_) (by omega)).trans ho
    · rw [e, hob] at ho; injection ho with ho; rw [← ho] at hc; simp [Obj.isCells] at hc
    · have := (hov k e).1; omega
  · have h1 := hkw.rest k o ho hE (fun _ => ⟨fun e => e, fun _ e => e.elim⟩)
    have := hlt ho
    exact (keep6 k (hlt h1) (by omega) (fun e => hE (.inl (.inl e))) (fun e => hE (.inl (.inr e)))).trans h1
  · have h1 := kp0.rest k o ho hE (fun _ => ⟨fun e => e, fun _ e => e.elim⟩)
    have := hlt ho
    exact (keep6 k (hlt h1) (by omega) (fun e => hE (.inl e)) (fun e => hE (.inr e))).trans h1
  · exact (show w5.os = Wb.os from hg.os).trans td0.chg.os
  · exact (show w5.tape = Wb.tape from hg.tape).trans td0.chg.tape
  · exact (show w5.output = Wb.output from hg.output).trans td0.chg.output
  · have := kp0.size
    refine (keep6 k (by omega) (by omega) (fun e => ?_) (by omega)).trans (td0.chg.block k hk ht)
    rw [(hov k e).2] at ht
    simp at ht
set_option maxRecDepth 100000 in
set_option maxHeartbeats 4000000 in
theorem untap_in {w : World} {lo b : Nat} {G : Ghost} {S : StoreL} {v : Value} {os : List Int} (h : StoreAt w lo b G S) (hS : WfS S) (hl : S.objs.length ≤ 1000) (hv : IntsAt w v os) (hol : os.length ≤ 1000) (hpos : 0 < os.length) :
    CallsIn Fence.wide 9 Tryd.prog 23 #[.pointer (some ⟨b, 0, none⟩), v] w (RetS w lo b G (freeAll S ((fieldL S os).map (·.id))) (.int .i64 ((fieldL S os).filter awayO).length)) := by
  have hn1 := h.n1
  have HFL := Lib.hid (fieldL_len hS hl hn1 os)
  have HH := Lib.hid h
  have HW := Lib.hid hS
  obtain ⟨va, vc, rfl⟩ := hv.form
  have hb1 := below_new w (.cells #[.pointer (some ⟨b, 0, none⟩)] 43)
  have hb2 := below_new (w.alloc (.cells #[.pointer (some ⟨b, 0, none⟩)] 43)) (.cells #[.int .i64 0] 3)
  have hs0 := (HdAt.new w (.pointer (some ⟨b, 0, none⟩)) 43).later hb2
  have hc0 := HdAt.new (w.alloc (.cells #[.pointer (some ⟨b, 0, none⟩)] 43)) (.int .i64 0) 3
  have hbb := stepB hb1 hb2
  simp only [World.size_alloc] at hc0
  have HFA := Lib.hid (field_any (some ⟨b, 0, none⟩) (hv.later hbb) hol)
  have HS0 := Lib.hid hs0
  have HC0 := Lib.hid hc0
  have HBB := Lib.hid hbb
  have e0 : ((os.length : Int) == 0) = false := beq_eq_false_iff_ne.2 (by omega)
  clear hb1 hb2 hs0 hc0 hbb h hS hv hpos
  refine callsIn_of_wp_marks Tryd.func23 rfl trivial ?_ rfl
  simp only [Tryd.ntmps23, List.size_toArray, List.length_cons, List.length_nil, Nat.reduceAdd, Nat.reduceSub, Array.replicate_succ, Array.replicate_zero, List.push_toArray, List.append_toArray, List.nil_append, List.cons_append]
  gi_wp2_with fail
  refine ⟨trivial, (callsIn_wide.2 HFA.out).mono ?_⟩
  rintro e wr ⟨rfl, hf1, ⟨u, hf2, hu⟩, hbr⟩
  have HBR := Lib.hid (stepB HBB.out hbr)
  have HSB := Lib.hid (HS0.out.later hbr)
  have HCB := Lib.hid (HC0.out.later hbr)
  obtain ⟨q, hq⟩ : ∃ q, w.heap.size = q := ⟨_, rfl⟩
  have HQQ := Lib.hid hq
  simp only [World.size_alloc, hq] at hf1 hf2
  simp only [hq] at HSB HCB
  have hsr := HH.out.later HBR.out
  have HTAG := Lib.hid (show ∀ k, q ≤ k → G.tag k = .no from fun k hk => HH.out.high k (by omega))
  have HOV := Lib.hid (show ∀ k, G.ov.ownBlock = some k → k < q ∧ G.tag k = .row from fun k hk => ⟨by have := HH.out.tagLt (k := k) (by rw [HH.out.tr k hk]; simp); omega, HH.out.tr k hk⟩)
  have HSR := Lib.hid (show q + 4 ≤ wr.heap.size by have := hf2.lt; omega)
  have HSEQ := Lib.hid (field_seq 8 (by omega) (w := wr) (fun k => G.ov.ownBlock = some k ∨ k = q + 1) (fun _ => False) (fun k hk => by have h1 := HSR.out; rcases hk with hk | rfl; (have := (HOV.out k hk).1; omega); omega) hf1 hf2 hsr HW.out hl hu hol (fun c hc => hc.elim))
  have HI0 : Hid (UntapI S q lo b G w wr [] wr) := Lib.hid ⟨by rw [List.map_nil, freeAll_nil]; exact hsr, HCB.out, KpP.refl _ _ _, Turned.of_below HBR.out, Nat.zero_le _⟩
  clear hf1 hf2 hu hbr HS0 HC0 HFA HBB hsr
  simp only [World.size_alloc, hq]
  gi_wp2_with fail
  refine range_world3 rfl (by omega) (I := UntapI S q lo b G w wr) (Ix := fun _ _ _ => False) (gf := 59) (lb := _) rfl trivial (fun _ _ => by kernel_rfl) HSEQ.out KpP.trans (fun W' o o' ho hc _ => KpP.put o' (.inr rfl) ho hc) (fun W W' hb => KpP.of_below _ _ hb) (Below.refl _ _) (fun _ => rfl)
    (untapI_own HBR.out.size (Nat.le_refl _) (fun k hk => HTAG.out k (by have := HSR.out; omega))) (fun c s A B row hs hg hr => hs) (fun s A B row hs hg hr => hs) (fun s A B row hs hg hr => hs) HI0.out ?round ?done ?stop
  case stop =>
    rintro D c pre W hD hS hI hK
    exact hI.elim
  case round =>
    rintro pre x W K hI hT hsz hK
    obtain ⟨k, hk, hx, hid, hz, n, hcn, hn⟩ := field_mem HW.out hn1 (show x ∈ fieldL S os from hT.subset (by simp))
    have hsn := freeAll_snoc HW.out (pre.map (·.id)) k hk
    have hsk := freeAll_skip HW.out (pre.map (·.id)) k hk
    have hct := untap_cnt pre x
    have hids := untap_id pre x
    rw [← hx] at hsn hsk
    have htl := hT.length_le
    have hxc : x.card = S.objs[k].card := by rw [hx]
    have hxo : x.owner = S.objs[k].owner := by rw [hx]
    have hxz : x.zone = S.objs[k].zone := by rw [hx]
    have hgk := freeAll_get HW.out (pre.map (·.id)) k hk
    have hgc : ((freeAll S (pre.map (·.id))).objs[k]'(by rw [freeAll_len]; exact hk)).card = S.objs[k].card ∧ ((freeAll S (pre.map (·.id))).objs[k]'(by rw [freeAll_len]; exact hk)).owner = S.objs[k].owner ∧ ((freeAll S (pre.map (·.id))).objs[k]'(by rw [freeAll_len]; exact hk)).zone = S.objs[k].zone := by
      rw [hgk]
      split <;> exact ⟨rfl, rfl, rfl⟩
    rw [hid] at hids
    have HST := Lib.hid (fun (W' : World) (hs : StoreAt W' lo b G (freeAll S (pre.map (·.id)))) => set_same hs (by rw [freeAll_len]; exact hl) k (by rw [freeAll_len]; exact hk) (freeO x) hid (hxc.trans hgc.1.symm) (hxo.trans hgc.2.1.symm) (hxz.trans hgc.2.2.symm))
    rw [hsn] at HST
    obtain ⟨x0, x1, x2, x3, x4, x5, x6, x7, x8, x9, x10⟩ := x
    dsimp only at hid hcn hz
    subst hid hcn hz
    have HIDS := Lib.hid hids
    have HSK := Lib.hid hsk
    have HCT := Lib.hid hct
    have HK := Lib.hid hK
    have HTL := Lib.hid (show pre.length + 1 ≤ 1000 from by have := HFL.out; simp at htl; omega)
    have hcl : (pre.filter awayO).length ≤ 1000 := Nat.le_trans (List.length_filter_le _ _) (by have := HTL.out; omega)
    clear hK hT hx hsn hsk hct hids htl hxc hxo hxz hgk hgc hI
    unfold freeO oagg at HST
    dsimp only at HST
    simp only [encO, ocs]
    simp
    gi_wp2
    refine HK.out _ _ (below_new W _) ?_
    clear HK
    intro Wb hsz2 hrest hkw hI0
    have HIU := Lib.hid hI0
    obtain ⟨st0, hc0, kp0, td0, hpl0⟩ := hI0
    have HKB := Lib.hid hkw
    obtain ⟨qo, hqo⟩ : ∃ qo, W.heap.size = qo := ⟨_, rfl⟩
    have HQO := Lib.hid hqo
    have hbx := (hrest W.heap.size (by omega)).trans (heap_alloc_new W _)
    have hbx0 := hbx
    rw [hqo] at hbx hbx0 hsz ⊢
    obtain ⟨o0, o1, o2, o3, o4, o5, o6, o7, o8, o9, o10⟩ := obj_of_row (x := ⟨(k : Int) + 1, n, x2, 3, x4, x5, x6, x7, x8, x9, x10⟩) hbx
    have fo := fun j => frozen_of_row Wb qo j _ _ hbx
    simp only [Nat.zero_add] at o1 o2 o3 o4 o5 o6 o7 o8 o9 o10
    have hsW := box_kept HSB.out kp0 (fun e => by rcases e with e | e; (have := (HOV.out q e).1; omega); omega) ⟨fun e => e, fun _ e => e.elim⟩
    have c2 := hsW.cell
    have c5 := hc0.cell
    have HST0 := Lib.hid st0
    have HC0 := Lib.hid hc0
    have HK0 := Lib.hid kp0
    have HT0 := Lib.hid td0
    have HSW := Lib.hid hsW
    have HSZ := Lib.hid hsz
    have HSZ2 := Lib.hid (show qo < Wb.heap.size by rw [hsz2, World.size_alloc]; omega)
    clear hsz2 hrest hkw hqo hbx hsW st0 hc0 kp0 td0 hpl0
    have HOB := Lib.hid hbx0
    clear hbx0
    by_cases haw : awayO ⟨(k : Int) + 1, n, x2, 3, x4, x5, x6, x7, x8, x9, x10⟩ = true
    · have HCTT := Lib.hid (by have h := HCT.out; rw [if_pos haw] at h; exact h)
      have HSS := Lib.hid (store_setN (j := 5) (store_setN (j := 4) HST0.out (HTAG.out qo (by have := HSR.out; have := HSZ.out; omega)) (.bool false)) (HTAG.out qo (by have := HSR.out; have := HSZ.out; omega)) (.bool false))
      have HST2 := Lib.hid (HST.out _ HSS.out)
      have c2' : ((Wb.setCell ⟨qo, 4, none⟩ (.bool false)).setCell ⟨qo, 5, none⟩ (.bool false)).cell? ⟨q, 0, none⟩ = some (.pointer (some ⟨b, 0, none⟩)) := ((HSW.out.other (j := 4) (show q ≠ qo by have := HSR.out; have := HSZ.out; omega) (.bool false)).other (j := 5) (show q ≠ qo by have := HSR.out; have := HSZ.out; omega) (.bool false)).cell
      clear HCT HSK HST c5
      cases x4 <;> cases x5
      · simp [awayO] at haw
      all_goals
        clear haw
        gi_wp2_with fail
        refine ⟨trivial, (callsIn_wide.2 HST2.out).mono ?_⟩
        rintro e w5 ⟨rfl, hs5, hg5⟩
        have hstep := untap_step (u4 := .bool false) (u5 := .bool false) HIU.out HQQ.out HOV.out (HTAG.out (q + 1) (by omega)) HQO.out HSZ.out HSR.out ⟨_, _, HOB.out⟩ HKB.out hg5 hs5
        have c5 := hstep.1.cell
        have f5 := hstep.1.frozen
        have HSTEP := Lib.hid hstep.2
        clear hs5 hg5 hstep c2 c2' o0 o1 o2 o3 o4 o5 o6 o7 o8 o9 o10 fo
        dsimp only
        gi_wp2
        obtain ⟨s1, s2, s3, s4, s5, s6⟩ := HSTEP.out (.int .i64 ((pre.filter awayO).length + 1))
        rw [← HIDS.out] at s3
        have s7 := congrArg (fun z : Nat => Value.int .i64 (z : Int)) HCTT.out
        rw [show (((pre.filter awayO).length + 1 : Nat) : Int) = ((pre.filter awayO).length : Int) + 1 by omega] at s7
        rw [← s7] at s1 s2 s3 s4 s5 s6
        rw [← s7]
        exact ⟨s1, s2, s3, s4, s5, s6, by rw [List.length_append]; exact HTL.out⟩
    · have HCTT := Lib.hid (by have h := HCT.out; rw [if_neg haw] at h; exact h)
      obtain ⟨rfl, rfl⟩ : x4 = false ∧ x5 = false := by simpa [awayO] using haw
      have HSKK := Lib.hid (HSK.out rfl)
      gi_wp2
      have h1 := HST0.out
      rw [← HSKK.out, ← HIDS.out] at h1
      have h2 := HC0.out
      rw [show ((pre.filter awayO).length : Int) = (((pre.filter awayO).length + 0 : Nat) : Int) by simp, ← HCTT.out] at h2
      exact ⟨(KpP.refl (fun _ => False) (fun _ => False) _).from (fun k e => e.elim), HKB.out, h1, h2, HK0.out, HT0.out, by rw [List.length_append]; exact HTL.out⟩
  case done =>
    rintro D ys W hD hS ⟨st0, hc0, kp0, td0, hpl0⟩ hK
    subst hS
    have c5 := hc0.cell
    have HST0 := Lib.hid st0
    have HT0 := Lib.hid td0
    have HDT := Lib.hid (show G.tag D = .no from HTAG.out D (by have := HSR.out; omega))
    clear st0 hc0 kp0 td0
    gi_wp2
    refine ⟨by simp, .inl ⟨_, _, rfl, run_takeDeferred hK, ?_⟩⟩
    refine ⟨_, results_tmp rfl _ _ _, rfl, G, ?_, ?_⟩
    · refine HST0.out.kept (by simp) fun k hk => World.putObj_heap_other (fun e => hk (by rw [e]; exact HDT.out))
    · exact ⟨⟨HT0.out.chg.os, HT0.out.chg.tape, HT0.out.chg.output, by simpa using HT0.out.chg.size, fun k hk ht => (World.putObj_heap_other (by have := HSR.out; have := HQQ.out; omega)).trans (HT0.out.chg.block k hk ht)⟩, fun _ _ => rfl⟩
set_option maxRecDepth 100000 in
theorem untap_none {p : Option Addr} (xa : Option Addr) (xc : Nat) (w : World) : Calls Tryd.prog 23 #[.pointer p, .slice xa 0 xc] w (RetV w (.int .i64 0)) := by
  go_enter Tryd.func23, Tryd.ntmps23
  go_wp2
  go_ret
  exact ⟨rfl, below_new w _⟩
theorem untap_any {w : World} {lo b : Nat} {G : Ghost} {S : StoreL} {v : Value} {os : List Int} (h : StoreAt w lo b G S) (hS : WfS S) (hl : S.objs.length ≤ 1000) (hv : IntsAt w v os) (hol : os.length ≤ 1000) :
    Calls Tryd.prog 23 #[.pointer (some ⟨b, 0, none⟩), v] w (RetS w lo b G (untapL S os) (.int .i64 (untapN S os))) := by
  by_cases he : os = []
  · subst he
    obtain ⟨va, vc, rfl⟩ := hv.form
    rw [untapL_none, untapN_none]
    refine (untap_none va vc w).mono ?_
    rintro e w' ⟨rfl, hb⟩
    exact ⟨rfl, G, h.later hb, Turned.of_below hb⟩
  · rw [← untap_eq hS h.n1 he, ← untapN_eq hS h.n1 he]
    exact (callsIn_wide (n := 9)).1 (untap_in h hS hl hv hol (List.length_pos_iff.2 he))
def fadeO (o : ObjL) : ObjL := ⟨o.id, o.card, o.owner, o.zone, o.tapped, o.sick, 0, o.count, 0, o.block, o.attacks⟩
def woundO (o : ObjL) : Bool := !(o.hurt == 0 && o.boost == 0)
theorem fadeO_well {o : ObjL} (h : woundO o = false) : fadeO o = o := by
  obtain ⟨x0, x1, x2, x3, x4, x5, x6, x7, x8, x9, x10⟩ := o
  simp [woundO] at h
  obtain ⟨rfl, rfl⟩ := h
  rfl
def fadeAll (S : StoreL) (X : List Int) : StoreL := { S with objs := S.objs.map fun o => if X.contains o.id then fadeO o else o }
theorem fadeAll_nil (S : StoreL) : fadeAll S [] = S := by
  unfold fadeAll
  have : (S.objs.map fun o => if ([] : List Int).contains o.id then fadeO o else o) = S.objs := by simp
  rw [this]
theorem fadeAll_len (S : StoreL) (X : List Int) : (fadeAll S X).objs.length = S.objs.length := by simp [fadeAll]
theorem fadeAll_get {S : StoreL} (h : WfS S) (X : List Int) (k : Nat) (hk : k < S.objs.length) : (fadeAll S X).objs[k]'(by rw [fadeAll_len]; exact hk) = if X.contains ((k : Int) + 1) then fadeO S.objs[k] else S.objs[k] := by
  simp only [fadeAll, List.getElem_map]
  rw [(h.ids k hk).1]
theorem fadeAll_snoc {S : StoreL} (h : WfS S) (X : List Int) (k : Nat) (hk : k < S.objs.length) : setL (fadeAll S X) k (fadeO S.objs[k]) = fadeAll S (X ++ [(k : Int) + 1]) := by
  have e : (fadeAll S X).objs.set k (fadeO S.objs[k]) = (fadeAll S (X ++ [(k : Int) + 1])).objs := by
    refine List.ext_getElem (by simp [fadeAll]) (fun i h1 h2 => ?_)
    have hi : i < S.objs.length := by rw [fadeAll_len] at h2; exact h2
    rw [List.getElem_set]
    by_cases e : k = i
    · subst e
      rw [if_pos rfl, fadeAll_get h _ k hk, List.contains_append]
      have : ([(k : Int) + 1] : List Int).contains ((k : Int) + 1) = true := by simp
      rw [this, Bool.or_true, if_pos rfl]
    · rw [if_neg e, fadeAll_get h X i hi, fadeAll_get h _ i hi, List.contains_append]
      have : ([(k : Int) + 1] : List Int).contains ((i : Int) + 1) = false := by simp; omega
      rw [this, Bool.or_false]
  unfold setL
  rw [e]
  rfl
theorem fadeAll_skip {S : StoreL} (h : WfS S) (X : List Int) (k : Nat) (hk : k < S.objs.length) (hw : woundO S.objs[k] = false) : fadeAll S (X ++ [(k : Int) + 1]) = fadeAll S X := by
  have e : (fadeAll S (X ++ [(k : Int) + 1])).objs = (fadeAll S X).objs := by
    refine List.ext_getElem (by simp [fadeAll]) (fun i h1 h2 => ?_)
    have hi : i < S.objs.length := by rw [fadeAll_len] at h2; exact h2
    rw [fadeAll_get h X i hi, fadeAll_get h _ i hi, List.contains_append]
    by_cases e : k = i
    · subst e
      rw [fadeO_well hw]
      split <;> split <;> rfl
    · have : ([(k : Int) + 1] : List Int).contains ((i : Int) + 1) = false := by simp; omega
      rw [this, Bool.or_false]
  show ({ S with objs := (fadeAll S (X ++ [(k : Int) + 1])).objs } : StoreL) = _
  rw [e]
  rfl
def onF (o : ObjL) : Bool := o.zone == 3
def fadeL (S : StoreL) : StoreL := { S with objs := S.objs.map fun o => if onF o then fadeO o else o }
def fadeN (S : StoreL) : Nat := (S.objs.filter fun o => onF o && woundO o).length
theorem field_permF {S : StoreL} (h : WfS S) (hn : 1 ≤ S.seats) : (fieldL S []).Perm (S.objs.filter onF) := by
  have ok : okK S.seats 0 3 := ⟨by omega, by decide, by decide, fun _ => rfl⟩
  have hself : ∀ k (hk : k < S.objs.length), objOf S ((k : Int) + 1) = S.objs[k] := fun k hk => objOf_at hk
  have e2 : S.objs.filter onF = ((S.objs.filter onF).map (·.id)).map (objOf S) := by
    rw [List.map_map]
    conv => lhs; rw [← List.map_id (S.objs.filter onF)]
    refine List.map_congr_left (fun o hm => ?_)
    obtain ⟨k, hk, rfl⟩ := List.getElem_of_mem (List.mem_filter.1 hm).1
    show S.objs[k] = objOf S S.objs[k].id
    rw [(h.ids k hk).1, hself k hk]
  rw [field_eq, e2]
  refine List.Perm.map _ ?_
  have hnd : ((S.objs.filter onF).map (·.id)).Nodup := by
    unfold List.Nodup
    rw [List.pairwise_map]
    refine List.Pairwise.filter _ ?_
    rw [List.pairwise_iff_getElem]
    intro i j hi hj hij
    rw [(h.ids i hi).1, (h.ids j hj).1]
    omega
  rw [List.perm_ext_iff_of_nodup ((h.nodup 0 3 ok).filter _) hnd]
  intro i
  rw [List.mem_filter, List.mem_map]
  constructor
  · rintro ⟨hi, _⟩
    obtain ⟨k, hk, e, hoo, hz⟩ := h.onField hn hi
    refine ⟨S.objs[k], List.mem_filter.2 ⟨List.getElem_mem hk, ?_⟩, by rw [(h.ids k hk).1, e]⟩
    unfold onF
    rw [hz]
    rfl
  · rintro ⟨o, hm, rfl⟩
    obtain ⟨hm, hb⟩ := List.mem_filter.1 hm
    obtain ⟨k, hk, rfl⟩ := List.getElem_of_mem hm
    unfold onF at hb
    have hz : S.objs[k].zone = 3 := by simpa using hb
    refine ⟨(h.mem 0 3 ok _).2 ⟨k, hk, (h.ids k hk).1, by unfold keyS canN; rw [hz]; rfl, by rw [hz]; rfl⟩, ?_⟩
    rfl
theorem fade_eq {S : StoreL} (h : WfS S) (hn : 1 ≤ S.seats) : fadeAll S ((fieldL S []).map (·.id)) = fadeL S := by
  have hp := field_permF h hn
  have e : (fadeAll S ((fieldL S []).map (·.id))).objs = (fadeL S).objs := by
    unfold fadeAll fadeL
    dsimp only
    refine List.map_congr_left (fun o hm => ?_)
    have : ((fieldL S []).map (·.id)).contains o.id = onF o := by
      obtain ⟨k, hk, rfl⟩ := List.getElem_of_mem hm
      rw [Bool.eq_iff_iff, List.contains_iff_mem, List.mem_map]
      constructor
      · rintro ⟨y, hy, e⟩
        obtain ⟨hy1, hy2⟩ := List.mem_filter.1 (hp.subset hy)
        obtain ⟨j, hj, rfl⟩ := List.getElem_of_mem hy1
        rw [(h.ids j hj).1, (h.ids k hk).1] at e
        obtain rfl : j = k := by omega
        exact hy2
      · intro hb
        exact ⟨S.objs[k], hp.symm.subset (List.mem_filter.2 ⟨hm, hb⟩), rfl⟩
    rw [this]
  show ({ S with objs := (fadeAll S ((fieldL S []).map (·.id))).objs } : StoreL) = _
  rw [e]
  rfl
theorem fadeN_eq {S : StoreL} (h : WfS S) (hn : 1 ≤ S.seats) : ((fieldL S []).filter woundO).length = fadeN S := by
  rw [((field_permF h hn).filter woundO).length_eq, List.filter_filter]
  unfold fadeN
  congr 1
  refine List.filter_congr (fun o _ => ?_)
  rw [Bool.and_comm]
def FadeI (S : StoreL) (q lo b : Nat) (G : Ghost) (A Wr : World) (pre : List ObjL) (W : World) : Prop :=
  StoreAt W lo b G (fadeAll S (pre.map (·.id))) ∧ HdAt W (q + 1) (.int .i64 (pre.filter woundO).length) ∧ KpP (fun k => G.ov.ownBlock = some k ∨ k = q + 1) (fun _ => False) Wr W ∧ Turned A W G G ∧ pre.length ≤ 1000
theorem fadeI_own {S : StoreL} {q lo b B : Nat} {G : Ghost} {A Wr : World} (hA : A.heap.size ≤ B) (hB : Wr.heap.size ≤ B) (hG : ∀ k, B ≤ k → G.tag k = .no) : OwnFrom B (FadeI S q lo b G A Wr) := by
  rintro s X Y row ⟨h1, h2, h3, h4, h5⟩ hg hr
  have hr' : ∀ r, row = some r → ∃ o : Obj, X.heap[r]? = some o ∧ o.isCells = false := fun r e => (hr r e).2
  refine ⟨h1.kept hg.size fun k hk => hg.block k (h1.tagLt hk) (fun e => hk (hG k (hr k e.symm).1)), h2.grown hg hr', kpP_own (β := Unit) hB () X Y row h3 hg hr, ⟨⟨hg.os.trans h4.chg.os, hg.tape.trans h4.chg.tape, hg.output.trans h4.chg.output, Nat.le_trans h4.chg.size hg.size, fun k hk ht => ?_⟩, fun _ _ => rfl⟩, h5⟩
  exact (hg.block k (Nat.lt_of_lt_of_le hk h4.chg.size) (fun e => by have := (hr k e.symm).1; omega)).trans (h4.chg.block k hk ht)
theorem fade_id (pre : List ObjL) (x : ObjL) : (pre ++ [x]).map (·.id) = pre.map (·.id) ++ [x.id] := by simp
theorem fade_cnt (pre : List ObjL) (x : ObjL) : ((pre ++ [x]).filter woundO).length = (pre.filter woundO).length + (if woundO x then 1 else 0) := by
  rw [List.filter_append, List.length_append]
  by_cases h : woundO x = true
  · simp [h]
  · simp [h]
theorem fade_step {S S' : StoreL} {q lo b l qo : Nat} {G : Ghost} {A Wr W Wb w5 : World} {pre : List ObjL} {u4 u5 : Value} (hI : FadeI S q lo b G A Wr pre Wb) (hq : A.heap.size = q) (hov : ∀ k, G.ov.ownBlock = some k → k < q ∧ G.tag k = .row) (htag : G.tag (q + 1) = .no)
    (hqo : W.heap.size = qo) (hwr : Wr.heap.size + 1 < qo) (hq4 : q + 4 ≤ Wr.heap.size) (hob : ∃ C t, Wb.heap[qo]? = some (.cells C t (0, 0))) (hkw : KpP (fun k => (G.ov.ownBlock = some k ∨ k = q + 1) ∨ k = l) (fun _ => False) W Wb)
    (hg : ((Wb.setCell ⟨qo, 6, none⟩ u4).setCell ⟨qo, 8, none⟩ u5).grownBy w5 G.ov.ownBlock) (hs : StoreAt w5 lo b G S') :
    HdAt w5 (q + 1) (.int .i64 (pre.filter woundO).length) ∧ ∀ u, KeepsFrom Wr.heap.size Wb (w5.setCell ⟨q + 1, 0, none⟩ u) ∧ KpP (fun k => (G.ov.ownBlock = some k ∨ k = q + 1) ∨ k = l) (fun _ => False) W (w5.setCell ⟨q + 1, 0, none⟩ u) ∧
      StoreAt (w5.setCell ⟨q + 1, 0, none⟩ u) lo b G S' ∧ HdAt (w5.setCell ⟨q + 1, 0, none⟩ u) (q + 1) u ∧ KpP (fun k => G.ov.ownBlock = some k ∨ k = q + 1) (fun _ => False) Wr (w5.setCell ⟨q + 1, 0, none⟩ u) ∧ Turned A (w5.setCell ⟨q + 1, 0, none⟩ u) G G := by
  obtain ⟨st0, hc0, kp0, td0, _⟩ := hI
  obtain ⟨C, t, hob⟩ := hob
  have hsz : Wb.heap.size ≤ w5.heap.size := by have := hg.size; simpa using this
  have keep : ∀ k, k < Wb.heap.size → k ≠ qo → G.ov.ownBlock ≠ some k → w5.heap[k]? = Wb.heap[k]? := fun k hk h1 h2 => by
    rw [hg.block k (by simpa using hk) (fun e => h2 e.symm), heap_setCell_other _ ⟨qo, 8, none⟩ k u5 h1, heap_setCell_other _ ⟨qo, 6, none⟩ k u4 h1]
  have hd5 : HdAt w5 (q + 1) (.int .i64 (pre.filter woundO).length) := hc0.of (keep _ hc0.lt (by omega) (fun e => by have := (hov _ e).1; omega))
  refine ⟨hd5, fun u => ?_⟩
  have keep6 : ∀ k, k < Wb.heap.size → k ≠ qo → G.ov.ownBlock ≠ some k → k ≠ q + 1 → (w5.setCell ⟨q + 1, 0, none⟩ u).heap[k]? = Wb.heap[k]? := fun k hk h1 h2 h3 =>
    (heap_setCell_other w5 ⟨q + 1, 0, none⟩ k u h3).trans (keep k hk h1 h2)
  have hlt : ∀ {X : World} {k : Nat} {o : Obj}, X.heap[k]? = some o → k < X.heap.size := fun h => (Array.getElem?_eq_some_iff.1 h).1
  refine ⟨⟨by simpa using hsz, fun k o hB ho hc => ?_⟩, ⟨by have := hkw.size; simp; omega, fun k o ho hE hO => ?_, fun _ _ e => e.elim⟩, store_setN hs htag u, hd5.set u, ⟨by have := kp0.size; simp; omega, fun k o ho hE hO => ?_, fun _ _ e => e.elim⟩, ⟨⟨?_, ?_, ?_, by have := td0.chg.size; simp; omega, fun k hk ht => ?_⟩, fun _ _ => rfl⟩⟩
  · refine (keep6 k (hlt ho) (fun e => ?_) (fun e => ?_) (by omega)).trans ho
    · rw [e, hob] at ho; injection ho with ho; rw [← ho] at hc; simp [Obj.isCells] at hc
    · have := (hov k e).1; omega
  · have h1 := hkw.rest k o ho hE (fun _ => ⟨fun e => e, fun _ e => e.elim⟩)
    have := hlt ho
    exact (keep6 k (hlt h1) (by omega) (fun e => hE (.inl (.inl e))) (fun e => hE (.inl (.inr e)))).trans h1
  · have h1 := kp0.rest k o ho hE (fun _ => ⟨fun e => e, fun _ e => e.elim⟩)
    have := hlt ho
    exact (keep6 k (hlt h1) (by omega) (fun e => hE (.inl e)) (fun e => hE (.inr e))).trans h1
  · exact (show w5.os = Wb.os from hg.os).trans td0.chg.os
  · exact (show w5.tape = Wb.tape from hg.tape).trans td0.chg.tape
  · exact (show w5.output = Wb.output from hg.output).trans td0.chg.output
  · have := kp0.size
    refine (keep6 k (by omega) (by omega) (fun e => ?_) (by omega)).trans (td0.chg.block k hk ht)
    rw [(hov k e).2] at ht
    simp at ht
theorem nil_ints (w : World) : IntsAt w (.slice none 0 0) [] := .inl ⟨none, 0, rfl, rfl⟩
set_option maxRecDepth 100000 in
set_option maxHeartbeats 4000000 in
theorem fade_in {w : World} {lo b : Nat} {G : Ghost} {S : StoreL} (h : StoreAt w lo b G S) (hS : WfS S) (hl : S.objs.length ≤ 1000) :
    CallsIn Fence.wide 9 Tryd.prog 45 #[.pointer (some ⟨b, 0, none⟩)] w (RetS w lo b G (fadeAll S ((fieldL S []).map (·.id))) (.int .i64 ((fieldL S []).filter woundO).length)) := by
  have hn1 := h.n1
  have HFL := Lib.hid (fieldL_len hS hl hn1 [])
  have HH := Lib.hid h
  have HW := Lib.hid hS
  have hb1 := below_new w (.cells #[.pointer (some ⟨b, 0, none⟩)] 43)
  have hb2 := below_new (w.alloc (.cells #[.pointer (some ⟨b, 0, none⟩)] 43)) (.cells #[.int .i64 0] 3)
  have hs0 := (HdAt.new w (.pointer (some ⟨b, 0, none⟩)) 43).later hb2
  have hc0 := HdAt.new (w.alloc (.cells #[.pointer (some ⟨b, 0, none⟩)] 43)) (.int .i64 0) 3
  have hbb := stepB hb1 hb2
  simp only [World.size_alloc] at hc0
  have HFA := Lib.hid (field_any (some ⟨b, 0, none⟩) ((nil_ints w).later hbb) (by decide))
  have HS0 := Lib.hid hs0
  have HC0 := Lib.hid hc0
  have HBB := Lib.hid hbb
  clear hb1 hb2 hs0 hc0 hbb h hS
  refine callsIn_of_wp_marks Tryd.func45 rfl trivial ?_ rfl
  simp only [Tryd.ntmps45, List.size_toArray, List.length_cons, List.length_nil, Nat.reduceAdd, Nat.reduceSub, Array.replicate_succ, Array.replicate_zero, List.push_toArray, List.append_toArray, List.nil_append, List.cons_append]
  gi_wp2_with fail
  refine ⟨trivial, (callsIn_wide.2 HFA.out).mono ?_⟩
  rintro e wr ⟨rfl, hf1, ⟨u, hf2, hu⟩, hbr⟩
  have HBR := Lib.hid (stepB HBB.out hbr)
  have HSB := Lib.hid (HS0.out.later hbr)
  have HCB := Lib.hid (HC0.out.later hbr)
  obtain ⟨q, hq⟩ : ∃ q, w.heap.size = q := ⟨_, rfl⟩
  have HQQ := Lib.hid hq
  simp only [World.size_alloc, hq] at hf1 hf2
  simp only [hq] at HSB HCB
  have hsr := HH.out.later HBR.out
  have HTAG := Lib.hid (show ∀ k, q ≤ k → G.tag k = .no from fun k hk => HH.out.high k (by omega))
  have HOV := Lib.hid (show ∀ k, G.ov.ownBlock = some k → k < q ∧ G.tag k = .row from fun k hk => ⟨by have := HH.out.tagLt (k := k) (by rw [HH.out.tr k hk]; simp); omega, HH.out.tr k hk⟩)
  have HSR := Lib.hid (show q + 4 ≤ wr.heap.size by have := hf2.lt; omega)
  have HSEQ := Lib.hid (field_seq 8 (by omega) (w := wr) (fun k => G.ov.ownBlock = some k ∨ k = q + 1) (fun _ => False) (fun k hk => by have h1 := HSR.out; rcases hk with hk | rfl; (have := (HOV.out k hk).1; omega); omega) hf1 hf2 hsr HW.out hl hu (by decide) (fun c hc => hc.elim))
  have HI0 : Hid (FadeI S q lo b G w wr [] wr) := Lib.hid ⟨by rw [List.map_nil, fadeAll_nil]; exact hsr, HCB.out, KpP.refl _ _ _, Turned.of_below HBR.out, Nat.zero_le _⟩
  clear hf1 hf2 hu hbr HS0 HC0 HFA HBB hsr
  simp only [World.size_alloc, hq]
  gi_wp2_with fail
  refine range_world3 rfl (by omega) (I := FadeI S q lo b G w wr) (Ix := fun _ _ _ => False) (gf := 59) (lb := _) rfl trivial (fun _ _ => by kernel_rfl) HSEQ.out KpP.trans (fun W' o o' ho hc _ => KpP.put o' (.inr rfl) ho hc) (fun W W' hb => KpP.of_below _ _ hb) (Below.refl _ _) (fun _ => rfl)
    (fadeI_own HBR.out.size (Nat.le_refl _) (fun k hk => HTAG.out k (by have := HSR.out; omega))) (fun c s A B row hs hg hr => hs) (fun s A B row hs hg hr => hs) (fun s A B row hs hg hr => hs) HI0.out ?round ?done ?stop
  case stop =>
    rintro D c pre W hD hS hI hK
    exact hI.elim
  case round =>
    rintro pre x W K hI hT hsz hK
    obtain ⟨k, hk, hx, hid, hz, n, hcn, hn⟩ := field_mem HW.out hn1 (show x ∈ fieldL S [] from hT.subset (by simp))
    have hsn := fadeAll_snoc HW.out (pre.map (·.id)) k hk
    have hsk := fadeAll_skip HW.out (pre.map (·.id)) k hk
    have hct := fade_cnt pre x
    have hids := fade_id pre x
    rw [← hx] at hsn hsk
    have htl := hT.length_le
    have hxc : x.card = S.objs[k].card := by rw [hx]
    have hxo : x.owner = S.objs[k].owner := by rw [hx]
    have hxz : x.zone = S.objs[k].zone := by rw [hx]
    have hgk := fadeAll_get HW.out (pre.map (·.id)) k hk
    have hgc : ((fadeAll S (pre.map (·.id))).objs[k]'(by rw [fadeAll_len]; exact hk)).card = S.objs[k].card ∧ ((fadeAll S (pre.map (·.id))).objs[k]'(by rw [fadeAll_len]; exact hk)).owner = S.objs[k].owner ∧ ((fadeAll S (pre.map (·.id))).objs[k]'(by rw [fadeAll_len]; exact hk)).zone = S.objs[k].zone := by
      rw [hgk]
      split <;> exact ⟨rfl, rfl, rfl⟩
    rw [hid] at hids
    have HST := Lib.hid (fun (W' : World) (hs : StoreAt W' lo b G (fadeAll S (pre.map (·.id)))) => set_same hs (by rw [fadeAll_len]; exact hl) k (by rw [fadeAll_len]; exact hk) (fadeO x) hid (hxc.trans hgc.1.symm) (hxo.trans hgc.2.1.symm) (hxz.trans hgc.2.2.symm))
    rw [hsn] at HST
    obtain ⟨x0, x1, x2, x3, x4, x5, x6, x7, x8, x9, x10⟩ := x
    dsimp only at hid hcn hz
    subst hid hcn hz
    have HIDS := Lib.hid hids
    have HSK := Lib.hid hsk
    have HCT := Lib.hid hct
    have HK := Lib.hid hK
    have HTL := Lib.hid (show pre.length + 1 ≤ 1000 from by have := HFL.out; simp at htl; omega)
    have hcl : (pre.filter woundO).length ≤ 1000 := Nat.le_trans (List.length_filter_le _ _) (by have := HTL.out; omega)
    clear hK hT hx hsn hsk hct hids htl hxc hxo hxz hgk hgc hI
    unfold fadeO oagg at HST
    dsimp only at HST
    simp only [encO, ocs]
    simp
    gi_wp2
    refine HK.out _ _ (below_new W _) ?_
    clear HK
    intro Wb hsz2 hrest hkw hI0
    have HIU := Lib.hid hI0
    obtain ⟨st0, hc0, kp0, td0, hpl0⟩ := hI0
    have HKB := Lib.hid hkw
    obtain ⟨qo, hqo⟩ : ∃ qo, W.heap.size = qo := ⟨_, rfl⟩
    have HQO := Lib.hid hqo
    have hbx := (hrest W.heap.size (by omega)).trans (heap_alloc_new W _)
    have hbx0 := hbx
    rw [hqo] at hbx hbx0 hsz ⊢
    obtain ⟨o0, o1, o2, o3, o4, o5, o6, o7, o8, o9, o10⟩ := obj_of_row (x := ⟨(k : Int) + 1, n, x2, 3, x4, x5, x6, x7, x8, x9, x10⟩) hbx
    have fo := fun j => frozen_of_row Wb qo j _ _ hbx
    simp only [Nat.zero_add] at o1 o2 o3 o4 o5 o6 o7 o8 o9 o10
    have hsW := box_kept HSB.out kp0 (fun e => by rcases e with e | e; (have := (HOV.out q e).1; omega); omega) ⟨fun e => e, fun _ e => e.elim⟩
    have c2 := hsW.cell
    have c5 := hc0.cell
    have HST0 := Lib.hid st0
    have HC0 := Lib.hid hc0
    have HK0 := Lib.hid kp0
    have HT0 := Lib.hid td0
    have HSW := Lib.hid hsW
    have HSZ := Lib.hid hsz
    have HSZ2 := Lib.hid (show qo < Wb.heap.size by rw [hsz2, World.size_alloc]; omega)
    clear hsz2 hrest hkw hqo hbx hsW st0 hc0 kp0 td0 hpl0
    have HOB := Lib.hid hbx0
    clear hbx0
    by_cases haw : woundO ⟨(k : Int) + 1, n, x2, 3, x4, x5, x6, x7, x8, x9, x10⟩ = true
    · have HCTT := Lib.hid (by have h := HCT.out; rw [if_pos haw] at h; exact h)
      have HSS := Lib.hid (store_setN (j := 8) (store_setN (j := 6) HST0.out (HTAG.out qo (by have := HSR.out; have := HSZ.out; omega)) (.int .i64 0)) (HTAG.out qo (by have := HSR.out; have := HSZ.out; omega)) (.int .i64 0))
      have HST2 := Lib.hid (HST.out _ HSS.out)
      have c2' : ((Wb.setCell ⟨qo, 6, none⟩ (.int .i64 0)).setCell ⟨qo, 8, none⟩ (.int .i64 0)).cell? ⟨q, 0, none⟩ = some (.pointer (some ⟨b, 0, none⟩)) := ((HSW.out.other (j := 6) (show q ≠ qo by have := HSR.out; have := HSZ.out; omega) (.int .i64 0)).other (j := 8) (show q ≠ qo by have := HSR.out; have := HSZ.out; omega) (.int .i64 0)).cell
      clear HCT HSK HST c5
      by_cases h6 : x6 = 0
      · subst h6
        have h8 : (x8 == 0) = false := by simpa [woundO] using haw
        have h66 : ((0 : Int) == 0) = true := rfl
        clear haw
        gi_wp2_with fail
        refine ⟨trivial, (callsIn_wide.2 HST2.out).mono ?_⟩
        rintro e w5 ⟨rfl, hs5, hg5⟩
        have hstep := fade_step (u4 := .int .i64 0) (u5 := .int .i64 0) HIU.out HQQ.out HOV.out (HTAG.out (q + 1) (by omega)) HQO.out HSZ.out HSR.out ⟨_, _, HOB.out⟩ HKB.out hg5 hs5
        have c5 := hstep.1.cell
        have f5 := hstep.1.frozen
        have HSTEP := Lib.hid hstep.2
        clear hs5 hg5 hstep c2 c2' o0 o1 o2 o3 o4 o5 o6 o7 o8 o9 o10 fo
        dsimp only
        gi_wp2
        obtain ⟨s1, s2, s3, s4, s5, s6⟩ := HSTEP.out (.int .i64 ((pre.filter woundO).length + 1))
        rw [← HIDS.out] at s3
        have s7 := congrArg (fun z : Nat => Value.int .i64 (z : Int)) HCTT.out
        rw [show (((pre.filter woundO).length + 1 : Nat) : Int) = ((pre.filter woundO).length : Int) + 1 by omega] at s7
        rw [← s7] at s1 s2 s3 s4 s5 s6
        rw [← s7]
        exact ⟨s1, s2, s3, s4, s5, s6, by rw [List.length_append]; exact HTL.out⟩
      · have h66 : (x6 == 0) = false := beq_eq_false_iff_ne.2 h6
        clear h6
        clear haw
        gi_wp2_with fail
        refine ⟨trivial, (callsIn_wide.2 HST2.out).mono ?_⟩
        rintro e w5 ⟨rfl, hs5, hg5⟩
        have hstep := fade_step (u4 := .int .i64 0) (u5 := .int .i64 0) HIU.out HQQ.out HOV.out (HTAG.out (q + 1) (by omega)) HQO.out HSZ.out HSR.out ⟨_, _, HOB.out⟩ HKB.out hg5 hs5
        have c5 := hstep.1.cell
        have f5 := hstep.1.frozen
        have HSTEP := Lib.hid hstep.2
        clear hs5 hg5 hstep c2 c2' o0 o1 o2 o3 o4 o5 o6 o7 o8 o9 o10 fo
        dsimp only
        gi_wp2
        obtain ⟨s1, s2, s3, s4, s5, s6⟩ := HSTEP.out (.int .i64 ((pre.filter woundO).length + 1))
        rw [← HIDS.out] at s3
        have s7 := congrArg (fun z : Nat => Value.int .i64 (z : Int)) HCTT.out
        rw [show (((pre.filter woundO).length + 1 : Nat) : Int) = ((pre.filter woundO).length : Int) + 1 by omega] at s7
        rw [← s7] at s1 s2 s3 s4 s5 s6
        rw [← s7]
        exact ⟨s1, s2, s3, s4, s5, s6, by rw [List.length_append]; exact HTL.out⟩
    · have HCTT := Lib.hid (by have h := HCT.out; rw [if_neg haw] at h; exact h)
      obtain ⟨rfl, rfl⟩ : x6 = 0 ∧ x8 = 0 := by simpa [woundO] using haw
      have HSKK := Lib.hid (HSK.out rfl)
      gi_wp2
      have h1 := HST0.out
      rw [← HSKK.out, ← HIDS.out] at h1
      have h2 := HC0.out
      rw [show ((pre.filter woundO).length : Int) = (((pre.filter woundO).length + 0 : Nat) : Int) by simp, ← HCTT.out] at h2
      exact ⟨(KpP.refl (fun _ => False) (fun _ => False) _).from (fun k e => e.elim), HKB.out, h1, h2, HK0.out, HT0.out, by rw [List.length_append]; exact HTL.out⟩
  case done =>
    rintro D ys W hD hS ⟨st0, hc0, kp0, td0, hpl0⟩ hK
    subst hS
    have c5 := hc0.cell
    have HST0 := Lib.hid st0
    have HT0 := Lib.hid td0
    have HDT := Lib.hid (show G.tag D = .no from HTAG.out D (by have := HSR.out; omega))
    clear st0 hc0 kp0 td0
    gi_wp2
    refine ⟨by simp, .inl ⟨_, _, rfl, run_takeDeferred hK, ?_⟩⟩
    refine ⟨_, results_tmp rfl _ _ _, rfl, G, ?_, ?_⟩
    · refine HST0.out.kept (by simp) fun k hk => World.putObj_heap_other (fun e => hk (by rw [e]; exact HDT.out))
    · exact ⟨⟨HT0.out.chg.os, HT0.out.chg.tape, HT0.out.chg.output, by simpa using HT0.out.chg.size, fun k hk ht => (World.putObj_heap_other (by have := HSR.out; have := HQQ.out; omega)).trans (HT0.out.chg.block k hk ht)⟩, fun _ _ => rfl⟩
theorem fade_any {w : World} {lo b : Nat} {G : Ghost} {S : StoreL} (h : StoreAt w lo b G S) (hS : WfS S) (hl : S.objs.length ≤ 1000) :
    Calls Tryd.prog 45 #[.pointer (some ⟨b, 0, none⟩)] w (RetS w lo b G (fadeL S) (.int .i64 (fadeN S))) := by
  rw [← fade_eq hS h.n1, ← fadeN_eq hS h.n1]
  exact (callsIn_wide (n := 9)).1 (fade_in h hS hl)
def nextN (T : TeamL) (j : Nat) : Nat := ((List.range T.sh.length).find? fun n => !lostT T ((j + 1 + n) % T.sh.length : Nat)).elim j fun n => (j + 1 + n) % T.sh.length
def nextT (T : TeamL) (k : Int) : Int := if inT T k then (nextN T k.toNat : Int) else -1
theorem find_no {p : Nat → Bool} {m : Nat} (h : ∀ n < m, p n = false) : (List.range m).find? p = none := by
  rw [List.find?_eq_none]
  intro x hx
  simp [h x (List.mem_range.1 hx)]
theorem find_at {p : Nat → Bool} {m k : Nat} (hk : k < m) (h : ∀ n < k, p n = false) (hp : p k = true) : (List.range m).find? p = some k := by
  rw [List.find?_eq_some_iff_append]
  refine ⟨hp, List.range k, (List.range (m - k - 1)).map (· + (k + 1)), ?_, fun a ha => by simp [h a (List.mem_range.1 ha)]⟩
  obtain ⟨d, rfl⟩ : ∃ d, m = k + 1 + d := ⟨m - k - 1, by omega⟩
  rw [show k + 1 + d - k - 1 = d by omega, List.range_add, List.range_succ, List.append_assoc]
  simp [Nat.add_comm]
set_option maxRecDepth 100000 in
set_option maxHeartbeats 4000000 in
theorem tnext_any {w : World} {lo b s r : Nat} {T : TeamL} (h : TeamAt w lo b s r T) (k : Int) : Calls Tryd.prog 21 #[.pointer (some ⟨b, 0, none⟩), .int .i64 k] w (Same w (.int .i64 (nextT T k))) := by
  have HI := Lib.hid (thas_any h k)
  cases hi : inT T k with
  | false =>
    have e : nextT T k = -1 := by simp [nextT, hi]
    rw [hi] at HI
    rw [e]
    clear h hi e
    go_enter Tryd.func21, Tryd.ntmps21
    go_wp2_with fail
    refine HI.out.mono ?_
    rintro e w1 ⟨rfl, rfl⟩
    go_wp2
    go_ret
    exact ⟨rfl, rfl⟩
  | true =>
    obtain ⟨j, rfl, hj⟩ := in_nat hi
    rw [hi] at HI
    have e : nextT T j = nextN T j := by rw [nextT, if_pos hi, Int.toNat_natCast]
    obtain ⟨z, hz⟩ : ∃ z, nextN T j = z := ⟨_, rfl⟩
    rw [e, hz]
    unfold nextN at hz
    obtain ⟨m, hm⟩ : ∃ m, T.sh.length = m := ⟨_, rfl⟩
    have h2 : m ≤ 4 := by rw [← hm]; exact h.n2
    have HL := Lib.hid (tlen_any h)
    have HO := Lib.hid (fun x : Nat => show Calls Tryd.prog 41 #[.pointer (some ⟨b, 0, none⟩), .int .i64 (((j : Int) + 1 + x) % m)] w (Same w (.bool (lostT T ((j + 1 + x) % m : Nat)))) from by
      have := tlost_any h ((j + 1 + x) % m : Nat)
      rwa [show (((j + 1 + x) % m : Nat) : Int) = ((j : Int) + 1 + x) % m by push_cast; rfl] at this ⊢)
    rw [hm] at HL hj hz
    have HZ := Lib.hid hz
    clear h hi e hm hz
    go_enter Tryd.func21, Tryd.ntmps21
    go_wp2_with fail
    refine HI.out.mono ?_
    rintro e w1 ⟨rfl, rfl⟩
    go_wp2_with fail
    refine HL.out.mono ?_
    rintro e w2 ⟨rfl, rfl⟩
    go_wp2
    go_loop [13] (fun i => ∃ k : Nat, k ≤ m ∧ i = .int .i64 k ∧ Hid (∀ n < k, (!lostT T ((j + 1 + n) % m : Nat)) = false)) (fun i => m - (intOf i).toNat)
    case atStart => exact ⟨0, Nat.zero_le _, rfl, Lib.hid (fun n hn => by omega)⟩
    case round =>
      obtain ⟨k, hk, rfl, HN⟩ := hrel
      by_cases hlt : k < m
      · have d0 : decide ((k : Int) < m) = true := decide_eq_true (by omega)
        have hmz : (m : Int) ≠ 0 := by omega
        have HC := Lib.hid (HO.out k)
        cases hb : lostT T ((j + 1 + k) % m : Nat) with
        | true =>
          have HN2 := Lib.hid (show ∀ n < k + 1, (!lostT T ((j + 1 + n) % m : Nat)) = false from fun n hn => by
            by_cases hnk : n < k
            · exact HN.out n hnk
            · obtain rfl : n = k := by omega
              rw [hb]; rfl)
          rw [hb] at HC
          clear hb
          go_wp2_with fail
          refine HL.out.mono ?_
          rintro e w3 ⟨rfl, rfl⟩
          go_wp2_with fail
          refine HC.out.mono ?_
          rintro e w4 ⟨rfl, rfl⟩
          go_wp2
          go_round
          case rel => exact ⟨k + 1, by omega, by go_num, HN2⟩
          case measure => simp [intOf]; omega
        | false =>
          have HF := Lib.hid (find_at (p := fun n => !lostT T ((j + 1 + n) % m : Nat)) hlt HN.out (by rw [hb]; rfl))
          rw [hb] at HC
          clear hb
          go_wp2_with fail
          refine HL.out.mono ?_
          rintro e w3 ⟨rfl, rfl⟩
          go_wp2_with fail
          refine HC.out.mono ?_
          rintro e w4 ⟨rfl, rfl⟩
          go_wp2
          go_ret
          exact ⟨ret_int (by rw [← HZ.out, HF.out]; show _ = (((j + 1 + k) % m : Nat) : Int); push_cast; rfl), rfl⟩
      · obtain rfl : k = m := by omega
        have HF := Lib.hid (find_no HN.out)
        go_wp2
        go_ret
        exact ⟨ret_int (by rw [← HZ.out, HF.out]; rfl), rfl⟩
end Go.Proofs.YtdlkdilgjmmlaaaDoor
